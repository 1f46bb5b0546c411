import PyProof.Rows.All
import Wide.All
import OpenK.AllK
import Wide.FinOn
import HandS.ListItems
import HandS.DictComp
import HandS.WordsExc
import HandS.RaiseMore
import HandS.ExcValue
import HandS.TryOnly
import HandS.Deep
import HandS.Star
import HandS.Conv
import HandS.More
import HandS.TryMany
import HandS.Finally
import HandS.Lambda
import HandS.EndTab
import HandS.Base
import HandS.Call
import HandS.List
import HandS.Comp
import HandS.Ends
import HandS.Dict
import HandS.Iter
import HandS.Text
import PyProof.ReprRoads
import HandS.Words
import HandS.IsInst
import HandS.Wide
import HandS.Style
import HandS.Flow
import HandS.Walk
import HandS.Codes
import HandS.WordsList
import HandS.WordsDict
import PyProof.StrLawsRepr
import PyProof.ReprLen
import PyProof.Rows.RegStrFacts
import HandS.TupAny
import PyProof.Rows.StrCase
import PyProof.Rows.ReprOcc
import HandS.Exc
import HandS.ExcOwn
import HandS.Defaults
import HandS.ExcInit
import HandS.ExcIs
import HandS.ExcField
import HandS.FStr
import HandS.MakeKw
import KE.KExcIs
import HandS.Small
import HandS.ClsMeth
import PyProof.ReprDict
import HandS.DeepEq
import HandS.OwnEq
import PyProof.NeData
import HandS.TupMul
import PySem.Challenge.RW_runlore_k05_places_of_inputs
set_option Elab.async false
set_option linter.all false
set_option maxRecDepth 100000
set_option exponentiation.threshold 2000
namespace Rl
open PySem PySem.Spec PyProof.Rows L2
/-- what can be printed: data of bounded depth whose text is short enough -/
structure Prn (d : PyData) : Prop where
  sh : d.showable = true
  nd : d.hasDict = false
  dp : d.depth ≤ 60
  sz : d.shown.length ≤ sizeLine
def rRep (K : PySem.W.Frag) : List V → Hp → VK → Prop := fun xs H Q =>
  ∃ v d, xs = [v] ∧ Dp K H v d ∧ Prn d ∧ Q (.str d.shown) H
theorem meets_extT (l b : Addr) (items items2 : Array Value) (n : Nat) (hlong : (!items.isEmpty && Builtin.List.listTooLong (items.size + items2.size)) = false) (h1 : items.size ≤ sizeLine) (h2 : items.size + items2.size ≤ sizeLine + 1) :
    Meets (Builtin.«list.extend» ⟨[.ref l, .ref b], []⟩) (fun _ R s => s.heap.get? l = some { cls := .type "list", data := .seq items n } ∧ IsTup s.heap b items2 ∧
      R (.ok (.ret .none)) { s with heap := s.heap.update l (Obj.mapSeq fun x => x ++ items2) }) := by
  intro prog w A R s ⟨hl, ⟨o, ho, hc, n2, hd⟩, hR⟩
  show wpAny _ A.in1 (Builtin.List.listExtendWith (.ref l) (.ref b) .none) _ _ s
  unfold Builtin.List.listExtendWith
  refine wpAny_bind (wpAny_typeOf ⟨o, ho, hc⟩ ?_)
  have e1 : (Builtin.List.listSameRef (.ref l) (.ref b) || Value.type "tuple" == Value.type "list" || Value.type "tuple" == Value.type "tuple") = true := by simp
  simp only [e1, if_true]
  refine wpAny_bind ?_
  unfold Builtin.List.listItems
  refine wpAny_bind (wpAny_seqItems ho hd (wpAny_pure ?_))
  refine wpAny_bind ?_
  refine wpAny_bind (wpAny_seqItems hl rfl (wpAny_pure ?_))
  rw [hlong]
  show wpAny _ A.in1 (updateSeq l (· ++ items2) >>= fun _ => ret .none) _ _ s
  have h3 : (items ++ items2).size ≤ sizeLine + 1 := by rw [Array.size_append]; exact h2
  refine wpAny_bind (wpAny_updateSeq hl rfl ?_ h1 h3)
  exact wpAny_pure hR
section
variable {X : Cx}
theorem call_rep (hg : X.A.guards = some []) (hu : X.A.units + 64 < cLine) : CallR X (.builtin "repr") (rRep X.K) := by
  intro pins s σ H xs us Q I r h
  obtain ⟨v, d, rfl, hd, ⟨hs, hnd, hdep, hsz⟩, q⟩ := h
  obtain ⟨u, rfl, ru⟩ := vals1 r
  obtain ⟨as, rd⟩ := Dp.reads I d v u hd ru
  cases hd with
  | non =>
    cases ru
    exact PySem.P.repr_of_none ⟨.str _, H, I.tok _, ⟨_, rfl⟩, q⟩
  | bl b =>
    cases ru
    refine PySem.P.repr_of_bool ⟨.str (if b then "True" else "False"), H, I.tok _, ⟨_, rfl⟩, ?_⟩
    cases b <;> exact q
  | int i =>
    obtain ⟨t, rfl⟩ := ru
    exact PySem.P.repr_of_int (of_decide_eq_true (by simpa only [PyData.showable] using hs)) ⟨.str _, H, I.tok _, ⟨_, rfl⟩, q⟩
  | str x =>
    obtain ⟨t, rfl⟩ := ru
    exact PySem.P.repr_of_str ⟨.str _, H, I.tok _, ⟨_, rfl⟩, q⟩ hsz
  | lst h1 h2 =>
    cases ru
    exact repr_of_reads' rd hs (PyData.noDict_hsm hnd) hg (by omega) (fun _ _ e => e) (fun h' u tk hk => ⟨.str _, H, I.kept hk, ⟨_, rfl⟩, q⟩) hsz
  | tup h1 h2 =>
    cases ru
    exact repr_of_reads' rd hs (PyData.noDict_hsm hnd) hg (by omega) (fun _ _ e => e) (fun h' u tk hk => ⟨.str _, H, I.kept hk, ⟨_, rfl⟩, q⟩) hsz
/-- xs.extend(t), t a tuple -/
def rExtT (K : PySem.W.Frag) : V → List V → Hp → VK → Prop := fun x vs H Q =>
  ∃ l b xs zs, x = .ref l ∧ vs = [.ref b] ∧ H l = some (.lst xs) ∧ SqT K H b zs ∧ xs.length + zs.length ≤ sizeLine ∧ Q .non (upd H l (.lst (xs ++ zs)))
theorem mt_extT : MtM X "list.extend" (rExtT X.K) := by
  intro pins s σ H x vs v us Q I rx rv h
  obtain ⟨l, b, xs, zs, rfl, rfl, hH, hB, hz, q⟩ := h
  cases rx
  obtain ⟨u, rfl, ru⟩ := rv.one
  cases ru
  obtain ⟨z, its, n, r, hl, e⟩ := I.lstM hH
  obtain ⟨its2, r2, tp, hl2⟩ := I.tuple hB
  have hl3 := r2.length
  have hl4 := r.length
  have hsz : its.toArray.size + its2.toArray.size ≤ sizeLine := by rw [List.size_toArray, List.size_toArray]; omega
  have hlong : (!its.toArray.isEmpty && Builtin.List.listTooLong (its.toArray.size + its2.toArray.size)) = false := by
    rw [notLongL hsz, Bool.and_false]
  refine call_meets F.slot_list_extend ⟨_, e, rfl⟩ F.entry_list_extend (F.args_list_extend_2 _ _)
    (meets_extT l b its.toArray its2.toArray n hlong (by omega) (by omega)) ⟨e, tp, ?_⟩
  refine ⟨.non, _, I.lset (its' := its ++ its2) hH e (by simp) (r.append r2) ?_, rfl, q⟩
  rw [List.length_append]
  omega
end
/-! a def that may print (repr): called where nothing is being printed -/
section
variable {P : Program} {w : World} {K : PySem.W.Frag} {mg : Str → Option Value} {base : Heap} {CX : CXT}
structure FnG (P : Program) (w : World) (K : PySem.W.Frag) (mg : Str → Option Value) (base : Heap)
    (CX : CXT) (k : Nat) (f : Addr) (fd : FuncData) (ps : List Str) (sp : Sp) : Prop where
  len : ∀ ws H Q E, sp ws H Q E → ws.length = ps.length
  go : ∀ (B : Around) (out : List Env) (t : Shared) (H : Hp) (as : Args) (us : List Value) (ws : List V) (Q : VK) (E : XK), B.guards = some [] → Room k B →
    Env0 P w K mg base B out t H → BindsTo t fd as (ps.zip us) → Vals ws us → sp ws H Q E →
    codeAny (model P w) B (.call (.ref f) as) (CR CX out P w H t Q E) t
theorem FnOk.toG {k : Nat} {f : Addr} {fd : FuncData} {ps : List Str} {sp : Sp} (F : FnOk P w K mg base CX k f fd ps sp) : FnG P w K mg base CX k f fd ps sp :=
  ⟨F.len, fun B out t H as us ws Q E _ => F.run B out t H as us ws Q E⟩
theorem FnG.mono {j k : Nat} {f : Addr} {fd : FuncData} {ps : List Str} {sp : Sp} (F : FnG P w K mg base CX j f fd ps sp) (h : j ≤ k) : FnG P w K mg base CX k f fd ps sp :=
  ⟨F.len, fun B out t H as us ws Q E g r => F.go B out t H as us ws Q E g (r.mono h)⟩
theorem fnG_of {k : Nat} {f : Addr} {name qual : Str} {params : Arguments} {body : List Stmt} {scope : Scope} {dV kV doc pm cdv ct oc : Value} {an od : Option Addr} {osl : Array (Option Value)} {N ps : List Str} {sp : Sp}
    (lk : K.lookup f = some ⟨oc, od, .func (PySem.W.fnOf name qual params body scope dV kV doc pm an cdv ct), osl⟩) (hcd : PySem.W.codeIn K cdv qual = true) (S : FnScope N ps scope)
    (len : ∀ ws H Q E, sp ws H Q E → ws.length = ps.length)
    (hb : ∀ (B : Around) (out : List Env) (t : Shared) (H : Hp) (ws : List V) (Q : VK) (E : XK), B.guards = some [] → Room k (B.deeper (envOfC qual scope t.heap.objs.size f cdv)) → sp ws H Q E →
      ∃ r, PSs (cxOf CX P w K mg base N qual scope f cdv B out t H E) body r ∧ r { nx := fun _ H' => Q .non H', rt := Q } (start N ws) H) :
    FnG P w K mg base CX (k + 1) f (PySem.W.fnOf name qual params body scope dV kV doc pm an cdv ct) ps sp := by
  refine ⟨len, ?_⟩
  intro B out t H as us ws Q E hg hr ee bb rr hsp
  have hl := len _ _ _ _ hsp
  have kx : K.In t.heap := ee.mod.kin.keeps fun b o z => (ee.bs b o z).1
  have lm : t.heap.NoLimit := ee.mod.nolimit.keeps fun b o z => (ee.bs b o z).1
  have kinds : ∀ y ∈ ps.zip us, scope.names.lookup y.1 = some .local ∨ (scope.names.lookup y.1 = some .cell ∧
      ((cellsFrom (t.heap.objs.size + 1) scope.names []).lookup y.1).isSome = true) := by
    rintro ⟨n, v⟩ hy
    rcases S.par n (List.of_mem_zip hy).1 with q | q
    · exact Or.inl q
    · exact Or.inr ⟨q, PySem.W.cellsFrom_some _ _ _ (Or.inl q)⟩
  refine codeAny_call_function hr.depth (kx _ _ lk) rfl S.co S.gen rfl (PySem.W.codeRec_of kx hcd) (bb _ _ _ _ ?_)
  refine wpAny_newFunctionEnv_cells S.kind kinds fun env he t1 x => ?_
  subst he
  refine ⟨lm.keeps x.toInCall.keep, codeAny_func ?_⟩
  obtain ⟨r, ht, hq⟩ := hb B out t H ws Q E hg (hr.deeper _) hsp
  have J := inv_start (CX := CX) (E := E) S hr.hd ee hl rr x
  refine wpAny_mono (ht.run [] t1 (start N ws) H _ J hq) (fun fl t' hs => ?_) (fun _ _ hs => hs)
  cases fl with
  | brk => exact hs.elim fun _ z => z.elim fun _ z => z.2.elim
  | cont => exact hs.elim fun _ z => z.elim fun _ z => z.2.elim
  | ret u =>
    obtain ⟨v, _, H', J', rv, q⟩ := hs
    exact ⟨v, H', J'.os, J'.bare, J'.base, J'.hok, rv, q⟩
  | next =>
    obtain ⟨_, H', J', q⟩ := hs
    exact ⟨.non, H', J'.os, J'.bare, J'.base, J'.hok, rfl, q⟩
end
section
variable {X : Cx} {CX : CXT} {k : Nat} {f : Addr} {fd : FuncData} {ps : List Str} {sp : Sp} {ds : List Value} {dvs : List V} {E : XK} {x : Str} {p pos : Pos} {e : Expr} {es : List Expr} {t : TA}
theorem pe_callG (F : FnG X.prog X.w X.K X.mg X.base CX k f fd ps sp) (gd : X.A.guards = some []) (hr : Room k X.A) (hg : Gl X x) (hm : X.mg x = some (.ref f)) (hk : PySem.W.keepIn X.K (.ref f) = true)
    (hb : Binds X.K fd ps ds) (hd : Vals dvs ds) (hx : Passes CX X E) (ha : PA X (e :: es) t) (hdb : (x == ("__debug__" : Str)) = false := by decide)
    (he : starEach (e :: es) X.env = (false, eval e X.env) :: starEach es X.env := by rfl) (hpl : (backTo pos (starEach es X.env)).any (·.1) = false := by rfl) :
    PE X (.Call (.Name x p) (e :: es) [] pos) (tCall sp dvs E t) := by
  refine ⟨fun pins s σ H Q I h => wpAny_Call_Name_kw (ld_glob I hg hm ?_ hdb)⟩
  refine PySem.W.callWith_K (h₀ := X.base) I.ok.mod.kin hk ?_ he hpl
  refine thn (ha.run pos pins s σ H _ I h) fun us t1 ⟨ws, H1, J, r, q⟩ => ⟨J.kIn, ?_⟩
  have r2 : Vals (ws ++ dvs) (us ++ ds) := r.append hd
  have hl : (us ++ ds).length = ps.length := r2.length.symm.trans (F.len _ _ _ _ q)
  refine wpAny_call (codeAny_mono (F.go X.A X.stack t1 H1 ⟨us, []⟩ (us ++ ds) (ws ++ dvs) Q E gd hr J.env0 (hb t1 us J.kIn hl) r2 q) ?_)
  intro r t' hq
  cases r with
  | error z => exact hx pins σ H1 t1 z t' J hq
  | ok fl =>
    cases fl with
    | ret u => exact J.after hq
    | next => exact False.elim hq
    | brk => exact False.elim hq
    | cont => exact False.elim hq
end
/-! the law's own call, where its def may print -/
abbrev Tru (s₁ : Shared) (r : Result) (t : Shared) : Prop := r = .ok (.ret (.bool true)) ∧ OldK s₁.heap t.heap ∧ t.os = s₁.os ∧ AllBare t.gens
theorem law_core {P : Program} {w : World} {K : PySem.W.Frag} {mg mb : Str → Option Value} {k : Nat} {fa a : Addr} {fd : FuncData} {x : Str} {sp : Sp} {s₁ : Shared} {vs : List Value} {ns : List Int}
    (kx : K.In s₁.heap) (n1 : s₁.heap.Ns mainGlobals mg) (n2 : s₁.heap.Ns builtinsNs mb) (n3 : ∀ x : Str, x ≠ "__name__" → mb x = bootBuiltins x) (n4 : s₁.heap.NoLimit) (g0 : s₁.gens = #[])
    (oa : s₁.heap.get? a = some { cls := .type "list", data := .seq vs.toArray }) (hr : Room k callerA)
    (F : ∀ base : Heap, K.In base → base.Ns mainGlobals mg → FnG P w K mg base CX0 k fa fd [x] sp) (bd : ∀ (s : Shared) (u : Value), BindsTo s fd ⟨[u], []⟩ [(x, u)])
    (hsp : ∀ H : Hp, Only H → SqL K H a (ns.map V.int) → sp [.ref a] H (fun v _ => v = .bl true) fun _ _ _ => False)
    (H : Hp) (hO : Only H) (hS : SqL K H a (ns.map V.int)) (ok : HOk P w H s₁.heap) (hA : ∀ b, H b ≠ none → b = a) (hK : H a ≠ none → K.lookup a = none) :
    codeAny (model P w) callerA (.call (.ref fa) ⟨[.ref a], []⟩) (Tru s₁) s₁ := by
  have out : ∀ {b : Addr} {o : Obj} {es : Array DictEntry} {ep : Nat}, s₁.heap.get? b = some o → o.data = .dict es ep → H b = none := by
    intro b o es ep e d
    by_cases q : H b = none
    · exact q
    · have z := hA b q
      subst z
      rw [oa] at e
      cases e
      exact nomatch d
  have nsK : ∀ {b : Addr} {m : Str → Option Value}, s₁.heap.Ns b m → (hidT s₁.heap H).Ns b m := by
    rintro b m ⟨o, es, ep, e, d, r⟩
    exact ⟨o, es, ep, hidT_get e (out e d), d, r⟩
  have kb : K.In (hidT s₁.heap H) := by
    intro b o e
    refine hidT_get (kx b o e) ?_
    by_cases q : H b = none
    · exact q
    · have z := hA b q
      subst z
      have y := hK q
      rw [y] at e
      cases e
  have lim : (hidT s₁.heap H).NoLimit := by
    obtain ⟨mc, h1, h2⟩ := n4
    exact ⟨mc, nsK h1, h2⟩
  have md : Mod K mg (hidT s₁.heap H) := ⟨kb, nsK n1, ⟨mb, nsK n2, n3⟩, lim⟩
  have ee : Env0 P w K mg (hidT s₁.heap H) callerA [] s₁ H := by
    refine ⟨rfl, md, fun b o e => of_hidT e, Nat.le_of_eq (hidT_size _ _), trivial, ?_, ok, .of_eq g0⟩
    intro b hb
    exact absurd (show b ∈ ([] : List Addr) from hb) (by simp)
  have run := (F _ kb (nsK n1)).go callerA [] s₁ H ⟨[.ref a], []⟩ [.ref a] [.ref a] _ _ rfl hr ee (bd s₁ (.ref a)) (.cons rfl .nil) (hsp H hO hS)
  refine codeAny_mono run ?_
  intro r t h
  cases r with
  | error e => exact False.elim h
  | ok fl =>
    cases fl with
    | brk => exact False.elim h
    | cont => exact False.elim h
    | next => exact False.elim h
    | ret u =>
      obtain ⟨v, H', os, bare, un, ok', rv, q⟩ := h
      have q' : v = .bl true := q
      subst q'
      obtain rfl : u = Value.bool true := rv
      refine ⟨rfl, OldK.of_keep ?_, os, bare⟩
      intro b o e
      rcases hO b with z | ⟨ob, xs, z⟩
      · exact un.keep b o e z (fun y => absurd (show b ∈ ([] : List Addr) from y) (by simp)) (by simp)
      · obtain ⟨e1, _⟩ := ok b _ z
        obtain ⟨e2, _⟩ := ok' b _ (un.frzs b ob _ z)
        rw [e] at e1
        cases e1
        exact e2
theorem law_callG {P : Program} {w : World} {K : PySem.W.Frag} {mg mb : Str → Option Value} {k : Nat} {fa a : Addr} {fd : FuncData} {x : Str} {sp : Sp} {s₁ : Shared} {vs : List Value} {ns : List Int}
    (kx : K.In s₁.heap) (n1 : s₁.heap.Ns mainGlobals mg) (n2 : s₁.heap.Ns builtinsNs mb) (n3 : ∀ x : Str, x ≠ "__name__" → mb x = bootBuiltins x) (n4 : s₁.heap.NoLimit) (g0 : s₁.gens = #[])
    (oa : s₁.heap.get? a = some { cls := .type "list", data := .seq vs.toArray }) (hi : IntsAre vs ns) (hl : ns.length ≤ sizeLine) (hr : Room k callerA)
    (F : ∀ base : Heap, K.In base → base.Ns mainGlobals mg → FnG P w K mg base CX0 k fa fd [x] sp) (bd : ∀ (s : Shared) (u : Value), BindsTo s fd ⟨[u], []⟩ [(x, u)])
    (hsp : ∀ H : Hp, Only H → SqL K H a (ns.map V.int) → sp [.ref a] H (fun v _ => v = .bl true) fun _ _ _ => False) :
    codeAny (model P w) callerA (.call (.ref fa) ⟨[.ref a], []⟩) (Tru s₁) s₁ := by
  have rv := vals_ints hi
  have lv := rv.length
  rw [List.length_map] at lv
  have go := law_core (ns := ns) kx n1 n2 n3 n4 g0 oa hr F bd hsp
  by_cases hk : K.lookup a = none
  · refine go (fun b => if b = a then some (.frz { cls := .type "list", data := .seq vs.toArray } (.lst (ns.map V.int))) else none) ?_ ?_ ?_ ?_ (fun _ => hk)
    · intro b
      by_cases hb : b = a
      · exact Or.inr ⟨_, _, if_pos hb⟩
      · exact Or.inl (if_neg hb)
    · exact .inl (.inr ⟨{ cls := .type "list", data := .seq vs.toArray }, if_pos rfl⟩)
    · intro b u z
      by_cases hb : b = a
      · cases (if_pos hb).symm.trans z
        subst hb
        exact ⟨oa, by rw [List.length_map]; exact hl, vs, _, rv, oa⟩
      · cases (if_neg hb).symm.trans z
    · intro b z
      by_cases hb : b = a
      · exact hb
      · exact absurd (if_neg hb) z
  · obtain ⟨o, hk⟩ := Option.ne_none_iff_exists'.mp hk
    have e := kx a o hk
    rw [oa] at e
    cases e
    refine go (fun _ => none) (fun _ => .inl rfl) ?_ ?_ (fun b z => absurd rfl z) (fun z => absurd rfl z)
    · exact .inr ⟨_, vs.toArray, _, hk, rfl, rfl, rfl, by rw [List.size_toArray, ← lv]; exact hl, by simpa using rv⟩
    · intro b u z
      exact nomatch (show (none : Option HO) = some u from z)
theorem walkG {l : PySem.W.OpenLaw} {n k : Nat} {q : Program} {loose : List Str} {XP : (Str → Option Value) → Heap → Prop} {YP : World → Heap → Prop} {d : DefRec} {K : Params → PySem.W.Frag} {sp : PySem.W.Frag → Sp} {x : Str}
    (hn : l.most = some n) (hn2 : n ≤ sizeLine) (hdf : d.params.defaults = []) (hr : Room k callerA) (hY : ∀ (w : World) (h : Heap), YP w h → (K w.params).In h)
    (F : ∀ (w : World) (mg : Str → Option Value) (fa : Addr) (h : Heap), (K w.params).In h → h.Ns mainGlobals mg → mg d.name = some (.ref fa) →
      ∃ fd : FuncData, (∀ (s : Shared) (u : Value), BindsTo s fd ⟨[u], []⟩ [(x, u)]) ∧ ∀ base : Heap, (K w.params).In base → base.Ns mainGlobals mg → FnG l.prog w (K w.params) mg base CX0 k fa fd [x] (sp (K w.params)))
    (hsp : ∀ (K : PySem.W.Frag) (H : Hp) (a : Addr) (ns : List Int), ns.length ≤ n → Only H → SqL K H a (ns.map V.int) → sp K [.ref a] H (fun v _ => v = .bl true) fun _ _ _ => False) :
    PySem.W.WalkO q loose XP YP l.row.toRowW d [] (fun f vs => PySem.call f vs) := by
  refine Att.attach_call hn hdf ?_
  intro w s₀ s₁ mg mb fa o pm cd doc a vs ns G Y ho hd hcd hmg hobj hints hlen hg
  obtain ⟨fd, hb, hF⟩ := F w mg fa _ (hY w _ Y) G.T.g hmg
  exact law_callG (hY w _ Y) G.T.g G.T.b G.T.builtins G.T.nolimit hg hobj hints (Nat.le_trans hlen hn2) hr hF hb (fun H hO hS => hsp (K w.params) H a ns hlen hO hS)
/-! heaps: what is kept, but for some addresses -/
def cut (l : List Addr) (H : Hp) : Hp := fun b => if b ∈ l then none else H b
def Off (l : List Addr) (H H' : Hp) : Prop := Same (cut l H) (cut l H')
theorem cut_out {l : List Addr} {H : Hp} {b : Addr} (h : b ∉ l) : cut l H b = H b := if_neg h
theorem cut_in {l : List Addr} {H : Hp} {b : Addr} (h : b ∈ l) : cut l H b = none := if_pos h
theorem cut_some {l : List Addr} {H : Hp} {b : Addr} {o : HO} (h : cut l H b = some o) : b ∉ l ∧ H b = some o := by
  by_cases e : b ∈ l
  · rw [cut_in e] at h
    cases h
  · rw [cut_out e] at h
    exact ⟨e, h⟩
theorem same_new {H : Hp} {p : Addr} (h : H p = none) (o : HO) : Same H (upd H p o) := fun b u q => by
  rw [upd_ne (ne_of_none q h)]
  exact q
theorem cut_same (l : List Addr) (H : Hp) : Same (cut l H) H := fun _ _ h => (cut_some h).2
theorem Off.refl (l : List Addr) (H : Hp) : Off l H H := Same.refl _
theorem Off.trans {l : List Addr} {H H1 H2 : Hp} (a : Off l H H1) (b : Off l H1 H2) : Off l H H2 := Same.trans a b
theorem Off.of {l : List Addr} {H H' : Hp} (s : Same H H') : Off l H H' := fun b o h => by
  obtain ⟨n, e⟩ := cut_some h
  rw [cut_out n]
  exact s b o e
theorem Off.get {l : List Addr} {H H' : Hp} (s : Off l H H') {b : Addr} {o : HO} (h : H b = some o) (n : b ∉ l) : H' b = some o := by
  have q := s b o (by rw [cut_out n]; exact h)
  exact (cut_some q).2
theorem Off.mono {l m : List Addr} {H H' : Hp} (s : Off l H H') (h : ∀ b ∈ l, b ∈ m) : Off m H H' := fun b o e => by
  obtain ⟨n, e⟩ := cut_some e
  rw [cut_out n]
  exact s.get e fun z => n (h b z)
/-- a change at an address that is not counted -/
theorem Off.put {l : List Addr} {H : Hp} {p : Addr} {o : HO} (h : p ∈ l) : Off l H (upd H p o) := fun b u e => by
  obtain ⟨n, e⟩ := cut_some e
  rw [cut_out n, upd_ne (fun z => n (by rw [z]; exact h))]
  exact e
/-- an address that was free then -/
theorem Off.free {l : List Addr} {H H' : Hp} (s : Off l H H') {b : Addr} (h : H' b = none) (n : b ∉ l) : H b = none := by
  cases q : H b with
  | none => rfl
  | some o =>
    rw [s.get q n] at h
    cases h
/-! data -/
theorem seqT_up {K : PySem.W.Frag} {H H' : Hp} {a : Addr} {xs : List V} (s : Same H H') (h : SqT K H a xs) : SqT K H' a xs := by
  rcases h with (h | ⟨o, h⟩) | h
  · exact .inl (.inl (s _ _ h))
  · exact .inl (.inr ⟨o, s _ _ h⟩)
  · exact .inr h
mutual
theorem Dp.up {K : PySem.W.Frag} {H H' : Hp} (s : Same H H') : ∀ (d : PyData) (v : V), Dp K H v d → Dp K H' v d
  | .none, _, h => by cases h; exact .non
  | .bool b, _, h => by cases h; exact .bl b
  | .int i, _, h => by cases h; exact .int i
  | .str x, _, h => by cases h; exact .str x
  | .list ds, _, h => by
    cases h with
    | lst h1 h2 => exact .lst (s.seq h1) (Dp.ups s ds _ h2)
  | .tuple ds, _, h => by
    cases h with
    | tup h1 h2 => exact .tup (seqT_up s h1) (Dp.ups s ds _ h2)
  | .dict _, _, h => by cases h
theorem Dp.ups {K : PySem.W.Frag} {H H' : Hp} (s : Same H H') : ∀ (ds : List PyData) (vs : List V), DpAll K H vs ds → DpAll K H' vs ds
  | [], _, h => by cases h; exact .nil
  | d :: ds, _, h => by
    cases h with
    | cons h1 h2 => exact .cons (Dp.up s d _ h1) (Dp.ups s ds _ h2)
end
theorem DpAll.len {K : PySem.W.Frag} {H : Hp} : ∀ {vs : List V} {ds : List PyData}, DpAll K H vs ds → vs.length = ds.length
  | _, _, .nil => rfl
  | _, _, .cons _ t => congrArg (· + 1) (DpAll.len t)
theorem DpAll.get {K : PySem.W.Frag} {H : Hp} : ∀ {vs : List V} {ds : List PyData} {i : Nat} {v : V}, DpAll K H vs ds → vs[i]? = some v → ∃ d, ds[i]? = some d ∧ Dp K H v d
  | _, _, _, _, .nil, e => by simp at e
  | _, _, 0, _, .cons h _, e => by simp at e; subst e; exact ⟨_, rfl, h⟩
  | _, _, i + 1, _, .cons _ t, e => by
    obtain ⟨d, a, b⟩ := DpAll.get (i := i) t (by simpa using e)
    exact ⟨d, by simpa using a, b⟩
theorem DpAll.app {K : PySem.W.Frag} {H : Hp} : ∀ {vs ws : List V} {ds es : List PyData}, DpAll K H vs ds → DpAll K H ws es → DpAll K H (vs ++ ws) (ds ++ es)
  | _, _, _, _, .nil, s => s
  | _, _, _, _, .cons r t, s => .cons r (DpAll.app t s)
/-- the name of a thing's type -/
def tyN : PyData → String
  | .none => "NoneType"
  | .bool _ => "bool"
  | .int _ => "int"
  | .str _ => "str"
  | .list _ => "list"
  | .tuple _ => "tuple"
  | .dict _ => "dict"
theorem tyD {K : PySem.W.Frag} {H : Hp} {v : V} {d : PyData} (h : Dp K H v d) : TyX K H v (.type (tyN d)) := by
  cases h with
  | non => exact .base .non
  | bl b => exact .base (.bl b)
  | int i => exact .base (.int i)
  | str x => exact .base (.str x)
  | lst h _ =>
    rcases h with (h | ⟨o, h⟩) | ⟨o, its, n, h, c, _⟩
    · exact .base (.lst h)
    · exact .base (.frz h)
    · exact .kList h c
  | tup h _ =>
    rcases h with (h | ⟨o, h⟩) | ⟨o, its, n, h, c, _⟩
    · exact .base (.tup h)
    · exact .fTuple h
    · exact .kTuple h c
/-- isinstance(x, T) of data -/
def rIsD (K : PySem.W.Frag) : List V → Hp → VK → Prop := fun xs H Q =>
  ∃ v d T b, xs = [v, .ty T] ∧ Dp K H v d ∧ kitB (tyN d) T = some b ∧ Q (.bl b) H
theorem call_isD {X : Cx} : CallR X (.builtin "isinstance") (rIsD X.K) := by
  intro pins s σ H xs us Q I r h
  obtain ⟨v, d, T, b, rfl, hd, hk, q⟩ := h
  exact call_isi pins s σ H _ us Q I r ⟨v, .ty T, _, _, b, rfl, .ty T, tyD hd, kit_ty hk, q⟩
/-! the box that a law draws from -/
def bx (g : Addr) (n s t : Int) : List (Key × V) := [(Sum.inr "great", .ref g), (Sum.inr "now", .int n), (Sum.inr "seed", .int s), (Sum.inr "turn", .int t)]
structure Box (H : Hp) (p g : Addr) : Prop where
  ex : ∃ n s t gs, H p = some (.dK (bx g n s t)) ∧ H g = some (.lst (List.map V.int gs)) ∧ gs.length ≤ 1000
theorem Box.ne {H : Hp} {p g : Addr} (b : Box H p g) : p ≠ g := by
  obtain ⟨n, s, t, gs, h1, h2, _⟩ := b.ex
  exact ne_of h1 h2 (by intro z; cases z)
theorem Box.off {H H' : Hp} {p g : Addr} {l : List Addr} (b : Box H p g) (h : Off l H H') (n1 : p ∉ l) (n2 : g ∉ l) : Box H' p g := by
  obtain ⟨n, s, t, gs, h1, h2, h3⟩ := b.ex
  exact ⟨n, s, t, gs, h.get h1 n1, h.get h2 n2, h3⟩
theorem Box.same {H H' : Hp} {p g : Addr} (b : Box H p g) (h : Same H H') : Box H' p g := by
  obtain ⟨n, s, t, gs, h1, h2, h3⟩ := b.ex
  exact ⟨n, s, t, gs, h _ _ h1, h _ _ h2, h3⟩
theorem kgn : ¬ ((Sum.inr "great" : Key) = (Sum.inr "now" : Key)) := by decide +kernel
theorem kgs : ¬ ((Sum.inr "great" : Key) = (Sum.inr "seed" : Key)) := by decide +kernel
theorem kgt : ¬ ((Sum.inr "great" : Key) = (Sum.inr "turn" : Key)) := by decide +kernel
theorem kns : ¬ ((Sum.inr "now" : Key) = (Sum.inr "seed" : Key)) := by decide +kernel
theorem knt : ¬ ((Sum.inr "now" : Key) = (Sum.inr "turn" : Key)) := by decide +kernel
theorem kst : ¬ ((Sum.inr "seed" : Key) = (Sum.inr "turn" : Key)) := by decide +kernel
theorem knf (a b : Key) (h : ¬ a = b) : ¬ b = a := fun z => h z.symm
section
variable (g : Addr) (n s t : Int)
theorem bx_great : valV (bx g n s t) (Sum.inr "great" : Key) = some (.ref g) := by
  simp [valV, bx]
theorem bx_now : valV (bx g n s t) (Sum.inr "now" : Key) = some (.int n) := by
  simp only [valV, bx, List.find?_cons, decide_eq_false kgn, decide_true, Option.map_some]
theorem bx_seed : valV (bx g n s t) (Sum.inr "seed" : Key) = some (.int s) := by
  simp only [valV, bx, List.find?_cons, decide_eq_false kgs, decide_eq_false kns, decide_true, Option.map_some]
theorem bx_turn : valV (bx g n s t) (Sum.inr "turn" : Key) = some (.int t) := by
  simp only [valV, bx, List.find?_cons, decide_eq_false kgt, decide_eq_false knt, decide_eq_false kst, decide_true, Option.map_some]
theorem put_now (y : Int) : putK (bx g n s t) (Sum.inr "now" : Key) (.int y) = bx g y s t := by
  simp only [putK, bx, List.any_cons, List.map_cons, List.map_nil, decide_true, Bool.true_or, Bool.or_true, if_true, if_neg kgn, if_neg (knf _ _ kns), if_neg (knf _ _ knt)]
theorem put_seed (y : Int) : putK (bx g n s t) (Sum.inr "seed" : Key) (.int y) = bx g n y t := by
  simp only [putK, bx, List.any_cons, List.map_cons, List.map_nil, decide_true, Bool.true_or, Bool.or_true, if_true, if_neg kgs, if_neg kns, if_neg (knf _ _ kst)]
theorem put_turn (y : Int) : putK (bx g n s t) (Sum.inr "turn" : Key) (.int y) = bx g n s y := by
  simp only [putK, bx, List.any_cons, List.map_cons, List.map_nil, decide_true, Bool.true_or, Bool.or_true, if_true, if_neg kgt, if_neg knt, if_neg kst]
theorem mer_box : mergeK [] (bx g n s t) = bx g n s t := by
  simp only [mergeK, bx, List.foldl_cons, List.foldl_nil, putK, List.any_nil, List.any_cons, List.nil_append, List.cons_append, decide_eq_false kgn, decide_eq_false kgs, decide_eq_false kgt, decide_eq_false kns, decide_eq_false knt, decide_eq_false kst, Bool.or_false, if_neg Bool.false_ne_true]
end
/-! data that can be printed: small ints, short texts, few nodes -/
mutual
def gd : PyData → Bool
  | .none => true
  | .bool _ => true
  | .int i => decide (i.natAbs.log2 < 1920)
  | .str x => decide (x.length ≤ 100) && x.cps.toList.all fun c => decide (c < 128)
  | .list ds => gds ds
  | .tuple ds => gds ds
  | .dict _ => false
def gds : List PyData → Bool
  | [] => true
  | d :: ds => gd d && gds ds
end
mutual
def nod : PyData → Nat
  | .list ds => 1 + nods ds
  | .tuple ds => 1 + nods ds
  | .none => 1
  | .bool _ => 1
  | .int _ => 1
  | .str _ => 1
  | .dict _ => 1
def nods : List PyData → Nat
  | [] => 0
  | d :: ds => nod d + nods ds
end
mutual
theorem gd_sh : ∀ d : PyData, gd d = true → d.showable = true ∧ d.hasDict = false
  | .none, _ => ⟨by simp only [PyData.showable], by simp only [PyData.hasDict]⟩
  | .bool _, _ => ⟨by simp only [PyData.showable], by simp only [PyData.hasDict]⟩
  | .int i, h => ⟨by simpa only [PyData.showable, gd] using h, by simp only [PyData.hasDict]⟩
  | .str _, _ => ⟨by simp only [PyData.showable], by simp only [PyData.hasDict]⟩
  | .list ds, h => by
    have q := gds_sh ds (by simpa only [gd] using h)
    exact ⟨by simpa only [PyData.showable] using q.1, by simpa only [PyData.hasDict] using q.2⟩
  | .tuple ds, h => by
    have q := gds_sh ds (by simpa only [gd] using h)
    exact ⟨by simpa only [PyData.showable] using q.1, by simpa only [PyData.hasDict] using q.2⟩
  | .dict _, h => by simp [gd] at h
theorem gds_sh : ∀ ds : List PyData, gds ds = true → PyData.showableAll ds = true ∧ PyData.hasDictAll ds = false
  | [], _ => ⟨by simp only [PyData.showableAll], by simp only [PyData.hasDictAll]⟩
  | d :: ds, h => by
    simp only [gds, Bool.and_eq_true] at h
    have q1 := gd_sh d h.1
    have q2 := gds_sh ds h.2
    exact ⟨by simp only [PyData.showableAll, q1.1, q2.1, Bool.and_self], by simp only [PyData.hasDictAll, q1.2, q2.2, Bool.or_self]⟩
end
mutual
theorem gd_sz : ∀ d : PyData, gd d = true → d.shown.length + 2 ≤ 2000 * nod d
  | .none, _ => by
    simp only [PyData.shown, nod]
    decide +kernel
  | .bool b, _ => by
    simp only [PyData.shown, nod]
    cases b <;> decide +kernel
  | .int i, h => by
    have h1 : i.natAbs.log2 < 1920 := by simpa only [gd, decide_eq_true_eq] using h
    have q := int_text_len_1921 h1
    simp only [PyData.shown, nod]
    show (Str.ofString (toString i)).length + 2 ≤ _
    omega
  | .str x, h => by
    simp only [gd, Bool.and_eq_true, decide_eq_true_eq, List.all_eq_true] at h
    have q := StrLaws.reprText_len x (fun c hc => Nat.lt_of_lt_of_le (h.2 c hc) (by decide))
    simp only [PyData.shown, nod]
    omega
  | .list ds, h => by
    have q := gds_sz ds (by simpa only [gd] using h)
    have q2 := listText_len_le (PyData.shownAll ds)
    simp only [PyData.shown, nod]
    omega
  | .tuple ds, h => by
    have q := gds_sz ds (by simpa only [gd] using h)
    have q2 := tupleText_len_le (PyData.shownAll ds)
    simp only [PyData.shown, nod]
    omega
  | .dict _, h => by simp [gd] at h
theorem gds_sz : ∀ ds : List PyData, gds ds = true → ((PyData.shownAll ds).map (·.length)).sum + 2 * (PyData.shownAll ds).length ≤ 2000 * nods ds
  | [], _ => by simp [PyData.shownAll, nods]
  | d :: ds, h => by
    simp only [gds, Bool.and_eq_true] at h
    have q1 := gd_sz d h.1
    have q2 := gds_sz ds h.2
    simp only [PyData.shownAll, nods, List.map_cons, List.sum_cons, List.length_cons]
    omega
end
theorem prn_of {d : PyData} (h : gd d = true) (hn : nod d ≤ 8000) (hd : d.depth ≤ 60) : Prn d :=
  ⟨(gd_sh d h).1, (gd_sh d h).2, hd, by
    have q := gd_sz d h
    have e : sizeLine = 16777216 := by decide
    omega⟩
theorem gds_app : ∀ ds es : List PyData, gds (ds ++ es) = (gds ds && gds es)
  | [], es => by simp [gds]
  | d :: ds, es => by simp only [List.cons_append, gds, gds_app ds es, Bool.and_assoc]
theorem nods_app : ∀ ds es : List PyData, nods (ds ++ es) = nods ds + nods es
  | [], es => by simp [nods]
  | d :: ds, es => by simp only [List.cons_append, nods, nods_app ds es, Nat.add_assoc]
theorem nod_pos : ∀ d : PyData, 1 ≤ nod d
  | .list _ => by simp only [nod]; omega
  | .tuple _ => by simp only [nod]; omega
  | .none => by simp only [nod]; omega
  | .bool _ => by simp only [nod]; omega
  | .int _ => by simp only [nod]; omega
  | .str _ => by simp only [nod]; omega
  | .dict _ => by simp only [nod]; omega
theorem nods_len : ∀ ds : List PyData, ds.length ≤ nods ds
  | [] => Nat.le_refl _
  | d :: ds => by
    have := nod_pos d
    have := nods_len ds
    simp only [nods, List.length_cons]
    omega
theorem gds_mem : ∀ {ds : List PyData} {d : PyData}, gds ds = true → d ∈ ds → gd d = true
  | _ :: _, _, h, m => by
    simp only [gds, Bool.and_eq_true] at h
    rcases List.mem_cons.mp m with e | e
    · rw [e]
      exact h.1
    · exact gds_mem h.2 e
theorem nods_mem : ∀ {ds : List PyData} {d : PyData}, d ∈ ds → nod d ≤ nods ds
  | _ :: _, _, m => by
    simp only [nods]
    rcases List.mem_cons.mp m with e | e
    · rw [e]
      omega
    · have := nods_mem e
      omega
theorem depth_mem : ∀ {ds : List PyData} {d : PyData}, d ∈ ds → d.depth ≤ PyData.depthAll ds
  | _ :: _, _, m => by
    simp only [PyData.depthAll]
    rcases List.mem_cons.mp m with e | e
    · rw [e]
      omega
    · have := depth_mem e
      omega
theorem depthAll_app : ∀ ds es : List PyData, PyData.depthAll (ds ++ es) = max (PyData.depthAll ds) (PyData.depthAll es)
  | [], es => by simp [PyData.depthAll]
  | d :: ds, es => by simp only [List.cons_append, PyData.depthAll, depthAll_app ds es, Nat.max_assoc]
/-- built-in names that the top leaves as they are -/
structure Bi (mg : Str → Option Value) : Prop where
  ii : mg "isinstance" = none
  len : mg "len" = none
  all : mg "all" = none
  str : mg "str" = none
  tup : mg "tuple" = none
  int : mg "int" = none
  bool : mg "bool" = none
  rng : mg "range" = none
  rep : mg "repr" = none
  abs : mg "abs" = none
/-! names -/
def lowOk (c : Nat) : Bool := decide (97 ≤ c) && decide (c ≤ 122)
def isNm (x : Str) : Bool := decide (1 ≤ x.length) && decide (x.length ≤ 8) && x.cps.toList.all lowOk
mutual
def isVal : PyData → Bool
  | .int _ => true
  | .str x => isNm x
  | .tuple ds => isVals ds
  | .none => false
  | .bool _ => false
  | .list _ => false
  | .dict _ => false
def isVals : List PyData → Bool
  | [] => true
  | d :: ds => isVal d && isVals ds
end
theorem isVals_app : ∀ ds es : List PyData, isVals (ds ++ es) = (isVals ds && isVals es)
  | [], es => by simp [isVals]
  | d :: ds, es => by simp only [List.cons_append, isVals, isVals_app ds es, Bool.and_assoc]
def isTup : PyData → Bool
  | .tuple _ => true
  | _ => false
def nmD : PyData → Bool
  | .str x => isNm x
  | _ => false
def inD : PyData → Bool
  | .int _ => true
  | _ => false
def isStr : PyData → Bool
  | .str _ => true
  | _ => false
def isIntB : PyData → Bool
  | .int _ => true
  | .bool _ => true
  | _ => false
def isBool : PyData → Bool
  | .bool _ => true
  | _ => false
theorem kit_tup : ∀ d : PyData, kitB (tyN d) "tuple" = some (isTup d)
  | .none => (by decide +kernel : kitB "NoneType" "tuple" = some false)
  | .bool _ => (by decide +kernel : kitB "bool" "tuple" = some false)
  | .int _ => (by decide +kernel : kitB "int" "tuple" = some false)
  | .str _ => (by decide +kernel : kitB "str" "tuple" = some false)
  | .list _ => (by decide +kernel : kitB "list" "tuple" = some false)
  | .tuple _ => (by decide +kernel : kitB "tuple" "tuple" = some true)
  | .dict _ => (by decide +kernel : kitB "dict" "tuple" = some false)
theorem kit_str : ∀ d : PyData, kitB (tyN d) "str" = some (isStr d)
  | .none => (by decide +kernel : kitB "NoneType" "str" = some false)
  | .bool _ => (by decide +kernel : kitB "bool" "str" = some false)
  | .int _ => (by decide +kernel : kitB "int" "str" = some false)
  | .str _ => (by decide +kernel : kitB "str" "str" = some true)
  | .list _ => (by decide +kernel : kitB "list" "str" = some false)
  | .tuple _ => (by decide +kernel : kitB "tuple" "str" = some false)
  | .dict _ => (by decide +kernel : kitB "dict" "str" = some false)
theorem kit_int : ∀ d : PyData, kitB (tyN d) "int" = some (isIntB d)
  | .none => (by decide +kernel : kitB "NoneType" "int" = some false)
  | .bool _ => (by decide +kernel : kitB "bool" "int" = some true)
  | .int _ => (by decide +kernel : kitB "int" "int" = some true)
  | .str _ => (by decide +kernel : kitB "str" "int" = some false)
  | .list _ => (by decide +kernel : kitB "list" "int" = some false)
  | .tuple _ => (by decide +kernel : kitB "tuple" "int" = some false)
  | .dict _ => (by decide +kernel : kitB "dict" "int" = some false)
theorem kit_bool : ∀ d : PyData, kitB (tyN d) "bool" = some (isBool d)
  | .none => (by decide +kernel : kitB "NoneType" "bool" = some false)
  | .bool _ => (by decide +kernel : kitB "bool" "bool" = some true)
  | .int _ => (by decide +kernel : kitB "int" "bool" = some false)
  | .str _ => (by decide +kernel : kitB "str" "bool" = some false)
  | .list _ => (by decide +kernel : kitB "list" "bool" = some false)
  | .tuple _ => (by decide +kernel : kitB "tuple" "bool" = some false)
  | .dict _ => (by decide +kernel : kitB "dict" "bool" = some false)
theorem one_lt (c d : Nat) : (([c] : List Nat) < [d]) ↔ c < d := by
  constructor
  · intro h
    cases h with
    | rel h => exact h
    | cons h => cases h
  · intro h
    exact .rel h
theorem cps_a : (("a" : Str)).cps.toList = [97] := by decide +kernel
theorem cps_z : (("z" : Str)).cps.toList = [122] := by decide +kernel
theorem ge_a (c : Nat) : (!decide ((⟨#[c]⟩ : Str).cps.toList < ("a" : Str).cps.toList)) = decide (97 ≤ c) := by
  rw [cps_a]
  by_cases h : 97 ≤ c
  · have : ¬ ((⟨#[c]⟩ : Str).cps.toList < [97]) := fun z => by
      have := (one_lt c 97).mp z
      omega
    rw [decide_eq_false this, decide_eq_true h]
    rfl
  · have : ((⟨#[c]⟩ : Str).cps.toList < [97]) := (one_lt c 97).mpr (by omega)
    rw [decide_eq_true this, decide_eq_false h]
    rfl
theorem le_z (c : Nat) : (!decide (("z" : Str).cps.toList < (⟨#[c]⟩ : Str).cps.toList)) = decide (c ≤ 122) := by
  rw [cps_z]
  by_cases h : c ≤ 122
  · have : ¬ (([122] : List Nat) < (⟨#[c]⟩ : Str).cps.toList) := fun z => by
      have := (one_lt 122 c).mp z
      omega
    rw [decide_eq_false this, decide_eq_true h]
    rfl
  · have : (([122] : List Nat) < (⟨#[c]⟩ : Str).cps.toList) := (one_lt 122 c).mpr (by omega)
    rw [decide_eq_true this, decide_eq_false h]
    rfl
theorem gd_str {x : Str} (h : gd (.str x) = true) : x.length ≤ 100 := by
  simp only [gd, Bool.and_eq_true, decide_eq_true_eq] at h
  exact h.1
theorem len_cps (x : Str) : x.length = x.cps.size := rfl
theorem cps_at {x : Str} {i c : Nat} (h : x.cps[i]? = some c) : x.cps.toList[i]? = some c := by simpa using h
/-- what is found going along a list -/
theorem take_snoc {α β : Type} (f : α → β) {l : List α} {i : Nat} {a : α} (h : l[i]? = some a) : (l.take (i + 1)).map f = (l.take i).map f ++ [f a] := by
  rw [List.take_add_one, h, List.map_append]
  rfl
theorem all_map {α : Type} (f : α → Bool) : ∀ l : List α, (l.map f).all id = l.all f
  | [] => rfl
  | a :: l => by simp only [List.map_cons, List.all_cons, all_map f l, id]
/-! promises of those that only look -/
def spLook (K : PySem.W.Frag) (ok : PyData → Prop) (g : PyData → V) : Sp := fun vs H Q _ => ∃ v d, vs = [v] ∧ Dp K H v d ∧ ok d ∧ ∀ H', Same H H' → Q (g d) H'
theorem DpAll.unapp {K : PySem.W.Frag} {H : Hp} : ∀ {xs ys : List V} {ds : List PyData}, DpAll K H (xs ++ ys) ds → ∃ d1 d2, ds = d1 ++ d2 ∧ DpAll K H xs d1 ∧ DpAll K H ys d2
  | [], _, ds, h => ⟨[], ds, rfl, .nil, h⟩
  | x :: xs, _, _, h => by
    cases h with
    | cons h1 h2 =>
      obtain ⟨d1, d2, e, a, b⟩ := DpAll.unapp (xs := xs) h2
      exact ⟨_ :: d1, d2, by rw [e]; rfl, .cons h1 a, b⟩
theorem DpAll.last {K : PySem.W.Frag} {H : Hp} {xs : List V} {ds : List PyData} (h : DpAll K H xs ds) (hx : xs ≠ []) : ∃ xs' v ds' d, xs = xs' ++ [v] ∧ ds = ds' ++ [d] ∧ DpAll K H xs' ds' ∧ Dp K H v d := by
  have e := (List.dropLast_concat_getLast hx).symm
  rw [e] at h
  obtain ⟨d1, d2, e2, a, b⟩ := DpAll.unapp h
  cases b with
  | cons b1 b2 =>
    cases b2
    exact ⟨_, _, d1, _, e, e2, a, b1⟩
theorem last_at (xs : List V) (v : V) : (xs ++ [v])[(xs ++ [v]).length - 1]? = some v := by simp
theorem drop_last (xs : List V) (v : V) : (xs ++ [v]).dropLast = xs := by simp
theorem tup_of {K : PySem.W.Frag} {H : Hp} {v : V} {d : PyData} (h : Dp K H v d) (ht : isTup d = true) : ∃ a xs ds, v = .ref a ∧ d = .tuple ds ∧ SqT K H a xs ∧ DpAll K H xs ds := by
  cases h with
  | tup h1 h2 => exact ⟨_, _, _, rfl, rfl, h1, h2⟩
  | non => cases ht
  | bl b => cases ht
  | int i => cases ht
  | str x => cases ht
  | lst h1 h2 => cases ht
theorem isVal_no {d : PyData} (h1 : isTup d = false) : isVal d = (inD d || nmD d) := by
  cases d with
  | tuple ds => exact absurd (show true = false from h1) (by decide)
  | str x => simp only [isVal, inD, nmD, Bool.false_or]
  | int i => simp only [isVal, inD, nmD, Bool.true_or]
  | none => simp only [isVal, inD, nmD, Bool.or_self]
  | bool b => simp only [isVal, inD, nmD, Bool.or_self]
  | list b => simp only [isVal, inD, nmD, Bool.or_self]
  | dict b => simp only [isVal, inD, nmD, Bool.or_self]
/-- going along anything: what one turn does is B -/
theorem along {J : It} {n : Nat} {G : Hp → Prop} {Y : Nat → Hp → V → Hp → Prop} (w : Walk J n G Y) {B : (Hp → Prop) → V → Hp → Prop} {H0 : Hp} {Qd : Hp → Prop} (Pv : Nat → Hp → Prop) (h0 : Pv 0 H0) (hG : ∀ i H, i ≤ n → Pv i H → G H)
    (hs : ∀ i x H H', i < n → Pv i H → Y i H x H' → B (Pv (i + 1)) x H') (hd : ∀ H, Pv n H → Qd H) :
    ∃ W : Nat → Nat → Hp → Prop, (∃ m, W 0 m H0) ∧ ∀ i m H, W i m H → (J.stop i H ∧ Qd H) ∨ (J.go i H ∧ ∃ Nx : Hp → Prop, (∀ H', Nx H' → ∃ m', m' < m ∧ W (i + 1) m' H') ∧ ∀ x H', J.yld i H x H' → B Nx x H') := by
  refine ⟨fun i m H => i ≤ n ∧ m + i = n ∧ Pv i H, ⟨n, Nat.zero_le _, rfl, h0⟩, ?_⟩
  rintro i m H ⟨hi, hm, p⟩
  have gg := hG i H hi p
  by_cases lt : i < n
  · refine Or.inr ⟨w.goes i H lt gg, Pv (i + 1), ?_, ?_⟩
    · intro H' p'
      exact ⟨m - 1, by omega, by omega, by omega, p'⟩
    · intro x H' y
      exact hs i x H H' lt p (w.yields i H x H' lt gg y)
  · have e : i = n := by omega
    subst e
    exact Or.inl ⟨w.stops H gg, hd H p⟩
mutual
def dep : PyData → Nat
  | .tuple ds => 1 + deps ds
  | .none => 0
  | .bool _ => 0
  | .int _ => 0
  | .str _ => 0
  | .list _ => 0
  | .dict _ => 0
def deps : List PyData → Nat
  | [] => 0
  | d :: ds => max (dep d) (deps ds)
end
def kids : PyData → List PyData
  | .tuple ds => ds
  | _ => []
theorem deps_app : ∀ ds es : List PyData, deps (ds ++ es) = max (deps ds) (deps es)
  | [], es => by simp [deps]
  | d :: ds, es => by simp only [List.cons_append, deps, deps_app ds es, Nat.max_assoc]
theorem dep_no {d : PyData} (h : isTup d = false) : dep d = 0 := by
  cases d with
  | tuple ds => exact absurd (show true = false from h) (by decide)
  | str x => simp only [dep]
  | int i => simp only [dep]
  | none => simp only [dep]
  | bool b => simp only [dep]
  | list b => simp only [dep]
  | dict b => simp only [dep]
theorem deps_filter : ∀ ds : List PyData, deps (ds.filter isTup) = deps ds
  | [] => rfl
  | d :: ds => by
    cases h : isTup d with
    | true => simp only [List.filter_cons, h, if_true, deps, deps_filter ds]
    | false => simp only [List.filter_cons, h, Bool.false_eq_true, if_false, deps, deps_filter ds, dep_no h, Nat.zero_max]
theorem deps_kids : ∀ ds : List PyData, (∀ d ∈ ds, isTup d = true) → ds ≠ [] → deps ds = 1 + deps (ds.flatMap kids)
  | [], _, h => absurd rfl h
  | d :: ds, h, _ => by
    have hd := h d List.mem_cons_self
    have e1 : dep d = 1 + deps (kids d) := by
      cases d with
      | tuple es => simp only [dep, kids]
      | _ => cases hd
    rw [List.flatMap_cons, deps_app]
    simp only [deps]
    by_cases e : ds = []
    · subst e
      simp only [deps, List.flatMap_nil, e1]
      omega
    · have ih := deps_kids ds (fun x hx => h x (List.mem_cons_of_mem _ hx)) e
      rw [ih, e1]
      omega
theorem nods_kids : ∀ ds : List PyData, nods (ds.flatMap kids) ≤ nods ds
  | [] => Nat.le_refl _
  | d :: ds => by
    rw [List.flatMap_cons, nods_app]
    have ih := nods_kids ds
    have e : nods (kids d) ≤ nod d := by
      cases d <;> simp only [kids, nods, nod] <;> omega
    simp only [nods]
    omega
theorem nods_filter (p : PyData → Bool) : ∀ ds : List PyData, nods (ds.filter p) ≤ nods ds
  | [] => Nat.le_refl _
  | d :: ds => by
    have ih := nods_filter p ds
    have := nod_pos d
    cases h : p d with
    | true =>
      simp only [List.filter_cons, h, if_true, nods]
      omega
    | false =>
      simp only [List.filter_cons, h, Bool.false_eq_true, if_false, nods]
      omega
theorem nods_take (ds : List PyData) (i : Nat) : nods (ds.take i) ≤ nods ds := by
  have e := congrArg nods (List.take_append_drop i ds)
  rw [nods_app] at e
  omega
theorem get_take {α : Type} {l : List α} {i : Nat} {a : α} (h : l[i]? = some a) : l.take (i + 1) = l.take i ++ [a] := by
  rw [List.take_add_one, h]
  rfl
theorem call_isK {X : Cx} {K : PySem.W.Frag} (h : X.K = K) : CallR X (.builtin "isinstance") (rIsD K) := by
  subst h
  exact call_isD
theorem pi_tupK {X : Cx} {K : PySem.W.Frag} {tg l : Expr} {tl : TE} (h : X.K = K) (hl : PE X l tl) : PI X tg l (iTup K tl) := by
  subst h
  exact pi_tup hl
theorem pi_listK {X : Cx} {K : PySem.W.Frag} {tg l : Expr} {tl : TE} (h : X.K = K) (hl : PE X l tl) : PI X tg l (iList K tl) := by
  subst h
  exact pi_list hl
theorem b_ii : bootBuiltins "isinstance" = some (.builtin "isinstance") := by decide +kernel
theorem b_tup : bootBuiltins "tuple" = some (.type "tuple") := by decide +kernel
theorem b_all : bootBuiltins "all" = some (.builtin "all") := by decide +kernel
theorem b_str : bootBuiltins "str" = some (.type "str") := by decide +kernel
theorem b_int : bootBuiltins "int" = some (.type "int") := by decide +kernel
theorem b_bool : bootBuiltins "bool" = some (.type "bool") := by decide +kernel
theorem b_abs : bootBuiltins "abs" = some (.builtin "abs") := by decide +kernel
theorem b_rep : bootBuiltins "repr" = some (.builtin "repr") := by decide +kernel
theorem b_max : bootBuiltins "max" = some (.builtin "max") := by decide +kernel
theorem b_list : bootBuiltins "list" = some (.type "list") := by decide +kernel
/-! short texts of plain signs -/
structure Sm (n : Nat) (x : Str) : Prop where
  le : x.length ≤ n
  lo : ∀ c ∈ x.cps.toList, c < 128
theorem Sm.gd {n : Nat} {x : Str} (h : Sm n x) (hn : n ≤ 100) : Rl.gd (.str x) = true := by
  have h1 := h.le
  have h3 : x.length ≤ 100 := by omega
  have h2 : (x.cps.toList.all fun c => decide (c < 128)) = true := List.all_eq_true.mpr fun c hc => decide_eq_true (h.lo c hc)
  simp only [Rl.gd, decide_eq_true h3, h2, Bool.and_self]
theorem Sm.mono {n m : Nat} {x : Str} (h : Sm n x) (hn : n ≤ m) : Sm m x := ⟨Nat.le_trans h.le hn, h.lo⟩
theorem Sm.fits {n : Nat} {x : Str} (h : Sm n x) (hn : n ≤ 1000) : x.length ≤ sizeLine := Nat.le_trans h.le (Nat.le_of_lt (small1000 hn))
theorem app_cps (x y : Str) : (x ++ y).cps.toList = x.cps.toList ++ y.cps.toList := by
  show (x.cps ++ y.cps).toList = _
  simp
theorem Sm.app {n m : Nat} {x y : Str} (h : Sm n x) (g : Sm m y) : Sm (n + m) (x ++ y) := by
  refine ⟨?_, fun c hc => ?_⟩
  · rw [Str.length_append]
    have := h.le
    have := g.le
    omega
  · rw [app_cps] at hc
    rcases List.mem_append.mp hc with z | z
    · exact h.lo c z
    · exact g.lo c z
theorem Sm.cut {n : Nat} {x : Str} (h : Sm n x) (lo hi : Option Int) : Sm n (cutS x lo hi) := by
  refine ⟨Nat.le_trans (cutS_length x lo hi) h.le, fun c hc => h.lo c ?_⟩
  unfold cutS at hc
  exact List.mem_of_mem_drop (List.mem_of_mem_take (by simpa using hc))
theorem Sm.up {n : Nat} {x : Str} (h : Sm n x) : Sm n (Txt.upper x) := by
  rw [upper_ascii h.lo]
  refine ⟨?_, fun c hc => ?_⟩
  · have := h.le
    show (x.cps.map up1).size ≤ n
    rw [Array.size_map]
    exact this
  · rw [Array.toList_map] at hc
    obtain ⟨b, hb, rfl⟩ := List.mem_map.mp hc
    have := h.lo b hb
    unfold up1
    split <;> omega
theorem Sm.of {x : Str} {n : Nat} (h : (decide (x.length ≤ n) && x.cps.toList.all fun c => decide (c < 128)) = true) : Sm n x := by
  rw [Bool.and_eq_true] at h
  exact ⟨of_decide_eq_true h.1, fun c hc => of_decide_eq_true (List.all_eq_true.mp h.2 c hc)⟩
theorem Sm.join : ∀ (ys : List Str), (∀ y ∈ ys, Sm 1 y) → Sm ys.length (Txt.join "" ys) := by
  intro ys h
  rw [show Txt.join "" ys = Str.join "" ys from StrLaws.glued_eq_join "" ys]
  refine ⟨?_, fun c hc => ?_⟩
  · have q := StrLaws.join_length_le "" ys
    have e0 : (("" : Str)).length = 0 := by decide +kernel
    have s : (ys.map (·.length)).sum ≤ ys.length := by
      clear q
      induction ys with
      | nil => exact Nat.le_refl _
      | cons y r ih =>
        have h1 := (h y List.mem_cons_self).le
        have h2 := ih fun z hz => h z (List.mem_cons_of_mem _ hz)
        simp only [List.map_cons, List.sum_cons, List.length_cons]
        omega
    rw [e0] at q
    exact Nat.le_trans q (by simpa using s)
  · have q := (mem_join "" c ys).mp hc
    rcases q with ⟨t, ht, hc⟩ | ⟨_, hc⟩
    · exact (h t ht).lo c hc
    · have e0 : (("" : Str)).cps.toList = [] := by decide +kernel
      rw [e0] at hc
      cases hc
mutual
theorem gd_lay : ∀ d : PyData, gd d = true → d.canLay0 = true
  | .none, _ => by simp only [PyData.canLay0]
  | .bool _, _ => by simp only [PyData.canLay0]
  | .int _, _ => by simp only [PyData.canLay0]
  | .str x, h => by
    simp only [gd, Bool.and_eq_true, List.all_eq_true, decide_eq_true_eq] at h
    simp only [PyData.canLay0, PyData.strOk, Array.all_eq_true]
    intro i hi
    exact decide_eq_true (Nat.lt_trans (h.2 _ (by simp)) (by decide))
  | .list ds, h => by
    simp only [PyData.canLay0]
    exact gds_lay ds (by simpa only [gd] using h)
  | .tuple ds, h => by
    simp only [PyData.canLay0]
    exact gds_lay ds (by simpa only [gd] using h)
  | .dict _, h => by simp [gd] at h
theorem gds_lay : ∀ ds : List PyData, gds ds = true → PyData.canLayAll0 ds = true
  | [], _ => by simp only [PyData.canLayAll0]
  | d :: ds, h => by
    simp only [gds, Bool.and_eq_true] at h
    simp only [PyData.canLayAll0, gd_lay d h.1, gds_lay ds h.2, Bool.and_self]
end
theorem shaped_of {d : PyData} (h : gd d = true) (hd : d.depth ≤ 64) : SeqAt.shaped d = true := by
  show (d.canLay0 && decide (d.depth ≤ 64)) = true
  rw [gd_lay d h, decide_eq_true hd]
  rfl
theorem Box.notin {H : Hp} {p g a : Addr} (b : Box H p g) (h : H a = none) : a ∉ [p, g] := by
  obtain ⟨n, s, t, gs, h1, h2, _⟩ := b.ex
  intro z
  rcases List.mem_cons.mp z with e | z
  · rw [e, h1] at h
    cases h
  · rcases List.mem_cons.mp z with e | z
    · rw [e, h2] at h
      cases h
    · cases z
/-- all of these are tracked -/
def Tr (l : List Addr) (H : Hp) : Prop := ∀ b ∈ l, H b ≠ none
theorem off_new {l : List Addr} {H H' : Hp} {a : Addr} {o : HO} (h : Off l H H') (n : a ∉ l) (hn : H a = none) : Off l H (upd H' a o) := by
  intro b u e
  obtain ⟨nb, e⟩ := cut_some e
  rw [cut_out nb, upd_ne (ne_of_none e hn)]
  exact h.get e nb
theorem Box.put {H : Hp} {p g a : Addr} {o : HO} (b : Box H p g) (n : a ∉ [p, g]) : Box (upd H a o) p g := by
  obtain ⟨x, s, t, gs, h1, h2, h3⟩ := b.ex
  exact ⟨x, s, t, gs, by rw [upd_ne (fun z => n (by simp [← z]))]; exact h1, by rw [upd_ne (fun z => n (by simp [← z]))]; exact h2, h3⟩
theorem few {n : Nat} (h : n ≤ 1000) : n ≤ sizeLine := Nat.le_of_lt (small1000 h)
theorem cut_new {l : List Addr} {H : Hp} {a : Addr} {o : HO} (h : H a = none) : Same (cut l H) (cut l (upd H a o)) := Off.of (same_new h o)
theorem Tr.go {l m : List Addr} {H H' : Hp} (t : Tr l H) (o : Off m H H') (hm : ∀ b ∈ m, H' b ≠ none) : Tr l H' := fun b hb => by
  by_cases e : b ∈ m
  · exact hm b e
  · intro z
    exact t b hb (o.free z e)
theorem Box.tr {H : Hp} {p g : Addr} (b : Box H p g) : H p ≠ none ∧ H g ≠ none := by
  obtain ⟨x, s, t, gs, h1, h2, _⟩ := b.ex
  constructor
  · rw [h1]
    exact fun z => nomatch z
  · rw [h2]
    exact fun z => nomatch z
theorem ne_mem {l : List Addr} {a b : Addr} (n : a ∉ l) (h : b ∈ l) : b ≠ a := fun e => n (by rw [← e]; exact h)
theorem few2 {n : Nat} (h : n ≤ 100000) : n ≤ sizeLine := Nat.le_trans h (by decide)
theorem Tr.out {l : List Addr} {H : Hp} (t : Tr l H) {a : Addr} (h : H a = none) : a ∉ l := fun z => t a z h
theorem Tr.same {l : List Addr} {H H' : Hp} (t : Tr l H) (s : Same H H') : Tr l H' := fun b hb z => by
  cases q : H b with
  | none => exact t b hb q
  | some o =>
    rw [s b o q] at z
    cases z
theorem seqT_cut {K : PySem.W.Frag} {l : List Addr} {H : Hp} {a : Addr} {xs : List V} (h : SqT K (cut l H) a xs) : SqT K H a xs := seqT_up (cut_same l H) h
theorem cutV_all (xs : List V) (lo hi : Option Int) (h : HT.sIx xs.length 0 lo = 0 ∧ HT.sIx xs.length xs.length hi = xs.length) : cutV xs lo hi = xs := by
  unfold cutV
  rw [h.1, h.2]
  simp
/-- t + u, what comes of it, apart from the addresses l -/
def rCatU (K : PySem.W.Frag) : R2 := fun x y H Q => ∃ a b xs ys l, x = .ref a ∧ y = .ref b ∧ SqT K (cut l H) a xs ∧ SqT K (cut l H) b ys ∧ Tr l H ∧ xs.length + ys.length ≤ sizeLine ∧
  ∀ c H', Same H H' → SqT K (cut l H') c (xs ++ ys) → Q (.ref c) H'
theorem op_catU {X : Cx} : OpR X (binaryOp .Add) (rCatU X.K) := by
  intro pins s σ H x y v u Q I rx ry h
  obtain ⟨a, b, xs, ys, l, rfl, rfl, ha, hb, tl, hz, q⟩ := h
  refine op_catA pins s σ H _ _ v u Q I rx ry ⟨a, b, xs, ys, rfl, rfl, seqT_cut ha, seqT_cut hb, hz, ?_, ?_, ?_⟩
  · intro e
    exact q b H (Same.refl H) (by rw [e]; exact hb)
  · intro _ e
    exact q a H (Same.refl H) (by rw [e, List.append_nil]; exact ha)
  · intro _ _ c hc
    exact q c _ (same_new hc _) (.inl (.inl (by rw [cut_out (tl.out hc)]; exact upd_same)))
def rSlU (K : PySem.W.Frag) : V → Option Int → Option Int → Hp → VK → Prop := fun x lo hi H Q => ∃ a xs l, x = .ref a ∧ SqT K (cut l H) a xs ∧ Tr l H ∧
  ∀ c H', Same H H' → SqT K (cut l H') c (cutV xs lo hi) → Q (.ref c) H'
theorem sl_tupU {X : Cx} : SlR X (rSlU X.K) := by
  intro pins s σ H x v vl vu lo hi sl Q I rx hs pl pu h
  obtain ⟨a, xs, l, rfl, ha, tl, q⟩ := h
  refine sl_tupA pins s σ H _ v vl vu lo hi sl Q I rx hs pl pu ⟨a, xs, rfl, seqT_cut ha, ?_, ?_⟩
  · intro e
    exact q a H (Same.refl H) (by rw [cutV_all xs lo hi e]; exact ha)
  · intro _ c hc
    exact q c _ (same_new hc _) (.inl (.inl (by rw [cut_out (tl.out hc)]; exact upd_same)))
theorem cutV_take (xs : List V) {r : Int} (h0 : 0 ≤ r) (h : r ≤ (xs.length : Int)) : cutV xs none (some r) = xs.take r.toNat := by
  obtain ⟨n, rfl⟩ := Int.eq_ofNat_of_zero_le h0
  unfold cutV
  rw [HT.sIx_none, HT.sIx_nat]
  have : min n xs.length = n := by omega
  rw [this]
  rfl
theorem cutV_drop (xs : List V) {r : Int} (h0 : 0 ≤ r) (h : r ≤ (xs.length : Int)) : cutV xs (some r) none = xs.drop r.toNat := by
  obtain ⟨n, rfl⟩ := Int.eq_ofNat_of_zero_le h0
  unfold cutV
  rw [HT.sIx_none, HT.sIx_nat]
  have : min n xs.length = n := by omega
  rw [this]
  exact List.take_of_length_le (by rw [List.length_drop]; exact Nat.le_refl _)
/-! errors under KeyError, too: what the base says -/
abbrev keT : List Value := [.type "KeyError", .type "LookupError", .type "Exception", .type "BaseException", .type "object"]
abbrev veT : List Value := [.type "ValueError", .type "Exception", .type "BaseException", .type "object"]
theorem ke_pass (self : Value) : refuseLoop self "__setattr__" keT = pure () := by kernel_rfl
theorem ve_pass (self : Value) : refuseLoop self "__setattr__" veT = pure () := by kernel_rfl
/-- own classes, then T -/
def tlB (T : List Value) : List Value → Bool
  | .ref _ :: r => tlB T r
  | l => l == T
theorem tl_cases (T : List Value) : ∀ l : List Value, tlB T l = true → (∃ c r, l = .ref c :: r ∧ tlB T r = true) ∨ l = T
  | [], e => .inr (beq_iff_eq.mp e)
  | .ref c :: r, e => .inl ⟨c, r, rfl, e⟩
  | .none :: _, e => .inr (beq_iff_eq.mp e)
  | .ellipsis :: _, e => .inr (beq_iff_eq.mp e)
  | .notImplemented :: _, e => .inr (beq_iff_eq.mp e)
  | .bool _ :: _, e => .inr (beq_iff_eq.mp e)
  | .int _ _ :: _, e => .inr (beq_iff_eq.mp e)
  | .float _ _ :: _, e => .inr (beq_iff_eq.mp e)
  | .str _ _ :: _, e => .inr (beq_iff_eq.mp e)
  | .bytes _ _ :: _, e => .inr (beq_iff_eq.mp e)
  | .type _ :: _, e => .inr (beq_iff_eq.mp e)
  | .builtin _ :: _, e => .inr (beq_iff_eq.mp e)
section
variable {T : List Value}
theorem tl_ind {P : List Value → Prop} (h0 : P T) (hs : ∀ c r, P r → P (.ref c :: r)) : ∀ l : List Value, tlB T l = true → P l := by
  intro l
  induction l with
  | nil =>
    intro e
    rcases tl_cases T [] e with ⟨c, r, q, _⟩ | q
    · cases q
    · rw [q]
      exact h0
  | cons a r ih =>
    intro e
    rcases tl_cases T (a :: r) e with ⟨c, r', q, h⟩ | q
    · obtain ⟨rfl, rfl⟩ := List.cons.inj q
      exact hs _ _ (ih h)
    · rw [q]
      exact h0
theorem tl_pass (self : Value) (h0 : refuseLoop self "__setattr__" T = pure ()) : ∀ l : List Value, tlB T l = true → refuseLoop self "__setattr__" l = pure () :=
  tl_ind h0 fun c r ih => by
    rw [refuseLoop_ref]
    exact ih
theorem tl_has (x : String) : ∀ l : List Value, tlB T l = true → l.contains (.type x) = T.contains (.type x) :=
  tl_ind rfl fun c r ih => by
    rw [List.contains_cons, ih]
    rfl
theorem tl_ne (h0 : T.isEmpty = false) : ∀ l : List Value, tlB T l = true → l.isEmpty = false := tl_ind h0 fun c r ih => rfl
end
/-- what is said of the two bases: the id that makes, its owner, the rest of the order of classes -/
structure EBase (B newId initId : String) (bmF T : List Value) : Prop where
  F : ExcBaseFacts B newId initId bmF
  hasB : T.contains (.type B) = true
  noA : T.contains (.type "AttributeError") = false
  noN : T.contains (.type "NameError") = false
  ob : T.contains (.type "object") = true
  ne : T.isEmpty = false
  pass : ∀ self, refuseLoop self "__setattr__" T = pure ()
theorem eb_ve : EBase "ValueError" "ValueError.__new__" "ValueError.__init__" veT veT := ⟨PySem.F.excBase_ValueError, by decide +kernel, by decide +kernel, by decide +kernel, by decide +kernel, rfl, ve_pass⟩
theorem eb_ke : EBase "LookupError" "LookupError.__new__" "LookupError.__init__" [.type "LookupError", .type "Exception", .type "BaseException", .type "object"] keT := ⟨PySem.F.excBase_LookupError, by decide +kernel, by decide +kernel, by decide +kernel, by decide +kernel, rfl, ke_pass⟩
section
variable {M : Model} {A : Around} {E : Value → Shared → Prop} {h : Heap} {g : Array GenState} {d : Drawn} {t : Nat} {os : OsState}
variable {nm q : Str} {C N : Addr} {bs bm bmF T : List Value} {hdct : Bool} {sn : List Str} {sub : List Value} {ab : Bool} {col : Option Bool} {dd : Option Addr} {k0 k1 k2 k3 k5 : Option Value} {B newId initId : String}
theorem e_check (F : EBase B newId initId bmF T) (ht : tlB T bm = true) {rest : List Value} {kw : List (Str × Value)} {Q : Unit → Shared → Prop}
    (hC : h.get? C = some (excClassObj nm q C N bs bm hdct sn sub ab col dd k0 k1 k2 k3 k5 newId)) (hq : Q () ⟨h, g, d, t, os⟩) : wpAny M A (checkBuiltinCall newId ⟨.ref C :: rest, kw⟩) Q E ⟨h, g, d, t, os⟩ := by
  have hcont : (Value.ref C :: bm).contains (.type B) = true := by rw [List.contains_cons, tl_has B bm ht, F.hasB, Bool.or_true]
  have hstar := F.F.noStar
  simp only [checkBuiltinCall, F.F.newKind, F.F.newSplit, F.F.newRow]
  repeat (first | refine wpAny_loadPart_at hC ?_ | (refine wpAny_isSubtype_exc hC ?_; rw [hcont]) | refine wpAny_staticBase_exc hC ?_ | (refine wpAny_madeBy_exc hC ?_) | simp only [bne_self_eq_false, Bool.false_eq_true, if_false] | wp_step)
  exact hq
theorem e_checkT {rest : List Value} {kw : List (Str × Value)} {Q : Unit → Shared → Prop} (hC : h.get? C = some (excClassObj nm q C N bs bm hdct sn sub ab col dd k0 k1 k2 k3 k5 newId))
    (hq : Q () ⟨h, g, d, t, os⟩) : wpAny M A (checkBuiltinCall "type.__call__" ⟨.ref C :: rest, kw⟩) Q E ⟨h, g, d, t, os⟩ := by
  have f3 := tc_sub
  have hT : (⟨h, g, d, t, os⟩ : Shared).TypeIs (.ref C) "type" := ⟨_, hC, rfl⟩
  simp only [checkBuiltinCall, tc_kind, tc_split]
  repeat (any_goals (first | (assumption) | with_reducible refine wpAny_loadPart_at hC ?_ | with_reducible refine wpAny_onRaise ?_ | with_reducible refine wpAny_map ?_ | wp_step))
end
section
variable {prog : Program} {w : World} {A : Around} {E : Value → Shared → Prop} {R : Result → Shared → Prop} {h : Heap} {g : Array GenState} {d : Drawn} {t : Nat} {os : OsState}
variable {nm q : Str} {C N : Addr} {bs bm bmF T : List Value} {hdct : Bool} {sn : List Str} {sub : List Value} {ab : Bool} {col : Option Bool} {dd : Option Addr} {k0 k1 k2 k3 k5 : Option Value} {B newId initId : String}
theorem e_new (F : EBase B newId initId bmF T) (ht : tlB T bm = true) {rest : List Value} {kw : List (Str × Value)}
    (hC : h.get? C = some (excClassObj nm q C N bs bm hdct sn sub ab col dd k0 k1 k2 k3 k5 newId))
    (hq : R (.ok (.ret (.ref (h.objs.size + 1)))) ⟨(h.push (W.kdv_tup rest)).push (HandSPX.excO C h.objs.size), g, d, t, os⟩) (hrest : rest.length ≤ sizeLine) :
    codeAny (model prog w) A (.builtin newId ⟨.ref C :: rest, kw⟩) R ⟨h, g, d, t, os⟩ := by
  have hends := F.F.ends
  have hcB : (Value.ref C :: bm).contains (.type B) = true := by rw [List.contains_cons, tl_has B bm ht, F.hasB, Bool.or_true]
  have hcA : (Value.ref C :: bm).contains (.type "AttributeError") = false := by rw [List.contains_cons, tl_has _ bm ht, F.noA]; rfl
  have hcN : (Value.ref C :: bm).contains (.type "NameError") = false := by rw [List.contains_cons, tl_has _ bm ht, F.noN]; rfl
  refine codeAny_builtinAt F.F.entry ?_
  unfold Builtin.«BaseException.__new__»
  refine PySem.wpAt_bind ?_
  show PySem.wpAt _ _ _ (stack >>= _) _ _ _
  refine PySem.wpAt_bind (PySem.wpAt_stack (fun p below => PySem.wpAt_of_wpAny ?_))
  wp_walk
  refine PySem.wpAt_of_wpAny ?_
  rw [F.F.owner]
  repeat (first | with_reducible refine wpAny_madeHere_exc F.F.canon hC ?_ | with_reducible refine wpAny_loadPart_at hC ?_ | (with_reducible refine wpAny_isSubtype_exc hC ?_; first | rw [hcB] | rw [hcA] | rw [hcN]) | wp_step)
  show R _ _
  rw [Heap.size_push]
  exact hq
theorem e_tcall (F : EBase B newId initId bmF T) (ht : tlB T bm = true) {rest : List Value} {kw : List (Str × Value)} {fI : Addr} {Q : Fin → Shared → Prop}
    (hC : h.get? C = some (excClassObj nm q C N bs bm hdct sn sub ab col dd k0 k1 k2 k3 k5 newId))
    (hi : W.Looks (model prog w) h (typeLookup (.ref C) "__init__") (some (.ref fI))) (hb : ∀ self, W.Looks (model prog w) h (bindSpecial (.ref fI) self) (.ref fI, [self])) (hrest : rest.length ≤ sizeLine)
    (hq : codeAny (model prog w) A (.call (.ref fI) ⟨.ref (h.objs.size + 1) :: rest, kw⟩)
      (fun r s' => match r with | .ok (.ret v) => v = .none ∧ Q (.done (.ret (.ref (h.objs.size + 1)))) s' | .ok _ => False | .error e => E e s')
      ⟨(h.push (W.kdv_tup rest)).push (HandSPX.excO C h.objs.size), g, d, t, os⟩) :
    wpAny (model prog w) A (Builtin.«type.__call__» ⟨.ref C :: rest, kw⟩) Q E ⟨h, g, d, t, os⟩ := by
  repeat (first | with_reducible refine wpAny_loadPart_at hC ?_ | with_reducible refine wpAny_madeBy_exc hC ?_ | wp_step)
  refine codeAny_call_builtin_code (Code.quiet_builtin _ F.F.quiet) (e_check F ht hC ?_)
  refine e_new F ht hC ?_ hrest
  show wpAny _ _ _ _ _ _
  have k : ∀ b o, h.get? b = some o → ((h.push (W.kdv_tup rest)).push (HandSPX.excO C h.objs.size)).get? b = some o := fun b o e => Heap.get?_push_of_some _ (Heap.get?_push_of_some _ e)
  have hC₁ := k _ _ hC
  have hget : ((h.push (W.kdv_tup rest)).push (HandSPX.excO C h.objs.size)).get? (h.objs.size + 1) = some (HandSPX.excO C h.objs.size) := by heap_get
  have hcC : (Value.ref C :: bm).contains (.ref C) = true := by simp
  have i1 := hi.keeps k
  have b1 := (hb (.ref (h.objs.size + 1))).keeps k
  unfold isInstance
  repeat (first | with_reducible refine wpAny_loadPart_at hget ?_ | (with_reducible refine wpAny_isSubtype_exc hC₁ ?_; (rw [hcC])) | wp_step)
  show wpAny _ _ (typeLookup (.ref C) _) _ _ _
  refine i1.at ?_
  refine wpAny_holding (wpAny_bind (b1.at ?_))
  refine wpAny_bind (wpAny_call (codeAny_mono hq (fun r s' z => ?_)))
  rcases r with e | (v | _ | _ | _) <;> first | exact z | exact z.elim | skip
  obtain ⟨rfl, z⟩ := z
  first
    | exact wpAny_pure (wpAny_pure z)
    | (wp_walk; exact z)
theorem e_call (F : EBase B newId initId bmF T) (ht : tlB T bm = true) {rest : List Value} {kw : List (Str × Value)} {fI : Addr}
    (hC : h.get? C = some (excClassObj nm q C N bs bm hdct sn sub ab col dd k0 k1 k2 k3 k5 newId))
    (hi : W.Looks (model prog w) h (typeLookup (.ref C) "__init__") (some (.ref fI))) (hb : ∀ self, W.Looks (model prog w) h (bindSpecial (.ref fI) self) (.ref fI, [self])) (hrest : rest.length ≤ sizeLine)
    (hq : codeAny (model prog w) (A.under (.builtin "type.__call__" ⟨.ref C :: rest, kw⟩)) (.call (.ref fI) ⟨.ref (h.objs.size + 1) :: rest, kw⟩) (W.InitBack (h.objs.size + 1) R)
      ⟨(h.push (W.kdv_tup rest)).push (HandSPX.excO C h.objs.size), g, d, t, os⟩) :
    codeAny (model prog w) A (.call (.ref C) ⟨rest, kw⟩) R ⟨h, g, d, t, os⟩ := by
  have f1 := tc_lookup
  have f2 := tc_bind (.ref C)
  have hTy : (⟨h, g, d, t, os⟩ : Shared).TypeIs (.ref C) "type" := ⟨_, hC, rfl⟩
  refine codeAny_of_tree ?_
  show wpAny _ _ (callAny (.ref C) _) _ _ _
  repeat (any_goals (first | assumption | with_reducible refine wpAny_loadPart_at hC ?_ | wp_step))
  refine ⟨rfl, ?_⟩
  refine codeAny_call_builtin_at (Code.quiet_builtin _ (by decide +kernel)) entry_typeCall (e_checkT hC (e_tcall F ht hC hi hb hrest ?_))
  refine codeAny_mono hq (fun r s' z => ?_)
  rcases r with e | (v | _ | _ | _) <;> exact z
end
/-! errors under ValueError or KeyError, with an __init__ of their own: made, kept as values, looked at -/
section
open PySem.W PySem.Calls
variable {prog : Program} {w : World} {A : Around} {E : Value → Shared → Prop} {R : Result → Shared → Prop} {hp : Heap} {g : Array GenState} {d : Drawn} {t : Nat} {os : OsState}
theorem e_osa {K : W.Frag} {name : Str} {tk : Tok} {v : Value} {x C : Addr} {fv : Array Value} {cd : ClassData} (X : K.In hp) (hx : hp.get? x = some { cls := .ref C, data := .fields fv }) (hcd : W.clsIn K C = some cd)
    (hps : ∀ self, refuseLoop self "__setattr__" cd.mro = pure ()) (ne : cd.mro.isEmpty = false) (hob : cd.mro.contains (.type "object") = true) (hh : cd.hasDict = true) (ha : W.findIn K (.ref C) name = some none)
    (hq : ∀ h' tk' dx, (∀ b o, b ≠ x → hp.get? b = some o → h'.get? b = some o) → hp.objs.size ≤ dx → dx ≠ x → h'.get? x = some { cls := .ref C, dict := some dx, data := .fields fv } →
      h'.Ns1 dx (fun y => if y = name then some v else none) → R (.ok (.ret .none)) ⟨h', g, d, tk', os⟩) :
    codeAny (model prog w) A (.call (.builtin "object.__setattr__") ⟨[.ref x, .str name tk, v], []⟩) R ⟨hp, g, d, t, os⟩ := by
  have I : W.InstAt hp x { cls := .ref C, data := .fields fv } C none := ⟨hx, rfl, rfl, trivial⟩
  have SF := F.store_object
  have hxs : x ≠ hp.objs.size := Nat.ne_of_lt (Heap.lt_size hx)
  have sub : W.Looks (model prog w) hp (isInstance (.ref x) (.type "object")) true := I.type.andThen (W.looks_mroIn X (by unfold W.mroIn; rw [hcd, Option.bind_some, if_neg (by rw [ne]; decide), hob]))
  refine codeAny_call_builtin SF.slot.plain SF.entry (@W.check_slot (model prog w) _ _ ⟨hp, g, d, t, os⟩ "object.__setattr__" "object" "__setattr__" (.ref x) [.str name tk, v] [] _ SF.kind SF.split sub (SF.args (.ref x) (.str name tk) v) ?_)
  have hmr : W.Looks (model prog w) hp (mroOf (.ref C)) cd.mro := (W.looks_clsIn X hcd).andThen .now
  have L3 : W.Looks (model prog w) hp (Builtin.ObjectAttr.storeTaker? none) none := .now
  have hcls : W.Looks (model prog w) hp (classData C) cd := W.looks_clsIn X hcd
  rw [W.osa_eq, refuse_eq]
  refine wpAny_bind (wpAny_bind (I.type.at (wpAny_bind (hmr.at ?_))))
  rw [hps]
  refine wpAny_pure (wpAny_bind (I.type.at (wpAny_bind ((W.looks_findIn X ha).at (wpAny_bind (L3.at ?_))))))
  show wpAny _ _ (Builtin.ObjectAttr.storeInOwnDict (.ref x) (.ref C) (.str name tk) name v false) _ _ _
  obtain ⟨nm, bs, mro, ns, qn, hd, sn, sb, ab, col, del⟩ := cd
  dsimp only at hh
  subst hh
  unfold Builtin.ObjectAttr.storeInOwnDict Builtin.ObjectAttr.ownDictForStores
  repeat (first | with_reducible refine HandSPX.store_in_new ?_ ?_ | with_reducible refine wpAny_loadPart_at hx ?_ | with_reducible refine hcls.at ?_ | wp_step)
  · exact ⟨_, #[], _, (Heap.get?_update_ne _ _ _ _ hxs.symm).trans (Heap.get?_push_at rfl rfl), rfl, (fun e he => absurd he (by simp)), fun _ => rfl⟩
  · intro h' tk' hn' hs
    have hx₁ : (hp.push { cls := .type "dict", data := .dict #[] }).get? x = some { cls := .ref C, data := .fields fv } := Heap.get?_push_of_some _ hx
    refine hq h' tk' hp.objs.size (fun b o hb ho => ?_) (Nat.le_refl _) hxs.symm ?_ hn'
    · exact (hs.2 b (Nat.ne_of_lt (Heap.lt_size ho))).trans ((Heap.get?_update_ne _ _ _ _ hb).trans (Heap.get?_push_of_some _ ho))
    · exact (hs.2 x hxs).trans (Heap.get?_update_self _ hx₁ rfl)
theorem e_osb {K : W.Frag} {name : Str} {tk : Tok} {v : Value} {x C dx : Addr} {fv : Array Value} {cd : ClassData} {m0 : Str → Option Value} {nl : List Str} (X : K.In hp) (hx : hp.get? x = some { cls := .ref C, dict := some dx, data := .fields fv })
    (hns : hp.Ns1 dx m0) (hw : Within m0 nl) (hz : nl.length ≤ 1000) (hcd : W.clsIn K C = some cd)
    (hps : ∀ self, refuseLoop self "__setattr__" cd.mro = pure ()) (ne : cd.mro.isEmpty = false) (hob : cd.mro.contains (.type "object") = true) (hh : cd.hasDict = true) (ha : W.findIn K (.ref C) name = some none)
    (hq : ∀ h' tk', (∀ b o, b ≠ dx → hp.get? b = some o → h'.get? b = some o) → h'.Ns1 dx (fun y => if y = name then some v else m0 y) → R (.ok (.ret .none)) ⟨h', g, d, tk', os⟩) :
    codeAny (model prog w) A (.call (.builtin "object.__setattr__") ⟨[.ref x, .str name tk, v], []⟩) R ⟨hp, g, d, t, os⟩ := by
  obtain ⟨oD, esD, epD, hoD, hdD, _⟩ := hns.count hw
  have I : W.InstAt hp x { cls := .ref C, dict := some dx, data := .fields fv } C (some oD) := ⟨hx, rfl, rfl, hoD⟩
  have SF := F.store_object
  have sub : W.Looks (model prog w) hp (isInstance (.ref x) (.type "object")) true := I.type.andThen (W.looks_mroIn X (by unfold W.mroIn; rw [hcd, Option.bind_some, if_neg (by rw [ne]; decide), hob]))
  refine codeAny_call_builtin SF.slot.plain SF.entry (@W.check_slot (model prog w) _ _ ⟨hp, g, d, t, os⟩ "object.__setattr__" "object" "__setattr__" (.ref x) [.str name tk, v] [] _ SF.kind SF.split sub (SF.args (.ref x) (.str name tk) v) ?_)
  have hmr : W.Looks (model prog w) hp (mroOf (.ref C)) cd.mro := (W.looks_clsIn X hcd).andThen .now
  have L3 : W.Looks (model prog w) hp (Builtin.ObjectAttr.storeTaker? none) none := .now
  have hcls : W.Looks (model prog w) hp (classData C) cd := W.looks_clsIn X hcd
  rw [W.osa_eq, refuse_eq]
  refine wpAny_bind (wpAny_bind (I.type.at (wpAny_bind (hmr.at ?_))))
  rw [hps]
  refine wpAny_pure (wpAny_bind (I.type.at (wpAny_bind ((W.looks_findIn X ha).at (wpAny_bind (L3.at ?_))))))
  show wpAny _ _ (Builtin.ObjectAttr.storeInOwnDict (.ref x) (.ref C) (.str name tk) name v false) _ _ _
  obtain ⟨nm, bs, mro, ns, qn, hd, sn, sb, ab, col, del⟩ := cd
  dsimp only at hh
  subst hh
  unfold Builtin.ObjectAttr.storeInOwnDict Builtin.ObjectAttr.ownDictForStores
  repeat (first | with_reducible refine OEX.store_in_old hns hw hz ?_ | with_reducible refine wpAny_loadPart_at hx ?_ | with_reducible refine hcls.at ?_ | wp_step)
  intro h' tk' hn' hs
  exact hq h' tk' (fun b o hb ho => (hs.2 b hb).trans ho) hn'
end
/-- what the written part says of an own error class that has an __init__ -/
structure ExK (K : PySem.W.Frag) (C : Addr) : Prop where
  cls : ∃ B newId initId bmF T nm q N bs bm sn sub ab col dd k0 k1 k2 k3 k5, EBase B newId initId bmF T ∧ K.lookup C = some (excClassObj nm q C N bs bm true sn sub ab col dd k0 k1 k2 k3 k5 newId) ∧ tlB T bm = true
  sa : PySem.W.findIn K (.ref C) "__setattr__" = some (some (.builtin "object.__setattr__"))
  exC : PySem.W.subIn K (.ref C) (.type "BaseException") = some true
  tyC : PySem.W.typeIn K (.ref C) = some (.type "type")
  kC : PySem.W.keepIn K (.ref C) = true
theorem ExK.cd {K : PySem.W.Frag} {C : Addr} (T : ExK K C) : ∃ cd, PySem.W.clsIn K C = some cd ∧ (∀ self, refuseLoop self "__setattr__" cd.mro = pure ()) ∧ cd.mro.isEmpty = false ∧ cd.mro.contains (.type "object") = true ∧ cd.hasDict = true := by
  obtain ⟨B, newId, initId, bmF, T0, nm, q, N, bs, bm, sn, sub, ab, col, dd, k0, k1, k2, k3, k5, F, hC, hbm⟩ := T.cls
  have h2 : tlB T0 (.ref C :: bm) = true := hbm
  exact ⟨{ name := nm, bases := bs, mro := .ref C :: bm, ns := N, qualname := q, hasDict := true, slotNames := sn, subclasses := sub, abstract := ab, collection := col, hasDel := false }, by (unfold PySem.W.clsIn; rw [hC] <;> rfl),
    fun self => tl_pass self (F.pass self) _ h2, rfl, (tl_has "object" _ h2).trans F.ob, rfl⟩
section
variable {X : Cx} {pins : List (Addr × Obj)} {σ : L2.St} {H : Hp} {s : Shared} {a C dx : Addr} {f : Str} {y : V} {u : Value} {fs : List (Str × V)} {Q : Unit → Shared → Prop} {E : Value → Shared → Prop} {A : Around}
/-- the first attribute -/
theorem e_st1 (T : ExK X.K C) (I : Inv X pins σ H s) (e : H a = some (exo a C none)) (hno : PySem.W.findIn X.K (.ref C) f = some none) (ry : RelV y u)
    (h : ∀ dx s', H dx = none → dx ≠ a → Inv X pins σ (upd (upd H dx (exd dx [(f, y)])) a (exo a C (some dx))) s' → Q () s') : wpAny (model X.prog X.w) A (setAttr (.ref a) f u) Q E s := by
  obtain ⟨cd, hcl, hp0, hne, hob, hdc⟩ := T.cd
  obtain ⟨t1, ho⟩ := exo_at I.hok e
  obtain ⟨hp, g, d, t, os⟩ := s
  refine PySem.W.set_plain I.kIn (ox := { cls := .ref C, dict := none, data := .fields #[.ref t1, .none, .none, .none, .bool false, .none] }) (od := none) ⟨ho, rfl, rfl, trivial⟩ T.sa ?_
  refine e_osa I.kIn ho hcl hp0 hne hob hdc hno (fun h' tk' dx k dn dne hx hn => ?_)
  have hnd : H dx = none := I.hok.fresh dn
  have nd : ∀ {b : Addr} {o : Obj}, hp.get? b = some o → b ≠ dx := fun {b o} q => Nat.ne_of_lt (Nat.lt_of_lt_of_le (Heap.lt_size q) dn)
  have na : ∀ {b : Addr}, H b = none → b ≠ a := fun {b} n z => by
    rw [z, e] at n
    cases n
  have Un1 : Un X.fs [] H (upd (upd H dx (exd dx [(f, y)])) a (exo a C (some dx))) hp h' := ⟨fun b o q n _ _ => k b o (na n) q, fun b o q n _ _ => ⟨o.slots, k b o (na n) q⟩,
    fun b o q n _ => by (rw [upd_ne (na n), upd_ne (nd q)]; exact n),
    fun b o q _ => by
      by_cases hb : b = a
      · exact ⟨_, by (rw [hb]; exact hx)⟩
      · exact ⟨o, k b o hb q⟩,
    fun b xs q => by (rw [upd_ne (at_ne e q exo_tup), upd_ne (ne_of_none q hnd)]; exact q),
    fun b o v q => by (rw [upd_ne (at_ne e q exo_frz), upd_ne (ne_of_none q hnd)]; exact q),
    fun b ps q => ⟨#[], by (rw [upd_ne (at_ne e q exo_tbl), upd_ne (ne_of_none q hnd), q]; simp)⟩⟩
  refine h dx _ hnd dne (I.un (t' := tk') Un1 (fun b o q => ?_))
  by_cases hb : b = a
  · subst hb
    rw [upd_same] at q
    cases q
    exact exo_ok hx
  · rw [upd_ne hb] at q
    by_cases hd : b = dx
    · subst hd
      rw [upd_same] at q
      cases q
      exact exd_ok hn (relO_put (fs := []) ry (fun g => True.intro))
    · rw [upd_ne hd] at q
      refine (I.hok b o q).stay (fun c v hc z => k c v ?_ z) (fun c hc => ?_) (fun c xs hc => ?_)
      · rcases hc with hc | hc
        · rw [hc]
          exact hb
        · exact at_ne e hc exo_own
      · rw [upd_ne (at_ne e hc exo_own), upd_ne (ne_of_none hc hnd)]
        exact hc
      · rw [upd_ne (at_ne e hc exo_tup), upd_ne (ne_of_none hc hnd)]
        exact hc
/-- a further attribute -/
theorem e_st2 (T : ExK X.K C) (I : Inv X pins σ H s) (e : H a = some (exo a C (some dx))) (ed : H dx = some (exd dx fs)) (hl : fs.length ≤ 900) (hno : PySem.W.findIn X.K (.ref C) f = some none) (ry : RelV y u)
    (h : ∀ s', Inv X pins σ (upd H dx (exd dx ((f, y) :: fs))) s' → Q () s') : wpAny (model X.prog X.w) A (setAttr (.ref a) f u) Q E s := by
  obtain ⟨cd, hcl, hp0, hne, hob, hdc⟩ := T.cd
  obtain ⟨t1, ho⟩ := exo_at I.hok e
  obtain ⟨mA, hns, rel⟩ := exd_at I.hok ed
  have hw := within_of rel
  obtain ⟨hp, g, d, t, os⟩ := s
  obtain ⟨oD, _, _, hoD, _, _⟩ := hns.count hw
  refine PySem.W.set_plain I.kIn (ox := { cls := .ref C, dict := some dx, data := .fields #[.ref t1, .none, .none, .none, .bool false, .none] }) (od := some oD) ⟨ho, rfl, rfl, hoD⟩ T.sa ?_
  refine e_osb I.kIn ho hns hw (by (rw [List.length_map]; omega)) hcl hp0 hne hob hdc hno (fun h' tk' k hn => ?_)
  have hd : ∃ o, h'.get? dx = some o := by
    obtain ⟨o, _, _, e', _⟩ := hn
    exact ⟨o, e'⟩
  exact h _ (I.write (t' := tk') (x := dx) (e := dx) (o := exd dx ((f, y) :: fs)) (by rw [ed]; exact True.intro) (.inl rfl) k hd (exd_ok hn (relO_put ry rel)))
end
/-- self.f = e -/
def tOsK (K : PySem.W.Frag) (f : Str) (to te : TE) : TS := fun D σ H => te σ H fun y H1 => to σ H1 fun x H2 => ∃ a C : Addr, x = .ref a ∧ ExK K C ∧ PySem.W.findIn K (.ref C) f = some none ∧
  ((H2 a = some (exo a C none) ∧ ∀ dx, H2 dx = none → dx ≠ a → D.nx σ (upd (upd H2 dx (exd dx [(f, y)])) a (exo a C (some dx)))) ∨
    ∃ (dx : Addr) (fs : List (Str × V)), H2 a = some (exo a C (some dx)) ∧ H2 dx = some (exd dx fs) ∧ fs.length ≤ 900 ∧ D.nx σ (upd H2 dx (exd dx ((f, y) :: fs))))
/-- C(e, ..), kept as a value -/
def tMkE (C : Addr) (sp : Sp) (ta : TA) : TE := fun σ H Q => ta σ H fun vs H1 => vs.length ≤ 900 ∧ ∀ a, H1 a = none → sp (.ref a :: vs) (upd H1 a (exo a C none)) (fun v H2 => v = .non ∧ Q (.ref a) H2) fun _ _ _ => False
/-- C(k = v, ..) -/
def tMkEK (C : Addr) (m : Nat) (sp : Sp) (gV : List V → List V → List V) (tk : TA) : TE := fun σ H Q => tk σ H fun zs H1 => zs.length = m ∧ ∀ a, H1 a = none → sp (gV [.ref a] zs) (upd H1 a (exo a C none)) (fun v H2 => v = .non ∧ Q (.ref a) H2) fun _ _ _ => False
section
variable {X : Cx} {CX : CXT} {k : Nat} {C fI : Addr} {fd : FuncData} {ps ks : List Str} {sp : Sp} {o e : Expr} {es : List Expr} {to te : TE} {ta tk : TA} {f x : Str} {p p' pos : Pos} {g : List Value → List Value → List Value} {gV : List V → List V → List V} {kws : List Keyword}
theorem ps_osK (ho : PE X o to) (he : PE X e te) (hs : swapsWith e (some (.Attribute o f p')) pos.line X.env = pure false := by rfl) : PS X (.Assign [.Attribute o f p'] e pos) (tOsK X.K f to te) := by
  refine ⟨fun pins s σ H D I h => ?_⟩
  refine plainObj_wpAny_Assign_Attribute (thn (he.run pins s σ H _ I h) fun v s1 ⟨y, H1, I1, r1, q1⟩ => thn (ho.run pins s1 σ H1 _ I1 q1) fun u s2 ⟨x, H2, I2, r2, a, C, ex, T, hno, q⟩ => ?_) hs
  subst ex
  obtain rfl : u = Value.ref a := r2
  rcases q with ⟨ea, q⟩ | ⟨dx, fs, ea, ed, hl, q⟩
  · exact e_st1 T I2 ea hno r1 (fun dx s' n ne J => ⟨σ, _, J, q dx n ne⟩)
  · exact e_st2 T I2 ea ed hl hno r1 (fun s' J => ⟨σ, _, J, q⟩)
/-- the class is called -/
theorem run_mkE {pins : List (Addr × Obj)} {σ : L2.St} {H : Hp} {s : Shared} {Q : VK} {us : List Value} {kw : List (Str × Value)} {xs : Addr → List Value} {vs : Addr → List V} (T : ExK X.K C) (iC : PySem.W.findIn X.K (.ref C) "__init__" = some (some (.ref fI)))
    (tI : PySem.W.typeIn X.K (.ref fI) = some (.type "function")) (F1 : FnOk X.prog X.w X.K X.mg X.base CX k fI fd ps sp) (hr : Room (k + 1) X.A) (hx : Passes CX X (fun _ _ _ => False)) (I : Inv X pins σ H s) (hus : us.length ≤ 900)
    (hb : ∀ (s' : Shared) a, X.K.In s'.heap → BindsTo s' fd ⟨.ref a :: us, kw⟩ (ps.zip (xs a))) (r : ∀ a, Vals (vs a) (xs a))
    (h : ∀ a, H a = none → sp (vs a) (upd H a (exo a C none)) (fun v H2 => v = .non ∧ Q (.ref a) H2) fun _ _ _ => False) : wpAny (model X.prog X.w) X.A (call (.ref C) us kw) (EP X pins σ Q) X.xe s := by
  obtain ⟨B, newId, initId, bmF, T0, nm, q, N, bs, bm, sn, sub, ab, col, dd, k0, k1, k2, k3, k5, F, hC, hbm⟩ := T.cls
  obtain ⟨hp, g, dr, tk, os⟩ := s
  have hsz : hp.objs.size ≤ hp.objs.size + 1 := Nat.le_succ _
  have hn : H (hp.objs.size + 1) = none := I.hok.fresh hsz
  have hq := h (hp.objs.size + 1) hn
  have kk : ∀ b o, hp.get? b = some o → ((hp.push (PySem.W.kdv_tup us)).push (PySem.HandSPX.excO C hp.objs.size)).get? b = some o := fun b o e => Heap.get?_push_of_some _ (Heap.get?_push_of_some _ e)
  have hget : ((hp.push (PySem.W.kdv_tup us)).push (PySem.HandSPX.excO C hp.objs.size)).get? (hp.objs.size + 1) = some (PySem.HandSPX.excO C hp.objs.size) := by heap_get
  have I2 : Inv X pins σ (upd H (hp.objs.size + 1) (exo (hp.objs.size + 1) C none)) ⟨(hp.push (PySem.W.kdv_tup us)).push (PySem.HandSPX.excO C hp.objs.size), g, dr, tk, os⟩ :=
    I.laid (t' := tk) (a := hp.objs.size + 1) (o := exo (hp.objs.size + 1) C none) (h' := (hp.push (PySem.W.kdv_tup us)).push (PySem.HandSPX.excO C hp.objs.size)) kk hsz (exo_ok hget)
  refine wpAny_call (e_call F hbm (I.kIn _ _ hC) (PySem.W.looks_findIn I.kIn iC) (fun self => PySem.W.bind_fn I.kIn self tI) (by (rw [sizeLine_eq]; omega))
    (codeAny_mono (F1.run _ X.stack _ _ ⟨Value.ref (hp.objs.size + 1) :: us, kw⟩ (xs (hp.objs.size + 1)) _ _ (fun _ _ _ => False) (hr.make C us kw) (I2.env0.make C us kw) (hb _ _ I2.kIn) (r _) hq) fun r s' hq' => ?_))
  cases r with
  | error er => exact hx pins σ _ _ er s' I2 hq'
  | ok fl =>
    cases fl with
    | ret u =>
      obtain ⟨v, H', I3, rv, ev, q3⟩ := I2.after hq'
      subst ev
      exact ⟨rv, ⟨V.ref (hp.objs.size + 1), H', I3, rfl, q3⟩⟩
    | next => exact False.elim hq'
    | brk => exact False.elim hq'
    | cont => exact False.elim hq'
theorem pe_mkE (T : ExK X.K C) (iC : PySem.W.findIn X.K (.ref C) "__init__" = some (some (.ref fI))) (tI : PySem.W.typeIn X.K (.ref fI) = some (.type "function")) (F1 : FnOk X.prog X.w X.K X.mg X.base CX k fI fd ps sp) (hr : Room (k + 1) X.A)
    (hb : Binds X.K fd ps []) (hx : Passes CX X (fun _ _ _ => False)) (hg : Gl X x) (hm : X.mg x = some (.ref C)) (ha : PA X (e :: es) ta)
    (hdb : (x == ("__debug__" : Str)) = false := by decide) (he : starEach (e :: es) X.env = (false, eval e X.env) :: starEach es X.env := by rfl) (hpl : (backTo pos (starEach es X.env)).any (·.1) = false := by rfl) :
    PE X (.Call (.Name x p) (e :: es) [] pos) (tMkE C sp ta) := by
  refine ⟨fun pins s σ H Q I h => ?_⟩
  refine wpAny_Call_Name_kw (ld_glob I hg hm ?_ hdb)
  refine PySem.W.callWith_K (h₀ := X.base) I.ok.mod.kin T.kC (thn (ha.run pos pins s σ H _ I h) fun us s1 ⟨vs, H1, I1, r1, hz, q1⟩ => ⟨I1.kIn, ?_⟩) he hpl
  show wpAny _ _ (call (.ref C) us) _ _ _
  have hl : us.length = vs.length := r1.length.symm
  refine run_mkE (xs := fun a => .ref a :: us) (vs := fun a => .ref a :: vs) T iC tI F1 hr hx I1 (by (rw [hl]; exact hz)) (fun s' a Y => ?_) (fun a => .cons rfl r1) q1
  have n1 : (Value.ref a :: us ++ []).length = ps.length := by
    have e := F1.len _ _ _ _ (q1 (s1.heap.objs.size + 1) (I1.hok.fresh (Nat.le_succ _)))
    rw [List.append_nil, List.length_cons, hl]
    exact e
  have z := hb s' (.ref a :: us) Y n1
  rw [List.append_nil] at z
  exact z
theorem pe_mkEK (T : ExK X.K C) (iC : PySem.W.findIn X.K (.ref C) "__init__" = some (some (.ref fI))) (tI : PySem.W.typeIn X.K (.ref fI) = some (.type "function")) (F1 : FnOk X.prog X.w X.K X.mg X.base CX k fI fd ps sp) (hr : Room (k + 1) X.A)
    (hb : KBn X.K fd ps 1 ks g gV) (hx : Passes CX X (fun _ _ _ => False)) (hg : Gl X x) (hm : X.mg x = some (.ref C)) (hkw : PK X kws tk)
    (hall : (backToKw pos (keywordEach kws X.env)).all (·.1.isSome) = true := by rfl) (hks : (backToKw pos (keywordEach kws X.env)).filterMap (·.1) = ks := by rfl) (hdb : (x == ("__debug__" : Str)) = false := by decide)
    (hpl : ((backTo pos (starEach [] X.env)).any (·.1) || (backToKw pos (keywordEach kws X.env)).any (·.1.isNone)) = false := by rfl) :
    PE X (.Call (.Name x p) [] kws pos) (tMkEK C ks.length sp gV tk) := by
  refine ⟨fun pins s σ H Q I h => ?_⟩
  refine wpAny_Call_Name_kw (ld_glob I hg hm ?_ hdb)
  refine PySem.W.callWith_KW0 (h₀ := X.base) I.ok.mod.kin T.kC hall ?_ hpl
  refine thn (hkw.run pos pins s σ H _ I h) fun ws s2 ⟨zs, H2, I2, rz, l2, q2⟩ => ⟨I2.kIn, ?_⟩
  rw [hks]
  exact run_mkE (xs := fun a => g [.ref a] ws) (vs := fun a => gV [.ref a] zs) T iC tI F1 hr hx I2 (Nat.zero_le _) (fun s' a Y => hb.to s' [.ref a] ws Y rfl (rz.length.symm.trans l2)) (fun a => hb.rel (.cons rfl .nil) rz) q2
/-- C(), without an __init__ of its own -/
theorem pe_mkE0 {bmB : List Value} {B newId initId : String} (F : ExcBaseFacts B newId initId bmB) (q : PySem.W.excIn X.K C bmB newId = true) (kC : PySem.W.keepIn X.K (.ref C) = true) (hg : Gl X x) (hm : X.mg x = some (.ref C)) (hdb : (x == ("__debug__" : Str)) = false := by decide) :
    PE X (.Call (.Name x p) [] [] pos) (fun σ H Q => ∀ a, H a = none → Q (.ref a) (upd H a (exo a C none))) := by
  refine ⟨fun pins s σ H Q I h => ?_⟩
  refine wpAny_Call_Name_kw (ld_glob I hg hm ?_ hdb)
  refine PySem.W.callWith_K0 I.kIn kC ?_
  show wpAny _ _ (call (.ref C) []) _ _ _
  obtain ⟨bm, N, nm, qn, bs, hdct, sn, sub, ab, col, dd, k0, k1, k2, k3, k5, mN, hC, hN, hni, T⟩ := exc_obj I.kIn q
  refine wpAny_call_exc_subT F T hC hN hni (fun h' a hm => ?_) (Nat.zero_le _)
  have hn : H a = none := I.hok.gone hm.new
  obtain ⟨t, ht, _, _⟩ := hm.there
  exact ⟨.ref a, upd H a (exo a C none), I.laidN hm.keeps hm.new hn (exo_ok ht), rfl, h a hn⟩
/-- raise C(e, ..) -/
theorem pmk_exK {ta : TA} (T : ExK X.K C) (iC : PySem.W.findIn X.K (.ref C) "__init__" = some (some (.ref fI))) (tI : PySem.W.typeIn X.K (.ref fI) = some (.type "function")) (F1 : FnOk X.prog X.w X.K X.mg X.base CX k fI fd ps sp) (hr : Room (k + 1) X.A)
    (hb : Binds X.K fd ps []) (hx : Passes CX X (fun _ _ _ => False)) (hg : Gl X x) (hm : X.mg x = some (.ref C)) (ha : PA X (e :: es) ta)
    (hdb : (x == ("__debug__" : Str)) = false := by decide) (he : starEach (e :: es) X.env = (false, eval e X.env) :: starEach es X.env := by rfl) (hpl : (backTo pos (starEach es X.env)).any (·.1) = false := by rfl) :
    PMk X (.Call (.Name x p) (e :: es) [] pos) (tMkO C sp [] ta) := by
  intro pins s σ H Q I h
  obtain ⟨B, newId, initId, bmF, T0, nm, q, N, bs, bm, sn, sub, ab, col, dd, k0, k1, k2, k3, k5, F, hC, hbm⟩ := T.cls
  refine wpAny_Call_Name_kw (ld_glob I hg hm ?_ hdb)
  refine PySem.W.callWith_K (h₀ := X.base) I.ok.mod.kin T.kC (thn (ha.run pos pins s σ H _ I h) fun us s1 ⟨vs, H1, I1, r1, hz, q1⟩ => ⟨I1.kIn, ?_⟩) he hpl
  show wpAny _ _ (call (.ref C) us) _ _ _
  obtain ⟨hp, g, dr, tk, os⟩ := s1
  have hsz : hp.objs.size ≤ hp.objs.size + 1 := Nat.le_succ _
  have hn : H1 (hp.objs.size + 1) = none := I1.hok.fresh hsz
  have hq := q1 (hp.objs.size + 1) hn
  rw [List.append_nil] at hq
  have kk : ∀ b o, hp.get? b = some o → ((hp.push (PySem.W.kdv_tup us)).push (PySem.HandSPX.excO C hp.objs.size)).get? b = some o := fun b o e => Heap.get?_push_of_some _ (Heap.get?_push_of_some _ e)
  have hget : ((hp.push (PySem.W.kdv_tup us)).push (PySem.HandSPX.excO C hp.objs.size)).get? (hp.objs.size + 1) = some (PySem.HandSPX.excO C hp.objs.size) := by heap_get
  have I2 : Inv X pins σ (upd H1 (hp.objs.size + 1) (exo (hp.objs.size + 1) C none)) ⟨(hp.push (PySem.W.kdv_tup us)).push (PySem.HandSPX.excO C hp.objs.size), g, dr, tk, os⟩ :=
    I1.laid (t' := tk) (a := hp.objs.size + 1) (o := exo (hp.objs.size + 1) C none) (h' := (hp.push (PySem.W.kdv_tup us)).push (PySem.HandSPX.excO C hp.objs.size)) kk hsz (exo_ok hget)
  have r2 : Vals (V.ref (hp.objs.size + 1) :: vs) (Value.ref (hp.objs.size + 1) :: us) := .cons rfl r1
  have hl : (Value.ref (hp.objs.size + 1) :: us ++ []).length = ps.length := by
    have e := r2.length
    rw [F1.len _ _ _ _ hq] at e
    rw [List.append_nil]
    exact e.symm
  have hus : us.length ≤ sizeLine := by
    rw [← Paired.length r1, sizeLine_eq]
    omega
  have bd := hb ⟨(hp.push (PySem.W.kdv_tup us)).push (PySem.HandSPX.excO C hp.objs.size), g, dr, tk, os⟩ (Value.ref (hp.objs.size + 1) :: us) I2.kIn hl
  rw [List.append_nil] at bd
  refine wpAny_call (e_call F hbm (I1.kIn _ _ hC) (PySem.W.looks_findIn I1.kIn iC) (fun self => PySem.W.bind_fn I1.kIn self tI) hus
    (codeAny_mono (F1.run _ X.stack _ _ ⟨Value.ref (hp.objs.size + 1) :: us, []⟩ (Value.ref (hp.objs.size + 1) :: us) _ _ (fun _ _ _ => False) (hr.make C us []) (I2.env0.make C us []) bd r2 hq) fun r s' hq' => ?_))
  cases r with
  | error er => exact hx pins σ _ _ er s' I2 hq'
  | ok fl =>
    cases fl with
    | ret u =>
      obtain ⟨v, H2, os2, bare2, un2, hok2, rv, ev, d, fs, ea, ed, hd1, q2⟩ := hq'
      subst ev
      obtain ⟨h2, g2, d2, t2, os'⟩ := s'
      exact ⟨rv, mk_end (raises_own T.exC T.tyC) I1 hsz kk un2 hok2 os2 bare2 ea ed hd1 q2⟩
    | next => exact False.elim hq'
    | brk => exact False.elim hq'
    | cont => exact False.elim hq'
end
/-! own classes: ==, !=, str, repr by the class's own defs -/
section
variable {X : Cx} {pins : List (Addr × Obj)} {σ : L2.St} {H : Hp} {s : Shared}
theorem run_at {A' : Around} {k : Nat} {f : Addr} {fd : FuncData} {ps : List Str} {sp : Sp} {us : List Value} {vs : List V} {Q : VK} {E' : Value → Shared → Prop}
    (F : FnOk X.prog X.w X.K X.mg X.base CX0 k f fd ps sp) (hr : Room k A') (ee : Env0 X.prog X.w X.K X.mg X.base A' X.stack s H) (hb : Binds X.K fd ps []) (I : Inv X pins σ H s) (r : Vals vs us) (h : sp vs H Q E0) :
    wpAny (model X.prog X.w) A' (call (.ref f) us) (EP X pins σ Q) E' s := by
  have hl : us.length = ps.length := r.length.symm.trans (F.len _ _ _ _ h)
  have bd := hb s us I.kIn (by rw [List.append_nil]; exact hl)
  rw [List.append_nil] at bd
  refine wpAny_call (codeAny_mono (F.run A' X.stack s H ⟨us, []⟩ us vs Q E0 hr ee bd r h) ?_)
  intro x t hq
  cases x with
  | error z => exact False.elim hq
  | ok fl =>
    cases fl with
    | ret u => exact I.after hq
    | next => exact False.elim hq
    | brk => exact False.elim hq
    | cont => exact False.elim hq
theorem dp_type {v : V} {d : PyData} {u : Value} (I : Inv X pins σ H s) (h : Dp X.K H v d) (r : RelV v u) : s.TypeIs u (tyN d) := by
  cases h with
  | non => cases r; rfl
  | bl b => cases r; rfl
  | int i => obtain ⟨t, rfl⟩ := r; rfl
  | str x => obtain ⟨t, rfl⟩ := r; rfl
  | lst h1 h2 =>
    cases r
    obtain ⟨its, _, ⟨o, n, ho, hc, _, _⟩, _⟩ := I.list h1
    exact ⟨o, ho, hc⟩
  | tup h1 h2 =>
    cases r
    obtain ⟨its, _, ⟨o, ho, hc, _⟩, _⟩ := I.tuple h1
    exact ⟨o, ho, hc⟩
theorem sub_looks {K : PySem.W.Frag} {h : Heap} {t c : Value} {b : Bool} (X : K.In h) (hk : PySem.W.kitOne K t c = some b) (hn : (t == c) = false) (M : Model) : PySem.W.Looks M h (isSubtype t c) b := by
  unfold PySem.W.kitOne at hk
  rw [hn] at hk
  exact (PySem.W.kit_cls X (by simpa using hk)).2.2
end
/-- what an own class says of its special names, and that built-in data are none of it -/
structure OwnC (K : PySem.W.Frag) (C fE : Addr) : Prop where
  c : C8.InsC K C
  eq : Meth K C "__eq__" fE
  ne : PySem.W.findIn K (.ref C) "__ne__" = some (some (.builtin "object.__ne__"))
  k1 : PySem.W.kitOne K (.type "NoneType") (.ref C) = some false
  k2 : PySem.W.kitOne K (.type "bool") (.ref C) = some false
  k3 : PySem.W.kitOne K (.type "int") (.ref C) = some false
  k4 : PySem.W.kitOne K (.type "str") (.ref C) = some false
  k5 : PySem.W.kitOne K (.type "list") (.ref C) = some false
  k6 : PySem.W.kitOne K (.type "tuple") (.ref C) = some false
  j1 : PySem.W.kitOne K (.ref C) (.type "NoneType") = some false
  j2 : PySem.W.kitOne K (.ref C) (.type "bool") = some false
  j3 : PySem.W.kitOne K (.ref C) (.type "int") = some false
  j4 : PySem.W.kitOne K (.ref C) (.type "str") = some false
  j5 : PySem.W.kitOne K (.ref C) (.type "list") = some false
  j6 : PySem.W.kitOne K (.ref C) (.type "tuple") = some false
theorem OwnC.of {K : PySem.W.Frag} {C fE : Addr} (o : OwnC K C fE) {H : Hp} {v : V} {d : PyData} (h : Dp K H v d) : PySem.W.kitOne K (.type (tyN d)) (.ref C) = some false ∧ PySem.W.kitOne K (.ref C) (.type (tyN d)) = some false := by
  cases h with
  | non => exact ⟨o.k1, o.j1⟩
  | bl b => exact ⟨o.k2, o.j2⟩
  | int i => exact ⟨o.k3, o.j3⟩
  | str x => exact ⟨o.k4, o.j4⟩
  | lst h1 h2 => exact ⟨o.k5, o.j5⟩
  | tup h1 h2 => exact ⟨o.k6, o.j6⟩
section
variable {X : Cx} {C fE : Addr} {k : Nat} {fd : FuncData} {sp : Sp}
theorem inst_at {pins : List (Addr × Obj)} {σ : L2.St} {H : Hp} {s : Shared} {a dx : Addr} {fs : List (Str × V)} (I : Inv X pins σ H s) (ha : H a = some (.ins C dx fs)) : ∃ ox od, PySem.W.InstAt s.heap a ox C od := by
  obtain ⟨mA, O, _⟩ := ins_get I.hok ha
  obtain ⟨od, J, _⟩ := O.look
  exact ⟨_, od, J⟩
/-- x == y, x of the class: its own __eq__ tells -/
def rEqL (C : Addr) (sp : Sp) (K : PySem.W.Frag) : R2 := fun x y H Q => ∃ a dx fs, x = .ref a ∧ H a = some (.ins C dx fs) ∧ ((∃ d, Dp K H y d) ∨ ∃ b dy gs, y = .ref b ∧ H b = some (.ins C dy gs)) ∧
  sp [x, y] H (fun v H' => ∃ b, v = .bl b ∧ Q (.bl b) H') E0
theorem op_eqL (O : OwnC X.K C fE) (F : FnOk X.prog X.w X.K X.mg X.base CX0 k fE fd ["self", "other"] sp) (hb : Binds X.K fd ["self", "other"] []) (hr : Room k X.A) : OpR X (compareOp .Eq) (rEqL C sp X.K) := by
  intro pins s σ H x y v u Q I rx ry h
  obtain ⟨a, dx, fs, rfl, ha, hy, q⟩ := h
  cases (show v = Value.ref a from rx)
  obtain ⟨ox, od, J⟩ := inst_at I ha
  have run := run_at (E' := X.xe) F hr I.env0 hb I (.cons rx (.cons ry .nil)) q
  have fin : wpAny (model X.prog X.w) X.A (tryCompare (.ref a) (Str.ofString "__eq__") u) (fun r t => ∃ b, r = some (Value.bool b) ∧ EP X pins σ Q (.bool b) t) X.xe s := by
    unfold tryCompare
    refine wpAny_bind (PySem.W.ifBound_K I.kIn J O.eq.at_ O.eq.fn (wpAny_mono run (fun r t hq => ?_) fun _ _ z => z))
    obtain ⟨v', H', I', rv, b, rfl, q'⟩ := hq
    cases (show r = Value.bool b from rv)
    exact wpAny_pure ⟨b, rfl, .bl b, H', I', rfl, q'⟩
  show wpAny _ _ (richCompare .Eq (.ref a) u) _ _ _
  unfold richCompare
  simp only [oneThing_ref]
  refine wpAny_holding ?_
  refine wpAny_bind (wpAny_cRoomFor hr.units0 ?_)
  refine wpAny_bind (J.type.here ?_)
  rcases hy with ⟨d, hd⟩ | ⟨b, dy, gs, rfl, hb2⟩
  · have ty := dp_type I hd ry
    have kk := O.of hd
    refine wpAny_bind (wpAny_typeOf ty ?_)
    have ne : (Value.ref C != Value.type (tyN d)) = true := rfl
    simp only [ne, if_true]
    refine wpAny_bind ((sub_looks I.kIn kk.1 rfl _).here ?_)
    simp only [Bool.false_eq_true, if_false]
    refine wpAny_bind (m := tryCompare (.ref a) (Str.ofString "__eq__") u) (wpAny_mono fin (fun r t hq => ?_) fun _ _ z => z)
    obtain ⟨b, rfl, hq⟩ := hq
    exact wpAny_pure hq
  · cases (show u = Value.ref b from ry)
    obtain ⟨oy, oe, J2⟩ := inst_at I hb2
    refine wpAny_bind (J2.type.here ?_)
    have ne : (Value.ref C != Value.ref C) = false := by simp
    simp only [ne, Bool.false_eq_true, if_false]
    refine wpAny_bind (wpAny_pure ?_)
    simp only [Bool.false_eq_true, if_false]
    refine wpAny_bind (m := tryCompare (.ref a) (Str.ofString "__eq__") (.ref b)) (wpAny_mono fin (fun r t hq => ?_) fun _ _ z => z)
    obtain ⟨b, rfl, hq⟩ := hq
    exact wpAny_pure hq
end
open AutoSeq1 (wpAny_loadPart')
/-! == of built-in data and an instance: the data decline -/
abbrev plainObj (C : Addr) (dd : Option Addr) (sl : Array (Option Value)) : Obj := { cls := .ref C, dict := dd, data := .plain, slots := sl }
theorem str_declines (b : Str) (u : Tok) (l C : Addr) (dd : Option Addr) (sl : Array (Option Value)) :
    Meets (Builtin.«str.__eq__» ⟨[.str b u, .ref l], []⟩) (fun _ R s => s.heap.get? l = some (plainObj C dd sl) ∧ R (.ok (.ret .notImplemented)) s) :=
  .of_wp fun prog w A R s h => by
    obtain ⟨hp, g, d, tk, os⟩ := s
    obtain ⟨hl, h⟩ := h
    wp_walk using wpAny_loadPart' hl, wpAny_load hl
    exact ⟨_, rfl, h⟩
theorem int_declines (b : Int) (u : Tok) (l C : Addr) (dd : Option Addr) (sl : Array (Option Value)) :
    Meets (Builtin.«int.__eq__» ⟨[.int b u, .ref l], []⟩) (fun _ R s => s.heap.get? l = some (plainObj C dd sl) ∧ R (.ok (.ret .notImplemented)) s) :=
  .of_wp fun prog w A R s h => by
    obtain ⟨hp, g, d, tk, os⟩ := s
    obtain ⟨hl, h⟩ := h
    wp_walk using wpAny_loadPart' hl, wpAny_load hl
    exact ⟨_, rfl, h⟩
theorem bool_declines (b : Bool) (l C : Addr) (dd : Option Addr) (sl : Array (Option Value)) :
    Meets (Builtin.«int.__eq__» ⟨[.bool b, .ref l], []⟩) (fun _ R s => s.heap.get? l = some (plainObj C dd sl) ∧ R (.ok (.ret .notImplemented)) s) :=
  .of_wp fun prog w A R s h => by
    obtain ⟨hp, g, d, tk, os⟩ := s
    obtain ⟨hl, h⟩ := h
    wp_walk using wpAny_loadPart' hl, wpAny_load hl
    exact ⟨_, rfl, h⟩
theorem sub_wp {M : Model} {A : Around} {E : Value → Shared → Prop} {s : Shared} {c t : Value} {b : Bool} {Q : Bool → Shared → Prop} (h : ∀ M, PySem.W.Looks M s.heap (isSubtype c t) b) (q : Q b s) : wpAny M A (isSubtype c t) Q E s := (h M).here q
theorem list_declines (a l C : Addr) (dd : Option Addr) (sl : Array (Option Value)) (o : Obj) :
    Meets (Builtin.«list.__eq__» ⟨[.ref a, .ref l], []⟩) (fun _ R s => s.heap.get? a = some o ∧ s.heap.get? l = some (plainObj C dd sl) ∧ (∀ M, PySem.W.Looks M s.heap (isSubtype (.ref C) (.type "list")) false) ∧ R (.ok (.ret .notImplemented)) s) :=
  .of_wp fun prog w A R s h => by
    obtain ⟨hp, g, d, tk, os⟩ := s
    obtain ⟨ha, hl, hs, h⟩ := h
    wp_walk using wpAny_loadPart' hl, wpAny_load hl, sub_wp hs
    exact ⟨_, rfl, h⟩
theorem tuple_declines (a l C : Addr) (dd : Option Addr) (sl : Array (Option Value)) (o : Obj) :
    Meets (Builtin.«tuple.__eq__» ⟨[.ref a, .ref l], []⟩) (fun _ R s => s.heap.get? a = some o ∧ s.heap.get? l = some (plainObj C dd sl) ∧ (∀ M, PySem.W.Looks M s.heap (isSubtype (.ref C) (.type "tuple")) false) ∧ R (.ok (.ret .notImplemented)) s) :=
  .of_wp fun prog w A R s h => by
    obtain ⟨hp, g, d, tk, os⟩ := s
    obtain ⟨ha, hl, hs, h⟩ := h
    wp_walk using wpAny_loadPart' hl, wpAny_load hl, sub_wp hs
    exact ⟨_, rfl, h⟩
section
variable {X : Cx} {C fE : Addr} {k : Nat} {fd : FuncData} {sp : Sp}
/-- the built-in type's own __eq__ declines -/
theorem data_declines {pins : List (Addr × Obj)} {σ : L2.St} {H : Hp} {s : Shared} {A : Around} {E : Value → Shared → Prop} {x : V} {d : PyData} {v : Value} {b dx : Addr} {fs : List (Str × V)} {Q : Option Value → Shared → Prop} (I : Inv X pins σ H s)
    (hs : ∀ M, PySem.W.Looks M s.heap (isSubtype (.ref C) (.type (tyN d))) false)
    (hd : Dp X.K H x d) (rx : RelV x v) (hb : H b = some (.ins C dx fs)) (q : Q none s) : wpAny (model X.prog X.w) A (tryCompare v (Str.ofString "__eq__") (.ref b)) Q E s := by
  obtain ⟨mA, O, _⟩ := ins_get I.hok hb
  have ob := O.obj
  cases hd with
  | non =>
    cases rx
    exact wpAny_tryCompare_declines (T := "NoneType") rfl F.slot_NoneType_eq (call_gives F.slot_NoneType_eq rfl F.entry_NoneType_eq (F.args_NoneType_eq_2 _ _) (SeqAt.NoneType___eq___none_ref_0 b) ⟨rfl, q⟩)
  | bl z =>
    cases rx
    exact wpAny_tryCompare_declines (T := "bool") rfl F.slot_bool_eq (call_meets F.slot_bool_eq rfl F.entry_int_eq (F.args_int_eq_2 _ _) (bool_declines z b C _ _) ⟨ob, ⟨rfl, q⟩⟩)
  | int i =>
    obtain ⟨t, rfl⟩ := rx
    exact wpAny_tryCompare_declines (T := "int") rfl F.slot_int_eq (call_meets F.slot_int_eq rfl F.entry_int_eq (F.args_int_eq_2 _ _) (int_declines i t b C _ _) ⟨ob, ⟨rfl, q⟩⟩)
  | str y =>
    obtain ⟨t, rfl⟩ := rx
    exact wpAny_tryCompare_declines (T := "str") rfl F.slot_str_eq (call_meets F.slot_str_eq rfl F.entry_str_eq (F.args_str_eq_2 _ _) (str_declines y t b C _ _) ⟨ob, ⟨rfl, q⟩⟩)
  | lst h1 h2 =>
    cases rx
    obtain ⟨its, _, ⟨o, n, ho, hc, _, _⟩, _⟩ := I.list h1
    exact wpAny_tryCompare_declines (T := "list") ⟨o, ho, hc⟩ F.slot_list_eq (call_meets F.slot_list_eq ⟨o, ho, hc⟩ F.entry_list_eq (F.args_list_eq_2 _ _) (list_declines _ b C _ _ o) ⟨ho, ob, hs, ⟨rfl, q⟩⟩)
  | tup h1 h2 =>
    cases rx
    obtain ⟨its, _, ⟨o, ho, hc, _⟩, _⟩ := I.tuple h1
    exact wpAny_tryCompare_declines (T := "tuple") ⟨o, ho, hc⟩ F.slot_tuple_eq (call_meets F.slot_tuple_eq ⟨o, ho, hc⟩ F.entry_tuple_eq (F.args_tuple_eq_2 _ _) (tuple_declines _ b C _ _ o) ⟨ho, ob, hs, ⟨rfl, q⟩⟩)
/-- x == y, y of the class, x built-in data: y's own __eq__ tells -/
def rEqR (C : Addr) (sp : Sp) (K : PySem.W.Frag) : R2 := fun x y H Q => ∃ b dy gs d, y = .ref b ∧ H b = some (.ins C dy gs) ∧ Dp K H x d ∧ sp [y, x] H (fun v H' => ∃ z, v = .bl z ∧ Q (.bl z) H') E0
theorem op_eqR (O : OwnC X.K C fE) (F : FnOk X.prog X.w X.K X.mg X.base CX0 k fE fd ["self", "other"] sp) (hb : Binds X.K fd ["self", "other"] []) (hr : Room k X.A) : OpR X (compareOp .Eq) (rEqR C sp X.K) := by
  intro pins s σ H x y v u Q I rx ry h
  obtain ⟨b, dy, gs, d, rfl, ha, hd, q⟩ := h
  cases (show u = Value.ref b from ry)
  obtain ⟨ox, od, J⟩ := inst_at I ha
  have run := run_at (E' := X.xe) F hr I.env0 hb I (.cons ry (.cons rx .nil)) q
  have ty := dp_type I hd rx
  have kk := O.of hd
  have sb := sub_looks I.kIn kk.2 rfl
  have fin : wpAny (model X.prog X.w) X.A (tryCompare (.ref b) (Str.ofString "__eq__") v) (fun r t => ∃ b, r = some (Value.bool b) ∧ EP X pins σ Q (.bool b) t) X.xe s := by
    unfold tryCompare
    refine wpAny_bind (PySem.W.ifBound_K I.kIn J O.eq.at_ O.eq.fn (wpAny_mono run (fun r t hq => ?_) fun _ _ z => z))
    obtain ⟨v', H', I', rv, b, rfl, q'⟩ := hq
    cases (show r = Value.bool b from rv)
    exact wpAny_pure ⟨b, rfl, .bl b, H', I', rfl, q'⟩
  show wpAny _ _ (richCompare .Eq v (.ref b)) _ _ _
  unfold richCompare
  simp only [ty.oneThing_none]
  refine wpAny_holding ?_
  refine wpAny_bind (wpAny_cRoomFor hr.units0 ?_)
  refine wpAny_bind (wpAny_typeOf ty ?_)
  refine wpAny_bind (J.type.here ?_)
  have ne : (Value.type (tyN d) != Value.ref C) = true := rfl
  simp only [ne, if_true]
  refine wpAny_bind ((sb _).here ?_)
  simp only [Bool.false_eq_true, if_false]
  refine wpAny_bind (m := tryCompare v (Str.ofString "__eq__") (.ref b)) (data_declines I sb hd rx ha ?_)
  simp only [Bool.not_false, if_true]
  refine wpAny_bind (m := tryCompare (.ref b) (Str.ofString "__eq__") v) (wpAny_mono fin (fun r t hq => ?_) fun _ _ z => z)
  obtain ⟨z, rfl, hq⟩ := hq
  exact wpAny_pure hq
theorem ifBound_b {M : Model} {A : Around} {E : Value → Shared → Prop} {s : Shared} {K : PySem.W.Frag} {x C : Addr} {ox : Obj} {od : Option Obj} {name : Str} {id : String} {args : List Value} {Q : Option Value → Shared → Prop} (X : K.In s.heap) (I : PySem.W.InstAt s.heap x ox C od)
    (hs : PySem.W.findIn K (.ref C) name = some (some (.builtin id))) (hb : ∀ self, bindSpecial (.builtin id) self = pure (.builtin id, [self])) (h : wpAny M A (call (.builtin id) (.ref x :: args)) (fun v => Q (some v)) E s) :
    wpAny M A (callSpecialIfBound? (.ref x) name args) Q E s := by
  simp only [callSpecialIfBound?, bindSpecialIfBound?]
  refine wpAny_holding (wpAny_bind (wpAny_bind (wpAny_bind (I.type.here ((PySem.W.looks_findIn X hs).here ?_)))))
  refine wpAny_bind (wpAny_askSetting (wpAny_ite ?_))
  have fin : wpAny M A (call (.builtin id) ([.ref x] ++ args) >>= fun v => pure (some v)) Q E s := wpAny_bind (wpAny_mono h (fun _ _ z => wpAny_pure z) fun _ _ z => z)
  split
  · exact wpAny_bind ((PySem.W.Looks.of_pure (hb _)).here (wpAny_pure (by exact fin)))
  · exact wpAny_tryCatch (wpAny_bind ((PySem.W.Looks.of_pure (hb _)).here (wpAny_pure (by exact fin))))
/-- x != y, x of the class (which has no own __ne__): not what its own __eq__ tells -/
def rNeL (C : Addr) (sp : Sp) (K : PySem.W.Frag) : R2 := fun x y H Q => ∃ a dx fs, x = .ref a ∧ H a = some (.ins C dx fs) ∧ ((∃ d, Dp K H y d) ∨ ∃ b dy gs, y = .ref b ∧ H b = some (.ins C dy gs)) ∧
  sp [x, y] H (fun v H' => ∃ b, v = .bl b ∧ Q (.bl (!b)) H') E0
theorem op_neL (O : OwnC X.K C fE) (F : FnOk X.prog X.w X.K X.mg X.base CX0 k fE fd ["self", "other"] sp) (hb : Binds X.K fd ["self", "other"] []) (hr : Room (k + 1) X.A) : OpR X (compareOp .NotEq) (rNeL C sp X.K) := by
  intro pins s σ H x y v u Q I rx ry h
  obtain ⟨a, dx, fs, rfl, ha, hy, q⟩ := h
  cases (show v = Value.ref a from rx)
  obtain ⟨ox, od, J⟩ := inst_at I ha
  have run := run_at (E' := X.xe) F hr.in1 I.env0.in1 hb I (.cons rx (.cons ry .nil)) q
  have body : wpAny (model X.prog X.w) X.A (call (.builtin "object.__ne__") [.ref a, u]) (fun v t => ∃ b, v = Value.bool b ∧ EP X pins σ Q (.bool b) t) X.xe s := by
    refine wpAny_call (codeAny_call_builtin PySem.F.slot_object_ne.plain PySem.F.entry_object_ne (PySem.W.check_slot (i := "object.__ne__") (owner := "object") (n := "__ne__") (by decide +kernel) (by decide +kernel) (J.type.andThen (PySem.W.looks_mroIn I.kIn O.c.hm)) (PySem.F.args_object_ne_2 _ _) ?_))
    unfold Builtin.«object.__ne__»
    refine wpAny_bind (m := slotArgs "__ne__" 1 _) (wpAny_pure ?_)
    refine wpAny_bind (m := cRoomFor _ _) (wpAny_cRoomFor (by have := hr.units; show X.A.units + 1 < cLine; omega) ?_)
    refine wpAny_bind (m := callSpecialIfBound? (.ref a) (Str.ofString "__eq__") [u]) (PySem.W.ifBound_K I.kIn J O.eq.at_ O.eq.fn (wpAny_mono run (fun r t hq => ?_) fun _ _ z => z))
    obtain ⟨v', H', I', rv, b, rfl, q'⟩ := hq
    cases (show r = Value.bool b from rv)
    refine wpAny_bind (m := truthy (.bool b)) (wpAny_truthy_bool ?_)
    exact wpAny_pure ⟨!b, rfl, .bl (!b), H', I', rfl, q'⟩
  have fin : wpAny (model X.prog X.w) X.A (tryCompare (.ref a) (Str.ofString "__ne__") u) (fun r t => ∃ b, r = some (Value.bool b) ∧ EP X pins σ Q (.bool b) t) X.xe s := by
    unfold tryCompare
    refine wpAny_bind (ifBound_b I.kIn J O.ne PySem.F.slot_object_ne.bind (wpAny_mono body (fun r t hq => ?_) fun _ _ z => z))
    obtain ⟨b, rfl, hq⟩ := hq
    exact wpAny_pure ⟨b, rfl, hq⟩
  show wpAny _ _ (richCompare .NotEq (.ref a) u) _ _ _
  unfold richCompare
  simp only [oneThing_ref]
  refine wpAny_holding ?_
  refine wpAny_bind (wpAny_cRoomFor hr.units0 ?_)
  refine wpAny_bind (J.type.here ?_)
  rcases hy with ⟨d, hd⟩ | ⟨b, dy, gs, rfl, hb2⟩
  · have ty := dp_type I hd ry
    have kk := O.of hd
    refine wpAny_bind (wpAny_typeOf ty ?_)
    have ne : (Value.ref C != Value.type (tyN d)) = true := rfl
    simp only [ne, if_true]
    refine wpAny_bind ((sub_looks I.kIn kk.1 rfl _).here ?_)
    simp only [Bool.false_eq_true, if_false]
    refine wpAny_bind (m := tryCompare (.ref a) (Str.ofString "__ne__") u) (wpAny_mono fin (fun r t hq => ?_) fun _ _ z => z)
    obtain ⟨b, rfl, hq⟩ := hq
    exact wpAny_pure hq
  · cases (show u = Value.ref b from ry)
    obtain ⟨oy, oe, J2⟩ := inst_at I hb2
    refine wpAny_bind (J2.type.here ?_)
    have ne : (Value.ref C != Value.ref C) = false := by simp
    simp only [ne, Bool.false_eq_true, if_false]
    refine wpAny_bind (wpAny_pure ?_)
    simp only [Bool.false_eq_true, if_false]
    refine wpAny_bind (m := tryCompare (.ref a) (Str.ofString "__ne__") (.ref b)) (wpAny_mono fin (fun r t hq => ?_) fun _ _ z => z)
    obtain ⟨b, rfl, hq⟩ := hq
    exact wpAny_pure hq
/-- repr(x), x of a class with its own __repr__ -/
def rRepO (C : Addr) (sp : Sp) : List V → Hp → VK → Prop := fun xs H Q => ∃ a dx fs, xs = [.ref a] ∧ H a = some (.ins C dx fs) ∧ sp [.ref a] H (fun v H' => ∃ y, v = .str y ∧ Q (.str y) H') E0
theorem call_repO {fR : Addr} (m : Meth X.K C "__repr__" fR) (F : FnOk X.prog X.w X.K X.mg X.base CX0 k fR fd ["self"] sp) (hb : Binds X.K fd ["self"] []) (hr : Room (k + 1) X.A) : CallR X (.builtin "repr") (rRepO C sp) := by
  intro pins s σ H xs us Q I r h
  obtain ⟨a, dx, fs, rfl, ha, q⟩ := h
  obtain ⟨u, rfl, ru⟩ := vals1 r
  cases (show u = Value.ref a from ru)
  obtain ⟨ox, od, J⟩ := inst_at I ha
  have run := run_at (E' := X.xe) F hr.in1 I.env0.in1 hb I (.cons ru .nil) q
  refine Calls.call_function_entry PySem.F.kind_repr PySem.F.plain_repr PySem.F.entry_repr (PySem.F.args_repr1 _) ?_
  unfold Builtin.«repr»
  refine wpAny_bind (m := oneArg "repr" _) (wpAny_pure ?_)
  refine wpAny_bind (wpAny_cRoomFor (by have := hr.units; show X.A.units + 1 < cLine; omega) ?_)
  refine wpAny_bind (m := specialOf (.ref a) (Str.ofString "__repr__")) (wpAny_bind (J.type.here ((PySem.W.looks_findIn I.kIn m.at_).here ?_)))
  show wpAny _ _ (if (some (Value.ref fR)).isNone = true then _ else _) _ _ _
  rw [if_neg (by simp)]
  refine wpAny_bind (m := callSpecialIfBound? (.ref a) (Str.ofString "__repr__") _) (PySem.W.ifBound_K I.kIn J m.at_ m.fn (wpAny_mono run (fun r t hq => ?_) fun _ _ z => z))
  obtain ⟨v', H', I', rv, y, rfl, q'⟩ := hq
  obtain ⟨tk, rfl⟩ := (show ∃ t, r = Value.str y t from rv)
  refine wpAny_bind (wpAny_isInstance (typeIs_str _ _ _) isSubtype_str_str ?_)
  have fin : EP X pins σ Q (.str y tk) t := ⟨.str y, H', I', ⟨tk, rfl⟩, q'⟩
  first
    | exact wpAny_pure ⟨_, rfl, fin⟩
    | (rw [if_pos rfl]; exact wpAny_pure ⟨_, rfl, fin⟩)
    | (simp only [if_true]; exact wpAny_pure ⟨_, rfl, fin⟩)
    | (simp only [if_true]; exact wpAny_pure fin)
/-- str(x), x of a class with its own __str__ -/
theorem call_strO {fS : Addr} (m : Meth X.K C "__str__" fS) (F : FnOk X.prog X.w X.K X.mg X.base CX0 k fS fd ["self"] sp) (hb : Binds X.K fd ["self"] []) (hr : Room (k + 2) X.A) : CallR X (.type "str") (rRepO C sp) := by
  intro pins s σ H xs us Q I r h
  obtain ⟨a, dx, fs, rfl, ha, q⟩ := h
  obtain ⟨u, rfl, ru⟩ := vals1 r
  cases (show u = Value.ref a from ru)
  obtain ⟨ox, od, J⟩ := inst_at I ha
  have run := run_at (A' := X.A.in1.in1) (E' := X.xe) F hr.in1.in1 I.env0.in1.in1 hb I (.cons ru .nil) q
  have un := hr.units
  refine callType_codes (T := "str") (Bi := Builtin.«object.__init__») (Q₁ := fun r s₁ => ∃ y u, r = .str y u ∧ EP X pins σ Q r s₁) PySem.F.called_str (PySem.F.typeCall_str_1 _) PySem.F.entry_object_init ?_ ?_
  · refine codeAny_of_tree ?_
    show wpAny _ X.A.in1.in1 (do checkBuiltinCall "str.__new__" ⟨[.type "str", .ref a], []⟩; again (.builtin "str.__new__" ⟨[.type "str", .ref a], []⟩)) _ _ s
    refine wpAny_bind (wpAny_of_eq (PySem.F.newCall_str_1 _) (wpAny_pure ⟨plainId_quiet (by decide +kernel) _, codeAny_builtin PySem.F.entry_str_new ?_⟩))
    rw [Around.under_plainId (by decide +kernel) _]
    rw [str_new_tree]
    refine wpAny_bind (wpAny_pure ?_)
    refine wpAny_bind (wpAny_of_eq isSubtype_str_str ?_)
    have key : wpAny (model X.prog X.w) X.A.in1.in1 (PySem.Builtin.Str.strOf (.ref a)) (fun r s₁ => ∃ y u, r = .str y u ∧ EP X pins σ Q r s₁) X.xe s := by
      unfold PySem.Builtin.Str.strOf
      rw [show Builtin.Str.isExactStr (.ref a) = false from rfl]
      refine wpAny_bind (m := cRoomFor _ _) (wpAny_cRoomFor (by show X.A.units + 1 + 1 < cLine; omega) ?_)
      refine wpAny_bind (m := callSpecial? (.ref a) (Str.ofString "__str__")) (PySem.W.special_fn I.kIn J m.at_ (beq_iff_eq.mp m.fn) (wpAny_mono run (fun r t hq => ?_) fun _ _ z => z))
      obtain ⟨v', H', I', rv, y, rfl, q'⟩ := hq
      obtain ⟨tk, rfl⟩ := (show ∃ t, r = Value.str y t from rv)
      exact wpAny_pure ⟨_, _, rfl, .str y, H', I', ⟨tk, rfl⟩, q'⟩
    exact wpAny_bind (wpAny_mono key (fun r s₁ hr => wpAny_pure hr) fun _ _ y => y)
  · rintro obj s₁ ⟨y, u, rfl, hq⟩
    exact ⟨typeIs_str _ _ _, PySem.F.args_object_init_2 _ _, object_init_meets PySem.F.called_str.init.lookup PySem.F.called_str.made (by decide) X.prog X.w X.A.in1 _ s₁ ⟨typeIs_str _ _ _, rfl, hq⟩⟩
end
/-! errors that are kept as values: attributes, isinstance -/
/-- e.f -/
def tXa (K : PySem.W.Frag) (f : Str) (te : TE) : TE := fun σ H Q => te σ H fun x H1 => ∃ (a C d : Addr) (fs : List (Str × V)) (v : V), x = .ref a ∧ XfC K C ∧ PySem.W.findIn K (.ref C) f = some none ∧ H1 a = some (exo a C (some d)) ∧ H1 d = some (exd d fs) ∧ fs.lookup f = some v ∧ Q v H1
section
variable {X : Cx} {e : Expr} {te : TE} {pos : Pos} {n : Str}
theorem pe_xa (he : PE X e te) (hb : attributeBase e n X.env (eval e X.env) = eval e X.env := by rfl) : PE X (.Attribute e n pos) (tXa X.K n te) := by
  refine ⟨fun pins s σ H Q I h => ?_⟩
  refine attr_of hb (thn (he.run pins s σ H _ I h) fun u s1 hh => ?_)
  obtain ⟨x, H1, I1, rx, a, C, d, fs, v, ex, T, hno, ea, ed, l, q⟩ := hh
  subst ex
  obtain rfl : u = Value.ref a := rx
  obtain ⟨t1, ha⟩ := exo_at I1.hok ea
  obtain ⟨mA, hns, hr⟩ := exd_at I1.hok ed
  obtain ⟨od, ho, hl⟩ := lookIn_ns hns
  obtain ⟨u, hu, ru⟩ := RelO.some_of (v := v) (o := mA n) (by rw [← l]; exact hr n)
  have J : PySem.W.InstAt s1.heap a { cls := .ref C, dict := some d, data := .fields #[.ref t1, .none, .none, .none, .bool false, .none] } C (some od) := ⟨ha, rfl, rfl, ho⟩
  exact HandSPX.exc_get I1.kIn J T.ga T.gg T.exC (PySem.W.findObj_own T.hdC hno rfl (by rw [hl, hu])) (handed_of ru) ⟨v, H1, I1.tok _, ru, q⟩
end
/-- an error of the class D stands at a -/
def ErrAt (H : Hp) (D a : Addr) : Prop := H a = some (exo a D none) ∨ ∃ d fs, H a = some (exo a D (some d)) ∧ H d = some (exd d fs)
theorem ErrAt.up {H H' : Hp} {D a : Addr} (s : Same H H') (h : ErrAt H D a) : ErrAt H' D a := by
  rcases h with h | ⟨d, fs, h1, h2⟩
  · exact .inl (s _ _ h)
  · exact .inr ⟨d, fs, s _ _ h1, s _ _ h2⟩
def rIsX (K : PySem.W.Frag) : List V → Hp → VK → Prop := fun xs H Q => ∃ (a D : Addr) (c : V) (cv : Value) (b : Bool), xs = [.ref a, c] ∧ ExcC K D ∧ ErrAt H D a ∧ (∀ u, RelV c u → u = cv) ∧ PySem.W.kitOne K (.ref D) cv = some b ∧ Q (.bl b) H
theorem hasD_cls {K : PySem.W.Frag} {D : Addr} (h : PySem.W.hasDictIn K D = true) : (PySem.W.clsIn K D).isSome = true := by
  unfold PySem.W.hasDictIn at h
  cases e : PySem.W.clsIn K D with
  | none =>
    rw [e] at h
    cases h
  | some c => rfl
theorem call_isX {X : Cx} : CallR X (.builtin "isinstance") (rIsX X.K) := by
  intro pins s σ H xs us Q I r h
  obtain ⟨a, D, c, cv, b, rfl, C, he, hcv, e, q⟩ := h
  cases r with
  | cons rx rr =>
    cases rr with
    | cons rt rr =>
      cases rr
      cases rx
      have ec := hcv _ rt
      subst ec
      have fin : ∀ {ox : Obj} {od : Option Obj}, PySem.W.InstAt s.heap a ox D od → wpAny (model X.prog X.w) X.A (call (.builtin "isinstance") [.ref a, _]) (EP X pins σ Q) X.xe s := fun {ox od} J =>
        PySem.W.kia_one (PySem.W.kitx_exc (hasD_cls C.hd) C.hg C.hk C.hs C.ha C.hn C.ht C.hm) I.kIn J e (fun z => nomatch z) fun tk => ⟨.bl b, H, I.kept (t' := tk) fun _ _ z => z, rfl, q⟩
      rcases he with ea | ⟨d, fs, ea, ed⟩
      · obtain ⟨t1, ha⟩ := exo_at I.hok ea
        exact fin (od := none) ⟨ha, rfl, rfl, trivial⟩
      · obtain ⟨t1, ha⟩ := exo_at I.hok ea
        obtain ⟨mA, ⟨o, es, ep, ho, hr⟩, _⟩ := exd_at I.hok ed
        exact fin (od := some o) ⟨ha, rfl, rfl, ho⟩
/-! own classes: &, |, -, in, bool by the class's own defs -/
section
variable {X : Cx} {C f : Addr} {k : Nat} {fd : FuncData} {ps : List Str} {sp : Sp} {nm : Str}
/-- x op y, both of the class -/
def rBinO (C : Addr) (sp : Sp) : R2 := fun x y H Q => ∃ a dx fs b dy gs, x = .ref a ∧ y = .ref b ∧ H a = some (.ins C dx fs) ∧ H b = some (.ins C dy gs) ∧ sp [x, y] H (fun v H' => (∃ c, v = .ref c) ∧ Q v H') E0
theorem op_binO {op : Operator} (hd : PySem.dunder op.info.2 = nm) (hc : PySem.W.selfFirst X.K C = true) (M : Meth X.K C nm f) (F : FnOk X.prog X.w X.K X.mg X.base CX0 k f fd ps sp) (hb : Binds X.K fd ps []) (hr : Room k X.A) : OpR X (binaryOp op) (rBinO C sp) := by
  intro pins s σ H x y v u Q I rx ry h
  obtain ⟨a, dx, fs, b, dy, gs, rfl, rfl, ha, hb2, q⟩ := h
  cases (show v = Value.ref a from rx)
  cases (show u = Value.ref b from ry)
  obtain ⟨ox, od, J⟩ := inst_at I ha
  obtain ⟨oy, oe, J2⟩ := inst_at I hb2
  obtain ⟨m, fr⟩ := I.fr
  refine PySem.W.binop_K fr I.ok.mod.kin J J2.type hc (by rw [hd]; exact M.at_) M.fn (wpAny_mono (run_at (E' := X.xe) F hr I.env0 hb I (.cons rx (.cons ry .nil)) q) (fun r t hq => ?_) fun _ _ z => z)
  obtain ⟨v', H', I', rv, ⟨c, rfl⟩, q'⟩ := hq
  cases (show r = Value.ref c from rv)
  exact ⟨.ref c, H', I', rfl, q'⟩
/-- x in y, y of the class -/
def rInO (C : Addr) (sp : Sp) : R2 := fun x y H Q => ∃ b dy gs, y = .ref b ∧ H b = some (.ins C dy gs) ∧ sp [y, x] H (fun v H' => ∃ c, v = .bl c ∧ Q (.bl c) H') E0
theorem op_inO (M : Meth X.K C "__contains__" f) (F : FnOk X.prog X.w X.K X.mg X.base CX0 k f fd ps sp) (hb : Binds X.K fd ps []) (hr : Room k X.A) : OpR X (compareOp .In) (rInO C sp) := by
  intro pins s σ H x y v u Q I rx ry h
  obtain ⟨b, dy, gs, rfl, hb2, q⟩ := h
  cases (show u = Value.ref b from ry)
  obtain ⟨oy, oe, J2⟩ := inst_at I hb2
  obtain ⟨m, fr⟩ := I.fr
  refine PySem.W.in_K fr I.ok.mod.kin J2 M.at_ M.fn (wpAny_mono (run_at (E' := X.xe) F hr I.env0 hb I (.cons ry (.cons rx .nil)) q) (fun r t hq => ?_) fun _ _ z => z)
  obtain ⟨v', H', I', rv, c, rfl, q'⟩ := hq
  cases (show r = Value.bool c from rv)
  exact wpAny_truthy_bool ⟨.bl c, H', I', rfl, q'⟩
theorem meets_boolT {prog : Program} {w : World} (x : Value) : MeetsIn prog w (Builtin.«bool.__new__» ⟨[.type "bool", x], []⟩)
    (fun A R s => wpAny (model prog w) A.in1 (truthy x) (fun b s' => ∀ tk, R (.ok (.ret (.bool b))) { s' with toks := tk }) (fun e s' => R (.error e) s') s) := fun A R s h => by
  have f1 := F.conv_sub_bool
  obtain ⟨hp, g, d, tk, os⟩ := s
  unfold Builtin.«bool.__new__»
  repeat (any_goals (first | assumption | wp_step))
  show wpAny _ _ (truthy x) _ _ _
  refine wpAny_mono h (fun b s' hq => ?_) fun _ _ z => z
  obtain ⟨hp', g', d', tk', os'⟩ := s'
  repeat (any_goals (first | assumption | wp_step))
  exact hq _
theorem call_boolT {x : Value} {prog : Program} {w : World} {A : Around} {E : Value → Shared → Prop} {s : Shared} {Q : Value → Shared → Prop} (h : wpAny (model prog w) A.in1.in1 (truthy x) (fun b s' => ∀ tk, Q (.bool b) { s' with toks := tk }) E s) : wpAny (model prog w) A (call (.type "bool") [x]) Q E s := by
  refine callType_newIn F.called_bool F.newNe_bool (F.typeCall_bool_1 x) (F.newCall_bool_1 x) (fun obj => F.args_object_init_2 obj x) F.entry_bool_new (meets_boolT x) ?_
  exact wpAny_mono h (fun b s' hq tk => ⟨rfl, hq tk⟩) fun _ _ z => z
/-- bool(x), x of the class -/
def rBoolO (C : Addr) (sp : Sp) : List V → Hp → VK → Prop := fun xs H Q => ∃ a dx fs, xs = [.ref a] ∧ H a = some (.ins C dx fs) ∧ sp [.ref a] H (fun v H' => ∃ c, v = .bl c ∧ Q (.bl c) H') E0
theorem call_boolO (M : Meth X.K C "__bool__" f) (F : FnOk X.prog X.w X.K X.mg X.base CX0 k f fd ps sp) (hb : Binds X.K fd ps []) (hr : Room (k + 2) X.A) : CallR X (.type "bool") (rBoolO C sp) := by
  intro pins s σ H xs us Q I r h
  obtain ⟨a, dx, fs, rfl, ha, q⟩ := h
  obtain rfl := Vals.ref1 r
  obtain ⟨ox, od, J⟩ := inst_at I ha
  obtain ⟨m, fr⟩ := I.fr
  refine call_boolT (PySem.W.truthy_K fr I.ok.mod.kin J M.at_ M.fn (wpAny_mono (run_at (E' := X.xe) F hr.in1.in1 I.env0.in1.in1 hb I r q) (fun r t hq => ?_) fun _ _ z => z))
  obtain ⟨v', H', I', rv, c, rfl, q'⟩ := hq
  cases (show r = Value.bool c from rv)
  exact fun tk => ⟨.bl c, H', I'.tok _, rfl, q'⟩
/-- bool(a tuple) -/
theorem call_boolTu : CallR X (.type "bool") (fun xs H Q => ∃ a zs, xs = [.ref a] ∧ SqT X.K H a zs ∧ Q (.bl (!zs.isEmpty)) H) := by
  intro pins s σ H xs us Q I r h
  obtain ⟨a, zs, rfl, hq, q⟩ := h
  obtain rfl := Vals.ref1 r
  obtain ⟨its, rv, pl, hz⟩ := I.tuple hq
  have hlen := rv.length
  have hl := line63
  exact call_boolT (truthy_tuple pl (by simp only [List.size_toArray]; omega) fun tk => ⟨.bl (!zs.isEmpty), H, I.tok _, by rw [isEmpty_of rv]; rfl, q⟩)
end
/-! a classmethod without arguments -/
section
variable {X : Cx} {CX : CXT} {k : Nat} {C p g : Addr} {mc : Value} {sp : Sp} {E : XK} {o : Expr} {m : Str} {pos apos : Pos} {ta : TE} {pl : Sem Bool}
theorem pe_cmeth0 (he : PE X o ta) (r : ClX.CRead X.K C mc) (c : ClX.CMet X.K C mc m p g) (F : FnR X.prog X.w X.K X.mg X.base CX k g sp) (hr : Room k X.A) (hx : Passes CX X E)
    (ht : eval (.Call (.Attribute o m apos) [] [] pos) X.env = (do
      let ov ← eval o X.env
      standAt apos.atName
      let (f, first) ← holding [ov] (getMethod ov m pl)
      callWith pos f first (backTo pos (starEach [] X.env)) (backToKw pos (keywordEach [] X.env))) := by rfl) : PE X (.Call (.Attribute o m apos) [] [] pos) (ClX.tCMeth C sp E ta tNil) := by
  refine ⟨fun pins s σ H Q I h => ?_⟩
  refine PySem.W.methodCall_KW (pl := pl) (thn (he.run pins s σ H _ I h) fun u s1 ⟨x, H1, I1, rx, ex, q⟩ => ?_) ht
  subst ex
  obtain rfl : u = Value.ref C := rx
  refine ClX.getmethcm_ok I1 r c fun s2 I2 => ?_
  refine PySem.W.callWith_M0 (K := X.K) ⟨ClX.pin_at I2, I2.kIn⟩ c.fi ?_
  exact ClX.run_cm F hr hx I2 .nil q
end
/-! repr of a dict: its keys are texts, its values data, or instances of a class whose own __repr__ tells -/
theorem seqL_upP {K : PySem.W.Frag} {H H' : Hp} {a : Addr} {xs : List V} (s : ∀ b o, H b = some o → (∀ kvs, o ≠ .dK kvs) → H' b = some o) (h : SqL K H a xs) : SqL K H' a xs := by
  rcases h with (h | ⟨o, h⟩) | h
  · exact .inl (.inl (s _ _ h fun _ z => nomatch z))
  · exact .inl (.inr ⟨o, s _ _ h fun _ z => nomatch z⟩)
  · exact .inr h
theorem seqT_upP {K : PySem.W.Frag} {H H' : Hp} {a : Addr} {xs : List V} (s : ∀ b o, H b = some o → (∀ kvs, o ≠ .dK kvs) → H' b = some o) (h : SqT K H a xs) : SqT K H' a xs := by
  rcases h with (h | ⟨o, h⟩) | h
  · exact .inl (.inl (s _ _ h fun _ z => nomatch z))
  · exact .inl (.inr ⟨o, s _ _ h fun _ z => nomatch z⟩)
  · exact .inr h
mutual
theorem Dp.upP {K : PySem.W.Frag} {H H' : Hp} (s : ∀ b o, H b = some o → (∀ kvs, o ≠ .dK kvs) → H' b = some o) : ∀ (d : PyData) (v : V), Dp K H v d → Dp K H' v d
  | .none, _, h => by cases h; exact .non
  | .bool b, _, h => by cases h; exact .bl b
  | .int i, _, h => by cases h; exact .int i
  | .str x, _, h => by cases h; exact .str x
  | .list ds, _, h => by
    cases h with
    | lst h1 h2 => exact .lst (seqL_upP s h1) (Dp.upPs s ds _ h2)
  | .tuple ds, _, h => by
    cases h with
    | tup h1 h2 => exact .tup (seqT_upP s h1) (Dp.upPs s ds _ h2)
  | .dict _, _, h => by cases h
theorem Dp.upPs {K : PySem.W.Frag} {H H' : Hp} (s : ∀ b o, H b = some o → (∀ kvs, o ≠ .dK kvs) → H' b = some o) : ∀ (ds : List PyData) (vs : List V), DpAll K H vs ds → DpAll K H' vs ds
  | [], _, h => by cases h; exact .nil
  | d :: ds, _, h => by
    cases h with
    | cons h1 h2 => exact .cons (Dp.upP s d _ h1) (Dp.upPs s ds _ h2)
end
/-- a dict is locked: data do not see it -/
theorem Dp.locked {K : PySem.W.Frag} {H : Hp} {a : Addr} {kvs : List (Key × V)} {o : HO} {v : V} {d : PyData} (ha : H a = some (.dK kvs)) (h : Dp K H v d) : Dp K (upd H a o) v d :=
  Dp.upP (fun b u e n => by
    rw [upd_ne (fun z => n kvs (Option.some.inj (e.symm.trans (by rw [z]; exact ha))))]
    exact e) d v h
theorem reads_val {h : Heap} {u : Value} : ∀ {vs : List Value} {ds : List PyData} {as : List Addr}, ReadsAll h vs ds as → u ∈ vs → ∃ d, d ∈ ds ∧ ∃ bs, Reads h u d bs
  | _, _, _, .nil, m => nomatch m
  | _, _, _, .cons r rs, m => by
    rcases List.mem_cons.mp m with e | m
    · subst e
      exact ⟨_, List.mem_cons_self, _, r⟩
    · obtain ⟨d, m1, bs, r1⟩ := reads_val rs m
      exact ⟨d, List.mem_cons_of_mem _ m1, bs, r1⟩
section
variable {X : Cx} {pins : List (Addr × Obj)} {σ : L2.St} {H : Hp} {s : Shared}
theorem rep_data {a : Addr} {o : Obj} {es : Array DictEntry} {ep : Nat} {u : Value} {v : V} {d : PyData} {bs0 : Nat} {A' : Around} {id : String} {rest : List Value} {E : Value → Shared → Prop} {Q : Str → Shared → Prop} (I : Inv X pins σ H s) (ha : s.heap.get? a = some o) (hc : o.cls = .type "dict")
    (hd : o.data = .dict es ep) (hm : u ∈ es.toList.map (·.val)) (hdp : Dp X.K H v d) (hp : Prn d) (r : RelV v u) (hb : bs0 + d.shown.length ≤ sizeLine) (hg : A'.guards = some [.builtin id ⟨.ref a :: rest, []⟩]) (hu : A'.units + d.depth < cLine)
    (q : ∀ s', Inv X pins σ H s' → s'.heap.get? a = some o → Q d.shown s') : wpAny (model X.prog X.w) A' (pyReprUnder bs0 u) Q E s := by
  obtain ⟨as, rd⟩ := Dp.reads I d v u hdp r
  obtain ⟨bs, hbs, hk⟩ := ReprK.of_reads (prog := X.prog) (w := X.w) rd hp.sh (PyData.noDict_hsm hp.nd) hp.sz
  have na : a ∉ bs := by
    intro hm2
    obtain ⟨d', as', r', hd'⟩ := hbs a hm2
    cases r' with
    | list h1 h2 h3 h4 =>
      rw [ha] at h1
      cases h1
      rw [hc] at h2
      exact absurd h2 (by decide)
    | tuple h1 h2 h3 h4 =>
      rw [ha] at h1
      cases h1
      rw [hc] at h2
      exact absurd h2 (by decide)
    | dict h1 h2 h3 h4 h5 =>
      rename_i o' es' n' kvs' as1 bs1
      rw [ha] at h1
      cases h1
      rw [hd] at h3
      cases h3
      obtain ⟨d2, m2, bs2, r2⟩ := reads_val h5 hm
      obtain ⟨e, _⟩ := PyProof.Rows.reads_det (fun _ _ e _ => e) rd r2
      subst e
      have l1 := depth_mem m2
      have l2 := PyData.depthAll_vals_le kvs'
      simp only [PyData.depth] at hd'
      omega
  exact hk bs0 hb A' _ E s Q hg (fun b hb => (Clear.nil b).cons fun e => na (by rw [e]; exact hb)) hu (fun _ _ e => e) fun h' tk kp => q _ (I.kept kp) (kp _ _ ha)
theorem boundBy_fn {M : Model} {A : Around} {E : Value → Shared → Prop} {last : Value → List Value → Sem Value} {x C f : Addr} {ox : Obj} {od : Option Obj} {name : Str} {K : PySem.W.Frag} {Q : Option Value → Shared → Prop} (X : K.In s.heap) (I : PySem.W.InstAt s.heap x ox C od)
    (hs : PySem.W.findIn K (.ref C) name = some (some (.ref f))) (hf : PySem.W.isFn K (.ref f) = true) (h : wpAny M A (last (.ref f) [.ref x]) (fun v => Q (some v)) E s) : wpAny M A (callSpecialIfBoundBy? last (.ref x) name) Q E s := by
  simp only [callSpecialIfBoundBy?, bindSpecialIfBound?]
  refine wpAny_holding (wpAny_bind (wpAny_bind (wpAny_bind (I.type.here ((PySem.W.looks_findIn X hs).here ?_)))))
  refine wpAny_bind (wpAny_askSetting (wpAny_ite ?_))
  have fin : wpAny M A (do let v ← last (.ref f) [.ref x]; pure (some v)) Q E s := wpAny_bind (wpAny_mono h (fun _ _ z => wpAny_pure z) fun _ _ z => z)
  have bd := PySem.W.bind_fn (M := M) X (.ref x) (beq_iff_eq.mp hf)
  split
  · exact wpAny_bind (bd.here (wpAny_pure (by exact fin)))
  · exact wpAny_tryCatch (wpAny_bind (bd.here (wpAny_pure (by exact fin))))
theorem rep_own {C fR b dx : Addr} {fs : List (Str × V)} {k : Nat} {fd : FuncData} {sp : Sp} {bs0 : Nat} {t : Str} {A' : Around} {E : Value → Shared → Prop} {Q : Str → Shared → Prop} (m : Meth X.K C "__repr__" fR) (F : FnOk X.prog X.w X.K X.mg X.base CX0 k fR fd ["self"] sp) (hbd : Binds X.K fd ["self"] [])
    (I : Inv X pins σ H s) (hb : H b = some (.ins C dx fs)) (hr : Room k A') (hf : A'.frames = some X.stack) (h0 : bs0 ≤ sizeLine) (hsp : sp [.ref b] H (fun u H' => u = .str t ∧ H' = H) E0) (q : ∀ s', Inv X pins σ H s' → Q t s') :
    wpAny (model X.prog X.w) A' (pyReprUnder bs0 (.ref b)) Q E s := by
  obtain ⟨ox, od, J⟩ := inst_at I hb
  have e0 := I.env0
  have run := run_at (E' := E) (σ := σ) (pins := pins) F hr ⟨hf, e0.mod, e0.bs, e0.bsz, e0.funs, e0.frf, e0.hok, e0.bare⟩ hbd I (show Vals [V.ref b] [Value.ref b] from .cons rfl .nil) hsp
  refine wpAny_pyReprUnder_ref h0 ?_
  unfold pyReprObjUnder pyReprObjBy
  refine wpAny_bind (wpAny_cRoomFor (by have := hr.units; omega) ?_)
  refine wpAny_bind (m := specialOf (.ref b) (Str.ofString "__repr__")) (wpAny_bind (J.type.here ((PySem.W.looks_findIn I.kIn m.at_).here ?_)))
  show wpAny _ _ (if (some (Value.ref fR)).isNone = true then _ else _) _ _ _
  rw [if_neg (by simp)]
  refine wpAny_bind (m := callSpecialIfBoundBy? _ (.ref b) (Str.ofString "__repr__")) (boundBy_fn I.kIn J m.at_ m.fn (wpAny_mono run (fun r t' hq => ?_) fun _ _ z => z))
  obtain ⟨v', H', I', rv, rfl, rfl⟩ := hq
  obtain ⟨tk, rfl⟩ := (show ∃ tk, r = Value.str t tk from rv)
  refine wpAny_bind (wpAny_isInstance (typeIs_str _ _ _) isSubtype_str_str ?_)
  rw [if_pos rfl]
  exact wpAny_pure ⟨t, tk, rfl, q _ I'⟩
end
/-- how a value of a dict shows -/
def ShV (K : PySem.W.Frag) (C : Addr) (sp : Sp) (H : Hp) (v : V) (t : Str) : Prop :=
  (∃ d, Dp K H v d ∧ Prn d ∧ d.depth ≤ 40 ∧ t = d.shown) ∨ ∃ b dx fs, v = .ref b ∧ H b = some (.ins C dx fs) ∧ sp [.ref b] H (fun u H' => u = .str t ∧ H' = H) E0
def ShKV (K : PySem.W.Frag) (C : Addr) (sp : Sp) (H : Hp) (p : Key × V) (t : Str) : Prop := ∃ x y, p.1 = .inr x ∧ ShV K C sp H p.2 y ∧ t = reprText x ++ ": " ++ y
theorem ent_at {P : Program} {w : World} {K : PySem.W.Frag} {C : Addr} {sp : Sp} {H : Hp} {ks : List (Key × V)} {ts : List Str} (h : Paired (ShKV K C sp H) ks ts) : ∀ {vs : List (Key × Value)} {es : List DictEntry}, KV ks vs → Pairs (mixKind P w) es vs → ∀ (i : Nat) (e : DictEntry), es[i]? = some e →
    ∃ x y tk v, e.key = .str x tk ∧ RelV v e.val ∧ ShV K C sp H v y ∧ ts[i]? = some (reprText x ++ ": " ++ y) := by
  induction h with
  | nil =>
    intro vs es rk rp i e hi
    cases rk
    cases rp
    simp at hi
  | cons hp _ ih =>
    intro vs es rk rp i e hi
    cases rk with
    | cons r1 r2 =>
      cases rp with
      | cons p1 p2 p3 =>
        cases i with
        | zero =>
          obtain ⟨x, y, e1, e2, e3⟩ := hp
          simp only [List.getElem?_cons_zero, Option.some.injEq] at hi
          subst hi
          rw [← r1.1, e1] at p1
          obtain ⟨tk, e4⟩ := Value.isStrOf_shape p1
          exact ⟨x, y, tk, _, e4, by rw [p2]; exact r1.2, e2, by rw [e3]; rfl⟩
        | succ i =>
          obtain ⟨x, y, tk, v, q⟩ := ih r2 p3 i e (by simpa using hi)
          exact ⟨x, y, tk, v, by simpa using q⟩
theorem under_room {k : Nat} {A : Around} (r : Room (k + 1) A) (args : Args) : Room k (A.under (.builtin "dict.__repr__" args)) := by
  have e : (A.under (.builtin "dict.__repr__" args)).depth ≤ A.depth + 1 := by
    first
      | exact Nat.le_of_eq (by rfl)
      | (simp [Around.under, Code.weight, Code.isCreation, Code.isGuard, Code.isCaller, Code.frames, Code.isFrame, guardIds])
  exact ⟨r.hd, by have := r.dp; omega, by have := r.un; rw [units_under_dict_repr]; omega⟩
section
variable {X : Cx} {pins : List (Addr × Obj)} {σ : L2.St} {H : Hp} {s : Shared} {C fR : Addr} {k : Nat} {fd : FuncData} {sp : Sp}
theorem dict_rep {a : Addr} {o : Obj} {kvs : List (Key × V)} {ts : List Str} {A : Around} {E : Value → Shared → Prop} {Q : Value → Shared → Prop} (m : Meth X.K C "__repr__" fR) (F : FnOk X.prog X.w X.K X.mg X.base CX0 k fR fd ["self"] sp) (hbd : Binds X.K fd ["self"] [])
    (I : Inv X pins σ H s) (ha : H a = some (.frz o (.dK kvs))) (hp : Paired (ShKV X.K C sp H) kvs ts) (hz : (dictText ts).length ≤ sizeLine) (hr : Room (k + 1) A) (hf : A.frames = some X.stack) (hg : A.guards = some [])
    (q : ∀ u s', Inv X pins σ H s' → Q (.str (dictText ts) u) s') : wpAny (model X.prog X.w) A (call (.builtin "dict.__repr__") [.ref a]) Q E s := by
  obtain ⟨ho, hlen, hsys, vs, rk, ⟨o2, es, ep, ho2, hex, hd, hko, hpr, hnd⟩⟩ := I.hok a _ ha
  rw [ho] at ho2
  cases ho2
  have hun := hr.un
  have hts : ts.length = es.size := by
    have l1 := Paired.length hp
    have l2 := Paired.length rk
    have l3 := hpr.length
    rw [Array.length_toList] at l3
    omega
  have hpl := piled_le_dictText ts
  refine wpAny_call (codeAny_call_builtin_own (Code.quiet_builtin _ (by decide +kernel)) PySem.F.entry_dict_repr (PySem.F.slot_dict_repr.check _ _ _ _ _ _ _ _ ⟨o, ho, hex.1⟩ (PySem.F.args_dict_repr_1 _) ?_))
  show wpOwn _ A _ (Builtin.dictReprAt 0 ⟨[.ref a], []⟩) _ _ s
  unfold Builtin.dictReprAt
  refine wpOwn_bind (wpOwn_of_wpAny ?_)
  unfold Builtin.Dict.dictSlotNone
  refine wpAny_bind (wpAny_notOrdered_dict ⟨o, ho, hex.1⟩ ?_)
  show wpAny _ _ (pure (Value.ref a)) _ _ s
  refine wpAny_pure ?_
  rw [dictReprRunning_eq]
  refine wpOwn_bind (wpOwn_stackTailAny hg (dictGuardF_off _) (dictGuardF_pos _) ?_)
  refine wpOwn_of_wpAny ?_
  have hg1 := guards_under_guard (isGuard_dict_repr ⟨[.ref a], []⟩) hg
  have hr1 := under_room hr ⟨[.ref a], []⟩
  have hu1 : (A.under (.builtin "dict.__repr__" ⟨[.ref a], []⟩)).units = A.units + 1 := units_under_dict_repr _ _
  show wpAny _ _ (Builtin.Dict.addrOf (.ref a) >>= _) _ _ s
  refine wpAny_bind (wpAny_pure ?_)
  show wpAny _ _ (Builtin.Dict.showsAll a >>= _) _ _ s
  unfold Builtin.Dict.showsAll
  rw [if_neg (by rw [hsys]; simp)]
  refine wpAny_bind (wpAny_pure ?_)
  refine wpAny_bind (wpAny_dictEpoch ho hd ?_)
  refine wpAny_bind (wpAny_dictEntries ho hd ?_)
  refine wpAny_bind ?_
  rw [Std.Legacy.Range.forIn_eq_forIn_range']
  simp only [Std.Legacy.Range.size, Nat.sub_zero, Nat.add_sub_cancel, Nat.div_one]
  refine wpAny_forIn_list _ (fun l r s' => ∃ i, l = List.range' i (es.size - i) ∧ i ≤ es.size ∧ r = (⟨(ts.take i).toArray, piled (ts.take i)⟩ : (Array Str × Nat)) ∧ Inv X pins σ H s') _ ?_ ?_ _ _ ⟨0, by simp, Nat.zero_le _, by simp [piled], I⟩
  · rintro j l _ s1 ⟨i, el, hi, rfl, I1⟩
    have hlt : i < es.size := by
      rcases Nat.lt_or_ge i es.size with h | h
      · exact h
      · rw [Nat.sub_eq_zero_of_le h] at el
        simp at el
    have es1 : es.size - i = (es.size - (i + 1)) + 1 := by omega
    rw [es1, List.range'_succ] at el
    injection el with ej el
    subst ej
    obtain ⟨ho1, _⟩ := I1.hok a _ ha
    obtain ⟨x, y, tk, v, ek, rv, sv, et⟩ := ent_at hp rk hpr j es[j] (by simp [hlt])
    have lt3 : (reprText x ++ ": " ++ y).length = (reprText x).length + 2 + y.length := by
      rw [Str.length_append, Str.length_append]
      rfl
    have p1 := piled_take_succ et
    have p2 := piled_take_le ts (j + 1)
    rw [lt3] at p1
    refine wpAny_bind (wpAny_dictEntries ho1 hd ?_)
    rw [Array.getElem?_eq_getElem hlt]
    have fin : ∀ (E2 : Value → Shared → Prop) s2, Inv X pins σ H s2 → wpAny (model X.prog X.w) (A.under (.builtin "dict.__repr__" ⟨[.ref a], []⟩)) (pyReprUnder (piled (ts.take j) + ((reprText x).length + 3)) es[j].val) (fun z s3 => z = y ∧ Inv X pins σ H s3) E2 s2 := by
      intro E2 s2 I2
      rcases sv with ⟨d, h1, h2, h3, rfl⟩ | ⟨b, dx, fs, rfl, h1, h2⟩
      · obtain ⟨ho3, _⟩ := I2.hok a _ ha
        exact rep_data I2 ho3 hex.1 hd (List.mem_map_of_mem (by simp)) h1 h2 rv (by omega) hg1 (by rw [hu1]; omega) fun s3 I3 _ => ⟨rfl, I3⟩
      · rw [show es[j].val = Value.ref b from rv]
        exact rep_own m F hbd I2 h1 hr1 hf (by omega) h2 fun s3 I3 => ⟨rfl, I3⟩
    refine wpAny_bind (wpAny_holding (wpAny_bind ?_))
    rw [ek]
    refine ReprIs.str x tk (by omega) (piled (ts.take j) + 1) (by omega) _ _ _ _ fun tk2 => ?_
    refine wpAny_bind (wpAny_mono (fin _ _ (I1.tok tk2)) (fun z s3 hz3 => ?_) fun _ _ z => z)
    obtain ⟨rfl, I3⟩ := hz3
    refine wpAny_pure ?_
    obtain ⟨ho3, _⟩ := I3.hok a _ ha
    refine wpAny_bind (wpAny_dictEpoch ho3 hd ?_)
    rw [if_neg (by simp)]
    refine wpAny_pure ⟨j + 1, el, hlt, ?_, I3⟩
    have e1 : (ts.take j).toArray.push (reprText x ++ ": " ++ z) = (ts.take (j + 1)).toArray := by
      rw [List.take_add_one, et]
      simp
    have e2 : piled (ts.take j) + ((reprText x).length + z.length + 4) = piled (ts.take (j + 1)) := by omega
    rw [e1, e2]
  · rintro _ s1 ⟨i, el, hi, rfl, I1⟩
    have hin : i = es.size := by
      rcases Nat.lt_or_ge i es.size with h | h
      · have es1 : es.size - i = (es.size - (i + 1)) + 1 := by omega
        rw [es1, List.range'_succ] at el
        cases el
      · omega
    rw [hin, ← hts, List.take_length]
    refine wpAny_bind (wpAny_mkStr (wpAny_pure ?_) (by simpa [dictText] using hz))
    have fin := q s1.toks _ (I1.tok (s1.toks + 1))
    simpa [dictText] using fin
/-- repr(d): the dict's values are data, or instances of the class -/
def rRepDict (K : PySem.W.Frag) (C : Addr) (sp : Sp) : List V → Hp → VK → Prop := fun xs H Q => ∃ a kvs ts, xs = [.ref a] ∧ H a = some (.dK kvs) ∧ (∀ o, Paired (ShKV K C sp (upd H a (.frz o (.dK kvs)))) kvs ts) ∧ (dictText ts).length ≤ sizeLine ∧ Q (.str (dictText ts)) H
theorem upd_back {H : Hp} {a : Addr} {o u : HO} (h : H a = some u) : upd (upd H a o) a u = H := by
  funext b
  by_cases e : b = a
  · rw [e, upd_same, h]
  · rw [upd_ne e, upd_ne e]
theorem call_repDict (m : Meth X.K C "__repr__" fR) (F : FnOk X.prog X.w X.K X.mg X.base CX0 k fR fd ["self"] sp) (hbd : Binds X.K fd ["self"] []) (hr : Room (k + 2) X.A) (gd : X.A.guards = some []) : CallR X (.builtin "repr") (rRepDict X.K C sp) := by
  intro pins s σ H xs us Q I r h
  obtain ⟨a, kvs, ts, rfl, ha, hp, hz, q⟩ := h
  obtain ⟨u, rfl, ru⟩ := vals1 r
  cases (show u = Value.ref a from ru)
  have mu : Mut (some (.dK kvs)) := trivial
  obtain ⟨od, I1⟩ := I.lock ha mu
  obtain ⟨ho, _, _, _, _, ⟨o2, _, _, ho2, hex, _⟩⟩ := I1.hok a _ upd_same
  rw [ho] at ho2
  cases ho2
  have hun := hr.un
  refine call_repr_slot (idr := "dict.__repr__") (by omega) ⟨od, ho, hex.1⟩ PySem.F.slot_dict_repr ?_
  refine dict_rep m F hbd I1 upd_same (hp od) hz hr.in1 (by exact I.env0.frames) (by exact gd) fun u s' I2 => ⟨_, u, rfl, .str (dictText ts), H, ?_, ⟨u, rfl⟩, q⟩
  have I3 := I2.unlock upd_same (I.nofrz ha mu)
  rw [upd_back ha] at I3
  exact I3
end
open AutoSeq1 (wpAny_loadPart')
/-! ==, != of things that are equal: data, tuples, lists, dicts, one object; nested -/
def EqS (K : PySem.W.Frag) (H : Hp) (E : V → V → Prop) (x y : V) : Prop :=
  EqR K H E x y ∨ ∃ a b xs ys, x = .ref a ∧ y = .ref b ∧ SqT K H a xs ∧ SqT K H b ys ∧ Paired E xs ys
def EqW (K : PySem.W.Frag) (H : Hp) : Nat → V → V → Prop
  | 0 => fun _ _ => False
  | n + 1 => fun x y => (x = y ∧ flatB x = true) ∨ (∃ a, x = .ref a ∧ y = .ref a) ∨ (∃ d, Dp K H x d ∧ Dp K H y d ∧ SeqAt.shaped d = true) ∨ EqS K H (EqW K H n) x y
section
variable {prog : Program} {w : World} {A : Around} {R : Result → Shared → Prop}
theorem tup_ne_run (l b : Addr) (us vs : Array Value) (n m : Nat) (dd ee : Option Addr) (sl sm : Array (Option Value)) (hsz : us.size = vs.size) {s : Shared} (turn : ∀ i (h1 : i < us.size) (h2 : i < vs.size), SeqAt.EqP prog w A.in1 s us[i] vs[i] true)
    (fin : R (.ok (.ret (.bool false))) s) (hl : s.heap.get? l = some { cls := .type "tuple", dict := dd, data := .seq us n, slots := sl }) (hb : s.heap.get? b = some { cls := .type "tuple", dict := ee, data := .seq vs m, slots := sm }) :
    wpAny (model prog w) A.in1 (Builtin.«tuple.__ne__» ⟨[.ref l, .ref b], []⟩) (GQ.FinOf prog w A R) (fun e s' => R (.error e) s') s := by
  have f2 := AutoSeq1.sub_tuple_tuple
  have zl : (us.toList.zip vs.toList).length = us.size := by simp [hsz]
  obtain ⟨hp, g, d, tk, os⟩ := s
  wp_walk using wpAny_loadPart' hl, wpAny_loadPart' hb, wpAny_forIn_list _ (fun rest c s' => c.1 = none ∧ s' = ⟨hp, g, d, tk, os⟩ ∧ ∃ i, rest = (us.toList.zip vs.toList).drop i ∧ i ≤ us.size) _
  case turn =>
    rintro ⟨y, x⟩ rest c s' ⟨hc, rfl, i, hz, hi⟩
    have hlt : i < (us.toList.zip vs.toList).length := by
      rcases Nat.lt_or_ge i (us.toList.zip vs.toList).length with h | h
      · exact h
      · rw [List.drop_of_length_le h] at hz
        cases hz
    have h1 : i < us.size := zl ▸ hlt
    have h2 : i < vs.size := hsz ▸ h1
    rw [List.drop_eq_getElem_cons hlt] at hz
    injection hz with hyx hrest
    have ey : y = us[i] := by simpa using congrArg Prod.fst hyx
    have ex : x = vs[i] := by simpa using congrArg Prod.snd hyx
    subst ey ex
    refine wpAny_bind (turn i h1 h2 _ _ ?_)
    wp_walk
    exact ⟨rfl, rfl, i + 1, hrest, h1⟩
  case fin =>
    rintro ⟨c1, c2⟩ s' ⟨hc, rfl, i, hz, hi⟩
    simp only at hc
    subst hc
    wp_walk
    simpa [Builtin.Tuple.tupleCompareSizes, hsz, bne] using fin
  case h =>
    exact ⟨rfl, rfl, 0, rfl, Nat.zero_le _⟩
end
section
variable {X : Cx} {pins : List (Addr × Obj)} {σ : L2.St} {H : Hp} {s : Shared}
theorem eqS_run (I : Inv X pins σ H s) {A : Around} {F : V → V → Prop} (hu : A.units < cLine) (ih : ∀ x y v u, F x y → RelV x v → RelV y u → SeqAt.EqP X.prog X.w A.in1 s v u true) {x y : V} {v u : Value} (h : EqS X.K H F x y) (rx : RelV x v) (ry : RelV y u)
    (E Q : Value → Shared → Prop) (q : Q (.bool true) s) : wpAny (model X.prog X.w) A (richCompare .Eq v u) Q E s := by
  rcases h with h | ⟨a, b, xs, ys, rfl, rfl, ha, hb, hp⟩
  · exact eqR_run I hu ih h rx ry E Q q
  · cases (show v = Value.ref a from rx)
    cases (show u = Value.ref b from ry)
    obtain ⟨us, r1, p1, _⟩ := I.tuple ha
    obtain ⟨ws, r2, p2, _⟩ := I.tuple hb
    have hsz : us.toArray.size = ws.toArray.size := by
      rw [List.size_toArray, List.size_toArray, ← r1.length, ← r2.length]
      exact Paired.length hp
    refine GQ.rc_tupG hsz hu (fun _ s' => s' = s) p1 p2 (fun i h1 h2 s' e => ?_) (fun s' e => by rw [e]; exact q) rfl
    subst e
    have k := items_run ih hp r1 r2 i (by simpa using h1) (by simpa using h2)
    have k2 : SeqAt.EqP X.prog X.w A.in1 s' us.toArray[i] ws.toArray[i] true := by simpa using k
    exact k2 _ _ ⟨rfl, rfl⟩
theorem eqW_run (I : Inv X pins σ H s) : ∀ (n : Nat) (A : Around), A.units + n + 64 < cLine → ∀ (x y : V) (v u : Value), EqW X.K H n x y → RelV x v → RelV y u → SeqAt.EqP X.prog X.w A s v u true
  | 0, _, _, _, _, _, _, h, _, _ => (show False from h).elim
  | n + 1, A, hu, x, y, v, u, h, rx, ry => by
    rcases h with ⟨rfl, f⟩ | ⟨a, rfl, rfl⟩ | ⟨d, h1, h2, sd⟩ | h
    · exact (eqAt_same rx ry f).eqP
    · cases (show v = Value.ref a from rx)
      cases (show u = Value.ref a from ry)
      exact (SeqAt.EqAt.same _).eqP
    · obtain ⟨as, r1⟩ := Dp.reads I d x v h1 rx
      obtain ⟨bs, r2⟩ := Dp.reads I d y u h2 ry
      have k := SeqAt.eqAt_reads d d A s v u as bs r1 r2 (SeqAt.canLay_of_shaped sd) (SeqAt.canLay_of_shaped sd) (SeqAt.room_of_shaped sd (by omega))
      rw [SeqAt.eqv_refl d (SeqAt.canLay_of_shaped sd)] at k
      exact k.eqP
    · have step := eqS_run I (A := A) (by omega) (eqW_run I n A.in1 (by show A.units + 1 + n + 64 < cLine; omega)) h rx ry
      obtain ⟨a, b, rfl, rfl⟩ : ∃ a b, x = .ref a ∧ y = .ref b := by
        rcases h with (⟨a, b, _, _, e1, e2, _⟩ | ⟨a, b, _, _, e1, e2, _⟩) | ⟨a, b, _, _, e1, e2, _⟩
        · exact ⟨a, b, e1, e2⟩
        · exact ⟨a, b, e1, e2⟩
        · exact ⟨a, b, e1, e2⟩
      cases (show v = Value.ref a from rx)
      cases (show u = Value.ref b from ry)
      by_cases e : a = b
      · subst e
        exact (SeqAt.EqAt.same _).eqP
      · exact SeqAt.eqP_refs e step
end
section
variable {X : Cx}
/-- x == y, equal -/
def rEqS (K : PySem.W.Frag) : R2 := fun x y H Q => ∃ n, n ≤ 40 ∧ EqS K H (EqW K H n) x y ∧ Q (.bl true) H
theorem op_eqS (hu : X.A.units + 120 < cLine) : OpR X (compareOp .Eq) (rEqS X.K) := by
  intro pins s σ H x y v u Q I rx ry h
  obtain ⟨n, hn, h, q⟩ := h
  exact eqS_run I (A := X.A) (by omega) (eqW_run I n X.A.in1 (by show X.A.units + 1 + n + 64 < cLine; omega)) h rx ry _ _ ⟨.bl true, H, I, rfl, q⟩
/-- x != y, two tuples or two dicts that are equal -/
def rNeS (K : PySem.W.Frag) : R2 := fun x y H Q => ∃ n a b, n ≤ 40 ∧ x = .ref a ∧ y = .ref b ∧ ((∃ xs ys, SqT K H a xs ∧ SqT K H b ys ∧ Paired (EqW K H n) xs ys) ∨
  ∃ ks ls, H a = some (.dK ks) ∧ H b = some (.dK ls) ∧ ks.length = ls.length ∧ ∀ p ∈ ks, ∃ u, valV ls p.1 = some u ∧ EqW K H n p.2 u) ∧ Q (.bl false) H
theorem op_neS (hu : X.A.units + 120 < cLine) : OpR X (compareOp .NotEq) (rNeS X.K) := by
  intro pins s σ H x y v u Q I rx ry h
  obtain ⟨n, a, b, hn, rfl, rfl, h, q⟩ := h
  cases (show v = Value.ref a from rx)
  cases (show u = Value.ref b from ry)
  have ih := eqW_run I n X.A.in1 (by show X.A.units + 1 + n + 64 < cLine; omega)
  rcases h with ⟨xs, ys, ha, hb, hp⟩ | ⟨ks, ls, ha, hb, hl, hp⟩
  · obtain ⟨us, r1, p1, _⟩ := I.tuple ha
    obtain ⟨ws, r2, p2, _⟩ := I.tuple hb
    have hsz : us.toArray.size = ws.toArray.size := by
      rw [List.size_toArray, List.size_toArray, ← r1.length, ← r2.length]
      exact Paired.length hp
    obtain ⟨⟨c1, dd, da, sl⟩, ho, hc, m1, hd⟩ := p1
    obtain ⟨⟨c2, ee, db, sm⟩, ho2, hc2, m2, hd2⟩ := p2
    simp only at hc hd hc2 hd2
    subst hc hd hc2 hd2
    refine wpAny_richCompare_same_room (op := .NotEq) ⟨_, ho, rfl⟩ ⟨_, ho2, rfl⟩ F.slot_tuple_ne (GQ.call_here F.slot_tuple_ne ⟨_, ho, rfl⟩ F.entry_tuple_ne (F.args_tuple_ne_2 _ _) ?_) (by omega)
    refine tup_ne_run (R := wants (fun v s' => v ≠ .notImplemented ∧ EP X pins σ Q v s') X.xe) a b us.toArray ws.toArray m1 m2 dd ee sl sm hsz (fun i h1 h2 => ?_) (show _ ∧ _ from ⟨(fun z => nomatch z), (.bl false : V), H, I, rfl, q⟩) ho ho2
    have k := items_run ih hp r1 r2 i (by simpa using h1) (by simpa using h2)
    simpa using k
  · obtain ⟨_, ya, va, ra, da⟩ := (show ObjOk X.prog X.w H s.heap a (.dK ks) from I.hok a _ ha)
    obtain ⟨_, yb, vb, rb, db⟩ := (show ObjOk X.prog X.w H s.heap b (.dK ls) from I.hok b _ hb)
    have hl2 : va.length = vb.length := by rw [← ra.length, ← rb.length]; exact hl
    refine wpAny_richCompare_same_room (op := .NotEq) da.typeIs db.typeIs PySem.F.slot_dict_ne (wpAny_call_entry PySem.F.slot_dict_ne da.typeIs PySem.F.entry_dict_ne ?_ (PySem.F.args_dict_ne_2 _ _)) (by omega)
    show wpAny _ _ (Builtin.Dict.dictSlotArgs "__ne__" ⟨[.ref a, .ref b], []⟩ >>= _) _ _ s
    refine wpAny_bind ?_
    unfold Builtin.Dict.dictSlotArgs
    refine wpAny_bind (wpAny_notOrdered_dict da.typeIs (wpAny_pure ?_))
    refine wpAny_bind (wpAny_isInstance (T := "dict") db.typeIs PySem.F.sub_dict_dict ?_)
    simp only [Bool.not_true, Bool.false_eq_true, if_false]
    refine wpAny_bind (wpAny_pure (wpAny_bind (wpAny_pure ?_)))
    refine wpAny_bind (PySem.W.samePairsP (knd := mixKind X.prog X.w) (r := true) ya yb da db (fun _ => hits_run (A := X.A.in1) ih rb ra hp) ?_)
    refine wpAny_pure ⟨_, rfl, ?_, ?_⟩
    · exact fun x => nomatch x
    · have e : ((va.length == vb.length && true) == false) = false := by simp [hl2]
      rw [e]
      exact ⟨.bl false, H, I, rfl, q⟩
end
/-! y = {k: v for ..}; a dict comprehension over anything that is walked -/
theorem sw_dict {kx vx : Expr} {gs : List Comprehension} {scope : Scope} {pos py : Pos} {y : Str} {l : Nat} {env : Env} (hk : env.scope.kind = .function) (hy : env.scope.names.lookup y = some .local) (hl : (py.line == pos.line) = true)
    (ha : (scope.names.any fun (n, k) => n == y && (k == .local || k == .cell)) = false) : swapsWith (.DictComp kx vx gs scope pos) (some (.Name y py)) l env = pure true := by
  have e1 : env.kindOf y = some .local := hy
  have e2 : env.blockKind = .function := by
    unfold Env.blockKind
    rw [hk]
    rfl
  unfold swapsWith
  simp only [e2, e1, ha, Expr.pos, hl]
  rfl
theorem ps_setDc {X : Cx} {i : Nat} {y : Str} {py : Pos} {kx vx tg iter : Expr} {ifs : List Expr} {scope : Scope} {own : List (Str × Nat)} {pos spos : Pos} {wi : TI} {g : TG} {tt : TT} {tk tv : TE} (hc : X.calm = true) (hN : X.N.Nodup) (hy : X.N[i]? = some y) (hyl : X.env.scope.names.lookup y = some .local)
    (hsw : swapsWith (.DictComp kx vx [⟨tg, iter, ifs, 0⟩] scope pos) (some (.Name y py)) spos.line X.env = pure true) (hi : PI X tg iter wi) (ok : BlkOk X.N X.env.scope scope own)
    (hg : ∀ (s : Shared) (H : Hp) (C : Addr) (cl : List (Str × Addr)) (fp : List Addr), PG (X.blk s H scope (compEnvC scope cl C X.env) fp) tg g) (ht : ∀ (s : Shared) (H : Hp) (C : Addr) (cl : List (Str × Addr)) (fp : List Addr), PTs (X.blk s H scope (compEnvC scope cl C X.env) fp) ifs tt)
    (hk : ∀ (s : Shared) (H : Hp) (C : Addr) (cl : List (Str × Addr)) (fp : List Addr), PE (X.blk s H scope (compEnvC scope cl C X.env) fp) kx tk)
    (he : ∀ (s : Shared) (H : Hp) (C : Addr) (cl : List (Str × Addr)) (fp : List Addr), PE (X.blk s H scope (compEnvC scope cl C X.env) fp) vx tv) (hs : ∀ x, foldedSetIterable iter X.env x = pure x := by intro _; rfl) :
    PS X (.Assign [.Name y py] (.DictComp kx vx [⟨tg, iter, ifs, 0⟩] scope pos) spos) (tAsg (tDc wi g tt tk tv (own.map (·.2))) (gName i)) := by
  refine ⟨fun pins s σ H D I h => ?_⟩
  rw [exec_Assign_Name_used _ _ _ _ hsw]
  refine wpAny_bind (wpAny_standAt (wpAny_bind ?_))
  show wpAny _ X.A (do let _ ← comprehension (.DictComp kx vx [⟨tg, iter, ifs, 0⟩] scope pos) scope X.env (firstIterPos [⟨tg, iter, ifs, 0⟩] pos) newDict false (eval iter X.env) (some (assign (.Name y py) X.env))) _ _ s
  have h : tDc wi g tt tk tv (own.map (·.2)) σ H (fun x H1 => gName i x σ H1 D.nx) := h
  refine wpAny_bind (thn (dc_core (Qf := fun _ s' => SP X pins D .next s') hc hN I hi ok hg ht hk he hs h fun L C s' m H' I' q hn f => ?_) fun _ s' hq => wpAny_pure (wpAny_pure hq))
  show wpAny _ _ (assign (.Name y py) X.env (.ref L)) _ _ _
  obtain ⟨f0, f1, f2, f3, f4, f5⟩ := f
  refine wpAny_assign_Name (store_ok2 (v := V.ref L) I' hN hy (.inl hyl) rfl (fun s2 I2 ⟨a, sb, ha⟩ => ?_) (.inr hyl))
  have nCa : C ≠ a := by
    rcases ha with z | z
    · rw [z]
      exact f1
    · exact fun e => f4 y a z e.symm
  refine ⟨m, hn.sameBut sb nCa, fun h3 sb3 => ⟨_, H', I2.turned (t' := s2.toks) (fun b o hb e => (sb3.2 b hb).trans e) f0 f1 f3 f4 f5, q⟩⟩
theorem dc_it {J : It} {n : Nat} {G : Hp → Prop} {Y : Nat → Hp → V → Hp → Prop} (w : Walk J n G Y) {g : TG} {tt : TT} {tk tv : TE} {vs : List Nat} {σ : L2.St} {H1 : Hp} {D : Addr} {Qd : Hp → Prop} (Pv : Nat → Hp → Prop) (h0 : Pv 0 (upd H1 D (.dK []))) (hG : ∀ i H, i ≤ n → Pv i H → G H)
    (hs : ∀ i x H H', i < n → Pv i H → Y i H x H' → g x (wipe σ vs) H' fun σ2 H2 => wipe σ2 vs = wipe σ vs ∧ tt σ2 H2 fun b H3 =>
      if b = true then tk σ2 H3 fun y H4 => tv σ2 H4 fun z H5 => ∃ kvs k, y = kV k ∧ H5 D = some (.dK kvs) ∧ kvs.length < sizeLine ∧ Pv (i + 1) (upd H5 D (.dK (putK kvs k z))) else Pv (i + 1) H3) (hd : ∀ H, Pv n H → Qd H) :
    ∃ W : Nat → Nat → Hp → Prop, (∃ m, W 0 m (upd H1 D (.dK []))) ∧ ∀ i m H, W i m H → (J.stop i H ∧ Qd H) ∨ (J.go i H ∧ ∃ Nx : Hp → Prop, (∀ H', Nx H' → ∃ m', m' < m ∧ W (i + 1) m' H') ∧ ∀ x H', J.yld i H x H' → g x (wipe σ vs) H' fun σ2 H2 =>
      wipe σ2 vs = wipe σ vs ∧ tt σ2 H2 fun b H3 => if b = true then tk σ2 H3 fun y H4 => tv σ2 H4 fun z H5 => ∃ kvs k, y = kV k ∧ H5 D = some (.dK kvs) ∧ kvs.length < sizeLine ∧ Nx (upd H5 D (.dK (putK kvs k z))) else Nx H3) := by
  refine ⟨fun i m H => i ≤ n ∧ m + i = n ∧ Pv i H, ⟨n, Nat.zero_le _, rfl, h0⟩, ?_⟩
  rintro i m H ⟨hi, hm, p⟩
  have gg := hG i H hi p
  by_cases lt : i < n
  · exact Or.inr ⟨w.goes i H lt gg, Pv (i + 1), fun H' p' => ⟨m - 1, by omega, by omega, by omega, p'⟩, fun x H' y => hs i x H H' lt p (w.yields i H x H' lt gg y)⟩
  · have e : i = n := by omega
    subst e
    exact Or.inl ⟨w.stops H gg, hd H p⟩
/-! dicts by their keys -/
theorem putK_new {kvs : List (Key × V)} {k : Key} {v : V} (h : ∀ p ∈ kvs, p.1 ≠ k) : putK kvs k v = kvs ++ [(k, v)] := by
  unfold putK
  rw [if_neg]
  intro z
  obtain ⟨p, m, e⟩ := List.any_eq_true.mp z
  exact h p m (of_decide_eq_true e)
theorem valV_at : ∀ {kvs : List (Key × V)} {i : Nat} {p : Key × V}, (kvs.map (·.1)).Nodup → kvs[i]? = some p → valV kvs p.1 = some p.2
  | [], _, _, _, h => by simp at h
  | q :: kvs, 0, p, _, h => by
    have e : q = p := by simpa using h
    subst e
    unfold valV
    rw [List.find?_cons_of_pos (by simp)]
    rfl
  | q :: kvs, i + 1, p, nd, h => by
    have h : kvs[i]? = some p := by simpa using h
    rw [List.map_cons, List.nodup_cons] at nd
    have ne : ¬ q.1 = p.1 := fun z => nd.1 (by rw [z]; exact List.mem_map_of_mem (List.mem_of_getElem? h))
    have ih := valV_at nd.2 h
    unfold valV at ih ⊢
    rw [List.find?_cons_of_neg (by simpa using ne)]
    exact ih
theorem take_fresh : ∀ {kvs : List (Key × V)} {i : Nat} {p : Key × V}, (kvs.map (·.1)).Nodup → kvs[i]? = some p → ∀ q ∈ kvs.take i, q.1 ≠ p.1
  | [], _, _, _, h, _, _ => by simp at h
  | r :: kvs, 0, p, _, h, q, m => by simp at m
  | r :: kvs, i + 1, p, nd, h, q, m => by
    have h : kvs[i]? = some p := by simpa using h
    rw [List.map_cons, List.nodup_cons] at nd
    rw [List.take_succ_cons] at m
    rcases List.mem_cons.mp m with e | m
    · subst e
      exact fun z => nd.1 (by rw [z]; exact List.mem_map_of_mem (List.mem_of_getElem? h))
    · exact take_fresh nd.2 h q m
theorem nodup_inr : ∀ {xs : List Str}, xs.Nodup → (xs.map (Sum.inr : Str → Key)).Nodup
  | [], _ => .nil
  | x :: xs, h => by
    rw [List.nodup_cons] at h
    rw [List.map_cons, List.nodup_cons]
    refine ⟨fun z => ?_, nodup_inr h.2⟩
    obtain ⟨y, m, e⟩ := List.mem_map.mp z
    exact h.1 (by rw [← Sum.inr.inj e]; exact m)
open AutoSeq1 (wpAny_loadPart')
/-! a tuple, not empty, times 0 or 1 -/
theorem tuple_mul1 (l : Addr) (items : Array Value) (n : Nat) (dd : Option Addr) (sl : Array (Option Value)) (u : Tok) :
    Meets (Builtin.«tuple.__mul__» ⟨[.ref l, .int 1 u], []⟩) (fun _ R s => s.heap.get? l = some { cls := .type "tuple", dict := dd, data := .seq items n, slots := sl } ∧ R (.ok (.ret (.ref l))) s) :=
  .of_wp fun prog w A R s h => by
    obtain ⟨hp, g, d, tk, os⟩ := s
    obtain ⟨hl, h⟩ := h
    have f1 := AutoSeq1.idx_int
    wp_walk using wpAny_loadPart' hl
    exact ⟨_, rfl, h⟩
theorem tuple_mul0 (l : Addr) (items : Array Value) (n : Nat) (dd : Option Addr) (sl : Array (Option Value)) (u : Tok) (hi : items.isEmpty = false) :
    Meets (Builtin.«tuple.__mul__» ⟨[.ref l, .int 0 u], []⟩) (fun _ R s => s.heap.get? l = some { cls := .type "tuple", dict := dd, data := .seq items n, slots := sl } ∧
      R (.ok (.ret (Value.ref s.heap.objs.size))) { s with heap := s.heap.push { cls := Value.type "tuple", data := Data.seq #[] }, toks := s.toks }) :=
  .of_wp fun prog w A R s h => by
    obtain ⟨hp, g, d, tk, os⟩ := s
    obtain ⟨hl, h⟩ := h
    have f1 := AutoSeq1.idx_int
    wp_walk using wpAny_loadPart' hl
    exact ⟨_, rfl, h⟩
def rRep01 (K : PySem.W.Frag) : R2 := fun x y H Q => ∃ l k xs, x = .ref l ∧ y = .int k ∧ SqT K H l xs ∧ xs ≠ [] ∧ ((k = 1 ∧ Q (.ref l) H) ∨ (k = 0 ∧ ∀ p, H p = none → Q (.ref p) (upd H p (.tup []))))
theorem op_rep01 {X : Cx} : OpR X (binaryOp .Mult) (rRep01 X.K) := by
  intro pins s σ H x y v u Q I rx ry h
  obtain ⟨l, k, xs, rfl, rfl, hT, hne, q⟩ := h
  cases rx
  obtain ⟨t, rfl⟩ := ry
  obtain ⟨its, r, ⟨⟨cls, dd, data, sl⟩, ho, hc, n, hd⟩, hs⟩ := I.tuple hT
  simp only at hc hd
  subst hc hd
  have hi : its.toArray.isEmpty = false := by
    cases its with
    | nil =>
      have z := r.length
      exact absurd (List.eq_nil_of_length_eq_zero z) hne
    | cons a b => rfl
  rcases q with ⟨rfl, q⟩ | ⟨rfl, q⟩
  · exact wpAny_binaryOp_repeat_ref (T := "tuple") (U := "int") (by decide) ⟨_, ho, rfl⟩ (fun s' => typeIs_int s' 1 t) noFill_tuple_mul PySem.F.fills_int_mul PySem.F.slot_int_rmul repeat_tuple PySem.F.slot_int_index.lookup
      (call_meets PySem.F.slot_int_rmul (typeIs_int s 1 t) PySem.F.entry_int_rmul (PySem.F.args_int_rmul_2 _ _) (int_rmul_tuple 1 t l its.toArray n dd sl)
        ⟨ho, rfl, ⟨_, ho, rfl⟩, call_meets PySem.F.slot_tuple_mul ⟨_, ho, rfl⟩ PySem.F.entry_tuple_mul (PySem.F.args_tuple_mul_2 _ _) (tuple_mul1 l its.toArray n dd sl t) ⟨ho, .ref l, H, I, rfl, q⟩⟩)
  · refine wpAny_binaryOp_repeat_ref (T := "tuple") (U := "int") (by decide) ⟨_, ho, rfl⟩ (fun s' => typeIs_int s' 0 t) noFill_tuple_mul PySem.F.fills_int_mul PySem.F.slot_int_rmul repeat_tuple PySem.F.slot_int_index.lookup
      (call_meets PySem.F.slot_int_rmul (typeIs_int s 0 t) PySem.F.entry_int_rmul (PySem.F.args_int_rmul_2 _ _) (int_rmul_tuple 0 t l its.toArray n dd sl)
        ⟨ho, rfl, ⟨_, ho, rfl⟩, call_meets PySem.F.slot_tuple_mul ⟨_, ho, rfl⟩ PySem.F.entry_tuple_mul (PySem.F.args_tuple_mul_2 _ _) (tuple_mul0 l its.toArray n dd sl t hi) ⟨ho, ?_⟩⟩)
    refine ⟨.ref s.heap.objs.size, _, I.laid (t' := s.toks) (o := .tup []) (fun b ob q => Heap.get?_push_of_some _ q) (Nat.le_refl _) ?_, rfl, q _ (I.hok.fresh (Nat.le_refl _))⟩
    exact ⟨Nat.zero_le _, [], .nil, IsTup.new _ _⟩
/-! rules with the written part told by hand: for comprehensions -/
theorem sl_tupUK {X : Cx} {K : PySem.W.Frag} (h : X.K = K) : SlR X (rSlU K) := by
  subst h
  exact sl_tupU
theorem op_catUK {X : Cx} {K : PySem.W.Frag} (h : X.K = K) : OpR X (binaryOp .Add) (rCatU K) := by
  subst h
  exact op_catU
theorem b_dct : bootBuiltins "dict" = some (.type "dict") := by decide +kernel
/-- d.get(key), d a dict of the program's top with texts for keys -/
def tKGet (K : PySem.W.Frag) (d : Addr) (td ty : TE) : TE := fun σ H Q => td σ H fun x H1 => x = .ref d ∧ ty σ H1 fun y H2 => ∃ z r v, y = .str z ∧ PySem.W.nsIn K d z = some r ∧ RelV v (r.getD .none) ∧ Q v H2
theorem pe_kget {X : Cx} {d : Addr} {es : Array DictEntry} {n : Nat} {o e : Expr} {apos cpos : Pos} {td ty : TE} (D : KDict X.K X.w d es n) (ho : PE X o td) (he : PE X e ty) (m : M1 X o "get" apos e cpos) :
    PE X (.Call (.Attribute o "get" apos) [e] [] cpos) (tKGet X.K d td ty) := by
  refine ⟨fun pins s σ H Q I h => ?_⟩
  refine wpAny_Call_method m.base m.few m.line PySem.F.plainAttrs_dict PySem.F.slot_dict_get PySem.F.type_dict_get (thn (ho.run pins s σ H _ I h) fun u s1 ⟨x, H1, I1, rx, ex, q1⟩ => ?_)
  subst ex
  cases rx
  refine ⟨kd_type D I1, fun b q => ?_, ?_⟩
  · cases q
    exact ⟨_, I1.kIn _ _ D.at_, rfl⟩
  rw [m.trees]
  refine Calls.callWith_builtin rfl (Calls.evalArgs_plain (Calls.spliced_cons (thn (he.run pins s1 σ H1 _ I1 q1) fun iv s2 ⟨y, H2, I2, ry, z, r, v, ey, en, rv, q2⟩ => Calls.spliced_nil ?_)))
  subst ey
  obtain ⟨t, rfl⟩ := ry
  refine call_meetsIn PySem.F.slot_dict_get (kd_type D I2) PySem.F.entry_dict_get (PySem.F.args_dict_get_2 _ _) (meets_dict_get (strKind X.prog X.w) d (strKind_is X.prog X.w z t) D.low) ⟨_, PySem.W.mapOf_K (prog := X.prog) I2.kIn D.at_ D.lit, ?_⟩
  rw [PySem.W.find_K D.at_ en]
  exact ⟨v, H2, I2.tok _, rv, q2⟩
/-! the law's own call, where its def may print, and one def of the top makes lambdas: the table of its code object is tracked -/
/-- a table of code objects that is still empty -/
abbrev emptyTab : Obj := { cls := .none, data := .fields #[] }
structure TabK (h : Heap) (K : PySem.W.Frag) (c P : Addr) : Prop where
  at_ : h.get? P = some emptyTab
  no : K.lookup P = none
  hd : PySem.W.CodeHd h c P
theorem law_coreT {P : Program} {w : World} {K : PySem.W.Frag} {mg mb : Str → Option Value} {k : Nat} {fa a cT pT : Addr} {fd : FuncData} {x : Str} {sp : Sp} {s₁ : Shared} {vs : List Value} {ns : List Int}
    (kx : K.In s₁.heap) (n1 : s₁.heap.Ns mainGlobals mg) (n2 : s₁.heap.Ns builtinsNs mb) (n3 : ∀ x : Str, x ≠ "__name__" → mb x = bootBuiltins x) (n4 : s₁.heap.NoLimit) (g0 : s₁.gens = #[]) (T : TabK s₁.heap K cT pT)
    (hbm : ∃ (bm : Addr) (ob : Obj), mg "__builtins__" = some (.ref bm) ∧ bm ≠ builtinsNs ∧ s₁.heap.get? bm = some ob ∧ ob.cls = .type "module" ∧ ob.dict = some builtinsNs ∧ ob.data = .plain)
    (oa : s₁.heap.get? a = some { cls := .type "list", data := .seq vs.toArray }) (hr : Room k callerA)
    (F : ∀ base : Heap, K.In base → base.Ns mainGlobals mg → LamX.TabB base mg cT pT → FnG P w K mg base CX0 k fa fd [x] sp) (bd : ∀ (s : Shared) (u : Value), BindsTo s fd ⟨[u], []⟩ [(x, u)])
    (hsp : ∀ H : Hp, H pT = some (.tbl #[]) → SqL K H a (ns.map V.int) → sp [.ref a] H (fun v _ => v = .bl true) fun _ _ _ => False)
    (H : Hp) (hHP : H pT = some (.tbl #[])) (hO : ∀ b, H b = none ∨ b = pT ∨ ∃ o xs, H b = some (.frz o (.lst xs))) (hS : SqL K H a (ns.map V.int)) (ok : HOk P w H s₁.heap) (hA : ∀ b, H b ≠ none → b = a ∨ b = pT) (hK : H a ≠ none → K.lookup a = none) :
    codeAny (model P w) callerA (.call (.ref fa) ⟨[.ref a], []⟩) (Tru s₁) s₁ := by
  have hPt := T.at_
  have out : ∀ {b : Addr} {o : Obj}, s₁.heap.get? b = some o → (∀ us n, o.data ≠ .seq us n) → o.data ≠ .fields #[] → H b = none := by
    intro b o e d1 d2
    by_cases q : H b = none
    · exact q
    · rcases hA b q with z | z
      · subst z
        rw [oa] at e
        cases e
        exact (d1 _ _ rfl).elim
      · subst z
        rw [hPt] at e
        cases e
        exact (d2 rfl).elim
  have nsK : ∀ {b : Addr} {m : Str → Option Value}, s₁.heap.Ns b m → (hidT s₁.heap H).Ns b m := by
    rintro b m ⟨o, es, ep, e, d, r⟩
    exact ⟨o, es, ep, hidT_get e (out e (fun us n z => by rw [d] at z; cases z) fun z => by rw [d] at z; cases z), d, r⟩
  have kb : K.In (hidT s₁.heap H) := by
    intro b o e
    refine hidT_get (kx b o e) ?_
    by_cases q : H b = none
    · exact q
    · rcases hA b q with z | z
      · subst z
        rw [hK q] at e
        cases e
      · subst z
        rw [T.no] at e
        cases e
  have lim : (hidT s₁.heap H).NoLimit := by
    obtain ⟨mc, h1, h2⟩ := n4
    exact ⟨mc, nsK h1, h2⟩
  have md : Mod K mg (hidT s₁.heap H) := ⟨kb, nsK n1, ⟨mb, nsK n2, n3⟩, lim⟩
  have gP : mainGlobals ≠ pT := fun z => by
    obtain ⟨o, es, ep, e, d, _⟩ := n1
    rw [z, hPt] at e
    cases e
    cases d
  have tb : LamX.TabB (hidT s₁.heap H) mg cT pT := by
    refine ⟨?_, ?_, gP⟩
    · obtain ⟨o, us, file, tf, flags, tg, inF, text, tt, e1, r1, r2, r3, r⟩ := T.hd
      refine ⟨o, us, file, tf, flags, tg, inF, text, tt, hidT_get e1 (out e1 (fun vs n z => ?_) fun z => ?_), r1, r2, r3, r⟩
      · rw [r2] at z
        cases z
      · rw [r2] at z
        cases z
        simp at r3
    · obtain ⟨bm, ob, b1, b2, b3, b4, b5, b6⟩ := hbm
      have m1 : bm ≠ mainGlobals := fun q => by
        obtain ⟨o, es, ep, e, hd, _⟩ := n1
        rw [q, e] at b3
        cases b3
        rw [hd] at b6
        cases b6
      have m2 : bm ≠ pT := fun q => by
        rw [q, hPt] at b3
        cases b3
        cases b6
      refine ⟨bm, ob, b1, b2, m1, m2, hidT_get b3 (out b3 (fun vs n z => ?_) fun z => ?_), b4, b5, b6⟩
      · rw [b6] at z
        cases z
      · rw [b6] at z
        cases z
  have ee : Env0 P w K mg (hidT s₁.heap H) callerA [] s₁ H :=
    ⟨rfl, md, fun b o e => of_hidT e, Nat.le_of_eq (hidT_size _ _), trivial, fun b hb => absurd (show b ∈ ([] : List Addr) from hb) (by simp), ok, .of_eq g0⟩
  have run := (F _ kb (nsK n1) tb).go callerA [] s₁ H ⟨[.ref a], []⟩ [.ref a] [.ref a] _ _ rfl hr ee (bd s₁ (.ref a)) (.cons rfl .nil) (hsp H hHP hS)
  refine codeAny_mono run ?_
  intro r t h
  cases r with
  | error e => exact False.elim h
  | ok fl =>
    cases fl with
    | brk => exact False.elim h
    | cont => exact False.elim h
    | next => exact False.elim h
    | ret u =>
      obtain ⟨v, H', os, bare, un, ok', rv, q⟩ := h
      have q' : v = .bl true := q
      subst q'
      obtain rfl : u = Value.bool true := rv
      have old : ∀ b o, b ≠ pT → s₁.heap.get? b = some o → t.heap.get? b = some o := by
        intro b o nb e
        rcases hO b with z | z | ⟨ob, xs, z⟩
        · exact un.keep b o e z (fun y => absurd (show b ∈ ([] : List Addr) from y) (by simp)) (by simp)
        · exact absurd z nb
        · obtain ⟨e1, _⟩ := ok b _ z
          obtain ⟨e2, _⟩ := ok' b _ (un.frzs b ob _ z)
          rw [e] at e1
          cases e1
          exact e2
      obtain ⟨more, hm⟩ := un.tbls pT #[] hHP
      have ht : t.heap.get? pT = some { cls := .none, data := .fields (#[] ++ more) } := ok' pT _ hm
      refine ⟨rfl, ⟨fun b o e => ?_, fun b o e => ?_⟩, os, bare⟩
      · by_cases hb : b = pT
        · subst hb
          rw [hPt] at e
          cases e
          exact .inr (.inl ⟨(T.hd.tab hPt).isCodeTable, rfl, #[], more, rfl, ht⟩)
        · exact .inl (old b o hb e)
      · by_cases hb : b = pT
        · subst hb
          exact ⟨_, ht⟩
        · exact ⟨o, old b o hb e⟩
theorem law_callT {P : Program} {w : World} {K : PySem.W.Frag} {mg mb : Str → Option Value} {k : Nat} {fa a cT pT : Addr} {fd : FuncData} {x : Str} {sp : Sp} {s₁ : Shared} {vs : List Value} {ns : List Int}
    (kx : K.In s₁.heap) (n1 : s₁.heap.Ns mainGlobals mg) (n2 : s₁.heap.Ns builtinsNs mb) (n3 : ∀ x : Str, x ≠ "__name__" → mb x = bootBuiltins x) (n4 : s₁.heap.NoLimit) (g0 : s₁.gens = #[]) (T : TabK s₁.heap K cT pT)
    (hbm : ∃ (bm : Addr) (ob : Obj), mg "__builtins__" = some (.ref bm) ∧ bm ≠ builtinsNs ∧ s₁.heap.get? bm = some ob ∧ ob.cls = .type "module" ∧ ob.dict = some builtinsNs ∧ ob.data = .plain)
    (oa : s₁.heap.get? a = some { cls := .type "list", data := .seq vs.toArray }) (hi : IntsAre vs ns) (hl : ns.length ≤ sizeLine) (hr : Room k callerA)
    (F : ∀ base : Heap, K.In base → base.Ns mainGlobals mg → LamX.TabB base mg cT pT → FnG P w K mg base CX0 k fa fd [x] sp) (bd : ∀ (s : Shared) (u : Value), BindsTo s fd ⟨[u], []⟩ [(x, u)])
    (hsp : ∀ H : Hp, H pT = some (.tbl #[]) → SqL K H a (ns.map V.int) → sp [.ref a] H (fun v _ => v = .bl true) fun _ _ _ => False) :
    codeAny (model P w) callerA (.call (.ref fa) ⟨[.ref a], []⟩) (Tru s₁) s₁ := by
  have rv := vals_ints hi
  have lv := rv.length
  rw [List.length_map] at lv
  have nap : pT ≠ a := fun z => by
    have e := T.at_
    rw [z, oa] at e
    cases e
  have go := law_coreT (ns := ns) kx n1 n2 n3 n4 g0 T hbm oa hr F bd hsp
  by_cases hk : K.lookup a = none
  · refine go (fun b => if b = a then some (.frz { cls := .type "list", data := .seq vs.toArray } (.lst (ns.map V.int))) else if b = pT then some (.tbl #[]) else none) ((if_neg nap).trans (if_pos rfl)) (fun b => ?_) (.inl (.inr ⟨{ cls := .type "list", data := .seq vs.toArray }, if_pos rfl⟩)) (fun b u z => ?_) (fun b z => ?_) (fun _ => hk)
    · by_cases hb : b = a
      · exact .inr (.inr ⟨_, _, if_pos hb⟩)
      · by_cases hb2 : b = pT
        · exact .inr (.inl hb2)
        · exact .inl ((if_neg hb).trans (if_neg hb2))
    · by_cases hb : b = a
      · cases (if_pos hb).symm.trans z
        subst hb
        exact ⟨oa, by rw [List.length_map]; exact hl, vs, _, rv, oa⟩
      · by_cases hb2 : b = pT
        · have z2 := ((if_neg hb).trans (if_pos hb2)).symm.trans z
          cases z2
          subst hb2
          exact T.at_
        · cases ((if_neg hb).trans (if_neg hb2)).symm.trans z
    · by_cases hb : b = a
      · exact .inl hb
      · by_cases hb2 : b = pT
        · exact .inr hb2
        · exact absurd ((if_neg hb).trans (if_neg hb2)) z
  · obtain ⟨o, hk⟩ := Option.ne_none_iff_exists'.mp hk
    have e := kx a o hk
    rw [oa] at e
    cases e
    refine go (fun b => if b = pT then some (.tbl #[]) else none) (if_pos rfl) (fun b => ?_) (.inr ⟨_, vs.toArray, _, hk, rfl, rfl, rfl, by rw [List.size_toArray, ← lv]; exact hl, by simpa using rv⟩) (fun b u z => ?_) (fun b z => ?_) (fun z => absurd (if_neg (Ne.symm nap)) z)
    · by_cases hb2 : b = pT
      · exact .inr (.inl hb2)
      · exact .inl (if_neg hb2)
    · by_cases hb2 : b = pT
      · cases (if_pos hb2).symm.trans z
        subst hb2
        exact T.at_
      · cases (if_neg hb2).symm.trans z
    · by_cases hb2 : b = pT
      · exact .inr hb2
      · exact absurd (if_neg hb2) z
theorem walkGT {l : PySem.W.OpenLaw} {n k : Nat} {q : Program} {loose : List Str} {XP : (Str → Option Value) → Heap → Prop} {YP : World → Heap → Prop} {d : DefRec} {K : Params → PySem.W.Frag} {sp : PySem.W.Frag → Addr → Sp} {x y : Str} {dT : DefRec} {tabs : Params → Addr × Addr}
    (hn : l.most = some n) (hn2 : n ≤ sizeLine) (hdf : d.params.defaults = []) (hr : Room k callerA) (hY : ∀ (w : World) (h : Heap), YP w h → (K w.params).In h)
    (hrec : (recsOf q).find? (fun e => e.name == y) = some dT) (htab : ∀ w : World, PySem.W.tabIn (K w.params) y = some (tabs w.params)) (hno : ∀ w : World, (K w.params).lookup (tabs w.params).2 = none)
    (F : ∀ (w : World) (mg : Str → Option Value) (fa : Addr) (h : Heap), (K w.params).In h → h.Ns mainGlobals mg → mg d.name = some (.ref fa) →
      ∃ fd : FuncData, (∀ (s : Shared) (u : Value), BindsTo s fd ⟨[u], []⟩ [(x, u)]) ∧ ∀ base : Heap, (K w.params).In base → base.Ns mainGlobals mg → LamX.TabB base mg (tabs w.params).1 (tabs w.params).2 → FnG l.prog w (K w.params) mg base CX0 k fa fd [x] (sp (K w.params) (tabs w.params).2))
    (hsp : ∀ (K : PySem.W.Frag) (pT : Addr) (H : Hp) (a : Addr) (ns : List Int), ns.length ≤ n → H pT = some (.tbl #[]) → SqL K H a (ns.map V.int) → sp K pT [.ref a] H (fun v _ => v = .bl true) fun _ _ _ => False) :
    PySem.W.WalkO q loose XP YP l.row.toRowW d [] (fun f vs => PySem.call f vs) := by
  refine Att.attach_call hn hdf ?_
  intro w s₀ s₁ mg mb fa o pm cd doc a vs ns G Y ho hd hcd hmg hobj hints hlen hg
  have kx := hY w _ Y
  obtain ⟨fd, hb, hF⟩ := F w mg fa _ kx G.T.g hmg
  obtain ⟨hc, hp⟩ := PySem.W.tab_of G.T kx hrec (htab w)
  exact law_callT kx G.T.g G.T.b G.T.builtins G.T.nolimit hg ⟨hp, hno w, hc⟩ G.T.bmain hobj hints (Nat.le_trans hlen hn2) hr hF hb (fun H hH hS => hsp (K w.params) _ H a ns hlen hH hS)
open LamX (CodeO lamEnv lamCx lam_start2 lam_make2 LamS Tabs ExtN TabB run_ofS)
/-! a lambda handed to a def that calls it in a try: what is raised is wished for at the slots of the caller -/
section
variable {X : Cx} {pins : List (Addr × Obj)} {σ : L2.St} {H HZ : Hp} {s s1 : Shared}
theorem pe_actS {CXg : CXT} {Eg : XK} {Ng : List Str} {qg : Str} {sg : Scope} {g f c' : Addr} {cdg pm ctv : Value} {params : Arguments} {body : Expr} {scope : Scope} {k i : Nat} {a : Str} {pn : List (Addr × Obj)} {xe : Value → Shared → Prop} {W : WX} {tb : XK → TE} {p1 p2 : Pos}
    (I : Inv X pins σ H s) (LS : LamS X.env.scope scope) (hof : s.heap.get? f = some (PySem.W.kla_obj "<lambda>" (X.env.qual ++ "<lambda>") params body scope (cloFrom X.env.cells scope.names []) pm c' ctv)) (hnf : H f = none) (hnr : f ∉ frs X.stack)
    (hbd : bindArgs (PySem.W.kla_fn "<lambda>" (X.env.qual ++ "<lambda>") params body scope (cloFrom X.env.cells scope.names []) pm (.ref c') ctv) ⟨[], []⟩ = pure [])
    (tk : Takes ((cxOf CXg X.prog X.w X.K X.mg X.base Ng qg sg g cdg X.A X.stack s H Eg).tr pn xe) W) (rm : Room (k + 1) (X.A.deeper (envOfC qg sg s.heap.objs.size g cdg)))
    (hbody : ∀ (A : Around) (outer : List Env) (s : Shared) (H : Hp) (E : XK), Room k (A.deeper (lamEnv X scope s.heap.objs.size f c')) → PE (lamCx X A outer s H E scope f c') body (tb E))
    (hN : Ng[i]? = some a) (hv : Vis sg a) (hd : (a == ("__debug__" : Str)) = false := by decide) (hcd : (a == ("__classdict__" : Str)) = false := by decide) :
    PE ((cxOf CXg X.prog X.w X.K X.mg X.base Ng qg sg g cdg X.A X.stack s H Eg).tr pn xe) (.Call (.Name a p1) [] [] p2)
      (fun σZ HZ Q => σZ[i]? = some (some (.ref f)) ∧ HZ c' = some (CodeO c' (X.env.qual ++ "<lambda>")) ∧ tb (WE W σZ) σ HZ Q) := by
  refine ⟨fun pz sz τ HZ Q IZ h => ?_⟩
  obtain ⟨h1, h2, h3⟩ := h
  refine wpAny_Call_Name_kw (thn ((pe_var (pos := p1) (i := i) hN hv hd hcd).run pz sz τ HZ (fun v H1 => v = .ref f ∧ H1 = HZ) IZ ⟨.ref f, h1, rfl, rfl⟩) fun u s1 ⟨v, H1, J1, rv, qv⟩ => ?_)
  obtain ⟨e1, e2⟩ := qv
  subst e1
  rw [e2] at J1
  cases (show u = Value.ref f from rv)
  have fo : s1.heap.get? f = some (PySem.W.kla_obj "<lambda>" (X.env.qual ++ "<lambda>") params body scope (cloFrom X.env.cells scope.names []) pm c' ctv) := J1.base.keep f _ hof hnf hnr fun z => nomatch (show f ∈ ([] : List Addr) from z)
  refine PySem.W.callWith_F0 ⟨_, _, _, _, fo⟩ ?_
  have ub : Un (frs X.stack) [] H HZ s.heap s1.heap := J1.base
  obtain ⟨⟨oc, vs, t, c1, c2, c3⟩, _, _⟩ := J1.hok c' _ h2
  have run : codeAny (model X.prog X.w) (X.A.deeper (envOfC qg sg s.heap.objs.size g cdg)) (.call (.ref f) ⟨[], []⟩) (CR (L2.CX X.prog X.w) (envOfC qg sg s.heap.objs.size g cdg :: X.stack) X.prog X.w HZ s1 Q (WE W τ)) s1 := by
    refine PySem.W.kla_callFunE rm.depth fo rfl LS.co LS.gen rfl ⟨c', oc, vs, t, rfl, c1, c2, c3⟩ ?_
    rw [hbd]
    refine wpAny_pure (wpAny_newFunctionEnv (fun y my => (LS.own y my).2) (fun y my => absurd my (by simp)) (fun hx ns sb => ⟨J1.nolimit.fresh _ sb, ?_⟩) LS.kind)
    show codeAny _ _ (.expr body (lamEnv X scope s1.heap.objs.size f c')) _ _
    have keep : ∀ b o, s1.heap.get? b = some o → hx.get? b = some o := fun b o e => sb.extBut b o (Nat.ne_of_lt (Heap.lt_size e)) (Heap.get?_push_of_some _ e)
    have start : Inv (lamCx X (X.A.deeper (envOfC qg sg s.heap.objs.size g cdg)) (envOfC qg sg s.heap.objs.size g cdg :: X.stack) s1 HZ (WE W τ) scope f c') [] σ HZ { s1 with heap := hx, toks := s1.toks + ([] : List (Str × Value)).length } :=
      lam_start2 I LS J1.env0 rm.hd ub ns keep
    refine PySem.W.kla_codeExpr (wpAny_mono ((hbody _ _ s1 HZ (WE W τ) (rm.deeper _)).run [] _ _ HZ Q start h3) (fun v t' hq => ?_) fun _ _ z => z)
    obtain ⟨w', H', J', rv', q'⟩ := hq
    exact ⟨w', H', J'.os, J'.bare, J'.base, J'.hok, rv', q'⟩
  refine wpAny_call (codeAny_mono run fun r t' hq => ?_)
  cases r with
  | error e => exact passAt tk τ pz HZ s1 e t' J1 hq
  | ok fl =>
    cases fl with
    | ret u => exact J1.after hq
    | next => exact False.elim hq
    | brk => exact False.elim hq
    | cont => exact False.elim hq
/-- the def that calls what it got; TT: what it makes of the lambda's reading -/
def GivesS (X : Cx) (Ng : List Str) (x : Str) (sg : Scope) (g : Addr) (cdg : Value) (bg : List Stmt) (a : Str) (q : Str) (TT : (XK → Hp → VK → Prop) → Hp → VK → Prop) : Prop :=
  ∀ (f c' : Addr) (s : Shared) (H : Hp) (Q : VK) (tl : XK → Hp → VK → Prop), Room 1 (X.A.deeper (envOfC x sg s.heap.objs.size g cdg)) →
    (∀ (W : WX) (pn : List (Addr × Obj)) (xe : Value → Shared → Prop) (p1 p2 : Pos), Takes ((cxOf C8.CX0 X.prog X.w X.K X.mg X.base Ng x sg g cdg X.A X.stack s H C8.E0).tr pn xe) W →
      PE ((cxOf C8.CX0 X.prog X.w X.K X.mg X.base Ng x sg g cdg X.A X.stack s H C8.E0).tr pn xe) (.Call (.Name a p1) [] [] p2) (fun τ HZ Q => τ[0]? = some (some (.ref f)) ∧ HZ c' = some (CodeO c' q) ∧ tl (WE W τ) HZ Q)) →
    H c' = some (CodeO c' q) → TT tl H Q →
    ∃ t, PSs (cxOf C8.CX0 X.prog X.w X.K X.mg X.base Ng x sg g cdg X.A X.stack s H C8.E0).nox bg t ∧ t { nx := fun _ H' => Q .non H', rt := Q } (L2.start Ng [.ref f]) H
theorem pe_lamS {T : List (Addr × Str)} {TT : (XK → Hp → VK → Prop) → Hp → VK → Prop} {x a : Str} {g c P : Addr} {k : Nat} {pg : Arguments} {bg : List Stmt} {sg : Scope} {dV kV doc pm cdv ct oc : Value} {an od : Option Addr} {osl : Array (Option Value)} {Ng : List Str}
    {params : Arguments} {body : Expr} {scope : Scope} {t : XK → TE} {p lpos pos : Pos} (hg : Gl X x) (hm : X.mg x = some (.ref g)) (hk : PySem.W.keepIn X.K (.ref g) = true)
    (lk : X.K.lookup g = some ⟨oc, od, .func (PySem.W.fnOf x x pg bg sg dV kV doc pm an cdv ct), osl⟩) (hcg : PySem.W.codeIn X.K cdv x = true) (hb : L2.Binds X.K (PySem.W.fnOf x x pg bg sg dV kV doc pm an cdv ct) [a] []) (Sg : FnScope Ng [a] sg) (hNg : Ng[0]? = some a) (hva : Vis sg a)
    (hG : GivesS X Ng x sg g cdv bg a (X.env.qual ++ "<lambda>") TT)
    (TB : TabB X.base X.mg c P) (hcode : X.env.code = .ref c) (hmT : (P, X.env.qual ++ "<lambda>") ∈ T) (hu : ∀ p ∈ T, p.1 = P → p.2 = X.env.qual ++ "<lambda>") (hr : Room (k + 2) X.A) (L : LamS X.env.scope scope) (hdef : defaultsOf params X.env = ([], []))
    (hbind : ∀ (q : Str) (cl : List (Str × Addr)) (pm cv ctv : Value), bindArgs (PySem.W.kla_fn "<lambda>" q params body scope cl pm cv ctv) ⟨[], []⟩ = pure [])
    (hbody : ∀ (A : Around) (outer : List Env) (s : Shared) (H : Hp) (E : XK) (f c' : Addr), Room k (A.deeper (lamEnv X scope s.heap.objs.size f c')) → PE (lamCx X A outer s H E scope f c') body (t E))
    (hdb : (x == ("__debug__" : Str)) = false := by decide) (hd : (a == ("__debug__" : Str)) = false := by decide) (hcd : (a == ("__classdict__" : Str)) = false := by decide) :
    PE X (.Call (.Name x p) [.Lambda params body scope lpos] [] pos) (LamX.tLam T TT t) := by
  refine ⟨fun pins s σ H Q I h => ?_⟩
  obtain ⟨h0, h1⟩ := h
  refine wpAny_Call_Name_kw (ld_glob I hg hm ?_ hdb)
  refine PySem.W.callWith_K (h₀ := X.base) I.ok.mod.kin hk ?_ (by rfl) (by rfl)
  show wpAny _ _ (spliced ((false, eval (.Lambda params body scope lpos) X.env) :: backTo pos (starEach [] X.env))) _ _ s
  refine Calls.spliced_cons (lam_make2 I TB hcode hmT hu h0 hdef (L.has I.ok) fun f c' pm' ctv H1 s' J1 ex t1 fo fn fr co => ?_)
  refine Calls.spliced_nil ⟨J1.kIn, ?_⟩
  have run : codeAny (model X.prog X.w) X.A (.call (.ref g) ⟨[.ref f], []⟩) (CR C8.CX0 X.stack X.prog X.w H1 s' Q C8.E0) s' := by
    refine run_ofS (N := Ng) (ps := [a]) (us := [.ref f]) (vs := [.ref f]) lk hcg Sg hr J1.env0 (hb s' [.ref f] J1.kIn rfl) (.cons rfl .nil) rfl fun hr' => ?_
    obtain ⟨tt, ht, hq⟩ := hG f c' s' H1 Q (fun E H' Q' => t E σ H' Q') (hr'.mono (by omega)) (fun W pn xe p1 p2 tk => pe_actS (i := 0) J1 L fo fn fr (hbind _ _ _ _ _) tk hr' (fun A outer s H E r2 => hbody A outer s H E f c' r2) hNg hva hd hcd) co (h1 H1 ex t1)
    exact ⟨tt, ht.nox, hq⟩
  refine wpAny_call (codeAny_mono run fun r s2 hq => ?_)
  cases r with
  | error e => exact (show False from hq).elim
  | ok fl =>
    cases fl with
    | ret u => exact J1.after hq
    | next => exact False.elim hq
    | brk => exact False.elim hq
    | cont => exact False.elim hq
end
def topS (i : Nat) : Stmt := PySem.Challenge.pw_runlore_k05_places_of_inputs.main.body.getD i (.Pass ⟨0, 0, 0, 0⟩)
abbrev sInit : Stmt := inClass (topS 5) 0
abbrev sEq : Stmt := inClass (topS 5) 1
abbrev sStr : Stmt := inClass (topS 5) 2
abbrev sRep : Stmt := inClass (topS 5) 3
theorem scInit : FnScope ["self", "word", "rule", "path"] ["self", "word", "rule", "path"] (defScope sInit) := ⟨rfl, rfl, rfl, by decide +kernel, rfl, by decide +kernel, by decide +kernel⟩
theorem scEq : FnScope ["self", "other"] ["self", "other"] (defScope sEq) := ⟨rfl, rfl, rfl, by decide +kernel, rfl, by decide +kernel, by decide +kernel⟩
theorem scStr : FnScope ["self"] ["self"] (defScope sStr) := ⟨rfl, rfl, rfl, by decide +kernel, rfl, by decide +kernel, by decide +kernel⟩
theorem scRep : FnScope ["self"] ["self"] (defScope sRep) := ⟨rfl, rfl, rfl, by decide +kernel, rfl, by decide +kernel, by decide +kernel⟩
/-- the attributes of a fault -/
def fl (wd : Str) (r p : V) : List (Str × V) := putF "path" p (putF "rule" r (putF "word" (.str wd) []))
theorem kwr : ¬ (("word" : Str) = "rule") := by decide +kernel
theorem kwp : ¬ (("word" : Str) = "path") := by decide +kernel
theorem krp : ¬ (("rule" : Str) = "path") := by decide +kernel
theorem fl_word (wd : Str) (r p : V) : (fl wd r p).lookup ("word" : Str) = some (.str wd) := by
  unfold fl
  rw [lookup_putF, if_neg kwp, lookup_putF, if_neg kwr, lookup_putF, if_pos rfl]
theorem fl_rule (wd : Str) (r p : V) : (fl wd r p).lookup ("rule" : Str) = some r := by
  unfold fl
  rw [lookup_putF, if_neg krp, lookup_putF, if_pos rfl]
theorem fl_path (wd : Str) (r p : V) : (fl wd r p).lookup ("path" : Str) = some p := by
  unfold fl
  rw [lookup_putF, if_pos rfl]
/-- a fault stands at a -/
def FaultAt (C : Addr) (H : Hp) (a : Addr) (wd : Str) (r p : V) : Prop := ∃ dx, H a = some (.ins C dx (fl wd r p))
structure FaC (K : PySem.W.Frag) (mg : Str → Option Value) (C fE : Addr) : Prop where
  o : OwnC K C fE
  nw : NoAttr K C "word"
  nr : NoAttr K C "rule"
  np : NoAttr K C "path"
  mg : mg "Fault" = some (.ref C)
  kc : PySem.W.keepIn K (.ref C) = true
def spInitF (C : Addr) : Sp := fun vs H Q _ => ∃ (a dx : Addr) (wd : Str) (r p : V), vs = [.ref a, .str wd, r, p] ∧ H a = some (.ins C dx []) ∧ ∀ H', H' a = some (.ins C dx (fl wd r p)) → (∀ b, b ≠ a → H' b = H b) → Q .non H'
def spEqF (K : PySem.W.Frag) (C : Addr) : Sp := fun vs H Q _ => ∃ a wd r p y, vs = [.ref a, y] ∧ FaultAt C H a wd r p ∧
  ((∃ d, Dp K H y d ∧ Q (.bl false) H) ∨ ∃ b wd' r' p', y = .ref b ∧ FaultAt C H b wd' r' p' ∧ Q (.bl (decide (wd = wd'))) H)
def spStrF (C : Addr) : Sp := fun vs H Q _ => ∃ a wd r p, vs = [.ref a] ∧ FaultAt C H a wd r p ∧ Sm 20 wd ∧ Q (.str (Str.empty ++ ("fault " : Str) ++ wd)) H
def spRepF (C : Addr) : Sp := fun vs H Q _ => ∃ a wd r p, vs = [.ref a] ∧ FaultAt C H a wd r p ∧ Sm 20 wd ∧ Q (.str (Str.empty ++ ("Fault(" : Str) ++ reprText wd ++ (")" : Str))) H
theorem rep_len {n : Nat} {x : Str} (h : Sm n x) : (reprText x).length ≤ 10 * n + 2 := by
  have q := StrLaws.reprText_len x (fun c hc => Nat.lt_of_lt_of_le (h.lo c hc) (by decide))
  have := h.le
  omega
section
variable {P : Program} {w : World} {K : PySem.W.Frag} {mg : Str → Option Value} {base : Heap} {f C fE : Addr} {fd : FuncData}
theorem ok_initF {k : Nat} {dvs : List V} (F : FunD K "__init__" "Fault.__init__" (defArgs sInit) (defBody sInit) (defScope sInit) dvs [] f fd) (T : FaC K mg C fE) : FnOk P w K mg base CX0 (k + 1) f fd ["self", "word", "rule", "path"] (spInitF C) := by
  refine F.ok scInit (fun vs H Q E h => ?_) (fun cdv A outer s H vs Q E hr h => ?_)
  · obtain ⟨a, dx, wd, r, p, rfl, _⟩ := h
    rfl
  obtain ⟨a, dx, wd, r, p, rfl, ha, q⟩ := h
  refine ⟨_, pss_cons (ps_fld (pv 0) (pv 1) rfl) (pss_cons (ps_fld (pv 0) (pv 2) rfl) (pss_one (ps_fld (pv 0) (pv 3) rfl))), ?_⟩
  refine ⟨_, rfl, _, rfl, a, C, dx, [], rfl, ha, T.o.c.cl, T.nw, (by show 0 < 1000; decide), _, rfl, _, rfl, a, C, dx, _, rfl, upd_same, T.o.c.cl, T.nr, ?_, _, rfl, _, rfl, a, C, dx, _, rfl, upd_same, T.o.c.cl, T.np, ?_, q _ upd_same fun b hb => by rw [upd_ne hb, upd_ne hb, upd_ne hb]⟩
  · show 1 < 1000
    decide
  · have e : (putF "rule" r (putF "word" (.str wd) [])).length = 2 := by
      show (if ("word" : Str) = "rule" then _ else _ : List (Str × V)).length = 2
      rw [if_neg kwr]
      rfl
    rw [e]
    decide
theorem ok_eqF {k : Nat} (F : Fun K "__eq__" "Fault.__eq__" sEq f fd) (T : FaC K mg C fE) (B : Bi mg) : FnOk P w K mg base CX0 (k + 1) f fd ["self", "other"] (spEqF K C) := by
  refine F.ok scEq (fun vs H Q E h => ?_) (fun cdv A outer s H vs Q E hr h => ?_)
  · obtain ⟨a, wd, r, p, y, rfl, _⟩ := h
    rfl
  obtain ⟨a, wd, r, p, y, rfl, ⟨dx, ha⟩, q⟩ := h
  refine ⟨_, pss_one (ps_ret (pe_and (pe_callB call_isi (by rfl) B.ii b_ii (pa_cons (pv 1) (pa_cons (pe_glob (by rfl) T.mg (v := .ref C) rfl) pa_nil)))
    (pe_one (pe_cmpR op_eq (pe_fld (pv 0) rfl) (pe_fld (pv 1) rfl) (nomark _))))), ?_⟩
  rcases q with ⟨d, hd, q⟩ | ⟨b, wd', r', p', rfl, ⟨dy, hb⟩, q⟩
  · refine ⟨_, rfl, y, .ref C, _, _, false, rfl, .own C, tyD hd, (T.o.of hd).1, _, rfl, iteF q⟩
  · refine ⟨_, rfl, .ref b, .ref C, _, _, true, rfl, .own C, .base (.ins hb T.o.c.cl T.o.c.ha T.o.c.hn T.o.c.htk T.o.c.hm), T.o.c.me, _, rfl, iteT ?_⟩
    refine ⟨_, rfl, a, C, dx, _, _, rfl, ha, T.o.c.cl, T.nw, fl_word _ _ _, _, rfl, b, C, dy, _, _, rfl, hb, T.o.c.cl, T.nw, fl_word _ _ _, rfl, ?_⟩
    have e : decide (V.str wd = V.str wd') = decide (wd = wd') := by
      by_cases h : wd = wd'
      · rw [decide_eq_true h, decide_eq_true (congrArg V.str h)]
      · rw [decide_eq_false h, decide_eq_false fun z => h (V.str.inj z)]
    show Q (V.bl (decide (V.str wd = V.str wd'))) H
    rw [e]
    exact q
theorem ok_strF {k : Nat} (F : Fun K "__str__" "Fault.__str__" sStr f fd) (T : FaC K mg C fE) : FnOk P w K mg base CX0 (k + 1) f fd ["self"] (spStrF C) := by
  refine F.ok scStr (fun vs H Q E h => ?_) (fun cdv A outer s H vs Q E hr h => ?_)
  · obtain ⟨a, wd, r, p, rfl, _⟩ := h
    rfl
  obtain ⟨a, wd, r, p, rfl, ⟨dx, ha⟩, sw, q⟩ := h
  refine ⟨_, pss_one (ps_ret (pe_joined (.cons pe_str (.cons (pe_fmt (pe_fld (pv 0) rfl)) .nil)))), ?_⟩
  refine ⟨_, rfl, by decide +kernel, _, rfl, a, C, dx, _, _, rfl, ha, T.o.c.cl, T.nw, fl_word _ _ _, .inl ⟨wd, rfl, sw.fits (by decide), _, rfl, ?_, q⟩⟩
  have e : (Str.empty ++ ("fault " : Str)).length = 6 := by decide +kernel
  rw [Str.length_append, e]
  have := sw.le
  exact few (by omega)
theorem ok_repF {k : Nat} (F : Fun K "__repr__" "Fault.__repr__" sRep f fd) (T : FaC K mg C fE) : FnOk P w K mg base CX0 (k + 1) f fd ["self"] (spRepF C) := by
  refine F.ok scRep (fun vs H Q E h => ?_) (fun cdv A outer s H vs Q E hr h => ?_)
  · obtain ⟨a, wd, r, p, rfl, _⟩ := h
    rfl
  obtain ⟨a, wd, r, p, rfl, ⟨dx, ha⟩, sw, q⟩ := h
  refine ⟨_, pss_one (ps_ret (pe_joined (.cons pe_str (.cons (pe_fmtR (pe_fld (pv 0) rfl)) (.cons pe_str .nil))))), ?_⟩
  have rl := rep_len sw
  have e : (Str.empty ++ ("Fault(" : Str)).length = 6 := by decide +kernel
  have e2 : (")" : Str).length = 1 := by decide +kernel
  refine ⟨_, rfl, by decide +kernel, _, rfl, a, C, dx, _, _, rfl, ha, T.o.c.cl, T.nw, fl_word _ _ _, .inl ⟨wd, rfl, few (by omega), _, rfl, ?_, _, rfl, ?_, q⟩⟩
  · rw [Str.length_append, e]
    exact few (by omega)
  · rw [Str.length_append, Str.length_append, e, e2]
    exact few (by omega)
end
abbrev sBox : Stmt := topS 14
abbrev sTake : Stmt := topS 15
theorem c47 : (0 : Int) < 2147483647 := by decide
theorem c29 : (0 : Int) < 2147483629 := by decide
/-! _law_take: some number below many; the box stays a box -/
def spTake : Sp := fun vs H Q _ => ∃ (p g : Addr) (m : Int), vs = [.ref p, .int m] ∧ Box H p g ∧ 0 < m ∧ m.natAbs < 2 ^ 200 ∧
  ∀ (r : Int) (H' : Hp), 0 ≤ r → r < m → Box H' p g → Off [p, g] H H' → Q (.int r) H'
def spBox (K : PySem.W.Frag) : Sp := fun vs H Q _ => ∃ (a : Addr) (ns : List Int) (c : Int), vs = [.ref a, .int c] ∧ SqL K H a (ns.map V.int) ∧ ns.length ≤ 63 ∧ 0 ≤ c ∧ c < 1000 ∧
  ∀ (p g : Addr) (H' : Hp), Box H' p g → Same H H' → H p = none → H g = none → Q (.ref p) H'
theorem scTake : FnScope ["_law_box_here", "_law_many", "_law_digit", "_law_one"] ["_law_box_here", "_law_many"] (defScope sTake) :=
  ⟨rfl, rfl, rfl, by decide +kernel, rfl, by decide +kernel, by decide +kernel⟩
section
variable {P : Program} {w : World} {K : PySem.W.Frag} {mg : Str → Option Value} {base : Heap} {f : Addr} {fd : FuncData}
theorem get_now {H : Hp} {p g : Addr} {n s t : Int} (h : H p = some (.dK (bx g n s t))) : DGet H p (.str "now") (some (.int n)) := by
  have q := DGet.k (k := (Sum.inr "now" : Key)) h
  rw [bx_now] at q
  exact q
theorem get_great {H : Hp} {p g : Addr} {n s t : Int} (h : H p = some (.dK (bx g n s t))) : DGet H p (.str "great") (some (.ref g)) := by
  have q := DGet.k (k := (Sum.inr "great" : Key)) h
  rw [bx_great] at q
  exact q
theorem get_seed {H : Hp} {p g : Addr} {n s t : Int} (h : H p = some (.dK (bx g n s t))) : DGet H p (.str "seed") (some (.int s)) := by
  have q := DGet.k (k := (Sum.inr "seed" : Key)) h
  rw [bx_seed] at q
  exact q
theorem get_turn {H : Hp} {p g : Addr} {n s t : Int} (h : H p = some (.dK (bx g n s t))) : DGet H p (.str "turn") (some (.int t)) := by
  have q := DGet.k (k := (Sum.inr "turn" : Key)) h
  rw [bx_turn] at q
  exact q
theorem set_now {H : Hp} {p g : Addr} {n s t : Int} (y : Int) (h : H p = some (.dK (bx g n s t))) : DPut H p (.str "now") (.int y) (upd H p (.dK (bx g y s t))) := by
  have q := DPut.k (k := (Sum.inr "now" : Key)) (v := .int y) h (by show 4 < sizeLine; decide)
  rw [put_now] at q
  exact q
theorem set_seed {H : Hp} {p g : Addr} {n s t : Int} (y : Int) (h : H p = some (.dK (bx g n s t))) : DPut H p (.str "seed") (.int y) (upd H p (.dK (bx g n y t))) := by
  have q := DPut.k (k := (Sum.inr "seed" : Key)) (v := .int y) h (by show 4 < sizeLine; decide)
  rw [put_seed] at q
  exact q
theorem set_turn {H : Hp} {p g : Addr} {n s t : Int} (y : Int) (h : H p = some (.dK (bx g n s t))) : DPut H p (.str "turn") (.int y) (upd H p (.dK (bx g n s y))) := by
  have q := DPut.k (k := (Sum.inr "turn" : Key)) (v := .int y) h (by show 4 < sizeLine; decide)
  rw [put_turn] at q
  exact q
theorem ok_take {k : Nat} (F : Fun K "_law_take" "_law_take" sTake f fd) (ml : mg "len" = none) : FnOk P w K mg base CX0 (k + 1) f fd ["_law_box_here", "_law_many"] spTake := by
  refine F.ok scTake (fun vs H Q E h => ?_) (fun cdv A outer s H vs Q E hr h => ?_)
  · obtain ⟨p, g, m, rfl, _⟩ := h
    rfl
  obtain ⟨p, g, m, rfl, ⟨n, sd, t, gs, hp, hg, hl⟩, m0, m9, q⟩ := h
  have hu := hu_of hr
  have npg : p ≠ g := ne_of hp hg (by intro z; cases z)
  refine ⟨_, C8.pss_cut (ps_if (PW.pt (pw_and (pt_cmpR op_eq (pe_dget hu (pv 0) pe_str (fun _ _ => rfl)) pe_int (nomark _))
        (pw_and1 (pt_cmpR op_gt (pe_callB call_len_seq (by rfl) ml PySem.boot_len (pa_cons (pe_dget hu (pv 0) pe_str (fun _ _ => rfl)) pa_nil)) pe_int (nomark _)))))
        (pss_one (ps_dput hu (pv 0) pe_str (pe_bm0 PySem.F.plainAttrs_list PySem.F.slot_list_pop PySem.F.type_list_pop mt_pop (pe_dget hu (pv 0) pe_str (fun _ _ => rfl))) rfl)) pss_nil)
    (pss_cons (ps_if (pt_cmpR op_gt (pe_dget hu (pv 0) pe_str (fun _ _ => rfl)) pe_int (nomark _))
        (pss_cons (ps_set (i := 2) scTake.nd rfl (.inl rfl) (pe_op op_mod (pe_dget hu (pv 0) pe_str (fun _ _ => rfl)) (pv 1)))
        (pss_cons (ps_dput hu (pv 0) pe_str (pe_op op_fdivW (pe_dget hu (pv 0) pe_str (fun _ _ => rfl)) (pv 1)) rfl)
        (pss_one (ps_ret (pv 2))))) pss_nil)
    (pss_cons (ps_dput hu (pv 0) pe_str (pe_op op_add (pe_dget hu (pv 0) pe_str (fun _ _ => rfl)) pe_int) rfl)
    (pss_cons (ps_set (i := 3) scTake.nd rfl (.inl rfl) (pe_op op_mod (pe_op op_mul (pe_op op_mod (pe_op op_add (pe_dget hu (pv 0) pe_str (fun _ _ => rfl))
        (pe_op op_mul pe_int (pe_dget hu (pv 0) pe_str (fun _ _ => rfl)))) pe_int) pe_int) pe_int))
    (pss_cons (ps_dput hu (pv 0) pe_str (pe_op op_add (pe_op op_mod (pe_op op_add (pv 3) (pe_op op_mul pe_int (pe_dget hu (pv 0) pe_str (fun _ _ => rfl)))) pe_int) pe_int) rfl)
    (pss_one (ps_ret (pe_op op_mod (pe_op op_fdiv (pe_op op_add (pe_op op_mul (pv 3) pe_int) (pe_dget hu (pv 0) pe_str (fun _ _ => rfl))) pe_int) (pv 1)))))))), ?_⟩
  refine ⟨fun σ H1 => ∃ n1 gs1, σ = [some (.ref p), some (.int m), none, none] ∧ H1 p = some (.dK (bx g n1 sd t)) ∧ H1 g = some (.lst (List.map V.int gs1)) ∧ gs1.length ≤ 1000 ∧ Off [p, g] H H1, ?_, ?_⟩
  · refine ⟨_, rfl, p, _, rfl, get_now hp, rfl, _, rfl, ite2 (fun c => ?_) (fun c => iteF ⟨n, gs, rfl, hp, hg, hl, Off.refl _ _⟩)⟩
    refine ⟨_, rfl, p, _, rfl, get_great hp, g, _, rfl, .inl (SqL.of hg), _, _, rfl, rfl, _, rfl, ite2 (fun c2 => ?_) (fun c2 => ⟨n, gs, rfl, hp, hg, hl, Off.refl _ _⟩)⟩
    have c3 : (0 : Int) < (((List.map V.int gs).length : Nat) : Int) := of_decide_eq_true c2
    rw [List.length_map] at c3
    have hlast : (List.map V.int gs)[(List.map V.int gs).length - 1]? = some (V.int (gs[gs.length - 1]'(by omega))) := by
      rw [List.length_map, List.getElem?_map, List.getElem?_eq_getElem (by omega)]
      rfl
    have hp1 : (upd H g (.lst (List.map V.int gs).dropLast)) p = some (.dK (bx g n sd t)) := by rw [upd_ne npg]; exact hp
    refine ⟨_, rfl, p, _, rfl, get_great hp, .inl ⟨rfl, _, .inl (.inl hg)⟩, g, _, _, rfl, rfl, hg, hlast, _, rfl, p, _, rfl, set_now _ hp1, ?_⟩
    refine ⟨_, gs.dropLast, rfl, upd_same, ?_, ?_, ?_⟩
    · rw [upd_ne npg.symm, upd_same, List.map_dropLast]
    · rw [List.length_dropLast]
      omega
    · exact (Off.put (by simp)).trans (Off.put (by simp))
  · rintro σ H1 ⟨n1, gs1, rfl, hp1, hg1, hl1, of1⟩
    refine ⟨_, rfl, p, _, rfl, get_now hp1, _, _, rfl, rfl, _, rfl, ite2 (fun c => ?_) (fun c => ?_)⟩
    · refine ⟨_, rfl, p, _, rfl, get_now hp1, _, rfl, _, _, rfl, rfl, m0, ?_⟩
      refine ⟨_, rfl, p, _, rfl, get_now hp1, _, rfl, _, _, rfl, rfl, wide_div m0 m9 (by decide) (by decide), _, rfl, p, _, rfl, set_now _ hp1, ?_⟩
      refine ⟨_, rfl, q _ _ (Int.emod_nonneg _ (by omega)) (Int.emod_lt_of_pos _ m0) ⟨_, sd, t, gs1, upd_same, by rw [upd_ne npg.symm]; exact hg1, hl1⟩ (of1.trans (Off.put (by simp)))⟩
    · refine ⟨_, rfl, p, _, rfl, get_turn hp1, _, _, rfl, rfl, _, rfl, p, _, rfl, set_turn _ hp1, ?_⟩
      refine ⟨_, rfl, p, _, rfl, get_seed upd_same, _, rfl, p, _, rfl, get_turn upd_same, _, _, rfl, rfl, .inl ⟨by decide, by decide⟩, _, _, rfl, rfl, _, _, rfl, rfl, c47, _, _, rfl, rfl, .inr ⟨by decide, by decide⟩, _, _, rfl, rfl, c47, ?_⟩
      refine ⟨_, rfl, _, rfl, p, _, rfl, get_seed upd_same, _, _, rfl, rfl, .inl ⟨by decide, by decide⟩, _, _, rfl, rfl, _, _, rfl, rfl, c29, _, _, rfl, rfl, _, rfl, p, _, rfl, set_seed _ upd_same, ?_⟩
      refine ⟨_, rfl, _, _, rfl, rfl, .inr ⟨by decide, by decide⟩, _, rfl, p, _, rfl, get_seed upd_same, _, _, rfl, rfl, _, _, rfl, rfl, ⟨by decide, by decide⟩, _, rfl, _, _, rfl, rfl, m0, ?_⟩
      refine q _ _ (Int.emod_nonneg _ (by omega)) (Int.emod_lt_of_pos _ m0) ⟨n1, _, _, gs1, upd_same, ?_, hl1⟩ (of1.trans ((Off.put (by simp)).trans (Off.put (by simp))))
      rw [upd_ne npg.symm, upd_ne npg.symm]
      exact hg1
end
theorem cutV_ints (ns : List Int) (lo hi : Option Int) : ∃ ms : List Int, cutV (ns.map V.int) lo hi = ms.map V.int ∧ ms.length ≤ ns.length := by
  refine ⟨(ns.drop (HT.sIx ns.length 0 lo)).take (HT.sIx ns.length ns.length hi - HT.sIx ns.length 0 lo), ?_, ?_⟩
  · unfold cutV
    rw [List.length_map, List.map_take, List.map_drop]
  · rw [List.length_take, List.length_drop]
    omega
theorem int_at {ms : List Int} {i : Nat} {y : V} (h : (ms.map V.int)[i]? = some y) : ∃ z, y = V.int z := by
  rw [List.getElem?_map] at h
  cases e : ms[i]? with
  | none =>
    rw [e] at h
    cases h
  | some z =>
    rw [e] at h
    exact ⟨z, (Option.some.inj h).symm⟩
theorem scBox : FnScope ["_law_script", "_law_base", "_law_seed", "_law_cell", "_law_great"] ["_law_script", "_law_base"] (defScope sBox) :=
  ⟨rfl, rfl, rfl, by decide +kernel, rfl, by decide +kernel, by decide +kernel⟩
section
variable {P : Program} {w : World} {K : PySem.W.Frag} {mg : Str → Option Value} {base : Heap} {f : Addr} {fd : FuncData}
theorem ok_box {k : Nat} (F : Fun K "_law_box" "_law_box" sBox f fd) (mab : mg "abs" = none) : FnOk P w K mg base CX0 (k + 1) f fd ["_law_script", "_law_base"] (spBox K) := by
  refine F.ok scBox (fun vs H Q E h => ?_) (fun cdv A outer s H vs Q E hr h => ?_)
  · obtain ⟨a, ns, c, rfl, _⟩ := h
    rfl
  obtain ⟨a, ns, c, rfl, hS, hlen, c0, c9, q⟩ := h
  have hu := hu_of hr
  refine ⟨_, pss_cons (ps_set (i := 2) scBox.nd rfl (.inl rfl) (pe_op op_add pe_int (pe_op op_mul pe_int (pv 1))))
    (pss_cons (ps_for PassesOwn.never rfl (pi_list (pe_slice sl_list (pv 0) po_none (po_some pe_int))) (pg_name (i := 3) scBox.nd rfl (.inl rfl))
      (pss_one (ps_set (i := 2) scBox.nd rfl (.inl rfl) (pe_op op_mod (pe_op op_add (pe_op op_add (pe_op op_mul (pv 2) pe_int)
        (pe_op op_mod (pe_callB call_abs (by rfl) mab (by decide +kernel) (pa_cons (pv 3) pa_nil)) pe_int)) pe_int) pe_int))))
    (pss_cons (ps_setLc (i := 4) (own := [("_law_cell", 3)]) (g := gName 3) (by rfl) scBox.nd rfl rfl (sw_true rfl rfl rfl (by decide +kernel))
      (pi_list (pe_slice sl_list (pv 0) (po_some (pv 1)) (po_some pe_int)))
      (blkOk_by (own := [("_law_cell", 3)]) (N := ["_law_script", "_law_base", "_law_seed", "_law_cell", "_law_great"]) (sc := defScope sBox) (by decide +kernel))
      (fun _ _ _ _ _ => pg_name (i := 3) scBox.nd rfl (Or.inl rfl))
      (fun _ _ _ _ _ => pts_one (pt_cmpR op_ge (pe_callB call_abs (by rfl) mab (by decide +kernel) (pa_cons (pv 3) pa_nil)) (pe_op op_pow pe_int pe_int) (nomark _)))
      (fun _ _ _ _ _ => pe_callB call_abs (by rfl) mab (by decide +kernel) (pa_cons (pv 3) pa_nil)))
    (pss_one (ps_ret (pe_disp (pps_cons pe_str (pe_revL (pv 4)) (pps_cons pe_str pe_int (pps_cons pe_str (pe_op op_add (pv 2) pe_int) (pps_cons pe_str pe_int pps_nil))))
      (by rfl) (by rfl) (fun z => by cases z) (by decide)))))), ?_⟩
  refine ⟨_, rfl, _, _, rfl, rfl, .inl ⟨by decide, by decide⟩, _, _, rfl, rfl, ?_⟩
  refine ⟨_, rfl, 50, rfl, a, _, rfl, hS, fun q0 hq0 => ?_⟩
  obtain ⟨ms, em, lm⟩ := cutV_ints ns none (some 50)
  rw [em]
  have s1 : Same H (upd H q0 (.lst (ms.map V.int))) := same_new hq0 _
  refine ⟨q0, rfl, ⟨_, SqL.of upd_same⟩, for_list (K := K) (a := q0) (xs := ms.map V.int) (fun i σ H2 => ∃ (z : Int) (v : Option V), σ = [some (.ref a), some (.int c), some (.int z), v, none] ∧ -(2 ^ 40) < z ∧ z < 2 ^ 40 ∧ H2 = upd H q0 (.lst (ms.map V.int)))
    ⟨7001 + 211 * c, none, rfl, by omega, by omega, rfl⟩ (fun i σ H2 _ ⟨_, _, _, _, _, e⟩ => by rw [e]; exact SqL.of upd_same) ?_ ?_⟩
  · rintro i y σ H2 hi ⟨z, v, rfl, z0, z1, rfl⟩
    obtain ⟨x, rfl⟩ := int_at hi
    refine ⟨_, rfl, _, _, rfl, rfl, .inr ⟨by decide, by decide⟩, _, rfl, _, rfl, _, _, rfl, rfl, c29, _, _, rfl, rfl, _, _, rfl, rfl, _, _, rfl, rfl, c47, ?_⟩
    exact ⟨_, _, rfl, Int.lt_of_lt_of_le (by decide) (Int.emod_nonneg _ (by decide)), Int.lt_trans (Int.emod_lt_of_pos _ c47) (by decide), rfl⟩
  · rintro σ H2 ⟨z, v, rfl, z0, z1, rfl⟩
    refine ⟨_, rfl, _, rfl, c, rfl, 50, rfl, a, _, rfl, s1.seq hS, fun q1 hq1 => ?_⟩
    obtain ⟨ks, ek, lk⟩ := cutV_ints ns (some c) (some 50)
    rw [ek]
    have s2 := s1.trans (same_new hq1 (.lst (ks.map V.int)))
    refine ⟨q1, rfl, ⟨_, SqL.of upd_same⟩, fun D hD => lc_list (K := K) (a := q1) (xs := ks.map V.int) (fun i H3 => ∃ gs : List Int, gs.length ≤ i ∧ H3 D = some (.lst (gs.map V.int)) ∧ H3 q1 = some (.lst (ks.map V.int)) ∧ Same H H3)
      ⟨[], Nat.le_refl _, upd_same, by rw [upd_ne (ne_of_none upd_same hD), upd_same], s2.trans (same_new hD _)⟩ (fun i H3 _ ⟨_, _, _, h, _⟩ => SqL.of h) ?_ ?_⟩
    · rintro i y H3 hi ⟨gs, lg, h1, h2, h3⟩
      have hik := (List.getElem?_eq_some_iff.mp hi).1
      rw [List.length_map] at hik
      obtain ⟨x, rfl⟩ := int_at hi
      refine ⟨rfl, _, rfl, _, rfl, _, _, rfl, rfl, ⟨by decide, by decide, by decide⟩, _, _, rfl, rfl, _, rfl, ite2 (fun _ => ?_) (fun _ => ?_)⟩
      · refine ⟨_, rfl, _, rfl, _, h1, ?_, gs ++ [if x < 0 then -x else x], ?_, ?_, ?_, ?_⟩
        · rw [List.length_map]
          exact small1000 (by omega)
        · rw [List.length_append, List.length_singleton]
          omega
        · rw [upd_same, List.map_append]
          rfl
        · rw [upd_ne (ne_of_none upd_same hD)]
          exact h2
        · intro b o e
          rw [upd_ne (ne_of_none e (s2.free hD))]
          exact h3 b o e
      · exact ⟨gs, by omega, h1, h2, h3⟩
    · rintro H3 ⟨gs, lg, h1, h2, h3⟩
      rw [List.length_map] at lg
      refine fun p hp => ⟨_, rfl, D, _, rfl, SqL.of (by rw [upd_ne (ne_of_none h1 hp)]; exact h1), fun g hg => ?_⟩
      have ngp : g ≠ p := fun e => by
        rw [e, upd_same] at hg
        cases hg
      have hp2 : (upd (upd H3 p (.dK [])) g (.lst (gs.map V.int).reverse)) p = some (.dK []) := by rw [upd_ne ngp.symm, upd_same]
      refine ⟨_, rfl, _, _, rfl, rfl, hp2, bx g 0 (z + 1) 0, rfl, by show 4 ≤ 15; decide, ?_⟩
      rw [mer_box]
      have hg3 : H3 g = none := by
        rw [upd_ne ngp] at hg
        exact hg
      refine q p g _ ⟨0, z + 1, 0, gs.reverse, upd_same, ?_, ?_⟩ ?_ (h3.free hp) (h3.free hg3)
      · rw [upd_ne ngp, upd_same, List.map_reverse]
      · rw [List.length_reverse]
        omega
      · intro b o e
        have e3 := h3 b o e
        rw [upd_ne (ne_of_none e3 hp), upd_ne (ne_of_none e3 hg3), upd_ne (ne_of_none e3 hp)]
        exact e3
end
structure Tk (P : Program) (w : World) (K : PySem.W.Frag) (mg : Str → Option Value) (base : Heap) (f : Addr) (fd : FuncData) : Prop where
  ok : FnOk P w K mg base CX0 1 f fd ["_law_box_here", "_law_many"] spTake
  kp : PySem.W.keepIn K (.ref f) = true
  bd : Binds K fd ["_law_box_here", "_law_many"] []
  mg : mg "_law_take" = some (.ref f)
theorem atI_ok {α : Type} {xs : List α} {r : Int} (h0 : 0 ≤ r) (h : r < (xs.length : Int)) : ∃ x, atI xs r = some x ∧ x ∈ xs ∧ xs[r.toNat]? = some x := by
  have hr : r.toNat < xs.length := by omega
  have e : r = (r.toNat : Int) := by omega
  have q : atI xs ((r.toNat : Nat) : Int) = some xs[r.toNat] := atI_nat (List.getElem?_eq_getElem hr)
  rw [← e] at q
  exact ⟨xs[r.toNat], q, List.getElem_mem hr, List.getElem?_eq_getElem hr⟩
theorem okG {P : Program} {w : World} {K : PySem.W.Frag} {mg : Str → Option Value} {base : Heap} {x qual : Str} {st : Stmt} {f : Addr} {fd : FuncData} {N ps : List Str} {k : Nat} {sp : Sp} (F : Fun K x qual st f fd) (S : FnScope N ps (defScope st))
    (len : ∀ ws H Q E, sp ws H Q E → ws.length = ps.length)
    (hb : ∀ (cdv : Value) (A : Around) (outer : List Env) (s : Shared) (H : Hp) (vs : List V) (Q : VK) (E : XK), A.guards = some [] → Room k (A.deeper (envOfC qual (defScope st) s.heap.objs.size f cdv)) → sp vs H Q E →
      ∃ t, PSs (cxOf CX0 P w K mg base N qual (defScope st) f cdv A outer s H E).nox (defBody st) t ∧ t { nx := fun _ H' => Q .non H', rt := Q } (start N vs) H) : FnG P w K mg base CX0 (k + 1) f fd ps sp := by
  obtain ⟨oc, od, kV, doc, pm, an, cdv, ct, osl, rfl, lk, hcd⟩ := F.ex
  refine fnG_of lk hcd S len ?_
  intro A outer s H vs Q E hg hr hsp
  obtain ⟨t, h, q⟩ := hb cdv A outer s H vs Q E hg hr hsp
  exact ⟨t, h.nox, q⟩
theorem bool_prn (b : Bool) : Prn (.bool b) := prn_of (by simp only [gd]) (by simp only [nod]; omega) (by simp only [PyData.depth]; omega)
/-- a def of the top that keeps a promise -/
structure Dn (P : Program) (w : World) (K : PySem.W.Frag) (mg : Str → Option Value) (base : Heap) (lvl : Nat) (nm : Str) (ps : List Str) (sp : Sp) (f : Addr) (fd : FuncData) : Prop where
  ok : FnOk P w K mg base CX0 lvl f fd ps sp
  kp : PySem.W.keepIn K (.ref f) = true
  bd : Binds K fd ps []
  mg : mg nm = some (.ref f)
theorem cut_less {l m : List Addr} {H : Hp} (h : ∀ b ∈ m, b ∈ l) : Same (cut l H) (cut m H) := fun b o e => by
  obtain ⟨n, e⟩ := cut_some e
  rw [cut_out (fun z => n (h b z))]
  exact e
theorem cut_more {l : List Addr} {H : Hp} {a : Addr} {o : HO} (h : H a = none) : Same (cut l H) (cut (a :: l) (upd H a o)) := fun b u e => by
  obtain ⟨n, e⟩ := cut_some e
  have nb := ne_of_none e h
  rw [cut_out (fun z => (List.mem_cons.mp z).elim nb n), upd_ne nb]
  exact e
theorem dp_true {K : PySem.W.Frag} {H : Hp} {b : Bool} (h : b = true) : Dp K H (.bl b) (.bool true) := by
  rw [h]
  exact .bl true
theorem DpAll.parts {K : PySem.W.Frag} {H : Hp} {xs : List V} {ds : List PyData} (h : DpAll K H xs ds) (i : Nat) : DpAll K H (xs.take i) (ds.take i) ∧ DpAll K H (xs.drop i) (ds.drop i) := by
  have lx := DpAll.len h
  obtain ⟨d1, d2, e, a, b⟩ := DpAll.unapp (xs := xs.take i) (ys := xs.drop i) (by rw [List.take_append_drop]; exact h)
  have la := DpAll.len a
  have lb := DpAll.len b
  rw [List.length_take] at la
  rw [List.length_drop] at lb
  subst e
  by_cases hi : i ≤ xs.length
  · have l1 : d1.length = i := by omega
    have e1 : (d1 ++ d2).take i = d1 := by rw [← l1]; exact List.take_left
    have e2 : (d1 ++ d2).drop i = d2 := by rw [← l1]; exact List.drop_left
    rw [e1, e2]
    exact ⟨a, b⟩
  · have l2 : d2 = [] := List.length_eq_zero_iff.mp (by omega)
    subst l2
    rw [List.append_nil, List.take_of_length_le (l := d1) (by omega), List.drop_of_length_le (l := d1) (by omega)]
    exact ⟨a, b⟩
theorem cutV_dp {K : PySem.W.Frag} {H : Hp} {xs : List V} {ds : List PyData} (h : DpAll K H xs ds) (lo hi : Option Int) : ∃ es, DpAll K H (cutV xs lo hi) es ∧ ∀ e ∈ es, e ∈ ds := by
  unfold cutV
  exact ⟨_, (DpAll.parts (DpAll.parts h _).2 _).1, fun e he => List.mem_of_mem_drop (List.mem_of_mem_take he)⟩
theorem gd_int {i : Int} (h : i.natAbs < 2 ^ 1000) : gd (.int i) = true := by
  simp only [gd]
  exact decide_eq_true (Nat.lt_trans (PySem.Flt.log2_lt_of (by decide) h) (by decide))
theorem FaultAt.up {C : Addr} {H H' : Hp} {a : Addr} {wd : Str} {r p : V} (s : Same H H') (h : FaultAt C H a wd r p) : FaultAt C H' a wd r p := by
  obtain ⟨dx, h⟩ := h
  exact ⟨dx, s _ _ h⟩
/-- how a fault is made -/
structure MkF (P : Program) (w : World) (K : PySem.W.Frag) (mg : Str → Option Value) (base : Heap) (C fI : Addr) (dI : FuncData) (t0 : Addr) : Prop where
  mkr : Mk K C fI
  ok : FnOk P w K mg base CX0 1 fI dI ["self", "word", "rule", "path"] (spInitF C)
  b2 : ∃ ds, Vals [.str "", .ref t0] ds ∧ Binds K dI ["self", "word", "rule", "path"] ds
  b3 : ∃ ds, Vals [.ref t0] ds ∧ Binds K dI ["self", "word", "rule", "path"] ds
  b4 : ∃ ds, Vals [] ds ∧ Binds K dI ["self", "word", "rule", "path"] ds
  bk : ∃ its : List Value, KBn K dI ["self", "word", "rule", "path"] 1 ["path", "word"] (fun us ws => us ++ (ws.drop 1 ++ (its.take 1 ++ ws.take 1))) (fun vs zs => vs ++ (zs.drop 1 ++ ([V.str "", .ref t0].take 1 ++ zs.take 1)))
  z : ∀ H, SqT K H t0 []
theorem mem_words {n : Nat} : ∀ {xs : List Str}, (xs.all fun x => decide (x.length ≤ n) && x.cps.toList.all fun c => decide (c < 128)) = true → ∀ v ∈ xs.map V.str, ∃ x, v = .str x ∧ Sm n x := by
  intro xs h v hv
  obtain ⟨x, hx, rfl⟩ := List.mem_map.mp hv
  exact ⟨x, rfl, Sm.of (List.all_eq_true.mp h x hx)⟩
section
variable {K : PySem.W.Frag} {C : Addr}
theorem ints_dp {H : Hp} : ∀ ks : List Int, DpAll K H (ks.map V.int) (ks.map PyData.int)
  | [] => .nil
  | _ :: ks => .cons (.int _) (ints_dp ks)
theorem ints_gd : ∀ ks : List Int, (∀ z ∈ ks, z.natAbs < 2 ^ 10) → gds (ks.map PyData.int) = true ∧ nods (ks.map PyData.int) = ks.length ∧ PyData.depthAll (ks.map PyData.int) = 0
  | [], _ => ⟨by simp only [List.map_nil, gds], by simp only [List.map_nil, nods, List.length_nil], by simp only [List.map_nil, PyData.depthAll]⟩
  | k :: ks, h => by
    have ih := ints_gd ks fun z hz => h z (List.mem_cons_of_mem _ hz)
    have g := gd_int (i := k) (Nat.lt_of_lt_of_le (h k List.mem_cons_self) (Nat.pow_le_pow_right (by decide) (by decide)))
    exact ⟨by simp only [List.map_cons, gds, g, ih.1, Bool.and_self], by simp only [List.map_cons, nods, nod, ih.2.1, List.length_cons]; omega, by simp only [List.map_cons, PyData.depthAll, PyData.depth, ih.2.2, Nat.max_self]⟩
theorem made_same {H6 H7 : Hp} {a dx : Addr} {o1 o2 : HO} (ha : H6 a = none) (hdx : H6 dx = none) (e : ∀ b, b ≠ a → H7 b = upd (upd H6 dx o1) a o2 b) : Same H6 H7 := fun b o z => by
  rw [e b (ne_of_none z ha), upd_ne (ne_of_none z ha), upd_ne (ne_of_none z hdx)]
  exact z
end
/-! own errors -/
/-- an error of the class C with these attributes stands at a, its dict at d -/
def ErrD (H : Hp) (C a d : Addr) (fs : List (Str × V)) : Prop := H a = some (exo a C (some d)) ∧ H d = some (exd d fs)
theorem ErrD.up {H H' : Hp} {C a d : Addr} {fs : List (Str × V)} (s : Same H H') (h : ErrD H C a d fs) : ErrD H' C a d fs := ⟨s _ _ h.1, s _ _ h.2⟩
theorem ErrD.at {H : Hp} {C a d : Addr} {fs : List (Str × V)} (h : ErrD H C a d fs) : ErrAt H C a := .inr ⟨d, fs, h.1, h.2⟩
theorem few9 {n : Nat} (h : n ≤ 3) : n ≤ 900 := Nat.le_trans h (by decide)
/-- an __init__ that keeps its arguments in attributes of these names -/
def spIni (C : Addr) (ns : List Str) : Sp := fun vs H Q _ => ∃ (a : Addr) (ws : List V), vs = .ref a :: ws ∧ ws.length = ns.length ∧ H a = some (exo a C none) ∧
  ∀ d H', H d = none → d ≠ a → ErrD H' C a d (ns.zip ws).reverse → (∀ b o, b ≠ a → H b = some o → H' b = some o) → Q .non H'
/-- what is known of an error class with an __init__ of its own -/
structure EC (P : Program) (w : World) (K : PySem.W.Frag) (mg : Str → Option Value) (base : Heap) (nm : Str) (ns ks : List Str) (C fI : Addr) (fd : FuncData) : Prop where
  T : ExK K C
  X : XfC K C
  E : ExcC K C
  iC : PySem.W.findIn K (.ref C) "__init__" = some (some (.ref fI))
  tI : PySem.W.typeIn K (.ref fI) = some (.type "function")
  ok : FnOk P w K mg base CX0 1 fI fd ("self" :: ns) (spIni C ns)
  bd : Binds K fd ("self" :: ns) []
  mg : mg nm = some (.ref C)
  no : ∀ f ∈ ns, PySem.W.findIn K (.ref C) f = some none
section
variable {P : Program} {w : World} {K : PySem.W.Frag} {mg : Str → Option Value} {base : Heap} {C fI : Addr} {fd : FuncData}
abbrev sI2 : Stmt := inClass (topS 2) 0
theorem scI2 : FnScope ["self", "place"] ["self", "place"] (defScope sI2) := ⟨rfl, rfl, rfl, by decide +kernel, rfl, by decide +kernel, by decide +kernel⟩
theorem ok_I2 {k : Nat} (F : Fun K "__init__" "NoPlace.__init__" sI2 fI fd) (T : ExK K C) (no0 : PySem.W.findIn K (.ref C) "place" = some none) : FnOk P w K mg base CX0 (k + 1) fI fd ["self", "place"] (spIni C ["place"]) := by
  refine F.ok scI2 (fun vs H Q E h => ?_) (fun cdv A outer s H vs Q E hr h => ?_)
  · obtain ⟨a, ws, rfl, hl, _⟩ := h
    simp only [List.length_cons, hl]
  obtain ⟨a, ws, rfl, hl, ha, q⟩ := h
  match ws, hl with
  | [v0], _ =>
    refine ⟨_, pss_one (ps_osK (pv 0) (pv 1)), ?_⟩
    refine ⟨_, rfl, _, rfl, a, C, rfl, T, no0, .inl ⟨ha, fun dx n1 n2 => q dx _ n1 n2 ⟨upd_same, by (rw [upd_ne n2]; exact upd_same)⟩ fun b o nb hb => ?_⟩⟩
    rw [upd_ne nb, upd_ne (ne_of_none hb n1)]
    exact hb
end
/-- the error class named nm stands at C, the rest of its order of classes is bm -/
structure EL (K : PySem.W.Frag) (C : Addr) (nm : Str) (bm : List Value) (newId : String) : Prop where
  ex : ∃ q N bs sn sub ab col dd k0 k1 k2 k3 k5, K.lookup C = some (excClassObj nm q C N bs bm true sn sub ab col dd k0 k1 k2 k3 k5 newId)
section
variable {K : PySem.W.Frag} {C C' : Addr} {nm nm' : Str} {bm bm' : List Value} {newId newId' : String}
theorem EL.cd (e : EL K C nm bm newId) : ∃ cd, PySem.W.clsIn K C = some cd ∧ cd.mro = .ref C :: bm ∧ cd.name = nm ∧ cd.hasDict = true := by
  obtain ⟨q, N, bs, sn, sub, ab, col, dd, k0, k1, k2, k3, k5, h⟩ := e.ex
  exact ⟨{ name := nm, bases := bs, mro := .ref C :: bm, ns := N, qualname := q, hasDict := true, slotNames := sn, subclasses := sub, abstract := ab, collection := col, hasDel := false }, by (unfold PySem.W.clsIn; rw [h] <;> rfl), rfl, rfl, rfl⟩
theorem EL.ne (e : EL K C nm bm newId) (e' : EL K C' nm' bm' newId') (h : nm ≠ nm') : C ≠ C' := fun z => by
  obtain ⟨cd, h1, _, h2, _⟩ := e.cd
  obtain ⟨cd', h1', _, h2', _⟩ := e'.cd
  rw [z, h1'] at h1
  have q := Option.some.inj h1
  subst q
  exact h (h2.symm.trans h2')
theorem EL.ty (e : EL K C nm bm newId) : PySem.W.typeIn K (.ref C) = some (.type "type") := by
  obtain ⟨q, N, bs, sn, sub, ab, col, dd, k0, k1, k2, k3, k5, h⟩ := e.ex
  show (K.lookup C).map (·.cls) = _
  rw [h]
  rfl
theorem EL.sub (e : EL K C nm bm newId) (c : Value) : PySem.W.subIn K (.ref C) c = some ((Value.ref C :: bm).contains c) := by
  obtain ⟨cd, h1, h2, _⟩ := e.cd
  show PySem.W.mroIn K C c = _
  unfold PySem.W.mroIn
  rw [h1, Option.bind_some, h2]
  rfl
theorem EL.hd (e : EL K C nm bm newId) : PySem.W.hasDictIn K C = true := by
  obtain ⟨cd, h1, _, _, h3⟩ := e.cd
  unfold PySem.W.hasDictIn
  rw [h1]
  exact h3
theorem EL.isK (e : EL K C nm bm newId) (e' : EL K C' nm' bm' newId') : PySem.W.kitOne K (.ref C) (.ref C') = some ((Value.ref C :: bm).contains (.ref C')) := by
  unfold PySem.W.kitOne PySem.W.kitCls
  by_cases h : (Value.ref C == Value.ref C') = true
  · rw [if_pos h]
    have q := beq_iff_eq.mp h
    rw [← q]
    simp
  · rw [if_neg h]
    obtain ⟨cd, h1, _⟩ := e'.cd
    show (if ((PySem.W.clsIn K C').isSome && PySem.W.typeIn K (.ref C') == some (.type "type")) = true then PySem.W.subIn K (.ref C) (.ref C') else none) = _
    rw [h1, e'.ty, e.sub]
    simp only [Option.isSome_some, beq_self_eq_true, Bool.and_self, if_true]
theorem EL.isT (e : EL K C nm bm newId) {T : String} (m : PySem.W.kitMeta T = true) : PySem.W.kitOne K (.ref C) (.type T) = some ((Value.ref C :: bm).contains (.type T)) := by
  unfold PySem.W.kitOne PySem.W.kitCls
  rw [if_neg (fun z => nomatch (beq_iff_eq.mp z : Value.ref C = Value.type T))]
  show (if PySem.W.kitMeta T = true then _ else _) = _
  rw [if_pos m]
  exact e.sub _
/-- what is asked of the class by its names -/
structure EF (K : PySem.W.Frag) (C : Addr) : Prop where
  ga : PySem.W.findIn K (.ref C) "__getattribute__" = some (some (.builtin "BaseException.__getattribute__"))
  gg : PySem.W.findIn K (.ref C) "__getattr__" = some none
  ha : PySem.W.findIn K (.ref C) "__class__" = some (some (.builtin "object.__class__"))
  sa : PySem.W.findIn K (.ref C) "__setattr__" = some (some (.builtin "object.__setattr__"))
  kC : PySem.W.keepIn K (.ref C) = true
structure Hn (K : PySem.W.Frag) : Prop where
  hn : PySem.W.specialIn K (.builtin "object.__class__") "__get__" = some (some (.builtin "getset_descriptor.__get__"))
  ht : PySem.W.takesIn K (.builtin "object.__class__") = some true
theorem EL.exk {B initId : String} {bmF T : List Value} (e : EL K C nm bm newId) (f : EF K C) (F : EBase B newId initId bmF T) (ht : tlB T bm = true) (hb : bm.contains (.type "BaseException") = true) : ExK K C := by
  obtain ⟨q, N, bs, sn, sub, ab, col, dd, k0, k1, k2, k3, k5, h⟩ := e.ex
  exact ⟨⟨B, newId, initId, bmF, T, nm, q, N, bs, bm, sn, sub, ab, col, dd, k0, k1, k2, k3, k5, F, h, ht⟩, f.sa, by (rw [e.sub, List.contains_cons, hb, Bool.or_true]), e.ty, f.kC⟩
theorem EL.xf (e : EL K C nm bm newId) (f : EF K C) (hb : bm.contains (.type "BaseException") = true) : XfC K C := ⟨f.ga, f.gg, by (rw [e.sub, List.contains_cons, hb, Bool.or_true]), e.hd⟩
theorem EL.exc (e : EL K C nm bm newId) (f : EF K C) (n : Hn K) (hb : bm.contains (.type "BaseException") = true) (ho : bm.contains (.type "object") = true) : ExcC K C :=
  ⟨f.ga, f.gg, by (rw [e.sub, List.contains_cons, hb, Bool.or_true]), e.hd, f.ha, n.hn, n.ht, by (have z := e.sub (.type "object"); rw [List.contains_cons, ho, Bool.or_true] at z; exact z)⟩
end
theorem lk1 {f : Str} {y : V} {r : List (Str × V)} : ((f, y) :: r).lookup f = some y := by rw [L2.lookup_put, if_pos rfl]
theorem EC.exm {P : Program} {w : World} {K : PySem.W.Frag} {mg : Str → Option Value} {base : Heap} {nm : Str} {ns ks : List Str} {C fI : Addr} {fd : FuncData} (c : EC P w K mg base nm ns ks C fI fd) {nm' : Str} {bm : List Value} {newId : String} (e : EL K C nm' bm newId) :
    PySem.W.exmOne K (.ref C) (.ref C) = some true :=
  PySem.W.exm_ref c.T.exC e.hd c.T.tyC (by rw [e.sub, List.contains_cons, beq_self_eq_true, Bool.true_or])
theorem few1 {n : Nat} (h : n ≤ 1000) : n < sizeLine := small1000 h
/-- behind the making of an error that is raised -/
theorem flown {H1 H' : Hp} {a d : Addr} {o u : HO} (ha : H1 a = none) (hd : H1 d = none) (k : ∀ b v, b ≠ a → upd H1 a o b = some v → H' b = some v) : Same H1 (upd (L2.del H' a) d u) := fun b v z => by
  have na := ne_of_none z ha
  rw [upd_ne (ne_of_none z hd), L2.del_ne na]
  exact k b v na (by (rw [upd_ne na]; exact z))
/-- isinstance(e, (A, B)) -/
def rIsXT (K : PySem.W.Frag) : List V → Hp → VK → Prop := fun xs H Q => ∃ (a D tp : Addr) (cs : List Addr) (b : Bool), xs = [.ref a, .ref tp] ∧ ExcC K D ∧ ErrAt H D a ∧ H tp = some (.tup (cs.map V.ref)) ∧ PySem.W.kitAny K (.ref D) (cs.map Value.ref) = some b ∧ Q (.bl b) H
theorem vals_refs : ∀ {cs : List Addr} {us : List Value}, Vals (cs.map V.ref) us → us = cs.map Value.ref
  | [], _, h => by cases h; rfl
  | c :: cs, _, h => by
    cases h with
    | cons h1 h2 =>
      cases h1
      rw [vals_refs h2]
      rfl
theorem call_isXT {X : Cx} : CallR X (.builtin "isinstance") (rIsXT X.K) := by
  intro pins s σ H xs us Q I r h
  obtain ⟨a, D, tp, cs, b, rfl, C, he, ht, e, q⟩ := h
  cases r with
  | cons rx rr =>
    cases rr with
    | cons rt rr =>
      cases rr
      cases rx
      cases rt
      obtain ⟨its, r2, ⟨o, ho, hc, n, hd⟩, hl2⟩ := I.tuple (.inl (.inl ht) : SqT X.K H tp (cs.map V.ref))
      have ei := vals_refs r2
      subst ei
      obtain ⟨oc, od0, oda, osl⟩ := o
      cases hc
      cases hd
      have fin : ∀ {ox : Obj} {od : Option Obj}, PySem.W.InstAt s.heap a ox D od → wpAny (model X.prog X.w) X.A (call (.builtin "isinstance") [.ref a, .ref tp]) (EP X pins σ Q) X.xe s := fun {ox od} J =>
        PySem.W.kia_tup (PySem.W.kitx_exc (hasD_cls C.hd) C.hg C.hk C.hs C.ha C.hn C.ht C.hm) I.kIn J ho e (fun z => nomatch z) fun tk => ⟨.bl b, H, I.kept (t' := tk) fun _ _ z => z, rfl, q⟩
      rcases he with ea | ⟨d, fs, ea, ed⟩
      · obtain ⟨t1, ha⟩ := exo_at I.hok ea
        exact fin (od := none) ⟨ha, rfl, rfl, trivial⟩
      · obtain ⟨t1, ha⟩ := exo_at I.hok ea
        obtain ⟨mA, ⟨o, es, ep, ho2, hr⟩, _⟩ := exd_at I.hok ed
        exact fin (od := some o) ⟨ha, rfl, rfl, ho2⟩
abbrev sName : Stmt := topS 6
abbrev sInteger : Stmt := topS 7
theorem scName : FnScope ["thing", "letter"] ["thing"] (defScope sName) := ⟨rfl, rfl, rfl, by decide +kernel, rfl, by decide +kernel, by decide +kernel⟩
theorem scInteger : FnScope ["thing"] ["thing"] (defScope sInteger) := ⟨rfl, rfl, rfl, by decide +kernel, rfl, by decide +kernel, by decide +kernel⟩
section
variable {P : Program} {w : World} {K : PySem.W.Frag} {mg : Str → Option Value} {base : Heap} {f : Addr} {fd : FuncData}
theorem ok_name {k : Nat} (F : Fun K "is_name" "is_name" sName f fd) (B : Bi mg) : FnOk P w K mg base CX0 (k + 1) f fd ["thing"] (spLook K (fun d => gd d = true) fun d => .bl (nmD d)) := by
  refine F.ok scName (fun vs H Q E h => ?_) (fun cdv A outer s H vs Q E hr h => ?_)
  · obtain ⟨v, d, rfl, _⟩ := h
    rfl
  obtain ⟨v, d, rfl, hd, hg, q⟩ := h
  have q : ∀ H', Same H H' → Q (.bl (nmD d)) H' := q
  refine ⟨_, pss_cons (ps_if (PW.pt (pw_or (pt_not (pt_val (pe_callB call_isD (by rfl) B.ii (by decide +kernel) (pa_cons (pv 0) (pa_cons (pe_bltn (by rfl) B.str (by decide +kernel) (v := .ty "str") rfl) pa_nil)))))
      (pw_or1 (pt_not (pt_chain op_le op_le pe_int (pe_callB call_len_str (by rfl) B.len PySem.boot_len (pa_cons (pv 0) pa_nil)) pe_int))))) (pss_one (ps_ret pe_bl)) pss_nil)
    (pss_one (ps_ret (pe_callB (cr_all rfl) (by rfl) B.all (by decide +kernel) (pa_cons (pe_lc (own := [("letter", 1)]) (g := gName 1) (by rfl) scName.nd (pi_str (pv 0))
      (blkOk_by (own := [("letter", 1)]) (N := ["thing", "letter"]) (sc := defScope sName) (by decide +kernel))
      (fun _ _ _ _ _ => pg_name (i := 1) scName.nd rfl (Or.inl rfl)) (fun _ _ _ _ _ => pts_nil) (fun _ _ _ _ _ => pe_chain op_le_str op_le_str pe_str (pv 1) pe_str)) pa_nil)))), ?_⟩
  refine ⟨_, rfl, v, d, "str", _, rfl, hd, kit_str d, _, rfl, ?_⟩
  have same0 : Same H H := Same.refl H
  cases hs : isStr d with
  | false =>
    refine iteT ?_
    refine iteT ?_
    have e : nmD d = false := by cases d <;> first | rfl | cases hs
    rw [e] at q
    exact q H same0
  | true =>
    obtain ⟨x, rfl⟩ : ∃ x, d = .str x := by cases d <;> first | exact ⟨_, rfl⟩ | cases hs
    cases hd
    have hx := gd_str hg
    have hx2 : x.length ≤ sizeLine := Nat.le_trans hx (by decide)
    refine iteF ?_
    refine ⟨_, rfl, x, rfl, hx2, _, _, rfl, rfl, _, rfl, ite2 (fun c1 => ?_) (fun c1 => ?_)⟩
    · have c1 : 1 ≤ (x.length : Int) := of_decide_eq_true c1
      refine ⟨_, _, rfl, rfl, _, rfl, ?_⟩
      by_cases c2 : (x.length : Int) ≤ 8
      · rw [decide_eq_true c2]
        refine iteF ?_
        refine ⟨_, rfl, x, rfl, fun D hD => ?_⟩
        refine lc_it walk_str (fun i H2 => H2 D = some (.lst ((x.cps.toList.take i).map fun c => V.bl (lowOk c))) ∧ Same H H2) ⟨upd_same, same_new hD _⟩ (fun _ _ _ _ => True.intro) ?_ ?_
        · rintro i y H2 H3 hi ⟨h1, h2⟩ ⟨rfl, c, hc, rfl⟩
          refine ⟨rfl, ?_⟩
          refine ⟨_, rfl, _, _, rfl, rfl, _, rfl, ?_⟩
          have key : lowOk c = ((!decide ((⟨#[c]⟩ : Str).cps.toList < ("a" : Str).cps.toList)) && (!decide (("z" : Str).cps.toList < (⟨#[c]⟩ : Str).cps.toList))) := by
            rw [ge_a, le_z]
            rfl
          have fin : ∀ b : Bool, b = lowOk c → ∃ acc, H3 D = some (.lst acc) ∧ acc.length < sizeLine ∧ (upd H3 D (.lst (acc ++ [V.bl b]))) D = some (.lst ((x.cps.toList.take (i + 1)).map fun c => V.bl (lowOk c))) ∧ Same H (upd H3 D (.lst (acc ++ [V.bl b]))) := by
            intro b hb
            refine ⟨_, h1, ?_, ?_, ?_⟩
            · rw [List.length_map, List.length_take]
              have : x.cps.toList.length = x.length := by simp [len_cps]
              exact Nat.lt_of_le_of_lt (Nat.le_trans (Nat.min_le_right _ _) (by omega)) (small1000 (n := 100) (by decide))
            · rw [upd_same, take_snoc _ (cps_at hc), hb]
            · intro b2 o e
              rw [upd_ne (ne_of_none e hD)]
              exact h2 b2 o e
          by_cases ca : (!decide ((⟨#[c]⟩ : Str).cps.toList < ("a" : Str).cps.toList)) = true
          · rw [ca] at key ⊢
            refine iteT ?_
            refine ⟨_, _, rfl, rfl, fin _ ?_⟩
            rw [key, Bool.true_and]
          · have ca := Bool.eq_false_iff.mpr ca
            rw [ca] at key ⊢
            refine iteF (fin _ ?_)
            rw [key, Bool.false_and]
        · rintro H2 ⟨h1, h2⟩
          refine ⟨D, x.cps.toList.map lowOk, rfl, SqL.of ?_, ?_⟩
          · rw [h1, List.map_map]
            have : x.cps.toList.take x.cps.size = x.cps.toList := List.take_of_length_le (by simp)
            rw [this]
            rfl
          · rw [all_map]
            have e : nmD (.str x) = x.cps.toList.all lowOk := by
              have a1 : 1 ≤ x.length := by omega
              have a2 : x.length ≤ 8 := by omega
              show (decide (1 ≤ x.length) && decide (x.length ≤ 8) && x.cps.toList.all lowOk) = _
              rw [decide_eq_true a1, decide_eq_true a2]
              rfl
            rw [e] at q
            exact q H2 h2
      · rw [decide_eq_false c2]
        refine iteT ?_
        have e : nmD (.str x) = false := by
          have a2 : ¬ x.length ≤ 8 := by omega
          show (decide (1 ≤ x.length) && decide (x.length ≤ 8) && x.cps.toList.all lowOk) = _
          rw [decide_eq_false a2, Bool.and_false, Bool.false_and]
        rw [e] at q
        exact q H same0
    · have c1 : ¬ 1 ≤ (x.length : Int) := of_decide_eq_false (Bool.eq_false_iff.mpr c1)
      refine ⟨_, rfl, ?_⟩
      refine iteT ?_
      have e : nmD (.str x) = false := by
        have a2 : ¬ 1 ≤ x.length := by omega
        show (decide (1 ≤ x.length) && decide (x.length ≤ 8) && x.cps.toList.all lowOk) = _
        rw [decide_eq_false a2, Bool.false_and, Bool.false_and]
      rw [e] at q
      exact q H same0
theorem ok_integer {k : Nat} (F : Fun K "is_integer" "is_integer" sInteger f fd) (B : Bi mg) : FnOk P w K mg base CX0 (k + 1) f fd ["thing"] (spLook K (fun _ => True) fun d => .bl (inD d)) := by
  refine F.ok scInteger (fun vs H Q E h => ?_) (fun cdv A outer s H vs Q E hr h => ?_)
  · obtain ⟨v, d, rfl, _⟩ := h
    rfl
  obtain ⟨v, d, rfl, hd, _, q⟩ := h
  refine ⟨_, pss_one (ps_ret (pe_and (pe_callB call_isD (by rfl) B.ii (by decide +kernel) (pa_cons (pv 0) (pa_cons (pe_bltn (by rfl) B.int (by decide +kernel) (v := .ty "int") rfl) pa_nil)))
    (pe_one (pe_not (pe_callB call_isD (by rfl) B.ii (by decide +kernel) (pa_cons (pv 0) (pa_cons (pe_bltn (by rfl) B.bool (by decide +kernel) (v := .ty "bool") rfl) pa_nil))))))), ?_⟩
  refine ⟨_, rfl, v, d, "int", _, rfl, hd, kit_int d, _, rfl, ?_⟩
  have q : Q (.bl (inD d)) H := q H (Same.refl H)
  cases hs : isIntB d with
  | false =>
    refine iteF ?_
    have e : inD d = false := by cases d <;> first | rfl | cases hs
    rw [e] at q
    exact q
  | true =>
    refine iteT ?_
    refine ⟨_, rfl, v, d, "bool", _, rfl, hd, kit_bool d, _, rfl, ?_⟩
    have e : inD d = !isBool d := by cases d <;> first | rfl | cases hs
    rw [e] at q
    exact q
end
/-! inputs: a dict from names to data or faults -/
def VaAt (K : PySem.W.Frag) (C : Addr) (H : Hp) (v : V) : Option PyData → Prop
  | some d => Dp K H v d
  | none => ∃ a r p, v = .ref a ∧ FaultAt C H a "read" r p
abbrev Ins := List (Str × Option PyData)
def InsV (K : PySem.W.Frag) (C : Addr) (H : Hp) (kvs : List (Key × V)) (gs : Ins) : Prop := Paired (fun (p : Key × V) (g : Str × Option PyData) => p.1 = Sum.inr g.1 ∧ VaAt K C H p.2 g.2) kvs gs
structure InAt (K : PySem.W.Frag) (C : Addr) (H : Hp) (a : Addr) (kvs : List (Key × V)) (gs : Ins) : Prop where
  at_ : H a = some (.dK kvs)
  vs : InsV K C H kvs gs
  nd : (gs.map (·.1)).Nodup
theorem VaAt.up {K : PySem.W.Frag} {C : Addr} {H H' : Hp} {v : V} {x : Option PyData} (s : Same H H') (h : VaAt K C H v x) : VaAt K C H' v x := by
  cases x with
  | some d => exact Dp.up s d v h
  | none =>
    obtain ⟨a, r, p, e, h⟩ := h
    exact ⟨a, r, p, e, FaultAt.up s h⟩
theorem Paired.imp {α β : Type} {R S : α → β → Prop} (f : ∀ a b, R a b → S a b) : ∀ {xs : List α} {ys : List β}, Paired R xs ys → Paired S xs ys
  | _, _, .nil => .nil
  | _, _, .cons h t => .cons (f _ _ h) (Paired.imp f t)
theorem InsV.up {K : PySem.W.Frag} {C : Addr} {H H' : Hp} {kvs : List (Key × V)} {gs : Ins} (s : Same H H') (h : InsV K C H kvs gs) : InsV K C H' kvs gs := Paired.imp (fun _ _ q => ⟨q.1, q.2.up s⟩) h
theorem InAt.up {K : PySem.W.Frag} {C : Addr} {H H' : Hp} {a : Addr} {kvs : List (Key × V)} {gs : Ins} (s : Same H H') (h : InAt K C H a kvs gs) : InAt K C H' a kvs gs := ⟨s _ _ h.at_, h.vs.up s, h.nd⟩
def getI (gs : Ins) (n : Str) : Option (Option PyData) := (gs.find? fun g => decide (g.1 = n)).map (·.2)
def putI (gs : Ins) (n : Str) (x : Option PyData) : Ins := if gs.any (fun g => decide (g.1 = n)) = true then gs.map (fun g => if g.1 = n then (g.1, x) else g) else gs ++ [(n, x)]
theorem InsV.get {K : PySem.W.Frag} {C : Addr} {H : Hp} {kvs : List (Key × V)} {gs : Ins} (h : InsV K C H kvs gs) (n : Str) : (valV kvs (.inr n) = none ∧ getI gs n = none) ∨ ∃ v x, valV kvs (.inr n) = some v ∧ getI gs n = some x ∧ VaAt K C H v x := by
  induction h with
  | nil => exact .inl ⟨rfl, rfl⟩
  | @cons p g ps gs h _ ih =>
    obtain ⟨e, hv⟩ := h
    obtain ⟨k, v⟩ := p
    have e : k = Sum.inr g.1 := e
    subst e
    by_cases hn : g.1 = n
    · refine .inr ⟨v, g.2, ?_, ?_, hv⟩
      · unfold valV
        rw [List.find?_cons_of_pos (by rw [hn]; simp)]
        rfl
      · unfold getI
        rw [List.find?_cons_of_pos (by simpa using hn)]
        rfl
    · have n1 : ¬ (Sum.inr g.1 : Key) = Sum.inr n := fun z => hn (Sum.inr.inj z)
      have e1 : valV ((Sum.inr g.1, v) :: ps) (Sum.inr n) = valV ps (.inr n) := by
        unfold valV
        rw [List.find?_cons_of_neg (by simpa using n1)]
      have e2 : getI (g :: gs) n = getI gs n := by
        unfold getI
        rw [List.find?_cons_of_neg (by simpa using hn)]
      rw [e1, e2]
      exact ih
/-- the layers along a place -/
def layM : PyData → List Nat → Option (List PyData)
  | d, [] => some [d]
  | .tuple ds, k :: ks => match ds[k]? with
    | some e => (layM e ks).map (PyData.tuple ds :: ·)
    | none => none
  | _, _ :: _ => none
theorem layM_no {d : PyData} {k : Nat} {ks : List Nat} (h : isTup d = false) : layM d (k :: ks) = none := by
  cases d with
  | tuple ds => cases h
  | none => rfl
  | bool b => rfl
  | int i => rfl
  | str x => rfl
  | list l => rfl
  | dict l => rfl
theorem layM_tup {ds : List PyData} {k : Nat} {ks : List Nat} {e : PyData} (h : ds[k]? = some e) : layM (.tuple ds) (k :: ks) = (layM e ks).map (PyData.tuple ds :: ·) := by
  show (match ds[k]? with
    | some e => (layM e ks).map (PyData.tuple ds :: ·)
    | none => none) = _
  rw [h]
/-- what is at a place -/
def atM : PyData → List Nat → Option PyData
  | d, [] => some d
  | .tuple ds, k :: ks => match ds[k]? with
    | some e => atM e ks
    | none => none
  | _, _ :: _ => none
theorem atM_lay : ∀ (ks : List Nat) (d : PyData), atM d ks = (layM d ks).bind List.getLast?
  | [], d => by cases d <;> rfl
  | k :: ks, d => by
    cases d with
    | tuple ds =>
      unfold atM layM
      cases h : ds[k]? with
      | none => rfl
      | some e =>
        simp only
        rw [atM_lay ks e]
        cases h2 : layM e ks with
        | none => rfl
        | some ls =>
          have ne : ls ≠ [] := by
            cases ks with
            | nil =>
              have : layM e [] = some [e] := by cases e <;> rfl
              rw [this] at h2
              cases h2
              exact fun z => nomatch z
            | cons k2 ks2 =>
              cases e with
              | tuple es =>
                unfold layM at h2
                cases h3 : es[k2]? with
                | none => rw [h3] at h2; cases h2
                | some e3 =>
                  rw [h3] at h2
                  simp only at h2
                  cases h4 : layM e3 ks2 with
                  | none => rw [h4] at h2; cases h2
                  | some l4 =>
                    rw [h4] at h2
                    cases h2
                    exact fun z => nomatch z
              | none => cases h2
              | bool b => cases h2
              | int i => cases h2
              | str x => cases h2
              | list l => cases h2
              | dict l => cases h2
          show _ = List.getLast? (PyData.tuple ds :: ls)
          rw [List.getLast?_cons_of_ne_nil ne] <;> rfl
    | none => rfl
    | bool b => rfl
    | int i => rfl
    | str x => rfl
    | list l => rfl
    | dict l => rfl
theorem layM_ne : ∀ {ks : List Nat} {d : PyData} {ls : List PyData}, layM d ks = some ls → ls ≠ []
  | [], d, ls, h => by
    have e : layM d [] = some [d] := by cases d <;> rfl
    rw [e] at h
    cases h
    exact fun z => nomatch z
  | k :: ks, d, ls, h => by
    cases ht : isTup d with
    | false =>
      rw [layM_no ht] at h
      cases h
    | true =>
      obtain ⟨ds, rfl⟩ : ∃ ds, d = .tuple ds := by
        cases d with
        | tuple ds => exact ⟨ds, rfl⟩
        | _ => cases ht
      cases h3 : ds[k]? with
      | none =>
        have e : layM (.tuple ds) (k :: ks) = none := by
          show (match ds[k]? with
            | some e => (layM e ks).map (PyData.tuple ds :: ·)
            | none => none) = _
          rw [h3]
        rw [e] at h
        cases h
      | some e3 =>
        rw [layM_tup h3] at h
        cases h4 : layM e3 ks with
        | none => rw [h4] at h; cases h
        | some l4 =>
          rw [h4] at h
          cases h
          exact fun z => nomatch z
def layI (gs : Ins) (n : Str) (ks : List Nat) : Option (List PyData) := match getI gs n with
  | some (some d) => layM d ks
  | _ => none
def atI2 (gs : Ins) (n : Str) (ks : List Nat) : Option PyData := match getI gs n with
  | some (some d) => atM d ks
  | _ => none
theorem atI2_lay (gs : Ins) (n : Str) (ks : List Nat) : atI2 gs n ks = (layI gs n ks).bind List.getLast? := by
  unfold atI2 layI
  cases getI gs n with
  | none => rfl
  | some x =>
    cases x with
    | none => rfl
    | some d => exact atM_lay ks d
/-- a place: a name, then indexes -/
def plV (n : Str) (ks : List Nat) : List V := V.str n :: ks.map fun k => V.int (k : Nat)
theorem cut_nil (H : Hp) : cut [] H = H := by
  funext b
  exact if_neg (by simp)
theorem tr_nil (H : Hp) : Tr [] H := fun b hb => (List.not_mem_nil hb).elim
abbrev sLayers : Stmt := topS 10
abbrev sValAt : Stmt := topS 11
theorem scLayers : FnScope ["inputs", "place", "layers", "index", "whole"] ["inputs", "place"] (defScope sLayers) := ⟨rfl, rfl, rfl, by decide +kernel, rfl, by decide +kernel, by decide +kernel⟩
theorem scValAt : FnScope ["inputs", "place"] ["inputs", "place"] (defScope sValAt) := ⟨rfl, rfl, rfl, by decide +kernel, rfl, by decide +kernel, by decide +kernel⟩
/-- how a call that may find no place leaves -/
def noPl (CE : Addr) (H : Hp) (b : Addr) (E : XK) : Prop := ∀ d H', Same H H' → H d = none → H' d = some (.xd [("place", .ref b)]) → E (.ref CE) (some d) H'
def spLayers (K : PySem.W.Frag) (C CE : Addr) : Sp := fun vs H Q E => ∃ a b kvs gs n ks, vs = [.ref a, .ref b] ∧ InAt K C H a kvs gs ∧ SqT K H b (plV n ks) ∧ ks.length ≤ 100 ∧
  (layI gs n ks = none → noPl CE H b E) ∧ (∀ ls, layI gs n ks = some ls → ∀ q vs H', Same H H' → H q = none → H' q = some (.lst vs) → DpAll K H' vs ls → Q (.ref q) H')
def spValAt (K : PySem.W.Frag) (C CE : Addr) : Sp := fun vs H Q E => ∃ a b kvs gs n ks, vs = [.ref a, .ref b] ∧ InAt K C H a kvs gs ∧ SqT K H b (plV n ks) ∧ ks.length ≤ 100 ∧
  (atI2 gs n ks = none → noPl CE H b E) ∧ (∀ d, atI2 gs n ks = some d → ∀ v H', Same H H' → Dp K H' v d → Q v H')
theorem cutV_tail (x : V) (xs : List V) : cutV (x :: xs) (some 1) none = xs := by
  rw [cutV_drop (x :: xs) (by decide) (by simp only [List.length_cons]; omega)]
  rfl
theorem seqT_putL {K : PySem.W.Frag} {H : Hp} {L c : Addr} {xs ys zs : List V} (hL : H L = some (.lst ys)) (h : SqT K H c xs) : SqT K (upd H L (.lst zs)) c xs := by
  rcases h with (h | ⟨o, h⟩) | h
  · exact .inl (.inl (by rw [upd_ne (ne_of h hL (by intro z; cases z))]; exact h))
  · exact .inl (.inr ⟨o, by rw [upd_ne (ne_of h hL (by intro z; cases z))]; exact h⟩)
  · exact .inr h
theorem upd_twice {H : Hp} {a : Addr} {o u : HO} : upd (upd H a o) a u = upd H a u := by
  funext b
  by_cases e : b = a
  · rw [e, upd_same, upd_same]
  · rw [upd_ne e, upd_ne e, upd_ne e]
theorem upd_back2 {H : Hp} {a : Addr} {u : HO} (h : H a = some u) : upd H a u = H := by
  funext b
  by_cases e : b = a
  · rw [e, upd_same, h]
  · rw [upd_ne e]
section
variable {P : Program} {w : World} {K : PySem.W.Frag} {mg : Str → Option Value} {base : Heap} {f C fE CE fI fL : Addr} {fd dI dL : FuncData}
theorem ok_layers {k : Nat} (F : Fun K "layers_at" "layers_at" sLayers f fd) (B : Bi mg) (T : FaC K mg C fE) (c4 : EC P w K mg base "NoPlace" ["place"] ["place"] CE fI dI) : FnOk P w K mg base (L2.CX P w) (k + 3) f fd ["inputs", "place"] (spLayers K C CE) := by
  refine F.okX scLayers (fun vs H Q E h => ?_) (fun cdv A outer s H vs Q E hr h => ?_)
  · obtain ⟨a, b, kvs, gs, n, ks, rfl, _⟩ := h
    rfl
  obtain ⟨a, b, kvs, gs, n, ks, rfl, hI, hb, hk, qN, qS⟩ := h
  have hr2 : Room 2 _ := hr.mono (by omega)
  have hu := hu_of hr
  refine ⟨_, pss_cons (ps_if (PW.pt (pw_or (pt_cmp (pc_dnotin hu (pe_ix ix_tup (pv 1) pe_int (fun _ _ => rfl)) (pv 0)))
        (pw_or1 (pt_val (pe_callB call_isi (by rfl) B.ii b_ii (pa_cons (pe_dget hu (pv 0) (pe_ix ix_tup (pv 1) pe_int (fun _ _ => rfl)) (fun _ _ => rfl)) (pa_cons (pe_glob (by rfl) T.mg (v := .ref C) rfl) pa_nil)))))))
      (pss_one (ps_raise rfl (takes_of rfl rfl rfl rfl) (pmk_exK c4.T c4.iC c4.tI c4.ok hr2 c4.bd pass0 (by rfl) c4.mg (pa_cons (pv 1) pa_nil)))) pss_nil)
    (pss_cons (ps_set (i := 2) scLayers.nd rfl (.inl rfl) (pe_lst (pa_cons (pe_dget hu (pv 0) (pe_ix ix_tup (pv 1) pe_int (fun _ _ => rfl)) (fun _ _ => rfl)) pa_nil)))
    (pss_cons (ps_for (passes_of rfl) rfl (pi_tup (pe_slice sl_tupU (pv 1) (po_some pe_int) po_none)) (pg_name (i := 3) scLayers.nd rfl (.inl rfl))
      (pss_cons (ps_set (i := 4) scLayers.nd rfl (.inl rfl) (pe_ix ix_list (pv 2) (pe_un un_neg pe_int) (fun _ _ => rfl)))
      (pss_cons (ps_if (PW.pt (pw_or (pt_not (pt_val (pe_callB call_isD (by rfl) B.ii b_ii (pa_cons (pv 4) (pa_cons (pe_bltn (by rfl) B.tup (by decide +kernel) (v := .ty "tuple") rfl) pa_nil)))))
          (pw_or1 (pt_cmpR op_ge (pv 3) (pe_callB call_len_seq (by rfl) B.len PySem.boot_len (pa_cons (pv 4) pa_nil)) (nomark _)))))
        (pss_one (ps_raise rfl (takes_of rfl rfl rfl rfl) (pmk_exK c4.T c4.iC c4.tI c4.ok hr2 c4.bd pass0 (by rfl) c4.mg (pa_cons (pv 1) pa_nil)))) pss_nil)
      (pss_one (ps_expr (pe_bm PySem.F.plainAttrs_list PySem.F.slot_list_append PySem.F.type_list_append mt_append (pv 2) (pa_cons (pe_ix ix_tup (pv 4) (pv 3) (fun _ _ => rfl)) pa_nil)))))))
    (pss_one (ps_ret (pv 2))))), ?_⟩
  -- an error leaves
  have out : layI gs n ks = none → ∀ (H3 : Hp) (a1 : Addr), Same H H3 → H3 a1 = none → ∀ (x1 : Addr) (H4 : Hp), H3 x1 = none → (∀ b v, b ≠ a1 → upd H3 a1 (exo a1 CE none) b = some v → H4 b = some v) →
      E (.ref CE) (some x1) (upd (L2.del H4 a1) x1 (.xd [("place", .ref b)])) := fun en H3 a1 s3 ha x1 H4 hx1 k4 =>
    qN en x1 _ (s3.trans (flown ha hx1 k4)) (s3.free hx1) upd_same
  have sl0 : atI (plV n ks) 0 = some (V.str n) := atI_nat (j := 0) rfl
  refine ⟨_, rfl, b, _, 0, _, rfl, rfl, hb, sl0, _, rfl, a, _, rfl, DGet.k (k := Sum.inr n) hI.at_, _, rfl, ?_⟩
  rcases hI.vs.get n with ⟨e1, e2⟩ | ⟨v0, x0, e1, e2, hv0⟩
  · rw [e1]
    refine iteT (iteT ?_)
    have en : layI gs n ks = none := by
      unfold layI
      rw [e2]
    refine ⟨_, rfl, by (show 1 ≤ 1000); decide, fun a1 h1 => ⟨a1, [.ref b], rfl, rfl, upd_same, fun x1 H5 n1 e1' E1 k1 => ⟨rfl, x1, [("place", .ref b)], E1.1, E1.2, by (rw [upd_ne e1'] at n1; exact n1), ?_⟩⟩⟩
    exact out en H a1 (Same.refl H) h1 x1 H5 (by rw [upd_ne e1'] at n1; exact n1) k1
  · rw [e1]
    refine iteF ?_
    -- an error, raised at a heap that has grown
    cases x0 with
    | none =>
      obtain ⟨af, fr, fp, rfl, dx, hf⟩ := hv0
      have en : layI gs n ks = none := by
        unfold layI
        rw [e2]
      refine ⟨_, rfl, _, rfl, b, _, 0, _, rfl, rfl, hb, sl0, a, .ref af, rfl, (by rw [← e1]; exact DGet.k (k := Sum.inr n) hI.at_), .ref af, .ref C, _, _, true, rfl, .own C, .base (.ins hf T.o.c.cl T.o.c.ha T.o.c.hn T.o.c.htk T.o.c.hm), T.o.c.me, _, rfl, iteT ?_⟩
      refine ⟨_, rfl, by (show 1 ≤ 1000); decide, fun a1 h1 => ⟨a1, [.ref b], rfl, rfl, upd_same, fun x1 H5 n1 e1' E1 k1 => ⟨rfl, x1, [("place", .ref b)], E1.1, E1.2, by (rw [upd_ne e1'] at n1; exact n1), ?_⟩⟩⟩
      exact out en H a1 (Same.refl H) h1 x1 H5 (by rw [upd_ne e1'] at n1; exact n1) k1
    | some d0 =>
      have eL : layI gs n ks = layM d0 ks := by
        unfold layI
        rw [e2]
      refine ⟨_, rfl, _, rfl, b, _, 0, _, rfl, rfl, hb, sl0, a, v0, rfl, (by rw [← e1]; exact DGet.k (k := Sum.inr n) hI.at_), v0, .ref C, _, _, false, rfl, .own C, tyD hv0, (T.o.of hv0).1, _, rfl, iteF ?_⟩
      refine ⟨_, rfl, _, rfl, b, _, 0, _, rfl, rfl, hb, sl0, a, v0, rfl, (by rw [← e1]; exact DGet.k (k := Sum.inr n) hI.at_), few (by simp), fun L hL => ?_⟩
      have s1 : Same H (upd H L (.lst [v0])) := same_new hL _
      refine ⟨_, rfl, 1, rfl, b, plV n ks, [], rfl, by (rw [cut_nil]; exact seqT_up s1 hb), tr_nil _, fun c H2 s2 hc => ?_⟩
      rw [cut_nil, show plV n ks = V.str n :: ks.map (fun k : Nat => V.int k) from rfl, cutV_tail] at hc
      have hL2 : H2 L = some (.lst [v0]) := s2 _ _ upd_same
      have s12 := s1.trans s2
      have sP : ∀ vs : List V, Same H (upd H2 L (.lst vs)) := fun vs b' o z => by
        rw [upd_ne (ne_of_none z hL)]
        exact s12 _ _ z
      refine ⟨c, rfl, ⟨_, hc⟩, for_it (walk_tup (K := K) (a := c) (xs := ks.map fun k : Nat => V.int k)) (fun i σ H3 => ∃ o3 o4 vs pre dc, σ = [some (.ref a), some (.ref b), some (.ref L), o3, o4] ∧ H3 = upd H2 L (.lst vs) ∧ DpAll K H vs (pre ++ [dc]) ∧ vs.length = i + 1 ∧
          layM d0 ks = (layM dc (ks.drop i)).map (pre ++ ·)) ⟨none, none, [v0], [], d0, rfl, (upd_back2 hL2).symm, .cons hv0 .nil, rfl, by simp⟩ ?_ ?_ ?_⟩
      · rintro i σ H3 hi ⟨o3, o4, vs, pre, dc, rfl, rfl, _⟩
        exact seqT_putL hL2 hc
      · rintro i y σ H3 H3' hi ⟨o3, o4, vs, pre, dc, rfl, rfl, g1, g2, g3⟩ ⟨rfl, hy⟩
        rw [List.length_map] at hi
        rw [List.getElem?_map, List.getElem?_eq_getElem hi, Option.map_some] at hy
        cases hy
        have dr : ks.drop i = ks[i] :: ks.drop (i + 1) := List.drop_eq_getElem_cons hi
        rw [dr] at g3
        obtain ⟨xs', vl, ds', dl, ev, ed, gA, gB⟩ := DpAll.last g1 (by intro z; rw [z] at g2; simp at g2)
        have ed := List.append_inj' ed rfl
        obtain ⟨e3, e4⟩ := ed
        cases e4
        subst e3 ev
        have hL3 : (upd H2 L (.lst (xs' ++ [vl]))) L = some (.lst (xs' ++ [vl])) := upd_same
        have gB3 := Dp.up (sP (xs' ++ [vl])) _ _ gB
        refine ⟨_, rfl, 1, rfl, L, _, -1, _, rfl, rfl, SqL.of hL3, atI_last _ _, _, rfl, vl, dc, "tuple", _, rfl, gB3, kit_tup dc, _, rfl, ?_⟩
        cases ht : isTup dc with
        | false =>
          have en : layI gs n ks = none := by
            rw [eL, g3, layM_no ht]
            rfl
          refine iteT (iteT ?_)
          refine ⟨_, rfl, by (show 1 ≤ 1000); decide, fun a1 h1 => ⟨a1, [.ref b], rfl, rfl, upd_same, fun x1 H5 n1 e1' E1 k1 => ⟨rfl, x1, [("place", .ref b)], E1.1, E1.2, by (rw [upd_ne e1'] at n1; exact n1), ?_⟩⟩⟩
          exact out en _ a1 (sP _) h1 x1 H5 (by rw [upd_ne e1'] at n1; exact n1) k1
        | true =>
          obtain ⟨wa, xs, ds, rfl, rfl, hw, gw⟩ := tup_of gB ht
          have lw := DpAll.len gw
          have hw3 := seqT_up (sP (xs' ++ [V.ref wa])) hw
          refine iteF ⟨_, rfl, _, rfl, wa, _, rfl, .inr hw3, _, _, rfl, rfl, _, rfl, ite2 (fun c1 => ?_) (fun c1 => ?_)⟩
          · have c1 : ((xs.length : Int) ≤ (ks[i] : Int)) := of_decide_eq_true c1
            have en : layI gs n ks = none := by
              rw [eL, g3]
              unfold layM
              rw [List.getElem?_eq_none (by omega)]
              rfl
            refine ⟨_, rfl, by (show 1 ≤ 1000); decide, fun a1 h1 => ⟨a1, [.ref b], rfl, rfl, upd_same, fun x1 H5 n1 e1' E1 k1 => ⟨rfl, x1, [("place", .ref b)], E1.1, E1.2, by (rw [upd_ne e1'] at n1; exact n1), ?_⟩⟩⟩
            exact out en _ a1 (sP _) h1 x1 H5 (by rw [upd_ne e1'] at n1; exact n1) k1
          · have c1 : ¬ ((xs.length : Int) ≤ (ks[i] : Int)) := of_decide_eq_false (Bool.eq_false_iff.mpr c1)
            have hlt : ks[i] < xs.length := by omega
            have hx : xs[ks[i]]? = some xs[ks[i]] := List.getElem?_eq_getElem hlt
            obtain ⟨e, he, hde⟩ := DpAll.get gw hx
            refine ⟨_, rfl, .inl ⟨rfl, _, SqL.of hL3⟩, _, rfl, _, rfl, wa, _, _, _, rfl, rfl, hw3, atI_nat hx, L, _, _, rfl, rfl, hL3, ?_, ?_⟩
            · exact few1 (by omega)
            refine ⟨_, _, xs' ++ [.ref wa] ++ [xs[ks[i]]], pre ++ [.tuple ds], e, rfl, by rw [upd_twice], DpAll.app g1 (.cons hde .nil), by (rw [List.length_append, g2]; rfl), ?_⟩
            rw [g3, layM_tup he]
            cases layM e (ks.drop (i + 1)) with
            | none => rfl
            | some l => simp
      · rintro σ H3 ⟨o3, o4, vs, pre, dc, rfl, rfl, g1, g2, g3⟩
        rw [List.length_map, List.drop_length] at g3
        have e5 : layM dc [] = some [dc] := by cases dc <;> rfl
        rw [e5] at g3
        exact ⟨_, rfl, qS _ (eL.trans g3) L vs _ (sP vs) hL upd_same (Dp.ups (sP vs) _ _ g1)⟩
theorem ok_valAt {k : Nat} (F : Fun K "value_at" "value_at" sValAt f fd) (GL : FnOk P w K mg base (L2.CX P w) 3 fL dL ["inputs", "place"] (spLayers K C CE)) (kL : PySem.W.keepIn K (.ref fL) = true) (bL : Binds K dL ["inputs", "place"] []) (mL : mg "layers_at" = some (.ref fL)) :
    FnOk P w K mg base (L2.CX P w) (k + 4) f fd ["inputs", "place"] (spValAt K C CE) := by
  refine F.okX scValAt (fun vs H Q E h => ?_) (fun cdv A outer s H vs Q E hr h => ?_)
  · obtain ⟨a, b, kvs, gs, n, ks, rfl, _⟩ := h
    rfl
  obtain ⟨a, b, kvs, gs, n, ks, rfl, hI, hb, hk, qN, qS⟩ := h
  have hr3 : Room 3 _ := hr.mono (by omega)
  have e0 := atI2_lay gs n ks
  refine ⟨_, pss_one (ps_ret (pe_ix ix_list (pe_callS GL hr3 (by rfl) mL kL bL (fun σ => passAt (takes_of rfl rfl rfl rfl) σ) (pa_cons (pv 0) (pa_cons (pv 1) pa_nil))) (pe_un un_neg pe_int) (fun _ _ => rfl))), ?_⟩
  refine ⟨_, rfl, _, rfl, a, b, kvs, gs, n, ks, rfl, hI, hb, hk, fun en => ?_, fun ls el q vs H1 s1 hq h1 hd => ?_⟩
  · intro d H1 s1 h1 h2
    exact qN (by rw [e0, en]; rfl) d H1 s1 h1 h2
  · rw [el] at e0
    have ne : vs ≠ [] := by
      intro z
      subst z
      cases hd
      unfold layI at el
      cases h2 : getI gs n with
      | none => rw [h2] at el; cases el
      | some x =>
        rw [h2] at el
        cases x with
        | none => cases el
        | some d =>
          have el : layM d ks = some [] := el
          have := layM_ne el
          exact this rfl
    obtain ⟨xs', vl, ds', dl, ev, ed, gA, gB⟩ := DpAll.last hd ne
    subst ev ed
    refine ⟨1, rfl, q, _, -1, vl, rfl, rfl, SqL.of h1, atI_last _ _, qS dl ?_ vl H1 s1 gB⟩
    rw [e0]
    simp
end
/-! a part replaced -/
def putM : PyData → List Nat → PyData → PyData
  | _, [], x => x
  | .tuple ds, k :: ks, x => match ds[k]? with
    | some e => .tuple (ds.take k ++ putM e ks x :: ds.drop (k + 1))
    | none => .tuple ds
  | d, _ :: _, _ => d
theorem putM_nil (d x : PyData) : putM d [] x = x := by cases d <;> rfl
theorem putM_tup {ds : List PyData} {k : Nat} {ks : List Nat} {e : PyData} (x : PyData) (h : ds[k]? = some e) : putM (.tuple ds) (k :: ks) x = .tuple (ds.take k ++ putM e ks x :: ds.drop (k + 1)) := by
  show (match ds[k]? with
    | some e => PyData.tuple (ds.take k ++ putM e ks x :: ds.drop (k + 1))
    | none => .tuple ds) = _
  rw [h]
/-- the layers, one by one -/
theorem layM_all : ∀ {ks : List Nat} {d : PyData} {ls : List PyData}, layM d ks = some ls → ls.length = ks.length + 1 ∧ ls[0]? = some d ∧ ∀ (j k : Nat), ks[j]? = some k → ∃ ds e, ls[j]? = some (.tuple ds) ∧ ds[k]? = some e ∧ ls[j + 1]? = some e
  | [], d, ls, h => by
    have e : layM d [] = some [d] := by cases d <;> rfl
    rw [e] at h
    cases h
    exact ⟨rfl, rfl, fun j k z => by simp at z⟩
  | k :: ks, d, ls, h => by
    cases ht : isTup d with
    | false =>
      rw [layM_no ht] at h
      cases h
    | true =>
      obtain ⟨ds, rfl⟩ : ∃ ds, d = .tuple ds := by
        cases d with
        | tuple ds => exact ⟨ds, rfl⟩
        | _ => cases ht
      cases h3 : ds[k]? with
      | none =>
        have e : layM (.tuple ds) (k :: ks) = none := by
          show (match ds[k]? with
            | some e => (layM e ks).map (PyData.tuple ds :: ·)
            | none => none) = _
          rw [h3]
        rw [e] at h
        cases h
      | some e3 =>
        rw [layM_tup h3] at h
        cases h4 : layM e3 ks with
        | none => rw [h4] at h; cases h
        | some l4 =>
          rw [h4] at h
          cases h
          obtain ⟨a1, a2, a3⟩ := layM_all h4
          refine ⟨by rw [List.length_cons, a1, List.length_cons], rfl, fun j k2 z => ?_⟩
          cases j with
          | zero =>
            have z : some k = some k2 := by simpa using z
            cases z
            exact ⟨ds, e3, rfl, h3, by simpa using a2⟩
          | succ j =>
            obtain ⟨ds2, e2, b1, b2, b3⟩ := a3 j k2 (by simpa using z)
            exact ⟨ds2, e2, by simpa using b1, b2, by simpa using b3⟩
theorem layM_nod : ∀ {ks : List Nat} {d : PyData} {ls : List PyData}, layM d ks = some ls → ∀ e ∈ ls, nod e ≤ nod d
  | [], d, ls, h, e, m => by
    have e1 : layM d [] = some [d] := by cases d <;> rfl
    rw [e1] at h
    cases h
    rw [List.mem_singleton.mp m]
    exact Nat.le_refl _
  | k :: ks, d, ls, h, e, m => by
    cases ht : isTup d with
    | false =>
      rw [layM_no ht] at h
      cases h
    | true =>
      obtain ⟨ds, rfl⟩ : ∃ ds, d = .tuple ds := by
        cases d with
        | tuple ds => exact ⟨ds, rfl⟩
        | _ => cases ht
      cases h3 : ds[k]? with
      | none =>
        have e1 : layM (.tuple ds) (k :: ks) = none := by
          show (match ds[k]? with
            | some e => (layM e ks).map (PyData.tuple ds :: ·)
            | none => none) = _
          rw [h3]
        rw [e1] at h
        cases h
      | some e3 =>
        rw [layM_tup h3] at h
        cases h4 : layM e3 ks with
        | none => rw [h4] at h; cases h
        | some l4 =>
          rw [h4] at h
          cases h
          rcases List.mem_cons.mp m with z | z
          · rw [z]
            exact Nat.le_refl _
          · have a1 := layM_nod h4 e z
            have a2 := nods_mem (List.mem_of_getElem? h3)
            simp only [nod]
            omega
theorem InsV.ndk {K : PySem.W.Frag} {C : Addr} {H : Hp} {kvs : List (Key × V)} {gs : Ins} (h : InsV K C H kvs gs) : (gs.map (·.1)).Nodup → (kvs.map (·.1)).Nodup := by
  have key : kvs.map (·.1) = gs.map fun g => (Sum.inr g.1 : Key) := by
    induction h with
    | nil => rfl
    | cons h _ ih => rw [List.map_cons, List.map_cons, ih, h.1]
  intro nd
  rw [key]
  have e : (gs.map fun g => (Sum.inr g.1 : Key)) = (gs.map (·.1)).map (Sum.inr : Str → Key) := by
    rw [List.map_map]
    rfl
  rw [e]
  exact nodup_inr nd
theorem InsV.keyAt {K : PySem.W.Frag} {C : Addr} {H : Hp} {kvs : List (Key × V)} {gs : Ins} (h : InsV K C H kvs gs) : ∀ p ∈ kvs, ∃ x, p.1 = Sum.inr x := by
  induction h with
  | nil => exact fun _ m => nomatch m
  | cons h _ ih =>
    intro p m
    rcases List.mem_cons.mp m with e | m
    · subst e
      exact ⟨_, h.1⟩
    · exact ih p m
abbrev sWith : Stmt := topS 12
theorem scWith : FnScope ["inputs", "place", "value", "changed", "layers", "step", "whole", "index", "name"] ["inputs", "place", "value"] (defScope sWith) := ⟨rfl, rfl, rfl, by decide +kernel, rfl, by decide +kernel, by decide +kernel⟩
/-- there is something at the place that may be replaced -/
def okP (gs : Ins) (n : Str) (ks : List Nat) : Bool := if ks.isEmpty then (getI gs n).isSome else (layI gs n ks).isSome
/-- the value of the name behind that -/
def newM (gs : Ins) (n : Str) (ks : List Nat) (x : PyData) : PyData := match getI gs n with
  | some (some d) => putM d ks x
  | _ => x
def spWith (K : PySem.W.Frag) (C CE : Addr) : Sp := fun vs H Q E => ∃ a b v kvs gs n ks x, vs = [.ref a, .ref b, v] ∧ InAt K C H a kvs gs ∧ SqT K H b (plV n ks) ∧ ks.length ≤ 100 ∧ kvs.length ≤ 100 ∧ Dp K H v x ∧ gd x = true ∧ (∀ d, getI gs n = some (some d) → nod d ≤ 100000) ∧
  (okP gs n ks = false → noPl CE H b E) ∧ (okP gs n ks = true → ∀ q u H', Same H H' → H q = none → H' q = some (.dK (putK kvs (.inr n) u)) → Dp K H' u (newM gs n ks x) → Q (.ref q) H')
section
variable {P : Program} {w : World} {K : PySem.W.Frag} {mg : Str → Option Value} {base : Heap} {f C fE CE fI fL : Addr} {fd dI dL : FuncData}
theorem ok_with {k : Nat} (F : Fun K "with_part" "with_part" sWith f fd) (B : Bi mg) (c4 : EC P w K mg base "NoPlace" ["place"] ["place"] CE fI dI) (GL : FnOk P w K mg base (L2.CX P w) 3 fL dL ["inputs", "place"] (spLayers K C CE)) (kL : PySem.W.keepIn K (.ref fL) = true)
    (bL : Binds K dL ["inputs", "place"] []) (mL : mg "layers_at" = some (.ref fL)) : FnOk P w K mg base (L2.CX P w) (k + 4) f fd ["inputs", "place", "value"] (spWith K C CE) := by
  refine F.okX scWith (fun vs H Q E h => ?_) (fun cdv A outer s H vs Q E hr h => ?_)
  · obtain ⟨a, b, v, kvs, gs, n, ks, x, rfl, _⟩ := h
    rfl
  obtain ⟨a, b, v, kvs, gs, n, ks, x, rfl, hI, hb, hk, hk2, hv, hx, hd, qN, qS⟩ := h
  have hr2 : Room 2 _ := hr.mono (by omega)
  have hr3 : Room 3 _ := hr.mono (by omega)
  have hu := hu_of hr
  refine ⟨_, pss_cons (ps_lock (ps_setDc (i := 3) (own := [("name", 8)]) (g := gName 8) (by rfl) scWith.nd rfl rfl (sw_dict rfl rfl rfl (by decide +kernel)) (pi_keys (pv 0))
        (blkOk_by (own := [("name", 8)]) (N := ["inputs", "place", "value", "changed", "layers", "step", "whole", "index", "name"]) (sc := defScope sWith) (by decide +kernel))
        (fun _ _ _ _ _ => pg_name (i := 8) scWith.nd rfl (Or.inl rfl)) (fun _ _ _ _ _ => pts_nil) (fun _ _ _ _ _ => pv 8) (fun _ _ _ _ _ => pe_dget hu (pv 0) (pv 8) (fun _ _ => rfl))))
    (pss_cons (ps_if (pt_cmpR op_eq (pe_callB call_len_seq (by rfl) B.len PySem.boot_len (pa_cons (pv 1) pa_nil)) pe_int (nomark _))
      (pss_cons (ps_if (pt_cmp (pc_dnotin hu (pe_ix ix_tup (pv 1) pe_int (fun _ _ => rfl)) (pv 0)))
        (pss_one (ps_raise rfl (takes_of rfl rfl rfl rfl) (pmk_exK c4.T c4.iC c4.tI c4.ok hr2 c4.bd pass0 (by rfl) c4.mg (pa_cons (pv 1) pa_nil)))) pss_nil)
      (pss_cons (ps_dput hu (pv 3) (pe_ix ix_tup (pv 1) pe_int (fun _ _ => rfl)) (pv 2) rfl)
      (pss_one (ps_ret (pv 3))))) pss_nil)
    (pss_cons (ps_set (i := 4) scWith.nd rfl (.inl rfl) (pe_callS GL hr3 (by rfl) mL kL bL (fun σ => passAt (takes_of rfl rfl rfl rfl) σ) (pa_cons (pv 0) (pa_cons (pv 1) pa_nil))))
    (pss_cons (ps_for (passes_of rfl) rfl (pi_range3 (by rfl) B.rng (pa_cons (pe_op op_sub (pe_callB call_len_seq (by rfl) B.len PySem.boot_len (pa_cons (pv 1) pa_nil)) pe_int) (pa_cons pe_int (pa_cons (pe_un un_neg pe_int) pa_nil)))) (pg_name (i := 5) scWith.nd rfl (.inl rfl))
      (pss_cons (ps_set (i := 6) scWith.nd rfl (.inl rfl) (pe_ix ix_list (pv 4) (pe_op op_sub (pv 5) pe_int) (fun _ _ => rfl)))
      (pss_cons (ps_set (i := 7) scWith.nd rfl (.inl rfl) (pe_ix ix_tup (pv 1) (pv 5) (fun _ _ => rfl)))
      (pss_one (ps_set (i := 2) scWith.nd rfl (.inl rfl) (pe_tup (StX.pa_star (pe_slice sl_tupU (pv 6) po_none (po_some (pv 7))) (pa_cons (pv 2) (StX.pa_star (pe_slice sl_tupU (pv 6) (po_some (pe_op op_add (pv 7) pe_int)) po_none) pa_nil)))))))))
    (pss_cons (ps_dput hu (pv 3) (pe_ix ix_tup (pv 1) pe_int (fun _ _ => rfl)) (pv 2) rfl)
    (pss_one (ps_ret (pv 3))))))), ?_⟩
  have nd := hI.vs.ndk hI.nd
  have out : okP gs n ks = false → ∀ (H3 : Hp) (a1 : Addr), Same H H3 → H3 a1 = none → ∀ (x1 : Addr) (H4 : Hp), H3 x1 = none → (∀ b v, b ≠ a1 → upd H3 a1 (exo a1 CE none) b = some v → H4 b = some v) →
      E (.ref CE) (some x1) (upd (L2.del H4 a1) x1 (.xd [("place", .ref b)])) := fun en H3 a1 s3 ha x1 H4 hx1 k4 =>
    qN en x1 _ (s3.trans (flown ha hx1 k4)) (s3.free hx1) upd_same
  have sl0 : atI (plV n ks) 0 = some (V.str n) := atI_nat (j := 0) rfl
  refine ⟨a, .dK kvs, hI.at_, trivial, fun od => ⟨_, rfl, a, od, rfl, .inl ⟨kvs, upd_same, fun D hD => dc_it (walk_keys (d := a) (o := od)) (fun i H2 => H2 = upd (upd H a (.frz od (.dK kvs))) D (.dK (kvs.take i))) rfl ?_ ?_ ?_⟩⟩⟩
  · rintro i H2 hi rfl
    rw [upd_ne (ne_of_none upd_same hD), upd_same]
  · rintro i y H2 H3 hi rfl ⟨rfl, kk, vv, hkv, rfl⟩
    refine ⟨rfl, _, rfl, _, rfl, _, rfl, a, vv, rfl, .inl ⟨kvs, kk, .inr ⟨od, by rw [upd_ne (ne_of_none upd_same hD), upd_same]⟩, rfl, (valV_at nd hkv).symm⟩, kvs.take i, kk, rfl, upd_same, few1 (by rw [List.length_take]; omega), ?_⟩
    rw [upd_twice, putK_new (take_fresh nd hkv), get_take hkv]
  · rintro H2 rfl
    have naD : a ≠ D := ne_of_none upd_same hD
    have hD0 : H D = none := by
      rw [upd_ne naD.symm] at hD
      exact hD
    refine ⟨by rw [upd_ne naD, upd_same], ?_⟩
    have eH : upd (upd (upd H a (.frz od (.dK kvs))) D (.dK (kvs.take kvs.length))) a (.dK kvs) = upd H D (.dK kvs) := by
      rw [List.take_length]
      funext c
      by_cases e1 : c = a
      · rw [e1, upd_same, upd_ne naD, hI.at_]
      · by_cases e2 : c = D
        · rw [e2, upd_ne naD.symm, upd_same, upd_same]
        · rw [upd_ne e1, upd_ne e2, upd_ne e1, upd_ne e2]
    rw [eH]
    have s1 : Same H (upd H D (.dK kvs)) := same_new hD0 _
    have hb1 := seqT_up s1 hb
    have hI1 := hI.up s1
    have hv1 := Dp.up s1 _ _ hv
    have hD1 : (upd H D (.dK kvs)) D = some (.dK kvs) := upd_same
    generalize upd H D (.dK kvs) = H1 at s1 hb1 hI1 hv1 hD1
    refine ⟨_, rfl, b, _, rfl, .inr hb1, rfl, _, rfl, ite2 (fun c1 => ?_) (fun c1 => ?_)⟩
    · have eks : ks = [] := by
        have z := V.int.inj (of_decide_eq_true c1)
        have l : (plV n ks).length = ks.length + 1 := by simp [plV]
        rw [l] at z
        exact List.length_eq_zero_iff.mp (by omega)
      subst eks
      refine ⟨_, rfl, b, _, 0, _, rfl, rfl, hb1, sl0, _, rfl, a, _, rfl, DGet.k (k := Sum.inr n) hI1.at_, _, rfl, ?_⟩
      rcases hI.vs.get n with ⟨e1, e2⟩ | ⟨v0, x0, e1, e2, hv0⟩
      · rw [e1]
        refine iteT ?_
        have en : okP gs n [] = false := by
          show (getI gs n).isSome = false
          rw [e2]
          rfl
        refine ⟨_, rfl, by (show 1 ≤ 1000); decide, fun a1 h1 => ⟨a1, [.ref b], rfl, rfl, upd_same, fun x1 H5 n1 e1' E1 k1 => ⟨rfl, x1, [("place", .ref b)], E1.1, E1.2, by (rw [upd_ne e1'] at n1; exact n1), ?_⟩⟩⟩
        exact out en H1 a1 s1 h1 x1 H5 (by rw [upd_ne e1'] at n1; exact n1) k1
      · rw [e1]
        refine iteF ?_
        have eo : okP gs n [] = true := by
          show (getI gs n).isSome = true
          rw [e2]
          rfl
        have en : newM gs n [] x = x := by
          unfold newM
          rw [e2]
          cases x0 with
          | none => rfl
          | some d => exact putM_nil d x
        have s2 : Same H (upd H1 D (.dK (putK kvs (.inr n) v))) := fun c o z => by
          rw [upd_ne (ne_of_none z hD0)]
          exact s1 _ _ z
        refine ⟨_, rfl, _, rfl, _, rfl, b, _, 0, _, rfl, rfl, hb1, sl0, D, _, rfl, DPut.k (k := Sum.inr n) hD1 (few1 (by omega)), _, rfl, qS eo D v _ s2 hD0 upd_same ?_⟩
        rw [en]
        exact Dp.up s2 _ _ hv
    · have kne : ks ≠ [] := by
        intro z
        subst z
        have c1 := of_decide_eq_false (Bool.eq_false_iff.mpr c1)
        exact c1 rfl
      have ke : ks.isEmpty = false := by
        cases ks with
        | nil => exact absurd rfl kne
        | cons _ _ => rfl
      have eok : okP gs n ks = (layI gs n ks).isSome := by
        unfold okP
        rw [ke]
        rfl
      refine ⟨_, rfl, _, rfl, a, b, kvs, gs, n, ks, rfl, hI1, hb1, hk, fun en => ?_, fun ls el L vs H2 s2 hL h2 hd2 => ?_⟩
      · intro d H2 s2 h1 h2
        exact qN (by rw [eok, en]; rfl) d H2 (s1.trans s2) (s1.free h1) h2
      obtain ⟨d0, eg, em⟩ : ∃ d0, getI gs n = some (some d0) ∧ layM d0 ks = some ls := by
        unfold layI at el
        cases q : getI gs n with
        | none =>
          rw [q] at el
          cases el
        | some y =>
          rw [q] at el
          cases y with
          | none => cases el
          | some d => exact ⟨d, rfl, el⟩
      obtain ⟨l1, l2, l3⟩ := layM_all em
      have lp : (plV n ks).length = ks.length + 1 := by simp [plV]
      have s12 := s1.trans s2
      have hb2 := seqT_up s12 hb
      have hv2 := Dp.up s12 _ _ hv
      have lv := DpAll.len hd2
      have rg : RgC ((((plV n ks).length : Nat) : Int) - 1) 0 (-1) ks.length := by
        have z := RgC.neg (i := (((plV n ks).length : Nat) : Int) - 1) (j := 0) (by omega) (by omega) (by decide) (by decide)
        rw [show ((((plV n ks).length : Nat) : Int) - 1 - 0).toNat = ks.length from by omega] at z
        exact z
      refine ⟨_, rfl, b, _, rfl, .inr hb2, _, _, rfl, rfl, 1, rfl, _, _, _, ks.length, rfl, rg, for_rangeC (n := ks.length) (fun i σ H3 => ∃ o5 o6 o7 o8 vi e, σ = [some (.ref a), some (.ref b), some vi, some (.ref D), some (.ref L), o5, o6, o7, o8] ∧ Same H2 H3 ∧ ls[ks.length - i]? = some e ∧ Dp K H3 vi (putM e (ks.drop (ks.length - i)) x))
        ⟨none, none, none, none, v, ls[ks.length]'(by omega), rfl, Same.refl _, List.getElem?_eq_getElem (by omega), by (rw [Nat.sub_zero, List.drop_length, putM_nil]; exact hv2)⟩ ?_ ?_⟩
      · rintro i σ H3 hi ⟨o5, o6, o7, o8, vi, e, rfl, s3, he, hvi⟩
        obtain ⟨j, ej⟩ : ∃ j, ks.length - i = j + 1 := ⟨ks.length - (i + 1), by omega⟩
        rw [ej] at he hvi
        have hj : j < ks.length := by omega
        have hkj : ks[j]? = some ks[j] := List.getElem?_eq_getElem hj
        obtain ⟨ds, e', b1, b2, b3⟩ := l3 j _ hkj
        rw [he] at b3
        cases b3
        have hjv : j < vs.length := by omega
        obtain ⟨dj, f1, f2⟩ := DpAll.get hd2 (List.getElem?_eq_getElem hjv)
        rw [b1] at f1
        cases f1
        obtain ⟨wa, xs, ds', ew, ed, hw, gw⟩ := tup_of f2 rfl
        cases ed
        have hL3 : H3 L = some (.lst vs) := s3 _ _ h2
        have hb3 := seqT_up s3 hb2
        have lw := DpAll.len gw
        have lk := (List.getElem?_eq_some_iff.mp b2).1
        have estep : ((((plV n ks).length : Nat) : Int) - 1 + (i : Nat) * -1) = (((j + 1 : Nat)) : Int) := by omega
        rw [estep]
        have w3 := seqT_up s3 hw
        refine ⟨_, rfl, _, rfl, _, _, rfl, rfl, L, vs, _, _, rfl, rfl, SqL.of hL3, (by rw [show (((j + 1 : Nat) : Int) - 1) = ((j : Nat) : Int) from by omega]; exact atI_nat (List.getElem?_eq_getElem hjv)), ?_⟩
        rw [ew]
        refine ⟨_, rfl, _, rfl, b, _, _, .int ((ks[j] : Nat) : Int), rfl, rfl, hb3, atI_nat (by simp [plV, hj]), ?_⟩
        refine ⟨_, rfl, _, rfl, _, rfl, wa, xs, [], rfl, by (rw [cut_nil]; exact w3), tr_nil _, fun t1 H4 s4 h4 => ?_⟩
        rw [cut_nil, cutV_take xs (by omega) (by omega)] at h4
        refine ⟨t1, _, rfl, .inl h4, _, rfl, _, rfl, _, rfl, _, _, rfl, rfl, _, rfl, wa, xs, [], rfl, by (rw [cut_nil]; exact seqT_up s4 w3), tr_nil _, fun t2 H5 s5 h5 => ?_⟩
        rw [cut_nil, cutV_drop xs (by omega) (by omega)] at h5
        have lx : xs.length ≤ 100000 := by
          have a1 := layM_nod em _ (List.mem_of_getElem? b1)
          have a2 := nods_len ds
          have a3 := hd d0 eg
          simp only [nod] at a1
          omega
        refine ⟨t2, _, rfl, .inl h5, few2 ?_, fun t ht => ?_⟩
        · simp only [List.length_append, List.length_cons, List.length_take, List.length_drop, List.length_nil, Int.toNat_natCast]
          omega
        have s6 := s4.trans (s5.trans (same_new (o := .tup (xs.take (ks[j] : Int).toNat ++ (vi :: (xs.drop ((ks[j] : Int) + 1).toNat ++ [])))) ht))
        refine ⟨_, _, _, o8, .ref t, .tuple ds, rfl, s3.trans s6, by (rw [show ks.length - (i + 1) = j from by omega]; exact b1), ?_⟩
        rw [show ks.length - (i + 1) = j from by omega, List.drop_eq_getElem_cons hj, putM_tup x b2]
        have e7 : ((ks[j] : Int)).toNat = ks[j] := by omega
        have e8 : ((ks[j] : Int) + 1).toNat = ks[j] + 1 := by omega
        rw [e7, e8] at s6 ⊢
        have g6 := Dp.ups (s3.trans s6) _ _ gw
        refine .tup (.inl (.inl upd_same)) (DpAll.app (DpAll.parts g6 _).1 (.cons ?_ ?_))
        · exact Dp.up s6 _ _ hvi
        · rw [List.append_nil] at g6 ⊢
          exact (DpAll.parts g6 _).2
      · rintro σ H3 ⟨o5, o6, o7, o8, vi, e, rfl, s3, he, hvi⟩
        rw [Nat.sub_self] at he hvi
        rw [l2] at he
        cases he
        have s13 := s12.trans s3
        have s4 : Same H (upd H3 D (.dK (putK kvs (.inr n) vi))) := fun c o z => by
          rw [upd_ne (ne_of_none z hD0)]
          exact s13 _ _ z
        have eo : okP gs n ks = true := by
          rw [eok, el]
          rfl
        have hD3 : H3 D = some (.dK kvs) := s3 _ _ (s2 _ _ hD1)
        refine ⟨_, rfl, _, rfl, _, rfl, b, _, 0, _, rfl, rfl, seqT_up s3 hb2, sl0, D, _, rfl, DPut.k (k := Sum.inr n) hD3 (few1 (by omega)), _, rfl, qS eo D vi _ s4 hD0 upd_same ?_⟩
        have en : newM gs n ks x = putM d0 ks x := by
          unfold newM
          rw [eg]
        rw [en]
        have s34 : Same H3 (upd H3 D (.dK (putK kvs (.inr n) vi))) ∨ True := .inr trivial
        rw [List.drop_zero] at hvi
        refine Dp.upP (fun c o z nk => ?_) _ _ hvi
        rw [upd_ne (fun e => nk kvs (Option.some.inj (z.symm.trans (by rw [e]; exact hD3))))]
        exact z
end
/-! what a law draws: words, values -/
abbrev sPick : Stmt := topS 16
abbrev sWord : Stmt := topS 17
abbrev sValue : Stmt := topS 18
abbrev sValIn : Stmt := topS 19
theorem scPick : FnScope ["_law_box_here", "_law_items"] ["_law_box_here", "_law_items"] (defScope sPick) := ⟨rfl, rfl, rfl, by decide +kernel, rfl, by decide +kernel, by decide +kernel⟩
theorem scWord : FnScope ["_law_box_here", "_law_stem", "_law_k"] ["_law_box_here"] (defScope sWord) := ⟨rfl, rfl, rfl, by decide +kernel, rfl, by decide +kernel, by decide +kernel⟩
theorem scValue : FnScope ["_law_box_here", "_law_deep"] ["_law_box_here", "_law_deep"] (defScope sValue) := ⟨rfl, rfl, rfl, by decide +kernel, rfl, by decide +kernel, by decide +kernel⟩
theorem scValIn : FnScope ["_law_box_here", "_law_deep", "_law_room", "_law_form", "_law_many", "_law_k"] ["_law_box_here", "_law_deep", "_law_room"] (defScope sValIn) := ⟨rfl, rfl, rfl, by decide +kernel, rfl, by decide +kernel, by decide +kernel⟩
def spPick : Sp := fun vs H Q _ => ∃ p g a xs, vs = [.ref p, .ref a] ∧ Box H p g ∧ H a = some (.lst xs) ∧ a ∉ [p, g] ∧ 0 < xs.length ∧ xs.length ≤ 1000 ∧ ∀ x ∈ xs, ∀ H', Box H' p g → Off [p, g] H H' → Q x H'
def spWord : Sp := fun vs H Q _ => ∃ p g, vs = [.ref p] ∧ Box H p g ∧ ∀ x H', Sm 8 x → Box H' p g → Off [p, g] H H' → Q (.str x) H'
def phi (w : Int) : Nat := (max w 1).toNat
def spVal (K : PySem.W.Frag) (n : Nat) : Sp := fun vs H Q _ => ∃ p g wd e w0 l, vs = [.ref p, .int e, .ref wd] ∧ Box H p g ∧ H wd = some (.lst [.int w0]) ∧ wd ∉ [p, g] ∧ 0 ≤ e ∧ e < (n : Int) ∧ Tr l H ∧
  ∀ v d H' w1, Box H' p g → H' wd = some (.lst [.int w1]) → Off [p, g, wd] H H' → Dp K (cut l H') v d → gd d = true → (d.depth : Int) ≤ e → w1 ≤ w0 - 1 → nod d + 12 * phi w1 ≤ 1 + 12 * phi w0 → Q v H'
def spValue (K : PySem.W.Frag) : Sp := fun vs H Q _ => ∃ p g e l, vs = [.ref p, .int e] ∧ Box H p g ∧ 0 ≤ e ∧ e < 9 ∧ Tr l H ∧ ∀ v d H', Box H' p g → Off [p, g] H H' → Dp K (cut l H') v d → gd d = true → (d.depth : Int) ≤ e → nod d ≤ 601 → Q v H'
theorem abz_sm : Sm 3 ("abz" : Str) := Sm.of (by decide +kernel)
theorem abz_len : ("abz" : Str).cps.toList.length = 3 := by decide +kernel
theorem xyz_sm : Sm 6 ("abcxyz" : Str) := Sm.of (by decide +kernel)
theorem xyz_len : ("abcxyz" : Str).cps.toList.length = 6 := by decide +kernel
theorem one_sm {n c : Nat} {x : Str} (h : Sm n x) (m : c ∈ x.cps.toList) : Sm 1 (⟨#[c]⟩ : Str) := ⟨Nat.le_refl _, fun d hd => by
  have hd : d ∈ [c] := hd
  rw [List.mem_singleton.mp hd]
  exact h.lo c m⟩
theorem atN {xs : List V} {r : Int} (h0 : 0 ≤ r) (h : r < (xs.length : Int)) : ∃ x, atI xs r = some x ∧ x ∈ xs := by
  obtain ⟨x, h1, h2, _⟩ := atI_ok (xs := xs) h0 h
  exact ⟨x, h1, h2⟩
section
variable {P : Program} {w : World} {K : PySem.W.Frag} {mg : Str → Option Value} {base : Heap} {f fT fW fV : Addr} {fd dT dW dV : FuncData}
theorem ok_pick {k : Nat} (F : Fun K "_law_pick" "_law_pick" sPick f fd) (B : Bi mg) (T : Tk P w K mg base fT dT) : FnOk P w K mg base CX0 (k + 2) f fd ["_law_box_here", "_law_items"] spPick := by
  refine F.ok scPick (fun vs H Q E h => ?_) (fun cdv A outer s H vs Q E hr h => ?_)
  · obtain ⟨p, g, a, xs, rfl, _⟩ := h
    rfl
  obtain ⟨p, g, a, xs, rfl, hb, ha, na, l0, l9, q⟩ := h
  have hr1 : Room 1 _ := hr.mono (by omega)
  refine ⟨_, pss_one (ps_ret (pe_ix ix_list (pv 1) (pe_call T.ok hr1 (by rfl) T.mg T.kp T.bd .nil pass0 (pa_cons (pv 0) (pa_cons (pe_callB call_len_seq (by rfl) B.len PySem.boot_len (pa_cons (pv 1) pa_nil)) pa_nil))) (fun _ _ => rfl))), ?_⟩
  refine ⟨_, rfl, _, rfl, _, rfl, a, _, rfl, .inl (SqL.of ha), p, g, _, rfl, hb, by omega, by omega, fun r H1 r0 r8 b1 o1 => ?_⟩
  obtain ⟨x, hx, mx⟩ := atN (xs := xs) r0 r8
  exact ⟨a, xs, _, x, rfl, rfl, SqL.of (o1.get ha na), hx, q x mx H1 b1 o1⟩
theorem ok_word {k : Nat} (F : Fun K "_law_word" "_law_word" sWord f fd) (B : Bi mg) (T : Tk P w K mg base fT dT) : FnOk P w K mg base CX0 (k + 2) f fd ["_law_box_here"] spWord := by
  refine F.ok scWord (fun vs H Q E h => ?_) (fun cdv A outer s H vs Q E hr h => ?_)
  · obtain ⟨p, g, rfl, _⟩ := h
    rfl
  obtain ⟨p, g, rfl, hb, q⟩ := h
  have hr1 : Room 1 _ := hr.mono (by omega)
  refine ⟨_, pss_cons (ps_set (i := 1) scWord.nd rfl (.inl rfl) (pe_join pe_str (pe_lc (own := [("_law_k", 2)]) (g := gName 2) (by rfl) scWord.nd
      (pi_range1 (by rfl) B.rng (pa_cons (pe_call T.ok hr1 (by rfl) T.mg T.kp T.bd .nil pass0 (pa_cons (pv 0) (pa_cons pe_int pa_nil))) pa_nil))
      (blkOk_by (own := [("_law_k", 2)]) (N := ["_law_box_here", "_law_stem", "_law_k"]) (sc := defScope sWord) (by decide +kernel))
      (fun _ _ _ _ _ => pg_name (i := 2) scWord.nd rfl (Or.inl rfl)) (fun _ _ _ _ _ => pts_nil)
      (fun _ _ _ _ _ => pe_ix ix_str pe_str (pe_call T.ok hr1 (by rfl) T.mg T.kp T.bd .nil pass0 (pa_cons (pv 0) (pa_cons pe_int pa_nil))) (fun _ _ => rfl)))))
    (pss_one (ps_ret (pe_op op_add_str (pv 1) (pe_ix ix_str pe_str (pe_call T.ok hr1 (by rfl) T.mg T.kp T.bd .nil pass0 (pa_cons (pv 0) (pa_cons pe_int pa_nil))) (fun _ _ => rfl))))), ?_⟩
  refine ⟨⟨_, rfl⟩, _, rfl, p, g, 4, rfl, hb, by decide, by decide, fun r H1 r0 r8 b1 o1 => ?_⟩
  refine ⟨r, rfl, by omega, by omega, fun D hD => ?_⟩
  have nD := b1.notin hD
  refine lc_range (lo := 0) (n := r.toNat) (fun i H2 => ∃ ys : List Str, ys.length ≤ i ∧ (∀ y ∈ ys, Sm 1 y) ∧ H2 D = some (.lst (ys.map V.str)) ∧ Box H2 p g ∧ Off [p, g] H H2)
    ⟨[], Nat.le_refl _, fun _ z => (List.not_mem_nil z).elim, upd_same, b1.same (same_new hD _), o1.trans (Off.of (same_new hD _))⟩ ?_ ?_
  · rintro i H2 hi ⟨ys, ly, sy, h1, b2, o2⟩
    refine ⟨rfl, _, rfl, p, g, 3, rfl, b2, by decide, by decide, fun r2 H3 s0 s3 b3 o3 => ?_⟩
    obtain ⟨c, hc, mc, _⟩ := atI_ok (xs := ("abz" : Str).cps.toList) (r := r2) s0 (by rw [abz_len]; exact s3)
    refine ⟨_, _, c, rfl, rfl, abz_sm.fits (by decide), hc, _, o3.get h1 nD, ?_, ys ++ [⟨#[c]⟩], ?_, ?_, ?_, ?_, ?_⟩
    · rw [List.length_map]
      exact small1000 (by omega)
    · rw [List.length_append, List.length_singleton]
      omega
    · intro y hy
      rcases List.mem_append.mp hy with z | z
      · exact sy y z
      · rw [List.mem_singleton.mp z]
        exact one_sm abz_sm mc
    · rw [upd_same, List.map_append]
      rfl
    · exact b3.put nD
    · exact off_new (o2.trans o3) nD (o1.free hD nD)
  · rintro H2 ⟨ys, ly, sy, h1, b2, o2⟩
    have j := Sm.join ys sy
    refine ⟨_, D, ys, rfl, rfl, .inl (SqL.of h1), ?_, ?_⟩
    · have e0 : (("" : Str)).length = 0 := by decide +kernel
      rw [e0, Nat.mul_zero, Nat.add_zero]
      have : (ys.map (·.length)).sum ≤ ys.length := by
        clear h1 j ly
        induction ys with
        | nil => exact Nat.le_refl _
        | cons y r ih =>
          have h1 := (sy y List.mem_cons_self).le
          have h2 := ih fun z hz => sy z (List.mem_cons_of_mem _ hz)
          simp only [List.map_cons, List.sum_cons, List.length_cons]
          omega
      exact few (by omega)
    refine ⟨_, rfl, _, rfl, p, g, 6, rfl, b2, by decide, by decide, fun r2 H3 s0 s26 b3 o3 => ?_⟩
    obtain ⟨c, hc, mc, _⟩ := atI_ok (xs := ("abcxyz" : Str).cps.toList) (r := r2) s0 (by rw [xyz_len]; exact s26)
    have one := one_sm xyz_sm mc
    have sA := (j.mono (by omega : ys.length ≤ 7)).app one
    refine ⟨_, _, c, rfl, rfl, xyz_sm.fits (by decide), hc, _, _, rfl, rfl, ?_, q _ _ sA b3 (o2.trans o3)⟩
    have l1 := j.le
    have l2 := one.le
    exact few (by omega)
theorem ok_valIn {k n : Nat} (F : Fun K "_law_value_in" "_law_value_in" sValIn f fd) (B : Bi mg) (T : Tk P w K mg base fT dT) (GW : Dn P w K mg base 2 "_law_word" ["_law_box_here"] spWord fW dW)
    (G : FnOk P w K mg base CX0 (k + 2) f fd ["_law_box_here", "_law_deep", "_law_room"] (spVal K n)) (bV : Binds K fd ["_law_box_here", "_law_deep", "_law_room"] []) (mV : mg "_law_value_in" = some (.ref f)) :
    FnOk P w K mg base CX0 (k + 3) f fd ["_law_box_here", "_law_deep", "_law_room"] (spVal K (n + 1)) := by
  refine F.ok scValIn (fun vs H Q E h => ?_) (fun cdv A outer s H vs Q E hr h => ?_)
  · obtain ⟨p, g, wd, e, w0, l, rfl, _⟩ := h
    rfl
  obtain ⟨p, g, wd, e, w0, l, rfl, hb, hw, nw, e0, en, tl, q⟩ := h
  have hr1 : Room 1 _ := hr.mono (by omega)
  have hr2 : Room 2 _ := hr.mono (by omega)
  refine ⟨_, pss_cons (ps_asg (pe_tup (pa_cons (pe_op op_sub (pe_ix ix_list (pv 2) pe_int (fun _ _ => rfl)) pe_int) (pa_cons (pe_call T.ok hr1 (by rfl) T.mg T.kp T.bd .nil pass0 (pa_cons (pv 0) (pa_cons pe_int pa_nil))) pa_nil)))
      (pg_tup (by rfl) (pgs_cons (pg_sub (pv 2) pe_int set_list) (pgs_cons (pg_name (i := 3) scValIn.nd rfl (.inl rfl)) pgs_nil))))
    (pss_cons (ps_if (PW.pt (pw_and (pt_cmpR op_gt (pv 1) pe_int (nomark _)) (pw_and (pt_cmpR op_gt (pv 3) pe_int (nomark _)) (pw_and1 (pt_cmpR op_gt (pe_ix ix_list (pv 2) pe_int (fun _ _ => rfl)) pe_int (nomark _))))))
      (pss_cons (ps_set (i := 4) scValIn.nd rfl (.inl rfl) (pe_ix ix_list (pe_lst (pa_cons (pe_call T.ok hr1 (by rfl) T.mg T.kp T.bd .nil pass0 (pa_cons (pv 0) (pa_cons pe_int pa_nil))) (pa_cons pe_int pa_nil)))
          (pe_op op_fdiv (pe_call T.ok hr1 (by rfl) T.mg T.kp T.bd .nil pass0 (pa_cons (pv 0) (pa_cons pe_int pa_nil))) pe_int) (fun _ _ => rfl)))
      (pss_one (ps_ret (pe_callTy call_tuple_of (by rfl) B.tup b_tup (pa_cons (pe_lc (own := [("_law_k", 5)]) (g := gName 5) (by rfl) scValIn.nd (pi_range1 (by rfl) B.rng (pa_cons (pv 4) pa_nil))
        (blkOk_by (own := [("_law_k", 5)]) (N := ["_law_box_here", "_law_deep", "_law_room", "_law_form", "_law_many", "_law_k"]) (sc := defScope sValIn) (by decide +kernel))
        (fun _ _ _ _ _ => pg_name (i := 5) scValIn.nd rfl (Or.inl rfl)) (fun _ _ _ _ _ => pts_nil)
        (fun _ _ _ _ _ => pe_call G hr (by rfl) mV F.kp bV .nil pass0 (pa_cons (pv 0) (pa_cons (pe_op op_sub (pv 1) pe_int) (pa_cons (pv 2) pa_nil))))) pa_nil)))))
      pss_nil)
    (pss_one (ps_ret (pe_ix ix_list (pe_lst (pa_cons (pe_op op_sub (pe_call T.ok hr1 (by rfl) T.mg T.kp T.bd .nil pass0 (pa_cons (pv 0) (pa_cons pe_int pa_nil))) pe_int)
        (pa_cons (pe_call GW.ok hr2 (by rfl) GW.mg GW.kp GW.bd .nil pass0 (pa_cons (pv 0) pa_nil)) pa_nil))) (pe_op op_mod (pv 3) pe_int) (fun _ _ => rfl))))), ?_⟩
  refine ⟨_, rfl, wd, _, 0, _, rfl, rfl, SqL.of hw, rfl, _, _, rfl, rfl, _, rfl, p, g, 5, rfl, hb, by decide, by decide, fun fo H1 f0 f5 b1 o1 => ⟨few (by simp), fun tq htq => ?_⟩⟩
  have sub : ∀ b ∈ [p, g], b ∈ [p, g, wd] := fun b hb => by
    simp only [List.mem_cons, List.not_mem_nil, or_false] at hb ⊢
    rcases hb with h | h
    · exact .inl h
    · exact .inr (.inl h)
  have hw1 : H1 wd = some (.lst [.int w0]) := o1.get hw nw
  have nq := b1.notin htq
  have nwq : wd ≠ tq := ne_of_none hw1 htq
  have nq3 : tq ∉ [p, g, wd] := by
    simp only [List.mem_cons, List.not_mem_nil, or_false, not_or] at nq ⊢
    exact ⟨nq.1, nq.2, fun z => nwq z.symm⟩
  have oq := off_new (o := .tup [.int (w0 - 1), .int fo]) (o1.mono sub) nq3 ((o1.mono sub).free htq nq3)
  refine ⟨tq, _, rfl, .inl (.inl upd_same), rfl, _, _, rfl, _, rfl, wd, _, 0, 0, rfl, rfl, by rw [upd_ne nwq]; exact hw1, rfl, ?_⟩
  refine ⟨_, _, rfl, rfl, ?_⟩
  have b2 : Box (upd (upd H1 tq (.tup [.int (w0 - 1), .int fo])) wd (.lst [.int (w0 - 1)])) p g := (b1.put nq).put nw
  have hw2 : (upd (upd H1 tq (.tup [.int (w0 - 1), .int fo])) wd (.lst [.int (w0 - 1)])) wd = some (.lst [.int (w0 - 1)]) := upd_same
  have o2 : Off [p, g, wd] H (upd (upd H1 tq (.tup [.int (w0 - 1), .int fo])) wd (.lst [.int (w0 - 1)])) := oq.trans (Off.put (by simp))
  refine ⟨_, rfl, _, _, rfl, rfl, _, rfl, ite2 (fun c1 => ⟨_, rfl, _, _, rfl, rfl, _, rfl, ite2 (fun c2 => ⟨_, rfl, wd, _, 0, _, rfl, rfl, SqL.of hw2, rfl, _, _, rfl, rfl, _, rfl, ite2 (fun c3 => ?r) (fun c3 => ?l3)⟩) (fun c2 => ?l2)⟩) (fun c1 => ?l1)⟩
  case r =>
    have e1 : (0 : Int) < e := of_decide_eq_true c1
    have w1' : (0 : Int) < w0 - 1 := of_decide_eq_true c3
    refine ⟨_, rfl, p, g, 4, rfl, b2, by decide, by decide, fun s1 H3 s10 s14 b3 o3 => ⟨few (by simp), fun D hD => ?_⟩⟩
    have hw3 : H3 wd = some (.lst [.int (w0 - 1)]) := o3.get hw2 nw
    have o3 := o2.trans (o3.mono sub)
    have nD := b3.notin hD
    have nwD : wd ≠ D := ne_of_none hw3 hD
    have nD3 : D ∉ [p, g, wd] := by
      simp only [List.mem_cons, List.not_mem_nil, or_false, not_or] at nD ⊢
      exact ⟨nD.1, nD.2, fun z => nwD z.symm⟩
    have b5 := b3.put (o := .lst [V.int s1, V.int 12]) nD
    have o5 := off_new (o := .lst [V.int s1, V.int 12]) o3 nD3 (o3.free hD nD3)
    refine ⟨_, rfl, p, g, 12, rfl, b5, by decide, by decide, fun s3 H6 s30 s33 b6 o6 => ⟨_, _, rfl, rfl, ⟨by decide, by decide⟩, ?_⟩⟩
    have hD6 : H6 D = some (.lst [V.int s1, V.int 12]) := o6.get upd_same nD
    have hw6 : H6 wd = some (.lst [.int (w0 - 1)]) := o6.get (by rw [upd_ne nwD]; exact hw3) nw
    have o6 := o5.trans (o6.mono sub)
    obtain ⟨v, hv, mv⟩ := atN (xs := [V.int s1, V.int 12]) (r := s3 / 11) (by omega) (by show s3 / 11 < 2; omega)
    refine ⟨D, _, _, v, rfl, rfl, SqL.of hD6, hv, ?_⟩
    obtain ⟨m, rfl, m0, m12⟩ : ∃ m : Int, v = .int m ∧ 0 ≤ m ∧ m ≤ 12 := by
      simp only [List.mem_cons, List.not_mem_nil, or_false] at mv
      rcases mv with e | e
      · exact ⟨_, e, by omega, by omega⟩
      · exact ⟨_, e, by omega, by omega⟩
    have tr6 : Tr l H6 := tl.go o6 fun b hb => by
      have t := b6.tr
      simp only [List.mem_cons, List.not_mem_nil, or_false] at hb
      rcases hb with h | h | h
      · rw [h]; exact t.1
      · rw [h]; exact t.2
      · rw [h, hw6]; exact fun z => nomatch z
    refine ⟨_, rfl, m, rfl, by omega, by omega, fun D2 hD2 => ?_⟩
    have n2 := b6.notin hD2
    have nw2 : wd ≠ D2 := ne_of_none hw6 hD2
    have n23 : D2 ∉ [p, g, wd] := by
      simp only [List.mem_cons, List.not_mem_nil, or_false, not_or] at n2 ⊢
      exact ⟨n2.1, n2.2, fun z => nw2 z.symm⟩
    have nl2 : D2 ∉ l := fun z => tr6 D2 z hD2
    refine lc_range (lo := 0) (n := m.toNat) (fun i H7 => ∃ vs ds wi, vs.length = i ∧ H7 D2 = some (.lst vs) ∧ DpAll K (cut (D2 :: p :: g :: wd :: l) H7) vs ds ∧ gds ds = true ∧ (PyData.depthAll ds : Int) ≤ e - 1 ∧
        Box H7 p g ∧ H7 wd = some (.lst [.int wi]) ∧ Off [p, g, wd] H H7 ∧ Tr l H7 ∧ wi ≤ w0 - 1 ∧ nods ds + 12 * phi wi ≤ i + 12 * phi (w0 - 1))
      ⟨[], [], w0 - 1, rfl, upd_same, .nil, by simp only [gds], by simp only [PyData.depthAll]; omega, b6.put n2, by rw [upd_ne nw2]; exact hw6, off_new o6 n23 (o6.free hD2 n23), fun b hb => by rw [upd_ne (ne_mem nl2 hb)]; exact tr6 b hb, Int.le_refl _, by simp only [nods]; omega⟩ ?_ ?_
    · rintro i H7 hi ⟨vs, ds, wi, lv, h1, h2, h3, h4, h5, h6, h7, h8, h9, h10⟩
      have trk : Tr (D2 :: p :: g :: wd :: l) H7 := fun b hb => by
        have t := h5.tr
        simp only [List.mem_cons] at hb
        rcases hb with h | h | h | h | h
        · rw [h, h1]; exact fun z => nomatch z
        · rw [h]; exact t.1
        · rw [h]; exact t.2
        · rw [h, h6]; exact fun z => nomatch z
        · exact h8 b h
      refine ⟨rfl, _, rfl, _, rfl, _, _, rfl, rfl, _, rfl, p, g, wd, e - 1, wi, D2 :: p :: g :: wd :: l, rfl, h5, h6, nw, by omega, by omega, trk, fun v d H8 wj k1 k2 k3 k4 k5 k6 k7 k8 => ?_⟩
      have o8 : Off (D2 :: p :: g :: wd :: l) H7 H8 := k3.mono fun b hb => by
        simp only [List.mem_cons, List.not_mem_nil, or_false] at hb ⊢
        rcases hb with h | h | h
        · exact .inr (.inl h)
        · exact .inr (.inr (.inl h))
        · exact .inr (.inr (.inr (.inl h)))
      have put8 : Off (D2 :: p :: g :: wd :: l) H8 (upd H8 D2 (.lst (vs ++ [v]))) := Off.put (by simp)
      refine ⟨vs, k3.get h1 n23, few (by omega), vs ++ [v], ds ++ [d], wj, by rw [List.length_append, List.length_singleton, lv], upd_same, ?_, ?_, ?_, k1.put n2, by rw [upd_ne nw2]; exact k2, ?_, ?_, by omega, ?_⟩
      · exact DpAll.app (Dp.ups (o8.trans put8) _ _ h2) (.cons (Dp.up put8 _ _ k4) .nil)
      · rw [gds_app, h3]
        simp only [gds, k5, Bool.and_self]
      · rw [depthAll_app]
        simp only [PyData.depthAll]
        omega
      · exact off_new (h7.trans k3) n23 (o6.free hD2 n23)
      · intro b hb
        by_cases eb : b = D2
        · exact absurd eb (ne_mem nl2 hb)
        · rw [upd_ne eb]
          have q1 := trk.go k3 (fun b hb => by
            have t := k1.tr
            simp only [List.mem_cons, List.not_mem_nil, or_false] at hb
            rcases hb with h | h | h
            · rw [h]; exact t.1
            · rw [h]; exact t.2
            · rw [h, k2]; exact fun z => nomatch z)
          exact q1 b (by simp [hb])
      · rw [nods_app]
        simp only [nods]
        omega
    · rintro H7 ⟨vs, ds, wi, lv, h1, h2, h3, h4, h5, h6, h7, h8, h9, h10⟩
      refine ⟨D2, vs, rfl, .inl ⟨SqL.of h1, fun t ht => ?_⟩⟩
      have nt := h5.notin ht
      have nwt : wd ≠ t := ne_of_none h6 ht
      have nt3 : t ∉ [p, g, wd] := by
        simp only [List.mem_cons, List.not_mem_nil, or_false, not_or] at nt ⊢
        exact ⟨nt.1, nt.2, fun z => nwt z.symm⟩
      have ntl : t ∉ l := fun z => h8 t z ht
      have s1 : Same (cut (D2 :: p :: g :: wd :: l) H7) (cut l (upd H7 t (.tup vs))) := fun b o z => by
        obtain ⟨a1, a2⟩ := cut_some z
        rw [cut_out (fun y => a1 (by simp [y])), upd_ne (ne_of_none a2 ht)]
        exact a2
      refine q (.ref t) (.tuple ds) _ wi (h5.put nt) (by rw [upd_ne nwt]; exact h6) (off_new h7 nt3 (h7.free ht nt3)) (.tup (.inl (.inl (by rw [cut_out ntl]; exact upd_same))) (Dp.ups s1 _ _ h2)) (by simpa only [gd] using h3) (by simp only [PyData.depth]; omega) h9 ?_
      simp only [nod]
      have f0 : phi w0 = phi (w0 - 1) + 1 := by
        unfold phi
        omega
      have m1 : (m.toNat : Int) = m := by omega
      omega
  all_goals
    refine ⟨_, rfl, p, g, 9, rfl, b2, by decide, by decide, fun s1 H3 s10 s19 b3 o3 => ⟨_, _, rfl, rfl, ?_⟩⟩
    refine ⟨_, rfl, p, g, rfl, b3, fun x9 H9 sx9 b9 o9 => ⟨few (by simp), fun D2 hD2 => ?_⟩⟩
    have o10 := o3.trans o9
    have nD2 := b9.notin hD2
    have b11 := b9.put (o := .lst [V.int (s1 - 4), V.str x9]) nD2
    have o11 := off_new (o := .lst [V.int (s1 - 4), V.str x9]) o10 nD2 (o10.free hD2 nD2)
    obtain ⟨v2, hv2, mv2⟩ := atN (xs := [V.int (s1 - 4), V.str x9]) (r := fo % 2) (by omega) (by show fo % 2 < 2; omega)
    refine ⟨_, rfl, _, _, rfl, rfl, (by show (0 : Int) < 2; decide), D2, _, _, v2, rfl, rfl, SqL.of upd_same, hv2, ?_⟩
    have p2 : (2 : Nat) ^ 40 ≤ 2 ^ 1000 := Nat.pow_le_pow_right (by decide) (by decide)
    have ph : phi (w0 - 1) ≤ phi w0 := by
      unfold phi
      omega
    have fin : ∀ d, Dp K (cut l (upd H9 D2 (.lst [V.int (s1 - 4), V.str x9]))) v2 d → gd d = true → nod d = 1 → d.depth = 0 → Q v2 (upd H9 D2 (.lst [V.int (s1 - 4), V.str x9])) := fun d k1 k2 k4 k5 =>
      q v2 d _ (w0 - 1) b11 (o11.get hw2 nw) (o2.trans (o11.mono sub)) k1 k2 (by omega) (Int.le_refl _) (by omega)
    simp only [List.mem_cons, List.not_mem_nil, or_false] at mv2
    rcases mv2 with e | e
    · rw [e] at fin ⊢; exact fin _ (.int _) (gd_int (Nat.lt_of_lt_of_le (by omega) p2)) (by simp only [nod]) (by simp only [PyData.depth])
    · rw [e] at fin ⊢; exact fin _ (.str x9) (sx9.gd (by decide)) (by simp only [nod]) (by simp only [PyData.depth])
theorem ok_value {k : Nat} (F : Fun K "_law_value" "_law_value" sValue f fd) (GV : Dn P w K mg base 11 "_law_value_in" ["_law_box_here", "_law_deep", "_law_room"] (spVal K 9) fV dV) : FnOk P w K mg base CX0 (k + 12) f fd ["_law_box_here", "_law_deep"] (spValue K) := by
  refine F.ok scValue (fun vs H Q E h => ?_) (fun cdv A outer s H vs Q E hr h => ?_)
  · obtain ⟨p, g, e, l, rfl, _⟩ := h
    rfl
  obtain ⟨p, g, e, l, rfl, hb, e0, e8, tl, q⟩ := h
  refine ⟨_, pss_one (ps_ret (pe_call GV.ok (hr.mono (by omega)) (by rfl) GV.mg GV.kp GV.bd .nil pass0 (pa_cons (pv 0) (pa_cons (pv 1) (pa_cons (pe_lst (pa_cons pe_int pa_nil)) pa_nil))))), ?_⟩
  refine ⟨_, rfl, _, rfl, few (by simp), fun wd hwd => ?_⟩
  have nw := hb.notin hwd
  have nl : wd ∉ l := tl.out hwd
  have ph : phi 50 = 50 := by decide
  refine ⟨p, g, wd, e, 50, wd :: l, rfl, hb.put nw, upd_same, nw, e0, by omega, fun b h => ?_, fun v d H' w1 k1 k2 k3 k4 k5 k6 k7 k8 => ?_⟩
  · rcases List.mem_cons.mp h with h | h
    · rw [h, upd_same]; exact fun z => nomatch z
    · rw [upd_ne (ne_mem nl h)]; exact tl b h
  · have off : Off [p, g] H H' := fun b o z => by
      obtain ⟨n1, z1⟩ := cut_some z
      have nb := ne_of_none z1 hwd
      rw [cut_out n1]
      exact k3.get (by rw [upd_ne nb]; exact z1) (by
        simp only [List.mem_cons, List.not_mem_nil, or_false, not_or] at n1 ⊢
        exact ⟨n1.1, n1.2, nb⟩)
    exact q v d H' k1 off (Dp.up (cut_less fun b hb => List.mem_cons_of_mem _ hb) _ _ k4) k5 (by omega) (by omega)
end
/-! inputs are drawn -/
theorem any_keys {K : PySem.W.Frag} {C : Addr} {H : Hp} {kvs : List (Key × V)} {gs : Ins} (h : InsV K C H kvs gs) (n : Str) : (kvs.any fun p => decide (p.1 = (Sum.inr n : Key))) = gs.any fun g => decide (g.1 = n) := by
  induction h with
  | nil => rfl
  | cons h _ ih =>
    rw [List.any_cons, List.any_cons, ih, h.1, key_rr]
theorem map_keys {K : PySem.W.Frag} {C : Addr} {H : Hp} {kvs : List (Key × V)} {gs : Ins} {n : Str} {v : V} {x : Option PyData} (hv : VaAt K C H v x) (h : InsV K C H kvs gs) :
    InsV K C H (kvs.map fun p => if p.1 = (Sum.inr n : Key) then (p.1, v) else p) (gs.map fun g => if g.1 = n then (g.1, x) else g) := by
  induction h with
  | nil => exact .nil
  | @cons p g ps gs h _ ih =>
    refine .cons ?_ ih
    show (if p.1 = (Sum.inr n : Key) then (p.1, v) else p).1 = Sum.inr (if g.1 = n then (g.1, x) else g).1 ∧ VaAt K C H (if p.1 = (Sum.inr n : Key) then (p.1, v) else p).2 (if g.1 = n then (g.1, x) else g).2
    by_cases e : g.1 = n
    · rw [if_pos e, if_pos (by rw [h.1, e])]
      exact ⟨h.1, hv⟩
    · rw [if_neg e, if_neg (by rw [h.1]; exact fun z => e (Sum.inr.inj z))]
      exact h
theorem Paired.app {α β : Type} {R : α → β → Prop} : ∀ {xs us : List α} {ys vs : List β}, Paired R xs ys → Paired R us vs → Paired R (xs ++ us) (ys ++ vs)
  | _, _, _, _, .nil, s => s
  | _, _, _, _, .cons h t, s => .cons h (Paired.app t s)
theorem InsV.put {K : PySem.W.Frag} {C : Addr} {H : Hp} {kvs : List (Key × V)} {gs : Ins} {v : V} {x : Option PyData} (h : InsV K C H kvs gs) (n : Str) (hv : VaAt K C H v x) : InsV K C H (putK kvs (.inr n) v) (putI gs n x) := by
  unfold putK putI
  rw [any_keys h n]
  by_cases e : (gs.any fun g => decide (g.1 = n)) = true
  · rw [if_pos e, if_pos e]
    exact map_keys hv h
  · rw [if_neg e, if_neg e]
    exact Paired.app h (.cons ⟨rfl, hv⟩ .nil)
theorem putI_nd {gs : Ins} (n : Str) (x : Option PyData) (h : (gs.map (·.1)).Nodup) : ((putI gs n x).map (·.1)).Nodup := by
  unfold putI
  by_cases e : (gs.any fun g => decide (g.1 = n)) = true
  · rw [if_pos e, List.map_map]
    have e2 : ((fun g : Str × Option PyData => g.1) ∘ fun g => if g.1 = n then (g.1, x) else g) = fun g => g.1 := by
      funext g
      show (if g.1 = n then (g.1, x) else g).1 = g.1
      by_cases z : g.1 = n
      · rw [if_pos z]
      · rw [if_neg z]
    rw [e2]
    exact h
  · rw [if_neg e, List.map_append, List.nodup_append]
    refine ⟨h, by simp, fun a ha b hb z => e ?_⟩
    have hb : b = n := by simpa using hb
    obtain ⟨g, hg, e1⟩ := List.mem_map.mp ha
    exact List.any_eq_true.mpr ⟨g, hg, decide_eq_true (by rw [e1, z, hb])⟩
theorem putI_mem {gs : Ins} {n : Str} {x : Option PyData} {g : Str × Option PyData} (h : g ∈ putI gs n x) : (g.1 = n ∧ g.2 = x) ∨ g ∈ gs := by
  unfold putI at h
  by_cases e : (gs.any fun g => decide (g.1 = n)) = true
  · rw [if_pos e] at h
    obtain ⟨g2, m, rfl⟩ := List.mem_map.mp h
    by_cases z : g2.1 = n
    · rw [if_pos z]
      exact .inl ⟨z, rfl⟩
    · rw [if_neg z]
      exact .inr m
  · rw [if_neg e] at h
    rcases List.mem_append.mp h with m | m
    · exact .inr m
    · have := List.mem_singleton.mp m
      subst this
      exact .inl ⟨rfl, rfl⟩
theorem putI_len (gs : Ins) (n : Str) (x : Option PyData) : (putI gs n x).length ≤ gs.length + 1 := by
  unfold putI
  by_cases e : (gs.any fun g => decide (g.1 = n)) = true
  · rw [if_pos e, List.length_map]
    omega
  · rw [if_neg e, List.length_append, List.length_singleton]
    exact Nat.le_refl _
theorem putK_len (kvs : List (Key × V)) (k : Key) (v : V) : (putK kvs k v).length ≤ kvs.length + 1 := by
  unfold putK
  by_cases e : (kvs.any fun kv => decide (kv.1 = k)) = true
  · rw [if_pos e, List.length_map]
    omega
  · rw [if_neg e, List.length_append, List.length_singleton]
    exact Nat.le_refl _
/-- what is said of drawn inputs -/
structure InsOk (gs : Ins) : Prop where
  few : gs.length ≤ 4
  nm : ∀ g ∈ gs, Sm 8 g.1
  va : ∀ g ∈ gs, ∀ d, g.2 = some d → gd d = true ∧ nod d ≤ 601 ∧ d.depth ≤ 8
abbrev sInputs : Stmt := topS 20
theorem scInputs : FnScope ["_law_box_here", "_law_found", "_law_deep", "_law_k"] ["_law_box_here"] (defScope sInputs) := ⟨rfl, rfl, rfl, by decide +kernel, rfl, by decide +kernel, by decide +kernel⟩
def spInputs (K : PySem.W.Frag) (C : Addr) : Sp := fun vs H Q _ => ∃ p g l, vs = [.ref p] ∧ Box H p g ∧ Tr l H ∧ ∀ a kvs gs H', Box H' p g → Off [p, g] H H' → H a = none → InAt K C (cut l H') a kvs gs → InsOk gs → Q (.ref a) H'
section
variable {P : Program} {w : World} {K : PySem.W.Frag} {mg : Str → Option Value} {base : Heap} {f fT fW fV fI C t0 : Addr} {fd dT dW dV dI : FuncData}
theorem ok_inputs {k : Nat} (F : Fun K "_law_inputs" "_law_inputs" sInputs f fd) (B : Bi mg) (T : Tk P w K mg base fT dT) (GW : Dn P w K mg base 2 "_law_word" ["_law_box_here"] spWord fW dW) (GV : Dn P w K mg base 12 "_law_value" ["_law_box_here", "_law_deep"] (spValue K) fV dV)
    (M : MkF P w K mg base C fI dI t0) (mF : mg "Fault" = some (.ref C)) : FnOk P w K mg base CX0 (k + 13) f fd ["_law_box_here"] (spInputs K C) := by
  refine F.ok scInputs (fun vs H Q E h => ?_) (fun cdv A outer s H vs Q E hr h => ?_)
  · obtain ⟨p, g, l, rfl, _⟩ := h
    rfl
  obtain ⟨p, g, l, rfl, hb, tl, q⟩ := h
  have hr1 : Room 1 _ := hr.mono (by omega)
  have hr2 : Room 2 _ := hr.mono (by omega)
  have hr12 : Room 12 _ := hr.mono (by omega)
  have hu := hu_of hr
  obtain ⟨ds4, v4, b4⟩ := M.b4
  refine ⟨_, pss_cons (ps_par (i := 1) (j := 2) (by rfl) scInputs.nd rfl rfl (by decide) rfl rfl (pa_cons pe_dnewK (pa_cons
        (pe_op op_add (pe_op op_add pe_int (pe_call T.ok hr1 (by rfl) T.mg T.kp T.bd .nil pass0 (pa_cons (pv 0) (pa_cons pe_int pa_nil)))) (pe_op op_mul pe_int (pe_op op_fdiv (pe_call T.ok hr1 (by rfl) T.mg T.kp T.bd .nil pass0 (pa_cons (pv 0) (pa_cons pe_int pa_nil))) pe_int))) pa_nil)) (by rfl))
    (pss_cons (ps_for PassesOwn.never rfl (pi_range1 (by rfl) B.rng (pa_cons (pe_op op_add pe_int (pe_call T.ok hr1 (by rfl) T.mg T.kp T.bd .nil pass0 (pa_cons (pv 0) (pa_cons pe_int pa_nil)))) pa_nil)) (pg_name (i := 3) scInputs.nd rfl (.inl rfl))
      (pss_one (ps_dput hu (pv 1) (pe_call GW.ok hr2 (by rfl) GW.mg GW.kp GW.bd .nil pass0 (pa_cons (pv 0) pa_nil))
        (pe_ifExp (pt_cmpR op_eq (pe_call T.ok hr1 (by rfl) T.mg T.kp T.bd .nil pass0 (pa_cons (pv 0) (pa_cons pe_int pa_nil))) pe_int (nomark _))
          (pe_make M.mkr M.ok hr2 (by rfl) mF b4 v4 pass0 (pa_cons pe_str (pa_cons pe_str (pa_cons (pe_tup (pa_cons pe_int pa_nil)) pa_nil))))
          (pe_call GV.ok hr12 (by rfl) GV.mg GV.kp GV.bd .nil pass0 (pa_cons (pv 0) (pa_cons (pv 2) pa_nil)))) rfl)))
    (pss_one (ps_ret (pv 1)))), ?_⟩
  intro D hD
  have nD := hb.notin hD
  have nlD : D ∉ l := tl.out hD
  have s0 : Same H (upd H D (.dK [])) := same_new hD _
  refine ⟨_, rfl, p, g, 3, rfl, hb.put nD, by decide, by decide, fun r1 H1 r10 r13 b1 o1 => ⟨_, _, rfl, rfl, _, rfl, p, g, 6, rfl, b1, by decide, by decide, fun r2 H2 r20 r26 b2 o2 => ⟨_, _, rfl, rfl, ⟨by decide, by decide⟩, _, _, rfl, rfl, .inl ⟨by decide, by decide⟩, _, _, rfl, rfl, ?_⟩⟩⟩
  have o12 := o1.trans o2
  have hD2 : H2 D = some (.dK []) := o12.get upd_same nD
  have oH : Off [p, g] H H2 := (Off.of s0).trans o12
  obtain ⟨e, he, e0, e9⟩ : ∃ e : Int, 1 + r1 + 5 * (r2 / 5) = e ∧ 0 ≤ e ∧ e < 9 := ⟨_, rfl, by omega, by omega⟩
  have tl2 : Tr l H2 := (tl.same s0).go o12 fun b hb => by
    have t := b2.tr
    simp only [List.mem_cons, List.not_mem_nil, or_false] at hb
    rcases hb with h | h
    · rw [h]; exact t.1
    · rw [h]; exact t.2
  refine ⟨.ref D, .int e, by rw [← he] <;> rfl, _, rfl, p, g, 4, rfl, b2, by decide, by decide, fun r3 H3 r30 r34 b3 o3 => ⟨_, _, rfl, rfl, 1 + r3, rfl, by omega, by omega, for_range (lo := 0) (n := (1 + r3).toNat) (fun i σ H4 => ∃ o4 kvs gs, σ = [some (.ref p), some (.ref D), some (.int e), o4] ∧ H4 D = some (.dK kvs) ∧
      InsV K C (cut (D :: p :: g :: l) H4) kvs gs ∧ kvs.length ≤ i ∧ (gs.map (·.1)).Nodup ∧ (∀ g ∈ gs, Sm 8 g.1) ∧ (∀ g ∈ gs, ∀ d, g.2 = some d → gd d = true ∧ nod d ≤ 601 ∧ d.depth ≤ 8) ∧ Box H4 p g ∧ Off [p, g] H H4 ∧ Tr l H4)
    ⟨none, [], [], rfl, o3.get hD2 nD, .nil, Nat.zero_le _, .nil, (fun _ z => nomatch z), (fun _ z => nomatch z), b3, oH.trans o3, tl2.go o3 fun b hb => ?_⟩ ?_ ?_⟩⟩
  · have t := b3.tr
    simp only [List.mem_cons, List.not_mem_nil, or_false] at hb
    rcases hb with h | h
    · rw [h]; exact t.1
    · rw [h]; exact t.2
  · rintro i σ H4 hi ⟨o4, kvs, gs, rfl, g1, g2, g3, g4, g5, g6, b4', g7, g8⟩
    have t4 : Tr (D :: p :: g :: l) H4 := fun b hb => by
      have t := b4'.tr
      simp only [List.mem_cons] at hb
      rcases hb with h | h | h | h
      · rw [h, g1]; exact fun z => nomatch z
      · rw [h]; exact t.1
      · rw [h]; exact t.2
      · exact g8 b h
    -- what follows the value
    have tail : ∀ (H5 : Hp) (v : V) (y : Option PyData), Box H5 p g → Off [p, g] H4 H5 → VaAt K C (cut (D :: p :: g :: l) H5) v y → (∀ d, y = some d → gd d = true ∧ nod d ≤ 601 ∧ d.depth ≤ 8) → ∀ (x : Str) (H6 : Hp), Sm 8 x → Box H6 p g → Off [p, g] H5 H6 →
        H6 D = some (.dK kvs) ∧ kvs.length < sizeLine ∧ ∃ o4 kvs' gs', [some (V.ref p), some (V.ref D), some (V.int e), some (V.int (0 + (i : Nat)))] = [some (.ref p), some (.ref D), some (.int e), o4] ∧ (upd H6 D (.dK (putK kvs (.inr x) v))) D = some (.dK kvs') ∧
          InsV K C (cut (D :: p :: g :: l) (upd H6 D (.dK (putK kvs (.inr x) v)))) kvs' gs' ∧ kvs'.length ≤ i + 1 ∧ (gs'.map (·.1)).Nodup ∧ (∀ g ∈ gs', Sm 8 g.1) ∧ (∀ g ∈ gs', ∀ d, g.2 = some d → gd d = true ∧ nod d ≤ 601 ∧ d.depth ≤ 8) ∧
          Box (upd H6 D (.dK (putK kvs (.inr x) v))) p g ∧ Off [p, g] H (upd H6 D (.dK (putK kvs (.inr x) v))) ∧ Tr l (upd H6 D (.dK (putK kvs (.inr x) v))) := by
      intro H5 v y b5 o5 hv hy x H6 sx b6 o6
      have sub : ∀ b ∈ [p, g], b ∈ D :: p :: g :: l := fun b hb => by
        simp only [List.mem_cons, List.not_mem_nil, or_false] at hb ⊢
        rcases hb with h | h
        · exact .inr (.inl h)
        · exact .inr (.inr (.inl h))
      have o46 : Off (D :: p :: g :: l) H4 H6 := (o5.trans o6).mono sub
      have put : Off (D :: p :: g :: l) H6 (upd H6 D (.dK (putK kvs (.inr x) v))) := Off.put (by simp)
      have lp := putI_len gs x y
      have lk := Paired.length g2
      have lk2 := putK_len kvs (.inr x) v
      refine ⟨(o5.trans o6).get g1 nD, few1 (by omega), _, putK kvs (.inr x) v, putI gs x y, rfl, upd_same, ((g2.up (o46.trans put)).put x (hv.up ((o6.mono sub).trans put))), by omega, putI_nd x y g4, fun z m => ?_, fun z m d ed => ?_, b6.put nD, ?_, ?_⟩
      · rcases putI_mem m with h | h
        · rw [h.1]; exact sx
        · exact g5 z h
      · rcases putI_mem m with h | h
        · exact hy d (by rw [← h.2]; exact ed)
        · exact g6 z h d ed
      · exact off_new (g7.trans (o5.trans o6)) nD hD
      · intro b hb
        rw [upd_ne (ne_mem nlD hb)]
        exact g8.go (o5.trans o6) (fun b hb => by
          have t := b6.tr
          simp only [List.mem_cons, List.not_mem_nil, or_false] at hb
          rcases hb with h | h
          · rw [h]; exact t.1
          · rw [h]; exact t.2) b hb
    refine ⟨_, rfl, p, g, 6, rfl, b4', by decide, by decide, fun r4 H5 r40 r46 b5 o5 => ⟨rfl, _, rfl, ite2 (fun _ => ?_) (fun _ => ?_)⟩⟩
    · refine ⟨few (by simp), fun t1 ht1 => fun a1 x1 ha1 hx1 ne1 => ⟨a1, x1, "read", .str "c", .ref t1, rfl, upd_same, fun G1 e1 k1 => ⟨rfl, ?_⟩⟩⟩
      have sB : Same _ G1 := made_same ha1 hx1 k1
      have s5 : Same H5 G1 := (same_new ht1 _).trans sB
      have nL : a1 ∉ D :: p :: g :: l := fun z => by
        have hn : H5 a1 = none := (same_new (o := .tup [V.int 1]) ht1).free ha1
        exact (t4.go (o5.mono (m := D :: p :: g :: l) fun b hb => by
          simp only [List.mem_cons, List.not_mem_nil, or_false] at hb ⊢
          rcases hb with h | h
          · exact .inr (.inl h)
          · exact .inr (.inr (.inl h))) fun b hb => by
            have t := b5.tr
            simp only [List.mem_cons] at hb
            rcases hb with h | h | h | h
            · rw [h, o5.get g1 nD]; exact fun z => nomatch z
            · rw [h]; exact t.1
            · rw [h]; exact t.2
            · exact fun y => by
                have hb4 := g8 b h
                by_cases e1 : b ∈ [p, g]
                · simp only [List.mem_cons, List.not_mem_nil, or_false] at e1
                  rcases e1 with z | z
                  · rw [z] at y; exact t.1 y
                  · rw [z] at y; exact t.2 y
                · exact hb4 (o5.free y e1)) a1 z hn
      refine ⟨_, rfl, _, rfl, p, g, rfl, b5.same s5, fun x H6 sx b6 o6 => ?_⟩
      have z := tail G1 (.ref a1) none (b5.same s5) (o5.trans (Off.of s5)) ⟨a1, .str "c", .ref t1, rfl, x1, by rw [cut_out nL]; exact e1⟩ (fun d z => nomatch z) x H6 sx b6 o6
      exact ⟨D, _, rfl, DPut.k (k := Sum.inr x) z.1 z.2.1, z.2.2⟩
    · have t5 : Tr (D :: p :: g :: l) H5 := fun b hb y => by
        have t := b5.tr
        by_cases e1 : b ∈ [p, g]
        · simp only [List.mem_cons, List.not_mem_nil, or_false] at e1
          rcases e1 with z | z
          · rw [z] at y; exact t.1 y
          · rw [z] at y; exact t.2 y
        · exact t4 b hb (o5.free y e1)
      refine ⟨_, rfl, _, rfl, p, g, e, D :: p :: g :: l, rfl, b5, e0, e9, t5, fun v d G1 k1 k2 k3 k4 k5 k6 => ?_⟩
      refine ⟨_, rfl, _, rfl, p, g, rfl, k1, fun x H6 sx b6 o6 => ?_⟩
      have z := tail G1 v (some d) k1 (o5.trans k2) k3 (fun d' z => by cases z; exact ⟨k4, k6, by omega⟩) x H6 sx b6 o6
      exact ⟨D, _, rfl, DPut.k (k := Sum.inr x) z.1 z.2.1, z.2.2⟩
  · rintro σ H4 ⟨o4, kvs, gs, rfl, g1, g2, g3, g4, g5, g6, b4', g7, g8⟩
    have lk := Paired.length g2
    refine ⟨_, rfl, q D kvs gs H4 b4' g7 hD ⟨by rw [cut_out nlD]; exact g1, g2.up (cut_less fun b hb => by simp [hb]), g4⟩ ⟨by omega, g5, g6⟩⟩
end
/-! a place is drawn -/
abbrev sPlace : Stmt := topS 21
theorem scPlace : FnScope ["_law_box_here", "_law_given", "_law_name", "_law_found", "_law_here", "_law_turn", "_law_wide", "_law_k"] ["_law_box_here", "_law_given"] (defScope sPlace) := ⟨rfl, rfl, rfl, by decide +kernel, rfl, by decide +kernel, by decide +kernel⟩
def isTupO : Option PyData → Bool
  | some d => isTup d
  | none => false
/-- isinstance(v, tuple) of a value of inputs -/
def rIsTu (K : PySem.W.Frag) (C : Addr) : List V → Hp → VK → Prop := fun xs H Q => ∃ v x, xs = [v, .ty "tuple"] ∧ VaAt K C H v x ∧ Q (.bl (isTupO x)) H
theorem call_isTu {X : Cx} {C fE : Addr} (T : FaC X.K X.mg C fE) : CallR X (.builtin "isinstance") (rIsTu X.K C) := by
  intro pins s σ H xs us Q I r h
  obtain ⟨v, x, rfl, hv, q⟩ := h
  cases x with
  | some d => exact call_isD pins s σ H _ us Q I r ⟨v, d, "tuple", _, rfl, hv, kit_tup d, q⟩
  | none =>
    obtain ⟨a, fr, fp, rfl, dx, hf⟩ := hv
    exact call_isi pins s σ H _ us Q I r ⟨.ref a, .ty "tuple", _, _, false, rfl, .ty "tuple", .base (.ins hf T.o.c.cl T.o.c.ha T.o.c.hn T.o.c.htk T.o.c.hm), T.o.j6, q⟩
theorem InsV.names {K : PySem.W.Frag} {C : Addr} {H : Hp} {kvs : List (Key × V)} {gs : Ins} (h : InsV K C H kvs gs) : (kvs.map fun p => kV p.1) = gs.map fun g => V.str g.1 := by
  induction h with
  | nil => rfl
  | cons h _ ih =>
    rw [List.map_cons, List.map_cons, ih, h.1]
    rfl
def spPlace (K : PySem.W.Frag) (C : Addr) : Sp := fun vs H Q _ => ∃ p g a l kvs gs, vs = [.ref p, .ref a] ∧ Box H p g ∧ Tr l H ∧ p ∈ l ∧ g ∈ l ∧ InAt K C (cut l H) a kvs gs ∧ InsOk gs ∧
  ∀ t n ks H', Box H' p g → Off [p, g] H H' → SqT K (cut l H') t (plV n ks) → Sm 8 n → ks.length ≤ 10 → (∀ k ∈ ks, k ≤ 1000) → Q (.ref t) H'
section
variable {P : Program} {w : World} {K : PySem.W.Frag} {mg : Str → Option Value} {base : Heap} {f fT fW fP C fE : Addr} {fd dT dW dP : FuncData}
theorem ok_place {k : Nat} (F : Fun K "_law_place" "_law_place" sPlace f fd) (B : Bi mg) (ml : mg "list" = none) (TF : FaC K mg C fE) (T : Tk P w K mg base fT dT) (GW : Dn P w K mg base 2 "_law_word" ["_law_box_here"] spWord fW dW)
    (GP : Dn P w K mg base 2 "_law_pick" ["_law_box_here", "_law_items"] spPick fP dP) : FnOk P w K mg base CX0 (k + 3) f fd ["_law_box_here", "_law_given"] (spPlace K C) := by
  refine F.ok scPlace (fun vs H Q E h => ?_) (fun cdv A outer s H vs Q E hr h => ?_)
  · obtain ⟨p, g, a, l, kvs, gs, rfl, _⟩ := h
    rfl
  obtain ⟨p, g, a, l, kvs, gs, rfl, hb, tl, pl, gl, hI, hO, q⟩ := h
  have hr1 : Room 1 _ := hr.mono (by omega)
  have hr2 : Room 2 _ := hr.mono (by omega)
  have hu := hu_of hr
  refine ⟨_, pss_cons (ps_set (i := 2) scPlace.nd rfl (.inl rfl) (pe_call GP.ok hr2 (by rfl) GP.mg GP.kp GP.bd .nil pass0 (pa_cons (pv 0) (pa_cons
        (pe_op op_cat (pe_callTy (call_list_dK rfl) (by rfl) ml b_list (pa_cons (pv 1) pa_nil)) (pe_lst (pa_cons (pe_call GW.ok hr2 (by rfl) GW.mg GW.kp GW.bd .nil pass0 (pa_cons (pv 0) pa_nil)) pa_nil))) pa_nil))))
    (pss_cons (ps_par (i := 3) (j := 4) (by rfl) scPlace.nd rfl rfl (by decide) rfl rfl (pa_cons (pe_tup (pa_cons (pv 2) pa_nil)) (pa_cons (pe_dget2 hu (pv 1) (pv 2) pe_int ⟨rfl, rfl, rfl, rfl⟩) pa_nil)) (by rfl))
    (pss_cons (ps_for PassesOwn.never rfl (pi_range1 (by rfl) B.rng (pa_cons (pe_call T.ok hr1 (by rfl) T.mg T.kp T.bd .nil pass0 (pa_cons (pv 0) (pa_cons pe_int pa_nil))) pa_nil)) (pg_name (i := 5) scPlace.nd rfl (.inl rfl))
      (pss_cons (ps_set (i := 6) scPlace.nd rfl (.inl rfl) (pe_ifExp (pt_val (pe_callB (call_isTu TF) (by rfl) B.ii b_ii (pa_cons (pv 4) (pa_cons (pe_bltn (by rfl) B.tup (by decide +kernel) (v := .ty "tuple") rfl) pa_nil))))
          (pe_callB call_len_seq (by rfl) B.len PySem.boot_len (pa_cons (pv 4) pa_nil)) pe_int))
      (pss_cons (ps_if (PW.pt (pw_or (pt_cmpR op_eq (pv 6) pe_int (nomark _)) (pw_or1 (pt_cmpR op_eq (pe_call T.ok hr1 (by rfl) T.mg T.kp T.bd .nil pass0 (pa_cons (pv 0) (pa_cons pe_int pa_nil))) pe_int (nomark _)))))
        (pss_one (ps_ret (pe_op op_catU (pv 3) (pe_op op_rep01 (pe_tup (pa_cons (pe_op op_add (pv 6) (pe_call T.ok hr1 (by rfl) T.mg T.kp T.bd .nil pass0 (pa_cons (pv 0) (pa_cons pe_int pa_nil)))) pa_nil))
          (pe_call T.ok hr1 (by rfl) T.mg T.kp T.bd .nil pass0 (pa_cons (pv 0) (pa_cons pe_int pa_nil))))))) pss_nil)
      (pss_cons (ps_set (i := 7) scPlace.nd rfl (.inl rfl) (pe_call T.ok hr1 (by rfl) T.mg T.kp T.bd .nil pass0 (pa_cons (pv 0) (pa_cons (pv 6) pa_nil))))
      (pss_one (ps_par (i := 3) (j := 4) (by rfl) scPlace.nd rfl rfl (by decide) rfl rfl (pa_cons (pe_op op_catU (pv 3) (pe_tup (pa_cons (pv 7) pa_nil))) (pa_cons (pe_ix ix_tup (pv 4) (pv 7) (fun _ _ => rfl)) pa_nil)) (by rfl)))))))
    (pss_one (ps_ret (pv 3))))), ?_⟩
  have sub : ∀ b ∈ [p, g], b ∈ l := fun b hb => by
    simp only [List.mem_cons, List.not_mem_nil, or_false] at hb
    rcases hb with h | h
    · rw [h]; exact pl
    · rw [h]; exact gl
  have ha : H a = some (.dK kvs) := (cut_some hI.at_).2
  have lk := Paired.length hI.vs
  have lf := hO.few
  refine ⟨_, rfl, _, rfl, a, kvs, rfl, ha, fun q1 hq1 => ⟨_, rfl, p, g, rfl, hb.same (same_new hq1 _), fun x0 H1 sx0 b1 o1 => ⟨few (by simp), fun q2 hq2 => ?_⟩⟩⟩
  have nq1 := hb.notin hq1
  have h1 : H1 q1 = some (.lst (kvs.map fun kv => kV kv.1)) := o1.get upd_same nq1
  have oA : Off [p, g] H H1 := (Off.of (same_new hq1 _)).trans o1
  have s2 := same_new (o := .lst [V.str x0]) hq2
  have bA := b1.same s2
  refine ⟨q1, q2, _, _, rfl, rfl, s2 _ _ h1, upd_same, few (by rw [List.length_map, List.length_singleton]; omega), fun q3 hq3 => ?_⟩
  have s3 := same_new (o := .lst ((kvs.map fun kv => kV kv.1) ++ [V.str x0])) hq3
  have bB := bA.same s3
  have oB : Off [p, g] H _ := oA.trans (Off.of (s2.trans s3))
  refine ⟨p, g, q3, _, rfl, bB, upd_same, bA.notin hq3, by simp, by (rw [List.length_append, List.length_map, List.length_singleton]; omega), fun y my H4 b4 o4 => ?_⟩
  obtain ⟨n, rfl, sn⟩ : ∃ n, y = V.str n ∧ Sm 8 n := by
    rcases List.mem_append.mp my with m | m
    · rw [hI.vs.names] at m
      obtain ⟨z, mz, rfl⟩ := List.mem_map.mp m
      exact ⟨_, rfl, hO.nm z mz⟩
    · exact ⟨x0, List.mem_singleton.mp m, sx0⟩
  have o4 := oB.trans o4
  have tl4 : Tr l H4 := tl.go o4 fun b hb => by
    have t := b4.tr
    simp only [List.mem_cons, List.not_mem_nil, or_false] at hb
    rcases hb with h | h
    · rw [h]; exact t.1
    · rw [h]; exact t.2
  have hI4 := hI.up (o4.mono sub)
  have ha4 : H4 a = some (.dK kvs) := (cut_some hI4.at_).2
  refine ⟨_, rfl, few (by simp), fun t ht => ?_⟩
  have ntl : t ∉ l := tl4.out ht
  have s5 := same_new (o := .tup [V.str n]) ht
  have hI5 := hI4.up (cut_new (l := l) (o := .tup [V.str n]) ht)
  refine ⟨_, rfl, a, rfl, .inl ⟨kvs, .inl (s5 _ _ ha4)⟩, _, rfl, valV kvs (.inr n), DGet.k (k := Sum.inr n) (s5 _ _ ha4), ?_⟩
  -- what is there, and the place to it
  have b5 := b4.same s5
  have tl5 := tl4.same s5
  have hP5 : SqT K (cut l (upd H4 t (.tup [V.str n]))) t (plV n []) := .inl (.inl (by rw [cut_out ntl]; exact upd_same))
  have o5 : Off [p, g] H (upd H4 t (.tup [V.str n])) := o4.trans (Off.of s5)
  obtain ⟨v0, y0, e0, hv0, hy0⟩ : ∃ v0 y0, (valV kvs (.inr n)).getD (.int 0) = v0 ∧ VaAt K C (cut l (upd H4 t (.tup [V.str n]))) v0 y0 ∧ ∀ d, y0 = some d → nod d ≤ 601 := by
    rcases hI5.vs.get n with ⟨e1, e2⟩ | ⟨v0, x0, e1, e2, hv⟩
    · rw [e1]
      exact ⟨.int 0, some (.int 0), rfl, .int 0, fun d z => by cases z; simp only [nod]; omega⟩
    · rw [e1]
      refine ⟨v0, x0, rfl, hv, fun d z => ?_⟩
      unfold getI at e2
      obtain ⟨z2, m2, e3⟩ := Option.map_eq_some_iff.mp e2
      exact (hO.va z2 (List.mem_of_find?_eq_some m2) d (by rw [e3]; exact z)).2.1
  rw [e0]
  generalize upd H4 t (.tup [V.str n]) = H5 at *
  refine ⟨_, _, rfl, _, rfl, p, g, 9, rfl, b5, by decide, by decide, fun m H6 m0 m9 b6 o6 => ⟨m, rfl, by omega, by omega, for_range (lo := 0) (n := m.toNat) (fun i σ H7 => ∃ o5 o6 o7 t ks v y, σ = [some (.ref p), some (.ref a), some (.str n), some (.ref t), some v, o5, o6, o7] ∧ Box H7 p g ∧ Off [p, g] H H7 ∧
      SqT K (cut l H7) t (plV n ks) ∧ ks.length ≤ i ∧ (∀ k ∈ ks, k ≤ 1000) ∧ VaAt K C (cut l H7) v y ∧ ∀ d, y = some d → nod d ≤ 601)
    ⟨none, none, none, t, [], v0, y0, rfl, b6, o5.trans o6, seqT_up (o6.mono sub) hP5, Nat.zero_le _, (fun _ z => nomatch z), hv0.up (o6.mono sub), hy0⟩ ?_ ?_⟩⟩
  · rintro i σ H7 hi ⟨w5, w6, w7, t, ks, v, y, rfl, b7, o7, hP, lks, hks, hv, hy⟩
    have trA : ∀ H8, Box H8 p g → Off [p, g] H7 H8 → Tr l H8 := fun H8 b8 o8 => tl.go (o7.trans o8) fun b hb => by
      have t := b8.tr
      simp only [List.mem_cons, List.not_mem_nil, or_false] at hb
      rcases hb with h | h
      · rw [h]; exact t.1
      · rw [h]; exact t.2
    -- the place with one step more, or none
    have ret : ∀ (H8 : Hp) (wd : Int) (u5 u7 : Option V) (u4 : V), 0 ≤ wd → wd ≤ 600 → Box H8 p g → Off [p, g] H7 H8 → tOp (rCatU K) (tVar 3) (tOp (rRep01 K) (tTup (tCons (tOp (rI0 fun i j => V.int (i + j)) (tVar 6) (tCall spTake [] E0 (tCons (tVar 0) (tCons (tC (V.int 2)) tNil)))) tNil)) (tCall spTake [] E0 (tCons (tVar 0) (tCons (tC (V.int 2)) tNil))))
        [some (.ref p), some (.ref a), some (.str n), some (.ref t), some u4, u5, some (.int wd), u7] H8 Q := by
      intro H8 wd u5 u7 u4 w0 w9 b8 o8
      refine ⟨_, rfl, _, rfl, _, rfl, p, g, 2, rfl, b8, by decide, by decide, fun r H9 r0 r2 b9 o9 => ⟨_, _, rfl, rfl, few (by simp), fun t1 ht1 => ?_⟩⟩
      have n1 := b9.notin ht1
      have tl9 := trA H9 b9 (o8.trans o9)
      have n1l : t1 ∉ l := tl9.out ht1
      have s10 := same_new (o := .tup [V.int (wd + r)]) ht1
      refine ⟨_, rfl, p, g, 2, rfl, b9.same s10, by decide, by decide, fun r2 H10 r20 r22 b10 o10 => ?_⟩
      have h1 : H10 t1 = some (.tup [V.int (wd + r)]) := o10.get upd_same n1
      have oT : Off [p, g] H7 H10 := (o8.trans o9).trans ((Off.of s10).trans o10)
      have tl10 := trA H10 b10 oT
      have hP10 := seqT_up (oT.mono sub) hP
      refine ⟨t1, r2, _, rfl, rfl, .inl (.inl h1), by simp, ?_⟩
      by_cases c : r2 = 1
      · refine .inl ⟨c, t, t1, plV n ks, [V.int (wd + r)], l, rfl, rfl, hP10, .inl (.inl (by rw [cut_out n1l]; exact h1)), tl10, few ?_, fun c H11 s11 hc => q c n (ks ++ [(wd + r).toNat]) H11 (b10.same s11) ((o7.trans oT).trans (Off.of s11)) ?_ sn ?_ ?_⟩
        · simp only [plV, List.length_cons, List.length_map, List.length_nil]
          omega
        · have e1 : plV n ks ++ [V.int (wd + r)] = plV n (ks ++ [(wd + r).toNat]) := by
            unfold plV
            rw [List.map_append, List.cons_append, List.map_singleton, show (((wd + r).toNat : Nat) : Int) = wd + r from by omega]
          rw [e1] at hc
          exact hc
        · rw [List.length_append, List.length_singleton]
          omega
        · intro z mz
          rcases List.mem_append.mp mz with h | h
          · exact hks z h
          · rw [List.mem_singleton.mp h]
            omega
      · refine .inr ⟨by omega, fun t2 ht2 => ?_⟩
        have n2l : t2 ∉ l := tl10.out ht2
        have s11 := same_new (o := .tup []) ht2
        refine ⟨t, t2, plV n ks, [], l, rfl, rfl, seqT_up (cut_new (l := l) (o := .tup []) ht2) hP10, .inl (.inl (by rw [cut_out n2l]; exact upd_same)), tl10.same s11, few ?_, fun c H11 s12 hc => q c n ks H11 ((b10.same s11).same s12) (((o7.trans oT).trans (Off.of s11)).trans (Off.of s12)) (by rw [List.append_nil] at hc; exact hc) sn (by omega) hks⟩
        simp only [plV, List.length_cons, List.length_map, List.length_nil]
        omega
    refine ⟨_, rfl, v, y, rfl, hv.up (cut_same l H7), _, rfl, ?_⟩
    cases ht : isTupO y with
    | false =>
      refine iteF ⟨_, rfl, rfl, _, rfl, ite2 (fun _ => ?_) (fun c => absurd c (by decide))⟩
      exact ret H7 0 _ _ _ (Int.le_refl _) (by decide) b7 (Off.refl _ _)
    | true =>
      obtain ⟨d, rfl⟩ : ∃ d, y = some d := by
        cases y with
        | none => cases ht
        | some d => exact ⟨d, rfl⟩
      obtain ⟨wa, xs, ds, rfl, rfl, hw, gw⟩ := tup_of hv ht
      have lw := DpAll.len gw
      have hw7 := seqT_cut hw
      have nd := hy _ rfl
      have nl := nods_len ds
      simp only [nod] at nd
      refine iteT ⟨_, rfl, wa, _, rfl, .inr hw7, _, rfl, rfl, _, rfl, ite2 (fun c => ?_) (fun c => ?_)⟩
      · exact ret H7 _ _ _ _ (by omega) (by omega) b7 (Off.refl _ _)
      · have c : ¬ (xs.length : Int) = 0 := fun z => of_decide_eq_false (Bool.eq_false_iff.mpr c) (by rw [z])
        refine ⟨_, rfl, p, g, 9, rfl, b7, by decide, by decide, fun r H8 r0 r9 b8 o8 => ⟨rfl, _, rfl, ite2 (fun c2 => ?_) (fun c2 => ?_)⟩⟩
        · exact ret H8 _ _ _ _ (by omega) (by omega) b8 o8
        · refine ⟨_, rfl, _, rfl, p, g, _, rfl, b8, by omega, by omega, fun k2 H9 k20 k29 b9 o9 => ?_⟩
          have o79 := o8.trans o9
          have tl9 := trA H9 b9 o79
          refine ⟨_, rfl, _, rfl, few (by simp), fun t1 ht1 => ?_⟩
          have n1l : t1 ∉ l := tl9.out ht1
          have s10 := same_new (o := .tup [V.int k2]) ht1
          have hP9 := seqT_up (o79.mono sub) hP
          refine ⟨t, t1, plV n ks, [V.int k2], l, rfl, rfl, seqT_up (cut_new (l := l) (o := .tup [V.int k2]) ht1) hP9, .inl (.inl (by rw [cut_out n1l]; exact upd_same)), tl9.same s10, few ?_, fun c H11 s11 hc => ?_⟩
          · simp only [plV, List.length_cons, List.length_map, List.length_nil]
            omega
          have e1 : plV n ks ++ [V.int k2] = plV n (ks ++ [k2.toNat]) := by
            unfold plV
            rw [List.map_append, List.cons_append, List.map_singleton, show ((k2.toNat : Nat) : Int) = k2 from by omega]
          rw [e1] at hc
          obtain ⟨x, hx, mx, gx⟩ := atI_ok (xs := xs) k20 k29
          have oX : Off [p, g] H7 H11 := o79.trans (Off.of (s10.trans s11))
          have gw2 := Dp.ups (oX.mono sub) _ _ gw
          obtain ⟨e, he, hde⟩ := DpAll.get gw2 gx
          refine ⟨_, rfl, _, rfl, wa, _, _, x, rfl, rfl, seqT_cut (seqT_up (oX.mono sub) hw), hx, _, _, rfl, _, _, _, c, ks ++ [k2.toNat], x, some e, rfl, (b9.same s10).same s11, o7.trans oX, hc, ?_, ?_, hde, ?_⟩
          · rw [List.length_append, List.length_singleton]
            omega
          · intro z mz
            rcases List.mem_append.mp mz with h | h
            · exact hks z h
            · rw [List.mem_singleton.mp h]
              omega
          · intro d z
            cases z
            have := nods_mem (List.mem_of_getElem? he)
            omega
  · rintro σ H7 ⟨w5, w6, w7, t, ks, v, y, rfl, b7, o7, hP, lks, hks, hv, hy⟩
    exact ⟨_, rfl, q t n ks H7 b7 o7 hP sn (by omega) hks⟩
end
/-! what the law finds at a place, and puts there -/
abbrev sDue : Stmt := topS 22
abbrev sPut : Stmt := topS 23
theorem scDue : FnScope ["_law_given", "_law_place_here", "_law_here", "_law_k"] ["_law_given", "_law_place_here"] (defScope sDue) := ⟨rfl, rfl, rfl, by decide +kernel, rfl, by decide +kernel, by decide +kernel⟩
theorem scPut : FnScope ["_law_here", "_law_steps", "_law_value_here"] ["_law_here", "_law_steps", "_law_value_here"] (defScope sPut) := ⟨rfl, rfl, rfl, by decide +kernel, rfl, by decide +kernel, by decide +kernel⟩
def rIsFa (K : PySem.W.Frag) (C : Addr) : List V → Hp → VK → Prop := fun xs H Q => ∃ v x, xs = [v, .ref C] ∧ VaAt K C H v x ∧ Q (.bl x.isNone) H
theorem call_isFa {X : Cx} {C fE : Addr} (T : FaC X.K X.mg C fE) : CallR X (.builtin "isinstance") (rIsFa X.K C) := by
  intro pins s σ H xs us Q I r h
  obtain ⟨v, x, rfl, hv, q⟩ := h
  cases x with
  | some d => exact call_isi pins s σ H _ us Q I r ⟨v, .ref C, _, _, false, rfl, .own C, tyD hv, (T.o.of hv).1, q⟩
  | none =>
    obtain ⟨a, fr, fp, rfl, dx, hf⟩ := hv
    exact call_isi pins s σ H _ us Q I r ⟨.ref a, .ref C, _, _, true, rfl, .own C, .base (.ins hf T.o.c.cl T.o.c.ha T.o.c.hn T.o.c.htk T.o.c.hm), T.o.c.me, q⟩
def atO (y : Option PyData) (ks : List Nat) : Option PyData := y.bind fun d => atM d ks
theorem atI2_O (gs : Ins) (n : Str) (ks : List Nat) : atI2 gs n ks = atO ((getI gs n).getD none) ks := by
  unfold atI2 atO
  cases getI gs n with
  | none => rfl
  | some x => cases x <;> rfl
theorem atM_nil (d : PyData) : atM d [] = some d := by cases d <;> rfl
theorem atM_no {d : PyData} {k : Nat} {ks : List Nat} (h : isTup d = false) : atM d (k :: ks) = none := by
  cases d with
  | tuple ds => cases h
  | none => rfl
  | bool b => rfl
  | int i => rfl
  | str x => rfl
  | list l => rfl
  | dict l => rfl
theorem atM_tup {ds : List PyData} {k : Nat} {ks : List Nat} {e : PyData} (h : ds[k]? = some e) : atM (.tuple ds) (k :: ks) = atM e ks := by
  show (match ds[k]? with
    | some e => atM e ks
    | none => none) = _
  rw [h]
theorem atM_out {ds : List PyData} {k : Nat} {ks : List Nat} (h : ds[k]? = none) : atM (.tuple ds) (k :: ks) = none := by
  show (match ds[k]? with
    | some e => atM e ks
    | none => none) = _
  rw [h]
/-- what is due: None, or a list of the value -/
def DueAt (K : PySem.W.Frag) (H : Hp) (v : V) : Option PyData → Prop
  | none => v = .non
  | some d => ∃ q x, v = .ref q ∧ H q = some (.lst [x]) ∧ Dp K H x d
def spDue (K : PySem.W.Frag) (C : Addr) : Sp := fun vs H Q _ => ∃ a b kvs gs n ks, vs = [.ref a, .ref b] ∧ InAt K C H a kvs gs ∧ SqT K H b (plV n ks) ∧ ks.length ≤ 100 ∧ ∀ v H', Same H H' → DueAt K H' v (atI2 gs n ks) → Q v H'
section
variable {P : Program} {w : World} {K : PySem.W.Frag} {mg : Str → Option Value} {base : Heap} {f C fE fI t0 : Addr} {fd dI : FuncData}
theorem ok_due {k : Nat} (F : Fun K "_law_due" "_law_due" sDue f fd) (B : Bi mg) (T : FaC K mg C fE) (M : MkF P w K mg base C fI dI t0) : FnOk P w K mg base CX0 (k + 3) f fd ["_law_given", "_law_place_here"] (spDue K C) := by
  refine F.ok scDue (fun vs H Q E h => ?_) (fun cdv A outer s H vs Q E hr h => ?_)
  · obtain ⟨a, b, kvs, gs, n, ks, rfl, _⟩ := h
    rfl
  obtain ⟨a, b, kvs, gs, n, ks, rfl, hI, hb, hk, q⟩ := h
  have qN : atI2 gs n ks = none → ∀ H', Same H H' → Q .non H' := fun e H' s => q _ _ s (by rw [e] <;> rfl)
  have qS : ∀ d, atI2 gs n ks = some d → ∀ q v H', Same H H' → H q = none → H' q = some (.lst [v]) → Dp K H' v d → Q (.ref q) H' := fun d e qd v H' s _ h1 h2 => q _ _ s (by rw [e]; exact ⟨qd, v, rfl, h1, h2⟩)
  have hr2 : Room 2 _ := hr.mono (by omega)
  have hu := hu_of hr
  obtain ⟨ds2, v2, b2⟩ := M.b2
  refine ⟨_, pss_cons (ps_set (i := 2) scDue.nd rfl (.inl rfl) (pe_dget2 hu (pv 0) (pe_ix ix_tup (pv 1) pe_int (fun _ _ => rfl)) (pe_make M.mkr M.ok hr2 (by rfl) T.mg b2 v2 pass0 (pa_cons pe_str pa_nil)) ⟨rfl, rfl, rfl, rfl⟩))
    (pss_cons (ps_for PassesOwn.never rfl (pi_tup (pe_slice sl_tupU (pv 1) (po_some pe_int) po_none)) (pg_name (i := 3) scDue.nd rfl (.inl rfl))
      (pss_cons (ps_if (PW.pt (pw_or (pt_not (pt_val (pe_callB (call_isTu T) (by rfl) B.ii b_ii (pa_cons (pv 2) (pa_cons (pe_bltn (by rfl) B.tup (by decide +kernel) (v := .ty "tuple") rfl) pa_nil)))))
          (pw_or1 (pt_cmpR op_ge (pv 3) (pe_callB call_len_seq (by rfl) B.len PySem.boot_len (pa_cons (pv 2) pa_nil)) (nomark _))))) (pss_one (ps_ret pe_non)) pss_nil)
      (pss_one (ps_set (i := 2) scDue.nd rfl (.inl rfl) (pe_ix ix_tup (pv 2) (pv 3) (fun _ _ => rfl))))))
    (pss_one (ps_ret (pe_ifExp (pt_val (pe_callB (call_isFa T) (by rfl) B.ii b_ii (pa_cons (pv 2) (pa_cons (pe_glob (by rfl) T.mg (v := .ref C) rfl) pa_nil)))) pe_non (pe_lst (pa_cons (pv 2) pa_nil)))))), ?_⟩
  have sl0 : atI (plV n ks) 0 = some (V.str n) := atI_nat (j := 0) rfl
  have e0 := atI2_O gs n ks
  refine ⟨_, rfl, a, rfl, .inl ⟨kvs, .inl hI.at_⟩, _, rfl, b, _, 0, _, rfl, rfl, hb, sl0, fun a1 x1 ha1 hx1 ne1 => ⟨a1, x1, "read", .str "", .ref t0, rfl, upd_same, fun H1 e1 k1 => ⟨rfl, ?_⟩⟩⟩
  have s1 : Same H H1 := made_same ha1 hx1 k1
  have hF : VaAt K C H1 (.ref a1) none := ⟨a1, .str "", .ref t0, rfl, x1, e1⟩
  refine ⟨valV kvs (.inr n), DGet.k (k := Sum.inr n) (s1 _ _ hI.at_), ?_⟩
  obtain ⟨v0, ev, hv0⟩ : ∃ v0, (valV kvs (.inr n)).getD (.ref a1) = v0 ∧ VaAt K C H1 v0 ((getI gs n).getD none) := by
    rcases hI.vs.get n with ⟨q1, q2⟩ | ⟨v0, x0, q1, q2, hv⟩
    · rw [q1, q2]
      exact ⟨_, rfl, hF⟩
    · rw [q1, q2]
      exact ⟨v0, rfl, hv.up s1⟩
  rw [ev]
  generalize (getI gs n).getD none = y0 at *
  refine ⟨_, rfl, 1, rfl, b, plV n ks, [], rfl, by (rw [cut_nil]; exact seqT_up s1 hb), tr_nil _, fun c H2 s2 hc => ?_⟩
  rw [cut_nil, show plV n ks = V.str n :: ks.map (fun k : Nat => V.int k) from rfl, cutV_tail] at hc
  have s12 := s1.trans s2
  refine ⟨c, rfl, ⟨_, hc⟩, for_it (walk_tup (K := K) (a := c) (xs := ks.map fun k : Nat => V.int k)) (fun i σ H3 => ∃ o3 v y, σ = [some (.ref a), some (.ref b), some v, o3] ∧ H3 = H2 ∧ VaAt K C H2 v y ∧ atO y0 ks = atO y (ks.drop i)) ⟨none, v0, y0, rfl, rfl, hv0.up s2, by rw [List.drop_zero]⟩ ?_ ?_ ?_⟩
  · rintro i σ H3 hi ⟨o3, v, y, rfl, rfl, _⟩
    exact hc
  · rintro i z σ H3 H3' hi ⟨o3, v, y, rfl, rfl, hv, g3⟩ ⟨rfl, hz⟩
    rw [List.length_map] at hi
    rw [List.getElem?_map, List.getElem?_eq_getElem hi, Option.map_some] at hz
    cases hz
    have dr : ks.drop i = ks[i] :: ks.drop (i + 1) := List.drop_eq_getElem_cons hi
    rw [dr] at g3
    refine ⟨_, rfl, v, y, rfl, hv, _, rfl, ?_⟩
    cases ht : isTupO y with
    | false =>
      have en : atI2 gs n ks = none := by
        rw [e0, g3]
        cases y with
        | none => rfl
        | some d => exact atM_no ht
      exact iteT (iteT (qN en _ s12))
    | true =>
      obtain ⟨d, rfl⟩ : ∃ d, y = some d := by
        cases y with
        | none => cases ht
        | some d => exact ⟨d, rfl⟩
      obtain ⟨wa, xs, ds, rfl, rfl, hw, gw⟩ := tup_of hv ht
      have lw := DpAll.len gw
      refine iteF ⟨_, rfl, _, rfl, wa, _, rfl, .inr hw, _, _, rfl, rfl, _, rfl, ite2 (fun c1 => ?_) (fun c1 => ?_)⟩
      · have c1 : ((xs.length : Int) ≤ (ks[i] : Int)) := of_decide_eq_true c1
        have en : atI2 gs n ks = none := by
          rw [e0, g3]
          exact atM_out (List.getElem?_eq_none (by omega))
        exact qN en _ s12
      · have c1 : ¬ ((xs.length : Int) ≤ (ks[i] : Int)) := of_decide_eq_false (Bool.eq_false_iff.mpr c1)
        have hlt : ks[i] < xs.length := by omega
        have hx : xs[ks[i]]? = some xs[ks[i]] := List.getElem?_eq_getElem hlt
        obtain ⟨e, he, hde⟩ := DpAll.get gw hx
        refine ⟨_, rfl, _, rfl, wa, _, _, _, rfl, rfl, hw, atI_nat hx, _, _, some e, rfl, rfl, hde, ?_⟩
        rw [g3]
        exact atM_tup he
  · rintro σ H3 ⟨o3, v, y, rfl, rfl, hv, g3⟩
    rw [List.length_map, List.drop_length] at g3
    refine ⟨_, rfl, v, y, rfl, hv, _, rfl, ?_⟩
    cases y with
    | none => exact iteT (qN (by rw [e0, g3]; rfl) _ s12)
    | some d =>
      refine iteF ⟨_, rfl, few (by simp), fun q1 hq1 => ?_⟩
      have s3 := same_new (o := .lst [v]) hq1
      exact qS d (by rw [e0, g3]; exact atM_nil d) q1 v _ (s12.trans s3) (s12.free hq1) upd_same (Dp.up s3 _ _ hv)
end
theorem eqv_nil (ds : List PyData) : PyData.eqv (.tuple ds) (.tuple []) = ds.isEmpty := by
  cases ds with
  | nil => simp only [PyData.eqv, PyData.eqvAll, List.isEmpty_nil]
  | cons d ds => simp only [PyData.eqv, PyData.eqvAll, List.isEmpty_cons]
theorem nats_dp {K : PySem.W.Frag} {H : Hp} : ∀ ks : List Nat, DpAll K H (ks.map fun k : Nat => V.int k) (ks.map fun k : Nat => PyData.int k)
  | [] => .nil
  | _ :: ks => .cons (.int _) (nats_dp ks)
theorem nats_lay : ∀ ks : List Nat, PyData.canLayAll0 (ks.map fun k : Nat => PyData.int k) = true ∧ PyData.depthAll (ks.map fun k : Nat => PyData.int k) = 0
  | [] => ⟨by simp only [List.map_nil, PyData.canLayAll0], by simp only [List.map_nil, PyData.depthAll]⟩
  | k :: ks => by
    have ih := nats_lay ks
    exact ⟨by simp only [List.map_cons, PyData.canLayAll0, PyData.canLay0, ih.1, Bool.and_self], by simp only [List.map_cons, PyData.depthAll, PyData.depth, ih.2, Nat.max_self]⟩
theorem nats_shaped (ks : List Nat) : SeqAt.shaped (.tuple (ks.map fun k : Nat => PyData.int k)) = true := by
  have h := nats_lay ks
  show (PyData.canLay0 (.tuple _) && decide (PyData.depth (.tuple _) ≤ 64)) = true
  simp only [PyData.canLay0, PyData.depth, h.1, h.2]
  decide
def spPut (K : PySem.W.Frag) (m : Nat) : Sp := fun vs H Q _ => ∃ u b v ks x y, vs = [u, .ref b, v] ∧ SqT K H b (ks.map fun k : Nat => V.int k) ∧ ks.length < m ∧ Dp K H v x ∧ ((ks = [] ∧ y = x) ∨ ∃ d, Dp K H u d ∧ (∃ e, atM d ks = some e) ∧ nod d ≤ 100000 ∧ y = putM d ks x) ∧
  ∀ w H', Same H H' → Dp K H' w y → Q w H'
section
variable {P : Program} {w : World} {K : PySem.W.Frag} {mg : Str → Option Value} {base : Heap} {f : Addr} {fd : FuncData}
theorem ok_put {k m : Nat} (F : Fun K "_law_put" "_law_put" sPut f fd) (G : FnOk P w K mg base CX0 (k + 1) f fd ["_law_here", "_law_steps", "_law_value_here"] (spPut K m)) (bV : Binds K fd ["_law_here", "_law_steps", "_law_value_here"] []) (mV : mg "_law_put" = some (.ref f)) :
    FnOk P w K mg base CX0 (k + 2) f fd ["_law_here", "_law_steps", "_law_value_here"] (spPut K (m + 1)) := by
  refine F.ok scPut (fun vs H Q E h => ?_) (fun cdv A outer s H vs Q E hr h => ?_)
  · obtain ⟨u, b, v, ks, x, y, rfl, _⟩ := h
    rfl
  obtain ⟨u, b, v, ks, x, y, rfl, hb, hk, hv, hu, q⟩ := h
  refine ⟨_, pss_cons (ps_if (pt_cmpR (op_eqD hr.units) (pv 1) (pe_tup pa_nil) (nomark _)) (pss_one (ps_ret (pv 2))) pss_nil)
    (pss_one (ps_ret (pe_op op_catU (pe_op op_catU (pe_slice sl_tupU (pv 0) po_none (po_some (pe_ix ix_tup (pv 1) pe_int (fun _ _ => rfl))))
        (pe_tup (pa_cons (pe_call G hr (by rfl) mV F.kp bV .nil pass0 (pa_cons (pe_ix ix_tup (pv 0) (pe_ix ix_tup (pv 1) pe_int (fun _ _ => rfl)) (fun _ _ => rfl)) (pa_cons (pe_slice sl_tupU (pv 1) (po_some pe_int) po_none) (pa_cons (pv 2) pa_nil)))) pa_nil)))
        (pe_slice sl_tupU (pv 0) (po_some (pe_op op_add (pe_ix ix_tup (pv 1) pe_int (fun _ _ => rfl)) pe_int)) po_none)))), ?_⟩
  refine ⟨_, rfl, by decide, fun t ht => ?_⟩
  have s1 := same_new (o := .tup []) ht
  have hb1 := seqT_up s1 hb
  refine ⟨.tuple (ks.map fun k : Nat => PyData.int k), .tuple [], .tup hb1 (nats_dp ks), .tup (.inl (.inl upd_same)) .nil, nats_shaped ks, by decide +kernel, _, rfl, ?_⟩
  rw [eqv_nil]
  cases ks with
  | nil =>
    refine iteT ⟨_, rfl, q _ _ s1 ?_⟩
    rcases hu with ⟨_, rfl⟩ | ⟨d, _, _, _, rfl⟩
    · exact Dp.up s1 _ _ hv
    · exact Dp.up s1 _ _ hv
  | cons k0 ks =>
    refine iteF ?_
    rcases hu with ⟨z, _⟩ | ⟨d, hd, ⟨e, he⟩, nd, rfl⟩
    · exact absurd z (by simp)
    obtain ⟨ds, rfl⟩ : ∃ ds, d = .tuple ds := by
      cases ht : isTup d with
      | false =>
        rw [atM_no ht] at he
        cases he
      | true =>
        obtain ⟨_, _, ds, _, z, _⟩ := tup_of hd ht
        exact ⟨ds, z⟩
    obtain ⟨wa, xs, ds', rfl, z, hw, gw⟩ := tup_of hd rfl
    cases z
    have lw := DpAll.len gw
    obtain ⟨e0, h0⟩ : ∃ e0, ds[k0]? = some e0 := by
      cases h0 : ds[k0]? with
      | none =>
        rw [atM_out h0] at he
        cases he
      | some e0 => exact ⟨e0, rfl⟩
    rw [atM_tup h0] at he
    have lk := (List.getElem?_eq_some_iff.mp h0).1
    have hx : xs[k0]? = some (xs[k0]'(by omega)) := List.getElem?_eq_getElem (by omega)
    obtain ⟨e0', h0', hde⟩ := DpAll.get gw hx
    rw [h0] at h0'
    cases h0'
    have nl := nods_len ds
    have nm := nods_mem (List.mem_of_getElem? h0)
    simp only [nod] at nd
    have sl0 : atI ((k0 :: ks).map fun k : Nat => V.int k) 0 = some (V.int (k0 : Nat)) := atI_nat (j := 0) rfl
    have w1 := seqT_up s1 hw
    refine ⟨_, rfl, _, rfl, b, _, 0, _, rfl, rfl, hb1, sl0, _, rfl, wa, xs, [], rfl, by (rw [cut_nil]; exact w1), tr_nil _, fun t1 H2 s2 h2 => ?_⟩
    rw [cut_nil, cutV_take xs (by omega) (by omega)] at h2
    have s12 := s1.trans s2
    have hb2 := seqT_up s2 hb1
    refine ⟨_, rfl, _, rfl, b, _, 0, _, rfl, rfl, hb2, sl0, wa, _, _, _, rfl, rfl, seqT_up s12 hw, atI_nat hx, _, rfl, 1, rfl, b, _, [], rfl, by (rw [cut_nil]; exact hb2), tr_nil _, fun t2 H3 s3 h3 => ?_⟩
    rw [cut_nil, List.map_cons, cutV_tail] at h3
    have s13 := s12.trans s3
    refine ⟨_, rfl, xs[k0]'(by omega), t2, v, ks, x, putM e0 ks x, rfl, h3, by (simp only [List.length_cons] at hk; omega), Dp.up s13 _ _ hv, .inr ⟨e0, Dp.up s13 _ _ hde, ⟨e, he⟩, by omega, rfl⟩, fun w4 H4 s4 h4 => ⟨few (by simp), fun t3 ht3 => ?_⟩⟩
    have s5 := same_new (o := .tup [w4]) ht3
    have s35 := s3.trans (s4.trans s5)
    refine ⟨t1, t3, _, _, [], rfl, rfl, by (rw [cut_nil]; exact seqT_up s35 h2), by (rw [cut_nil]; exact .inl (.inl upd_same)), tr_nil _, few2 ?_, fun t4 H6 s6 h6 => ?_⟩
    · simp only [List.length_take, List.length_cons, List.length_nil, Int.toNat_natCast]
      omega
    rw [cut_nil] at h6
    have s15 := s12.trans (s35.trans s6)
    have hb6 := seqT_up s15 hb
    refine ⟨_, rfl, _, rfl, b, _, 0, _, rfl, rfl, hb6, sl0, _, _, rfl, rfl, _, rfl, wa, xs, [], rfl, by (rw [cut_nil]; exact seqT_up s15 hw), tr_nil _, fun t5 H7 s7 h7 => ?_⟩
    rw [cut_nil, cutV_drop xs (by omega) (by omega)] at h7
    refine ⟨t4, t5, _, _, [], rfl, rfl, by (rw [cut_nil]; exact seqT_up s7 h6), by (rw [cut_nil]; exact h7), tr_nil _, few2 ?_, fun t6 H8 s8 h8 => ?_⟩
    · simp only [List.length_append, List.length_take, List.length_drop, List.length_cons, List.length_nil]
      omega
    rw [cut_nil] at h8
    have s18 := s15.trans (s7.trans s8)
    refine q _ _ s18 ?_
    rw [putM_tup x h0]
    have e7 : ((k0 : Nat) : Int).toNat = k0 := by omega
    have e8 : (((k0 : Nat) : Int) + 1).toNat = k0 + 1 := by omega
    rw [e7, e8, List.append_assoc] at h8
    have g8 := Dp.ups s18 _ _ gw
    exact .tup h8 (DpAll.app (DpAll.parts g8 _).1 (.cons (Dp.up (s5.trans (s6.trans (s7.trans s8))) _ _ h4) (DpAll.parts g8 _).2))
end
/-! places told -/
abbrev sIsPl : Stmt := topS 9
abbrev sLIsPl : Stmt := topS 27
abbrev sOdd : Stmt := topS 26
theorem scIsPl : FnScope ["thing", "index"] ["thing"] (defScope sIsPl) := ⟨rfl, rfl, rfl, by decide +kernel, rfl, by decide +kernel, by decide +kernel⟩
theorem scLIsPl : FnScope ["_law_thing", "_law_letters", "_law_one", "_law_k"] ["_law_thing"] (defScope sLIsPl) := ⟨rfl, rfl, rfl, by decide +kernel, rfl, by decide +kernel, by decide +kernel⟩
theorem scOdd : FnScope ["_law_box_here", "_law_place_here", "_law_at", "_law_form", "_law_some", "_law_steps", "_law_step"] ["_law_box_here", "_law_place_here"] (defScope sOdd) := ⟨rfl, rfl, rfl, by decide +kernel, rfl, by decide +kernel, by decide +kernel⟩
def stepD : PyData → Bool
  | .int i => decide (0 ≤ i)
  | _ => false
def isPl : PyData → Bool
  | .tuple (d :: ds) => nmD d && ds.all stepD
  | _ => false
theorem isPl_no {d : PyData} (h : isTup d = false) : isPl d = false := by
  cases d with
  | tuple ds => cases h
  | none => rfl
  | bool b => rfl
  | int i => rfl
  | str x => rfl
  | list l => rfl
  | dict l => rfl
section
variable {P : Program} {w : World} {K : PySem.W.Frag} {mg : Str → Option Value} {base : Heap} {f fN fG : Addr} {fd dN dG : FuncData}
theorem ok_isPl {k : Nat} (F : Fun K "is_place" "is_place" sIsPl f fd) (B : Bi mg) (GN : Dn P w K mg base 1 "is_name" ["thing"] (spLook K (fun d => gd d = true) fun d => .bl (nmD d)) fN dN)
    (GI : Dn P w K mg base 1 "is_integer" ["thing"] (spLook K (fun _ => True) fun d => .bl (inD d)) fG dG) : FnOk P w K mg base CX0 (k + 2) f fd ["thing"] (spLook K (fun d => gd d = true ∧ nod d ≤ 900) fun d => .bl (isPl d)) := by
  refine F.ok scIsPl (fun vs H Q E h => ?_) (fun cdv A outer s H vs Q E hr h => ?_)
  · obtain ⟨v, d, rfl, _⟩ := h
    rfl
  obtain ⟨v, d, rfl, hd, ⟨hg, hn⟩, q⟩ := h
  have q : ∀ H', Same H H' → Q (.bl (isPl d)) H' := q
  have hr1 : Room 1 _ := hr.mono (by omega)
  refine ⟨_, pss_cons (ps_if (PW.pt (pw_or (pt_not (pt_val (pe_callB call_isD (by rfl) B.ii b_ii (pa_cons (pv 0) (pa_cons (pe_bltn (by rfl) B.tup b_tup (v := .ty "tuple") rfl) pa_nil)))))
      (pw_or (pt_not (pt_truth (pv 0) (by intro _; rfl))) (pw_or1 (pt_not (pt_val (pe_call GN.ok hr1 (by rfl) GN.mg GN.kp GN.bd .nil pass0 (pa_cons (pe_ix ix_tup (pv 0) pe_int (fun _ _ => rfl)) pa_nil))))))))
      (pss_one (ps_ret pe_bl)) pss_nil)
    (pss_one (ps_ret (pe_callB (cr_all rfl) (by rfl) B.all b_all (pa_cons (pe_lc (own := [("index", 1)]) (g := gName 1) (by rfl) scIsPl.nd (pi_tup (pe_slice sl_tupU (pv 0) (po_some pe_int) po_none))
      (blkOk_by (own := [("index", 1)]) (N := ["thing", "index"]) (sc := defScope sIsPl) (by decide +kernel))
      (fun _ _ _ _ _ => pg_name (i := 1) scIsPl.nd rfl (Or.inl rfl)) (fun _ _ _ _ _ => pts_nil)
      (fun _ _ _ _ _ => pe_and (pe_call GI.ok hr1 (by rfl) GI.mg GI.kp GI.bd .nil pass0 (pa_cons (pv 1) pa_nil)) (pe_one (pe_cmpR op_ge (pv 1) pe_int (nomark _))))) pa_nil)))), ?_⟩
  refine ⟨_, rfl, v, d, "tuple", _, rfl, hd, kit_tup d, _, rfl, ?_⟩
  cases ht : isTup d with
  | false =>
    rw [isPl_no ht] at q
    exact iteT (iteT (q H (Same.refl H)))
  | true =>
    refine iteF ?_
    obtain ⟨a, xs, ds, rfl, rfl, hx, dx⟩ := tup_of hd ht
    have lx := DpAll.len dx
    have hg2 : gds ds = true := by simpa only [gd] using hg
    simp only [nod] at hn
    have ln := nods_len ds
    refine ⟨_, rfl, !xs.isEmpty, .inr (.inl ⟨xs, hx, rfl⟩), ?_⟩
    cases dx with
    | nil => exact iteT (iteT (q H (Same.refl H)))
    | @cons x0 xs d0 ds h1 h2 =>
      simp only [gds, Bool.and_eq_true] at hg2
      refine iteF ⟨_, rfl, a, _, 0, x0, rfl, rfl, hx, atI_nat (j := 0) rfl, x0, d0, rfl, h1, hg2.1, fun H1 s1 => ⟨_, rfl, ?_⟩⟩
      have ei : isPl (.tuple (d0 :: ds)) = (nmD d0 && ds.all stepD) := rfl
      rw [ei] at q
      cases hm : nmD d0 with
      | false =>
        rw [hm, Bool.false_and] at q
        exact iteT (q H1 s1)
      | true =>
        rw [hm, Bool.true_and] at q
        refine iteF ⟨_, rfl, 1, rfl, a, _, [], rfl, by (rw [cut_nil]; exact seqT_up s1 hx), tr_nil _, fun c H2 s2 hc => ?_⟩
        rw [cut_nil, cutV_tail] at hc
        have s12 := s1.trans s2
        have l2 := DpAll.len h2
        refine ⟨c, rfl, ⟨_, hc⟩, fun D hD => lc_it (walk_tup (K := K) (a := c) (xs := xs)) (fun i H3 => H3 D = some (.lst ((ds.take i).map fun e => V.bl (stepD e))) ∧ Same H2 H3) ⟨upd_same, same_new hD _⟩ ?_ ?_ ?_⟩
        · rintro i H3 hi ⟨g1, g2⟩
          exact seqT_up g2 hc
        · rintro i y H3 H4 hi ⟨g1, g2⟩ ⟨rfl, hy⟩
          obtain ⟨e, he, hde⟩ := DpAll.get h2 hy
          refine ⟨rfl, _, rfl, y, e, rfl, Dp.up (s12.trans g2) _ _ hde, True.intro, fun H5 s5 => ?_⟩
          have fin : ∀ b : Bool, b = stepD e → ∃ acc, H5 D = some (.lst acc) ∧ acc.length < sizeLine ∧ (upd H5 D (.lst (acc ++ [V.bl b]))) D = some (.lst ((ds.take (i + 1)).map fun e => V.bl (stepD e))) ∧ Same H2 (upd H5 D (.lst (acc ++ [V.bl b]))) := by
            intro b hb
            refine ⟨_, s5 _ _ g1, few1 ?_, ?_, ?_⟩
            · rw [List.length_map, List.length_take]
              simp only [List.length_cons] at ln
              omega
            · rw [upd_same, get_take he, List.map_append, hb]
              rfl
            · intro b2 o z
              rw [upd_ne (ne_of_none z hD)]
              exact (g2.trans s5) b2 o z
          refine ⟨inD e, rfl, ?_⟩
          cases hi2 : inD e with
          | false =>
            refine iteF (fin _ ?_)
            cases e <;> first | rfl | cases hi2
          | true =>
            obtain ⟨z, rfl⟩ : ∃ z, e = .int z := by cases e <;> first | exact ⟨_, rfl⟩ | cases hi2
            cases hde
            exact iteT ⟨_, rfl, _, _, rfl, rfl, fin _ rfl⟩
        · rintro H3 ⟨g1, g2⟩
          rw [l2, List.take_length] at g1
          refine ⟨D, ds.map stepD, rfl, SqL.of ?_, ?_⟩
          · rw [g1, List.map_map]
            rfl
          · rw [all_map]
            exact q H3 (s12.trans g2)
end
theorem alpha_list : ("abcdefghijklmnopqrstuvwxyz" : Str).cps.toList = (List.range 26).map (· + 97) := by decide +kernel
theorem alpha_mem (c : Nat) : decide (c ∈ ("abcdefghijklmnopqrstuvwxyz" : Str).cps.toList) = lowOk c := by
  rw [alpha_list]
  by_cases h : 97 ≤ c ∧ c ≤ 122
  · have m : c ∈ (List.range 26).map (· + 97) := List.mem_map.mpr ⟨c - 97, List.mem_range.mpr (by omega), by show c - 97 + 97 = c; omega⟩
    rw [decide_eq_true m]
    unfold lowOk
    rw [decide_eq_true h.1, decide_eq_true h.2]
    rfl
  · have m : ¬ c ∈ (List.range 26).map (· + 97) := fun z => by
      obtain ⟨b, hb, e⟩ := List.mem_map.mp z
      have := List.mem_range.mp hb
      have e : b + 97 = c := e
      omega
    rw [decide_eq_false m]
    unfold lowOk
    by_cases h1 : 97 ≤ c
    · rw [decide_eq_true h1, decide_eq_false (fun h2 => h ⟨h1, h2⟩)]
      rfl
    · rw [decide_eq_false h1]
      rfl
theorem eqv_nilL (ds : List PyData) : PyData.eqv (.list ds) (.list []) = ds.isEmpty := by
  cases ds with
  | nil => simp only [PyData.eqv, PyData.eqvAll, List.isEmpty_nil]
  | cons d ds => simp only [PyData.eqv, PyData.eqvAll, List.isEmpty_cons]
theorem strs_dp {K : PySem.W.Frag} {H : Hp} : ∀ cs : List Nat, DpAll K H (cs.map fun c => V.str ⟨#[c]⟩) (cs.map fun c => PyData.str ⟨#[c]⟩)
  | [] => .nil
  | _ :: cs => .cons (.str _) (strs_dp cs)
theorem strs_gd : ∀ cs : List Nat, (∀ c ∈ cs, c < 128) → gds (cs.map fun c => PyData.str ⟨#[c]⟩) = true ∧ PyData.depthAll (cs.map fun c => PyData.str ⟨#[c]⟩) = 0
  | [], _ => ⟨by simp only [List.map_nil, gds], by simp only [List.map_nil, PyData.depthAll]⟩
  | c :: cs, h => by
    have ih := strs_gd cs fun x hx => h x (List.mem_cons_of_mem _ hx)
    have hc : Sm 1 (⟨#[c]⟩ : Str) := ⟨Nat.le_refl _, fun d hd => by
      have hd : d ∈ [c] := hd
      rw [List.mem_singleton.mp hd]
      exact h c List.mem_cons_self⟩
    exact ⟨by simp only [List.map_cons, gds, ih.1, hc.gd (by decide), Bool.and_self], by simp only [List.map_cons, PyData.depthAll, PyData.depth, ih.2, Nat.max_self]⟩
section
variable {P : Program} {w : World} {K : PySem.W.Frag} {mg : Str → Option Value} {base : Heap} {f fN fG : Addr} {fd dN dG : FuncData}
theorem ok_lisPl {k : Nat} (F : Fun K "_law_is_place" "_law_is_place" sLIsPl f fd) (B : Bi mg) : FnOk P w K mg base CX0 (k + 2) f fd ["_law_thing"] (spLook K (fun d => gd d = true ∧ nod d ≤ 900 ∧ d.depth ≤ 40) fun d => .bl (isPl d)) := by
  refine F.ok scLIsPl (fun vs H Q E h => ?_) (fun cdv A outer s H vs Q E hr h => ?_)
  · obtain ⟨v, d, rfl, _⟩ := h
    rfl
  obtain ⟨v, d, rfl, hd, ⟨hg, hn, hdp⟩, q⟩ := h
  have q : ∀ H', Same H H' → Q (.bl (isPl d)) H' := q
  refine ⟨_, pss_cons (ps_set (i := 1) scLIsPl.nd rfl (.inr rfl) pe_str)
    (pss_cons (ps_if (PW.pt (pw_or (pt_not (pt_val (pe_callB call_isD (by rfl) B.ii b_ii (pa_cons (pv 0) (pa_cons (pe_bltn (by rfl) B.tup b_tup (v := .ty "tuple") rfl) pa_nil)))))
      (pw_or (pt_cmpR (op_eqD hr.units) (pv 0) (pe_tup pa_nil) (nomark _)) (pw_or1 (pt_not (pt_val (pe_callB call_isD (by rfl) B.ii b_ii (pa_cons (pe_ix ix_tup (pv 0) pe_int (fun _ _ => rfl)) (pa_cons (pe_bltn (by rfl) B.str b_str (v := .ty "str") rfl) pa_nil)))))))))
      (pss_one (ps_ret pe_bl)) pss_nil)
    (pss_cons (ps_if (PW.pt (pw_or (pt_not (pt_chain op_le op_le pe_int (pe_callB call_len_str (by rfl) B.len PySem.boot_len (pa_cons (pe_ix ix_tup (pv 0) pe_int (fun _ _ => rfl)) pa_nil)) pe_int))
      (pw_or1 (pt_cmpR (op_neD hr.units) (pe_lc (own := [("_law_one", 2)]) (g := gName 2) (by rfl) scLIsPl.nd (pi_str (pe_ix ix_tup (pv 0) pe_int (fun _ _ => rfl)))
        (blkOk_by (own := [("_law_one", 2)]) (N := ["_law_thing", "_law_letters", "_law_one", "_law_k"]) (sc := defScope sLIsPl) (by decide +kernel))
        (fun _ _ _ _ _ => pg_name (i := 2) scLIsPl.nd rfl (Or.inl rfl)) (fun _ _ _ _ _ => pts_one (pt_cmpR op_notIn_sign (pv 2) (pv 1) rfl)) (fun _ _ _ _ _ => pv 2)) (pe_lst pa_nil) (nomark _)))))
      (pss_one (ps_ret pe_bl)) pss_nil)
    (pss_one (ps_ret (pe_callB (cr_all rfl) (by rfl) B.all b_all (pa_cons (pe_lc (own := [("_law_k", 3)]) (g := gName 3) (by rfl) scLIsPl.nd (pi_tup (pe_slice sl_tupU (pv 0) (po_some pe_int) po_none))
      (blkOk_by (own := [("_law_k", 3)]) (N := ["_law_thing", "_law_letters", "_law_one", "_law_k"]) (sc := defScope sLIsPl) (by decide +kernel))
      (fun _ _ _ _ _ => pg_name (i := 3) scLIsPl.nd rfl (Or.inl rfl)) (fun _ _ _ _ _ => pts_nil)
      (fun _ _ _ _ _ => pe_and (pe_callB (call_isK (K := K) rfl) (by rfl) B.ii b_ii (pa_cons (pv 3) (pa_cons (pe_bltn (by rfl) B.int (by decide +kernel) (v := .ty "int") rfl) pa_nil)))
        (pe_and (pe_not (pe_callB (call_isK (K := K) rfl) (by rfl) B.ii b_ii (pa_cons (pv 3) (pa_cons (pe_bltn (by rfl) B.bool (by decide +kernel) (v := .ty "bool") rfl) pa_nil)))) (pe_one (pe_cmpR op_ge (pv 3) pe_int (nomark _)))))) pa_nil)))))), ?_⟩
  refine ⟨_, rfl, v, d, "tuple", _, rfl, hd, kit_tup d, _, rfl, ?_⟩
  cases ht : isTup d with
  | false =>
    rw [isPl_no ht] at q
    exact iteT (iteT (q H (Same.refl H)))
  | true =>
    refine iteF ?_
    obtain ⟨a, xs, ds, rfl, rfl, hx, dx⟩ := tup_of hd ht
    have lx := DpAll.len dx
    have hg2 : gds ds = true := by simpa only [gd] using hg
    have hgt := hg
    simp only [nod] at hn
    have ln := nods_len ds
    refine ⟨_, rfl, by decide, fun t0 ht0 => ?_⟩
    have s0 := same_new (o := .tup []) ht0
    refine ⟨.tuple ds, .tuple [], .tup (seqT_up s0 hx) (Dp.ups s0 _ _ dx), .tup (.inl (.inl upd_same)) .nil, shaped_of hgt (by omega), by decide +kernel, _, rfl, ?_⟩
    rw [eqv_nil]
    cases dx with
    | nil => exact iteT (iteT (q _ s0))
    | @cons x0 xs d0 ds h1 h2 =>
      simp only [gds, Bool.and_eq_true] at hg2
      have hx0 := seqT_up s0 hx
      refine iteF ⟨_, rfl, a, _, 0, x0, rfl, rfl, hx0, atI_nat (j := 0) rfl, x0, d0, "str", _, rfl, Dp.up s0 _ _ h1, kit_str d0, _, rfl, ?_⟩
      have ei : isPl (.tuple (d0 :: ds)) = (nmD d0 && ds.all stepD) := rfl
      rw [ei] at q
      cases hs : isStr d0 with
      | false =>
        have e : nmD d0 = false := by cases d0 <;> first | rfl | cases hs
        rw [e, Bool.false_and] at q
        exact iteT (q _ s0)
      | true =>
        obtain ⟨x, rfl⟩ : ∃ x, d0 = .str x := by cases d0 <;> first | exact ⟨_, rfl⟩ | cases hs
        cases h1
        have hxl := gd_str hg2.1
        have hlow : ∀ c ∈ x.cps.toList, c < 128 := by
          have hg3 := hg2.1
          simp only [gd, Bool.and_eq_true, List.all_eq_true, decide_eq_true_eq] at hg3
          exact hg3.2
        have ev : nmD (.str x) = (decide (1 ≤ x.length) && decide (x.length ≤ 8) && x.cps.toList.all lowOk) := rfl
        rw [ev] at q
        have sl0 : atI (V.str x :: xs) 0 = some (V.str x) := atI_nat (j := 0) rfl
        refine iteF ⟨_, rfl, a, _, 0, _, rfl, rfl, hx0, sl0, x, rfl, Nat.le_trans hxl (by decide), _, _, rfl, rfl, _, rfl, ?_⟩
        by_cases c1 : 1 ≤ x.length
        case neg =>
          have c1' : ¬ (1 : Int) ≤ (x.length : Int) := by omega
          rw [decide_eq_false c1']
          rw [decide_eq_false c1, Bool.false_and, Bool.false_and, Bool.false_and] at q
          exact iteF ⟨_, rfl, iteT (iteT (q _ s0))⟩
        case pos =>
        have c1' : (1 : Int) ≤ (x.length : Int) := by omega
        rw [decide_eq_true c1']
        refine iteT ⟨_, _, rfl, rfl, _, rfl, ?_⟩
        by_cases c2 : x.length ≤ 8
        case neg =>
          have c2' : ¬ (x.length : Int) ≤ 8 := by omega
          rw [decide_eq_false c2']
          rw [decide_eq_false c2, Bool.and_false, Bool.false_and, Bool.false_and] at q
          exact iteT (iteT (q _ s0))
        case pos =>
        have c2' : (x.length : Int) ≤ 8 := by omega
        rw [decide_eq_true c2']
        rw [decide_eq_true c1, decide_eq_true c2, Bool.true_and, Bool.true_and] at q
        refine iteF ⟨_, rfl, a, _, 0, _, rfl, rfl, hx0, sl0, x, rfl, fun D hD => along walk_str (fun i H2 => ∃ cs : List Nat, cs = (x.cps.toList.take i).filter (fun c => !lowOk c) ∧ H2 D = some (.lst (cs.map fun c => V.str ⟨#[c]⟩)) ∧ Same H H2) ⟨[], rfl, upd_same, s0.trans (same_new hD _)⟩ (fun _ _ _ _ => True.intro) ?_ ?_⟩
        · rintro i y H2 H3 hi ⟨cs, ec, h1, h2⟩ ⟨rfl, c, hc, rfl⟩
          refine ⟨rfl, _, rfl, _, rfl, c, _, rfl, rfl, ?_⟩
          have tk := get_take (cps_at hc)
          rw [alpha_mem]
          refine ⟨_, rfl, ?_⟩
          cases hl : lowOk c with
          | true =>
            refine iteF ⟨cs, ?_, h1, h2⟩
            rw [tk, List.filter_append, ec]
            simp [hl]
          | false =>
            refine iteT ⟨_, rfl, _, h1, ?_, cs ++ [c], ?_, ?_, ?_⟩
            · rw [List.length_map, ec]
              have := List.length_filter_le (fun c => !lowOk c) (x.cps.toList.take i)
              rw [List.length_take] at this
              have : x.cps.toList.length = x.length := by simp [len_cps]
              exact small1000 (by omega)
            · rw [tk, List.filter_append, ec]
              simp [hl]
            · rw [upd_same, List.map_append]
              rfl
            · intro b o z
              rw [upd_ne (ne_of_none z (s0.free hD))]
              exact h2 b o z
        · rintro H2 ⟨cs, ec, h1, h3⟩
          rw [List.take_of_length_le (by simp)] at ec
          have sg := strs_gd cs (fun c hc => by rw [ec] at hc; exact hlow c (List.mem_filter.mp hc).1)
          refine ⟨by decide, fun t ht2 => ?_⟩
          have s3 : Same H2 (upd H2 t (.lst [])) := same_new ht2 _
          refine ⟨.list (cs.map fun c => PyData.str ⟨#[c]⟩), .list [], .lst (SqL.of (s3 _ _ h1)) (strs_dp cs), .lst (SqL.of upd_same) .nil, shaped_of (by simpa only [gd] using sg.1) (by simp only [PyData.depth, sg.2]; omega), by decide +kernel, _, rfl, ?_⟩
          rw [eqv_nilL]
          have e : (cs.map fun c => PyData.str ⟨#[c]⟩).isEmpty = x.cps.toList.all lowOk := by
            rw [List.isEmpty_map, ec]
            clear ec h1 sg q hlow c1 c2 c1' c2' ev
            induction x.cps.toList with
            | nil => rfl
            | cons c l ih =>
              cases hl : lowOk c with
              | true => simpa [List.filter_cons, hl] using ih
              | false => simp [List.filter_cons, hl]
          rw [e]
          have s03 := h3.trans s3
          cases hall : x.cps.toList.all lowOk with
          | false =>
            rw [hall, Bool.false_and] at q
            exact iteT (q _ s03)
          | true =>
            rw [hall, Bool.true_and] at q
            refine iteF ⟨_, rfl, 1, rfl, a, _, [], rfl, by (rw [cut_nil]; exact seqT_up s03 hx), tr_nil _, fun c H4 s4 hc => ?_⟩
            rw [cut_nil, cutV_tail] at hc
            have s12 := s03.trans s4
            have l2 := DpAll.len h2
            refine ⟨c, rfl, ⟨_, hc⟩, fun D2 hD2 => lc_it (walk_tup (K := K) (a := c) (xs := xs)) (fun i H3 => H3 D2 = some (.lst ((ds.take i).map fun e => V.bl (stepD e))) ∧ Same H4 H3) ⟨upd_same, same_new hD2 _⟩ ?_ ?_ ?_⟩
            · rintro i H3 hi ⟨g1, g2⟩
              exact seqT_up g2 hc
            · rintro i y H3 H5 hi ⟨g1, g2⟩ ⟨rfl, hy⟩
              obtain ⟨e, he, hde⟩ := DpAll.get h2 hy
              have hd5 := Dp.up (s12.trans g2) _ _ hde
              have fin : ∀ b : Bool, b = stepD e → ∃ acc, H5 D2 = some (.lst acc) ∧ acc.length < sizeLine ∧ (upd H5 D2 (.lst (acc ++ [V.bl b]))) D2 = some (.lst ((ds.take (i + 1)).map fun e => V.bl (stepD e))) ∧ Same H4 (upd H5 D2 (.lst (acc ++ [V.bl b]))) := by
                intro b hb
                refine ⟨_, g1, few1 ?_, ?_, ?_⟩
                · rw [List.length_map, List.length_take]
                  simp only [List.length_cons] at ln
                  omega
                · rw [upd_same, get_take he, List.map_append, hb]
                  rfl
                · intro b2 o z
                  rw [upd_ne (ne_of_none z hD2)]
                  exact g2 b2 o z
              refine ⟨rfl, _, rfl, y, e, "int", _, rfl, hd5, kit_int e, _, rfl, ?_⟩
              cases hi2 : isIntB e with
              | false =>
                refine iteF (fin _ ?_)
                cases e <;> first | rfl | cases hi2
              | true =>
                refine iteT ⟨_, rfl, y, e, "bool", _, rfl, hd5, kit_bool e, _, rfl, _, rfl, ?_⟩
                cases hb : isBool e with
                | true =>
                  refine iteF (fin _ ?_)
                  cases e <;> first | rfl | cases hb
                | false =>
                  obtain ⟨z, rfl⟩ : ∃ z, e = .int z := by cases e <;> first | exact ⟨_, rfl⟩ | (cases hi2; done) | (cases hb; done)
                  cases hd5
                  exact iteT ⟨_, rfl, _, _, rfl, rfl, fin _ rfl⟩
            · rintro H3 ⟨g1, g2⟩
              rw [l2, List.take_length] at g1
              refine ⟨D2, ds.map stepD, rfl, SqL.of ?_, ?_⟩
              · rw [g1, List.map_map]
                rfl
              · rw [all_map]
                exact q H3 (s12.trans g2)
end
/-! things that are like places -/
def Thg (K : PySem.W.Frag) (l : List Addr) (H : Hp) (v : V) : Prop := ∃ d, Dp K (cut l H) v d ∧ gd d = true ∧ nod d ≤ 100 ∧ d.depth ≤ 4
theorem Thg.up {K : PySem.W.Frag} {l : List Addr} {H H' : Hp} {v : V} (s : Same (cut l H) (cut l H')) (h : Thg K l H v) : Thg K l H' v :=
  let ⟨d, a, b⟩ := h
  ⟨d, Dp.up s d v a, b⟩
/-- data without parts -/
def Flat (ds : List PyData) : Prop := ∀ d ∈ ds, gd d = true ∧ nod d = 1 ∧ d.depth = 0
theorem Flat.all : ∀ {ds : List PyData}, Flat ds → gds ds = true ∧ nods ds = ds.length ∧ PyData.depthAll ds = 0
  | [], _ => ⟨by simp only [gds], by simp only [nods, List.length_nil], by simp only [PyData.depthAll]⟩
  | d :: ds, h => by
    have ih := Flat.all (ds := ds) fun e m => h e (List.mem_cons_of_mem _ m)
    have h0 := h d List.mem_cons_self
    exact ⟨by simp only [gds, h0.1, ih.1, Bool.and_self], by simp only [nods, h0.2.1, ih.2.1, List.length_cons]; omega, by simp only [PyData.depthAll, h0.2.2, ih.2.2, Nat.max_self]⟩
def plD (n : Str) (ks : List Nat) : List PyData := .str n :: ks.map fun k : Nat => PyData.int k
theorem pl_dp {K : PySem.W.Frag} {H : Hp} (n : Str) (ks : List Nat) : DpAll K H (plV n ks) (plD n ks) := .cons (.str n) (nats_dp ks)
theorem pl_flat {n : Str} {ks : List Nat} (sn : Sm 8 n) (hk : ∀ k ∈ ks, k ≤ 1000) : Flat (plD n ks) := by
  intro d m
  rcases List.mem_cons.mp m with e | m
  · subst e
    exact ⟨sn.gd (by decide), by simp only [nod], by simp only [PyData.depth]⟩
  · obtain ⟨k, hk2, rfl⟩ := List.mem_map.mp m
    have := hk k hk2
    refine ⟨gd_int ?_, by simp only [nod], by simp only [PyData.depth]⟩
    exact Nat.lt_of_le_of_lt (show ((k : Nat) : Int).natAbs ≤ 1000 from by omega) (Nat.lt_of_lt_of_le (by decide : 1000 < 2 ^ 10) (Nat.pow_le_pow_right (by decide) (by decide)))
/-- a tuple of things that are flat -/
theorem thg_tup {K : PySem.W.Frag} {l : List Addr} {H : Hp} {t : Addr} {xs : List V} {ds : List PyData} (h : SqT K (cut l H) t xs) (hd : DpAll K (cut l H) xs ds) (f : Flat ds) (hn : xs.length ≤ 60) : Thg K l H (.ref t) := by
  have a := f.all
  have := DpAll.len hd
  exact ⟨.tuple ds, .tup h hd, by simpa only [gd] using a.1, by simp only [nod, a.2.1]; omega, by simp only [PyData.depth, a.2.2]; omega⟩
theorem thg_flat {K : PySem.W.Frag} {l : List Addr} {H : Hp} {v : V} {d : PyData} (h : Dp K (cut l H) v d) (hg : gd d = true) (hn : nod d = 1) (hd : d.depth = 0) : Thg K l H v := ⟨d, h, hg, by omega, by omega⟩
theorem flat_app {ds es : List PyData} (a : Flat ds) (b : Flat es) : Flat (ds ++ es) := fun d m => (List.mem_append.mp m).elim (a d) (b d)
theorem flat_one {d : PyData} (hg : gd d = true) (hn : nod d = 1) (hd : d.depth = 0) : Flat [d] := fun e m => by
  rw [List.mem_singleton.mp m]
  exact ⟨hg, hn, hd⟩
theorem flat_sub {ds es : List PyData} (a : Flat ds) (h : ∀ e ∈ es, e ∈ ds) : Flat es := fun d m => a d (h d m)
def spOdd (K : PySem.W.Frag) : Sp := fun vs H Q _ => ∃ p g b l n ks, vs = [.ref p, .ref b] ∧ Box H p g ∧ Tr l H ∧ p ∈ l ∧ g ∈ l ∧ SqT K (cut l H) b (plV n ks) ∧ Sm 8 n ∧ ks.length ≤ 10 ∧ (∀ k ∈ ks, k ≤ 1000) ∧ ∀ v H', Box H' p g → Off [p, g] H H' → Thg K l H' v → Q v H'
section
variable {P : Program} {w : World} {K : PySem.W.Frag} {mg : Str → Option Value} {base : Heap} {f fT : Addr} {fd dT : FuncData}
theorem ok_odd {k : Nat} (F : Fun K "_law_odd" "_law_odd" sOdd f fd) (B : Bi mg) (ml : mg "list" = none) (T : Tk P w K mg base fT dT) : FnOk P w K mg base CX0 (k + 2) f fd ["_law_box_here", "_law_place_here"] (spOdd K) := by
  refine F.ok scOdd (fun vs H Q E h => ?_) (fun cdv A outer s H vs Q E hr h => ?_)
  · obtain ⟨p, g, b, l, n, ks, rfl, _⟩ := h
    rfl
  obtain ⟨p, g, b, l, n, ks, rfl, hb, tl, pl, gl, hP, sn, lk, hk, q⟩ := h
  have hr1 : Room 1 _ := hr.mono (by omega)
  refine ⟨_, pss_cons (ps_asg (pe_tup (pa_cons (pe_call T.ok hr1 (by rfl) T.mg T.kp T.bd .nil pass0 (pa_cons (pv 0) (pa_cons (pe_callB call_len_seq (by rfl) B.len PySem.boot_len (pa_cons (pv 1) pa_nil)) pa_nil)))
        (pa_cons (pe_call T.ok hr1 (by rfl) T.mg T.kp T.bd .nil pass0 (pa_cons (pv 0) (pa_cons pe_int pa_nil))) pa_nil)))
      (pg_tup (by rfl) (pgs_cons (pg_name (i := 2) scOdd.nd rfl (.inr rfl)) (pgs_cons (pg_name (i := 3) scOdd.nd rfl (.inl rfl)) pgs_nil))))
    (pss_cons (ps_set (i := 4) scOdd.nd rfl (.inl rfl) (pe_lst (pa_cons (pe_callTy call_list_of (by rfl) ml b_list (pa_cons (pv 1) pa_nil))
        (pa_cons (pe_ix ix_tup (pv 1) pe_int (fun _ _ => rfl)) (pa_cons (pe_tup pa_nil) (pa_cons (pe_tup (pa_cons (pv 1) pa_nil)) (pa_cons (pe_slice sl_tupU (pv 1) (po_some pe_int) po_none)
        (pa_cons (pe_op op_catU (pe_tup (pa_cons pe_str pa_nil)) (pe_slice sl_tupU (pv 1) (po_some pe_int) po_none)) (pa_cons (pe_tup (pa_cons pe_int pa_nil)) (pa_cons pe_non (pa_cons (pe_tup (pa_cons pe_str pa_nil)) pa_nil)))))))))))
    (pss_cons (ps_set (i := 5) scOdd.nd rfl (.inl rfl) (pe_lst (pa_cons (pe_un un_neg pe_int) (pa_cons pe_bl (pa_cons pe_str (pa_cons pe_non (pa_cons pe_str pa_nil)))))))
    (pss_one (ps_ret (pe_ix ix_list (pe_op op_cat (pv 4) (pe_lc (own := [("_law_step", 6)]) (g := gName 6) (by rfl) scOdd.nd (pi_list (pv 5))
      (blkOk_by (own := [("_law_step", 6)]) (N := ["_law_box_here", "_law_place_here", "_law_at", "_law_form", "_law_some", "_law_steps", "_law_step"]) (sc := defScope sOdd) (by decide +kernel))
      (fun _ _ _ _ _ => pg_name (i := 6) scOdd.nd rfl (Or.inl rfl)) (fun _ _ _ _ _ => pts_nil)
      (fun _ _ _ _ _ => pe_op (op_catUK (K := K) rfl) (pe_op (op_catUK (K := K) rfl) (pe_slice (sl_tupUK (K := K) rfl) (pv 1) po_none (po_some (pe_op op_add (pv 2) pe_int))) (pe_tup (pa_cons (pv 6) pa_nil))) (pe_slice (sl_tupUK (K := K) rfl) (pv 1) (po_some (pe_op op_add (pv 2) pe_int)) po_none)))) (pv 3) (fun _ _ => rfl)))))), ?_⟩
  have sub : ∀ b ∈ [p, g], b ∈ l := fun b hb => by
    simp only [List.mem_cons, List.not_mem_nil, or_false] at hb
    rcases hb with h | h
    · rw [h]; exact pl
    · rw [h]; exact gl
  have lp : (plV n ks).length = ks.length + 1 := by simp [plV]
  have fl := pl_flat sn hk
  refine ⟨_, rfl, _, rfl, b, _, rfl, .inr (seqT_cut hP), p, g, _, rfl, hb, by omega, ?_, fun at_ H1 a0 a9 b1 o1 => ⟨_, rfl, p, g, 14, rfl, b1, by decide, by decide, fun fo H2 f0 f14 b2 o2 => ⟨few (by simp), fun tq htq => ?_⟩⟩⟩
  · rw [lp]
    exact Nat.lt_of_le_of_lt (show (((ks.length + 1 : Nat) : Int)).natAbs ≤ 1000 from by omega) (by decide)
  have o12 := o1.trans o2
  have s3 := same_new (o := .tup [V.int at_, V.int fo]) htq
  have b3 := b2.same s3
  have o3 : Off [p, g] H _ := o12.trans (Off.of s3)
  have tlO : ∀ {H' : Hp}, Box H' p g → Off [p, g] H H' → Tr l H' := fun bb oo => tl.go oo fun b hb => by
    have t := bb.tr
    simp only [List.mem_cons, List.not_mem_nil, or_false] at hb
    rcases hb with h | h
    · rw [h]; exact t.1
    · rw [h]; exact t.2
  have tl3 := tlO b3 o3
  have hP3 := seqT_up (o3.mono sub) hP
  refine ⟨tq, _, rfl, .inl (.inl upd_same), rfl, _, _, rfl, _, _, rfl, rfl, ?_⟩
  generalize upd H2 tq (.tup [V.int at_, V.int fo]) = H3 at *
  have ptl : ∀ {l' : List Addr} {H' : Hp}, SqT K (cut l' H') b (plV n ks) → Thg K l' H' (.ref b) := fun h => thg_tup h (pl_dp n ks) fl (by omega)
  refine ⟨_, rfl, b, _, rfl, .inr (seqT_cut hP3), fun l1 hl1 => ?_⟩
  have sa := same_new (o := .lst (plV n ks)) hl1
  have tla := tl3.same sa
  have hPa := seqT_up (Off.of (l := l) sa) hP3
  have g1 : Thg K l (upd H3 l1 (.lst (plV n ks))) (.ref l1) := by
    have a := fl.all
    refine ⟨.list (plD n ks), .lst (SqL.of (by rw [cut_out (tl3.out hl1)]; exact upd_same)) (pl_dp n ks), by simpa only [gd] using a.1, ?_, by simp only [PyData.depth, a.2.2]; omega⟩
    have : (plD n ks).length = ks.length + 1 := by simp [plD]
    simp only [nod, a.2.1]
    omega
  generalize upd H3 l1 (.lst (plV n ks)) = Ha at *
  refine ⟨_, rfl, b, _, 0, _, rfl, rfl, seqT_cut hPa, atI_nat (j := 0) rfl, Nat.zero_le _, fun t2 ht2 => ?_⟩
  have sb := same_new (o := .tup []) ht2
  have tlb := tla.same sb
  have hPb := seqT_up (Off.of (l := l) sb) hPa
  have g3 : Thg K l (upd Ha t2 (.tup [])) (.ref t2) := thg_tup (.inl (.inl (by rw [cut_out (tla.out ht2)]; exact upd_same))) .nil (fun _ z => nomatch z) (by decide)
  generalize upd Ha t2 (.tup []) = Hb at *
  refine ⟨_, rfl, few (by simp), fun t4 ht4 => ?_⟩
  have sc := same_new (o := .tup [V.ref b]) ht4
  have tlc := tlb.same sc
  have hPc := seqT_up (Off.of (l := l) sc) hPb
  have g4 : Thg K l (upd Hb t4 (.tup [V.ref b])) (.ref t4) := by
    have a := fl.all
    have : (plD n ks).length = ks.length + 1 := by simp [plD]
    refine ⟨.tuple [.tuple (plD n ks)], .tup (.inl (.inl (by rw [cut_out (tlb.out ht4)]; exact upd_same))) (.cons (.tup hPc (pl_dp n ks)) .nil), by simp only [gd, gds, a.1, Bool.and_self], ?_, ?_⟩
    · simp only [nod, nods, a.2.1]
      omega
    · simp only [PyData.depth, PyData.depthAll, a.2.2]
      decide
  generalize upd Hb t4 (.tup [V.ref b]) = Hc at *
  refine ⟨_, rfl, 1, rfl, b, _, l, rfl, hPc, tlc, fun c5 H5 s5 hc5 => ?_⟩
  have tl5 := tlc.same s5
  have hP5 := seqT_up (Off.of (l := l) s5) hPc
  have g5 : Thg K l H5 (.ref c5) := by
    obtain ⟨es, e1, e2⟩ := cutV_dp (pl_dp (K := K) (H := cut l H5) n ks) (some 1) none
    refine thg_tup hc5 e1 (flat_sub fl e2) ?_
    rw [show plV n ks = V.str n :: ks.map (fun k : Nat => V.int k) from rfl, cutV_tail, List.length_map]
    omega
  refine ⟨few (by simp), fun t6 ht6 => ⟨_, rfl, 1, rfl, b, _, l, rfl, seqT_up (cut_new (l := l) (o := .tup [V.str "A"]) ht6) hP5, tl5.same (same_new ht6 _), fun c6 H6 s6 hc6 => ?_⟩⟩
  have s56 := (same_new (o := .tup [V.str "A"]) ht6).trans s6
  have tl6 := tl5.same s56
  have h6 : H6 t6 = some (.tup [V.str "A"]) := s6 _ _ upd_same
  refine ⟨t6, c6, _, _, l, rfl, rfl, .inl (.inl (by rw [cut_out (tl5.out ht6)]; exact h6)), hc6, tl6, few ?_, fun c7 H7 s7 hc7 => ?_⟩
  · rw [show plV n ks = V.str n :: ks.map (fun k : Nat => V.int k) from rfl, cutV_tail, List.length_map]
    simp only [List.length_cons, List.length_nil]
    omega
  have tl7 := tl6.same s7
  have g7 : Thg K l H7 (.ref c7) := by
    obtain ⟨es, e1, e2⟩ := cutV_dp (pl_dp (K := K) (H := cut l H7) n ks) (some 1) none
    refine thg_tup hc7 (DpAll.app (.cons (.str "A") .nil) e1) (flat_app (flat_one (by decide +kernel) (by simp only [nod]) (by simp only [PyData.depth])) (flat_sub fl e2)) ?_
    rw [show plV n ks = V.str n :: ks.map (fun k : Nat => V.int k) from rfl, cutV_tail, List.length_append, List.length_map]
    simp only [List.length_cons, List.length_nil]
    omega
  refine ⟨few (by simp), fun t8 ht8 => ?_⟩
  have s8 := same_new (o := .tup [V.int 7]) ht8
  have g8 : Thg K l (upd H7 t8 (.tup [V.int 7])) (.ref t8) := thg_tup (.inl (.inl (by rw [cut_out (tl7.out ht8)]; exact upd_same))) (.cons (.int 7) .nil) (flat_one (by decide +kernel) (by simp only [nod]) (by simp only [PyData.depth])) (by decide)
  have tl8 := tl7.same s8
  generalize upd H7 t8 (.tup [V.int 7]) = H8 at *
  refine ⟨few (by simp), fun t9 ht9 => ?_⟩
  have s9 := same_new (o := .tup [V.str "abcdefghi"]) ht9
  have g9 : Thg K l (upd H8 t9 (.tup [V.str "abcdefghi"])) (.ref t9) := thg_tup (.inl (.inl (by rw [cut_out (tl8.out ht9)]; exact upd_same))) (.cons (.str "abcdefghi") .nil) (flat_one (by decide +kernel) (by simp only [nod]) (by simp only [PyData.depth])) (by decide)
  have tl9 := tl8.same s9
  generalize upd H8 t9 (.tup [V.str "abcdefghi"]) = H9 at *
  refine ⟨few (by simp), fun L hL => ?_⟩
  have sL := same_new (o := .lst [V.ref l1, V.str n, V.ref t2, V.ref t4, V.ref c5, V.ref c7, V.ref t8, V.non, V.ref t9]) hL
  -- all nine are things
  have s79 := s8.trans s9
  have s59 := s56.trans (s7.trans s79)
  have sc9 := s5.trans s59
  have all9 : ∀ v ∈ [V.ref l1, V.str n, V.ref t2, V.ref t4, V.ref c5, V.ref c7, V.ref t8, V.non, V.ref t9], Thg K l H9 v := by
    intro v m
    simp only [List.mem_cons, List.not_mem_nil, or_false] at m
    rcases m with e | e | e | e | e | e | e | e | e
    · rw [e]; exact g1.up (Off.of (l := l) (sb.trans (sc.trans sc9)))
    · rw [e]; exact thg_flat (.str n) (sn.gd (by decide)) (by simp only [nod]) (by simp only [PyData.depth])
    · rw [e]; exact g3.up (Off.of (l := l) (sc.trans sc9))
    · rw [e]; exact g4.up (Off.of (l := l) sc9)
    · rw [e]; exact g5.up (Off.of (l := l) s59)
    · rw [e]; exact g7.up (Off.of (l := l) s79)
    · rw [e]; exact g8.up (Off.of (l := l) s9)
    · rw [e]; exact thg_flat .non (by simp only [gd]) (by simp only [nod]) (by simp only [PyData.depth])
    · rw [e]; exact g9
  have o9 : Off [p, g] H H9 := o3.trans (Off.of (sa.trans (sb.trans (sc.trans sc9))))
  have b9 := b3.same (sa.trans (sb.trans (sc.trans sc9)))
  have hP9 := seqT_up (Off.of (l := l) sc9) hPc
  have hLL : (upd H9 L (.lst [V.ref l1, V.str n, V.ref t2, V.ref t4, V.ref c5, V.ref c7, V.ref t8, V.non, V.ref t9])) L = some (.lst [V.ref l1, V.str n, V.ref t2, V.ref t4, V.ref c5, V.ref c7, V.ref t8, V.non, V.ref t9]) := upd_same
  have l9 : ([V.ref l1, V.str n, V.ref t2, V.ref t4, V.ref c5, V.ref c7, V.ref t8, V.non, V.ref t9] : List V).length = 9 := rfl
  generalize [V.ref l1, V.str n, V.ref t2, V.ref t4, V.ref c5, V.ref c7, V.ref t8, V.non, V.ref t9] = nine at *
  have bL := b9.same sL
  have oL := o9.trans (Off.of (l := [p, g]) sL)
  have hPL := seqT_up (Off.of (l := l) sL) hP9
  have allL : ∀ v ∈ nine, Thg K l (upd H9 L (.lst nine)) v := fun v m => (all9 v m).up (Off.of (l := l) sL)
  have tlL := tl9.same sL
  generalize upd H9 L (.lst nine) = HL at *
  refine ⟨1, rfl, few (by simp), fun L2 hL2 => ?_⟩
  have s2 := same_new (o := .lst [V.int (-1), V.bl true, V.str "a", V.non, V.str "0"]) hL2
  have hL22 : (upd HL L2 (.lst [V.int (-1), V.bl true, V.str "a", V.non, V.str "0"])) L2 = some (.lst [V.int (-1), V.bl true, V.str "a", V.non, V.str "0"]) := upd_same
  have b2' := bL.same s2
  have oM := oL.trans (Off.of (l := [p, g]) s2)
  have hPM := seqT_up (Off.of (l := l) s2) hPL
  have allM : ∀ v ∈ nine, Thg K l (upd HL L2 (.lst [V.int (-1), V.bl true, V.str "a", V.non, V.str "0"])) v := fun v m => (allL v m).up (Off.of (l := l) s2)
  have tlM := tlL.same s2
  have hLM := s2 _ _ hLL
  generalize upd HL L2 (.lst [V.int (-1), V.bl true, V.str "a", V.non, V.str "0"]) = HM at *
  have st : ∀ {H' : Hp}, DpAll K H' [V.int (-1), V.bl true, V.str "a", V.non, V.str "0"] [.int (-1), .bool true, .str "a", .none, .str "0"] := .cons (.int _) (.cons (.bl _) (.cons (.str _) (.cons .non (.cons (.str _) .nil))))
  have stf : Flat [.int (-1), .bool true, .str "a", .none, .str "0"] := fun d m => by
    simp only [List.mem_cons, List.not_mem_nil, or_false] at m
    rcases m with e | e | e | e | e <;> (rw [e]; exact ⟨by decide +kernel, by simp only [nod], by simp only [PyData.depth]⟩)
  refine ⟨_, rfl, _, rfl, L2, rfl, ⟨_, SqL.of hL22⟩, fun D hD => lc_list (K := K) (a := L2) (xs := [V.int (-1), V.bl true, V.str "a", V.non, V.str "0"]) (fun i H8 => ∃ ys, ys.length = i ∧ H8 D = some (.lst ys) ∧ (∀ y ∈ ys, Thg K (D :: l) H8 y) ∧ Same HM H8)
    ⟨[], rfl, upd_same, (fun _ z => nomatch z), same_new hD _⟩ (fun i H8 _ ⟨_, _, _, _, h⟩ => SqL.of (h _ _ hL22)) ?_ ?_⟩
  · rintro i y H8' hy ⟨ys, ly, e1, e2, e3⟩
    have hi := (List.getElem?_eq_some_iff.mp hy).1
    have hi5 : i < 5 := hi
    obtain ⟨dy, hdy, hdy2⟩ := DpAll.get (st (H' := cut (D :: l) H8')) hy
    have fy := stf dy (List.mem_of_getElem? hdy)
    have tlD : Tr (D :: l) H8' := fun b hb => by
      rcases List.mem_cons.mp hb with h | h
      · rw [h, e1]; exact fun z => nomatch z
      · exact (tlM.same e3) b h
    have hPD : SqT K (cut (D :: l) H8') b (plV n ks) := by
      rcases hPM with (h | ⟨o, h⟩) | h
      · obtain ⟨n1, h⟩ := cut_some h
        exact .inl (.inl (by rw [cut_out (fun z => by rcases List.mem_cons.mp z with z | z; exact (ne_of_none h hD) z; exact n1 z)]; exact e3 _ _ h))
      · obtain ⟨n1, h⟩ := cut_some h
        exact .inl (.inr ⟨o, by rw [cut_out (fun z => by rcases List.mem_cons.mp z with z | z; exact (ne_of_none h hD) z; exact n1 z)]; exact e3 _ _ h⟩)
      · exact .inr h
    refine ⟨rfl, _, rfl, _, rfl, _, _, rfl, rfl, _, rfl, b, _, D :: l, rfl, hPD, tlD, fun u1 G1 r1 k1 => ?_⟩
    rw [cutV_take (plV n ks) (by omega) (by omega)] at k1
    have tl1 := tlD.same r1
    refine ⟨_, rfl, few (by simp), fun u2 hu2 => ?_⟩
    have r2 := same_new (o := .tup [y]) hu2
    have tl2 := tl1.same r2
    refine ⟨u1, u2, _, _, D :: l, rfl, rfl, seqT_up (cut_new (l := D :: l) (o := .tup [y]) hu2) k1, .inl (.inl (by rw [cut_out (tl1.out hu2)]; exact upd_same)), tl2, few ?_, fun u3 G3 r3 k3 => ?_⟩
    · simp only [List.length_take, List.length_cons, List.length_nil]
      omega
    have tl3' := tl2.same r3
    have r13 := r1.trans (r2.trans r3)
    refine ⟨_, rfl, _, rfl, _, _, rfl, rfl, _, rfl, b, _, D :: l, rfl, seqT_up (Off.of (l := D :: l) r13) hPD, tl3', fun u4 G4 r4 k4 => ?_⟩
    rw [cutV_drop (plV n ks) (by omega) (by omega)] at k4
    have tl4 := tl3'.same r4
    refine ⟨u3, u4, _, _, D :: l, rfl, rfl, seqT_up (Off.of (l := D :: l) r4) k3, k4, tl4, few ?_, fun u5 G5 r5 k5 => ?_⟩
    · simp only [List.length_append, List.length_take, List.length_drop, List.length_cons, List.length_nil]
      omega
    have r15 := r13.trans (r4.trans r5)
    have put : Off (D :: l) G5 (upd G5 D (.lst (ys ++ [V.ref u5]))) := Off.put (by simp)
    refine ⟨ys, r15 _ _ e1, few1 (by omega), ys ++ [V.ref u5], by rw [List.length_append, ly]; rfl, upd_same, fun z mz => ?_, fun c o z => ?_⟩
    · rcases List.mem_append.mp mz with h | h
      · exact (e2 z h).up ((Off.of (l := D :: l) r15).trans put)
      · rw [List.mem_singleton.mp h]
        have pp := DpAll.parts (pl_dp (K := K) (H := cut (D :: l) G5) n ks) (at_ + 1).toNat
        have g := thg_tup k5 (DpAll.app (DpAll.app pp.1 (.cons (Dp.up (Off.of (l := D :: l) r15) _ _ hdy2) .nil)) pp.2) (flat_app (flat_app (flat_sub fl fun e m => List.mem_of_mem_take m) (fun e m => by rw [List.mem_singleton.mp m]; exact fy)) (flat_sub fl fun e m => List.mem_of_mem_drop m)) (by
          simp only [List.length_append, List.length_take, List.length_drop, List.length_cons, List.length_nil]
          omega)
        exact g.up put
    · rw [upd_ne (ne_of_none z hD)]
      exact (e3.trans r15) c o z
  · rintro H8' ⟨ys, ly, e1, e2, e3⟩
    have ly : ys.length = 5 := ly
    refine ⟨L, D, _, _, rfl, rfl, e3 _ _ hLM, e1, few (by omega), fun M hM => ?_⟩
    have sM := same_new (o := .lst (nine ++ ys)) hM
    obtain ⟨x, hx, mx⟩ := atN (xs := nine ++ ys) f0 (by rw [List.length_append, l9, ly]; exact f14)
    refine ⟨_, rfl, M, _, _, x, rfl, rfl, SqL.of upd_same, hx, q x _ ((b2'.same e3).same sM) ((oM.trans (Off.of e3)).trans (Off.of sM)) ?_⟩
    rcases List.mem_append.mp mx with h | h
    · exact (allM x h).up (Off.of (l := l) (e3.trans sM))
    · obtain ⟨d, a, r⟩ := (e2 x h).up (Off.of (l := D :: l) sM)
      exact ⟨d, Dp.up (cut_less fun b hb => List.mem_cons_of_mem _ hb) _ _ a, r⟩
end
/-- isinstance(e, c) of a caught error with attributes -/
def rIsED (K : PySem.W.Frag) (D a : Addr) (cls : Value) (d : Option Addr) : List V → Hp → VK → Prop := fun xs H Q => ∃ (dd : Addr) (fs : List (Str × V)) (b : Bool), cls = .ref D ∧ d = some dd ∧ H dd = some (.xd fs) ∧
  ((∃ (c : V) (cv : Value), xs = [.ref a, c] ∧ (∀ u, RelV c u → u = cv) ∧ PySem.W.kitOne K (.ref D) cv = some b) ∨ ∃ (tp : Addr) (cs : List Addr), xs = [.ref a, .ref tp] ∧ H tp = some (.tup (cs.map V.ref)) ∧ PySem.W.kitAny K (.ref D) (cs.map Value.ref) = some b) ∧ Q (.bl b) H
theorem call_isED {X : Cx} {a D : Addr} {oe : Obj} {cls : Value} {d : Option Addr} {pn : List (Addr × Obj)} (C : ExcC X.K D) (hz : Zc cls d oe) (hf : ∃ vs, oe.data = .fields vs) : CallR (X.suite a ((a, oe) :: pn)) (.builtin "isinstance") (rIsED X.K D a cls d) := by
  intro pins s σ H xs us Q I r h
  obtain ⟨dd, fs, b, rfl, rfl, ea, hx, q⟩ := h
  obtain ⟨ha, _⟩ := I.pin (a, oe) (List.mem_append_left _ List.mem_cons_self)
  obtain ⟨vs, hd⟩ := hf
  have hxo : ObjOk X.prog X.w H s.heap dd (.xd fs) := I.hok dd _ ea
  obtain ⟨mA, hns, hr⟩ := hxo
  obtain ⟨od, ho, hl⟩ := lookIn_ns hns
  have J : PySem.W.InstAt s.heap a oe D (some od) := ⟨ha, hz.1, by unfold PySem.W.notCls; rw [hd] <;> rfl, by rw [hz.2]; exact ho⟩
  rcases hx with ⟨c, cv, rfl, hcv, e⟩ | ⟨tp, cs, rfl, ht, e⟩
  · cases r with
    | cons rx rr =>
      cases rr with
      | cons rt rr =>
        cases rr
        cases rx
        have ec := hcv _ rt
        subst ec
        exact PySem.W.kia_one (PySem.W.kitx_exc (hasD_cls C.hd) C.hg C.hk C.hs C.ha C.hn C.ht C.hm) I.kIn J e (fun z => nomatch z) fun tk => ⟨.bl b, H, I.kept (t' := tk) fun _ _ z => z, rfl, q⟩
  · cases r with
    | cons rx rr =>
      cases rr with
      | cons rt rr =>
        cases rr
        cases rx
        cases rt
        obtain ⟨its, r2, ⟨o, ho2, hc, n, hd2⟩, hl2⟩ := I.tuple (.inl (.inl ht) : SqT X.K H tp (cs.map V.ref))
        have ei := vals_refs r2
        subst ei
        obtain ⟨oc, od0, oda, osl⟩ := o
        cases hc
        cases hd2
        exact PySem.W.kia_tup (PySem.W.kitx_exc (hasD_cls C.hd) C.hg C.hk C.hs C.ha C.hn C.ht C.hm) I.kIn J ho2 e (fun z => nomatch z) fun tk => ⟨.bl b, H, I.kept (t' := tk) fun _ _ z => z, rfl, q⟩
/-! what a call tells, or that there is no place -/
abbrev sTold : Stmt := topS 24
theorem scTold : FnScope ["_law_call", "_law_found", "e"] ["_law_call"] (defScope sTold) := ⟨rfl, rfl, rfl, by decide +kernel, rfl, by decide +kernel, by decide +kernel⟩
/-- what is known of the classes of errors -/
structure Er5 (P : Program) (w : World) (K : PySem.W.Frag) (mg : Str → Option Value) (base : Heap) (L CE CN : Addr) (fI : Addr) (dI : FuncData) : Prop where
  c : EC P w K mg base "NoPlace" ["place"] ["place"] CE fI dI
  mL : mg "LoreError" = some (.ref L)
  mN : mg "NoCell" = some (.ref CN)
  mK : mg "KeyError" = none
  ex : PySem.W.exmOne K (.ref CE) (.ref CE) = some true
  kA : PySem.W.kitAny K (.ref CE) [.ref L, .ref CN] = some false
  kK : PySem.W.kitOne K (.ref CE) (.type "KeyError") = some true
def TTold (CE : Addr) : (XK → Hp → VK → Prop) → Hp → VK → Prop := fun tl H Q =>
  ∀ (E : XK) (R : VK), (∀ dd v H', H' dd = some (.xd [("place", v)]) → (∀ t H2, Same H' H2 → H' t = none → H2 t = some (.tup [.str "none", v]) → Q (.ref t) H2) → E (.ref CE) (some dd) H') →
    (∀ v H', (∀ t H2, Same H' H2 → H' t = none → H2 t = some (.tup [.str "told", v]) → Q (.ref t) H2) → R v H') → tl E H R
theorem told_gives {X : Cx} {L CE CN fI : Addr} {dI : FuncData} {q : Str} {g : Addr} {cdg : Value} (E5 : Er5 X.prog X.w X.K X.mg X.base L CE CN fI dI) (ii : X.mg "isinstance" = none) :
    GivesS X ["_law_call", "_law_found", "e"] "_law_told" (defScope sTold) g cdg (defBody sTold) "_law_call" q (TTold CE) := by
  intro f c' s H Q tl hr act hc h
  have c4 := E5.c
  refine ⟨_, pss_cons (ps_set (i := 1) scTold.nd rfl (.inl rfl) pe_non)
    (pss_cons (ps_try_as (X := (cxOf C8.CX0 X.prog X.w X.K X.mg X.base ["_law_call", "_law_found", "e"] "_law_told" (defScope sTold) g cdg X.A X.stack s H C8.E0).nox) (c := .ref CE) (i := 2)
      (tb := fun W D τ HZ => τ[0]? = some (some (.ref f)) ∧ HZ c' = some (LamX.CodeO c' q) ∧ tl (WE W τ) HZ fun v H1 => 2 ≤ sizeLine ∧ ∀ t, H1 t = none → D.nx (τ.set 1 (some (.ref t))) (upd H1 t (.tup [.str "told", v])))
      rfl rfl scTold.nd rfl rfl ⟨by rfl, by decide, .inl c4.mg⟩ takes0
      (fun W pn xe tk _ => ?_)
      (fun a oe cls d pn hz hf => pss_cons (ps_set (i := 1) scTold.nd rfl (.inl rfl) (pe_tup (pa_cons pe_str (pa_cons (pe_xf c4.X (c4.no "place" (by simp)) hz hf (pv 2)) pa_nil))))
        (pss_one (ps_if (PW.pt (pw_or (pt_val (pe_callB (call_isED c4.E hz hf) (by rfl) ii b_ii (pa_cons (pv 2) (pa_cons (pe_tup (pa_cons (pe_glob (by rfl) E5.mL (v := .ref L) rfl) (pa_cons (pe_glob (by rfl) E5.mN (v := .ref CN) rfl) pa_nil))) pa_nil))))
            (pw_or1 (pt_not (pt_val (pe_callB (call_isED c4.E hz hf) (by rfl) ii b_ii (pa_cons (pv 2) (pa_cons (pe_bltn (by rfl) E5.mK (by decide +kernel) (v := .ty "KeyError") rfl) pa_nil))))))))
          (pss_one (ps_set (i := 1) scTold.nd rfl (.inl rfl) (pe_tup (pa_cons pe_str pa_nil)))) pss_nil))))
    (pss_one (ps_ret (pv 1)))), ?_⟩
  · refine ⟨fun pins s' τ HZ D I h' => ?_⟩
    obtain ⟨h1, h2, h3⟩ := h'
    exact (pss_one (ps_set (i := 1) scTold.nd rfl (.inl rfl) (pe_tup (pa_cons pe_str (pa_cons (act W pn xe _ _ tk) pa_nil))))).run pins s' τ HZ D I ⟨h1, h2, h3⟩
  · refine ⟨rfl, hc, ?_⟩
    refine h _ _ (fun dd v H1 hdd k => ?_) (fun v H1 k => ⟨by decide, fun t ht => ⟨_, rfl, k t _ (same_new ht _) ht upd_same⟩⟩)
    refine ⟨true, E5.ex, fun _ a ha => ?_, fun z => nomatch z⟩
    refine ⟨_, rfl, rfl, rfl, dd, _, v, rfl, hdd, lk1, few (by simp), fun t1 ht1 => ?_⟩
    have s1 := same_new (o := .tup [.str "none", v]) ht1
    refine ⟨_, rfl, few (by simp), fun t2 ht2 => ?_⟩
    have s2 := same_new (o := .tup [.ref L, .ref CN]) ht2
    refine ⟨dd, _, false, rfl, rfl, s2 _ _ (s1 _ _ hdd), .inr ⟨t2, [L, CN], rfl, upd_same, E5.kA⟩, _, rfl, iteF ?_⟩
    refine ⟨_, rfl, dd, _, true, rfl, rfl, s2 _ _ (s1 _ _ hdd), .inl ⟨.ty "KeyError", .type "KeyError", rfl, fun u hu => hu, E5.kK⟩, _, rfl, iteF ?_⟩
    exact ⟨_, rfl, k t1 _ (s1.trans s2) ht1 (s2 _ _ upd_same)⟩
/-! inputs printed, and compared -/
def shownF : Str := Str.empty ++ ("Fault(" : Str) ++ reprText "read" ++ (")" : Str)
def shownV : Option PyData → Str
  | some d => d.shown
  | none => shownF
def shownI (g : Str × Option PyData) : Str := reprText g.1 ++ ": " ++ shownV g.2
theorem read_sm : Sm 20 ("read" : Str) := Sm.of (by decide +kernel)
theorem ins_shown {K : PySem.W.Frag} {C a : Addr} {H : Hp} {kvs ks0 : List (Key × V)} {o : Obj} (ha : H a = some (.dK ks0)) {gs : Ins} (h : InsV K C H kvs gs) (hO : ∀ g ∈ gs, ∀ d, g.2 = some d → gd d = true ∧ nod d ≤ 5000 ∧ d.depth ≤ 40) :
    Paired (ShKV K C (spRepF C) (upd H a (.frz o (.dK ks0)))) kvs (gs.map shownI) := by
  induction h with
  | nil => exact .nil
  | @cons p g ps gs h _ ih =>
    refine .cons ⟨g.1, shownV g.2, h.1, ?_, rfl⟩ (ih fun z m => hO z (List.mem_cons_of_mem _ m))
    have hv := h.2
    cases e : g.2 with
    | some d =>
      rw [e] at hv
      have q := hO g List.mem_cons_self d e
      exact .inl ⟨d, Dp.locked ha hv, prn_of q.1 (by omega) (by omega), q.2.2, rfl⟩
    | none =>
      rw [e] at hv
      obtain ⟨b, r, x, e1, dx, hf⟩ := hv
      have nb : b ≠ a := fun z => by
        rw [z, ha] at hf
        cases hf
      have hf2 : (upd H a (.frz o (.dK ks0))) b = some (.ins C dx (fl "read" r x)) := by
        rw [upd_ne nb]
        exact hf
      exact .inr ⟨b, dx, fl "read" r x, e1, hf2, b, "read", r, x, rfl, ⟨dx, hf2⟩, read_sm, rfl, rfl⟩
theorem shownI_len {g : Str × Option PyData} (sn : Sm 8 g.1) (h : ∀ d, g.2 = some d → gd d = true ∧ nod d ≤ 700) : (shownI g).length ≤ 1400100 := by
  have l1 := rep_len sn
  have e2 : ((": " : Str)).length = 2 := by decide +kernel
  unfold shownI
  rw [Str.length_append, Str.length_append, e2]
  cases e : g.2 with
  | some d =>
    have q := h d e
    have := gd_sz d q.1
    show (reprText g.1).length + 2 + d.shown.length ≤ _
    omega
  | none =>
    have l3 := rep_len read_sm
    have : shownF.length ≤ 400 := by
      unfold shownF
      have e3 : (Str.empty ++ ("Fault(" : Str)).length = 6 := by decide +kernel
      have e4 : (")" : Str).length = 1 := by decide +kernel
      rw [Str.length_append, Str.length_append, e3, e4]
      omega
    show (reprText g.1).length + 2 + shownF.length ≤ _
    omega
theorem dict_len {B : Nat} : ∀ {ts : List Str}, (∀ t ∈ ts, t.length ≤ B) → (dictText ts).length ≤ 2 + ts.length * (B + 2) := by
  intro ts h
  have e1 : ("{" : Str).length = 1 := by decide +kernel
  have e2 : ("}" : Str).length = 1 := by decide +kernel
  have e3 : (", " : Str).length = 2 := by decide +kernel
  have q := StrLaws.join_length_le ", " ts
  rw [e3] at q
  have s : (ts.map (·.length)).sum ≤ ts.length * B := by
    clear q
    induction ts with
    | nil => exact Nat.zero_le _
    | cons t r ih =>
      have h1 := h t List.mem_cons_self
      have h2 := ih fun z hz => h z (List.mem_cons_of_mem _ hz)
      simp only [List.map_cons, List.sum_cons, List.length_cons, Nat.add_mul, Nat.one_mul]
      omega
  unfold dictText
  rw [Str.length_append, Str.length_append, e1, e2]
  have : ts.length * (B + 2) = ts.length * B + ts.length * 2 := Nat.mul_add _ _ _
  omega
theorem ins_len {gs : Ins} (hO : InsOk gs) : (dictText (gs.map shownI)).length ≤ sizeLine := by
  have q := dict_len (B := 1400100) (ts := gs.map shownI) (fun t m => by
    obtain ⟨g, mg, rfl⟩ := List.mem_map.mp m
    exact shownI_len (hO.nm g mg) fun d e => ⟨(hO.va g mg d e).1, by have := (hO.va g mg d e).2.1; omega⟩)
  rw [List.length_map] at q
  have lf := hO.few
  have : gs.length * (1400100 + 2) ≤ 4 * (1400100 + 2) := Nat.mul_le_mul_right _ lf
  have e : sizeLine = 16777216 := rfl
  omega
/-- what is told of the place, as it is printed -/
def wantD (n : Str) (ks : List Nat) : Option PyData → PyData
  | none => .tuple [.str "none", .tuple (plD n ks)]
  | some d => .tuple [.str "told", d]
theorem putK_mem {kvs : List (Key × V)} {k : Key} {u : V} {p : Key × V} (h : p ∈ putK kvs k u) : p = (k, u) ∨ (p ∈ kvs ∧ p.1 ≠ k) := by
  unfold putK at h
  by_cases e : (kvs.any fun kv => decide (kv.1 = k)) = true
  · rw [if_pos e] at h
    obtain ⟨p2, m, rfl⟩ := List.mem_map.mp h
    by_cases z : p2.1 = k
    · rw [if_pos z]
      exact .inl (by rw [z])
    · rw [if_neg z]
      exact .inr ⟨m, z⟩
  · rw [if_neg e] at h
    rcases List.mem_append.mp h with m | m
    · exact .inr ⟨m, fun z => e (List.any_eq_true.mpr ⟨p, m, decide_eq_true z⟩)⟩
    · exact .inl (List.mem_singleton.mp m)
theorem putK_same_len (kvs : List (Key × V)) (k : Key) (u w : V) : (putK kvs k u).length = (putK kvs k w).length := by
  unfold putK
  by_cases e : (kvs.any fun kv => decide (kv.1 = k)) = true
  · rw [if_pos e, if_pos e, List.length_map, List.length_map]
  · rw [if_neg e, if_neg e, List.length_append, List.length_append]
    rfl
theorem InsV.vaAt {K : PySem.W.Frag} {C : Addr} {H : Hp} {kvs : List (Key × V)} {gs : Ins} (h : InsV K C H kvs gs) : ∀ p ∈ kvs, ∃ x, VaAt K C H p.2 x := by
  induction h with
  | nil => exact fun _ m => nomatch m
  | @cons p g ps gs h _ ih =>
    intro q m
    rcases List.mem_cons.mp m with e | m
    · rw [e]
      exact ⟨_, h.2⟩
    · exact ih q m
/-- a value equals itself -/
theorem eqW_va {K : PySem.W.Frag} {C : Addr} {H : Hp} {v : V} {x : Option PyData} {m : Nat} (h : VaAt K C H v x) : EqW K H (m + 1) v v := by
  cases x with
  | none =>
    obtain ⟨a, _, _, rfl, _⟩ := h
    exact .inr (.inl ⟨a, rfl, rfl⟩)
  | some d =>
    have h : Dp K H v d := h
    cases h with
    | non => exact .inl ⟨rfl, rfl⟩
    | bl b => exact .inl ⟨rfl, rfl⟩
    | int i => exact .inl ⟨rfl, rfl⟩
    | str y => exact .inl ⟨rfl, rfl⟩
    | lst h1 h2 => exact .inr (.inl ⟨_, rfl, rfl⟩)
    | tup h1 h2 => exact .inr (.inl ⟨_, rfl, rfl⟩)
theorem eqW_put {K : PySem.W.Frag} {C : Addr} {H : Hp} {kvs : List (Key × V)} {gs : Ins} {k : Key} {u w : V} {d : PyData} {m : Nat} (h : InsV K C H kvs gs) (nd : (kvs.map (·.1)).Nodup) (hu : Dp K H u d) (hw : Dp K H w d) (sd : SeqAt.shaped d = true) :
    ∀ p ∈ putK kvs k u, ∃ z, valV (putK kvs k w) p.1 = some z ∧ EqW K H (m + 1) p.2 z := by
  intro p hp
  rw [valV_put]
  rcases putK_mem hp with e | ⟨e1, e2⟩
  · subst e
    exact ⟨w, if_pos rfl, .inr (.inr (.inl ⟨d, hu, hw, sd⟩))⟩
  · obtain ⟨i, hi⟩ := List.mem_iff_getElem?.mp e1
    obtain ⟨x, hx⟩ := h.vaAt p e1
    exact ⟨p.2, by rw [if_neg e2]; exact valV_at nd hi, eqW_va hx⟩
/-- whether there is something that may be replaced -/
theorem any_get (gs : Ins) (n : Str) : (gs.any fun g => decide (g.1 = n)) = (getI gs n).isSome := by
  unfold getI
  induction gs with
  | nil => rfl
  | cons g gs ih =>
    by_cases e : g.1 = n
    · rw [List.any_cons, decide_eq_true e, List.find?_cons_of_pos (by simpa using e)]
      rfl
    · rw [List.any_cons, decide_eq_false e, List.find?_cons_of_neg (by simpa using e), Bool.false_or, ih]
theorem okP_eq (gs : Ins) (n : Str) (ks : List Nat) : okP gs n ks = ((atI2 gs n ks).isSome || (ks.isEmpty && gs.any fun g => decide (g.1 = n))) := by
  rw [any_get]
  unfold okP
  cases ks with
  | nil =>
    show (getI gs n).isSome = ((atI2 gs n []).isSome || (true && (getI gs n).isSome))
    rw [Bool.true_and]
    cases e : getI gs n with
    | none =>
      have : atI2 gs n [] = none := by
        unfold atI2
        rw [e]
      rw [this]
      rfl
    | some x => simp
  | cons k ks =>
    show (layI gs n (k :: ks)).isSome = ((atI2 gs n (k :: ks)).isSome || (false && (getI gs n).isSome))
    rw [Bool.false_and, Bool.or_false, atI2_lay]
    cases e : layI gs n (k :: ks) with
    | none => rfl
    | some ls =>
      have ne : ls ≠ [] := by
        unfold layI at e
        cases e2 : getI gs n with
        | none => rw [e2] at e; cases e
        | some x =>
          rw [e2] at e
          cases x with
          | none => cases e
          | some d => exact layM_ne e
      show true = (ls.getLast?).isSome
      rw [List.getLast?_eq_some_getLast ne]
      rfl
theorem atM_of_lay {ks : List Nat} {d : PyData} {ls : List PyData} (h : layM d ks = some ls) : ∃ e, atM d ks = some e := by
  rw [atM_lay, h]
  have ne := layM_ne h
  exact ⟨_, by show ls.getLast? = _; rw [List.getLast?_eq_some_getLast ne]⟩
/-- the names as places -/
theorem names_any (gs : Ins) (n : Str) (ks : List Nat) : ((gs.map fun g => PyData.tuple [.str g.1]).any fun z => PyData.eqv z (.tuple (plD n ks))) = (ks.isEmpty && gs.any fun g => decide (g.1 = n)) := by
  induction gs with
  | nil => simp
  | cons g gs ih =>
    rw [List.map_cons, List.any_cons, ih, List.any_cons]
    cases ks with
    | nil =>
      have : PyData.eqv (.tuple [.str g.1]) (.tuple (plD n [])) = decide (g.1 = n) := by
        simp only [plD, List.map_nil, PyData.eqv, PyData.eqvAll, Bool.and_true]
        by_cases e : g.1 = n
        · rw [e]; simp
        · rw [decide_eq_false e]
          exact beq_eq_false_iff_ne.mpr e
      rw [this]
      simp
    | cons k ks =>
      have : PyData.eqv (.tuple [.str g.1]) (.tuple (plD n (k :: ks))) = false := by
        simp only [plD, List.map_cons, PyData.eqv, PyData.eqvAll, Bool.and_false]
      rw [this]
      simp
mutual
/-- what is put in -/
theorem putM_gd : ∀ (ks : List Nat) (d x : PyData), gd d = true → gd x = true → gd (putM d ks x) = true ∧ (putM d ks x).depth ≤ d.depth + ks.length + x.depth
  | [], d, x, _, hx => by
    rw [putM_nil]
    exact ⟨hx, by omega⟩
  | k :: ks, d, x, hd, hx => by
    cases ht : isTup d with
    | false =>
      have e : putM d (k :: ks) x = d := by
        cases d with
        | tuple ds => cases ht
        | none => rfl
        | bool b => rfl
        | int i => rfl
        | str x => rfl
        | list l => rfl
        | dict l => rfl
      rw [e]
      exact ⟨hd, by omega⟩
    | true =>
      obtain ⟨ds, rfl⟩ : ∃ ds, d = .tuple ds := by
        cases d with
        | tuple ds => exact ⟨ds, rfl⟩
        | _ => cases ht
      cases h3 : ds[k]? with
      | none =>
        have e : putM (.tuple ds) (k :: ks) x = .tuple ds := by
          show (match ds[k]? with
            | some e => PyData.tuple (ds.take k ++ putM e ks x :: ds.drop (k + 1))
            | none => .tuple ds) = _
          rw [h3]
        rw [e]
        exact ⟨hd, by omega⟩
      | some e3 =>
        rw [putM_tup x h3]
        have hd : gds ds = true := by simpa only [gd] using hd
        have g3 : gd e3 = true := gds_mem hd (List.mem_of_getElem? h3)
        have ih := putM_gd ks e3 x g3 hx
        have dm := depth_mem (List.mem_of_getElem? h3)
        have e1 := congrArg gds (List.take_append_drop k ds)
        rw [gds_app, hd, Bool.and_eq_true] at e1
        have e2 := congrArg gds (List.take_append_drop (k + 1) ds)
        rw [gds_app, hd, Bool.and_eq_true] at e2
        have d1 := congrArg PyData.depthAll (List.take_append_drop k ds)
        rw [depthAll_app] at d1
        have d2 := congrArg PyData.depthAll (List.take_append_drop (k + 1) ds)
        rw [depthAll_app] at d2
        constructor
        · simp only [gd, gds_app, gds, e1.1, e2.2, ih.1, Bool.and_self]
        · simp only [PyData.depth, depthAll_app, PyData.depthAll, List.length_cons]
          have := ih.2
          omega
end
theorem newM_gd {gs : Ins} {n : Str} {ks : List Nat} {x : PyData} (hO : InsOk gs) (hx : gd x = true) (dx : x.depth ≤ 2) (lk : ks.length ≤ 10) : SeqAt.shaped (newM gs n ks x) = true := by
  unfold newM
  cases e : getI gs n with
  | none => exact (show SeqAt.shaped x = true from shaped_of hx (by omega))
  | some y =>
    cases y with
    | none => exact (show SeqAt.shaped x = true from shaped_of hx (by omega))
    | some d =>
      have m : ∃ g ∈ gs, g.2 = some d := by
        unfold getI at e
        obtain ⟨g, hg, e2⟩ := Option.map_eq_some_iff.mp e
        exact ⟨g, List.mem_of_find?_eq_some hg, e2⟩
      obtain ⟨g, mg, eg⟩ := m
      have q := hO.va g mg d eg
      have z := putM_gd ks d x q.1 hx
      have z2 := z.2
      exact (show SeqAt.shaped (putM d ks x) = true from shaped_of z.1 (by omega))
/-! one place is right -/
abbrev sRight : Stmt := topS 25
theorem scRight : FnScope ["_law_box_here", "_law_given", "_law_place_here", "_law_due_here", "_law_kept", "_law_wanted", "_law_whole", "_law_is_there", "_law_found", "_law_value_here", "_law_name"] ["_law_box_here", "_law_given", "_law_place_here"] (defScope sRight) :=
  ⟨rfl, rfl, rfl, by decide +kernel, rfl, by decide +kernel, by decide +kernel⟩
abbrev qLam : Str := "_law_right.<locals>.<lambda>"
/-- all but tables of code objects are kept -/
abbrev ExtC (l : List Addr) (H H' : Hp) : Prop := LamX.ExtN (cut l H) (cut l H')
theorem ExtC.of {l : List Addr} {H H' : Hp} (s : Off l H H') : ExtC l H H' := LamX.ExtN.of s
theorem noTbl {o : HO} (h : (∃ xs, o = .lst xs) ∨ (∃ xs, o = .tup xs) ∨ (∃ u x, o = .frz u x) ∨ (∃ k, o = .dK k) ∨ ∃ C d f, o = .ins C d f) : ∀ ps, o ≠ .tbl ps := fun ps z => by
  rcases h with ⟨_, rfl⟩ | ⟨_, rfl⟩ | ⟨_, _, rfl⟩ | ⟨_, rfl⟩ | ⟨_, _, _, rfl⟩ <;> cases z
theorem seqL_ext {K : PySem.W.Frag} {H H' : Hp} {a : Addr} {xs : List V} (s : LamX.ExtN H H') (h : SqL K H a xs) : SqL K H' a xs := by
  rcases h with (h | ⟨o, h⟩) | h
  · exact .inl (.inl (s _ _ h fun _ z => nomatch z))
  · exact .inl (.inr ⟨o, s _ _ h fun _ z => nomatch z⟩)
  · exact .inr h
theorem seqT_ext {K : PySem.W.Frag} {H H' : Hp} {a : Addr} {xs : List V} (s : LamX.ExtN H H') (h : SqT K H a xs) : SqT K H' a xs := by
  rcases h with (h | ⟨o, h⟩) | h
  · exact .inl (.inl (s _ _ h fun _ z => nomatch z))
  · exact .inl (.inr ⟨o, s _ _ h fun _ z => nomatch z⟩)
  · exact .inr h
mutual
theorem Dp.ext {K : PySem.W.Frag} {H H' : Hp} (s : LamX.ExtN H H') : ∀ (d : PyData) (v : V), Dp K H v d → Dp K H' v d
  | .none, _, h => by cases h; exact .non
  | .bool b, _, h => by cases h; exact .bl b
  | .int i, _, h => by cases h; exact .int i
  | .str x, _, h => by cases h; exact .str x
  | .list ds, _, h => by
    cases h with
    | lst h1 h2 => exact .lst (seqL_ext s h1) (Dp.exts s ds _ h2)
  | .tuple ds, _, h => by
    cases h with
    | tup h1 h2 => exact .tup (seqT_ext s h1) (Dp.exts s ds _ h2)
  | .dict _, _, h => by cases h
theorem Dp.exts {K : PySem.W.Frag} {H H' : Hp} (s : LamX.ExtN H H') : ∀ (ds : List PyData) (vs : List V), DpAll K H vs ds → DpAll K H' vs ds
  | [], _, h => by cases h; exact .nil
  | d :: ds, _, h => by
    cases h with
    | cons h1 h2 => exact .cons (Dp.ext s d _ h1) (Dp.exts s ds _ h2)
end
theorem VaAt.ext {K : PySem.W.Frag} {C : Addr} {H H' : Hp} {v : V} {x : Option PyData} (s : LamX.ExtN H H') (h : VaAt K C H v x) : VaAt K C H' v x := by
  cases x with
  | some d => exact Dp.ext s d v h
  | none =>
    obtain ⟨a, r, p, e, dx, h⟩ := h
    exact ⟨a, r, p, e, dx, s _ _ h fun _ z => nomatch z⟩
theorem InsV.ext {K : PySem.W.Frag} {C : Addr} {H H' : Hp} {kvs : List (Key × V)} {gs : Ins} (s : LamX.ExtN H H') (h : InsV K C H kvs gs) : InsV K C H' kvs gs := Paired.imp (fun _ _ q => ⟨q.1, q.2.ext s⟩) h
theorem InAt.ext {K : PySem.W.Frag} {C : Addr} {H H' : Hp} {a : Addr} {kvs : List (Key × V)} {gs : Ins} (s : LamX.ExtN H H') (h : InAt K C H a kvs gs) : InAt K C H' a kvs gs := ⟨s _ _ h.at_ (fun _ z => nomatch z), h.vs.ext s, h.nd⟩
theorem Box.ext {H H' : Hp} {p g : Addr} (s : LamX.ExtN H H') (b : Box H p g) : Box H' p g := by
  obtain ⟨n, x, t, gs, h1, h2, h3⟩ := b.ex
  exact ⟨n, x, t, gs, s _ _ h1 (fun _ z => nomatch z), s _ _ h2 (fun _ z => nomatch z), h3⟩
/-- the table of a def's code object, apart from the box -/
def TabC (pT p g : Addr) (H : Hp) : Prop := LamX.Tabs [(pT, qLam)] (cut [p, g] H)
theorem TabC.off {pT p g : Addr} {H H' : Hp} (t : TabC pT p g H) (o : Off [p, g] H H') : TabC pT p g H' := LamX.Tabs.ext t o
theorem TabC.tabs {pT p g : Addr} {H : Hp} (t : TabC pT p g H) : LamX.Tabs [(pT, qLam)] H := LamX.Tabs.ext t (cut_same [p, g] H)
theorem TabC.of {pT p g : Addr} {H : Hp} (t : LamX.Tabs [(pT, qLam)] H) (b : Box H p g) : TabC pT p g H := by
  obtain ⟨n, x, y, gs, h1, h2, h3⟩ := b.ex
  intro q hq
  obtain ⟨ps, e1, e2, e3⟩ := t q hq
  refine ⟨ps, ?_, e2, fun pos cv hc => ?_⟩
  · rw [cut_out]
    · exact e1
    · intro z
      simp only [List.mem_cons, List.not_mem_nil, or_false] at z
      rcases z with z | z
      · rw [z, h1] at e1; cases e1
      · rw [z, h2] at e1; cases e1
  · obtain ⟨c, c1, c2⟩ := e3 pos cv hc
    refine ⟨c, c1, ?_⟩
    rw [cut_out]
    · exact c2
    · intro z
      simp only [List.mem_cons, List.not_mem_nil, or_false] at z
      rcases z with z | z
      · rw [z, h1] at c2; cases c2
      · rw [z, h2] at c2; cases c2
theorem TabC.ne {pT p g : Addr} {H : Hp} (t : TabC pT p g H) : H pT ≠ none := by
  obtain ⟨ps, e1, _⟩ := t.tabs (pT, qLam) List.mem_cons_self
  show H (pT, qLam).1 ≠ none
  rw [e1]
  exact fun z => nomatch z
/-- what is carried along the law's look at a place -/
structure CF (pT p g : Addr) (H Hx : Hp) : Prop where
  b : Box Hx p g
  t : TabC pT p g Hx
  e : ExtC [p, g, pT] H Hx
section
variable {pT p g : Addr} {H Hx Hy : Hp}
theorem CF.same (c : CF pT p g H Hx) (s : Same Hx Hy) : CF pT p g H Hy := ⟨c.b.same s, c.t.off (Off.of s), LamX.ExtN.trans c.e (ExtC.of (Off.of s))⟩
theorem CF.off (c : CF pT p g H Hx) (o : Off [p, g] Hx Hy) (b : Box Hy p g) : CF pT p g H Hy := ⟨b, c.t.off o, LamX.ExtN.trans c.e (ExtC.of (o.mono fun b hb => by
  simp only [List.mem_cons, List.not_mem_nil, or_false] at hb ⊢
  rcases hb with h | h
  · exact .inl h
  · exact .inr (.inl h)))⟩
theorem ExtC.lam {l : List Addr} (x : LamX.ExtN Hx Hy) : ExtC l Hx Hy := fun b o h n => by
  obtain ⟨n1, h⟩ := cut_some h
  rw [cut_out n1]
  exact x b o h n
theorem CF.lam (c : CF pT p g H Hx) (x : LamX.ExtN Hx Hy) (t : LamX.Tabs [(pT, qLam)] Hy) : CF pT p g H Hy :=
  have b := c.b.ext x
  ⟨b, TabC.of t b, LamX.ExtN.trans c.e (ExtC.lam x)⟩
/-- a dict that is none of what was there is changed -/
theorem CF.put (c : CF pT p g H Hx) {q : Addr} {ks0 : List (Key × V)} {o : HO} (hq : Hx q = some (.dK ks0)) (n1 : q ∉ [p, g]) (nw : ∀ b u, cut [p, g, pT] H b = some u → (∀ ps, u ≠ .tbl ps) → b ≠ q) : CF pT p g H (upd Hx q o) := by
  refine ⟨c.b.put n1, fun z hz => ?_, fun b u h n => ?_⟩
  · obtain ⟨ps, e1, e2, e3⟩ := c.t z hz
    have k : ∀ b u, cut [p, g] Hx b = some u → (∀ ks, u ≠ .dK ks) → cut [p, g] (upd Hx q o) b = some u := fun b u h n => by
      obtain ⟨n1, h⟩ := cut_some h
      rw [cut_out n1, upd_ne (fun e => n ks0 (Option.some.inj (h.symm.trans (by rw [e]; exact hq))))]
      exact h
    refine ⟨ps, k _ _ e1 (fun _ z => nomatch z), e2, fun pos cv hc => ?_⟩
    obtain ⟨c1, c2, c3⟩ := e3 pos cv hc
    exact ⟨c1, c2, k _ _ c3 fun _ z => by unfold LamX.CodeO at z; cases z⟩
  · have z := c.e b u h n
    obtain ⟨n2, z⟩ := cut_some z
    rw [cut_out n2, upd_ne (nw b u h n)]
    exact z
theorem CF.tr (c : CF pT p g H Hx) : Tr [p, g, pT] Hx := fun b hb => by
  have t := c.b.tr
  simp only [List.mem_cons, List.not_mem_nil, or_false] at hb
  rcases hb with h | h | h
  · rw [h]; exact t.1
  · rw [h]; exact t.2
  · rw [h]; exact c.t.ne
/-- what is new now was not there then -/
theorem CF.new (c : CF pT p g H Hx) {q : Addr} (hq : Hx q = none) : ∀ b u, cut [p, g, pT] H b = some u → (∀ ps, u ≠ .tbl ps) → b ≠ q := fun b u h n e => by
  have z := (cut_some (c.e b u h n)).2
  rw [e, hq] at z
  cases z
end
/-- what a def of the top whose code object makes lambdas has of its own -/
theorem okGC {P : Program} {w : World} {K : PySem.W.Frag} {mg : Str → Option Value} {base : Heap} {x qual : Str} {st : Stmt} {f cT : Addr} {fd : FuncData} {N ps : List Str} {k : Nat} {sp : Sp} (F : Fun K x qual st f fd) (hc : fd.code = .ref cT) (S : FnScope N ps (defScope st))
    (len : ∀ ws H Q E, sp ws H Q E → ws.length = ps.length)
    (hb : ∀ (A : Around) (outer : List Env) (s : Shared) (H : Hp) (vs : List V) (Q : VK) (E : XK), A.guards = some [] → Room k (A.deeper (envOfC qual (defScope st) s.heap.objs.size f (.ref cT))) → sp vs H Q E →
      ∃ t, PSs (cxOf CX0 P w K mg base N qual (defScope st) f (.ref cT) A outer s H E).nox (defBody st) t ∧ t { nx := fun _ H' => Q .non H', rt := Q } (start N vs) H) : FnG P w K mg base CX0 (k + 1) f fd ps sp := by
  obtain ⟨oc, od, kV, doc, pm, an, cdv, ct, osl, rfl, lk, hcd⟩ := F.ex
  have e : cdv = .ref cT := hc
  subst e
  refine fnG_of lk hcd S len ?_
  intro A outer s H vs Q E hg hr hsp
  obtain ⟨t, h, q⟩ := hb A outer s H vs Q E hg hr hsp
  exact ⟨t, h.nox, q⟩
def spRight (K : PySem.W.Frag) (C pT : Addr) : Sp := fun vs H Q _ => ∃ p g a b kvs gs n ks, vs = [.ref p, .ref a, .ref b] ∧ Box H p g ∧ TabC pT p g H ∧ InAt K C (cut [p, g, pT] H) a kvs gs ∧ InsOk gs ∧ SqT K (cut [p, g, pT] H) b (plV n ks) ∧ Sm 8 n ∧ ks.length ≤ 10 ∧ (∀ k ∈ ks, k ≤ 1000) ∧
  ∀ H', Box H' p g → TabC pT p g H' → ExtC [p, g, pT] H H' → Q (.bl true) H'
theorem paired_at {α β : Type} {F : α → β → Prop} {xs : List α} {ys : List β} (h : Paired F xs ys) : ∀ {i : Nat} {x : α}, xs[i]? = some x → ∃ y, ys[i]? = some y ∧ F x y := by
  induction h with
  | nil => exact fun z => nomatch z
  | cons h _ ih =>
    intro i x z
    cases i with
    | zero =>
      cases z
      exact ⟨_, rfl, h⟩
    | succ i => exact ih (i := i) z
theorem gd_one (a : PyData) : gd (.tuple [a]) = gd a := by simp only [gd, gds, Bool.and_true]
theorem gd_two (a b : PyData) : gd (.tuple [a, b]) = (gd a && gd b) := by simp only [gd, gds, Bool.and_true]
theorem getI_mem {gs : Ins} {n : Str} {y : Option PyData} (e : getI gs n = some y) : ∃ g ∈ gs, g.2 = y := by
  unfold getI at e
  obtain ⟨g, hg, e2⟩ := Option.map_eq_some_iff.mp e
  exact ⟨g, List.mem_of_find?_eq_some hg, e2⟩
theorem okP_use {gs : Ins} {n : Str} {ks : List Nat} (xd : PyData) (hO : InsOk gs) (h : okP gs n ks = true) : ∃ x0, getI gs n = some x0 ∧ ((ks = [] ∧ newM gs n ks xd = xd) ∨ ∃ d, x0 = some d ∧ (∃ e, atM d ks = some e) ∧ nod d ≤ 601 ∧ newM gs n ks xd = putM d ks xd) := by
  unfold okP at h
  unfold newM
  cases ks with
  | nil =>
    have h : (getI gs n).isSome = true := h
    cases e : getI gs n with
    | none => rw [e] at h; cases h
    | some y =>
      refine ⟨y, rfl, .inl ⟨rfl, ?_⟩⟩
      cases y with
      | none => rfl
      | some d => exact putM_nil d xd
  | cons k ks =>
    have h : (layI gs n (k :: ks)).isSome = true := h
    unfold layI at h
    cases e : getI gs n with
    | none => rw [e] at h; cases h
    | some y =>
      rw [e] at h
      cases y with
      | none => cases h
      | some d =>
        obtain ⟨ls, hl⟩ := Option.isSome_iff_exists.mp h
        obtain ⟨g, mg, eg⟩ := getI_mem e
        exact ⟨_, rfl, .inr ⟨d, rfl, atM_of_lay hl, (hO.va g mg d eg).2.1, rfl⟩⟩
theorem atM_sub : ∀ (ks : List Nat) (d e : PyData), atM d ks = some e → gd d = true → gd e = true ∧ nod e ≤ nod d ∧ e.depth ≤ d.depth
  | [], d, e, h, hg => by
    have : d = e := by
      cases d <;> exact Option.some.inj h
    rw [← this]
    exact ⟨hg, Nat.le_refl _, Nat.le_refl _⟩
  | k :: ks, d, e, h, hg => by
    cases d with
    | tuple ds =>
      unfold atM at h
      cases h3 : ds[k]? with
      | none => rw [h3] at h; cases h
      | some e3 =>
        rw [h3] at h
        have m := List.mem_of_getElem? h3
        have hg : gds ds = true := by simpa only [gd] using hg
        have ih := atM_sub ks e3 e h (gds_mem hg m)
        have a1 := nods_mem m
        have a2 := depth_mem m
        exact ⟨ih.1, by simp only [nod]; omega, by simp only [PyData.depth]; omega⟩
    | none => cases h
    | bool b => cases h
    | int i => cases h
    | str x => cases h
    | list l => cases h
    | dict l => cases h
theorem at_gd {gs : Ins} {n : Str} {ks : List Nat} {d : PyData} (hO : InsOk gs) (h : atI2 gs n ks = some d) : gd d = true ∧ nod d ≤ 601 ∧ d.depth ≤ 8 := by
  unfold atI2 at h
  cases e : getI gs n with
  | none => rw [e] at h; cases h
  | some y =>
    rw [e] at h
    cases y with
    | none => cases h
    | some d0 =>
      obtain ⟨g, mg, eg⟩ := getI_mem e
      have q := hO.va g mg d0 eg
      have z := atM_sub ks d0 d h q.1
      exact ⟨z.1, by omega, by omega⟩
theorem want_gd {gs : Ins} {n : Str} {ks : List Nat} (hO : InsOk gs) (sn : Sm 8 n) (lk : ks.length ≤ 10) (hk : ∀ k ∈ ks, k ≤ 1000) : gd (wantD n ks (atI2 gs n ks)) = true ∧ nod (wantD n ks (atI2 gs n ks)) ≤ 700 ∧ (wantD n ks (atI2 gs n ks)).depth ≤ 10 := by
  cases h : atI2 gs n ks with
  | none =>
    have a := (pl_flat sn hk).all
    have : (plD n ks).length = ks.length + 1 := by simp [plD]
    have g0 : gd (.str ("none" : Str)) = true := by decide +kernel
    have A1 : (true && gd (.tuple (plD n ks))) = true := by simpa only [gd, Bool.true_and] using a.1
    exact ⟨by show gd (.tuple [_, _]) = true; rw [gd_two, g0]; exact A1, by simp only [wantD, nod, nods, a.2.1]; omega, by simp only [wantD, PyData.depth, PyData.depthAll, a.2.2]; omega⟩
  | some d =>
    have a := at_gd hO h
    have g0 : gd (.str ("told" : Str)) = true := by decide +kernel
    have A1 : (true && gd d) = true := by rw [a.1] <;> rfl
    exact ⟨by show gd (.tuple [_, _]) = true; rw [gd_two, g0]; exact A1, by simp only [wantD, nod, nods]; omega, by simp only [wantD, PyData.depth, PyData.depthAll]; omega⟩
section
variable {P : Program} {w : World} {K : PySem.W.Frag} {mg : Str → Option Value} {base : Heap} {f fD fV fA fW fP fT fR C CE L CN fE fI eI cT pT t0 : Addr} {fd dD dV dA dW dP dT dR dI xI : FuncData}
theorem pass_lam {X : Cx} {A : Around} {outer : List Env} {s : Shared} {H : Hp} {E : XK} {scope : Scope} {f c' : Addr} : Passes (L2.CX X.prog X.w) (LamX.lamCx X A outer s H E scope f c') E :=
  passes_call (takes_of rfl rfl rfl rfl) fun _ _ _ _ h => h
theorem ok_right {k : Nat} (F : Fun K "_law_right" "_law_right" sRight f fd) (hcode : fd.code = .ref cT) (B : Bi mg) (mdt : mg "dict" = none) (ml : mg "list" = none) (T : FaC K mg C fE) (E5 : Er5 P w K mg base L CE CN eI xI) (TB : LamX.TabB base mg cT pT)
    (mR : Meth K C "__repr__" fR) (gR : FnOk P w K mg base CX0 1 fR dR ["self"] (spRepF C)) (bR : Binds K dR ["self"] [])
    (GD : Dn P w K mg base 3 "_law_due" ["_law_given", "_law_place_here"] (spDue K C) fD dD) (GV : Dn P w K mg base 12 "_law_value" ["_law_box_here", "_law_deep"] (spValue K) fV dV)
    (GA : FnOk P w K mg base (L2.CX P w) 4 fA dA ["inputs", "place"] (spValAt K C CE)) (kA : PySem.W.keepIn K (.ref fA) = true) (bA : Binds K dA ["inputs", "place"] []) (mA : mg "value_at" = some (.ref fA))
    (GW : FnOk P w K mg base (L2.CX P w) 4 fW dW ["inputs", "place", "value"] (spWith K C CE)) (kW : PySem.W.keepIn K (.ref fW) = true) (bW : Binds K dW ["inputs", "place", "value"] []) (mW : mg "with_part" = some (.ref fW))
    (GP : Dn P w K mg base 14 "_law_put" ["_law_here", "_law_steps", "_law_value_here"] (spPut K 12) fP dP)
    (FT : Fun K "_law_told" "_law_told" sTold fT dT) (bT : Binds K dT ["_law_call"] []) (mT : mg "_law_told" = some (.ref fT)) :
    FnG P w K mg base CX0 (k + 16) f fd ["_law_box_here", "_law_given", "_law_place_here"] (spRight K C pT) := by
  refine okGC F hcode scRight (fun vs H Q E h => ?_) (fun A outer s H vs Q E hgd hr h => ?_)
  · obtain ⟨p, g, a, b, kvs, gs, n, ks, rfl, _⟩ := h
    rfl
  obtain ⟨p, g, a, b, kvs, gs, n, ks, rfl, hb, tb, hI, hO, hP, sn, lk, hk, q⟩ := h
  have hr2 : Room 2 _ := hr.mono (by omega)
  have hr3 : Room 3 _ := hr.mono (by omega)
  have hr6 : Room 6 _ := hr.mono (by omega)
  have hr12 : Room 12 _ := hr.mono (by omega)
  have hr14 : Room 14 _ := hr.mono (by omega)
  have hu := hu_of hr
  have hun := hr.un
  have hu65 : (A.deeper (envOfC "_law_right" (defScope sRight) s.heap.objs.size f (.ref cT))).units + 65 < cLine := by omega
  have hu120 : (A.deeper (envOfC "_law_right" (defScope sRight) s.heap.objs.size f (.ref cT))).units + 120 < cLine := by omega
  obtain ⟨toc, tod, tkV, tdoc, tpm, tan, tcdv, tct, tosl, rfl, tlk, thcd⟩ := FT.ex
  refine ⟨_, pss_cons (ps_par (i := 3) (j := 4) (by rfl) scRight.nd rfl rfl (by decide) rfl rfl (pa_cons (pe_call GD.ok hr3 (by rfl) GD.mg GD.kp GD.bd .nil pass0 (pa_cons (pv 1) (pa_cons (pv 2) pa_nil)))
        (pa_cons (pe_callB (call_repDict mR gR bR hr3 hgd) (by rfl) B.rep b_rep (pa_cons (pv 1) pa_nil)) pa_nil)) (by rfl))
    (C8.pss_cut (ps_set (i := 5) scRight.nd rfl (.inl rfl) (pe_ifExp (pt_cmp (pc_isN (pv 3))) (pe_tup (pa_cons pe_str (pa_cons (pv 2) pa_nil))) (pe_tup (pa_cons pe_str (pa_cons (pe_ix ix_list (pv 3) pe_int (fun _ _ => rfl)) pa_nil)))))
    (C8.pss_cut (ps_if (pt_cmpR op_ne (pe_callB (call_rep hgd hr.units) (by rfl) B.rep b_rep (pa_cons
          (pe_lamS (k := 4) (T := [(pT, qLam)]) (t := fun E => tCall (spValAt K C CE) [] E (tCons (tVar 1) (tCons (tVar 2) tNil))) (by rfl) mT FT.kp tlk thcd bT scTold rfl (.inl rfl) (told_gives E5 B.ii) TB rfl List.mem_cons_self (fun p hp _ => by rw [List.mem_singleton.mp hp] <;> rfl) hr6 (LamX.lamS_by (sc := defScope sRight) (by decide +kernel)) rfl
            (fun q cl pm cv ctv => by rfl) (fun A outer s H E f c' hr => pe_call GA hr (by rfl) mA kA bA .nil pass_lam (pa_cons (pv 1) (pa_cons (pv 2) pa_nil)))) pa_nil))
        (pe_callB (call_rep hgd hr.units) (by rfl) B.rep b_rep (pa_cons (pv 5) pa_nil)) (nomark _)) (pss_one (ps_ret pe_bl)) pss_nil)
    (C8.pss_cut (ps_asg (pe_tup (pa_cons (pe_call GV.ok hr12 (by rfl) GV.mg GV.kp GV.bd .nil pass0 (pa_cons (pv 0) (pa_cons pe_int pa_nil))) (pa_cons (pe_callTy call_dictD (by rfl) mdt b_dct (pa_cons (pv 1) pa_nil)) pa_nil)))
        (pg_tup (by rfl) (pgs_cons (pg_name (i := 9) scRight.nd rfl (.inr rfl)) (pgs_cons (pg_name (i := 6) scRight.nd rfl (.inl rfl)) pgs_nil))))
    (C8.pss_cut (ps_set (i := 7) scRight.nd rfl (.inl rfl) (pe_or (pe_cmpR op_notN (pv 3) pe_non (nomark _)) (pe_one (pe_cmpR (op_inD hu65) (pv 2) (pe_lock (pe_lc (own := [("_law_name", 10)]) (g := gName 10) (by rfl) scRight.nd (pi_keys (pv 1))
        (blkOk_by (own := [("_law_name", 10)]) (N := ["_law_box_here", "_law_given", "_law_place_here", "_law_due_here", "_law_kept", "_law_wanted", "_law_whole", "_law_is_there", "_law_found", "_law_value_here", "_law_name"]) (sc := defScope sRight) (by decide +kernel))
        (fun _ _ _ _ _ => pg_name (i := 10) scRight.nd rfl (Or.inl rfl)) (fun _ _ _ _ _ => pts_nil) (fun _ _ _ _ _ => pe_tup (pa_cons (pv 10) pa_nil)))) (by rfl)))))
    (C8.pss_cut (ps_if (pt_val (pv 7)) (pss_one (ps_dput hu (pv 6) (pe_ix ix_tup (pv 2) pe_int (fun _ _ => rfl)) (pe_call GP.ok hr14 (by rfl) GP.mg GP.kp GP.bd .nil pass0 (pa_cons (pe_dget hu (pv 1) (pe_ix ix_tup (pv 2) pe_int (fun _ _ => rfl)) (fun _ _ => rfl))
        (pa_cons (pe_slice sl_tupU (pv 2) (po_some pe_int) po_none) (pa_cons (pv 9) pa_nil)))) rfl)) pss_nil)
    (C8.pss_cut (ps_set (i := 8) scRight.nd rfl (.inl rfl) (pe_lamS (k := 4) (T := [(pT, qLam)]) (t := fun E => tCall (spWith K C CE) [] E (tCons (tVar 1) (tCons (tVar 2) (tCons (tVar 9) tNil)))) (by rfl) mT FT.kp tlk thcd bT scTold rfl (.inl rfl) (told_gives E5 B.ii) TB rfl List.mem_cons_self
          (fun p hp _ => by rw [List.mem_singleton.mp hp] <;> rfl) hr6 (LamX.lamS_by (sc := defScope sRight) (by decide +kernel)) rfl
          (fun q cl pm cv ctv => by rfl) (fun A outer s H E f c' hr => pe_call GW hr (by rfl) mW kW bW .nil pass_lam (pa_cons (pv 1) (pa_cons (pv 2) (pa_cons (pv 9) pa_nil))))))
    (C8.pss_cut (ps_set (i := 5) scRight.nd rfl (.inl rfl) (pe_ifExp (pt_val (pv 7)) (pe_tup (pa_cons pe_str (pa_cons (pv 6) pa_nil))) (pe_tup (pa_cons pe_str (pa_cons (pv 2) pa_nil)))))
    (C8.pss_cut (ps_if (PW.pt (pw_or (pt_cmpR (op_neS hu120) (pv 8) (pv 5) (nomark _)) (pw_or1 (pt_cmpR op_ne (pe_callB (call_repDict mR gR bR hr3 hgd) (by rfl) B.rep b_rep (pa_cons (pv 1) pa_nil)) (pv 4) (nomark _))))) (pss_one (ps_ret pe_bl)) pss_nil)
    (C8.pss_cut (ps_if (pt_val (pv 7)) (pss_one (ps_expr (pe_dclear (pe_ix ix_tup (pv 8) pe_int (fun _ _ => rfl))))) pss_nil)
    (pss_one (ps_ret (pe_cmpR op_eq (pe_callB (call_repDict mR gR bR hr3 hgd) (by rfl) B.rep b_rep (pa_cons (pv 1) pa_nil)) (pv 4) (nomark _))))))))))))), ?_⟩
  have c0 : CF pT p g H H := ⟨hb, tb, LamX.ExtN.refl _⟩
  have hI0 := hI.up (cut_same _ H)
  have hP0 := seqT_cut hP
  have hva : ∀ z ∈ gs, ∀ d, z.2 = some d → gd d = true ∧ nod d ≤ 5000 ∧ d.depth ≤ 40 := fun z m d e => by
    have q := hO.va z m d e
    exact ⟨q.1, by omega, by omega⟩
  -- the inputs, later
  have later : ∀ {Hx : Hp}, CF pT p g H Hx → InAt K C Hx a kvs gs ∧ SqT K Hx b (plV n ks) := fun c => ⟨(hI.ext c.e).up (cut_same _ _), seqT_cut (seqT_ext c.e hP)⟩
  have shown : ∀ {Hx : Hp}, CF pT p g H Hx → ∀ R : VK, R (.str (dictText (gs.map shownI))) Hx → rRepDict K C (spRepF C) [.ref a] Hx R := fun c R hR =>
    ⟨a, kvs, gs.map shownI, rfl, (later c).1.at_, fun o => ins_shown (later c).1.at_ (later c).1.vs hva, ins_len hO, hR⟩
  refine ⟨_, rfl, _, rfl, a, b, kvs, gs, n, ks, rfl, hI0, hP0, by omega, fun v H1 s1 dv => ?_⟩
  have c1 := c0.same s1
  refine ⟨_, rfl, a, kvs, gs.map shownI, rfl, (later c1).1.at_, (fun o => ins_shown (later c1).1.at_ (later c1).1.vs hva), ins_len hO, _, _, rfl, ?_⟩
  generalize hkd : dictText (gs.map shownI) = kd
  -- what is wanted first
  refine ⟨fun σ H2 => ∃ tw, σ = [some (.ref p), some (.ref a), some (.ref b), some v, some (.str kd), some (.ref tw), none, none, none, none, none] ∧ CF pT p g H H2 ∧ Dp K H2 (.ref tw) (wantD n ks (atI2 gs n ks)), ?_, ?_⟩
  · cases hd : atI2 gs n ks with
    | none =>
      rw [hd] at dv
      have dv : v = .non := dv
      subst dv
      refine ⟨_, rfl, true, (by rw [decide_eq_true rfl]), iteT ?_⟩
      refine ⟨_, rfl, few (by simp), fun tw ht => ⟨tw, rfl, c1.same (same_new ht _), ?_⟩⟩
      exact .tup (.inl (.inl upd_same)) (.cons (.str _) (.cons (.tup (seqT_up (same_new ht _) (later c1).2) (pl_dp n ks)) .nil))
    | some d =>
      rw [hd] at dv
      obtain ⟨x, u, rfl, hx, dx⟩ := dv
      refine ⟨_, rfl, false, (by rw [decide_eq_false (fun z => nomatch z)]), iteF ?_⟩
      refine ⟨_, rfl, x, [u], 0, u, rfl, rfl, .inl (.inl hx), rfl, few (by simp), fun tw ht => ⟨tw, rfl, c1.same (same_new ht _), ?_⟩⟩
      exact .tup (.inl (.inl upd_same)) (.cons (.str _) (.cons (Dp.up (same_new ht _) d u dx) .nil))
  rintro σ H2 ⟨tw, rfl, c2, dw⟩
  have wg := want_gd hO sn lk hk
  have wp := prn_of wg.1 (by omega) (by omega)
  refine ⟨fun σ H3 => ∃ tw, σ = [some (.ref p), some (.ref a), some (.ref b), some v, some (.str kd), some (.ref tw), none, none, none, none, none] ∧ CF pT p g H H3, ?_, ?_⟩
  · refine ⟨c2.t.tabs, fun H3 ex t3 => ?_⟩
    have c3 := c2.lam ex t3
    have dw3 := Dp.ext ex _ _ dw
    intro E2 R2 hE hR
    cases hd : atI2 gs n ks with
    | none =>
      rw [hd] at dw3 wp
      refine ⟨_, rfl, _, rfl, a, b, kvs, gs, n, ks, rfl, (later c3).1, (later c3).2, by omega, fun _ d H4 s4 hd4 hx => hE d _ H4 hx fun t H5 s5 ht hx5 => ?_, fun d z => by rw [hd] at z; cases z⟩
      have c5 := (c3.same s4).same s5
      exact ⟨_, _, rfl, .tup (.inl (.inl hx5)) (.cons (.str _) (.cons (.tup (later c5).2 (pl_dp n ks)) .nil)), wp, _, rfl, _, _, rfl, Dp.up (s4.trans s5) _ _ dw3, wp, rfl, false, (by simp [wantD]), iteF ⟨tw, rfl, c5⟩⟩
    | some d =>
      rw [hd] at dw3 wp
      refine ⟨_, rfl, _, rfl, a, b, kvs, gs, n, ks, rfl, (later c3).1, (later c3).2, by omega, (fun z => by rw [hd] at z; cases z), fun d2 hd2 v4 H4 s4 dv4 => hR v4 H4 fun t H5 s5 ht hx5 => ?_⟩
      have e : d = d2 := Option.some.inj (hd.symm.trans hd2)
      subst e
      have c5 := (c3.same s4).same s5
      exact ⟨_, _, rfl, .tup (.inl (.inl hx5)) (.cons (.str _) (.cons (Dp.up s5 _ _ dv4) .nil)), wp, _, rfl, _, _, rfl, Dp.up (s4.trans s5) _ _ dw3, wp, rfl, false, (by simp [wantD]), iteF ⟨tw, rfl, c5⟩⟩
  rintro σ H3 ⟨tw, rfl, c3⟩
  -- the value, and the inputs copied
  refine ⟨fun σ H4 => ∃ x xd w1, σ = [some (.ref p), some (.ref a), some (.ref b), some v, some (.str kd), some (.ref tw), some (.ref w1), none, none, some x, none] ∧ CF pT p g H H4 ∧ Dp K (cut [p, g, pT] H4) x xd ∧ gd xd = true ∧ nod xd ≤ 601 ∧ xd.depth ≤ 2 ∧
    H4 w1 = some (.dK kvs) ∧ w1 ∉ [p, g, pT] ∧ (∀ b u, cut [p, g, pT] H b = some u → (∀ ps, u ≠ .tbl ps) → b ≠ w1), ?_, ?_⟩
  · refine ⟨_, rfl, p, g, 2, [p, g, pT], rfl, c3.b, by decide, by decide, c3.tr, fun x xd H4 b4 o4 dx gx px nx => ?_⟩
    have c4 := c3.off o4 b4
    refine ⟨_, rfl, a, kvs, rfl, Rd.of (later c4).1.at_, fun w1 hw1 => ⟨few (by simp), fun t2 ht2 => ?_⟩⟩
    have s1' := same_new hw1 (.dK kvs)
    have s2' := same_new ht2 (.tup [x, V.ref w1])
    exact ⟨t2, _, rfl, .inl (.inl upd_same), rfl, _, _, rfl, _, _, rfl, rfl, x, xd, w1, rfl, (c4.same s1').same s2', Dp.up (Off.of (l := [p, g, pT]) (s1'.trans s2')) _ _ dx, gx, nx, by omega, s2' _ _ upd_same, c4.tr.out hw1, c4.new hw1⟩
  rintro σ H4 ⟨x, xd, w1, rfl, c4, dx, gx, nx, px, hw1, nw1, new1⟩
  -- whether it is there
  refine ⟨fun σ H5 => σ = [some (.ref p), some (.ref a), some (.ref b), some v, some (.str kd), some (.ref tw), some (.ref w1), some (.bl (okP gs n ks)), none, some x, none] ∧ Same H4 H5, ?_, ?_⟩
  · cases hd : atI2 gs n ks with
    | some d =>
      rw [hd] at dv
      obtain ⟨dq, _, rfl, _⟩ := dv
      exact ⟨_, rfl, rfl, true, (by simp), iteT ⟨by rw [okP_eq, hd] <;> rfl, Same.refl _⟩⟩
    | none =>
      rw [hd] at dv
      have dv : v = .non := dv
      subst dv
      have hI4 := (later c4).1
      have hb4 := (later c4).2
      have ok : okP gs n ks = (ks.isEmpty && gs.any fun g => decide (g.1 = n)) := by rw [okP_eq, hd] <;> rfl
      refine ⟨_, rfl, rfl, false, (by simp), iteF ?_⟩
      refine ⟨_, rfl, a, .dK kvs, hI4.at_, trivial, fun od => ⟨_, rfl, a, od, rfl, .inl ⟨kvs, upd_same, fun D hD => ?_⟩⟩⟩
      have naD : a ≠ D := ne_of_none upd_same hD
      have hD0 : H4 D = none := by
        rw [upd_ne naD.symm] at hD
        exact hD
      refine lc_it (walk_keys (d := a) (o := od)) (fun i H2 => ∃ vs, H2 D = some (.lst vs) ∧ vs.length = i ∧ Same (upd H4 a (.frz od (.dK kvs))) H2 ∧ DpAll K (cut [D, a] H2) vs ((gs.take i).map fun g => .tuple [.str g.1])) ⟨[], upd_same, rfl, same_new hD _, .nil⟩ ?_ ?_ ?_
      · rintro i H2 hi ⟨vs, g1, g2, g3, g4⟩
        exact g3 _ _ upd_same
      · rintro i y H2 H3 hi ⟨vs, g1, g2, g3, g4⟩ ⟨rfl, kk, vv, hkv, rfl⟩
        obtain ⟨gg, hgg, ek⟩ := paired_at hI4.vs hkv
        have ek : kk = .inr gg.1 := ek.1
        subst ek
        have haH : H3 a = some (.frz od (.dK kvs)) := g3 _ _ upd_same
        refine ⟨rfl, _, rfl, few (by simp), fun t ht => ?_⟩
        have st := same_new ht (.tup [V.str gg.1])
        have ntD : t ≠ D := (ne_of_none g1 ht).symm
        have nta : t ≠ a := (ne_of_none haH ht).symm
        refine ⟨vs, st _ _ g1, few1 (by rw [g2]; have := Paired.length hI4.vs; have := hO.few; omega), _, upd_same, by simp [g2], ?_, ?_⟩
        · intro b o z
          rw [upd_ne (ne_of_none z hD)]
          exact st _ _ (g3 _ _ z)
        · rw [get_take hgg, List.map_append]
          refine DpAll.app ?_ (.cons (.tup (xs := [V.str gg.1]) (.inl (.inl ?_)) (.cons (.str _) .nil)) .nil)
          · exact Dp.ups ((Off.of (l := [D, a]) st).trans (Off.put List.mem_cons_self)) _ _ g4
          · rw [cut_out (by simp [ntD, nta]), upd_ne ntD]
            exact upd_same
      · rintro H2 ⟨vs, g1, g2, g3, g4⟩
        refine ⟨g3 _ _ upd_same, ?_⟩
        have s5 : Same H4 (upd H2 a (.dK kvs)) := by
          intro b o z
          by_cases e : b = a
          · rw [e, upd_same, ← z, e]
            exact hI4.at_.symm
          · rw [upd_ne e]
            refine g3 _ _ ?_
            rw [upd_ne e]
            exact z
        rw [show kvs.length = gs.length from Paired.length hI4.vs, List.take_length] at g4
        have g5 := Dp.ups (cut_same [D, a] _) _ _ (Dp.ups (Off.put (l := [D, a]) (o := .dK kvs) (List.mem_cons_of_mem _ List.mem_cons_self)) _ _ g4)
        have fl := pl_flat sn hk
        have fa := fl.all
        refine ⟨.tuple (plD n ks), gs.map fun g : Str × Option PyData => PyData.tuple [.str g.1], .tup (seqT_up s5 hb4) (pl_dp n ks), .lst (SqL.of (by rw [upd_ne naD.symm]; exact g1)) g5, shaped_of (by simpa only [gd] using fa.1) (by simp only [PyData.depth, fa.2.2]; omega), ?_, ?_⟩
        · have : ∀ gs : Ins, (∀ g ∈ gs, Sm 8 g.1) → gds (gs.map fun g => PyData.tuple [.str g.1]) = true ∧ PyData.depthAll (gs.map fun g => PyData.tuple [.str g.1]) ≤ 2 := by
            intro gs
            induction gs with
            | nil => exact fun _ => ⟨by simp only [List.map_nil, gds], by simp only [List.map_nil, PyData.depthAll]; omega⟩
            | cons g gs ih =>
              intro h
              have i2 := ih fun z m => h z (List.mem_cons_of_mem _ m)
              have g0 := (h g List.mem_cons_self).gd (by decide)
              have e1 : gd (.tuple [.str g.1]) = true := by
                rw [gd_one, g0]
              refine ⟨?_, by simp only [List.map_cons, PyData.depthAll, PyData.depth]; omega⟩
              rw [List.map_cons, gds, e1, i2.1]
              rfl
          have z := this gs hO.nm
          exact shaped_of (by simpa only [gd] using z.1) (by simp only [PyData.depth]; omega)
        · rw [names_any]
          exact ⟨by rw [ok] <;> rfl, s5⟩
  rintro σ H5 ⟨rfl, s5⟩
  have c5 := c4.same s5
  have hw15 := s5 _ _ hw1
  have dx5 := Dp.up (Off.of (l := [p, g, pT]) s5) _ _ dx
  have sl0 : atI (plV n ks) 0 = some (V.str n) := atI_nat (j := 0) rfl
  generalize hok : okP gs n ks = ok
  -- the part put in
  refine ⟨fun σ H6 => σ = [some (.ref p), some (.ref a), some (.ref b), some v, some (.str kd), some (.ref tw), some (.ref w1), some (.bl ok), none, some x, none] ∧ CF pT p g H H6 ∧ Dp K H6 x xd ∧
    (ok = true → ∃ u, H6 w1 = some (.dK (putK kvs (.inr n) u)) ∧ Dp K H6 u (newM gs n ks xd)), ?_, ?_⟩
  · cases ok with
    | false =>
      exact ⟨_, rfl, _, rfl, iteF ⟨rfl, c5, Dp.up (cut_same _ _) _ _ dx5, fun z => nomatch z⟩⟩
    | true =>
      have hI5 := (later c5).1
      have hb5 := (later c5).2
      obtain ⟨x0, ex0, use⟩ := okP_use xd hO hok
      obtain ⟨u0, eu0, hu0⟩ : ∃ u0, valV kvs (.inr n) = some u0 ∧ VaAt K C H5 u0 x0 := by
        rcases hI5.vs.get n with ⟨_, q2⟩ | ⟨v0, x1, q1, q2, hv⟩
        · rw [q2] at ex0; cases ex0
        · rw [q2] at ex0; cases ex0
          exact ⟨v0, q1, hv⟩
      refine ⟨_, rfl, _, rfl, iteT ⟨_, rfl, _, rfl, b, plV n ks, 0, .str n, rfl, rfl, hb5, sl0, a, u0, rfl, ?_, _, rfl, 1, rfl, b, plV n ks, [], rfl, (by rw [cut_nil]; exact hb5), tr_nil _, fun c H6 s6 hc => ?_⟩⟩
      · rw [← eu0]
        exact DGet.k (k := Sum.inr n) hI5.at_
      rw [cut_nil, show plV n ks = V.str n :: ks.map (fun k : Nat => V.int k) from rfl, cutV_tail] at hc
      have c6 := c5.same s6
      have dx6 := Dp.up s6 _ _ (Dp.up (cut_same _ _) _ _ dx5)
      refine ⟨_, rfl, u0, c, x, ks, xd, newM gs n ks xd, rfl, hc, by omega, dx6, ?_, fun w H7 s7 dw => ?_⟩
      · rcases use with ⟨q1, q2⟩ | ⟨d, q1, q2, q3, q4⟩
        · exact .inl ⟨q1, q2⟩
        · refine .inr ⟨d, ?_, q2, by omega, q4⟩
          rw [q1] at hu0
          exact Dp.up s6 d _ hu0
      · have c7 := c6.same s7
        have hw7 := s7 _ _ (s6 _ _ hw15)
        have lkv : kvs.length = gs.length := Paired.length hI5.vs
        have hfew := hO.few
        refine ⟨_, rfl, _, rfl, b, plV n ks, 0, .str n, rfl, rfl, (later c7).2, sl0, w1, _, rfl, .inl ⟨kvs, .inr n, hw7, rfl, few1 (by omega), rfl⟩, rfl, ?_, Dp.locked hw7 (Dp.up s7 _ _ dx6), fun _ => ⟨w, upd_same, Dp.locked hw7 dw⟩⟩
        exact c7.put hw7 (fun z => nw1 (by
          simp only [List.mem_cons, List.not_mem_nil, or_false] at z ⊢
          rcases z with z | z
          · exact .inl z
          · exact .inr (.inl z))) new1
  rintro σ H6 ⟨rfl, c6, dx6, w6⟩
  -- what is told of the new inputs
  refine ⟨fun σ H7 => ∃ tf, σ = [some (.ref p), some (.ref a), some (.ref b), some v, some (.str kd), some (.ref tw), some (.ref w1), some (.bl ok), some (.ref tf), some x, none] ∧ CF pT p g H H7 ∧ (ok = true → ∃ u, H7 w1 = some (.dK (putK kvs (.inr n) u)) ∧ Dp K H7 u (newM gs n ks xd)) ∧
    (ok = false → SqT K H7 tf [.str "none", .ref b]) ∧ (ok = true → ∃ q u, SqT K H7 tf [.str "told", .ref q] ∧ H7 q = some (.dK (putK kvs (.inr n) u)) ∧ Dp K H7 u (newM gs n ks xd) ∧ q ∉ [p, g] ∧ ∀ b u, cut [p, g, pT] H b = some u → (∀ ps, u ≠ .tbl ps) → b ≠ q), ?_, ?_⟩
  · refine ⟨c6.t.tabs, fun H7 ex t7 => ?_⟩
    have c7 := c6.lam ex t7
    have dx7 := Dp.ext ex _ _ dx6
    have w7 : ok = true → ∃ u, H7 w1 = some (.dK (putK kvs (.inr n) u)) ∧ Dp K H7 u (newM gs n ks xd) := fun z => by
      obtain ⟨u, a1, a2⟩ := w6 z
      exact ⟨u, ex _ _ a1 (fun _ z => nomatch z), Dp.ext ex _ _ a2⟩
    have hI7 := (later c7).1
    have lkv : kvs.length = gs.length := Paired.length hI7.vs
    have hfew := hO.few
    intro E2 R2 hE hR
    refine ⟨_, rfl, _, rfl, _, rfl, a, b, x, kvs, gs, n, ks, xd, rfl, hI7, (later c7).2, by omega, by omega, dx7, gx, (fun d ed => by
      obtain ⟨g, mg, eg⟩ := getI_mem ed
      have := (hO.va g mg d eg).2.1
      omega), (fun z => ?_), fun z q u H8 s8 hq hq8 du => ?_⟩
    · rw [hok] at z
      intro d H8 s8 hd8 hx
      refine hE d _ H8 hx fun t H9 s9 ht hx9 => ?_
      have s79 := s8.trans s9
      refine ⟨t, rfl, c7.same s79, (fun e => by rw [z] at e; cases e), (fun _ => .inl (.inl hx9)), fun e => by rw [z] at e; cases e⟩
    · rw [hok] at z
      refine hR _ H8 fun t H9 s9 ht hx9 => ?_
      have s79 := s8.trans s9
      have c8 := c7.tr.out hq
      refine ⟨t, rfl, c7.same s79, (fun e => ?_), (fun e => by rw [z] at e; cases e), fun _ => ⟨q, u, .inl (.inl hx9), s9 _ _ hq8, Dp.up s9 _ _ du, ?_, c7.new hq⟩⟩
      · obtain ⟨u2, a1, a2⟩ := w7 e
        exact ⟨u2, s79 _ _ a1, Dp.up s79 _ _ a2⟩
      · intro m
        refine c8 ?_
        simp only [List.mem_cons, List.not_mem_nil, or_false] at m ⊢
        rcases m with z | z
        · exact .inl z
        · exact .inr (.inl z)
  rintro σ H7 ⟨tf, rfl, c7, w7, f7, t7⟩
  -- what is wanted now
  refine ⟨fun σ H8 => ∃ tw, σ = [some (.ref p), some (.ref a), some (.ref b), some v, some (.str kd), some (.ref tw), some (.ref w1), some (.bl ok), some (.ref tf), some x, none] ∧ Same H7 H8 ∧ (ok = true → SqT K H8 tw [.str "told", .ref w1]) ∧ (ok = false → SqT K H8 tw [.str "none", .ref b]), ?_, ?_⟩
  · cases ok with
    | false =>
      refine ⟨_, rfl, _, rfl, iteF ⟨_, rfl, few (by simp), fun t ht => ⟨t, rfl, same_new ht _, (fun z => nomatch z), fun _ => .inl (.inl upd_same)⟩⟩⟩
    | true =>
      refine ⟨_, rfl, _, rfl, iteT ⟨_, rfl, few (by simp), fun t ht => ⟨t, rfl, same_new ht _, (fun _ => .inl (.inl upd_same)), fun z => nomatch z⟩⟩⟩
  rintro σ H8 ⟨tw8, rfl, s8, a8, b8⟩
  have c8 := c7.same s8
  have hI8 := (later c8).1
  have hb8 := (later c8).2
  have nd8 := InsV.ndk hI8.vs hI8.nd
  have shp := newM_gd (n := n) (ks := ks) hO gx px lk
  -- what is found is what is wanted
  refine ⟨fun σ H9 => σ = [some (.ref p), some (.ref a), some (.ref b), some v, some (.str kd), some (.ref tw8), some (.ref w1), some (.bl ok), some (.ref tf), some x, none] ∧ H9 = H8, ?_, ?_⟩
  · have two : ∃ n' xs ys, n' ≤ 40 ∧ SqT K H8 tf xs ∧ SqT K H8 tw8 ys ∧ Paired (EqW K H8 n') xs ys := by
      cases ok with
      | false => exact ⟨1, _, _, by omega, seqT_up s8 (f7 rfl), b8 rfl, .cons (.inl ⟨rfl, rfl⟩) (.cons (.inr (.inl ⟨b, rfl, rfl⟩)) .nil)⟩
      | true =>
        obtain ⟨q1, u, t1, t2, t3, t4, t5⟩ := t7 rfl
        obtain ⟨u2, e1, e2⟩ := w7 rfl
        refine ⟨3, _, _, by omega, seqT_up s8 t1, a8 rfl, .cons (.inl ⟨rfl, rfl⟩) (.cons (.inr (.inr (.inr (.inl (.inr ⟨q1, w1, _, _, rfl, rfl, s8 _ _ t2, s8 _ _ e1, putK_same_len _ _ _ _, ?_⟩))))) .nil)⟩
        exact eqW_put (m := 1) hI8.vs nd8 (Dp.up s8 _ _ t3) (Dp.up s8 _ _ e2) shp
    obtain ⟨n', xs, ys, hn, hx, hy, hp⟩ := two
    exact ⟨_, rfl, _, rfl, n', tf, tw8, hn, rfl, rfl, .inl ⟨xs, ys, hx, hy, hp⟩, false, rfl, iteF ⟨_, rfl, a, kvs, gs.map shownI, rfl, hI8.at_, (fun o => ins_shown hI8.at_ hI8.vs hva), ins_len hO, _, rfl, rfl, false, (by simp [hkd]), iteF ⟨rfl, rfl⟩⟩⟩
  rintro σ H9 ⟨rfl, rfl⟩
  -- what is found is emptied
  refine ⟨fun σ H10 => σ = [some (.ref p), some (.ref a), some (.ref b), some v, some (.str kd), some (.ref tw8), some (.ref w1), some (.bl ok), some (.ref tf), some x, none] ∧ CF pT p g H H10, ?_, ?_⟩
  · cases ok with
    | false => exact ⟨_, rfl, _, rfl, iteF ⟨rfl, c8⟩⟩
    | true =>
      obtain ⟨q1, u, t1, t2, t3, t4, t5⟩ := t7 rfl
      have h2 := s8 _ _ t2
      exact ⟨_, rfl, _, rfl, iteT ⟨_, rfl, tf, [.str "told", .ref q1], 1, .ref q1, rfl, rfl, seqT_up s8 t1, atI_nat (j := 1) rfl, .inr (.inr (.inl ⟨rfl, .inl ⟨_, h2⟩⟩)), q1, _, rfl, rfl, h2, rfl, c8.put h2 t4 t5⟩⟩
  rintro σ H10 ⟨rfl, c10⟩
  have hI10 := (later c10).1
  refine ⟨_, rfl, a, kvs, gs.map shownI, rfl, hI10.at_, (fun o => ins_shown hI10.at_ hI10.vs hva), ins_len hO, _, rfl, rfl, ?_⟩
  have e : decide (V.str (dictText (gs.map shownI)) = V.str kd) = true := by rw [hkd]; exact decide_eq_true rfl
  rw [e]
  exact q _ c10.b c10.t c10.e
end
/-! the law -/
abbrev sLaw : Stmt := topS 28
theorem scLaw : FnScope ["_law_script", "_law_box_here", "_law_turn", "_law_given", "_law_more", "_law_place_here", "_law_other", "_law_thing"] ["_law_script"] (defScope sLaw) :=
  ⟨rfl, rfl, rfl, by decide +kernel, rfl, by decide +kernel, by decide +kernel⟩
def spLaw (K : PySem.W.Frag) (pT : Addr) : Sp := fun vs H Q _ => ∃ (a : Addr) (ns : List Int), vs = [.ref a] ∧ SqL K H a (ns.map V.int) ∧ ns.length ≤ 63 ∧ H pT = some (.tbl #[]) ∧ ∀ H', Q (.bl true) H'
theorem mergeK_fresh : ∀ (more kvs : List (Key × V)), ((kvs ++ more).map Prod.fst).Nodup → mergeK kvs more = kvs ++ more
  | [], kvs, _ => by simp [mergeK]
  | (k, v) :: r, kvs, h => by
    have e : putK kvs k v = kvs ++ [(k, v)] := by
      unfold putK
      rw [if_neg]
      intro z
      obtain ⟨p, hp, e⟩ := List.any_eq_true.mp z
      have e : p.1 = k := of_decide_eq_true e
      rw [List.map_append, List.nodup_append] at h
      exact h.2.2 p.1 (List.mem_map.mpr ⟨p, hp, rfl⟩) k (by simp) e
    show mergeK (putK kvs k v) r = _
    rw [e, mergeK_fresh r (kvs ++ [(k, v)]) (by rw [List.append_assoc]; exact h), List.append_assoc]
    rfl
theorem paired_cat {α β : Type} {F : α → β → Prop} : ∀ {xs : List α} {ys : List β} {xs2 : List α} {ys2 : List β}, Paired F xs ys → Paired F xs2 ys2 → Paired F (xs ++ xs2) (ys ++ ys2)
  | _, _, _, _, .nil, h => h
  | _, _, _, _, .cons a t, h => .cons a (paired_cat t h)
theorem paired_rev {α β : Type} {F : α → β → Prop} {xs : List α} {ys : List β} (h : Paired F xs ys) : Paired F xs.reverse ys.reverse := by
  induction h with
  | nil => exact .nil
  | cons a _ ih =>
    rw [List.reverse_cons, List.reverse_cons]
    exact paired_cat ih (.cons a .nil)
theorem InsOk.rev {gs : Ins} (h : InsOk gs) : InsOk gs.reverse := ⟨by rw [List.length_reverse]; exact h.few, fun g m => h.nm g (List.mem_reverse.mp m), fun g m => h.va g (List.mem_reverse.mp m)⟩
theorem InAt.rev {K : PySem.W.Frag} {C : Addr} {H : Hp} {a r : Addr} {kvs : List (Key × V)} {gs : Ins} (h : InAt K C H a kvs gs) (hr : H r = some (.dK kvs.reverse)) : InAt K C H r kvs.reverse gs.reverse :=
  ⟨hr, paired_rev h.vs, by rw [List.map_reverse]; exact List.pairwise_reverse.mpr (h.nd.imp fun h => Ne.symm h)⟩
section
variable {P : Program} {w : World} {K : PySem.W.Frag} {mg : Str → Option Value} {base : Heap} {f fB fT fI fP fO fQ fL fR C pT : Addr} {fd dB dT dI dP dO dQ dL dR : FuncData}
theorem ok_law (F : Fun K "law" "law" sLaw f fd) (B : Bi mg) (mdt : mg "dict" = none) (ml : mg "list" = none) (GB : Dn P w K mg base 1 "_law_box" ["_law_script", "_law_base"] (spBox K) fB dB)
    (GI : Dn P w K mg base 13 "_law_inputs" ["_law_box_here"] (spInputs K C) fI dI) (GP : Dn P w K mg base 3 "_law_place" ["_law_box_here", "_law_given"] (spPlace K C) fP dP)
    (GO : Dn P w K mg base 2 "_law_odd" ["_law_box_here", "_law_place_here"] (spOdd K) fO dO)
    (GQ : Dn P w K mg base 2 "is_place" ["thing"] (spLook K (fun d => gd d = true ∧ nod d ≤ 900) fun d => .bl (isPl d)) fQ dQ)
    (GL : Dn P w K mg base 2 "_law_is_place" ["_law_thing"] (spLook K (fun d => gd d = true ∧ nod d ≤ 900 ∧ d.depth ≤ 40) fun d => .bl (isPl d)) fL dL)
    (GR : FnG P w K mg base CX0 16 fR dR ["_law_box_here", "_law_given", "_law_place_here"] (spRight K C pT)) (kR : PySem.W.keepIn K (.ref fR) = true) (bR : Binds K dR ["_law_box_here", "_law_given", "_law_place_here"] []) (mR : mg "_law_right" = some (.ref fR)) :
    FnG P w K mg base CX0 17 f fd ["_law_script"] (spLaw K pT) := by
  refine okG F scLaw (fun vs H Q E h => ?_) (fun cdv A outer s H vs Q E hgd hr h => ?_)
  · obtain ⟨a, ns, rfl, _⟩ := h
    rfl
  obtain ⟨a, ns, rfl, hS, hlen, hT, q⟩ := h
  have hr1 : Room 1 _ := hr.mono (by decide)
  have hr2 : Room 2 _ := hr.mono (by decide)
  have hr3 : Room 3 _ := hr.mono (by decide)
  have hr13 : Room 13 _ := hr.mono (by decide)
  refine ⟨_, pss_cons (ps_set (i := 1) scLaw.nd rfl (.inl rfl) (pe_call GB.ok hr1 (by rfl) GB.mg GB.kp GB.bd .nil pass0 (pa_cons (pv 0) (pa_cons pe_int pa_nil))))
    (pss_cons (ps_for PassesOwn.never rfl (pi_range1 (by rfl) B.rng (pa_cons pe_int pa_nil)) (pg_name (i := 2) scLaw.nd rfl (.inl rfl))
      (pss_cons (ps_set (i := 3) scLaw.nd rfl (.inl rfl) (pe_call GI.ok hr13 (by rfl) GI.mg GI.kp GI.bd .nil pass0 (pa_cons (pv 1) pa_nil)))
      (pss_one (ps_for PassesOwn.never rfl (pi_range1 (by rfl) B.rng (pa_cons pe_int pa_nil)) (pg_name (i := 4) scLaw.nd rfl (.inl rfl))
        (pss_cons (ps_set (i := 5) scLaw.nd rfl (.inl rfl) (pe_call GP.ok hr3 (by rfl) GP.mg GP.kp GP.bd .nil pass0 (pa_cons (pv 1) (pa_cons (pv 3) pa_nil))))
        (pss_cons (ps_set (i := 6) scLaw.nd rfl (.inl rfl) (pe_callTy (call_dictP rfl) (by rfl) mdt b_dct (pa_cons (pe_revL (LiI.pe_listItems (by rfl) (pv 3) (by rfl) ml b_list)) pa_nil)))
        (pss_cons (ps_if (PW.pt (pw_or (pt_not (pt_val (pe_callG GR hgd hr (by rfl) mR kR bR .nil pass0 (pa_cons (pv 1) (pa_cons (pv 3) (pa_cons (pv 5) pa_nil))))))
            (pw_or1 (pt_not (pt_val (pe_callG GR hgd hr (by rfl) mR kR bR .nil pass0 (pa_cons (pv 1) (pa_cons (pv 6) (pa_cons (pv 5) pa_nil))))))))) (pss_one (ps_ret pe_bl)) pss_nil)
        (pss_one (ps_for PassesOwn.never rfl (pi_tup (pe_tup (pa_cons (pv 5) (pa_cons (pe_call GO.ok hr2 (by rfl) GO.mg GO.kp GO.bd .nil pass0 (pa_cons (pv 1) (pa_cons (pv 5) pa_nil))) (pa_cons (pv 5) pa_nil))))) (pg_name (i := 7) scLaw.nd rfl (.inl rfl))
          (pss_one (ps_if (pt_cmpR op_ne (pe_callB (call_rep hgd hr.units) (by rfl) B.rep b_rep (pa_cons (pe_call GQ.ok hr2 (by rfl) GQ.mg GQ.kp GQ.bd .nil pass0 (pa_cons (pv 7) pa_nil)) pa_nil))
            (pe_callB (call_rep hgd hr.units) (by rfl) B.rep b_rep (pa_cons (pe_call GL.ok hr2 (by rfl) GL.mg GL.kp GL.bd .nil pass0 (pa_cons (pv 7) pa_nil)) pa_nil)) (nomark _)) (pss_one (ps_ret pe_bl)) pss_nil)))))))))))
    (pss_one (ps_ret pe_bl))), ?_⟩
  have T0 : LamX.Tabs [(pT, qLam)] H := fun z hz => by
    rw [List.mem_singleton.mp hz]
    exact ⟨#[], hT, trivial, fun pos cv z => by cases z⟩
  refine ⟨_, rfl, a, ns, 0, rfl, hS, hlen, Int.le_refl _, by decide, fun p g H1 b1 s1 np ng => ?_⟩
  have t1 : TabC pT p g H1 := TabC.of (LamX.Tabs.ext T0 s1) b1
  refine ⟨3, rfl, by decide, by decide, for_range (n := 3) (fun i σ H2 => ∃ o2 o3 o4 o5 o6 o7, σ = [some (.ref a), some (.ref p), o2, o3, o4, o5, o6, o7] ∧ Box H2 p g ∧ TabC pT p g H2) ⟨none, none, none, none, none, none, rfl, b1, t1⟩ ?_ ?_⟩
  · rintro i σ H2 hi ⟨o2, o3, o4, o5, o6, o7, rfl, b2, t2⟩
    have c2 : CF pT p g H2 H2 := ⟨b2, t2, LamX.ExtN.refl _⟩
    refine ⟨_, rfl, p, g, [p, g, pT], rfl, b2, c2.tr, fun u kvs gs H3 b3 f3 nu hI hO => ?_⟩
    have t3 : TabC pT p g H3 := t2.off f3
    refine ⟨6, rfl, by decide, by decide, for_range (n := 6) (fun i σ H4 => ∃ o2 o4 o5 o6 o7, σ = [some (.ref a), some (.ref p), o2, some (.ref u), o4, o5, o6, o7] ∧ Box H4 p g ∧ TabC pT p g H4 ∧ InAt K C (cut [p, g, pT] H4) u kvs gs) ⟨_, _, _, _, _, rfl, b3, t3, hI⟩ ?_ ?_⟩
    · rintro j σ H4 hj ⟨o2, o4, o5, o6, o7, rfl, b4, t4, hI4⟩
      have c4 : CF pT p g H4 H4 := ⟨b4, t4, LamX.ExtN.refl _⟩
      refine ⟨_, rfl, _, rfl, p, g, u, [p, g, pT], kvs, gs, rfl, b4, c4.tr, by simp, by simp, hI4, hO, fun t n ks H5 b5 f5 hP sn lk hk => ?_⟩
      have c5 : CF pT p g H4 H5 := c4.off f5 b5
      have hI5 : InAt K C (cut [p, g, pT] H5) u kvs gs := hI4.ext c5.e
      have hu5 := hI5.up (cut_same _ _)
      refine ⟨_, rfl, u, kvs, rfl, hu5.at_, fun H6 lp ts s6 hlp hts nlp e6 P6 => ?_⟩
      have s6 : Same H5 H6 := s6
      refine ⟨lp, _, rfl, SqL.of e6, fun l2 hl2 => ?_⟩
      have s7 := same_new hl2 (.lst (ts.map V.ref).reverse)
      refine ⟨l2, ts.reverse, kvs.reverse, rfl, SqL.of (by rw [List.map_reverse]; exact upd_same), paired_rev (Paired.imp (fun t z h => .inl (.inl (s7 _ _ h))) P6), fun r hr => ?_⟩
      have nd := InsV.ndk hI5.vs hI5.nd
      rw [mergeK_fresh kvs.reverse [] (by rw [List.nil_append, List.map_reverse]; exact List.pairwise_reverse.mpr (nd.imp fun h => Ne.symm h)), List.nil_append]
      have s8 := same_new hr (.dK kvs.reverse)
      have h8 : (upd (upd H6 l2 (.lst (ts.map V.ref).reverse)) r (.dK kvs.reverse)) r = some (.dK kvs.reverse) := upd_same
      have c7 := (c5.same s6).same s7
      have nr := c7.tr.out hr
      have c8 := c7.same s8
      generalize upd (upd H6 l2 (.lst (ts.map V.ref).reverse)) r (.dK kvs.reverse) = H8 at *
      have c58 : Same H5 H8 := s6.trans (s7.trans s8)
      have hI8 := hI5.up (Off.of (l := [p, g, pT]) c58)
      have hP8 := seqT_up (Off.of (l := [p, g, pT]) c58) hP
      have hr8 : InAt K C (cut [p, g, pT] H8) r kvs.reverse gs.reverse := hI8.rev (by rw [cut_out nr]; exact h8)
      refine ⟨_, rfl, _, rfl, _, rfl, p, g, u, t, kvs, gs, n, ks, rfl, c8.b, c8.t, hI8, hO, hP8, sn, lk, hk, fun H9 b9 t9 x9 => ?_⟩
      have hr9 := hr8.ext x9
      have hP9 := seqT_ext x9 hP8
      refine ⟨true, rfl, iteF ?_⟩
      refine ⟨_, rfl, _, rfl, _, rfl, p, g, r, t, _, _, n, ks, rfl, b9, t9, hr9, hO.rev, hP9, sn, lk, hk, fun HA bA tA xA => ?_⟩
      have hIA := (hI8.ext x9).ext xA
      have hPA := seqT_ext xA hP9
      have cA : CF pT p g HA HA := ⟨bA, tA, LamX.ExtN.refl _⟩
      refine ⟨true, rfl, iteF ?_⟩
      have thg : Thg K [p, g, pT] HA (.ref t) := thg_tup hPA (pl_dp n ks) (pl_flat sn hk) (by simp only [plV, List.length_cons, List.length_map]; omega)
      refine ⟨_, rfl, _, rfl, _, rfl, p, g, t, [p, g, pT], n, ks, rfl, bA, cA.tr, by simp, by simp, hPA, sn, lk, hk, fun v HB bB fB thv => ?_⟩
      have cB := cA.off fB bB
      have thB : Thg K [p, g, pT] HB (.ref t) := by
        obtain ⟨d, h1, h2⟩ := thg
        exact ⟨d, Dp.ext cB.e _ _ h1, h2⟩
      have hIB := hIA.ext cB.e
      refine ⟨_, rfl, few (by simp), fun tq htq => ?_⟩
      have sC := same_new htq (.tup [V.ref t, v, V.ref t])
      have hq : (upd HB tq (.tup [V.ref t, v, V.ref t])) tq = some (.tup [V.ref t, v, V.ref t]) := upd_same
      have cC := cB.same sC
      have allC : ∀ y ∈ [V.ref t, v, V.ref t], Thg K [p, g, pT] (upd HB tq (.tup [V.ref t, v, V.ref t])) y := fun y m => by
        simp only [List.mem_cons, List.not_mem_nil, or_false] at m
        rcases m with e | e | e
        · rw [e]; exact thB.up (Off.of sC)
        · rw [e]; exact thv.up (Off.of sC)
        · rw [e]; exact thB.up (Off.of sC)
      have hIC := hIB.up (Off.of (l := [p, g, pT]) sC)
      generalize upd HB tq (.tup [V.ref t, v, V.ref t]) = HC at *
      refine ⟨tq, rfl, ⟨_, .inl (.inl hq)⟩, for_it (walk_tup (K := K) (a := tq) (xs := [V.ref t, v, V.ref t])) (fun i σ HD => ∃ o2 o4 o5 o6 o7, σ = [some (.ref a), some (.ref p), o2, some (.ref u), o4, o5, o6, o7] ∧ Same HC HD) ⟨_, _, _, _, _, rfl, Same.refl _⟩ ?_ ?_ ?_⟩
      · rintro i σ HD hi ⟨_, _, _, _, _, rfl, sD⟩
        exact .inl (.inl (sD _ _ hq))
      · rintro i y σ HD HD' hi ⟨o2, o4, o5, o6, o7, rfl, sD⟩ ⟨rfl, hy⟩
        obtain ⟨d, h1, h2, h3, h4⟩ := allC y (List.mem_of_getElem? hy)
        have hd := Dp.up sD _ _ (Dp.up (cut_same _ _) _ _ h1)
        refine ⟨_, rfl, y, d, rfl, hd, ⟨h2, by omega⟩, fun HE sE => ⟨_, .bool (isPl d), rfl, .bl _, bool_prn _, _, rfl, y, d, rfl, Dp.up sE _ _ hd, ⟨h2, by omega, by omega⟩, fun HF sF => ⟨_, .bool (isPl d), rfl, .bl _, bool_prn _, rfl, false, (by simp), iteF ?_⟩⟩⟩
        exact ⟨_, _, _, _, _, rfl, sD.trans (sE.trans sF)⟩
      · rintro σ HD ⟨o2, o4, o5, o6, o7, rfl, sD⟩
        have cD := cC.same sD
        exact ⟨_, _, _, _, _, rfl, cD.b, cD.t, hIC.up (Off.of (l := [p, g, pT]) sD)⟩
    · rintro σ H4 ⟨o2, o4, o5, o6, o7, rfl, b4, t4, hI4⟩
      exact ⟨_, _, _, _, _, _, rfl, b4, t4⟩
  · rintro σ H2 ⟨o2, o3, o4, o5, o6, o7, rfl, b2, t2⟩
    exact q _
end
theorem kit_me {K : PySem.W.Frag} {C : Addr} : PySem.W.kitOne K (.ref C) (.ref C) = some true := by
  unfold PySem.W.kitOne
  simp
theorem kit_own {K : PySem.W.Frag} {C : Addr} {T : String} (c : (PySem.W.clsIn K C).isSome = true) (t : PySem.W.typeIn K (.ref C) = some (.type "type")) (s : PySem.W.subIn K (.type T) (.ref C) = some false) : PySem.W.kitOne K (.type T) (.ref C) = some false := by
  unfold PySem.W.kitOne PySem.W.kitCls
  rw [if_neg (show ¬ (Value.type T == Value.ref C) = true from by intro z; cases z)]
  show (if ((PySem.W.clsIn K C).isSome && PySem.W.typeIn K (.ref C) == some (.type "type")) = true then PySem.W.subIn K (.type T) (.ref C) else none) = some false
  rw [c, t]
  simp only [beq_self_eq_true, Bool.and_self, if_true]
  exact s
theorem kit_ofC {K : PySem.W.Frag} {C : Addr} {T : String} (m : PySem.W.kitMeta T = true) (s : PySem.W.subIn K (.ref C) (.type T) = some false) : PySem.W.kitOne K (.ref C) (.type T) = some false := by
  unfold PySem.W.kitOne PySem.W.kitCls
  rw [if_neg (show ¬ (Value.ref C == Value.type T) = true from by intro z; cases z)]
  show (if PySem.W.kitMeta T = true then _ else _) = _
  rw [if_pos m]
  exact s
theorem kmt1 : PySem.W.kitMeta "NoneType" = true := by decide +kernel
theorem kmt2 : PySem.W.kitMeta "bool" = true := by decide +kernel
theorem kmt3 : PySem.W.kitMeta "int" = true := by decide +kernel
theorem kmt4 : PySem.W.kitMeta "str" = true := by decide +kernel
theorem kmt5 : PySem.W.kitMeta "list" = true := by decide +kernel
theorem kmt6 : PySem.W.kitMeta "tuple" = true := by decide +kernel
theorem all_mk {l : PySem.W.OpenLaw} {w : World} {K : PySem.W.Frag} {h : Heap} {mg : Str → Option Value} {fa f1 f2 f3 f4 f5 f6 f7 f8 f9 f10 f11 f12 f13 f14 f15 f16 f17 f18 f19 f20 f21 : Addr} (X : K.In h) (G : h.Ns mainGlobals mg) (hfa : mg "law" = some (.ref fa))
    {C T t0 : Addr} {oT : Value} {oTd o0d : Option Addr} {sT s0 : Array (Option Value)} {nT n0 : Nat} {tk : Tok} {cdC : ClassData}
    {g1 : Addr} {ou1 kV1' dc1' pm1' cd1' ct1' : Value} {od1' an1' : Option Addr} {sl1' : Array (Option Value)}
    {g2 : Addr} {ou2 kV2' dc2' pm2' cd2' ct2' : Value} {od2' an2' : Option Addr} {sl2' : Array (Option Value)}
    {g3 : Addr} {ou3 kV3' dc3' pm3' cd3' ct3' : Value} {od3' an3' : Option Addr} {sl3' : Array (Option Value)}
    {g4 : Addr} {ou4 kV4' dc4' pm4' cd4' ct4' : Value} {od4' an4' : Option Addr} {sl4' : Array (Option Value)}
    {LL LE LN : Addr}
    {xqL xqE xqN : Str} {xNL xNE xNN : Addr} {xbL xbE xbN : List Value} {xsL xsE xsN : List Str} {xuL xuE xuN : List Value} {xaL xaE xaN : Bool} {xcL xcE xcN : Option Bool} {xdL xdE xdN : Option Addr}
    {xkL_0 xkL_1 xkL_2 xkL_3 xkL_5 xkE_0 xkE_1 xkE_2 xkE_3 xkE_5 xkN_0 xkN_1 xkN_2 xkN_3 xkN_5 : Option Value}
    {gEE : Addr} {odEE anEE : Option Addr} {slEE : Array (Option Value)} {ouEE kVEE dcEE pmEE cdEE ctEE : Value}
    {cT pT : Addr}
    {od1 an1 od2 an2 od3 an3 od4 an4 od5 an5 od6 an6 od7 an7 od8 an8 od9 an9 od10 an10 od11 an11 od12 an12 od13 an13 od14 an14 od15 an15 od16 an16 od17 an17 od18 an18 od19 an19 od20 an20 od21 an21 : Option Addr} {sl1 sl2 sl3 sl4 sl5 sl6 sl7 sl8 sl9 sl10 sl11 sl12 sl13 sl14 sl15 sl16 sl17 sl18 sl19 sl20 sl21 : Array (Option Value)} {oc1 kV1 dc1 pm1 cd1 ct1 oc2 kV2 dc2 pm2 cd2 ct2 oc3 kV3 dc3 pm3 cd3 ct3 oc4 kV4 dc4 pm4 cd4 ct4 oc5 kV5 dc5 pm5 cd5 ct5 oc6 kV6 dc6 pm6 cd6 ct6 oc7 kV7 dc7 pm7 cd7 ct7 oc8 kV8 dc8 pm8 cd8 ct8 oc9 kV9 dc9 pm9 cd9 ct9 oc10 kV10 dc10 pm10 cd10 ct10 oc11 kV11 dc11 pm11 cd11 ct11 oc12 kV12 dc12 pm12 cd12 ct12 oc13 kV13 dc13 pm13 cd13 ct13 oc14 kV14 dc14 pm14 cd14 ct14 oc15 kV15 dc15 pm15 cd15 ct15 oc16 kV16 dc16 pm16 cd16 ct16 oc17 kV17 dc17 pm17 cd17 ct17 oc18 kV18 dc18 pm18 cd18 ct18 oc19 kV19 dc19 pm19 cd19 ct19 oc20 kV20 dc20 pm20 cd20 ct20 oc21 kV21 dc21 pm21 cd21 ct21 : Value}
    (aC : PySem.W.nsIn K mainGlobals "Fault" = some (some (.ref C)))
    (am1 : PySem.W.findIn K (.ref C) "__init__" = some (some (.ref g1)))
    (im1 : PySem.W.isFn K (.ref g1) = true)
    (lm1 : K.lookup g1 = some ⟨ou1, od1', .func (PySem.W.fnOf "__init__" "Fault.__init__" (defArgs sInit) (defBody sInit) (defScope sInit) (.ref T) kV1' dc1' pm1' an1' cd1' ct1'), sl1'⟩)
    (cm1 : PySem.W.codeIn K cd1' "Fault.__init__" = true)
    (km1 : PySem.W.keepIn K (.ref g1) = true)
    (lT : K.lookup T = some ⟨oT, oTd, .seq #[.str "" tk, .ref t0] nT, sT⟩)
    (l0 : K.lookup t0 = some ⟨.type "tuple", o0d, .seq #[] n0, s0⟩)
    (am2 : PySem.W.findIn K (.ref C) "__eq__" = some (some (.ref g2)))
    (im2 : PySem.W.isFn K (.ref g2) = true)
    (lm2 : K.lookup g2 = some ⟨ou2, od2', .func (PySem.W.fnOf "__eq__" "Fault.__eq__" (defArgs sEq) (defBody sEq) (defScope sEq) .none kV2' dc2' pm2' an2' cd2' ct2'), sl2'⟩)
    (cm2 : PySem.W.codeIn K cd2' "Fault.__eq__" = true)
    (km2 : PySem.W.keepIn K (.ref g2) = true)
    (am3 : PySem.W.findIn K (.ref C) "__str__" = some (some (.ref g3)))
    (im3 : PySem.W.isFn K (.ref g3) = true)
    (lm3 : K.lookup g3 = some ⟨ou3, od3', .func (PySem.W.fnOf "__str__" "Fault.__str__" (defArgs sStr) (defBody sStr) (defScope sStr) .none kV3' dc3' pm3' an3' cd3' ct3'), sl3'⟩)
    (cm3 : PySem.W.codeIn K cd3' "Fault.__str__" = true)
    (km3 : PySem.W.keepIn K (.ref g3) = true)
    (am4 : PySem.W.findIn K (.ref C) "__repr__" = some (some (.ref g4)))
    (im4 : PySem.W.isFn K (.ref g4) = true)
    (lm4 : K.lookup g4 = some ⟨ou4, od4', .func (PySem.W.fnOf "__repr__" "Fault.__repr__" (defArgs sRep) (defBody sRep) (defScope sRep) .none kV4' dc4' pm4' an4' cd4' ct4'), sl4'⟩)
    (cm4 : PySem.W.codeIn K cd4' "Fault.__repr__" = true)
    (km4 : PySem.W.keepIn K (.ref g4) = true)
    (pg : PySem.W.plainGet K C Str.empty = true)
    (hd : PySem.W.hasDictIn K C = true)
    (po : PySem.W.plainOver K C = true)
    (sa : PySem.W.findIn K (.ref C) "__setattr__" = some (some (.builtin "object.__setattr__")))
    (mk : PySem.W.makesIn K C = true)
    (kc : PySem.W.keepIn K (.ref C) = true)
    (nw : PySem.W.findIn K (.ref C) "word" = some none)
    (nr : PySem.W.findIn K (.ref C) "rule" = some none)
    (np : PySem.W.findIn K (.ref C) "path" = some none)
    (ha : PySem.W.findIn K (.ref C) "__class__" = some (some (.builtin "object.__class__")))
    (hn : PySem.W.specialIn K (.builtin "object.__class__") "__get__" = some (some (.builtin "getset_descriptor.__get__")))
    (htk : PySem.W.takesIn K (.builtin "object.__class__") = some true)
    (hm : PySem.W.mroIn K C (.type "object") = some true)
    (tC : PySem.W.typeIn K (.ref C) = some (.type "type"))
    (cC : PySem.W.clsIn K C = some cdC)
    (ne : PySem.W.findIn K (.ref C) "__ne__" = some (some (.builtin "object.__ne__")))
    (ka1 : PySem.W.subIn K (.type "NoneType") (.ref C) = some false)
    (ja1 : PySem.W.subIn K (.ref C) (.type "NoneType") = some false)
    (ka2 : PySem.W.subIn K (.type "bool") (.ref C) = some false)
    (ja2 : PySem.W.subIn K (.ref C) (.type "bool") = some false)
    (ka3 : PySem.W.subIn K (.type "int") (.ref C) = some false)
    (ja3 : PySem.W.subIn K (.ref C) (.type "int") = some false)
    (ka4 : PySem.W.subIn K (.type "str") (.ref C) = some false)
    (ja4 : PySem.W.subIn K (.ref C) (.type "str") = some false)
    (ka5 : PySem.W.subIn K (.type "list") (.ref C) = some false)
    (ja5 : PySem.W.subIn K (.ref C) (.type "list") = some false)
    (ka6 : PySem.W.subIn K (.type "tuple") (.ref C) = some false)
    (ja6 : PySem.W.subIn K (.ref C) (.type "tuple") = some false)
    (aXL : PySem.W.nsIn K mainGlobals "LoreError" = some (some (.ref LL)))
    (lXL : K.lookup LL = some (excClassObj "LoreError" xqL LL xNL xbL veT true xsL xuL xaL xcL xdL xkL_0 xkL_1 xkL_2 xkL_3 xkL_5 "ValueError.__new__"))
    (aXE : PySem.W.nsIn K mainGlobals "NoPlace" = some (some (.ref LE)))
    (lXE : K.lookup LE = some (excClassObj "NoPlace" xqE LE xNE xbE keT true xsE xuE xaE xcE xdE xkE_0 xkE_1 xkE_2 xkE_3 xkE_5 "LookupError.__new__"))
    (aXN : PySem.W.nsIn K mainGlobals "NoCell" = some (some (.ref LN)))
    (lXN : K.lookup LN = some (excClassObj "NoCell" xqN LN xNN xbN keT true xsN xuN xaN xcN xdN xkN_0 xkN_1 xkN_2 xkN_3 xkN_5 "LookupError.__new__"))
    (gaEE : PySem.W.findIn K (.ref LE) "__getattribute__" = some (some (.builtin "BaseException.__getattribute__")))
    (ggEE : PySem.W.findIn K (.ref LE) "__getattr__" = some none)
    (haEE : PySem.W.findIn K (.ref LE) "__class__" = some (some (.builtin "object.__class__")))
    (saEE : PySem.W.findIn K (.ref LE) "__setattr__" = some (some (.builtin "object.__setattr__")))
    (kcEE : PySem.W.keepIn K (.ref LE) = true)
    (amEE : PySem.W.findIn K (.ref LE) "__init__" = some (some (.ref gEE)))
    (imEE : PySem.W.typeIn K (.ref gEE) = some (.type "function"))
    (lmEE : K.lookup gEE = some ⟨ouEE, odEE, .func (PySem.W.fnOf "__init__" "NoPlace.__init__" (defArgs sI2) (defBody sI2) (defScope sI2) .none kVEE dcEE pmEE anEE cdEE ctEE), slEE⟩)
    (cmEE : PySem.W.codeIn K cdEE "NoPlace.__init__" = true)
    (kmEE : PySem.W.keepIn K (.ref gEE) = true)
    (noEE : PySem.W.findIn K (.ref LE) "place" = some none)
    (a1 : PySem.W.nsIn K mainGlobals "is_name" = some (some (.ref f1)))
    (l1 : K.lookup f1 = some ⟨oc1, od1, .func (PySem.W.fnOf "is_name" "is_name" (defArgs sName) (defBody sName) (defScope sName) .none kV1 dc1 pm1 an1 cd1 ct1), sl1⟩)
    (c1 : PySem.W.codeIn K cd1 "is_name" = true) (k1 : PySem.W.keepIn K (.ref f1) = true)
    (a2 : PySem.W.nsIn K mainGlobals "is_integer" = some (some (.ref f2)))
    (l2 : K.lookup f2 = some ⟨oc2, od2, .func (PySem.W.fnOf "is_integer" "is_integer" (defArgs sInteger) (defBody sInteger) (defScope sInteger) .none kV2 dc2 pm2 an2 cd2 ct2), sl2⟩)
    (c2 : PySem.W.codeIn K cd2 "is_integer" = true) (k2 : PySem.W.keepIn K (.ref f2) = true)
    (a3 : PySem.W.nsIn K mainGlobals "is_place" = some (some (.ref f3)))
    (l3 : K.lookup f3 = some ⟨oc3, od3, .func (PySem.W.fnOf "is_place" "is_place" (defArgs sIsPl) (defBody sIsPl) (defScope sIsPl) .none kV3 dc3 pm3 an3 cd3 ct3), sl3⟩)
    (c3 : PySem.W.codeIn K cd3 "is_place" = true) (k3 : PySem.W.keepIn K (.ref f3) = true)
    (a4 : PySem.W.nsIn K mainGlobals "layers_at" = some (some (.ref f4)))
    (l4 : K.lookup f4 = some ⟨oc4, od4, .func (PySem.W.fnOf "layers_at" "layers_at" (defArgs sLayers) (defBody sLayers) (defScope sLayers) .none kV4 dc4 pm4 an4 cd4 ct4), sl4⟩)
    (c4 : PySem.W.codeIn K cd4 "layers_at" = true) (k4 : PySem.W.keepIn K (.ref f4) = true)
    (a5 : PySem.W.nsIn K mainGlobals "value_at" = some (some (.ref f5)))
    (l5 : K.lookup f5 = some ⟨oc5, od5, .func (PySem.W.fnOf "value_at" "value_at" (defArgs sValAt) (defBody sValAt) (defScope sValAt) .none kV5 dc5 pm5 an5 cd5 ct5), sl5⟩)
    (c5 : PySem.W.codeIn K cd5 "value_at" = true) (k5 : PySem.W.keepIn K (.ref f5) = true)
    (a6 : PySem.W.nsIn K mainGlobals "with_part" = some (some (.ref f6)))
    (l6 : K.lookup f6 = some ⟨oc6, od6, .func (PySem.W.fnOf "with_part" "with_part" (defArgs sWith) (defBody sWith) (defScope sWith) .none kV6 dc6 pm6 an6 cd6 ct6), sl6⟩)
    (c6 : PySem.W.codeIn K cd6 "with_part" = true) (k6 : PySem.W.keepIn K (.ref f6) = true)
    (a7 : PySem.W.nsIn K mainGlobals "_law_box" = some (some (.ref f7)))
    (l7 : K.lookup f7 = some ⟨oc7, od7, .func (PySem.W.fnOf "_law_box" "_law_box" (defArgs sBox) (defBody sBox) (defScope sBox) .none kV7 dc7 pm7 an7 cd7 ct7), sl7⟩)
    (c7 : PySem.W.codeIn K cd7 "_law_box" = true) (k7 : PySem.W.keepIn K (.ref f7) = true)
    (a8 : PySem.W.nsIn K mainGlobals "_law_take" = some (some (.ref f8)))
    (l8 : K.lookup f8 = some ⟨oc8, od8, .func (PySem.W.fnOf "_law_take" "_law_take" (defArgs sTake) (defBody sTake) (defScope sTake) .none kV8 dc8 pm8 an8 cd8 ct8), sl8⟩)
    (c8 : PySem.W.codeIn K cd8 "_law_take" = true) (k8 : PySem.W.keepIn K (.ref f8) = true)
    (a9 : PySem.W.nsIn K mainGlobals "_law_pick" = some (some (.ref f9)))
    (l9 : K.lookup f9 = some ⟨oc9, od9, .func (PySem.W.fnOf "_law_pick" "_law_pick" (defArgs sPick) (defBody sPick) (defScope sPick) .none kV9 dc9 pm9 an9 cd9 ct9), sl9⟩)
    (c9 : PySem.W.codeIn K cd9 "_law_pick" = true) (k9 : PySem.W.keepIn K (.ref f9) = true)
    (a10 : PySem.W.nsIn K mainGlobals "_law_word" = some (some (.ref f10)))
    (l10 : K.lookup f10 = some ⟨oc10, od10, .func (PySem.W.fnOf "_law_word" "_law_word" (defArgs sWord) (defBody sWord) (defScope sWord) .none kV10 dc10 pm10 an10 cd10 ct10), sl10⟩)
    (c10 : PySem.W.codeIn K cd10 "_law_word" = true) (k10 : PySem.W.keepIn K (.ref f10) = true)
    (a11 : PySem.W.nsIn K mainGlobals "_law_value" = some (some (.ref f11)))
    (l11 : K.lookup f11 = some ⟨oc11, od11, .func (PySem.W.fnOf "_law_value" "_law_value" (defArgs sValue) (defBody sValue) (defScope sValue) .none kV11 dc11 pm11 an11 cd11 ct11), sl11⟩)
    (c11 : PySem.W.codeIn K cd11 "_law_value" = true) (k11 : PySem.W.keepIn K (.ref f11) = true)
    (a12 : PySem.W.nsIn K mainGlobals "_law_value_in" = some (some (.ref f12)))
    (l12 : K.lookup f12 = some ⟨oc12, od12, .func (PySem.W.fnOf "_law_value_in" "_law_value_in" (defArgs sValIn) (defBody sValIn) (defScope sValIn) .none kV12 dc12 pm12 an12 cd12 ct12), sl12⟩)
    (c12 : PySem.W.codeIn K cd12 "_law_value_in" = true) (k12 : PySem.W.keepIn K (.ref f12) = true)
    (a13 : PySem.W.nsIn K mainGlobals "_law_inputs" = some (some (.ref f13)))
    (l13 : K.lookup f13 = some ⟨oc13, od13, .func (PySem.W.fnOf "_law_inputs" "_law_inputs" (defArgs sInputs) (defBody sInputs) (defScope sInputs) .none kV13 dc13 pm13 an13 cd13 ct13), sl13⟩)
    (c13 : PySem.W.codeIn K cd13 "_law_inputs" = true) (k13 : PySem.W.keepIn K (.ref f13) = true)
    (a14 : PySem.W.nsIn K mainGlobals "_law_place" = some (some (.ref f14)))
    (l14 : K.lookup f14 = some ⟨oc14, od14, .func (PySem.W.fnOf "_law_place" "_law_place" (defArgs sPlace) (defBody sPlace) (defScope sPlace) .none kV14 dc14 pm14 an14 cd14 ct14), sl14⟩)
    (c14 : PySem.W.codeIn K cd14 "_law_place" = true) (k14 : PySem.W.keepIn K (.ref f14) = true)
    (a15 : PySem.W.nsIn K mainGlobals "_law_due" = some (some (.ref f15)))
    (l15 : K.lookup f15 = some ⟨oc15, od15, .func (PySem.W.fnOf "_law_due" "_law_due" (defArgs sDue) (defBody sDue) (defScope sDue) .none kV15 dc15 pm15 an15 cd15 ct15), sl15⟩)
    (c15 : PySem.W.codeIn K cd15 "_law_due" = true) (k15 : PySem.W.keepIn K (.ref f15) = true)
    (a16 : PySem.W.nsIn K mainGlobals "_law_put" = some (some (.ref f16)))
    (l16 : K.lookup f16 = some ⟨oc16, od16, .func (PySem.W.fnOf "_law_put" "_law_put" (defArgs sPut) (defBody sPut) (defScope sPut) .none kV16 dc16 pm16 an16 cd16 ct16), sl16⟩)
    (c16 : PySem.W.codeIn K cd16 "_law_put" = true) (k16 : PySem.W.keepIn K (.ref f16) = true)
    (a17 : PySem.W.nsIn K mainGlobals "_law_told" = some (some (.ref f17)))
    (l17 : K.lookup f17 = some ⟨oc17, od17, .func (PySem.W.fnOf "_law_told" "_law_told" (defArgs sTold) (defBody sTold) (defScope sTold) .none kV17 dc17 pm17 an17 cd17 ct17), sl17⟩)
    (c17 : PySem.W.codeIn K cd17 "_law_told" = true) (k17 : PySem.W.keepIn K (.ref f17) = true)
    (a18 : PySem.W.nsIn K mainGlobals "_law_right" = some (some (.ref f18)))
    (l18 : K.lookup f18 = some ⟨oc18, od18, .func (PySem.W.fnOf "_law_right" "_law_right" (defArgs sRight) (defBody sRight) (defScope sRight) .none kV18 dc18 pm18 an18 cd18 ct18), sl18⟩)
    (c18 : PySem.W.codeIn K cd18 "_law_right" = true) (k18 : PySem.W.keepIn K (.ref f18) = true)
    (a19 : PySem.W.nsIn K mainGlobals "_law_odd" = some (some (.ref f19)))
    (l19 : K.lookup f19 = some ⟨oc19, od19, .func (PySem.W.fnOf "_law_odd" "_law_odd" (defArgs sOdd) (defBody sOdd) (defScope sOdd) .none kV19 dc19 pm19 an19 cd19 ct19), sl19⟩)
    (c19 : PySem.W.codeIn K cd19 "_law_odd" = true) (k19 : PySem.W.keepIn K (.ref f19) = true)
    (a20 : PySem.W.nsIn K mainGlobals "_law_is_place" = some (some (.ref f20)))
    (l20 : K.lookup f20 = some ⟨oc20, od20, .func (PySem.W.fnOf "_law_is_place" "_law_is_place" (defArgs sLIsPl) (defBody sLIsPl) (defScope sLIsPl) .none kV20 dc20 pm20 an20 cd20 ct20), sl20⟩)
    (c20 : PySem.W.codeIn K cd20 "_law_is_place" = true) (k20 : PySem.W.keepIn K (.ref f20) = true)
    (a21 : PySem.W.nsIn K mainGlobals "law" = some (some (.ref f21)))
    (l21 : K.lookup f21 = some ⟨oc21, od21, .func (PySem.W.fnOf "law" "law" (defArgs sLaw) (defBody sLaw) (defScope sLaw) .none kV21 dc21 pm21 an21 cd21 ct21), sl21⟩)
    (c21 : PySem.W.codeIn K cd21 "law" = true) (k21 : PySem.W.keepIn K (.ref f21) = true)
    (htab : PySem.W.tabIn K "_law_right" = some (cT, pT))
    (z1 : PySem.W.nsIn K mainGlobals "isinstance" = some none)
    (z2 : PySem.W.nsIn K mainGlobals "len" = some none)
    (z3 : PySem.W.nsIn K mainGlobals "all" = some none)
    (z4 : PySem.W.nsIn K mainGlobals "str" = some none)
    (z5 : PySem.W.nsIn K mainGlobals "tuple" = some none)
    (z6 : PySem.W.nsIn K mainGlobals "int" = some none)
    (z7 : PySem.W.nsIn K mainGlobals "bool" = some none)
    (z8 : PySem.W.nsIn K mainGlobals "range" = some none)
    (z9 : PySem.W.nsIn K mainGlobals "repr" = some none)
    (z10 : PySem.W.nsIn K mainGlobals "abs" = some none)
    (z11 : PySem.W.nsIn K mainGlobals "dict" = some none)
    (z12 : PySem.W.nsIn K mainGlobals "list" = some none)
    (z13 : PySem.W.nsIn K mainGlobals "KeyError" = some none)
    : ∃ fd : FuncData, (∀ (s : Shared) (v : Value), BindsTo s fd ⟨[v], []⟩ [("_law_script", v)]) ∧ ∀ base : Heap, K.In base → base.Ns mainGlobals mg → LamX.TabB base mg cT pT → FnG l.prog w K mg base CX0 17 fa fd ["_law_script"] (spLaw K pT) := by
  have e := hfa.symm.trans (PySem.W.mg_of X G a21)
  cases e
  have F1 := fun_mk (st := sName) l1 c1 k1
  have b1 := F1.binds (ps := ["thing"]) fun _ _ _ _ _ _ us hl => match us, hl with | [_], _ => rfl
  have m1 := PySem.W.mg_of X G a1
  have F2 := fun_mk (st := sInteger) l2 c2 k2
  have b2 := F2.binds (ps := ["thing"]) fun _ _ _ _ _ _ us hl => match us, hl with | [_], _ => rfl
  have m2 := PySem.W.mg_of X G a2
  have F3 := fun_mk (st := sIsPl) l3 c3 k3
  have b3 := F3.binds (ps := ["thing"]) fun _ _ _ _ _ _ us hl => match us, hl with | [_], _ => rfl
  have m3 := PySem.W.mg_of X G a3
  have F4 := fun_mk (st := sLayers) l4 c4 k4
  have b4 := F4.binds (ps := ["inputs", "place"]) fun _ _ _ _ _ _ us hl => match us, hl with | [_, _], _ => rfl
  have m4 := PySem.W.mg_of X G a4
  have F5 := fun_mk (st := sValAt) l5 c5 k5
  have b5 := F5.binds (ps := ["inputs", "place"]) fun _ _ _ _ _ _ us hl => match us, hl with | [_, _], _ => rfl
  have m5 := PySem.W.mg_of X G a5
  have F6 := fun_mk (st := sWith) l6 c6 k6
  have b6 := F6.binds (ps := ["inputs", "place", "value"]) fun _ _ _ _ _ _ us hl => match us, hl with | [_, _, _], _ => rfl
  have m6 := PySem.W.mg_of X G a6
  have F7 := fun_mk (st := sBox) l7 c7 k7
  have b7 := F7.binds (ps := ["_law_script", "_law_base"]) fun _ _ _ _ _ _ us hl => match us, hl with | [_, _], _ => rfl
  have m7 := PySem.W.mg_of X G a7
  have F8 := fun_mk (st := sTake) l8 c8 k8
  have b8 := F8.binds (ps := ["_law_box_here", "_law_many"]) fun _ _ _ _ _ _ us hl => match us, hl with | [_, _], _ => rfl
  have m8 := PySem.W.mg_of X G a8
  have F9 := fun_mk (st := sPick) l9 c9 k9
  have b9 := F9.binds (ps := ["_law_box_here", "_law_items"]) fun _ _ _ _ _ _ us hl => match us, hl with | [_, _], _ => rfl
  have m9 := PySem.W.mg_of X G a9
  have F10 := fun_mk (st := sWord) l10 c10 k10
  have b10 := F10.binds (ps := ["_law_box_here"]) fun _ _ _ _ _ _ us hl => match us, hl with | [_], _ => rfl
  have m10 := PySem.W.mg_of X G a10
  have F11 := fun_mk (st := sValue) l11 c11 k11
  have b11 := F11.binds (ps := ["_law_box_here", "_law_deep"]) fun _ _ _ _ _ _ us hl => match us, hl with | [_, _], _ => rfl
  have m11 := PySem.W.mg_of X G a11
  have F12 := fun_mk (st := sValIn) l12 c12 k12
  have b12 := F12.binds (ps := ["_law_box_here", "_law_deep", "_law_room"]) fun _ _ _ _ _ _ us hl => match us, hl with | [_, _, _], _ => rfl
  have m12 := PySem.W.mg_of X G a12
  have F13 := fun_mk (st := sInputs) l13 c13 k13
  have b13 := F13.binds (ps := ["_law_box_here"]) fun _ _ _ _ _ _ us hl => match us, hl with | [_], _ => rfl
  have m13 := PySem.W.mg_of X G a13
  have F14 := fun_mk (st := sPlace) l14 c14 k14
  have b14 := F14.binds (ps := ["_law_box_here", "_law_given"]) fun _ _ _ _ _ _ us hl => match us, hl with | [_, _], _ => rfl
  have m14 := PySem.W.mg_of X G a14
  have F15 := fun_mk (st := sDue) l15 c15 k15
  have b15 := F15.binds (ps := ["_law_given", "_law_place_here"]) fun _ _ _ _ _ _ us hl => match us, hl with | [_, _], _ => rfl
  have m15 := PySem.W.mg_of X G a15
  have F16 := fun_mk (st := sPut) l16 c16 k16
  have b16 := F16.binds (ps := ["_law_here", "_law_steps", "_law_value_here"]) fun _ _ _ _ _ _ us hl => match us, hl with | [_, _, _], _ => rfl
  have m16 := PySem.W.mg_of X G a16
  have F17 := fun_mk (st := sTold) l17 c17 k17
  have b17 := F17.binds (ps := ["_law_call"]) fun _ _ _ _ _ _ us hl => match us, hl with | [_], _ => rfl
  have m17 := PySem.W.mg_of X G a17
  have F18 := fun_mk (st := sRight) l18 c18 k18
  have b18 := F18.binds (ps := ["_law_box_here", "_law_given", "_law_place_here"]) fun _ _ _ _ _ _ us hl => match us, hl with | [_, _, _], _ => rfl
  have m18 := PySem.W.mg_of X G a18
  have F19 := fun_mk (st := sOdd) l19 c19 k19
  have b19 := F19.binds (ps := ["_law_box_here", "_law_place_here"]) fun _ _ _ _ _ _ us hl => match us, hl with | [_, _], _ => rfl
  have m19 := PySem.W.mg_of X G a19
  have F20 := fun_mk (st := sLIsPl) l20 c20 k20
  have b20 := F20.binds (ps := ["_law_thing"]) fun _ _ _ _ _ _ us hl => match us, hl with | [_], _ => rfl
  have m20 := PySem.W.mg_of X G a20
  have F21 := fun_mk (st := sLaw) l21 c21 k21
  have n_isinstance := PySem.W.mg_none_of X G z1
  have n_len := PySem.W.mg_none_of X G z2
  have n_all := PySem.W.mg_none_of X G z3
  have n_str := PySem.W.mg_none_of X G z4
  have n_tuple := PySem.W.mg_none_of X G z5
  have n_int := PySem.W.mg_none_of X G z6
  have n_bool := PySem.W.mg_none_of X G z7
  have n_range := PySem.W.mg_none_of X G z8
  have n_repr := PySem.W.mg_none_of X G z9
  have n_abs := PySem.W.mg_none_of X G z10
  have n_dict := PySem.W.mg_none_of X G z11
  have n_list := PySem.W.mg_none_of X G z12
  have n_KeyError := PySem.W.mg_none_of X G z13
  refine ⟨PySem.W.fnOf "law" "law" (defArgs sLaw) (defBody sLaw) (defScope sLaw) .none kV21 dc21 pm21 an21 cd21 ct21, fun s v => .of_eq rfl, fun base _ _ TBx => ?_⟩
  have hcode := PySem.W.law_code X G htab m18 (X _ _ l18) rfl
  have B : Bi mg := ⟨n_isinstance, n_len, n_all, n_str, n_tuple, n_int, n_bool, n_range, n_repr, n_abs⟩
  have Tt : Tk l.prog w K mg base f8 _ := ⟨ok_take (k := 0) F8 n_len, k8, b8, m8⟩
  have mC := PySem.W.mg_of X G aC
  have ko : ∀ {T : String}, PySem.W.subIn K (.type T) (.ref C) = some false → PySem.W.kitOne K (.type T) (.ref C) = some false := fun s => kit_own (by rw [cC]; rfl) tC s
  have O : OwnC K C g2 := ⟨⟨⟨pg, hd, po, sa⟩, ha, hn, htk, hm, kit_me⟩, ⟨am2, im2, km2⟩, ne, ko ka1, ko ka2, ko ka3, ko ka4, ko ka5, ko ka6, kit_ofC kmt1 ja1, kit_ofC kmt2 ja2, kit_ofC kmt3 ja3, kit_ofC kmt4 ja4, kit_ofC kmt5 ja5, kit_ofC kmt6 ja6⟩
  have FC : FaC K mg C g2 := ⟨O, nw, nr, np, mC, kc⟩
  obtain ⟨dI, FD⟩ : ∃ dI, FunD K "__init__" "Fault.__init__" (defArgs sInit) (defBody sInit) (defScope sInit) [.str "", .ref t0] [] g1 dI := ⟨_, ⟨_, _, _, _, _, _, _, _, _, _, rfl, lm1, cm1, .inr ⟨(fun z => nomatch z), T, _, [.str "" tk, .ref t0], nT, rfl, lT, rfl, .cons ⟨tk, rfl⟩ (.cons rfl .nil)⟩, .inl rfl⟩, km1⟩
  have E2 := fun_mk (st := sEq) lm2 cm2 km2
  have E3 := fun_mk (st := sStr) lm3 cm3 km3
  have E4 := fun_mk (st := sRep) lm4 cm4 km4
  have be := E2.binds (ps := ["self", "other"]) fun _ _ _ _ _ _ us hl => match us, hl with | [_, _], _ => rfl
  have bs := E3.binds (ps := ["self"]) fun _ _ _ _ _ _ us hl => match us, hl with | [_], _ => rfl
  have br := E4.binds (ps := ["self"]) fun _ _ _ _ _ _ us hl => match us, hl with | [_], _ => rfl
  have mR4 : Meth K C "__repr__" g4 := ⟨am4, im4, km4⟩
  have gR4 : FnOk l.prog w K mg base CX0 1 g4 _ ["self"] (spRepF C) := ok_repF (k := 0) E4 FC
  have z0 : ∀ H : Hp, SqT K H t0 [] := fun H => .inr ⟨_, _, _, l0, rfl, rfl, by decide, .nil⟩
  have MF : MkF l.prog w K mg base C g1 dI t0 := by
    refine ⟨⟨mk, am1, im1, kc⟩, ok_initF (k := 0) FD FC, ?_, ?_, ?_, ?_, z0⟩
    · exact FD.binds1 2 0 (fun z => nomatch z) rfl fun _ _ _ _ _ _ _ us its h1 h2 => match us, its, h1, h2 with | [_, _], [_, _], _, _ => ⟨_, rfl, rfl⟩
    · exact FD.binds1 3 1 (fun z => nomatch z) rfl fun _ _ _ _ _ _ _ us its h1 h2 => match us, its, h1, h2 with | [_, _, _], [_, _], _, _ => ⟨_, rfl, rfl⟩
    · exact FD.binds1 4 2 (fun z => nomatch z) rfl fun _ _ _ _ _ _ _ us its h1 h2 => match us, its, h1, h2 with | [_, _, _, _], [_, _], _, _ => ⟨_, rfl, rfl⟩
    · exact FD.kbindsD 1 ["path", "word"] (fun us its ws => us ++ (ws.drop 1 ++ (its.take 1 ++ ws.take 1))) (fun z => nomatch z) (fun r1 r2 r3 => r1.append ((r3.drop 1).append ((r2.take 1).append (r3.take 1))))
        fun _ _ _ _ _ _ _ us its ws h1 h2 h3 => match us, its, ws, h1, h2, h3 with | [_], [_, _], [_, _], _, _, _ => ⟨_, rfl, rfl⟩
  have HN : Hn K := ⟨hn, htk⟩
  have eL : EL K LL "LoreError" veT "ValueError.__new__" := ⟨⟨_, _, _, _, _, _, _, _, _, _, _, _, _, lXL⟩⟩
  have eE : EL K LE "NoPlace" keT "LookupError.__new__" := ⟨⟨_, _, _, _, _, _, _, _, _, _, _, _, _, lXE⟩⟩
  have eN : EL K LN "NoCell" keT "LookupError.__new__" := ⟨⟨_, _, _, _, _, _, _, _, _, _, _, _, _, lXN⟩⟩
  have fEE : EF K LE := ⟨gaEE, ggEE, haEE, saEE, kcEE⟩
  have TEE : ExK K LE := eE.exk fEE eb_ke rfl rfl
  have IEE := fun_mk (st := sI2) lmEE cmEE kmEE
  have cEE : EC l.prog w K mg base "NoPlace" ["place"] ["place"] LE gEE _ := ⟨TEE, eE.xf fEE rfl, eE.exc fEE HN rfl rfl, amEE, imEE, ok_I2 (k := 0) IEE TEE noEE, IEE.binds (ps := ["self", "place"]) fun _ _ _ _ _ _ us hl => (match us, hl with | [_, _], _ => rfl), PySem.W.mg_of X G aXE, fun f hf => by
    simp only [List.mem_cons, List.not_mem_nil, or_false] at hf
    subst hf
    exact noEE⟩
  have kno : ∀ {C : Addr} {nm : Str} {bm : List Value} {ni : String}, EL K C nm bm ni → ("NoPlace" : Str) ≠ nm → PySem.W.kitOne K (.ref LE) (.ref C) = some false := fun {C nm bm ni} e h1 => by
    rw [eE.isK e]
    have n1 : (Value.ref C == Value.ref LE) = false := beq_eq_false_iff_ne.mpr fun z => eE.ne e h1 (Value.ref.inj z).symm
    rw [List.contains_cons, n1]
    rfl
  have E5 : Er5 l.prog w K mg base LL LE LN gEE _ := ⟨cEE, PySem.W.mg_of X G aXL, PySem.W.mg_of X G aXN, n_KeyError, cEE.exm eE, by
      unfold PySem.W.kitAny
      rw [kno eL (by decide +kernel)]
      show PySem.W.kitAny K (.ref LE) [.ref LN] = _
      unfold PySem.W.kitAny
      rw [kno eN (by decide +kernel)]
      rfl, by
      rw [eE.isT (by decide +kernel)]
      rfl⟩
  have G1 : Dn l.prog w K mg base 1 "is_name" ["thing"] (spLook K (fun d => gd d = true) fun d => .bl (nmD d)) f1 _ := ⟨ok_name (k := 0) F1 B, k1, b1, m1⟩
  have G2 : Dn l.prog w K mg base 1 "is_integer" ["thing"] (spLook K (fun _ => True) fun d => .bl (inD d)) f2 _ := ⟨ok_integer (k := 0) F2 B, k2, b2, m2⟩
  have G3 : Dn l.prog w K mg base 2 "is_place" ["thing"] (spLook K (fun d => gd d = true ∧ nod d ≤ 900) fun d => .bl (isPl d)) f3 _ := ⟨ok_isPl (k := 0) F3 B G1 G2, k3, b3, m3⟩
  have G4 : FnOk l.prog w K mg base (L2.CX l.prog w) 3 f4 _ ["inputs", "place"] (spLayers K C LE) := ok_layers (k := 0) F4 B FC cEE
  have G5 : FnOk l.prog w K mg base (L2.CX l.prog w) 4 f5 _ ["inputs", "place"] (spValAt K C LE) := ok_valAt (k := 0) F5 G4 k4 b4 m4
  have G6 : FnOk l.prog w K mg base (L2.CX l.prog w) 4 f6 _ ["inputs", "place", "value"] (spWith K C LE) := ok_with (k := 0) F6 B cEE G4 k4 b4 m4
  have G9 : Dn l.prog w K mg base 2 "_law_pick" ["_law_box_here", "_law_items"] spPick f9 _ := ⟨ok_pick (k := 0) F9 B Tt, k9, b9, m9⟩
  have G10 : Dn l.prog w K mg base 2 "_law_word" ["_law_box_here"] spWord f10 _ := ⟨ok_word (k := 0) F10 B Tt, k10, b10, m10⟩
  have V : ∀ n : Nat, FnOk l.prog w K mg base CX0 (n + 2) f12 _ ["_law_box_here", "_law_deep", "_law_room"] (spVal K n) := fun n => by
    induction n with
    | zero =>
      have no : ∀ vs H Q E, ¬ spVal K 0 vs H Q E := fun vs H Q E h => by
        obtain ⟨p, g, wd, e, w0, l, _, _, _, _, h1, h2, _⟩ := h
        omega
      exact ⟨fun vs H Q E h => absurd h (no vs H Q E), fun A outer s H args us vs Q E _ _ _ _ h => absurd h (no vs H Q E)⟩
    | succ n ih => exact ok_valIn (k := n) F12 B Tt G10 ih b12 m12
  have U : ∀ n : Nat, FnOk l.prog w K mg base CX0 (n + 1) f16 _ ["_law_here", "_law_steps", "_law_value_here"] (spPut K n) := fun n => by
    induction n with
    | zero =>
      have no : ∀ vs H Q E, ¬ spPut K 0 vs H Q E := fun vs H Q E h => by
        obtain ⟨u, b, v, ks, x, y, _, _, h2, _⟩ := h
        omega
      exact ⟨fun vs H Q E h => absurd h (no vs H Q E), fun A outer s H args us vs Q E _ _ _ _ h => absurd h (no vs H Q E)⟩
    | succ n ih => exact ok_put (k := n) F16 ih b16 m16
  have G12 : Dn l.prog w K mg base 11 "_law_value_in" ["_law_box_here", "_law_deep", "_law_room"] (spVal K 9) f12 _ := ⟨V 9, k12, b12, m12⟩
  have G11 : Dn l.prog w K mg base 12 "_law_value" ["_law_box_here", "_law_deep"] (spValue K) f11 _ := ⟨ok_value (k := 0) F11 G12, k11, b11, m11⟩
  have G13 : Dn l.prog w K mg base 13 "_law_inputs" ["_law_box_here"] (spInputs K C) f13 _ := ⟨ok_inputs (k := 0) F13 B Tt G10 G11 MF mC, k13, b13, m13⟩
  have G14 : Dn l.prog w K mg base 3 "_law_place" ["_law_box_here", "_law_given"] (spPlace K C) f14 _ := ⟨ok_place (k := 0) F14 B n_list FC Tt G10 G9, k14, b14, m14⟩
  have G15 : Dn l.prog w K mg base 3 "_law_due" ["_law_given", "_law_place_here"] (spDue K C) f15 _ := ⟨ok_due (k := 0) F15 B FC MF, k15, b15, m15⟩
  have G16 : Dn l.prog w K mg base 14 "_law_put" ["_law_here", "_law_steps", "_law_value_here"] (spPut K 12) f16 _ := ⟨(U 12).mono (by decide), k16, b16, m16⟩
  have G19 : Dn l.prog w K mg base 2 "_law_odd" ["_law_box_here", "_law_place_here"] (spOdd K) f19 _ := ⟨ok_odd (k := 0) F19 B n_list Tt, k19, b19, m19⟩
  have G20 : Dn l.prog w K mg base 2 "_law_is_place" ["_law_thing"] (spLook K (fun d => gd d = true ∧ nod d ≤ 900 ∧ d.depth ≤ 40) fun d => .bl (isPl d)) f20 _ := ⟨ok_lisPl (k := 0) F20 B, k20, b20, m20⟩
  have G7 : Dn l.prog w K mg base 1 "_law_box" ["_law_script", "_law_base"] (spBox K) f7 _ := ⟨ok_box (k := 0) F7 n_abs, k7, b7, m7⟩
  have GR := ok_right (P := l.prog) (w := w) (base := base) (k := 0) F18 hcode B n_dict n_list FC E5 TBx mR4 gR4 br G15 G11 G5 k5 b5 m5 G6 k6 b6 m6 G16 F17 b17 m17
  exact ok_law F21 B n_dict n_list G7 G13 G14 G19 G3 G20 GR k18 b18 m18
end Rl
open PySem PySem.W PyProof.Rows in
set_option maxRecDepth 100000 in
set_option maxHeartbeats 0 in
theorem PySem.Challenge.cw_runlore_k05_places_of_inputs_holds : PySem.Challenge.rw_runlore_k05_places_of_inputs.Holds := by
  w_on; o_law; k_head; (case hw => w_witness2)
  k_fill
  refine Rl.walkGT (l := PySem.Challenge.rw_runlore_k05_places_of_inputs) (n := 63) (k := 17) (x := "_law_script") (y := "_law_right") (tabs := fun _ => (222, 220)) (sp := Rl.spLaw) rfl (by decide) rfl ⟨rfl, by decide, by decide⟩ (fun w h Y => PySem.W.km_in_of Y) (by rfl) (fun w => by kernel_rfl) (fun w => by kernel_rfl) ?F (fun K pT H a ns hl hT hS => ⟨a, ns, rfl, hS, hl, hT, fun _ => rfl⟩)
  case F =>
    intro w mg fa h KX G hmg
    refine' Rl.all_mk KX G hmg ?aC ?am1 ?im1 ?lm1 ?cm1 ?km1 ?lT ?l0 ?am2 ?im2 ?lm2 ?cm2 ?km2 ?am3 ?im3 ?lm3 ?cm3 ?km3 ?am4 ?im4 ?lm4 ?cm4 ?km4 ?pg ?hd ?po ?sa ?mk ?kc ?nw ?nr ?np ?ha ?hn ?htk ?hm ?tC ?cC ?ne ?ka1 ?ja1 ?ka2 ?ja2 ?ka3 ?ja3 ?ka4 ?ja4 ?ka5 ?ja5 ?ka6 ?ja6 ?aXL ?lXL ?aXE ?lXE ?aXN ?lXN ?gaEE ?ggEE ?haEE ?saEE ?kcEE ?amEE ?imEE ?lmEE ?cmEE ?kmEE ?noEE ?a1 ?l1 ?c1 ?k1 ?a2 ?l2 ?c2 ?k2 ?a3 ?l3 ?c3 ?k3 ?a4 ?l4 ?c4 ?k4 ?a5 ?l5 ?c5 ?k5 ?a6 ?l6 ?c6 ?k6 ?a7 ?l7 ?c7 ?k7 ?a8 ?l8 ?c8 ?k8 ?a9 ?l9 ?c9 ?k9 ?a10 ?l10 ?c10 ?k10 ?a11 ?l11 ?c11 ?k11 ?a12 ?l12 ?c12 ?k12 ?a13 ?l13 ?c13 ?k13 ?a14 ?l14 ?c14 ?k14 ?a15 ?l15 ?c15 ?k15 ?a16 ?l16 ?c16 ?k16 ?a17 ?l17 ?c17 ?k17 ?a18 ?l18 ?c18 ?k18 ?a19 ?l19 ?c19 ?k19 ?a20 ?l20 ?c20 ?k20 ?a21 ?l21 ?c21 ?k21 ?htab ?z1 ?z2 ?z3 ?z4 ?z5 ?z6 ?z7 ?z8 ?z9 ?z10 ?z11 ?z12 ?z13
    (case aC => k_is)
    (case am1 => k_is)
    (case im1 => k_is)
    (case lm1 => k_is)
    (case cm1 => k_is)
    (case km1 => k_is)
    (case lT => k_is)
    (case l0 => k_is)
    (case am2 => k_is)
    (case im2 => k_is)
    (case lm2 => k_is)
    (case cm2 => k_is)
    (case km2 => k_is)
    (case am3 => k_is)
    (case im3 => k_is)
    (case lm3 => k_is)
    (case cm3 => k_is)
    (case km3 => k_is)
    (case am4 => k_is)
    (case im4 => k_is)
    (case lm4 => k_is)
    (case cm4 => k_is)
    (case km4 => k_is)
    (case pg => k_is)
    (case hd => k_is)
    (case po => k_is)
    (case sa => k_is)
    (case mk => k_is)
    (case kc => k_is)
    (case nw => k_is)
    (case nr => k_is)
    (case np => k_is)
    (case ha => k_is)
    (case hn => k_is)
    (case htk => k_is)
    (case hm => k_is)
    (case tC => k_is)
    (case cC => k_is)
    (case ne => k_is)
    (case ka1 => k_is)
    (case ja1 => k_is)
    (case ka2 => k_is)
    (case ja2 => k_is)
    (case ka3 => k_is)
    (case ja3 => k_is)
    (case ka4 => k_is)
    (case ja4 => k_is)
    (case ka5 => k_is)
    (case ja5 => k_is)
    (case ka6 => k_is)
    (case ja6 => k_is)
    (case aXL => k_is)
    (case lXL => k_is)
    (case aXE => k_is)
    (case lXE => k_is)
    (case aXN => k_is)
    (case lXN => k_is)
    (case gaEE => k_is)
    (case ggEE => k_is)
    (case haEE => k_is)
    (case saEE => k_is)
    (case kcEE => k_is)
    (case amEE => k_is)
    (case imEE => k_is)
    (case lmEE => k_is)
    (case cmEE => k_is)
    (case kmEE => k_is)
    (case noEE => k_is)
    (case a1 => k_is)
    (case l1 => k_is)
    (case c1 => k_is)
    (case k1 => k_is)
    (case a2 => k_is)
    (case l2 => k_is)
    (case c2 => k_is)
    (case k2 => k_is)
    (case a3 => k_is)
    (case l3 => k_is)
    (case c3 => k_is)
    (case k3 => k_is)
    (case a4 => k_is)
    (case l4 => k_is)
    (case c4 => k_is)
    (case k4 => k_is)
    (case a5 => k_is)
    (case l5 => k_is)
    (case c5 => k_is)
    (case k5 => k_is)
    (case a6 => k_is)
    (case l6 => k_is)
    (case c6 => k_is)
    (case k6 => k_is)
    (case a7 => k_is)
    (case l7 => k_is)
    (case c7 => k_is)
    (case k7 => k_is)
    (case a8 => k_is)
    (case l8 => k_is)
    (case c8 => k_is)
    (case k8 => k_is)
    (case a9 => k_is)
    (case l9 => k_is)
    (case c9 => k_is)
    (case k9 => k_is)
    (case a10 => k_is)
    (case l10 => k_is)
    (case c10 => k_is)
    (case k10 => k_is)
    (case a11 => k_is)
    (case l11 => k_is)
    (case c11 => k_is)
    (case k11 => k_is)
    (case a12 => k_is)
    (case l12 => k_is)
    (case c12 => k_is)
    (case k12 => k_is)
    (case a13 => k_is)
    (case l13 => k_is)
    (case c13 => k_is)
    (case k13 => k_is)
    (case a14 => k_is)
    (case l14 => k_is)
    (case c14 => k_is)
    (case k14 => k_is)
    (case a15 => k_is)
    (case l15 => k_is)
    (case c15 => k_is)
    (case k15 => k_is)
    (case a16 => k_is)
    (case l16 => k_is)
    (case c16 => k_is)
    (case k16 => k_is)
    (case a17 => k_is)
    (case l17 => k_is)
    (case c17 => k_is)
    (case k17 => k_is)
    (case a18 => k_is)
    (case l18 => k_is)
    (case c18 => k_is)
    (case k18 => k_is)
    (case a19 => k_is)
    (case l19 => k_is)
    (case c19 => k_is)
    (case k19 => k_is)
    (case a20 => k_is)
    (case l20 => k_is)
    (case c20 => k_is)
    (case k20 => k_is)
    (case a21 => k_is)
    (case l21 => k_is)
    (case c21 => k_is)
    (case k21 => k_is)
    (case htab => kernel_rfl)
    (case z1 => k_is)
    (case z2 => k_is)
    (case z3 => k_is)
    (case z4 => k_is)
    (case z5 => k_is)
    (case z6 => k_is)
    (case z7 => k_is)
    (case z8 => k_is)
    (case z9 => k_is)
    (case z10 => k_is)
    (case z11 => k_is)
    (case z12 => k_is)
    (case z13 => k_is)

import PyProof.Rows.All
import Wide.All
import OpenK.AllK
import Wide.FinOn
import HandS.ListItems
import HandS.DictComp
import HandS.WordsExc
import HandS.RaiseMore
import HandS.ExcValue
import HandS.TryOnly
import HandS.Deep
import HandS.Star
import HandS.Zip
import HandS.Style
import HandS.TryMany
import HandS.Defaults
import HandS.MakeKwOnly
import HandS.Base
import HandS.Call
import HandS.List
import HandS.Comp
import HandS.Ends
import HandS.Dict
import HandS.Iter
import HandS.Text
import PyProof.ReprRoads
import HandS.Words
import HandS.IsInst
import HandS.Wide
import HandS.Flow
import HandS.Conv
import HandS.Walk
import HandS.Codes
import HandS.WordsList
import HandS.WordsDict
import PyProof.StrLawsRepr
import PyProof.ReprLen
import PyProof.Rows.RegStrFacts
import HandS.TupAny
import PyProof.Rows.StrCase
import PyProof.Rows.ReprOcc
import HandS.Exc
import HandS.ExcOwn
import HandS.ExcInit
import HandS.ExcIs
import HandS.ExcField
import HandS.FStr
import HandS.MakeKw
import KE.KExcIs
import HandS.Small
import HandS.ClsMeth
import HandS.More
import PyProof.ReprDict
import HandS.DeepEq
import HandS.OwnEq
import PyProof.NeData
import KE.KDictZip
import PyProof.CollectWalk
import KE.GoesEnum
import PySem.Challenge.RW_runlore_k09_books
set_option Elab.async false
set_option linter.all false
set_option maxRecDepth 100000
set_option exponentiation.threshold 2000
set_option maxHeartbeats 4000000
namespace Rl
open PySem PySem.Spec PyProof.Rows L2
/-- what can be printed: data of bounded depth whose text is short enough -/
structure Prn (d : PyData) : Prop where
  sh : d.showable = true
  nd : d.hasDict = false
  dp : d.depth ≤ 60
  sz : d.shown.length ≤ sizeLine
def rRep (K : PySem.W.Frag) : List V → Hp → VK → Prop := fun xs H Q =>
  ∃ v d, xs = [v] ∧ Dp K H v d ∧ Prn d ∧ Q (.str d.shown) H
theorem meets_extT (l b : Addr) (items items2 : Array Value) (n : Nat) (hlong : (!items.isEmpty && Builtin.List.listTooLong (items.size + items2.size)) = false) (h1 : items.size ≤ sizeLine) (h2 : items.size + items2.size ≤ sizeLine + 1) :
    Meets (Builtin.«list.extend» ⟨[.ref l, .ref b], []⟩) (fun _ R s => s.heap.get? l = some { cls := .type "list", data := .seq items n } ∧ IsTup s.heap b items2 ∧
      R (.ok (.ret .none)) { s with heap := s.heap.update l (Obj.mapSeq fun x => x ++ items2) }) := by
  intro prog w A R s ⟨hl, ⟨o, ho, hc, n2, hd⟩, hR⟩
  show wpAny _ A.in1 (Builtin.List.listExtendWith (.ref l) (.ref b) .none) _ _ s
  unfold Builtin.List.listExtendWith
  refine wpAny_bind (wpAny_typeOf ⟨o, ho, hc⟩ ?_)
  have e1 : (Builtin.List.listSameRef (.ref l) (.ref b) || Value.type "tuple" == Value.type "list" || Value.type "tuple" == Value.type "tuple") = true := by simp
  simp only [e1, if_true]
  refine wpAny_bind ?_
  unfold Builtin.List.listItems
  refine wpAny_bind (wpAny_seqItems ho hd (wpAny_pure ?_))
  refine wpAny_bind ?_
  refine wpAny_bind (wpAny_seqItems hl rfl (wpAny_pure ?_))
  rw [hlong]
  show wpAny _ A.in1 (updateSeq l (· ++ items2) >>= fun _ => ret .none) _ _ s
  have h3 : (items ++ items2).size ≤ sizeLine + 1 := by rw [Array.size_append]; exact h2
  refine wpAny_bind (wpAny_updateSeq hl rfl ?_ h1 h3)
  exact wpAny_pure hR
section
variable {X : Cx}
theorem call_rep (hg : X.A.guards = some []) (hu : X.A.units + 64 < cLine) : CallR X (.builtin "repr") (rRep X.K) := by
  intro pins s σ H xs us Q I r h
  obtain ⟨v, d, rfl, hd, ⟨hs, hnd, hdep, hsz⟩, q⟩ := h
  obtain ⟨u, rfl, ru⟩ := vals1 r
  obtain ⟨as, rd⟩ := Dp.reads I d v u hd ru
  cases hd with
  | non =>
    cases ru
    exact PySem.P.repr_of_none ⟨.str _, H, I.tok _, ⟨_, rfl⟩, q⟩
  | bl b =>
    cases ru
    refine PySem.P.repr_of_bool ⟨.str (if b then "True" else "False"), H, I.tok _, ⟨_, rfl⟩, ?_⟩
    cases b <;> exact q
  | int i =>
    obtain ⟨t, rfl⟩ := ru
    exact PySem.P.repr_of_int (of_decide_eq_true (by simpa only [PyData.showable] using hs)) ⟨.str _, H, I.tok _, ⟨_, rfl⟩, q⟩
  | str x =>
    obtain ⟨t, rfl⟩ := ru
    exact PySem.P.repr_of_str ⟨.str _, H, I.tok _, ⟨_, rfl⟩, q⟩ hsz
  | lst h1 h2 =>
    cases ru
    exact repr_of_reads' rd hs (PyData.noDict_hsm hnd) hg (by omega) (fun _ _ e => e) (fun h' u tk hk => ⟨.str _, H, I.kept hk, ⟨_, rfl⟩, q⟩) hsz
  | tup h1 h2 =>
    cases ru
    exact repr_of_reads' rd hs (PyData.noDict_hsm hnd) hg (by omega) (fun _ _ e => e) (fun h' u tk hk => ⟨.str _, H, I.kept hk, ⟨_, rfl⟩, q⟩) hsz
/-- xs.extend(t), t a tuple -/
def rExtT (K : PySem.W.Frag) : V → List V → Hp → VK → Prop := fun x vs H Q =>
  ∃ l b xs zs, x = .ref l ∧ vs = [.ref b] ∧ H l = some (.lst xs) ∧ SqT K H b zs ∧ xs.length + zs.length ≤ sizeLine ∧ Q .non (upd H l (.lst (xs ++ zs)))
theorem mt_extT : MtM X "list.extend" (rExtT X.K) := by
  intro pins s σ H x vs v us Q I rx rv h
  obtain ⟨l, b, xs, zs, rfl, rfl, hH, hB, hz, q⟩ := h
  cases rx
  obtain ⟨u, rfl, ru⟩ := rv.one
  cases ru
  obtain ⟨z, its, n, r, hl, e⟩ := I.lstM hH
  obtain ⟨its2, r2, tp, hl2⟩ := I.tuple hB
  have hl3 := r2.length
  have hl4 := r.length
  have hsz : its.toArray.size + its2.toArray.size ≤ sizeLine := by rw [List.size_toArray, List.size_toArray]; omega
  have hlong : (!its.toArray.isEmpty && Builtin.List.listTooLong (its.toArray.size + its2.toArray.size)) = false := by
    rw [notLongL hsz, Bool.and_false]
  refine call_meets F.slot_list_extend ⟨_, e, rfl⟩ F.entry_list_extend (F.args_list_extend_2 _ _)
    (meets_extT l b its.toArray its2.toArray n hlong (by omega) (by omega)) ⟨e, tp, ?_⟩
  refine ⟨.non, _, I.lset (its' := its ++ its2) hH e (by simp) (r.append r2) ?_, rfl, q⟩
  rw [List.length_append]
  omega
end
/-! a def that may print (repr): called where nothing is being printed -/
section
variable {P : Program} {w : World} {K : PySem.W.Frag} {mg : Str → Option Value} {base : Heap} {CX : CXT}
structure FnG (P : Program) (w : World) (K : PySem.W.Frag) (mg : Str → Option Value) (base : Heap)
    (CX : CXT) (k : Nat) (f : Addr) (fd : FuncData) (ps : List Str) (sp : Sp) : Prop where
  len : ∀ ws H Q E, sp ws H Q E → ws.length = ps.length
  go : ∀ (B : Around) (out : List Env) (t : Shared) (H : Hp) (as : Args) (us : List Value) (ws : List V) (Q : VK) (E : XK), B.guards = some [] → Room k B →
    Env0 P w K mg base B out t H → BindsTo t fd as (ps.zip us) → Vals ws us → sp ws H Q E →
    codeAny (model P w) B (.call (.ref f) as) (CR CX out P w H t Q E) t
theorem FnOk.toG {k : Nat} {f : Addr} {fd : FuncData} {ps : List Str} {sp : Sp} (F : FnOk P w K mg base CX k f fd ps sp) : FnG P w K mg base CX k f fd ps sp :=
  ⟨F.len, fun B out t H as us ws Q E _ => F.run B out t H as us ws Q E⟩
theorem FnG.mono {j k : Nat} {f : Addr} {fd : FuncData} {ps : List Str} {sp : Sp} (F : FnG P w K mg base CX j f fd ps sp) (h : j ≤ k) : FnG P w K mg base CX k f fd ps sp :=
  ⟨F.len, fun B out t H as us ws Q E g r => F.go B out t H as us ws Q E g (r.mono h)⟩
theorem fnG_of {k : Nat} {f : Addr} {name qual : Str} {params : Arguments} {body : List Stmt} {scope : Scope} {dV kV doc pm cdv ct oc : Value} {an od : Option Addr} {osl : Array (Option Value)} {N ps : List Str} {sp : Sp}
    (lk : K.lookup f = some ⟨oc, od, .func (PySem.W.fnOf name qual params body scope dV kV doc pm an cdv ct), osl⟩) (hcd : PySem.W.codeIn K cdv qual = true) (S : FnScope N ps scope)
    (len : ∀ ws H Q E, sp ws H Q E → ws.length = ps.length)
    (hb : ∀ (B : Around) (out : List Env) (t : Shared) (H : Hp) (ws : List V) (Q : VK) (E : XK), B.guards = some [] → Room k (B.deeper (envOfC qual scope t.heap.objs.size f cdv)) → sp ws H Q E →
      ∃ r, PSs (cxOf CX P w K mg base N qual scope f cdv B out t H E) body r ∧ r { nx := fun _ H' => Q .non H', rt := Q } (start N ws) H) :
    FnG P w K mg base CX (k + 1) f (PySem.W.fnOf name qual params body scope dV kV doc pm an cdv ct) ps sp := by
  refine ⟨len, ?_⟩
  intro B out t H as us ws Q E hg hr ee bb rr hsp
  have hl := len _ _ _ _ hsp
  have kx : K.In t.heap := ee.mod.kin.keeps fun b o z => (ee.bs b o z).1
  have lm : t.heap.NoLimit := ee.mod.nolimit.keeps fun b o z => (ee.bs b o z).1
  have kinds : ∀ y ∈ ps.zip us, scope.names.lookup y.1 = some .local ∨ (scope.names.lookup y.1 = some .cell ∧
      ((cellsFrom (t.heap.objs.size + 1) scope.names []).lookup y.1).isSome = true) := by
    rintro ⟨n, v⟩ hy
    rcases S.par n (List.of_mem_zip hy).1 with q | q
    · exact Or.inl q
    · exact Or.inr ⟨q, PySem.W.cellsFrom_some _ _ _ (Or.inl q)⟩
  refine codeAny_call_function hr.depth (kx _ _ lk) rfl S.co S.gen rfl (PySem.W.codeRec_of kx hcd) (bb _ _ _ _ ?_)
  refine wpAny_newFunctionEnv_cells S.kind kinds fun env he t1 x => ?_
  subst he
  refine ⟨lm.keeps x.toInCall.keep, codeAny_func ?_⟩
  obtain ⟨r, ht, hq⟩ := hb B out t H ws Q E hg (hr.deeper _) hsp
  have J := inv_start (CX := CX) (E := E) S hr.hd ee hl rr x
  refine wpAny_mono (ht.run [] t1 (start N ws) H _ J hq) (fun fl t' hs => ?_) (fun _ _ hs => hs)
  cases fl with
  | brk => exact hs.elim fun _ z => z.elim fun _ z => z.2.elim
  | cont => exact hs.elim fun _ z => z.elim fun _ z => z.2.elim
  | ret u =>
    obtain ⟨v, _, H', J', rv, q⟩ := hs
    exact ⟨v, H', J'.os, J'.bare, J'.base, J'.hok, rv, q⟩
  | next =>
    obtain ⟨_, H', J', q⟩ := hs
    exact ⟨.non, H', J'.os, J'.bare, J'.base, J'.hok, rfl, q⟩
end
section
variable {X : Cx} {CX : CXT} {k : Nat} {f : Addr} {fd : FuncData} {ps : List Str} {sp : Sp} {ds : List Value} {dvs : List V} {E : XK} {x : Str} {p pos : Pos} {e : Expr} {es : List Expr} {t : TA}
theorem pe_callG (F : FnG X.prog X.w X.K X.mg X.base CX k f fd ps sp) (gd : X.A.guards = some []) (hr : Room k X.A) (hg : Gl X x) (hm : X.mg x = some (.ref f)) (hk : PySem.W.keepIn X.K (.ref f) = true)
    (hb : Binds X.K fd ps ds) (hd : Vals dvs ds) (hx : Passes CX X E) (ha : PA X (e :: es) t) (hdb : (x == ("__debug__" : Str)) = false := by decide)
    (he : starEach (e :: es) X.env = (false, eval e X.env) :: starEach es X.env := by rfl) (hpl : (backTo pos (starEach es X.env)).any (·.1) = false := by rfl) :
    PE X (.Call (.Name x p) (e :: es) [] pos) (tCall sp dvs E t) := by
  refine ⟨fun pins s σ H Q I h => wpAny_Call_Name_kw (ld_glob I hg hm ?_ hdb)⟩
  refine PySem.W.callWith_K (h₀ := X.base) I.ok.mod.kin hk ?_ he hpl
  refine thn (ha.run pos pins s σ H _ I h) fun us t1 ⟨ws, H1, J, r, q⟩ => ⟨J.kIn, ?_⟩
  have r2 : Vals (ws ++ dvs) (us ++ ds) := r.append hd
  have hl : (us ++ ds).length = ps.length := r2.length.symm.trans (F.len _ _ _ _ q)
  refine wpAny_call (codeAny_mono (F.go X.A X.stack t1 H1 ⟨us, []⟩ (us ++ ds) (ws ++ dvs) Q E gd hr J.env0 (hb t1 us J.kIn hl) r2 q) ?_)
  intro r t' hq
  cases r with
  | error z => exact hx pins σ H1 t1 z t' J hq
  | ok fl =>
    cases fl with
    | ret u => exact J.after hq
    | next => exact False.elim hq
    | brk => exact False.elim hq
    | cont => exact False.elim hq
end
/-! the law's own call, where its def may print -/
abbrev Tru (s₁ : Shared) (r : Result) (t : Shared) : Prop := r = .ok (.ret (.bool true)) ∧ OldK s₁.heap t.heap ∧ t.os = s₁.os ∧ AllBare t.gens
theorem law_core {P : Program} {w : World} {K : PySem.W.Frag} {mg mb : Str → Option Value} {k : Nat} {fa a : Addr} {fd : FuncData} {x : Str} {sp : Sp} {s₁ : Shared} {vs : List Value} {ns : List Int}
    (kx : K.In s₁.heap) (n1 : s₁.heap.Ns mainGlobals mg) (n2 : s₁.heap.Ns builtinsNs mb) (n3 : ∀ x : Str, x ≠ "__name__" → mb x = bootBuiltins x) (n4 : s₁.heap.NoLimit) (g0 : s₁.gens = #[])
    (oa : s₁.heap.get? a = some { cls := .type "list", data := .seq vs.toArray }) (hr : Room k callerA)
    (F : ∀ base : Heap, K.In base → base.Ns mainGlobals mg → FnG P w K mg base CX0 k fa fd [x] sp) (bd : ∀ (s : Shared) (u : Value), BindsTo s fd ⟨[u], []⟩ [(x, u)])
    (hsp : ∀ H : Hp, Only H → SqL K H a (ns.map V.int) → sp [.ref a] H (fun v _ => v = .bl true) fun _ _ _ => False)
    (H : Hp) (hO : Only H) (hS : SqL K H a (ns.map V.int)) (ok : HOk P w H s₁.heap) (hA : ∀ b, H b ≠ none → b = a) (hK : H a ≠ none → K.lookup a = none) :
    codeAny (model P w) callerA (.call (.ref fa) ⟨[.ref a], []⟩) (Tru s₁) s₁ := by
  have out : ∀ {b : Addr} {o : Obj} {es : Array DictEntry} {ep : Nat}, s₁.heap.get? b = some o → o.data = .dict es ep → H b = none := by
    intro b o es ep e d
    by_cases q : H b = none
    · exact q
    · have z := hA b q
      subst z
      rw [oa] at e
      cases e
      exact nomatch d
  have nsK : ∀ {b : Addr} {m : Str → Option Value}, s₁.heap.Ns b m → (hidT s₁.heap H).Ns b m := by
    rintro b m ⟨o, es, ep, e, d, r⟩
    exact ⟨o, es, ep, hidT_get e (out e d), d, r⟩
  have kb : K.In (hidT s₁.heap H) := by
    intro b o e
    refine hidT_get (kx b o e) ?_
    by_cases q : H b = none
    · exact q
    · have z := hA b q
      subst z
      have y := hK q
      rw [y] at e
      cases e
  have lim : (hidT s₁.heap H).NoLimit := by
    obtain ⟨mc, h1, h2⟩ := n4
    exact ⟨mc, nsK h1, h2⟩
  have md : Mod K mg (hidT s₁.heap H) := ⟨kb, nsK n1, ⟨mb, nsK n2, n3⟩, lim⟩
  have ee : Env0 P w K mg (hidT s₁.heap H) callerA [] s₁ H := by
    refine ⟨rfl, md, fun b o e => of_hidT e, Nat.le_of_eq (hidT_size _ _), trivial, ?_, ok, .of_eq g0⟩
    intro b hb
    exact absurd (show b ∈ ([] : List Addr) from hb) (by simp)
  have run := (F _ kb (nsK n1)).go callerA [] s₁ H ⟨[.ref a], []⟩ [.ref a] [.ref a] _ _ rfl hr ee (bd s₁ (.ref a)) (.cons rfl .nil) (hsp H hO hS)
  refine codeAny_mono run ?_
  intro r t h
  cases r with
  | error e => exact False.elim h
  | ok fl =>
    cases fl with
    | brk => exact False.elim h
    | cont => exact False.elim h
    | next => exact False.elim h
    | ret u =>
      obtain ⟨v, H', os, bare, un, ok', rv, q⟩ := h
      have q' : v = .bl true := q
      subst q'
      obtain rfl : u = Value.bool true := rv
      refine ⟨rfl, OldK.of_keep ?_, os, bare⟩
      intro b o e
      rcases hO b with z | ⟨ob, xs, z⟩
      · exact un.keep b o e z (fun y => absurd (show b ∈ ([] : List Addr) from y) (by simp)) (by simp)
      · obtain ⟨e1, _⟩ := ok b _ z
        obtain ⟨e2, _⟩ := ok' b _ (un.frzs b ob _ z)
        rw [e] at e1
        cases e1
        exact e2
theorem law_callG {P : Program} {w : World} {K : PySem.W.Frag} {mg mb : Str → Option Value} {k : Nat} {fa a : Addr} {fd : FuncData} {x : Str} {sp : Sp} {s₁ : Shared} {vs : List Value} {ns : List Int}
    (kx : K.In s₁.heap) (n1 : s₁.heap.Ns mainGlobals mg) (n2 : s₁.heap.Ns builtinsNs mb) (n3 : ∀ x : Str, x ≠ "__name__" → mb x = bootBuiltins x) (n4 : s₁.heap.NoLimit) (g0 : s₁.gens = #[])
    (oa : s₁.heap.get? a = some { cls := .type "list", data := .seq vs.toArray }) (hi : IntsAre vs ns) (hl : ns.length ≤ sizeLine) (hr : Room k callerA)
    (F : ∀ base : Heap, K.In base → base.Ns mainGlobals mg → FnG P w K mg base CX0 k fa fd [x] sp) (bd : ∀ (s : Shared) (u : Value), BindsTo s fd ⟨[u], []⟩ [(x, u)])
    (hsp : ∀ H : Hp, Only H → SqL K H a (ns.map V.int) → sp [.ref a] H (fun v _ => v = .bl true) fun _ _ _ => False) :
    codeAny (model P w) callerA (.call (.ref fa) ⟨[.ref a], []⟩) (Tru s₁) s₁ := by
  have rv := vals_ints hi
  have lv := rv.length
  rw [List.length_map] at lv
  have go := law_core (ns := ns) kx n1 n2 n3 n4 g0 oa hr F bd hsp
  by_cases hk : K.lookup a = none
  · refine go (fun b => if b = a then some (.frz { cls := .type "list", data := .seq vs.toArray } (.lst (ns.map V.int))) else none) ?_ ?_ ?_ ?_ (fun _ => hk)
    · intro b
      by_cases hb : b = a
      · exact Or.inr ⟨_, _, if_pos hb⟩
      · exact Or.inl (if_neg hb)
    · exact .inl (.inr ⟨{ cls := .type "list", data := .seq vs.toArray }, if_pos rfl⟩)
    · intro b u z
      by_cases hb : b = a
      · cases (if_pos hb).symm.trans z
        subst hb
        exact ⟨oa, by rw [List.length_map]; exact hl, vs, _, rv, oa⟩
      · cases (if_neg hb).symm.trans z
    · intro b z
      by_cases hb : b = a
      · exact hb
      · exact absurd (if_neg hb) z
  · obtain ⟨o, hk⟩ := Option.ne_none_iff_exists'.mp hk
    have e := kx a o hk
    rw [oa] at e
    cases e
    refine go (fun _ => none) (fun _ => .inl rfl) ?_ ?_ (fun b z => absurd rfl z) (fun z => absurd rfl z)
    · exact .inr ⟨_, vs.toArray, _, hk, rfl, rfl, rfl, by rw [List.size_toArray, ← lv]; exact hl, by simpa using rv⟩
    · intro b u z
      exact nomatch (show (none : Option HO) = some u from z)
theorem walkG {l : PySem.W.OpenLaw} {n k : Nat} {q : Program} {loose : List Str} {XP : (Str → Option Value) → Heap → Prop} {YP : World → Heap → Prop} {d : DefRec} {K : Params → PySem.W.Frag} {sp : PySem.W.Frag → Sp} {x : Str}
    (hn : l.most = some n) (hn2 : n ≤ sizeLine) (hdf : d.params.defaults = []) (hr : Room k callerA) (hY : ∀ (w : World) (h : Heap), YP w h → (K w.params).In h)
    (F : ∀ (w : World) (mg : Str → Option Value) (fa : Addr) (h : Heap), (K w.params).In h → h.Ns mainGlobals mg → mg d.name = some (.ref fa) →
      ∃ fd : FuncData, (∀ (s : Shared) (u : Value), BindsTo s fd ⟨[u], []⟩ [(x, u)]) ∧ ∀ base : Heap, (K w.params).In base → base.Ns mainGlobals mg → FnG l.prog w (K w.params) mg base CX0 k fa fd [x] (sp (K w.params)))
    (hsp : ∀ (K : PySem.W.Frag) (H : Hp) (a : Addr) (ns : List Int), ns.length ≤ n → Only H → SqL K H a (ns.map V.int) → sp K [.ref a] H (fun v _ => v = .bl true) fun _ _ _ => False) :
    PySem.W.WalkO q loose XP YP l.row.toRowW d [] (fun f vs => PySem.call f vs) := by
  refine Att.attach_call hn hdf ?_
  intro w s₀ s₁ mg mb fa o pm cd doc a vs ns G Y ho hd hcd hmg hobj hints hlen hg
  obtain ⟨fd, hb, hF⟩ := F w mg fa _ (hY w _ Y) G.T.g hmg
  exact law_callG (hY w _ Y) G.T.g G.T.b G.T.builtins G.T.nolimit hg hobj hints (Nat.le_trans hlen hn2) hr hF hb (fun H hO hS => hsp (K w.params) H a ns hlen hO hS)
/-! heaps: what is kept, but for some addresses -/
def cut (l : List Addr) (H : Hp) : Hp := fun b => if b ∈ l then none else H b
def Off (l : List Addr) (H H' : Hp) : Prop := Same (cut l H) (cut l H')
theorem cut_out {l : List Addr} {H : Hp} {b : Addr} (h : b ∉ l) : cut l H b = H b := if_neg h
theorem cut_in {l : List Addr} {H : Hp} {b : Addr} (h : b ∈ l) : cut l H b = none := if_pos h
theorem cut_some {l : List Addr} {H : Hp} {b : Addr} {o : HO} (h : cut l H b = some o) : b ∉ l ∧ H b = some o := by
  by_cases e : b ∈ l
  · rw [cut_in e] at h
    cases h
  · rw [cut_out e] at h
    exact ⟨e, h⟩
theorem same_new {H : Hp} {p : Addr} (h : H p = none) (o : HO) : Same H (upd H p o) := fun b u q => by
  rw [upd_ne (ne_of_none q h)]
  exact q
theorem cut_same (l : List Addr) (H : Hp) : Same (cut l H) H := fun _ _ h => (cut_some h).2
theorem Off.refl (l : List Addr) (H : Hp) : Off l H H := Same.refl _
theorem Off.trans {l : List Addr} {H H1 H2 : Hp} (a : Off l H H1) (b : Off l H1 H2) : Off l H H2 := Same.trans a b
theorem Off.of {l : List Addr} {H H' : Hp} (s : Same H H') : Off l H H' := fun b o h => by
  obtain ⟨n, e⟩ := cut_some h
  rw [cut_out n]
  exact s b o e
theorem Off.get {l : List Addr} {H H' : Hp} (s : Off l H H') {b : Addr} {o : HO} (h : H b = some o) (n : b ∉ l) : H' b = some o := by
  have q := s b o (by rw [cut_out n]; exact h)
  exact (cut_some q).2
theorem Off.mono {l m : List Addr} {H H' : Hp} (s : Off l H H') (h : ∀ b ∈ l, b ∈ m) : Off m H H' := fun b o e => by
  obtain ⟨n, e⟩ := cut_some e
  rw [cut_out n]
  exact s.get e fun z => n (h b z)
/-- a change at an address that is not counted -/
theorem Off.put {l : List Addr} {H : Hp} {p : Addr} {o : HO} (h : p ∈ l) : Off l H (upd H p o) := fun b u e => by
  obtain ⟨n, e⟩ := cut_some e
  rw [cut_out n, upd_ne (fun z => n (by rw [z]; exact h))]
  exact e
/-- an address that was free then -/
theorem Off.free {l : List Addr} {H H' : Hp} (s : Off l H H') {b : Addr} (h : H' b = none) (n : b ∉ l) : H b = none := by
  cases q : H b with
  | none => rfl
  | some o =>
    rw [s.get q n] at h
    cases h
/-! data -/
theorem seqT_up {K : PySem.W.Frag} {H H' : Hp} {a : Addr} {xs : List V} (s : Same H H') (h : SqT K H a xs) : SqT K H' a xs := by
  rcases h with (h | ⟨o, h⟩) | h
  · exact .inl (.inl (s _ _ h))
  · exact .inl (.inr ⟨o, s _ _ h⟩)
  · exact .inr h
mutual
theorem Dp.up {K : PySem.W.Frag} {H H' : Hp} (s : Same H H') : ∀ (d : PyData) (v : V), Dp K H v d → Dp K H' v d
  | .none, _, h => by cases h; exact .non
  | .bool b, _, h => by cases h; exact .bl b
  | .int i, _, h => by cases h; exact .int i
  | .str x, _, h => by cases h; exact .str x
  | .list ds, _, h => by
    cases h with
    | lst h1 h2 => exact .lst (s.seq h1) (Dp.ups s ds _ h2)
  | .tuple ds, _, h => by
    cases h with
    | tup h1 h2 => exact .tup (seqT_up s h1) (Dp.ups s ds _ h2)
  | .dict _, _, h => by cases h
theorem Dp.ups {K : PySem.W.Frag} {H H' : Hp} (s : Same H H') : ∀ (ds : List PyData) (vs : List V), DpAll K H vs ds → DpAll K H' vs ds
  | [], _, h => by cases h; exact .nil
  | d :: ds, _, h => by
    cases h with
    | cons h1 h2 => exact .cons (Dp.up s d _ h1) (Dp.ups s ds _ h2)
end
theorem DpAll.len {K : PySem.W.Frag} {H : Hp} : ∀ {vs : List V} {ds : List PyData}, DpAll K H vs ds → vs.length = ds.length
  | _, _, .nil => rfl
  | _, _, .cons _ t => congrArg (· + 1) (DpAll.len t)
theorem DpAll.get {K : PySem.W.Frag} {H : Hp} : ∀ {vs : List V} {ds : List PyData} {i : Nat} {v : V}, DpAll K H vs ds → vs[i]? = some v → ∃ d, ds[i]? = some d ∧ Dp K H v d
  | _, _, _, _, .nil, e => by simp at e
  | _, _, 0, _, .cons h _, e => by simp at e; subst e; exact ⟨_, rfl, h⟩
  | _, _, i + 1, _, .cons _ t, e => by
    obtain ⟨d, a, b⟩ := DpAll.get (i := i) t (by simpa using e)
    exact ⟨d, by simpa using a, b⟩
theorem DpAll.app {K : PySem.W.Frag} {H : Hp} : ∀ {vs ws : List V} {ds es : List PyData}, DpAll K H vs ds → DpAll K H ws es → DpAll K H (vs ++ ws) (ds ++ es)
  | _, _, _, _, .nil, s => s
  | _, _, _, _, .cons r t, s => .cons r (DpAll.app t s)
/-- the name of a thing's type -/
def tyN : PyData → String
  | .none => "NoneType"
  | .bool _ => "bool"
  | .int _ => "int"
  | .str _ => "str"
  | .list _ => "list"
  | .tuple _ => "tuple"
  | .dict _ => "dict"
theorem tyD {K : PySem.W.Frag} {H : Hp} {v : V} {d : PyData} (h : Dp K H v d) : TyX K H v (.type (tyN d)) := by
  cases h with
  | non => exact .base .non
  | bl b => exact .base (.bl b)
  | int i => exact .base (.int i)
  | str x => exact .base (.str x)
  | lst h _ =>
    rcases h with (h | ⟨o, h⟩) | ⟨o, its, n, h, c, _⟩
    · exact .base (.lst h)
    · exact .base (.frz h)
    · exact .kList h c
  | tup h _ =>
    rcases h with (h | ⟨o, h⟩) | ⟨o, its, n, h, c, _⟩
    · exact .base (.tup h)
    · exact .fTuple h
    · exact .kTuple h c
/-- isinstance(x, T) of data -/
def rIsD (K : PySem.W.Frag) : List V → Hp → VK → Prop := fun xs H Q =>
  ∃ v d T b, xs = [v, .ty T] ∧ Dp K H v d ∧ kitB (tyN d) T = some b ∧ Q (.bl b) H
theorem call_isD {X : Cx} : CallR X (.builtin "isinstance") (rIsD X.K) := by
  intro pins s σ H xs us Q I r h
  obtain ⟨v, d, T, b, rfl, hd, hk, q⟩ := h
  exact call_isi pins s σ H _ us Q I r ⟨v, .ty T, _, _, b, rfl, .ty T, tyD hd, kit_ty hk, q⟩
/-! the box that a law draws from -/
def bx (g : Addr) (n s t : Int) : List (Key × V) := [(Sum.inr "great", .ref g), (Sum.inr "now", .int n), (Sum.inr "seed", .int s), (Sum.inr "turn", .int t)]
structure Box (H : Hp) (p g : Addr) : Prop where
  ex : ∃ n s t gs, H p = some (.dK (bx g n s t)) ∧ H g = some (.lst (List.map V.int gs)) ∧ gs.length ≤ 1000
theorem Box.ne {H : Hp} {p g : Addr} (b : Box H p g) : p ≠ g := by
  obtain ⟨n, s, t, gs, h1, h2, _⟩ := b.ex
  exact ne_of h1 h2 (by intro z; cases z)
theorem Box.off {H H' : Hp} {p g : Addr} {l : List Addr} (b : Box H p g) (h : Off l H H') (n1 : p ∉ l) (n2 : g ∉ l) : Box H' p g := by
  obtain ⟨n, s, t, gs, h1, h2, h3⟩ := b.ex
  exact ⟨n, s, t, gs, h.get h1 n1, h.get h2 n2, h3⟩
theorem Box.same {H H' : Hp} {p g : Addr} (b : Box H p g) (h : Same H H') : Box H' p g := by
  obtain ⟨n, s, t, gs, h1, h2, h3⟩ := b.ex
  exact ⟨n, s, t, gs, h _ _ h1, h _ _ h2, h3⟩
theorem kgn : ¬ ((Sum.inr "great" : Key) = (Sum.inr "now" : Key)) := by decide +kernel
theorem kgs : ¬ ((Sum.inr "great" : Key) = (Sum.inr "seed" : Key)) := by decide +kernel
theorem kgt : ¬ ((Sum.inr "great" : Key) = (Sum.inr "turn" : Key)) := by decide +kernel
theorem kns : ¬ ((Sum.inr "now" : Key) = (Sum.inr "seed" : Key)) := by decide +kernel
theorem knt : ¬ ((Sum.inr "now" : Key) = (Sum.inr "turn" : Key)) := by decide +kernel
theorem kst : ¬ ((Sum.inr "seed" : Key) = (Sum.inr "turn" : Key)) := by decide +kernel
theorem knf (a b : Key) (h : ¬ a = b) : ¬ b = a := fun z => h z.symm
section
variable (g : Addr) (n s t : Int)
theorem bx_great : valV (bx g n s t) (Sum.inr "great" : Key) = some (.ref g) := by
  simp [valV, bx]
theorem bx_now : valV (bx g n s t) (Sum.inr "now" : Key) = some (.int n) := by
  simp only [valV, bx, List.find?_cons, decide_eq_false kgn, decide_true, Option.map_some]
theorem bx_seed : valV (bx g n s t) (Sum.inr "seed" : Key) = some (.int s) := by
  simp only [valV, bx, List.find?_cons, decide_eq_false kgs, decide_eq_false kns, decide_true, Option.map_some]
theorem bx_turn : valV (bx g n s t) (Sum.inr "turn" : Key) = some (.int t) := by
  simp only [valV, bx, List.find?_cons, decide_eq_false kgt, decide_eq_false knt, decide_eq_false kst, decide_true, Option.map_some]
theorem put_now (y : Int) : putK (bx g n s t) (Sum.inr "now" : Key) (.int y) = bx g y s t := by
  simp only [putK, bx, List.any_cons, List.map_cons, List.map_nil, decide_true, Bool.true_or, Bool.or_true, if_true, if_neg kgn, if_neg (knf _ _ kns), if_neg (knf _ _ knt)]
theorem put_seed (y : Int) : putK (bx g n s t) (Sum.inr "seed" : Key) (.int y) = bx g n y t := by
  simp only [putK, bx, List.any_cons, List.map_cons, List.map_nil, decide_true, Bool.true_or, Bool.or_true, if_true, if_neg kgs, if_neg kns, if_neg (knf _ _ kst)]
theorem put_turn (y : Int) : putK (bx g n s t) (Sum.inr "turn" : Key) (.int y) = bx g n s y := by
  simp only [putK, bx, List.any_cons, List.map_cons, List.map_nil, decide_true, Bool.true_or, Bool.or_true, if_true, if_neg kgt, if_neg knt, if_neg kst]
theorem mer_box : mergeK [] (bx g n s t) = bx g n s t := by
  simp only [mergeK, bx, List.foldl_cons, List.foldl_nil, putK, List.any_nil, List.any_cons, List.nil_append, List.cons_append, decide_eq_false kgn, decide_eq_false kgs, decide_eq_false kgt, decide_eq_false kns, decide_eq_false knt, decide_eq_false kst, Bool.or_false, if_neg Bool.false_ne_true]
end
/-! data that can be printed: small ints, short texts, few nodes -/
mutual
def gd : PyData → Bool
  | .none => true
  | .bool _ => true
  | .int i => decide (i.natAbs.log2 < 1920)
  | .str x => decide (x.length ≤ 100) && x.cps.toList.all fun c => decide (c < 128)
  | .list ds => gds ds
  | .tuple ds => gds ds
  | .dict _ => false
def gds : List PyData → Bool
  | [] => true
  | d :: ds => gd d && gds ds
end
mutual
def nod : PyData → Nat
  | .list ds => 1 + nods ds
  | .tuple ds => 1 + nods ds
  | .none => 1
  | .bool _ => 1
  | .int _ => 1
  | .str _ => 1
  | .dict _ => 1
def nods : List PyData → Nat
  | [] => 0
  | d :: ds => nod d + nods ds
end
mutual
theorem gd_sh : ∀ d : PyData, gd d = true → d.showable = true ∧ d.hasDict = false
  | .none, _ => ⟨by simp only [PyData.showable], by simp only [PyData.hasDict]⟩
  | .bool _, _ => ⟨by simp only [PyData.showable], by simp only [PyData.hasDict]⟩
  | .int i, h => ⟨by simpa only [PyData.showable, gd] using h, by simp only [PyData.hasDict]⟩
  | .str _, _ => ⟨by simp only [PyData.showable], by simp only [PyData.hasDict]⟩
  | .list ds, h => by
    have q := gds_sh ds (by simpa only [gd] using h)
    exact ⟨by simpa only [PyData.showable] using q.1, by simpa only [PyData.hasDict] using q.2⟩
  | .tuple ds, h => by
    have q := gds_sh ds (by simpa only [gd] using h)
    exact ⟨by simpa only [PyData.showable] using q.1, by simpa only [PyData.hasDict] using q.2⟩
  | .dict _, h => by simp [gd] at h
theorem gds_sh : ∀ ds : List PyData, gds ds = true → PyData.showableAll ds = true ∧ PyData.hasDictAll ds = false
  | [], _ => ⟨by simp only [PyData.showableAll], by simp only [PyData.hasDictAll]⟩
  | d :: ds, h => by
    simp only [gds, Bool.and_eq_true] at h
    have q1 := gd_sh d h.1
    have q2 := gds_sh ds h.2
    exact ⟨by simp only [PyData.showableAll, q1.1, q2.1, Bool.and_self], by simp only [PyData.hasDictAll, q1.2, q2.2, Bool.or_self]⟩
end
mutual
theorem gd_sz : ∀ d : PyData, gd d = true → d.shown.length + 2 ≤ 2000 * nod d
  | .none, _ => by
    simp only [PyData.shown, nod]
    decide +kernel
  | .bool b, _ => by
    simp only [PyData.shown, nod]
    cases b <;> decide +kernel
  | .int i, h => by
    have h1 : i.natAbs.log2 < 1920 := by simpa only [gd, decide_eq_true_eq] using h
    have q := int_text_len_1921 h1
    simp only [PyData.shown, nod]
    show (Str.ofString (toString i)).length + 2 ≤ _
    omega
  | .str x, h => by
    simp only [gd, Bool.and_eq_true, decide_eq_true_eq, List.all_eq_true] at h
    have q := StrLaws.reprText_len x (fun c hc => Nat.lt_of_lt_of_le (h.2 c hc) (by decide))
    simp only [PyData.shown, nod]
    omega
  | .list ds, h => by
    have q := gds_sz ds (by simpa only [gd] using h)
    have q2 := listText_len_le (PyData.shownAll ds)
    simp only [PyData.shown, nod]
    omega
  | .tuple ds, h => by
    have q := gds_sz ds (by simpa only [gd] using h)
    have q2 := tupleText_len_le (PyData.shownAll ds)
    simp only [PyData.shown, nod]
    omega
  | .dict _, h => by simp [gd] at h
theorem gds_sz : ∀ ds : List PyData, gds ds = true → ((PyData.shownAll ds).map (·.length)).sum + 2 * (PyData.shownAll ds).length ≤ 2000 * nods ds
  | [], _ => by simp [PyData.shownAll, nods]
  | d :: ds, h => by
    simp only [gds, Bool.and_eq_true] at h
    have q1 := gd_sz d h.1
    have q2 := gds_sz ds h.2
    simp only [PyData.shownAll, nods, List.map_cons, List.sum_cons, List.length_cons]
    omega
end
theorem prn_of {d : PyData} (h : gd d = true) (hn : nod d ≤ 8000) (hd : d.depth ≤ 60) : Prn d :=
  ⟨(gd_sh d h).1, (gd_sh d h).2, hd, by
    have q := gd_sz d h
    have e : sizeLine = 16777216 := by decide
    omega⟩
theorem gds_app : ∀ ds es : List PyData, gds (ds ++ es) = (gds ds && gds es)
  | [], es => by simp [gds]
  | d :: ds, es => by simp only [List.cons_append, gds, gds_app ds es, Bool.and_assoc]
theorem nods_app : ∀ ds es : List PyData, nods (ds ++ es) = nods ds + nods es
  | [], es => by simp [nods]
  | d :: ds, es => by simp only [List.cons_append, nods, nods_app ds es, Nat.add_assoc]
theorem nod_pos : ∀ d : PyData, 1 ≤ nod d
  | .list _ => by simp only [nod]; omega
  | .tuple _ => by simp only [nod]; omega
  | .none => by simp only [nod]; omega
  | .bool _ => by simp only [nod]; omega
  | .int _ => by simp only [nod]; omega
  | .str _ => by simp only [nod]; omega
  | .dict _ => by simp only [nod]; omega
theorem nods_len : ∀ ds : List PyData, ds.length ≤ nods ds
  | [] => Nat.le_refl _
  | d :: ds => by
    have := nod_pos d
    have := nods_len ds
    simp only [nods, List.length_cons]
    omega
theorem gds_mem : ∀ {ds : List PyData} {d : PyData}, gds ds = true → d ∈ ds → gd d = true
  | _ :: _, _, h, m => by
    simp only [gds, Bool.and_eq_true] at h
    rcases List.mem_cons.mp m with e | e
    · rw [e]
      exact h.1
    · exact gds_mem h.2 e
theorem nods_mem : ∀ {ds : List PyData} {d : PyData}, d ∈ ds → nod d ≤ nods ds
  | _ :: _, _, m => by
    simp only [nods]
    rcases List.mem_cons.mp m with e | e
    · rw [e]
      omega
    · have := nods_mem e
      omega
theorem depth_mem : ∀ {ds : List PyData} {d : PyData}, d ∈ ds → d.depth ≤ PyData.depthAll ds
  | _ :: _, _, m => by
    simp only [PyData.depthAll]
    rcases List.mem_cons.mp m with e | e
    · rw [e]
      omega
    · have := depth_mem e
      omega
theorem depthAll_app : ∀ ds es : List PyData, PyData.depthAll (ds ++ es) = max (PyData.depthAll ds) (PyData.depthAll es)
  | [], es => by simp [PyData.depthAll]
  | d :: ds, es => by simp only [List.cons_append, PyData.depthAll, depthAll_app ds es, Nat.max_assoc]
/-- built-in names that the top leaves as they are -/
structure Bi (mg : Str → Option Value) : Prop where
  ii : mg "isinstance" = none
  len : mg "len" = none
  all : mg "all" = none
  str : mg "str" = none
  tup : mg "tuple" = none
  int : mg "int" = none
  bool : mg "bool" = none
  rng : mg "range" = none
  rep : mg "repr" = none
  abs : mg "abs" = none
/-! names -/
def lowOk (c : Nat) : Bool := decide (97 ≤ c) && decide (c ≤ 122)
def isNm (x : Str) : Bool := decide (1 ≤ x.length) && decide (x.length ≤ 8) && x.cps.toList.all lowOk
mutual
def isVal : PyData → Bool
  | .int _ => true
  | .str x => isNm x
  | .tuple ds => isVals ds
  | .none => false
  | .bool _ => false
  | .list _ => false
  | .dict _ => false
def isVals : List PyData → Bool
  | [] => true
  | d :: ds => isVal d && isVals ds
end
theorem isVals_app : ∀ ds es : List PyData, isVals (ds ++ es) = (isVals ds && isVals es)
  | [], es => by simp [isVals]
  | d :: ds, es => by simp only [List.cons_append, isVals, isVals_app ds es, Bool.and_assoc]
def isTup : PyData → Bool
  | .tuple _ => true
  | _ => false
def nmD : PyData → Bool
  | .str x => isNm x
  | _ => false
def inD : PyData → Bool
  | .int _ => true
  | _ => false
def isStr : PyData → Bool
  | .str _ => true
  | _ => false
def isIntB : PyData → Bool
  | .int _ => true
  | .bool _ => true
  | _ => false
def isBool : PyData → Bool
  | .bool _ => true
  | _ => false
theorem kit_tup : ∀ d : PyData, kitB (tyN d) "tuple" = some (isTup d)
  | .none => (by decide +kernel : kitB "NoneType" "tuple" = some false)
  | .bool _ => (by decide +kernel : kitB "bool" "tuple" = some false)
  | .int _ => (by decide +kernel : kitB "int" "tuple" = some false)
  | .str _ => (by decide +kernel : kitB "str" "tuple" = some false)
  | .list _ => (by decide +kernel : kitB "list" "tuple" = some false)
  | .tuple _ => (by decide +kernel : kitB "tuple" "tuple" = some true)
  | .dict _ => (by decide +kernel : kitB "dict" "tuple" = some false)
theorem kit_str : ∀ d : PyData, kitB (tyN d) "str" = some (isStr d)
  | .none => (by decide +kernel : kitB "NoneType" "str" = some false)
  | .bool _ => (by decide +kernel : kitB "bool" "str" = some false)
  | .int _ => (by decide +kernel : kitB "int" "str" = some false)
  | .str _ => (by decide +kernel : kitB "str" "str" = some true)
  | .list _ => (by decide +kernel : kitB "list" "str" = some false)
  | .tuple _ => (by decide +kernel : kitB "tuple" "str" = some false)
  | .dict _ => (by decide +kernel : kitB "dict" "str" = some false)
theorem kit_int : ∀ d : PyData, kitB (tyN d) "int" = some (isIntB d)
  | .none => (by decide +kernel : kitB "NoneType" "int" = some false)
  | .bool _ => (by decide +kernel : kitB "bool" "int" = some true)
  | .int _ => (by decide +kernel : kitB "int" "int" = some true)
  | .str _ => (by decide +kernel : kitB "str" "int" = some false)
  | .list _ => (by decide +kernel : kitB "list" "int" = some false)
  | .tuple _ => (by decide +kernel : kitB "tuple" "int" = some false)
  | .dict _ => (by decide +kernel : kitB "dict" "int" = some false)
theorem kit_bool : ∀ d : PyData, kitB (tyN d) "bool" = some (isBool d)
  | .none => (by decide +kernel : kitB "NoneType" "bool" = some false)
  | .bool _ => (by decide +kernel : kitB "bool" "bool" = some true)
  | .int _ => (by decide +kernel : kitB "int" "bool" = some false)
  | .str _ => (by decide +kernel : kitB "str" "bool" = some false)
  | .list _ => (by decide +kernel : kitB "list" "bool" = some false)
  | .tuple _ => (by decide +kernel : kitB "tuple" "bool" = some false)
  | .dict _ => (by decide +kernel : kitB "dict" "bool" = some false)
theorem one_lt (c d : Nat) : (([c] : List Nat) < [d]) ↔ c < d := by
  constructor
  · intro h
    cases h with
    | rel h => exact h
    | cons h => cases h
  · intro h
    exact .rel h
theorem cps_a : (("a" : Str)).cps.toList = [97] := by decide +kernel
theorem cps_z : (("z" : Str)).cps.toList = [122] := by decide +kernel
theorem ge_a (c : Nat) : (!decide ((⟨#[c]⟩ : Str).cps.toList < ("a" : Str).cps.toList)) = decide (97 ≤ c) := by
  rw [cps_a]
  by_cases h : 97 ≤ c
  · have : ¬ ((⟨#[c]⟩ : Str).cps.toList < [97]) := fun z => by
      have := (one_lt c 97).mp z
      omega
    rw [decide_eq_false this, decide_eq_true h]
    rfl
  · have : ((⟨#[c]⟩ : Str).cps.toList < [97]) := (one_lt c 97).mpr (by omega)
    rw [decide_eq_true this, decide_eq_false h]
    rfl
theorem le_z (c : Nat) : (!decide (("z" : Str).cps.toList < (⟨#[c]⟩ : Str).cps.toList)) = decide (c ≤ 122) := by
  rw [cps_z]
  by_cases h : c ≤ 122
  · have : ¬ (([122] : List Nat) < (⟨#[c]⟩ : Str).cps.toList) := fun z => by
      have := (one_lt 122 c).mp z
      omega
    rw [decide_eq_false this, decide_eq_true h]
    rfl
  · have : (([122] : List Nat) < (⟨#[c]⟩ : Str).cps.toList) := (one_lt 122 c).mpr (by omega)
    rw [decide_eq_true this, decide_eq_false h]
    rfl
theorem gd_str {x : Str} (h : gd (.str x) = true) : x.length ≤ 100 := by
  simp only [gd, Bool.and_eq_true, decide_eq_true_eq] at h
  exact h.1
theorem len_cps (x : Str) : x.length = x.cps.size := rfl
theorem cps_at {x : Str} {i c : Nat} (h : x.cps[i]? = some c) : x.cps.toList[i]? = some c := by simpa using h
/-- what is found going along a list -/
theorem take_snoc {α β : Type} (f : α → β) {l : List α} {i : Nat} {a : α} (h : l[i]? = some a) : (l.take (i + 1)).map f = (l.take i).map f ++ [f a] := by
  rw [List.take_add_one, h, List.map_append]
  rfl
theorem all_map {α : Type} (f : α → Bool) : ∀ l : List α, (l.map f).all id = l.all f
  | [] => rfl
  | a :: l => by simp only [List.map_cons, List.all_cons, all_map f l, id]
/-! promises of those that only look -/
def spLook (K : PySem.W.Frag) (ok : PyData → Prop) (g : PyData → V) : Sp := fun vs H Q _ => ∃ v d, vs = [v] ∧ Dp K H v d ∧ ok d ∧ ∀ H', Same H H' → Q (g d) H'
theorem DpAll.unapp {K : PySem.W.Frag} {H : Hp} : ∀ {xs ys : List V} {ds : List PyData}, DpAll K H (xs ++ ys) ds → ∃ d1 d2, ds = d1 ++ d2 ∧ DpAll K H xs d1 ∧ DpAll K H ys d2
  | [], _, ds, h => ⟨[], ds, rfl, .nil, h⟩
  | x :: xs, _, _, h => by
    cases h with
    | cons h1 h2 =>
      obtain ⟨d1, d2, e, a, b⟩ := DpAll.unapp (xs := xs) h2
      exact ⟨_ :: d1, d2, by rw [e]; rfl, .cons h1 a, b⟩
theorem DpAll.last {K : PySem.W.Frag} {H : Hp} {xs : List V} {ds : List PyData} (h : DpAll K H xs ds) (hx : xs ≠ []) : ∃ xs' v ds' d, xs = xs' ++ [v] ∧ ds = ds' ++ [d] ∧ DpAll K H xs' ds' ∧ Dp K H v d := by
  have e := (List.dropLast_concat_getLast hx).symm
  rw [e] at h
  obtain ⟨d1, d2, e2, a, b⟩ := DpAll.unapp h
  cases b with
  | cons b1 b2 =>
    cases b2
    exact ⟨_, _, d1, _, e, e2, a, b1⟩
theorem last_at (xs : List V) (v : V) : (xs ++ [v])[(xs ++ [v]).length - 1]? = some v := by simp
theorem drop_last (xs : List V) (v : V) : (xs ++ [v]).dropLast = xs := by simp
theorem tup_of {K : PySem.W.Frag} {H : Hp} {v : V} {d : PyData} (h : Dp K H v d) (ht : isTup d = true) : ∃ a xs ds, v = .ref a ∧ d = .tuple ds ∧ SqT K H a xs ∧ DpAll K H xs ds := by
  cases h with
  | tup h1 h2 => exact ⟨_, _, _, rfl, rfl, h1, h2⟩
  | non => cases ht
  | bl b => cases ht
  | int i => cases ht
  | str x => cases ht
  | lst h1 h2 => cases ht
theorem isVal_no {d : PyData} (h1 : isTup d = false) : isVal d = (inD d || nmD d) := by
  cases d with
  | tuple ds => exact absurd (show true = false from h1) (by decide)
  | str x => simp only [isVal, inD, nmD, Bool.false_or]
  | int i => simp only [isVal, inD, nmD, Bool.true_or]
  | none => simp only [isVal, inD, nmD, Bool.or_self]
  | bool b => simp only [isVal, inD, nmD, Bool.or_self]
  | list b => simp only [isVal, inD, nmD, Bool.or_self]
  | dict b => simp only [isVal, inD, nmD, Bool.or_self]
/-- going along anything: what one turn does is B -/
theorem along {J : It} {n : Nat} {G : Hp → Prop} {Y : Nat → Hp → V → Hp → Prop} (w : Walk J n G Y) {B : (Hp → Prop) → V → Hp → Prop} {H0 : Hp} {Qd : Hp → Prop} (Pv : Nat → Hp → Prop) (h0 : Pv 0 H0) (hG : ∀ i H, i ≤ n → Pv i H → G H)
    (hs : ∀ i x H H', i < n → Pv i H → Y i H x H' → B (Pv (i + 1)) x H') (hd : ∀ H, Pv n H → Qd H) :
    ∃ W : Nat → Nat → Hp → Prop, (∃ m, W 0 m H0) ∧ ∀ i m H, W i m H → (J.stop i H ∧ Qd H) ∨ (J.go i H ∧ ∃ Nx : Hp → Prop, (∀ H', Nx H' → ∃ m', m' < m ∧ W (i + 1) m' H') ∧ ∀ x H', J.yld i H x H' → B Nx x H') := by
  refine ⟨fun i m H => i ≤ n ∧ m + i = n ∧ Pv i H, ⟨n, Nat.zero_le _, rfl, h0⟩, ?_⟩
  rintro i m H ⟨hi, hm, p⟩
  have gg := hG i H hi p
  by_cases lt : i < n
  · refine Or.inr ⟨w.goes i H lt gg, Pv (i + 1), ?_, ?_⟩
    · intro H' p'
      exact ⟨m - 1, by omega, by omega, by omega, p'⟩
    · intro x H' y
      exact hs i x H H' lt p (w.yields i H x H' lt gg y)
  · have e : i = n := by omega
    subst e
    exact Or.inl ⟨w.stops H gg, hd H p⟩
mutual
def dep : PyData → Nat
  | .tuple ds => 1 + deps ds
  | .none => 0
  | .bool _ => 0
  | .int _ => 0
  | .str _ => 0
  | .list _ => 0
  | .dict _ => 0
def deps : List PyData → Nat
  | [] => 0
  | d :: ds => max (dep d) (deps ds)
end
def kids : PyData → List PyData
  | .tuple ds => ds
  | _ => []
theorem deps_app : ∀ ds es : List PyData, deps (ds ++ es) = max (deps ds) (deps es)
  | [], es => by simp [deps]
  | d :: ds, es => by simp only [List.cons_append, deps, deps_app ds es, Nat.max_assoc]
theorem dep_no {d : PyData} (h : isTup d = false) : dep d = 0 := by
  cases d with
  | tuple ds => exact absurd (show true = false from h) (by decide)
  | str x => simp only [dep]
  | int i => simp only [dep]
  | none => simp only [dep]
  | bool b => simp only [dep]
  | list b => simp only [dep]
  | dict b => simp only [dep]
theorem deps_filter : ∀ ds : List PyData, deps (ds.filter isTup) = deps ds
  | [] => rfl
  | d :: ds => by
    cases h : isTup d with
    | true => simp only [List.filter_cons, h, if_true, deps, deps_filter ds]
    | false => simp only [List.filter_cons, h, Bool.false_eq_true, if_false, deps, deps_filter ds, dep_no h, Nat.zero_max]
theorem deps_kids : ∀ ds : List PyData, (∀ d ∈ ds, isTup d = true) → ds ≠ [] → deps ds = 1 + deps (ds.flatMap kids)
  | [], _, h => absurd rfl h
  | d :: ds, h, _ => by
    have hd := h d List.mem_cons_self
    have e1 : dep d = 1 + deps (kids d) := by
      cases d with
      | tuple es => simp only [dep, kids]
      | _ => cases hd
    rw [List.flatMap_cons, deps_app]
    simp only [deps]
    by_cases e : ds = []
    · subst e
      simp only [deps, List.flatMap_nil, e1]
      omega
    · have ih := deps_kids ds (fun x hx => h x (List.mem_cons_of_mem _ hx)) e
      rw [ih, e1]
      omega
theorem nods_kids : ∀ ds : List PyData, nods (ds.flatMap kids) ≤ nods ds
  | [] => Nat.le_refl _
  | d :: ds => by
    rw [List.flatMap_cons, nods_app]
    have ih := nods_kids ds
    have e : nods (kids d) ≤ nod d := by
      cases d <;> simp only [kids, nods, nod] <;> omega
    simp only [nods]
    omega
theorem nods_filter (p : PyData → Bool) : ∀ ds : List PyData, nods (ds.filter p) ≤ nods ds
  | [] => Nat.le_refl _
  | d :: ds => by
    have ih := nods_filter p ds
    have := nod_pos d
    cases h : p d with
    | true =>
      simp only [List.filter_cons, h, if_true, nods]
      omega
    | false =>
      simp only [List.filter_cons, h, Bool.false_eq_true, if_false, nods]
      omega
theorem nods_take (ds : List PyData) (i : Nat) : nods (ds.take i) ≤ nods ds := by
  have e := congrArg nods (List.take_append_drop i ds)
  rw [nods_app] at e
  omega
theorem get_take {α : Type} {l : List α} {i : Nat} {a : α} (h : l[i]? = some a) : l.take (i + 1) = l.take i ++ [a] := by
  rw [List.take_add_one, h]
  rfl
theorem call_isK {X : Cx} {K : PySem.W.Frag} (h : X.K = K) : CallR X (.builtin "isinstance") (rIsD K) := by
  subst h
  exact call_isD
theorem pi_tupK {X : Cx} {K : PySem.W.Frag} {tg l : Expr} {tl : TE} (h : X.K = K) (hl : PE X l tl) : PI X tg l (iTup K tl) := by
  subst h
  exact pi_tup hl
theorem pi_listK {X : Cx} {K : PySem.W.Frag} {tg l : Expr} {tl : TE} (h : X.K = K) (hl : PE X l tl) : PI X tg l (iList K tl) := by
  subst h
  exact pi_list hl
theorem b_ii : bootBuiltins "isinstance" = some (.builtin "isinstance") := by decide +kernel
theorem b_tup : bootBuiltins "tuple" = some (.type "tuple") := by decide +kernel
theorem b_all : bootBuiltins "all" = some (.builtin "all") := by decide +kernel
theorem b_str : bootBuiltins "str" = some (.type "str") := by decide +kernel
theorem b_int : bootBuiltins "int" = some (.type "int") := by decide +kernel
theorem b_bool : bootBuiltins "bool" = some (.type "bool") := by decide +kernel
theorem b_abs : bootBuiltins "abs" = some (.builtin "abs") := by decide +kernel
theorem b_rep : bootBuiltins "repr" = some (.builtin "repr") := by decide +kernel
theorem b_max : bootBuiltins "max" = some (.builtin "max") := by decide +kernel
theorem b_list : bootBuiltins "list" = some (.type "list") := by decide +kernel
/-! short texts of plain signs -/
structure Sm (n : Nat) (x : Str) : Prop where
  le : x.length ≤ n
  lo : ∀ c ∈ x.cps.toList, c < 128
theorem Sm.gd {n : Nat} {x : Str} (h : Sm n x) (hn : n ≤ 100) : Rl.gd (.str x) = true := by
  have h1 := h.le
  have h3 : x.length ≤ 100 := by omega
  have h2 : (x.cps.toList.all fun c => decide (c < 128)) = true := List.all_eq_true.mpr fun c hc => decide_eq_true (h.lo c hc)
  simp only [Rl.gd, decide_eq_true h3, h2, Bool.and_self]
theorem Sm.mono {n m : Nat} {x : Str} (h : Sm n x) (hn : n ≤ m) : Sm m x := ⟨Nat.le_trans h.le hn, h.lo⟩
theorem Sm.fits {n : Nat} {x : Str} (h : Sm n x) (hn : n ≤ 1000) : x.length ≤ sizeLine := Nat.le_trans h.le (Nat.le_of_lt (small1000 hn))
theorem app_cps (x y : Str) : (x ++ y).cps.toList = x.cps.toList ++ y.cps.toList := by
  show (x.cps ++ y.cps).toList = _
  simp
theorem Sm.app {n m : Nat} {x y : Str} (h : Sm n x) (g : Sm m y) : Sm (n + m) (x ++ y) := by
  refine ⟨?_, fun c hc => ?_⟩
  · rw [Str.length_append]
    have := h.le
    have := g.le
    omega
  · rw [app_cps] at hc
    rcases List.mem_append.mp hc with z | z
    · exact h.lo c z
    · exact g.lo c z
theorem Sm.cut {n : Nat} {x : Str} (h : Sm n x) (lo hi : Option Int) : Sm n (cutS x lo hi) := by
  refine ⟨Nat.le_trans (cutS_length x lo hi) h.le, fun c hc => h.lo c ?_⟩
  unfold cutS at hc
  exact List.mem_of_mem_drop (List.mem_of_mem_take (by simpa using hc))
theorem Sm.up {n : Nat} {x : Str} (h : Sm n x) : Sm n (Txt.upper x) := by
  rw [upper_ascii h.lo]
  refine ⟨?_, fun c hc => ?_⟩
  · have := h.le
    show (x.cps.map up1).size ≤ n
    rw [Array.size_map]
    exact this
  · rw [Array.toList_map] at hc
    obtain ⟨b, hb, rfl⟩ := List.mem_map.mp hc
    have := h.lo b hb
    unfold up1
    split <;> omega
theorem Sm.of {x : Str} {n : Nat} (h : (decide (x.length ≤ n) && x.cps.toList.all fun c => decide (c < 128)) = true) : Sm n x := by
  rw [Bool.and_eq_true] at h
  exact ⟨of_decide_eq_true h.1, fun c hc => of_decide_eq_true (List.all_eq_true.mp h.2 c hc)⟩
theorem Sm.join : ∀ (ys : List Str), (∀ y ∈ ys, Sm 1 y) → Sm ys.length (Txt.join "" ys) := by
  intro ys h
  rw [show Txt.join "" ys = Str.join "" ys from StrLaws.glued_eq_join "" ys]
  refine ⟨?_, fun c hc => ?_⟩
  · have q := StrLaws.join_length_le "" ys
    have e0 : (("" : Str)).length = 0 := by decide +kernel
    have s : (ys.map (·.length)).sum ≤ ys.length := by
      clear q
      induction ys with
      | nil => exact Nat.le_refl _
      | cons y r ih =>
        have h1 := (h y List.mem_cons_self).le
        have h2 := ih fun z hz => h z (List.mem_cons_of_mem _ hz)
        simp only [List.map_cons, List.sum_cons, List.length_cons]
        omega
    rw [e0] at q
    exact Nat.le_trans q (by simpa using s)
  · have q := (mem_join "" c ys).mp hc
    rcases q with ⟨t, ht, hc⟩ | ⟨_, hc⟩
    · exact (h t ht).lo c hc
    · have e0 : (("" : Str)).cps.toList = [] := by decide +kernel
      rw [e0] at hc
      cases hc
mutual
theorem gd_lay : ∀ d : PyData, gd d = true → d.canLay0 = true
  | .none, _ => by simp only [PyData.canLay0]
  | .bool _, _ => by simp only [PyData.canLay0]
  | .int _, _ => by simp only [PyData.canLay0]
  | .str x, h => by
    simp only [gd, Bool.and_eq_true, List.all_eq_true, decide_eq_true_eq] at h
    simp only [PyData.canLay0, PyData.strOk, Array.all_eq_true]
    intro i hi
    exact decide_eq_true (Nat.lt_trans (h.2 _ (by simp)) (by decide))
  | .list ds, h => by
    simp only [PyData.canLay0]
    exact gds_lay ds (by simpa only [gd] using h)
  | .tuple ds, h => by
    simp only [PyData.canLay0]
    exact gds_lay ds (by simpa only [gd] using h)
  | .dict _, h => by simp [gd] at h
theorem gds_lay : ∀ ds : List PyData, gds ds = true → PyData.canLayAll0 ds = true
  | [], _ => by simp only [PyData.canLayAll0]
  | d :: ds, h => by
    simp only [gds, Bool.and_eq_true] at h
    simp only [PyData.canLayAll0, gd_lay d h.1, gds_lay ds h.2, Bool.and_self]
end
theorem shaped_of {d : PyData} (h : gd d = true) (hd : d.depth ≤ 64) : SeqAt.shaped d = true := by
  show (d.canLay0 && decide (d.depth ≤ 64)) = true
  rw [gd_lay d h, decide_eq_true hd]
  rfl
theorem Box.notin {H : Hp} {p g a : Addr} (b : Box H p g) (h : H a = none) : a ∉ [p, g] := by
  obtain ⟨n, s, t, gs, h1, h2, _⟩ := b.ex
  intro z
  rcases List.mem_cons.mp z with e | z
  · rw [e, h1] at h
    cases h
  · rcases List.mem_cons.mp z with e | z
    · rw [e, h2] at h
      cases h
    · cases z
/-- all of these are tracked -/
def Tr (l : List Addr) (H : Hp) : Prop := ∀ b ∈ l, H b ≠ none
theorem off_new {l : List Addr} {H H' : Hp} {a : Addr} {o : HO} (h : Off l H H') (n : a ∉ l) (hn : H a = none) : Off l H (upd H' a o) := by
  intro b u e
  obtain ⟨nb, e⟩ := cut_some e
  rw [cut_out nb, upd_ne (ne_of_none e hn)]
  exact h.get e nb
theorem Box.put {H : Hp} {p g a : Addr} {o : HO} (b : Box H p g) (n : a ∉ [p, g]) : Box (upd H a o) p g := by
  obtain ⟨x, s, t, gs, h1, h2, h3⟩ := b.ex
  exact ⟨x, s, t, gs, by rw [upd_ne (fun z => n (by simp [← z]))]; exact h1, by rw [upd_ne (fun z => n (by simp [← z]))]; exact h2, h3⟩
theorem few {n : Nat} (h : n ≤ 1000) : n ≤ sizeLine := Nat.le_of_lt (small1000 h)
theorem cut_new {l : List Addr} {H : Hp} {a : Addr} {o : HO} (h : H a = none) : Same (cut l H) (cut l (upd H a o)) := Off.of (same_new h o)
theorem Tr.go {l m : List Addr} {H H' : Hp} (t : Tr l H) (o : Off m H H') (hm : ∀ b ∈ m, H' b ≠ none) : Tr l H' := fun b hb => by
  by_cases e : b ∈ m
  · exact hm b e
  · intro z
    exact t b hb (o.free z e)
theorem Box.tr {H : Hp} {p g : Addr} (b : Box H p g) : H p ≠ none ∧ H g ≠ none := by
  obtain ⟨x, s, t, gs, h1, h2, _⟩ := b.ex
  constructor
  · rw [h1]
    exact fun z => nomatch z
  · rw [h2]
    exact fun z => nomatch z
theorem ne_mem {l : List Addr} {a b : Addr} (n : a ∉ l) (h : b ∈ l) : b ≠ a := fun e => n (by rw [← e]; exact h)
theorem few2 {n : Nat} (h : n ≤ 100000) : n ≤ sizeLine := Nat.le_trans h (by decide)
theorem Tr.out {l : List Addr} {H : Hp} (t : Tr l H) {a : Addr} (h : H a = none) : a ∉ l := fun z => t a z h
theorem Tr.same {l : List Addr} {H H' : Hp} (t : Tr l H) (s : Same H H') : Tr l H' := fun b hb z => by
  cases q : H b with
  | none => exact t b hb q
  | some o =>
    rw [s b o q] at z
    cases z
theorem seqT_cut {K : PySem.W.Frag} {l : List Addr} {H : Hp} {a : Addr} {xs : List V} (h : SqT K (cut l H) a xs) : SqT K H a xs := seqT_up (cut_same l H) h
theorem cutV_all (xs : List V) (lo hi : Option Int) (h : HT.sIx xs.length 0 lo = 0 ∧ HT.sIx xs.length xs.length hi = xs.length) : cutV xs lo hi = xs := by
  unfold cutV
  rw [h.1, h.2]
  simp
/-- t + u, what comes of it, apart from the addresses l -/
def rCatU (K : PySem.W.Frag) : R2 := fun x y H Q => ∃ a b xs ys l, x = .ref a ∧ y = .ref b ∧ SqT K (cut l H) a xs ∧ SqT K (cut l H) b ys ∧ Tr l H ∧ xs.length + ys.length ≤ sizeLine ∧
  ∀ c H', Same H H' → SqT K (cut l H') c (xs ++ ys) → Q (.ref c) H'
theorem op_catU {X : Cx} : OpR X (binaryOp .Add) (rCatU X.K) := by
  intro pins s σ H x y v u Q I rx ry h
  obtain ⟨a, b, xs, ys, l, rfl, rfl, ha, hb, tl, hz, q⟩ := h
  refine op_catA pins s σ H _ _ v u Q I rx ry ⟨a, b, xs, ys, rfl, rfl, seqT_cut ha, seqT_cut hb, hz, ?_, ?_, ?_⟩
  · intro e
    exact q b H (Same.refl H) (by rw [e]; exact hb)
  · intro _ e
    exact q a H (Same.refl H) (by rw [e, List.append_nil]; exact ha)
  · intro _ _ c hc
    exact q c _ (same_new hc _) (.inl (.inl (by rw [cut_out (tl.out hc)]; exact upd_same)))
def rSlU (K : PySem.W.Frag) : V → Option Int → Option Int → Hp → VK → Prop := fun x lo hi H Q => ∃ a xs l, x = .ref a ∧ SqT K (cut l H) a xs ∧ Tr l H ∧
  ∀ c H', Same H H' → SqT K (cut l H') c (cutV xs lo hi) → Q (.ref c) H'
theorem sl_tupU {X : Cx} : SlR X (rSlU X.K) := by
  intro pins s σ H x v vl vu lo hi sl Q I rx hs pl pu h
  obtain ⟨a, xs, l, rfl, ha, tl, q⟩ := h
  refine sl_tupA pins s σ H _ v vl vu lo hi sl Q I rx hs pl pu ⟨a, xs, rfl, seqT_cut ha, ?_, ?_⟩
  · intro e
    exact q a H (Same.refl H) (by rw [cutV_all xs lo hi e]; exact ha)
  · intro _ c hc
    exact q c _ (same_new hc _) (.inl (.inl (by rw [cut_out (tl.out hc)]; exact upd_same)))
theorem cutV_take (xs : List V) {r : Int} (h0 : 0 ≤ r) (h : r ≤ (xs.length : Int)) : cutV xs none (some r) = xs.take r.toNat := by
  obtain ⟨n, rfl⟩ := Int.eq_ofNat_of_zero_le h0
  unfold cutV
  rw [HT.sIx_none, HT.sIx_nat]
  have : min n xs.length = n := by omega
  rw [this]
  rfl
theorem cutV_drop (xs : List V) {r : Int} (h0 : 0 ≤ r) (h : r ≤ (xs.length : Int)) : cutV xs (some r) none = xs.drop r.toNat := by
  obtain ⟨n, rfl⟩ := Int.eq_ofNat_of_zero_le h0
  unfold cutV
  rw [HT.sIx_none, HT.sIx_nat]
  have : min n xs.length = n := by omega
  rw [this]
  exact List.take_of_length_le (by rw [List.length_drop]; exact Nat.le_refl _)
/-! errors under KeyError, too: what the base says -/
abbrev keT : List Value := [.type "KeyError", .type "LookupError", .type "Exception", .type "BaseException", .type "object"]
abbrev veT : List Value := [.type "ValueError", .type "Exception", .type "BaseException", .type "object"]
theorem ke_pass (self : Value) : refuseLoop self "__setattr__" keT = pure () := by kernel_rfl
theorem ve_pass (self : Value) : refuseLoop self "__setattr__" veT = pure () := by kernel_rfl
/-- own classes, then T -/
def tlB (T : List Value) : List Value → Bool
  | .ref _ :: r => tlB T r
  | l => l == T
theorem tl_cases (T : List Value) : ∀ l : List Value, tlB T l = true → (∃ c r, l = .ref c :: r ∧ tlB T r = true) ∨ l = T
  | [], e => .inr (beq_iff_eq.mp e)
  | .ref c :: r, e => .inl ⟨c, r, rfl, e⟩
  | .none :: _, e => .inr (beq_iff_eq.mp e)
  | .ellipsis :: _, e => .inr (beq_iff_eq.mp e)
  | .notImplemented :: _, e => .inr (beq_iff_eq.mp e)
  | .bool _ :: _, e => .inr (beq_iff_eq.mp e)
  | .int _ _ :: _, e => .inr (beq_iff_eq.mp e)
  | .float _ _ :: _, e => .inr (beq_iff_eq.mp e)
  | .str _ _ :: _, e => .inr (beq_iff_eq.mp e)
  | .bytes _ _ :: _, e => .inr (beq_iff_eq.mp e)
  | .type _ :: _, e => .inr (beq_iff_eq.mp e)
  | .builtin _ :: _, e => .inr (beq_iff_eq.mp e)
section
variable {T : List Value}
theorem tl_ind {P : List Value → Prop} (h0 : P T) (hs : ∀ c r, P r → P (.ref c :: r)) : ∀ l : List Value, tlB T l = true → P l := by
  intro l
  induction l with
  | nil =>
    intro e
    rcases tl_cases T [] e with ⟨c, r, q, _⟩ | q
    · cases q
    · rw [q]
      exact h0
  | cons a r ih =>
    intro e
    rcases tl_cases T (a :: r) e with ⟨c, r', q, h⟩ | q
    · obtain ⟨rfl, rfl⟩ := List.cons.inj q
      exact hs _ _ (ih h)
    · rw [q]
      exact h0
theorem tl_pass (self : Value) (h0 : refuseLoop self "__setattr__" T = pure ()) : ∀ l : List Value, tlB T l = true → refuseLoop self "__setattr__" l = pure () :=
  tl_ind h0 fun c r ih => by
    rw [refuseLoop_ref]
    exact ih
theorem tl_has (x : String) : ∀ l : List Value, tlB T l = true → l.contains (.type x) = T.contains (.type x) :=
  tl_ind rfl fun c r ih => by
    rw [List.contains_cons, ih]
    rfl
theorem tl_ne (h0 : T.isEmpty = false) : ∀ l : List Value, tlB T l = true → l.isEmpty = false := tl_ind h0 fun c r ih => rfl
end
/-- what is said of the two bases: the id that makes, its owner, the rest of the order of classes -/
structure EBase (B newId initId : String) (bmF T : List Value) : Prop where
  F : ExcBaseFacts B newId initId bmF
  hasB : T.contains (.type B) = true
  noA : T.contains (.type "AttributeError") = false
  noN : T.contains (.type "NameError") = false
  ob : T.contains (.type "object") = true
  ne : T.isEmpty = false
  pass : ∀ self, refuseLoop self "__setattr__" T = pure ()
theorem eb_ve : EBase "ValueError" "ValueError.__new__" "ValueError.__init__" veT veT := ⟨PySem.F.excBase_ValueError, by decide +kernel, by decide +kernel, by decide +kernel, by decide +kernel, rfl, ve_pass⟩
theorem eb_ke : EBase "LookupError" "LookupError.__new__" "LookupError.__init__" [.type "LookupError", .type "Exception", .type "BaseException", .type "object"] keT := ⟨PySem.F.excBase_LookupError, by decide +kernel, by decide +kernel, by decide +kernel, by decide +kernel, rfl, ke_pass⟩
section
variable {M : Model} {A : Around} {E : Value → Shared → Prop} {h : Heap} {g : Array GenState} {d : Drawn} {t : Nat} {os : OsState}
variable {nm q : Str} {C N : Addr} {bs bm bmF T : List Value} {hdct : Bool} {sn : List Str} {sub : List Value} {ab : Bool} {col : Option Bool} {dd : Option Addr} {k0 k1 k2 k3 k5 : Option Value} {B newId initId : String}
theorem e_check (F : EBase B newId initId bmF T) (ht : tlB T bm = true) {rest : List Value} {kw : List (Str × Value)} {Q : Unit → Shared → Prop}
    (hC : h.get? C = some (excClassObj nm q C N bs bm hdct sn sub ab col dd k0 k1 k2 k3 k5 newId)) (hq : Q () ⟨h, g, d, t, os⟩) : wpAny M A (checkBuiltinCall newId ⟨.ref C :: rest, kw⟩) Q E ⟨h, g, d, t, os⟩ := by
  have hcont : (Value.ref C :: bm).contains (.type B) = true := by rw [List.contains_cons, tl_has B bm ht, F.hasB, Bool.or_true]
  have hstar := F.F.noStar
  simp only [checkBuiltinCall, F.F.newKind, F.F.newSplit, F.F.newRow]
  repeat (first | refine wpAny_loadPart_at hC ?_ | (refine wpAny_isSubtype_exc hC ?_; rw [hcont]) | refine wpAny_staticBase_exc hC ?_ | (refine wpAny_madeBy_exc hC ?_) | simp only [bne_self_eq_false, Bool.false_eq_true, if_false] | wp_step)
  exact hq
theorem e_checkT {rest : List Value} {kw : List (Str × Value)} {Q : Unit → Shared → Prop} (hC : h.get? C = some (excClassObj nm q C N bs bm hdct sn sub ab col dd k0 k1 k2 k3 k5 newId))
    (hq : Q () ⟨h, g, d, t, os⟩) : wpAny M A (checkBuiltinCall "type.__call__" ⟨.ref C :: rest, kw⟩) Q E ⟨h, g, d, t, os⟩ := by
  have f3 := tc_sub
  have hT : (⟨h, g, d, t, os⟩ : Shared).TypeIs (.ref C) "type" := ⟨_, hC, rfl⟩
  simp only [checkBuiltinCall, tc_kind, tc_split]
  repeat (any_goals (first | (assumption) | with_reducible refine wpAny_loadPart_at hC ?_ | with_reducible refine wpAny_onRaise ?_ | with_reducible refine wpAny_map ?_ | wp_step))
end
section
variable {prog : Program} {w : World} {A : Around} {E : Value → Shared → Prop} {R : Result → Shared → Prop} {h : Heap} {g : Array GenState} {d : Drawn} {t : Nat} {os : OsState}
variable {nm q : Str} {C N : Addr} {bs bm bmF T : List Value} {hdct : Bool} {sn : List Str} {sub : List Value} {ab : Bool} {col : Option Bool} {dd : Option Addr} {k0 k1 k2 k3 k5 : Option Value} {B newId initId : String}
theorem e_new (F : EBase B newId initId bmF T) (ht : tlB T bm = true) {rest : List Value} {kw : List (Str × Value)}
    (hC : h.get? C = some (excClassObj nm q C N bs bm hdct sn sub ab col dd k0 k1 k2 k3 k5 newId))
    (hq : R (.ok (.ret (.ref (h.objs.size + 1)))) ⟨(h.push (W.kdv_tup rest)).push (HandSPX.excO C h.objs.size), g, d, t, os⟩) (hrest : rest.length ≤ sizeLine) :
    codeAny (model prog w) A (.builtin newId ⟨.ref C :: rest, kw⟩) R ⟨h, g, d, t, os⟩ := by
  have hends := F.F.ends
  have hcB : (Value.ref C :: bm).contains (.type B) = true := by rw [List.contains_cons, tl_has B bm ht, F.hasB, Bool.or_true]
  have hcA : (Value.ref C :: bm).contains (.type "AttributeError") = false := by rw [List.contains_cons, tl_has _ bm ht, F.noA]; rfl
  have hcN : (Value.ref C :: bm).contains (.type "NameError") = false := by rw [List.contains_cons, tl_has _ bm ht, F.noN]; rfl
  refine codeAny_builtinAt F.F.entry ?_
  unfold Builtin.«BaseException.__new__»
  refine PySem.wpAt_bind ?_
  show PySem.wpAt _ _ _ (stack >>= _) _ _ _
  refine PySem.wpAt_bind (PySem.wpAt_stack (fun p below => PySem.wpAt_of_wpAny ?_))
  wp_walk
  refine PySem.wpAt_of_wpAny ?_
  rw [F.F.owner]
  repeat (first | with_reducible refine wpAny_madeHere_exc F.F.canon hC ?_ | with_reducible refine wpAny_loadPart_at hC ?_ | (with_reducible refine wpAny_isSubtype_exc hC ?_; first | rw [hcB] | rw [hcA] | rw [hcN]) | wp_step)
  show R _ _
  rw [Heap.size_push]
  exact hq
theorem e_tcall (F : EBase B newId initId bmF T) (ht : tlB T bm = true) {rest : List Value} {kw : List (Str × Value)} {fI : Addr} {Q : Fin → Shared → Prop}
    (hC : h.get? C = some (excClassObj nm q C N bs bm hdct sn sub ab col dd k0 k1 k2 k3 k5 newId))
    (hi : W.Looks (model prog w) h (typeLookup (.ref C) "__init__") (some (.ref fI))) (hb : ∀ self, W.Looks (model prog w) h (bindSpecial (.ref fI) self) (.ref fI, [self])) (hrest : rest.length ≤ sizeLine)
    (hq : codeAny (model prog w) A (.call (.ref fI) ⟨.ref (h.objs.size + 1) :: rest, kw⟩)
      (fun r s' => match r with | .ok (.ret v) => v = .none ∧ Q (.done (.ret (.ref (h.objs.size + 1)))) s' | .ok _ => False | .error e => E e s')
      ⟨(h.push (W.kdv_tup rest)).push (HandSPX.excO C h.objs.size), g, d, t, os⟩) :
    wpAny (model prog w) A (Builtin.«type.__call__» ⟨.ref C :: rest, kw⟩) Q E ⟨h, g, d, t, os⟩ := by
  repeat (first | with_reducible refine wpAny_loadPart_at hC ?_ | with_reducible refine wpAny_madeBy_exc hC ?_ | wp_step)
  refine codeAny_call_builtin_code (Code.quiet_builtin _ F.F.quiet) (e_check F ht hC ?_)
  refine e_new F ht hC ?_ hrest
  show wpAny _ _ _ _ _ _
  have k : ∀ b o, h.get? b = some o → ((h.push (W.kdv_tup rest)).push (HandSPX.excO C h.objs.size)).get? b = some o := fun b o e => Heap.get?_push_of_some _ (Heap.get?_push_of_some _ e)
  have hC₁ := k _ _ hC
  have hget : ((h.push (W.kdv_tup rest)).push (HandSPX.excO C h.objs.size)).get? (h.objs.size + 1) = some (HandSPX.excO C h.objs.size) := by heap_get
  have hcC : (Value.ref C :: bm).contains (.ref C) = true := by simp
  have i1 := hi.keeps k
  have b1 := (hb (.ref (h.objs.size + 1))).keeps k
  unfold isInstance
  repeat (first | with_reducible refine wpAny_loadPart_at hget ?_ | (with_reducible refine wpAny_isSubtype_exc hC₁ ?_; (rw [hcC])) | wp_step)
  show wpAny _ _ (typeLookup (.ref C) _) _ _ _
  refine i1.at ?_
  refine wpAny_holding (wpAny_bind (b1.at ?_))
  refine wpAny_bind (wpAny_call (codeAny_mono hq (fun r s' z => ?_)))
  rcases r with e | (v | _ | _ | _) <;> first | exact z | exact z.elim | skip
  obtain ⟨rfl, z⟩ := z
  first
    | exact wpAny_pure (wpAny_pure z)
    | (wp_walk; exact z)
theorem e_call (F : EBase B newId initId bmF T) (ht : tlB T bm = true) {rest : List Value} {kw : List (Str × Value)} {fI : Addr}
    (hC : h.get? C = some (excClassObj nm q C N bs bm hdct sn sub ab col dd k0 k1 k2 k3 k5 newId))
    (hi : W.Looks (model prog w) h (typeLookup (.ref C) "__init__") (some (.ref fI))) (hb : ∀ self, W.Looks (model prog w) h (bindSpecial (.ref fI) self) (.ref fI, [self])) (hrest : rest.length ≤ sizeLine)
    (hq : codeAny (model prog w) (A.under (.builtin "type.__call__" ⟨.ref C :: rest, kw⟩)) (.call (.ref fI) ⟨.ref (h.objs.size + 1) :: rest, kw⟩) (W.InitBack (h.objs.size + 1) R)
      ⟨(h.push (W.kdv_tup rest)).push (HandSPX.excO C h.objs.size), g, d, t, os⟩) :
    codeAny (model prog w) A (.call (.ref C) ⟨rest, kw⟩) R ⟨h, g, d, t, os⟩ := by
  have f1 := tc_lookup
  have f2 := tc_bind (.ref C)
  have hTy : (⟨h, g, d, t, os⟩ : Shared).TypeIs (.ref C) "type" := ⟨_, hC, rfl⟩
  refine codeAny_of_tree ?_
  show wpAny _ _ (callAny (.ref C) _) _ _ _
  repeat (any_goals (first | assumption | with_reducible refine wpAny_loadPart_at hC ?_ | wp_step))
  refine ⟨rfl, ?_⟩
  refine codeAny_call_builtin_at (Code.quiet_builtin _ (by decide +kernel)) entry_typeCall (e_checkT hC (e_tcall F ht hC hi hb hrest ?_))
  refine codeAny_mono hq (fun r s' z => ?_)
  rcases r with e | (v | _ | _ | _) <;> exact z
end
/-! errors under ValueError or KeyError, with an __init__ of their own: made, kept as values, looked at -/
section
open PySem.W PySem.Calls
variable {prog : Program} {w : World} {A : Around} {E : Value → Shared → Prop} {R : Result → Shared → Prop} {hp : Heap} {g : Array GenState} {d : Drawn} {t : Nat} {os : OsState}
theorem e_osa {K : W.Frag} {name : Str} {tk : Tok} {v : Value} {x C : Addr} {fv : Array Value} {cd : ClassData} (X : K.In hp) (hx : hp.get? x = some { cls := .ref C, data := .fields fv }) (hcd : W.clsIn K C = some cd)
    (hps : ∀ self, refuseLoop self "__setattr__" cd.mro = pure ()) (ne : cd.mro.isEmpty = false) (hob : cd.mro.contains (.type "object") = true) (hh : cd.hasDict = true) (ha : W.findIn K (.ref C) name = some none)
    (hq : ∀ h' tk' dx, (∀ b o, b ≠ x → hp.get? b = some o → h'.get? b = some o) → hp.objs.size ≤ dx → dx ≠ x → h'.get? x = some { cls := .ref C, dict := some dx, data := .fields fv } →
      h'.Ns1 dx (fun y => if y = name then some v else none) → R (.ok (.ret .none)) ⟨h', g, d, tk', os⟩) :
    codeAny (model prog w) A (.call (.builtin "object.__setattr__") ⟨[.ref x, .str name tk, v], []⟩) R ⟨hp, g, d, t, os⟩ := by
  have I : W.InstAt hp x { cls := .ref C, data := .fields fv } C none := ⟨hx, rfl, rfl, trivial⟩
  have SF := F.store_object
  have hxs : x ≠ hp.objs.size := Nat.ne_of_lt (Heap.lt_size hx)
  have sub : W.Looks (model prog w) hp (isInstance (.ref x) (.type "object")) true := I.type.andThen (W.looks_mroIn X (by unfold W.mroIn; rw [hcd, Option.bind_some, if_neg (by rw [ne]; decide), hob]))
  refine codeAny_call_builtin SF.slot.plain SF.entry (@W.check_slot (model prog w) _ _ ⟨hp, g, d, t, os⟩ "object.__setattr__" "object" "__setattr__" (.ref x) [.str name tk, v] [] _ SF.kind SF.split sub (SF.args (.ref x) (.str name tk) v) ?_)
  have hmr : W.Looks (model prog w) hp (mroOf (.ref C)) cd.mro := (W.looks_clsIn X hcd).andThen .now
  have L3 : W.Looks (model prog w) hp (Builtin.ObjectAttr.storeTaker? none) none := .now
  have hcls : W.Looks (model prog w) hp (classData C) cd := W.looks_clsIn X hcd
  rw [W.osa_eq, refuse_eq]
  refine wpAny_bind (wpAny_bind (I.type.at (wpAny_bind (hmr.at ?_))))
  rw [hps]
  refine wpAny_pure (wpAny_bind (I.type.at (wpAny_bind ((W.looks_findIn X ha).at (wpAny_bind (L3.at ?_))))))
  show wpAny _ _ (Builtin.ObjectAttr.storeInOwnDict (.ref x) (.ref C) (.str name tk) name v false) _ _ _
  obtain ⟨nm, bs, mro, ns, qn, hd, sn, sb, ab, col, del⟩ := cd
  dsimp only at hh
  subst hh
  unfold Builtin.ObjectAttr.storeInOwnDict Builtin.ObjectAttr.ownDictForStores
  repeat (first | with_reducible refine HandSPX.store_in_new ?_ ?_ | with_reducible refine wpAny_loadPart_at hx ?_ | with_reducible refine hcls.at ?_ | wp_step)
  · exact ⟨_, #[], _, (Heap.get?_update_ne _ _ _ _ hxs.symm).trans (Heap.get?_push_at rfl rfl), rfl, (fun e he => absurd he (by simp)), fun _ => rfl⟩
  · intro h' tk' hn' hs
    have hx₁ : (hp.push { cls := .type "dict", data := .dict #[] }).get? x = some { cls := .ref C, data := .fields fv } := Heap.get?_push_of_some _ hx
    refine hq h' tk' hp.objs.size (fun b o hb ho => ?_) (Nat.le_refl _) hxs.symm ?_ hn'
    · exact (hs.2 b (Nat.ne_of_lt (Heap.lt_size ho))).trans ((Heap.get?_update_ne _ _ _ _ hb).trans (Heap.get?_push_of_some _ ho))
    · exact (hs.2 x hxs).trans (Heap.get?_update_self _ hx₁ rfl)
theorem e_osb {K : W.Frag} {name : Str} {tk : Tok} {v : Value} {x C dx : Addr} {fv : Array Value} {cd : ClassData} {m0 : Str → Option Value} {nl : List Str} (X : K.In hp) (hx : hp.get? x = some { cls := .ref C, dict := some dx, data := .fields fv })
    (hns : hp.Ns1 dx m0) (hw : Within m0 nl) (hz : nl.length ≤ 1000) (hcd : W.clsIn K C = some cd)
    (hps : ∀ self, refuseLoop self "__setattr__" cd.mro = pure ()) (ne : cd.mro.isEmpty = false) (hob : cd.mro.contains (.type "object") = true) (hh : cd.hasDict = true) (ha : W.findIn K (.ref C) name = some none)
    (hq : ∀ h' tk', (∀ b o, b ≠ dx → hp.get? b = some o → h'.get? b = some o) → h'.Ns1 dx (fun y => if y = name then some v else m0 y) → R (.ok (.ret .none)) ⟨h', g, d, tk', os⟩) :
    codeAny (model prog w) A (.call (.builtin "object.__setattr__") ⟨[.ref x, .str name tk, v], []⟩) R ⟨hp, g, d, t, os⟩ := by
  obtain ⟨oD, esD, epD, hoD, hdD, _⟩ := hns.count hw
  have I : W.InstAt hp x { cls := .ref C, dict := some dx, data := .fields fv } C (some oD) := ⟨hx, rfl, rfl, hoD⟩
  have SF := F.store_object
  have sub : W.Looks (model prog w) hp (isInstance (.ref x) (.type "object")) true := I.type.andThen (W.looks_mroIn X (by unfold W.mroIn; rw [hcd, Option.bind_some, if_neg (by rw [ne]; decide), hob]))
  refine codeAny_call_builtin SF.slot.plain SF.entry (@W.check_slot (model prog w) _ _ ⟨hp, g, d, t, os⟩ "object.__setattr__" "object" "__setattr__" (.ref x) [.str name tk, v] [] _ SF.kind SF.split sub (SF.args (.ref x) (.str name tk) v) ?_)
  have hmr : W.Looks (model prog w) hp (mroOf (.ref C)) cd.mro := (W.looks_clsIn X hcd).andThen .now
  have L3 : W.Looks (model prog w) hp (Builtin.ObjectAttr.storeTaker? none) none := .now
  have hcls : W.Looks (model prog w) hp (classData C) cd := W.looks_clsIn X hcd
  rw [W.osa_eq, refuse_eq]
  refine wpAny_bind (wpAny_bind (I.type.at (wpAny_bind (hmr.at ?_))))
  rw [hps]
  refine wpAny_pure (wpAny_bind (I.type.at (wpAny_bind ((W.looks_findIn X ha).at (wpAny_bind (L3.at ?_))))))
  show wpAny _ _ (Builtin.ObjectAttr.storeInOwnDict (.ref x) (.ref C) (.str name tk) name v false) _ _ _
  obtain ⟨nm, bs, mro, ns, qn, hd, sn, sb, ab, col, del⟩ := cd
  dsimp only at hh
  subst hh
  unfold Builtin.ObjectAttr.storeInOwnDict Builtin.ObjectAttr.ownDictForStores
  repeat (first | with_reducible refine OEX.store_in_old hns hw hz ?_ | with_reducible refine wpAny_loadPart_at hx ?_ | with_reducible refine hcls.at ?_ | wp_step)
  intro h' tk' hn' hs
  exact hq h' tk' (fun b o hb ho => (hs.2 b hb).trans ho) hn'
end
/-- what the written part says of an own error class that has an __init__ -/
structure ExK (K : PySem.W.Frag) (C : Addr) : Prop where
  cls : ∃ B newId initId bmF T nm q N bs bm sn sub ab col dd k0 k1 k2 k3 k5, EBase B newId initId bmF T ∧ K.lookup C = some (excClassObj nm q C N bs bm true sn sub ab col dd k0 k1 k2 k3 k5 newId) ∧ tlB T bm = true
  sa : PySem.W.findIn K (.ref C) "__setattr__" = some (some (.builtin "object.__setattr__"))
  exC : PySem.W.subIn K (.ref C) (.type "BaseException") = some true
  tyC : PySem.W.typeIn K (.ref C) = some (.type "type")
  kC : PySem.W.keepIn K (.ref C) = true
theorem ExK.cd {K : PySem.W.Frag} {C : Addr} (T : ExK K C) : ∃ cd, PySem.W.clsIn K C = some cd ∧ (∀ self, refuseLoop self "__setattr__" cd.mro = pure ()) ∧ cd.mro.isEmpty = false ∧ cd.mro.contains (.type "object") = true ∧ cd.hasDict = true := by
  obtain ⟨B, newId, initId, bmF, T0, nm, q, N, bs, bm, sn, sub, ab, col, dd, k0, k1, k2, k3, k5, F, hC, hbm⟩ := T.cls
  have h2 : tlB T0 (.ref C :: bm) = true := hbm
  exact ⟨{ name := nm, bases := bs, mro := .ref C :: bm, ns := N, qualname := q, hasDict := true, slotNames := sn, subclasses := sub, abstract := ab, collection := col, hasDel := false }, by (unfold PySem.W.clsIn; rw [hC] <;> rfl),
    fun self => tl_pass self (F.pass self) _ h2, rfl, (tl_has "object" _ h2).trans F.ob, rfl⟩
section
variable {X : Cx} {pins : List (Addr × Obj)} {σ : L2.St} {H : Hp} {s : Shared} {a C dx : Addr} {f : Str} {y : V} {u : Value} {fs : List (Str × V)} {Q : Unit → Shared → Prop} {E : Value → Shared → Prop} {A : Around}
/-- the first attribute -/
theorem e_st1 (T : ExK X.K C) (I : Inv X pins σ H s) (e : H a = some (exo a C none)) (hno : PySem.W.findIn X.K (.ref C) f = some none) (ry : RelV y u)
    (h : ∀ dx s', H dx = none → dx ≠ a → Inv X pins σ (upd (upd H dx (exd dx [(f, y)])) a (exo a C (some dx))) s' → Q () s') : wpAny (model X.prog X.w) A (setAttr (.ref a) f u) Q E s := by
  obtain ⟨cd, hcl, hp0, hne, hob, hdc⟩ := T.cd
  obtain ⟨t1, ho⟩ := exo_at I.hok e
  obtain ⟨hp, g, d, t, os⟩ := s
  refine PySem.W.set_plain I.kIn (ox := { cls := .ref C, dict := none, data := .fields #[.ref t1, .none, .none, .none, .bool false, .none] }) (od := none) ⟨ho, rfl, rfl, trivial⟩ T.sa ?_
  refine e_osa I.kIn ho hcl hp0 hne hob hdc hno (fun h' tk' dx k dn dne hx hn => ?_)
  have hnd : H dx = none := I.hok.fresh dn
  have nd : ∀ {b : Addr} {o : Obj}, hp.get? b = some o → b ≠ dx := fun {b o} q => Nat.ne_of_lt (Nat.lt_of_lt_of_le (Heap.lt_size q) dn)
  have na : ∀ {b : Addr}, H b = none → b ≠ a := fun {b} n z => by
    rw [z, e] at n
    cases n
  have Un1 : Un X.fs [] H (upd (upd H dx (exd dx [(f, y)])) a (exo a C (some dx))) hp h' := ⟨fun b o q n _ _ => k b o (na n) q, fun b o q n _ _ => ⟨o.slots, k b o (na n) q⟩,
    fun b o q n _ => by (rw [upd_ne (na n), upd_ne (nd q)]; exact n),
    fun b o q _ => by
      by_cases hb : b = a
      · exact ⟨_, by (rw [hb]; exact hx)⟩
      · exact ⟨o, k b o hb q⟩,
    fun b xs q => by (rw [upd_ne (at_ne e q exo_tup), upd_ne (ne_of_none q hnd)]; exact q),
    fun b o v q => by (rw [upd_ne (at_ne e q exo_frz), upd_ne (ne_of_none q hnd)]; exact q),
    fun b ps q => ⟨#[], by (rw [upd_ne (at_ne e q exo_tbl), upd_ne (ne_of_none q hnd), q]; simp)⟩⟩
  refine h dx _ hnd dne (I.un (t' := tk') Un1 (fun b o q => ?_))
  by_cases hb : b = a
  · subst hb
    rw [upd_same] at q
    cases q
    exact exo_ok hx
  · rw [upd_ne hb] at q
    by_cases hd : b = dx
    · subst hd
      rw [upd_same] at q
      cases q
      exact exd_ok hn (relO_put (fs := []) ry (fun g => True.intro))
    · rw [upd_ne hd] at q
      refine (I.hok b o q).stay (fun c v hc z => k c v ?_ z) (fun c hc => ?_) (fun c xs hc => ?_)
      · rcases hc with hc | hc
        · rw [hc]
          exact hb
        · exact at_ne e hc exo_own
      · rw [upd_ne (at_ne e hc exo_own), upd_ne (ne_of_none hc hnd)]
        exact hc
      · rw [upd_ne (at_ne e hc exo_tup), upd_ne (ne_of_none hc hnd)]
        exact hc
/-- a further attribute -/
theorem e_st2 (T : ExK X.K C) (I : Inv X pins σ H s) (e : H a = some (exo a C (some dx))) (ed : H dx = some (exd dx fs)) (hl : fs.length ≤ 900) (hno : PySem.W.findIn X.K (.ref C) f = some none) (ry : RelV y u)
    (h : ∀ s', Inv X pins σ (upd H dx (exd dx ((f, y) :: fs))) s' → Q () s') : wpAny (model X.prog X.w) A (setAttr (.ref a) f u) Q E s := by
  obtain ⟨cd, hcl, hp0, hne, hob, hdc⟩ := T.cd
  obtain ⟨t1, ho⟩ := exo_at I.hok e
  obtain ⟨mA, hns, rel⟩ := exd_at I.hok ed
  have hw := within_of rel
  obtain ⟨hp, g, d, t, os⟩ := s
  obtain ⟨oD, _, _, hoD, _, _⟩ := hns.count hw
  refine PySem.W.set_plain I.kIn (ox := { cls := .ref C, dict := some dx, data := .fields #[.ref t1, .none, .none, .none, .bool false, .none] }) (od := some oD) ⟨ho, rfl, rfl, hoD⟩ T.sa ?_
  refine e_osb I.kIn ho hns hw (by (rw [List.length_map]; omega)) hcl hp0 hne hob hdc hno (fun h' tk' k hn => ?_)
  have hd : ∃ o, h'.get? dx = some o := by
    obtain ⟨o, _, _, e', _⟩ := hn
    exact ⟨o, e'⟩
  exact h _ (I.write (t' := tk') (x := dx) (e := dx) (o := exd dx ((f, y) :: fs)) (by rw [ed]; exact True.intro) (.inl rfl) k hd (exd_ok hn (relO_put ry rel)))
end
/-- self.f = e -/
def tOsK (K : PySem.W.Frag) (f : Str) (to te : TE) : TS := fun D σ H => te σ H fun y H1 => to σ H1 fun x H2 => ∃ a C : Addr, x = .ref a ∧ ExK K C ∧ PySem.W.findIn K (.ref C) f = some none ∧
  ((H2 a = some (exo a C none) ∧ ∀ dx, H2 dx = none → dx ≠ a → D.nx σ (upd (upd H2 dx (exd dx [(f, y)])) a (exo a C (some dx)))) ∨
    ∃ (dx : Addr) (fs : List (Str × V)), H2 a = some (exo a C (some dx)) ∧ H2 dx = some (exd dx fs) ∧ fs.length ≤ 900 ∧ D.nx σ (upd H2 dx (exd dx ((f, y) :: fs))))
/-- C(e, ..), kept as a value -/
def tMkE (C : Addr) (sp : Sp) (ta : TA) : TE := fun σ H Q => ta σ H fun vs H1 => vs.length ≤ 900 ∧ ∀ a, H1 a = none → sp (.ref a :: vs) (upd H1 a (exo a C none)) (fun v H2 => v = .non ∧ Q (.ref a) H2) fun _ _ _ => False
/-- C(k = v, ..) -/
def tMkEK (C : Addr) (m : Nat) (sp : Sp) (gV : List V → List V → List V) (tk : TA) : TE := fun σ H Q => tk σ H fun zs H1 => zs.length = m ∧ ∀ a, H1 a = none → sp (gV [.ref a] zs) (upd H1 a (exo a C none)) (fun v H2 => v = .non ∧ Q (.ref a) H2) fun _ _ _ => False
section
variable {X : Cx} {CX : CXT} {k : Nat} {C fI : Addr} {fd : FuncData} {ps ks : List Str} {sp : Sp} {o e : Expr} {es : List Expr} {to te : TE} {ta tk : TA} {f x : Str} {p p' pos : Pos} {g : List Value → List Value → List Value} {gV : List V → List V → List V} {kws : List Keyword}
theorem ps_osK (ho : PE X o to) (he : PE X e te) (hs : swapsWith e (some (.Attribute o f p')) pos.line X.env = pure false := by rfl) : PS X (.Assign [.Attribute o f p'] e pos) (tOsK X.K f to te) := by
  refine ⟨fun pins s σ H D I h => ?_⟩
  refine plainObj_wpAny_Assign_Attribute (thn (he.run pins s σ H _ I h) fun v s1 ⟨y, H1, I1, r1, q1⟩ => thn (ho.run pins s1 σ H1 _ I1 q1) fun u s2 ⟨x, H2, I2, r2, a, C, ex, T, hno, q⟩ => ?_) hs
  subst ex
  obtain rfl : u = Value.ref a := r2
  rcases q with ⟨ea, q⟩ | ⟨dx, fs, ea, ed, hl, q⟩
  · exact e_st1 T I2 ea hno r1 (fun dx s' n ne J => ⟨σ, _, J, q dx n ne⟩)
  · exact e_st2 T I2 ea ed hl hno r1 (fun s' J => ⟨σ, _, J, q⟩)
/-- the class is called -/
theorem run_mkE {pins : List (Addr × Obj)} {σ : L2.St} {H : Hp} {s : Shared} {Q : VK} {us : List Value} {kw : List (Str × Value)} {xs : Addr → List Value} {vs : Addr → List V} (T : ExK X.K C) (iC : PySem.W.findIn X.K (.ref C) "__init__" = some (some (.ref fI)))
    (tI : PySem.W.typeIn X.K (.ref fI) = some (.type "function")) (F1 : FnOk X.prog X.w X.K X.mg X.base CX k fI fd ps sp) (hr : Room (k + 1) X.A) (hx : Passes CX X (fun _ _ _ => False)) (I : Inv X pins σ H s) (hus : us.length ≤ 900)
    (hb : ∀ (s' : Shared) a, X.K.In s'.heap → BindsTo s' fd ⟨.ref a :: us, kw⟩ (ps.zip (xs a))) (r : ∀ a, Vals (vs a) (xs a))
    (h : ∀ a, H a = none → sp (vs a) (upd H a (exo a C none)) (fun v H2 => v = .non ∧ Q (.ref a) H2) fun _ _ _ => False) : wpAny (model X.prog X.w) X.A (call (.ref C) us kw) (EP X pins σ Q) X.xe s := by
  obtain ⟨B, newId, initId, bmF, T0, nm, q, N, bs, bm, sn, sub, ab, col, dd, k0, k1, k2, k3, k5, F, hC, hbm⟩ := T.cls
  obtain ⟨hp, g, dr, tk, os⟩ := s
  have hsz : hp.objs.size ≤ hp.objs.size + 1 := Nat.le_succ _
  have hn : H (hp.objs.size + 1) = none := I.hok.fresh hsz
  have hq := h (hp.objs.size + 1) hn
  have kk : ∀ b o, hp.get? b = some o → ((hp.push (PySem.W.kdv_tup us)).push (PySem.HandSPX.excO C hp.objs.size)).get? b = some o := fun b o e => Heap.get?_push_of_some _ (Heap.get?_push_of_some _ e)
  have hget : ((hp.push (PySem.W.kdv_tup us)).push (PySem.HandSPX.excO C hp.objs.size)).get? (hp.objs.size + 1) = some (PySem.HandSPX.excO C hp.objs.size) := by heap_get
  have I2 : Inv X pins σ (upd H (hp.objs.size + 1) (exo (hp.objs.size + 1) C none)) ⟨(hp.push (PySem.W.kdv_tup us)).push (PySem.HandSPX.excO C hp.objs.size), g, dr, tk, os⟩ :=
    I.laid (t' := tk) (a := hp.objs.size + 1) (o := exo (hp.objs.size + 1) C none) (h' := (hp.push (PySem.W.kdv_tup us)).push (PySem.HandSPX.excO C hp.objs.size)) kk hsz (exo_ok hget)
  refine wpAny_call (e_call F hbm (I.kIn _ _ hC) (PySem.W.looks_findIn I.kIn iC) (fun self => PySem.W.bind_fn I.kIn self tI) (by (rw [sizeLine_eq]; omega))
    (codeAny_mono (F1.run _ X.stack _ _ ⟨Value.ref (hp.objs.size + 1) :: us, kw⟩ (xs (hp.objs.size + 1)) _ _ (fun _ _ _ => False) (hr.make C us kw) (I2.env0.make C us kw) (hb _ _ I2.kIn) (r _) hq) fun r s' hq' => ?_))
  cases r with
  | error er => exact hx pins σ _ _ er s' I2 hq'
  | ok fl =>
    cases fl with
    | ret u =>
      obtain ⟨v, H', I3, rv, ev, q3⟩ := I2.after hq'
      subst ev
      exact ⟨rv, ⟨V.ref (hp.objs.size + 1), H', I3, rfl, q3⟩⟩
    | next => exact False.elim hq'
    | brk => exact False.elim hq'
    | cont => exact False.elim hq'
theorem pe_mkE (T : ExK X.K C) (iC : PySem.W.findIn X.K (.ref C) "__init__" = some (some (.ref fI))) (tI : PySem.W.typeIn X.K (.ref fI) = some (.type "function")) (F1 : FnOk X.prog X.w X.K X.mg X.base CX k fI fd ps sp) (hr : Room (k + 1) X.A)
    (hb : Binds X.K fd ps []) (hx : Passes CX X (fun _ _ _ => False)) (hg : Gl X x) (hm : X.mg x = some (.ref C)) (ha : PA X (e :: es) ta)
    (hdb : (x == ("__debug__" : Str)) = false := by decide) (he : starEach (e :: es) X.env = (false, eval e X.env) :: starEach es X.env := by rfl) (hpl : (backTo pos (starEach es X.env)).any (·.1) = false := by rfl) :
    PE X (.Call (.Name x p) (e :: es) [] pos) (tMkE C sp ta) := by
  refine ⟨fun pins s σ H Q I h => ?_⟩
  refine wpAny_Call_Name_kw (ld_glob I hg hm ?_ hdb)
  refine PySem.W.callWith_K (h₀ := X.base) I.ok.mod.kin T.kC (thn (ha.run pos pins s σ H _ I h) fun us s1 ⟨vs, H1, I1, r1, hz, q1⟩ => ⟨I1.kIn, ?_⟩) he hpl
  show wpAny _ _ (call (.ref C) us) _ _ _
  have hl : us.length = vs.length := r1.length.symm
  refine run_mkE (xs := fun a => .ref a :: us) (vs := fun a => .ref a :: vs) T iC tI F1 hr hx I1 (by (rw [hl]; exact hz)) (fun s' a Y => ?_) (fun a => .cons rfl r1) q1
  have n1 : (Value.ref a :: us ++ []).length = ps.length := by
    have e := F1.len _ _ _ _ (q1 (s1.heap.objs.size + 1) (I1.hok.fresh (Nat.le_succ _)))
    rw [List.append_nil, List.length_cons, hl]
    exact e
  have z := hb s' (.ref a :: us) Y n1
  rw [List.append_nil] at z
  exact z
theorem pe_mkEK (T : ExK X.K C) (iC : PySem.W.findIn X.K (.ref C) "__init__" = some (some (.ref fI))) (tI : PySem.W.typeIn X.K (.ref fI) = some (.type "function")) (F1 : FnOk X.prog X.w X.K X.mg X.base CX k fI fd ps sp) (hr : Room (k + 1) X.A)
    (hb : KBn X.K fd ps 1 ks g gV) (hx : Passes CX X (fun _ _ _ => False)) (hg : Gl X x) (hm : X.mg x = some (.ref C)) (hkw : PK X kws tk)
    (hall : (backToKw pos (keywordEach kws X.env)).all (·.1.isSome) = true := by rfl) (hks : (backToKw pos (keywordEach kws X.env)).filterMap (·.1) = ks := by rfl) (hdb : (x == ("__debug__" : Str)) = false := by decide)
    (hpl : ((backTo pos (starEach [] X.env)).any (·.1) || (backToKw pos (keywordEach kws X.env)).any (·.1.isNone)) = false := by rfl) :
    PE X (.Call (.Name x p) [] kws pos) (tMkEK C ks.length sp gV tk) := by
  refine ⟨fun pins s σ H Q I h => ?_⟩
  refine wpAny_Call_Name_kw (ld_glob I hg hm ?_ hdb)
  refine PySem.W.callWith_KW0 (h₀ := X.base) I.ok.mod.kin T.kC hall ?_ hpl
  refine thn (hkw.run pos pins s σ H _ I h) fun ws s2 ⟨zs, H2, I2, rz, l2, q2⟩ => ⟨I2.kIn, ?_⟩
  rw [hks]
  exact run_mkE (xs := fun a => g [.ref a] ws) (vs := fun a => gV [.ref a] zs) T iC tI F1 hr hx I2 (Nat.zero_le _) (fun s' a Y => hb.to s' [.ref a] ws Y rfl (rz.length.symm.trans l2)) (fun a => hb.rel (.cons rfl .nil) rz) q2
/-- C(), without an __init__ of its own -/
theorem pe_mkE0 {bmB : List Value} {B newId initId : String} (F : ExcBaseFacts B newId initId bmB) (q : PySem.W.excIn X.K C bmB newId = true) (kC : PySem.W.keepIn X.K (.ref C) = true) (hg : Gl X x) (hm : X.mg x = some (.ref C)) (hdb : (x == ("__debug__" : Str)) = false := by decide) :
    PE X (.Call (.Name x p) [] [] pos) (fun σ H Q => ∀ a, H a = none → Q (.ref a) (upd H a (exo a C none))) := by
  refine ⟨fun pins s σ H Q I h => ?_⟩
  refine wpAny_Call_Name_kw (ld_glob I hg hm ?_ hdb)
  refine PySem.W.callWith_K0 I.kIn kC ?_
  show wpAny _ _ (call (.ref C) []) _ _ _
  obtain ⟨bm, N, nm, qn, bs, hdct, sn, sub, ab, col, dd, k0, k1, k2, k3, k5, mN, hC, hN, hni, T⟩ := exc_obj I.kIn q
  refine wpAny_call_exc_subT F T hC hN hni (fun h' a hm => ?_) (Nat.zero_le _)
  have hn : H a = none := I.hok.gone hm.new
  obtain ⟨t, ht, _, _⟩ := hm.there
  exact ⟨.ref a, upd H a (exo a C none), I.laidN hm.keeps hm.new hn (exo_ok ht), rfl, h a hn⟩
/-- raise C(e, ..) -/
theorem pmk_exK {ta : TA} (T : ExK X.K C) (iC : PySem.W.findIn X.K (.ref C) "__init__" = some (some (.ref fI))) (tI : PySem.W.typeIn X.K (.ref fI) = some (.type "function")) (F1 : FnOk X.prog X.w X.K X.mg X.base CX k fI fd ps sp) (hr : Room (k + 1) X.A)
    (hb : Binds X.K fd ps []) (hx : Passes CX X (fun _ _ _ => False)) (hg : Gl X x) (hm : X.mg x = some (.ref C)) (ha : PA X (e :: es) ta)
    (hdb : (x == ("__debug__" : Str)) = false := by decide) (he : starEach (e :: es) X.env = (false, eval e X.env) :: starEach es X.env := by rfl) (hpl : (backTo pos (starEach es X.env)).any (·.1) = false := by rfl) :
    PMk X (.Call (.Name x p) (e :: es) [] pos) (tMkO C sp [] ta) := by
  intro pins s σ H Q I h
  obtain ⟨B, newId, initId, bmF, T0, nm, q, N, bs, bm, sn, sub, ab, col, dd, k0, k1, k2, k3, k5, F, hC, hbm⟩ := T.cls
  refine wpAny_Call_Name_kw (ld_glob I hg hm ?_ hdb)
  refine PySem.W.callWith_K (h₀ := X.base) I.ok.mod.kin T.kC (thn (ha.run pos pins s σ H _ I h) fun us s1 ⟨vs, H1, I1, r1, hz, q1⟩ => ⟨I1.kIn, ?_⟩) he hpl
  show wpAny _ _ (call (.ref C) us) _ _ _
  obtain ⟨hp, g, dr, tk, os⟩ := s1
  have hsz : hp.objs.size ≤ hp.objs.size + 1 := Nat.le_succ _
  have hn : H1 (hp.objs.size + 1) = none := I1.hok.fresh hsz
  have hq := q1 (hp.objs.size + 1) hn
  rw [List.append_nil] at hq
  have kk : ∀ b o, hp.get? b = some o → ((hp.push (PySem.W.kdv_tup us)).push (PySem.HandSPX.excO C hp.objs.size)).get? b = some o := fun b o e => Heap.get?_push_of_some _ (Heap.get?_push_of_some _ e)
  have hget : ((hp.push (PySem.W.kdv_tup us)).push (PySem.HandSPX.excO C hp.objs.size)).get? (hp.objs.size + 1) = some (PySem.HandSPX.excO C hp.objs.size) := by heap_get
  have I2 : Inv X pins σ (upd H1 (hp.objs.size + 1) (exo (hp.objs.size + 1) C none)) ⟨(hp.push (PySem.W.kdv_tup us)).push (PySem.HandSPX.excO C hp.objs.size), g, dr, tk, os⟩ :=
    I1.laid (t' := tk) (a := hp.objs.size + 1) (o := exo (hp.objs.size + 1) C none) (h' := (hp.push (PySem.W.kdv_tup us)).push (PySem.HandSPX.excO C hp.objs.size)) kk hsz (exo_ok hget)
  have r2 : Vals (V.ref (hp.objs.size + 1) :: vs) (Value.ref (hp.objs.size + 1) :: us) := .cons rfl r1
  have hl : (Value.ref (hp.objs.size + 1) :: us ++ []).length = ps.length := by
    have e := r2.length
    rw [F1.len _ _ _ _ hq] at e
    rw [List.append_nil]
    exact e.symm
  have hus : us.length ≤ sizeLine := by
    rw [← Paired.length r1, sizeLine_eq]
    omega
  have bd := hb ⟨(hp.push (PySem.W.kdv_tup us)).push (PySem.HandSPX.excO C hp.objs.size), g, dr, tk, os⟩ (Value.ref (hp.objs.size + 1) :: us) I2.kIn hl
  rw [List.append_nil] at bd
  refine wpAny_call (e_call F hbm (I1.kIn _ _ hC) (PySem.W.looks_findIn I1.kIn iC) (fun self => PySem.W.bind_fn I1.kIn self tI) hus
    (codeAny_mono (F1.run _ X.stack _ _ ⟨Value.ref (hp.objs.size + 1) :: us, []⟩ (Value.ref (hp.objs.size + 1) :: us) _ _ (fun _ _ _ => False) (hr.make C us []) (I2.env0.make C us []) bd r2 hq) fun r s' hq' => ?_))
  cases r with
  | error er => exact hx pins σ _ _ er s' I2 hq'
  | ok fl =>
    cases fl with
    | ret u =>
      obtain ⟨v, H2, os2, bare2, un2, hok2, rv, ev, d, fs, ea, ed, hd1, q2⟩ := hq'
      subst ev
      obtain ⟨h2, g2, d2, t2, os'⟩ := s'
      exact ⟨rv, mk_end (raises_own T.exC T.tyC) I1 hsz kk un2 hok2 os2 bare2 ea ed hd1 q2⟩
    | next => exact False.elim hq'
    | brk => exact False.elim hq'
    | cont => exact False.elim hq'
end
/-! own classes: ==, !=, str, repr by the class's own defs -/
section
variable {X : Cx} {pins : List (Addr × Obj)} {σ : L2.St} {H : Hp} {s : Shared}
theorem run_at {A' : Around} {k : Nat} {f : Addr} {fd : FuncData} {ps : List Str} {sp : Sp} {us : List Value} {vs : List V} {Q : VK} {E' : Value → Shared → Prop}
    (F : FnOk X.prog X.w X.K X.mg X.base CX0 k f fd ps sp) (hr : Room k A') (ee : Env0 X.prog X.w X.K X.mg X.base A' X.stack s H) (hb : Binds X.K fd ps []) (I : Inv X pins σ H s) (r : Vals vs us) (h : sp vs H Q E0) :
    wpAny (model X.prog X.w) A' (call (.ref f) us) (EP X pins σ Q) E' s := by
  have hl : us.length = ps.length := r.length.symm.trans (F.len _ _ _ _ h)
  have bd := hb s us I.kIn (by rw [List.append_nil]; exact hl)
  rw [List.append_nil] at bd
  refine wpAny_call (codeAny_mono (F.run A' X.stack s H ⟨us, []⟩ us vs Q E0 hr ee bd r h) ?_)
  intro x t hq
  cases x with
  | error z => exact False.elim hq
  | ok fl =>
    cases fl with
    | ret u => exact I.after hq
    | next => exact False.elim hq
    | brk => exact False.elim hq
    | cont => exact False.elim hq
theorem dp_type {v : V} {d : PyData} {u : Value} (I : Inv X pins σ H s) (h : Dp X.K H v d) (r : RelV v u) : s.TypeIs u (tyN d) := by
  cases h with
  | non => cases r; rfl
  | bl b => cases r; rfl
  | int i => obtain ⟨t, rfl⟩ := r; rfl
  | str x => obtain ⟨t, rfl⟩ := r; rfl
  | lst h1 h2 =>
    cases r
    obtain ⟨its, _, ⟨o, n, ho, hc, _, _⟩, _⟩ := I.list h1
    exact ⟨o, ho, hc⟩
  | tup h1 h2 =>
    cases r
    obtain ⟨its, _, ⟨o, ho, hc, _⟩, _⟩ := I.tuple h1
    exact ⟨o, ho, hc⟩
theorem sub_looks {K : PySem.W.Frag} {h : Heap} {t c : Value} {b : Bool} (X : K.In h) (hk : PySem.W.kitOne K t c = some b) (hn : (t == c) = false) (M : Model) : PySem.W.Looks M h (isSubtype t c) b := by
  unfold PySem.W.kitOne at hk
  rw [hn] at hk
  exact (PySem.W.kit_cls X (by simpa using hk)).2.2
end
/-- what an own class says of its special names, and that built-in data are none of it -/
structure OwnC (K : PySem.W.Frag) (C fE : Addr) : Prop where
  c : C8.InsC K C
  eq : Meth K C "__eq__" fE
  ne : PySem.W.findIn K (.ref C) "__ne__" = some (some (.builtin "object.__ne__"))
  k1 : PySem.W.kitOne K (.type "NoneType") (.ref C) = some false
  k2 : PySem.W.kitOne K (.type "bool") (.ref C) = some false
  k3 : PySem.W.kitOne K (.type "int") (.ref C) = some false
  k4 : PySem.W.kitOne K (.type "str") (.ref C) = some false
  k5 : PySem.W.kitOne K (.type "list") (.ref C) = some false
  k6 : PySem.W.kitOne K (.type "tuple") (.ref C) = some false
  j1 : PySem.W.kitOne K (.ref C) (.type "NoneType") = some false
  j2 : PySem.W.kitOne K (.ref C) (.type "bool") = some false
  j3 : PySem.W.kitOne K (.ref C) (.type "int") = some false
  j4 : PySem.W.kitOne K (.ref C) (.type "str") = some false
  j5 : PySem.W.kitOne K (.ref C) (.type "list") = some false
  j6 : PySem.W.kitOne K (.ref C) (.type "tuple") = some false
theorem OwnC.of {K : PySem.W.Frag} {C fE : Addr} (o : OwnC K C fE) {H : Hp} {v : V} {d : PyData} (h : Dp K H v d) : PySem.W.kitOne K (.type (tyN d)) (.ref C) = some false ∧ PySem.W.kitOne K (.ref C) (.type (tyN d)) = some false := by
  cases h with
  | non => exact ⟨o.k1, o.j1⟩
  | bl b => exact ⟨o.k2, o.j2⟩
  | int i => exact ⟨o.k3, o.j3⟩
  | str x => exact ⟨o.k4, o.j4⟩
  | lst h1 h2 => exact ⟨o.k5, o.j5⟩
  | tup h1 h2 => exact ⟨o.k6, o.j6⟩
section
variable {X : Cx} {C fE : Addr} {k : Nat} {fd : FuncData} {sp : Sp}
theorem inst_at {pins : List (Addr × Obj)} {σ : L2.St} {H : Hp} {s : Shared} {a dx : Addr} {fs : List (Str × V)} (I : Inv X pins σ H s) (ha : H a = some (.ins C dx fs)) : ∃ ox od, PySem.W.InstAt s.heap a ox C od := by
  obtain ⟨mA, O, _⟩ := ins_get I.hok ha
  obtain ⟨od, J, _⟩ := O.look
  exact ⟨_, od, J⟩
/-- x == y, x of the class: its own __eq__ tells -/
def rEqL (C : Addr) (sp : Sp) (K : PySem.W.Frag) : R2 := fun x y H Q => ∃ a dx fs, x = .ref a ∧ H a = some (.ins C dx fs) ∧ ((∃ d, Dp K H y d) ∨ ∃ b dy gs, y = .ref b ∧ H b = some (.ins C dy gs)) ∧
  sp [x, y] H (fun v H' => ∃ b, v = .bl b ∧ Q (.bl b) H') E0
theorem op_eqL (O : OwnC X.K C fE) (F : FnOk X.prog X.w X.K X.mg X.base CX0 k fE fd ["self", "other"] sp) (hb : Binds X.K fd ["self", "other"] []) (hr : Room k X.A) : OpR X (compareOp .Eq) (rEqL C sp X.K) := by
  intro pins s σ H x y v u Q I rx ry h
  obtain ⟨a, dx, fs, rfl, ha, hy, q⟩ := h
  cases (show v = Value.ref a from rx)
  obtain ⟨ox, od, J⟩ := inst_at I ha
  have run := run_at (E' := X.xe) F hr I.env0 hb I (.cons rx (.cons ry .nil)) q
  have fin : wpAny (model X.prog X.w) X.A (tryCompare (.ref a) (Str.ofString "__eq__") u) (fun r t => ∃ b, r = some (Value.bool b) ∧ EP X pins σ Q (.bool b) t) X.xe s := by
    unfold tryCompare
    refine wpAny_bind (PySem.W.ifBound_K I.kIn J O.eq.at_ O.eq.fn (wpAny_mono run (fun r t hq => ?_) fun _ _ z => z))
    obtain ⟨v', H', I', rv, b, rfl, q'⟩ := hq
    cases (show r = Value.bool b from rv)
    exact wpAny_pure ⟨b, rfl, .bl b, H', I', rfl, q'⟩
  show wpAny _ _ (richCompare .Eq (.ref a) u) _ _ _
  unfold richCompare
  simp only [oneThing_ref]
  refine wpAny_holding ?_
  refine wpAny_bind (wpAny_cRoomFor hr.units0 ?_)
  refine wpAny_bind (J.type.here ?_)
  rcases hy with ⟨d, hd⟩ | ⟨b, dy, gs, rfl, hb2⟩
  · have ty := dp_type I hd ry
    have kk := O.of hd
    refine wpAny_bind (wpAny_typeOf ty ?_)
    have ne : (Value.ref C != Value.type (tyN d)) = true := rfl
    simp only [ne, if_true]
    refine wpAny_bind ((sub_looks I.kIn kk.1 rfl _).here ?_)
    simp only [Bool.false_eq_true, if_false]
    refine wpAny_bind (m := tryCompare (.ref a) (Str.ofString "__eq__") u) (wpAny_mono fin (fun r t hq => ?_) fun _ _ z => z)
    obtain ⟨b, rfl, hq⟩ := hq
    exact wpAny_pure hq
  · cases (show u = Value.ref b from ry)
    obtain ⟨oy, oe, J2⟩ := inst_at I hb2
    refine wpAny_bind (J2.type.here ?_)
    have ne : (Value.ref C != Value.ref C) = false := by simp
    simp only [ne, Bool.false_eq_true, if_false]
    refine wpAny_bind (wpAny_pure ?_)
    simp only [Bool.false_eq_true, if_false]
    refine wpAny_bind (m := tryCompare (.ref a) (Str.ofString "__eq__") (.ref b)) (wpAny_mono fin (fun r t hq => ?_) fun _ _ z => z)
    obtain ⟨b, rfl, hq⟩ := hq
    exact wpAny_pure hq
end
open AutoSeq1 (wpAny_loadPart')
/-! == of built-in data and an instance: the data decline -/
abbrev plainObj (C : Addr) (dd : Option Addr) (sl : Array (Option Value)) : Obj := { cls := .ref C, dict := dd, data := .plain, slots := sl }
theorem str_declines (b : Str) (u : Tok) (l C : Addr) (dd : Option Addr) (sl : Array (Option Value)) :
    Meets (Builtin.«str.__eq__» ⟨[.str b u, .ref l], []⟩) (fun _ R s => s.heap.get? l = some (plainObj C dd sl) ∧ R (.ok (.ret .notImplemented)) s) :=
  .of_wp fun prog w A R s h => by
    obtain ⟨hp, g, d, tk, os⟩ := s
    obtain ⟨hl, h⟩ := h
    wp_walk using wpAny_loadPart' hl, wpAny_load hl
    exact ⟨_, rfl, h⟩
theorem int_declines (b : Int) (u : Tok) (l C : Addr) (dd : Option Addr) (sl : Array (Option Value)) :
    Meets (Builtin.«int.__eq__» ⟨[.int b u, .ref l], []⟩) (fun _ R s => s.heap.get? l = some (plainObj C dd sl) ∧ R (.ok (.ret .notImplemented)) s) :=
  .of_wp fun prog w A R s h => by
    obtain ⟨hp, g, d, tk, os⟩ := s
    obtain ⟨hl, h⟩ := h
    wp_walk using wpAny_loadPart' hl, wpAny_load hl
    exact ⟨_, rfl, h⟩
theorem bool_declines (b : Bool) (l C : Addr) (dd : Option Addr) (sl : Array (Option Value)) :
    Meets (Builtin.«int.__eq__» ⟨[.bool b, .ref l], []⟩) (fun _ R s => s.heap.get? l = some (plainObj C dd sl) ∧ R (.ok (.ret .notImplemented)) s) :=
  .of_wp fun prog w A R s h => by
    obtain ⟨hp, g, d, tk, os⟩ := s
    obtain ⟨hl, h⟩ := h
    wp_walk using wpAny_loadPart' hl, wpAny_load hl
    exact ⟨_, rfl, h⟩
theorem sub_wp {M : Model} {A : Around} {E : Value → Shared → Prop} {s : Shared} {c t : Value} {b : Bool} {Q : Bool → Shared → Prop} (h : ∀ M, PySem.W.Looks M s.heap (isSubtype c t) b) (q : Q b s) : wpAny M A (isSubtype c t) Q E s := (h M).here q
theorem list_declines (a l C : Addr) (dd : Option Addr) (sl : Array (Option Value)) (o : Obj) :
    Meets (Builtin.«list.__eq__» ⟨[.ref a, .ref l], []⟩) (fun _ R s => s.heap.get? a = some o ∧ s.heap.get? l = some (plainObj C dd sl) ∧ (∀ M, PySem.W.Looks M s.heap (isSubtype (.ref C) (.type "list")) false) ∧ R (.ok (.ret .notImplemented)) s) :=
  .of_wp fun prog w A R s h => by
    obtain ⟨hp, g, d, tk, os⟩ := s
    obtain ⟨ha, hl, hs, h⟩ := h
    wp_walk using wpAny_loadPart' hl, wpAny_load hl, sub_wp hs
    exact ⟨_, rfl, h⟩
theorem tuple_declines (a l C : Addr) (dd : Option Addr) (sl : Array (Option Value)) (o : Obj) :
    Meets (Builtin.«tuple.__eq__» ⟨[.ref a, .ref l], []⟩) (fun _ R s => s.heap.get? a = some o ∧ s.heap.get? l = some (plainObj C dd sl) ∧ (∀ M, PySem.W.Looks M s.heap (isSubtype (.ref C) (.type "tuple")) false) ∧ R (.ok (.ret .notImplemented)) s) :=
  .of_wp fun prog w A R s h => by
    obtain ⟨hp, g, d, tk, os⟩ := s
    obtain ⟨ha, hl, hs, h⟩ := h
    wp_walk using wpAny_loadPart' hl, wpAny_load hl, sub_wp hs
    exact ⟨_, rfl, h⟩
section
variable {X : Cx} {C fE : Addr} {k : Nat} {fd : FuncData} {sp : Sp}
/-- the built-in type's own __eq__ declines -/
theorem data_declines {pins : List (Addr × Obj)} {σ : L2.St} {H : Hp} {s : Shared} {A : Around} {E : Value → Shared → Prop} {x : V} {d : PyData} {v : Value} {b dx : Addr} {fs : List (Str × V)} {Q : Option Value → Shared → Prop} (I : Inv X pins σ H s)
    (hs : ∀ M, PySem.W.Looks M s.heap (isSubtype (.ref C) (.type (tyN d))) false)
    (hd : Dp X.K H x d) (rx : RelV x v) (hb : H b = some (.ins C dx fs)) (q : Q none s) : wpAny (model X.prog X.w) A (tryCompare v (Str.ofString "__eq__") (.ref b)) Q E s := by
  obtain ⟨mA, O, _⟩ := ins_get I.hok hb
  have ob := O.obj
  cases hd with
  | non =>
    cases rx
    exact wpAny_tryCompare_declines (T := "NoneType") rfl F.slot_NoneType_eq (call_gives F.slot_NoneType_eq rfl F.entry_NoneType_eq (F.args_NoneType_eq_2 _ _) (SeqAt.NoneType___eq___none_ref_0 b) ⟨rfl, q⟩)
  | bl z =>
    cases rx
    exact wpAny_tryCompare_declines (T := "bool") rfl F.slot_bool_eq (call_meets F.slot_bool_eq rfl F.entry_int_eq (F.args_int_eq_2 _ _) (bool_declines z b C _ _) ⟨ob, ⟨rfl, q⟩⟩)
  | int i =>
    obtain ⟨t, rfl⟩ := rx
    exact wpAny_tryCompare_declines (T := "int") rfl F.slot_int_eq (call_meets F.slot_int_eq rfl F.entry_int_eq (F.args_int_eq_2 _ _) (int_declines i t b C _ _) ⟨ob, ⟨rfl, q⟩⟩)
  | str y =>
    obtain ⟨t, rfl⟩ := rx
    exact wpAny_tryCompare_declines (T := "str") rfl F.slot_str_eq (call_meets F.slot_str_eq rfl F.entry_str_eq (F.args_str_eq_2 _ _) (str_declines y t b C _ _) ⟨ob, ⟨rfl, q⟩⟩)
  | lst h1 h2 =>
    cases rx
    obtain ⟨its, _, ⟨o, n, ho, hc, _, _⟩, _⟩ := I.list h1
    exact wpAny_tryCompare_declines (T := "list") ⟨o, ho, hc⟩ F.slot_list_eq (call_meets F.slot_list_eq ⟨o, ho, hc⟩ F.entry_list_eq (F.args_list_eq_2 _ _) (list_declines _ b C _ _ o) ⟨ho, ob, hs, ⟨rfl, q⟩⟩)
  | tup h1 h2 =>
    cases rx
    obtain ⟨its, _, ⟨o, ho, hc, _⟩, _⟩ := I.tuple h1
    exact wpAny_tryCompare_declines (T := "tuple") ⟨o, ho, hc⟩ F.slot_tuple_eq (call_meets F.slot_tuple_eq ⟨o, ho, hc⟩ F.entry_tuple_eq (F.args_tuple_eq_2 _ _) (tuple_declines _ b C _ _ o) ⟨ho, ob, hs, ⟨rfl, q⟩⟩)
/-- x == y, y of the class, x built-in data: y's own __eq__ tells -/
def rEqR (C : Addr) (sp : Sp) (K : PySem.W.Frag) : R2 := fun x y H Q => ∃ b dy gs d, y = .ref b ∧ H b = some (.ins C dy gs) ∧ Dp K H x d ∧ sp [y, x] H (fun v H' => ∃ z, v = .bl z ∧ Q (.bl z) H') E0
theorem op_eqR (O : OwnC X.K C fE) (F : FnOk X.prog X.w X.K X.mg X.base CX0 k fE fd ["self", "other"] sp) (hb : Binds X.K fd ["self", "other"] []) (hr : Room k X.A) : OpR X (compareOp .Eq) (rEqR C sp X.K) := by
  intro pins s σ H x y v u Q I rx ry h
  obtain ⟨b, dy, gs, d, rfl, ha, hd, q⟩ := h
  cases (show u = Value.ref b from ry)
  obtain ⟨ox, od, J⟩ := inst_at I ha
  have run := run_at (E' := X.xe) F hr I.env0 hb I (.cons ry (.cons rx .nil)) q
  have ty := dp_type I hd rx
  have kk := O.of hd
  have sb := sub_looks I.kIn kk.2 rfl
  have fin : wpAny (model X.prog X.w) X.A (tryCompare (.ref b) (Str.ofString "__eq__") v) (fun r t => ∃ b, r = some (Value.bool b) ∧ EP X pins σ Q (.bool b) t) X.xe s := by
    unfold tryCompare
    refine wpAny_bind (PySem.W.ifBound_K I.kIn J O.eq.at_ O.eq.fn (wpAny_mono run (fun r t hq => ?_) fun _ _ z => z))
    obtain ⟨v', H', I', rv, b, rfl, q'⟩ := hq
    cases (show r = Value.bool b from rv)
    exact wpAny_pure ⟨b, rfl, .bl b, H', I', rfl, q'⟩
  show wpAny _ _ (richCompare .Eq v (.ref b)) _ _ _
  unfold richCompare
  simp only [ty.oneThing_none]
  refine wpAny_holding ?_
  refine wpAny_bind (wpAny_cRoomFor hr.units0 ?_)
  refine wpAny_bind (wpAny_typeOf ty ?_)
  refine wpAny_bind (J.type.here ?_)
  have ne : (Value.type (tyN d) != Value.ref C) = true := rfl
  simp only [ne, if_true]
  refine wpAny_bind ((sb _).here ?_)
  simp only [Bool.false_eq_true, if_false]
  refine wpAny_bind (m := tryCompare v (Str.ofString "__eq__") (.ref b)) (data_declines I sb hd rx ha ?_)
  simp only [Bool.not_false, if_true]
  refine wpAny_bind (m := tryCompare (.ref b) (Str.ofString "__eq__") v) (wpAny_mono fin (fun r t hq => ?_) fun _ _ z => z)
  obtain ⟨z, rfl, hq⟩ := hq
  exact wpAny_pure hq
theorem ifBound_b {M : Model} {A : Around} {E : Value → Shared → Prop} {s : Shared} {K : PySem.W.Frag} {x C : Addr} {ox : Obj} {od : Option Obj} {name : Str} {id : String} {args : List Value} {Q : Option Value → Shared → Prop} (X : K.In s.heap) (I : PySem.W.InstAt s.heap x ox C od)
    (hs : PySem.W.findIn K (.ref C) name = some (some (.builtin id))) (hb : ∀ self, bindSpecial (.builtin id) self = pure (.builtin id, [self])) (h : wpAny M A (call (.builtin id) (.ref x :: args)) (fun v => Q (some v)) E s) :
    wpAny M A (callSpecialIfBound? (.ref x) name args) Q E s := by
  simp only [callSpecialIfBound?, bindSpecialIfBound?]
  refine wpAny_holding (wpAny_bind (wpAny_bind (wpAny_bind (I.type.here ((PySem.W.looks_findIn X hs).here ?_)))))
  refine wpAny_bind (wpAny_askSetting (wpAny_ite ?_))
  have fin : wpAny M A (call (.builtin id) ([.ref x] ++ args) >>= fun v => pure (some v)) Q E s := wpAny_bind (wpAny_mono h (fun _ _ z => wpAny_pure z) fun _ _ z => z)
  split
  · exact wpAny_bind ((PySem.W.Looks.of_pure (hb _)).here (wpAny_pure (by exact fin)))
  · exact wpAny_tryCatch (wpAny_bind ((PySem.W.Looks.of_pure (hb _)).here (wpAny_pure (by exact fin))))
/-- x != y, x of the class (which has no own __ne__): not what its own __eq__ tells -/
def rNeL (C : Addr) (sp : Sp) (K : PySem.W.Frag) : R2 := fun x y H Q => ∃ a dx fs, x = .ref a ∧ H a = some (.ins C dx fs) ∧ ((∃ d, Dp K H y d) ∨ ∃ b dy gs, y = .ref b ∧ H b = some (.ins C dy gs)) ∧
  sp [x, y] H (fun v H' => ∃ b, v = .bl b ∧ Q (.bl (!b)) H') E0
theorem op_neL (O : OwnC X.K C fE) (F : FnOk X.prog X.w X.K X.mg X.base CX0 k fE fd ["self", "other"] sp) (hb : Binds X.K fd ["self", "other"] []) (hr : Room (k + 1) X.A) : OpR X (compareOp .NotEq) (rNeL C sp X.K) := by
  intro pins s σ H x y v u Q I rx ry h
  obtain ⟨a, dx, fs, rfl, ha, hy, q⟩ := h
  cases (show v = Value.ref a from rx)
  obtain ⟨ox, od, J⟩ := inst_at I ha
  have run := run_at (E' := X.xe) F hr.in1 I.env0.in1 hb I (.cons rx (.cons ry .nil)) q
  have body : wpAny (model X.prog X.w) X.A (call (.builtin "object.__ne__") [.ref a, u]) (fun v t => ∃ b, v = Value.bool b ∧ EP X pins σ Q (.bool b) t) X.xe s := by
    refine wpAny_call (codeAny_call_builtin PySem.F.slot_object_ne.plain PySem.F.entry_object_ne (PySem.W.check_slot (i := "object.__ne__") (owner := "object") (n := "__ne__") (by decide +kernel) (by decide +kernel) (J.type.andThen (PySem.W.looks_mroIn I.kIn O.c.hm)) (PySem.F.args_object_ne_2 _ _) ?_))
    unfold Builtin.«object.__ne__»
    refine wpAny_bind (m := slotArgs "__ne__" 1 _) (wpAny_pure ?_)
    refine wpAny_bind (m := cRoomFor _ _) (wpAny_cRoomFor (by have := hr.units; show X.A.units + 1 < cLine; omega) ?_)
    refine wpAny_bind (m := callSpecialIfBound? (.ref a) (Str.ofString "__eq__") [u]) (PySem.W.ifBound_K I.kIn J O.eq.at_ O.eq.fn (wpAny_mono run (fun r t hq => ?_) fun _ _ z => z))
    obtain ⟨v', H', I', rv, b, rfl, q'⟩ := hq
    cases (show r = Value.bool b from rv)
    refine wpAny_bind (m := truthy (.bool b)) (wpAny_truthy_bool ?_)
    exact wpAny_pure ⟨!b, rfl, .bl (!b), H', I', rfl, q'⟩
  have fin : wpAny (model X.prog X.w) X.A (tryCompare (.ref a) (Str.ofString "__ne__") u) (fun r t => ∃ b, r = some (Value.bool b) ∧ EP X pins σ Q (.bool b) t) X.xe s := by
    unfold tryCompare
    refine wpAny_bind (ifBound_b I.kIn J O.ne PySem.F.slot_object_ne.bind (wpAny_mono body (fun r t hq => ?_) fun _ _ z => z))
    obtain ⟨b, rfl, hq⟩ := hq
    exact wpAny_pure ⟨b, rfl, hq⟩
  show wpAny _ _ (richCompare .NotEq (.ref a) u) _ _ _
  unfold richCompare
  simp only [oneThing_ref]
  refine wpAny_holding ?_
  refine wpAny_bind (wpAny_cRoomFor hr.units0 ?_)
  refine wpAny_bind (J.type.here ?_)
  rcases hy with ⟨d, hd⟩ | ⟨b, dy, gs, rfl, hb2⟩
  · have ty := dp_type I hd ry
    have kk := O.of hd
    refine wpAny_bind (wpAny_typeOf ty ?_)
    have ne : (Value.ref C != Value.type (tyN d)) = true := rfl
    simp only [ne, if_true]
    refine wpAny_bind ((sub_looks I.kIn kk.1 rfl _).here ?_)
    simp only [Bool.false_eq_true, if_false]
    refine wpAny_bind (m := tryCompare (.ref a) (Str.ofString "__ne__") u) (wpAny_mono fin (fun r t hq => ?_) fun _ _ z => z)
    obtain ⟨b, rfl, hq⟩ := hq
    exact wpAny_pure hq
  · cases (show u = Value.ref b from ry)
    obtain ⟨oy, oe, J2⟩ := inst_at I hb2
    refine wpAny_bind (J2.type.here ?_)
    have ne : (Value.ref C != Value.ref C) = false := by simp
    simp only [ne, Bool.false_eq_true, if_false]
    refine wpAny_bind (wpAny_pure ?_)
    simp only [Bool.false_eq_true, if_false]
    refine wpAny_bind (m := tryCompare (.ref a) (Str.ofString "__ne__") (.ref b)) (wpAny_mono fin (fun r t hq => ?_) fun _ _ z => z)
    obtain ⟨b, rfl, hq⟩ := hq
    exact wpAny_pure hq
/-- repr(x), x of a class with its own __repr__ -/
def rRepO (C : Addr) (sp : Sp) : List V → Hp → VK → Prop := fun xs H Q => ∃ a dx fs, xs = [.ref a] ∧ H a = some (.ins C dx fs) ∧ sp [.ref a] H (fun v H' => ∃ y, v = .str y ∧ Q (.str y) H') E0
theorem call_repO {fR : Addr} (m : Meth X.K C "__repr__" fR) (F : FnOk X.prog X.w X.K X.mg X.base CX0 k fR fd ["self"] sp) (hb : Binds X.K fd ["self"] []) (hr : Room (k + 1) X.A) : CallR X (.builtin "repr") (rRepO C sp) := by
  intro pins s σ H xs us Q I r h
  obtain ⟨a, dx, fs, rfl, ha, q⟩ := h
  obtain ⟨u, rfl, ru⟩ := vals1 r
  cases (show u = Value.ref a from ru)
  obtain ⟨ox, od, J⟩ := inst_at I ha
  have run := run_at (E' := X.xe) F hr.in1 I.env0.in1 hb I (.cons ru .nil) q
  refine Calls.call_function_entry PySem.F.kind_repr PySem.F.plain_repr PySem.F.entry_repr (PySem.F.args_repr1 _) ?_
  unfold Builtin.«repr»
  refine wpAny_bind (m := oneArg "repr" _) (wpAny_pure ?_)
  refine wpAny_bind (wpAny_cRoomFor (by have := hr.units; show X.A.units + 1 < cLine; omega) ?_)
  refine wpAny_bind (m := specialOf (.ref a) (Str.ofString "__repr__")) (wpAny_bind (J.type.here ((PySem.W.looks_findIn I.kIn m.at_).here ?_)))
  show wpAny _ _ (if (some (Value.ref fR)).isNone = true then _ else _) _ _ _
  rw [if_neg (by simp)]
  refine wpAny_bind (m := callSpecialIfBound? (.ref a) (Str.ofString "__repr__") _) (PySem.W.ifBound_K I.kIn J m.at_ m.fn (wpAny_mono run (fun r t hq => ?_) fun _ _ z => z))
  obtain ⟨v', H', I', rv, y, rfl, q'⟩ := hq
  obtain ⟨tk, rfl⟩ := (show ∃ t, r = Value.str y t from rv)
  refine wpAny_bind (wpAny_isInstance (typeIs_str _ _ _) isSubtype_str_str ?_)
  have fin : EP X pins σ Q (.str y tk) t := ⟨.str y, H', I', ⟨tk, rfl⟩, q'⟩
  first
    | exact wpAny_pure ⟨_, rfl, fin⟩
    | (rw [if_pos rfl]; exact wpAny_pure ⟨_, rfl, fin⟩)
    | (simp only [if_true]; exact wpAny_pure ⟨_, rfl, fin⟩)
    | (simp only [if_true]; exact wpAny_pure fin)
/-- str(x), x of a class with its own __str__ -/
theorem call_strO {fS : Addr} (m : Meth X.K C "__str__" fS) (F : FnOk X.prog X.w X.K X.mg X.base CX0 k fS fd ["self"] sp) (hb : Binds X.K fd ["self"] []) (hr : Room (k + 2) X.A) : CallR X (.type "str") (rRepO C sp) := by
  intro pins s σ H xs us Q I r h
  obtain ⟨a, dx, fs, rfl, ha, q⟩ := h
  obtain ⟨u, rfl, ru⟩ := vals1 r
  cases (show u = Value.ref a from ru)
  obtain ⟨ox, od, J⟩ := inst_at I ha
  have run := run_at (A' := X.A.in1.in1) (E' := X.xe) F hr.in1.in1 I.env0.in1.in1 hb I (.cons ru .nil) q
  have un := hr.units
  refine callType_codes (T := "str") (Bi := Builtin.«object.__init__») (Q₁ := fun r s₁ => ∃ y u, r = .str y u ∧ EP X pins σ Q r s₁) PySem.F.called_str (PySem.F.typeCall_str_1 _) PySem.F.entry_object_init ?_ ?_
  · refine codeAny_of_tree ?_
    show wpAny _ X.A.in1.in1 (do checkBuiltinCall "str.__new__" ⟨[.type "str", .ref a], []⟩; again (.builtin "str.__new__" ⟨[.type "str", .ref a], []⟩)) _ _ s
    refine wpAny_bind (wpAny_of_eq (PySem.F.newCall_str_1 _) (wpAny_pure ⟨plainId_quiet (by decide +kernel) _, codeAny_builtin PySem.F.entry_str_new ?_⟩))
    rw [Around.under_plainId (by decide +kernel) _]
    rw [str_new_tree]
    refine wpAny_bind (wpAny_pure ?_)
    refine wpAny_bind (wpAny_of_eq isSubtype_str_str ?_)
    have key : wpAny (model X.prog X.w) X.A.in1.in1 (PySem.Builtin.Str.strOf (.ref a)) (fun r s₁ => ∃ y u, r = .str y u ∧ EP X pins σ Q r s₁) X.xe s := by
      unfold PySem.Builtin.Str.strOf
      rw [show Builtin.Str.isExactStr (.ref a) = false from rfl]
      refine wpAny_bind (m := cRoomFor _ _) (wpAny_cRoomFor (by show X.A.units + 1 + 1 < cLine; omega) ?_)
      refine wpAny_bind (m := callSpecial? (.ref a) (Str.ofString "__str__")) (PySem.W.special_fn I.kIn J m.at_ (beq_iff_eq.mp m.fn) (wpAny_mono run (fun r t hq => ?_) fun _ _ z => z))
      obtain ⟨v', H', I', rv, y, rfl, q'⟩ := hq
      obtain ⟨tk, rfl⟩ := (show ∃ t, r = Value.str y t from rv)
      exact wpAny_pure ⟨_, _, rfl, .str y, H', I', ⟨tk, rfl⟩, q'⟩
    exact wpAny_bind (wpAny_mono key (fun r s₁ hr => wpAny_pure hr) fun _ _ y => y)
  · rintro obj s₁ ⟨y, u, rfl, hq⟩
    exact ⟨typeIs_str _ _ _, PySem.F.args_object_init_2 _ _, object_init_meets PySem.F.called_str.init.lookup PySem.F.called_str.made (by decide) X.prog X.w X.A.in1 _ s₁ ⟨typeIs_str _ _ _, rfl, hq⟩⟩
end
/-! errors that are kept as values: attributes, isinstance -/
/-- e.f -/
def tXa (K : PySem.W.Frag) (f : Str) (te : TE) : TE := fun σ H Q => te σ H fun x H1 => ∃ (a C d : Addr) (fs : List (Str × V)) (v : V), x = .ref a ∧ XfC K C ∧ PySem.W.findIn K (.ref C) f = some none ∧ H1 a = some (exo a C (some d)) ∧ H1 d = some (exd d fs) ∧ fs.lookup f = some v ∧ Q v H1
section
variable {X : Cx} {e : Expr} {te : TE} {pos : Pos} {n : Str}
theorem pe_xa (he : PE X e te) (hb : attributeBase e n X.env (eval e X.env) = eval e X.env := by rfl) : PE X (.Attribute e n pos) (tXa X.K n te) := by
  refine ⟨fun pins s σ H Q I h => ?_⟩
  refine attr_of hb (thn (he.run pins s σ H _ I h) fun u s1 hh => ?_)
  obtain ⟨x, H1, I1, rx, a, C, d, fs, v, ex, T, hno, ea, ed, l, q⟩ := hh
  subst ex
  obtain rfl : u = Value.ref a := rx
  obtain ⟨t1, ha⟩ := exo_at I1.hok ea
  obtain ⟨mA, hns, hr⟩ := exd_at I1.hok ed
  obtain ⟨od, ho, hl⟩ := lookIn_ns hns
  obtain ⟨u, hu, ru⟩ := RelO.some_of (v := v) (o := mA n) (by rw [← l]; exact hr n)
  have J : PySem.W.InstAt s1.heap a { cls := .ref C, dict := some d, data := .fields #[.ref t1, .none, .none, .none, .bool false, .none] } C (some od) := ⟨ha, rfl, rfl, ho⟩
  exact HandSPX.exc_get I1.kIn J T.ga T.gg T.exC (PySem.W.findObj_own T.hdC hno rfl (by rw [hl, hu])) (handed_of ru) ⟨v, H1, I1.tok _, ru, q⟩
end
/-- an error of the class D stands at a -/
def ErrAt (H : Hp) (D a : Addr) : Prop := H a = some (exo a D none) ∨ ∃ d fs, H a = some (exo a D (some d)) ∧ H d = some (exd d fs)
theorem ErrAt.up {H H' : Hp} {D a : Addr} (s : Same H H') (h : ErrAt H D a) : ErrAt H' D a := by
  rcases h with h | ⟨d, fs, h1, h2⟩
  · exact .inl (s _ _ h)
  · exact .inr ⟨d, fs, s _ _ h1, s _ _ h2⟩
def rIsX (K : PySem.W.Frag) : List V → Hp → VK → Prop := fun xs H Q => ∃ (a D : Addr) (c : V) (cv : Value) (b : Bool), xs = [.ref a, c] ∧ ExcC K D ∧ ErrAt H D a ∧ (∀ u, RelV c u → u = cv) ∧ PySem.W.kitOne K (.ref D) cv = some b ∧ Q (.bl b) H
theorem hasD_cls {K : PySem.W.Frag} {D : Addr} (h : PySem.W.hasDictIn K D = true) : (PySem.W.clsIn K D).isSome = true := by
  unfold PySem.W.hasDictIn at h
  cases e : PySem.W.clsIn K D with
  | none =>
    rw [e] at h
    cases h
  | some c => rfl
theorem call_isX {X : Cx} : CallR X (.builtin "isinstance") (rIsX X.K) := by
  intro pins s σ H xs us Q I r h
  obtain ⟨a, D, c, cv, b, rfl, C, he, hcv, e, q⟩ := h
  cases r with
  | cons rx rr =>
    cases rr with
    | cons rt rr =>
      cases rr
      cases rx
      have ec := hcv _ rt
      subst ec
      have fin : ∀ {ox : Obj} {od : Option Obj}, PySem.W.InstAt s.heap a ox D od → wpAny (model X.prog X.w) X.A (call (.builtin "isinstance") [.ref a, _]) (EP X pins σ Q) X.xe s := fun {ox od} J =>
        PySem.W.kia_one (PySem.W.kitx_exc (hasD_cls C.hd) C.hg C.hk C.hs C.ha C.hn C.ht C.hm) I.kIn J e (fun z => nomatch z) fun tk => ⟨.bl b, H, I.kept (t' := tk) fun _ _ z => z, rfl, q⟩
      rcases he with ea | ⟨d, fs, ea, ed⟩
      · obtain ⟨t1, ha⟩ := exo_at I.hok ea
        exact fin (od := none) ⟨ha, rfl, rfl, trivial⟩
      · obtain ⟨t1, ha⟩ := exo_at I.hok ea
        obtain ⟨mA, ⟨o, es, ep, ho, hr⟩, _⟩ := exd_at I.hok ed
        exact fin (od := some o) ⟨ha, rfl, rfl, ho⟩
/-! own classes: &, |, -, in, bool by the class's own defs -/
section
variable {X : Cx} {C f : Addr} {k : Nat} {fd : FuncData} {ps : List Str} {sp : Sp} {nm : Str}
/-- x op y, both of the class -/
def rBinO (C : Addr) (sp : Sp) : R2 := fun x y H Q => ∃ a dx fs b dy gs, x = .ref a ∧ y = .ref b ∧ H a = some (.ins C dx fs) ∧ H b = some (.ins C dy gs) ∧ sp [x, y] H (fun v H' => (∃ c, v = .ref c) ∧ Q v H') E0
theorem op_binO {op : Operator} (hd : PySem.dunder op.info.2 = nm) (hc : PySem.W.selfFirst X.K C = true) (M : Meth X.K C nm f) (F : FnOk X.prog X.w X.K X.mg X.base CX0 k f fd ps sp) (hb : Binds X.K fd ps []) (hr : Room k X.A) : OpR X (binaryOp op) (rBinO C sp) := by
  intro pins s σ H x y v u Q I rx ry h
  obtain ⟨a, dx, fs, b, dy, gs, rfl, rfl, ha, hb2, q⟩ := h
  cases (show v = Value.ref a from rx)
  cases (show u = Value.ref b from ry)
  obtain ⟨ox, od, J⟩ := inst_at I ha
  obtain ⟨oy, oe, J2⟩ := inst_at I hb2
  obtain ⟨m, fr⟩ := I.fr
  refine PySem.W.binop_K fr I.ok.mod.kin J J2.type hc (by rw [hd]; exact M.at_) M.fn (wpAny_mono (run_at (E' := X.xe) F hr I.env0 hb I (.cons rx (.cons ry .nil)) q) (fun r t hq => ?_) fun _ _ z => z)
  obtain ⟨v', H', I', rv, ⟨c, rfl⟩, q'⟩ := hq
  cases (show r = Value.ref c from rv)
  exact ⟨.ref c, H', I', rfl, q'⟩
/-- x in y, y of the class -/
def rInO (C : Addr) (sp : Sp) : R2 := fun x y H Q => ∃ b dy gs, y = .ref b ∧ H b = some (.ins C dy gs) ∧ sp [y, x] H (fun v H' => ∃ c, v = .bl c ∧ Q (.bl c) H') E0
theorem op_inO (M : Meth X.K C "__contains__" f) (F : FnOk X.prog X.w X.K X.mg X.base CX0 k f fd ps sp) (hb : Binds X.K fd ps []) (hr : Room k X.A) : OpR X (compareOp .In) (rInO C sp) := by
  intro pins s σ H x y v u Q I rx ry h
  obtain ⟨b, dy, gs, rfl, hb2, q⟩ := h
  cases (show u = Value.ref b from ry)
  obtain ⟨oy, oe, J2⟩ := inst_at I hb2
  obtain ⟨m, fr⟩ := I.fr
  refine PySem.W.in_K fr I.ok.mod.kin J2 M.at_ M.fn (wpAny_mono (run_at (E' := X.xe) F hr I.env0 hb I (.cons ry (.cons rx .nil)) q) (fun r t hq => ?_) fun _ _ z => z)
  obtain ⟨v', H', I', rv, c, rfl, q'⟩ := hq
  cases (show r = Value.bool c from rv)
  exact wpAny_truthy_bool ⟨.bl c, H', I', rfl, q'⟩
theorem meets_boolT {prog : Program} {w : World} (x : Value) : MeetsIn prog w (Builtin.«bool.__new__» ⟨[.type "bool", x], []⟩)
    (fun A R s => wpAny (model prog w) A.in1 (truthy x) (fun b s' => ∀ tk, R (.ok (.ret (.bool b))) { s' with toks := tk }) (fun e s' => R (.error e) s') s) := fun A R s h => by
  have f1 := F.conv_sub_bool
  obtain ⟨hp, g, d, tk, os⟩ := s
  unfold Builtin.«bool.__new__»
  repeat (any_goals (first | assumption | wp_step))
  show wpAny _ _ (truthy x) _ _ _
  refine wpAny_mono h (fun b s' hq => ?_) fun _ _ z => z
  obtain ⟨hp', g', d', tk', os'⟩ := s'
  repeat (any_goals (first | assumption | wp_step))
  exact hq _
theorem call_boolT {x : Value} {prog : Program} {w : World} {A : Around} {E : Value → Shared → Prop} {s : Shared} {Q : Value → Shared → Prop} (h : wpAny (model prog w) A.in1.in1 (truthy x) (fun b s' => ∀ tk, Q (.bool b) { s' with toks := tk }) E s) : wpAny (model prog w) A (call (.type "bool") [x]) Q E s := by
  refine callType_newIn F.called_bool F.newNe_bool (F.typeCall_bool_1 x) (F.newCall_bool_1 x) (fun obj => F.args_object_init_2 obj x) F.entry_bool_new (meets_boolT x) ?_
  exact wpAny_mono h (fun b s' hq tk => ⟨rfl, hq tk⟩) fun _ _ z => z
/-- bool(x), x of the class -/
def rBoolO (C : Addr) (sp : Sp) : List V → Hp → VK → Prop := fun xs H Q => ∃ a dx fs, xs = [.ref a] ∧ H a = some (.ins C dx fs) ∧ sp [.ref a] H (fun v H' => ∃ c, v = .bl c ∧ Q (.bl c) H') E0
theorem call_boolO (M : Meth X.K C "__bool__" f) (F : FnOk X.prog X.w X.K X.mg X.base CX0 k f fd ps sp) (hb : Binds X.K fd ps []) (hr : Room (k + 2) X.A) : CallR X (.type "bool") (rBoolO C sp) := by
  intro pins s σ H xs us Q I r h
  obtain ⟨a, dx, fs, rfl, ha, q⟩ := h
  obtain rfl := Vals.ref1 r
  obtain ⟨ox, od, J⟩ := inst_at I ha
  obtain ⟨m, fr⟩ := I.fr
  refine call_boolT (PySem.W.truthy_K fr I.ok.mod.kin J M.at_ M.fn (wpAny_mono (run_at (E' := X.xe) F hr.in1.in1 I.env0.in1.in1 hb I r q) (fun r t hq => ?_) fun _ _ z => z))
  obtain ⟨v', H', I', rv, c, rfl, q'⟩ := hq
  cases (show r = Value.bool c from rv)
  exact fun tk => ⟨.bl c, H', I'.tok _, rfl, q'⟩
/-- bool(a tuple) -/
theorem call_boolTu : CallR X (.type "bool") (fun xs H Q => ∃ a zs, xs = [.ref a] ∧ SqT X.K H a zs ∧ Q (.bl (!zs.isEmpty)) H) := by
  intro pins s σ H xs us Q I r h
  obtain ⟨a, zs, rfl, hq, q⟩ := h
  obtain rfl := Vals.ref1 r
  obtain ⟨its, rv, pl, hz⟩ := I.tuple hq
  have hlen := rv.length
  have hl := line63
  exact call_boolT (truthy_tuple pl (by simp only [List.size_toArray]; omega) fun tk => ⟨.bl (!zs.isEmpty), H, I.tok _, by rw [isEmpty_of rv]; rfl, q⟩)
end
/-! a classmethod without arguments -/
section
variable {X : Cx} {CX : CXT} {k : Nat} {C p g : Addr} {mc : Value} {sp : Sp} {E : XK} {o : Expr} {m : Str} {pos apos : Pos} {ta : TE} {pl : Sem Bool}
theorem pe_cmeth0 (he : PE X o ta) (r : ClX.CRead X.K C mc) (c : ClX.CMet X.K C mc m p g) (F : FnR X.prog X.w X.K X.mg X.base CX k g sp) (hr : Room k X.A) (hx : Passes CX X E)
    (ht : eval (.Call (.Attribute o m apos) [] [] pos) X.env = (do
      let ov ← eval o X.env
      standAt apos.atName
      let (f, first) ← holding [ov] (getMethod ov m pl)
      callWith pos f first (backTo pos (starEach [] X.env)) (backToKw pos (keywordEach [] X.env))) := by rfl) : PE X (.Call (.Attribute o m apos) [] [] pos) (ClX.tCMeth C sp E ta tNil) := by
  refine ⟨fun pins s σ H Q I h => ?_⟩
  refine PySem.W.methodCall_KW (pl := pl) (thn (he.run pins s σ H _ I h) fun u s1 ⟨x, H1, I1, rx, ex, q⟩ => ?_) ht
  subst ex
  obtain rfl : u = Value.ref C := rx
  refine ClX.getmethcm_ok I1 r c fun s2 I2 => ?_
  refine PySem.W.callWith_M0 (K := X.K) ⟨ClX.pin_at I2, I2.kIn⟩ c.fi ?_
  exact ClX.run_cm F hr hx I2 .nil q
end
/-- d.get(key), d a dict of the program's top with texts for keys -/
def tKGet (K : PySem.W.Frag) (d : Addr) (td ty : TE) : TE := fun σ H Q => td σ H fun x H1 => x = .ref d ∧ ty σ H1 fun y H2 => ∃ z r v, y = .str z ∧ PySem.W.nsIn K d z = some r ∧ RelV v (r.getD .none) ∧ Q v H2
theorem pe_kget {X : Cx} {d : Addr} {es : Array DictEntry} {n : Nat} {o e : Expr} {apos cpos : Pos} {td ty : TE} (D : KDict X.K X.w d es n) (ho : PE X o td) (he : PE X e ty) (m : M1 X o "get" apos e cpos) :
    PE X (.Call (.Attribute o "get" apos) [e] [] cpos) (tKGet X.K d td ty) := by
  refine ⟨fun pins s σ H Q I h => ?_⟩
  refine wpAny_Call_method m.base m.few m.line PySem.F.plainAttrs_dict PySem.F.slot_dict_get PySem.F.type_dict_get (thn (ho.run pins s σ H _ I h) fun u s1 ⟨x, H1, I1, rx, ex, q1⟩ => ?_)
  subst ex
  cases rx
  refine ⟨kd_type D I1, fun b q => ?_, ?_⟩
  · cases q
    exact ⟨_, I1.kIn _ _ D.at_, rfl⟩
  rw [m.trees]
  refine Calls.callWith_builtin rfl (Calls.evalArgs_plain (Calls.spliced_cons (thn (he.run pins s1 σ H1 _ I1 q1) fun iv s2 ⟨y, H2, I2, ry, z, r, v, ey, en, rv, q2⟩ => Calls.spliced_nil ?_)))
  subst ey
  obtain ⟨t, rfl⟩ := ry
  refine call_meetsIn PySem.F.slot_dict_get (kd_type D I2) PySem.F.entry_dict_get (PySem.F.args_dict_get_2 _ _) (meets_dict_get (strKind X.prog X.w) d (strKind_is X.prog X.w z t) D.low) ⟨_, PySem.W.mapOf_K (prog := X.prog) I2.kIn D.at_ D.lit, ?_⟩
  rw [PySem.W.find_K D.at_ en]
  exact ⟨v, H2, I2.tok _, rv, q2⟩
/-! repr of a dict: its keys are texts, its values data, or instances of a class whose own __repr__ tells -/
theorem seqL_upP {K : PySem.W.Frag} {H H' : Hp} {a : Addr} {xs : List V} (s : ∀ b o, H b = some o → (∀ kvs, o ≠ .dK kvs) → H' b = some o) (h : SqL K H a xs) : SqL K H' a xs := by
  rcases h with (h | ⟨o, h⟩) | h
  · exact .inl (.inl (s _ _ h fun _ z => nomatch z))
  · exact .inl (.inr ⟨o, s _ _ h fun _ z => nomatch z⟩)
  · exact .inr h
theorem seqT_upP {K : PySem.W.Frag} {H H' : Hp} {a : Addr} {xs : List V} (s : ∀ b o, H b = some o → (∀ kvs, o ≠ .dK kvs) → H' b = some o) (h : SqT K H a xs) : SqT K H' a xs := by
  rcases h with (h | ⟨o, h⟩) | h
  · exact .inl (.inl (s _ _ h fun _ z => nomatch z))
  · exact .inl (.inr ⟨o, s _ _ h fun _ z => nomatch z⟩)
  · exact .inr h
mutual
theorem Dp.upP {K : PySem.W.Frag} {H H' : Hp} (s : ∀ b o, H b = some o → (∀ kvs, o ≠ .dK kvs) → H' b = some o) : ∀ (d : PyData) (v : V), Dp K H v d → Dp K H' v d
  | .none, _, h => by cases h; exact .non
  | .bool b, _, h => by cases h; exact .bl b
  | .int i, _, h => by cases h; exact .int i
  | .str x, _, h => by cases h; exact .str x
  | .list ds, _, h => by
    cases h with
    | lst h1 h2 => exact .lst (seqL_upP s h1) (Dp.upPs s ds _ h2)
  | .tuple ds, _, h => by
    cases h with
    | tup h1 h2 => exact .tup (seqT_upP s h1) (Dp.upPs s ds _ h2)
  | .dict _, _, h => by cases h
theorem Dp.upPs {K : PySem.W.Frag} {H H' : Hp} (s : ∀ b o, H b = some o → (∀ kvs, o ≠ .dK kvs) → H' b = some o) : ∀ (ds : List PyData) (vs : List V), DpAll K H vs ds → DpAll K H' vs ds
  | [], _, h => by cases h; exact .nil
  | d :: ds, _, h => by
    cases h with
    | cons h1 h2 => exact .cons (Dp.upP s d _ h1) (Dp.upPs s ds _ h2)
end
/-- a dict is locked: data do not see it -/
theorem Dp.locked {K : PySem.W.Frag} {H : Hp} {a : Addr} {kvs : List (Key × V)} {o : HO} {v : V} {d : PyData} (ha : H a = some (.dK kvs)) (h : Dp K H v d) : Dp K (upd H a o) v d :=
  Dp.upP (fun b u e n => by
    rw [upd_ne (fun z => n kvs (Option.some.inj (e.symm.trans (by rw [z]; exact ha))))]
    exact e) d v h
theorem reads_val {h : Heap} {u : Value} : ∀ {vs : List Value} {ds : List PyData} {as : List Addr}, ReadsAll h vs ds as → u ∈ vs → ∃ d, d ∈ ds ∧ ∃ bs, Reads h u d bs
  | _, _, _, .nil, m => nomatch m
  | _, _, _, .cons r rs, m => by
    rcases List.mem_cons.mp m with e | m
    · subst e
      exact ⟨_, List.mem_cons_self, _, r⟩
    · obtain ⟨d, m1, bs, r1⟩ := reads_val rs m
      exact ⟨d, List.mem_cons_of_mem _ m1, bs, r1⟩
section
variable {X : Cx} {pins : List (Addr × Obj)} {σ : L2.St} {H : Hp} {s : Shared}
theorem rep_data {a : Addr} {o : Obj} {es : Array DictEntry} {ep : Nat} {u : Value} {v : V} {d : PyData} {bs0 : Nat} {A' : Around} {id : String} {rest : List Value} {E : Value → Shared → Prop} {Q : Str → Shared → Prop} (I : Inv X pins σ H s) (ha : s.heap.get? a = some o) (hc : o.cls = .type "dict")
    (hd : o.data = .dict es ep) (hm : u ∈ es.toList.map (·.val)) (hdp : Dp X.K H v d) (hp : Prn d) (r : RelV v u) (hb : bs0 + d.shown.length ≤ sizeLine) (hg : A'.guards = some [.builtin id ⟨.ref a :: rest, []⟩]) (hu : A'.units + d.depth < cLine)
    (q : ∀ s', Inv X pins σ H s' → s'.heap.get? a = some o → Q d.shown s') : wpAny (model X.prog X.w) A' (pyReprUnder bs0 u) Q E s := by
  obtain ⟨as, rd⟩ := Dp.reads I d v u hdp r
  obtain ⟨bs, hbs, hk⟩ := ReprK.of_reads (prog := X.prog) (w := X.w) rd hp.sh (PyData.noDict_hsm hp.nd) hp.sz
  have na : a ∉ bs := by
    intro hm2
    obtain ⟨d', as', r', hd'⟩ := hbs a hm2
    cases r' with
    | list h1 h2 h3 h4 =>
      rw [ha] at h1
      cases h1
      rw [hc] at h2
      exact absurd h2 (by decide)
    | tuple h1 h2 h3 h4 =>
      rw [ha] at h1
      cases h1
      rw [hc] at h2
      exact absurd h2 (by decide)
    | dict h1 h2 h3 h4 h5 =>
      rename_i o' es' n' kvs' as1 bs1
      rw [ha] at h1
      cases h1
      rw [hd] at h3
      cases h3
      obtain ⟨d2, m2, bs2, r2⟩ := reads_val h5 hm
      obtain ⟨e, _⟩ := PyProof.Rows.reads_det (fun _ _ e _ => e) rd r2
      subst e
      have l1 := depth_mem m2
      have l2 := PyData.depthAll_vals_le kvs'
      simp only [PyData.depth] at hd'
      omega
  exact hk bs0 hb A' _ E s Q hg (fun b hb => (Clear.nil b).cons fun e => na (by rw [e]; exact hb)) hu (fun _ _ e => e) fun h' tk kp => q _ (I.kept kp) (kp _ _ ha)
theorem boundBy_fn {M : Model} {A : Around} {E : Value → Shared → Prop} {last : Value → List Value → Sem Value} {x C f : Addr} {ox : Obj} {od : Option Obj} {name : Str} {K : PySem.W.Frag} {Q : Option Value → Shared → Prop} (X : K.In s.heap) (I : PySem.W.InstAt s.heap x ox C od)
    (hs : PySem.W.findIn K (.ref C) name = some (some (.ref f))) (hf : PySem.W.isFn K (.ref f) = true) (h : wpAny M A (last (.ref f) [.ref x]) (fun v => Q (some v)) E s) : wpAny M A (callSpecialIfBoundBy? last (.ref x) name) Q E s := by
  simp only [callSpecialIfBoundBy?, bindSpecialIfBound?]
  refine wpAny_holding (wpAny_bind (wpAny_bind (wpAny_bind (I.type.here ((PySem.W.looks_findIn X hs).here ?_)))))
  refine wpAny_bind (wpAny_askSetting (wpAny_ite ?_))
  have fin : wpAny M A (do let v ← last (.ref f) [.ref x]; pure (some v)) Q E s := wpAny_bind (wpAny_mono h (fun _ _ z => wpAny_pure z) fun _ _ z => z)
  have bd := PySem.W.bind_fn (M := M) X (.ref x) (beq_iff_eq.mp hf)
  split
  · exact wpAny_bind (bd.here (wpAny_pure (by exact fin)))
  · exact wpAny_tryCatch (wpAny_bind (bd.here (wpAny_pure (by exact fin))))
theorem rep_own {C fR b dx : Addr} {fs : List (Str × V)} {k : Nat} {fd : FuncData} {sp : Sp} {bs0 : Nat} {t : Str} {A' : Around} {E : Value → Shared → Prop} {Q : Str → Shared → Prop} (m : Meth X.K C "__repr__" fR) (F : FnOk X.prog X.w X.K X.mg X.base CX0 k fR fd ["self"] sp) (hbd : Binds X.K fd ["self"] [])
    (I : Inv X pins σ H s) (hb : H b = some (.ins C dx fs)) (hr : Room k A') (hf : A'.frames = some X.stack) (h0 : bs0 ≤ sizeLine) (hsp : sp [.ref b] H (fun u H' => u = .str t ∧ H' = H) E0) (q : ∀ s', Inv X pins σ H s' → Q t s') :
    wpAny (model X.prog X.w) A' (pyReprUnder bs0 (.ref b)) Q E s := by
  obtain ⟨ox, od, J⟩ := inst_at I hb
  have e0 := I.env0
  have run := run_at (E' := E) (σ := σ) (pins := pins) F hr ⟨hf, e0.mod, e0.bs, e0.bsz, e0.funs, e0.frf, e0.hok, e0.bare⟩ hbd I (show Vals [V.ref b] [Value.ref b] from .cons rfl .nil) hsp
  refine wpAny_pyReprUnder_ref h0 ?_
  unfold pyReprObjUnder pyReprObjBy
  refine wpAny_bind (wpAny_cRoomFor (by have := hr.units; omega) ?_)
  refine wpAny_bind (m := specialOf (.ref b) (Str.ofString "__repr__")) (wpAny_bind (J.type.here ((PySem.W.looks_findIn I.kIn m.at_).here ?_)))
  show wpAny _ _ (if (some (Value.ref fR)).isNone = true then _ else _) _ _ _
  rw [if_neg (by simp)]
  refine wpAny_bind (m := callSpecialIfBoundBy? _ (.ref b) (Str.ofString "__repr__")) (boundBy_fn I.kIn J m.at_ m.fn (wpAny_mono run (fun r t' hq => ?_) fun _ _ z => z))
  obtain ⟨v', H', I', rv, rfl, rfl⟩ := hq
  obtain ⟨tk, rfl⟩ := (show ∃ tk, r = Value.str t tk from rv)
  refine wpAny_bind (wpAny_isInstance (typeIs_str _ _ _) isSubtype_str_str ?_)
  rw [if_pos rfl]
  exact wpAny_pure ⟨t, tk, rfl, q _ I'⟩
end
/-- how a value of a dict shows -/
def ShV (K : PySem.W.Frag) (C : Addr) (sp : Sp) (H : Hp) (v : V) (t : Str) : Prop :=
  (∃ d, Dp K H v d ∧ Prn d ∧ d.depth ≤ 40 ∧ t = d.shown) ∨ ∃ b dx fs, v = .ref b ∧ H b = some (.ins C dx fs) ∧ sp [.ref b] H (fun u H' => u = .str t ∧ H' = H) E0
def ShKV (K : PySem.W.Frag) (C : Addr) (sp : Sp) (H : Hp) (p : Key × V) (t : Str) : Prop := ∃ x y, p.1 = .inr x ∧ ShV K C sp H p.2 y ∧ t = reprText x ++ ": " ++ y
theorem ent_at {P : Program} {w : World} {K : PySem.W.Frag} {C : Addr} {sp : Sp} {H : Hp} {ks : List (Key × V)} {ts : List Str} (h : Paired (ShKV K C sp H) ks ts) : ∀ {vs : List (Key × Value)} {es : List DictEntry}, KV ks vs → Pairs (mixKind P w) es vs → ∀ (i : Nat) (e : DictEntry), es[i]? = some e →
    ∃ x y tk v, e.key = .str x tk ∧ RelV v e.val ∧ ShV K C sp H v y ∧ ts[i]? = some (reprText x ++ ": " ++ y) := by
  induction h with
  | nil =>
    intro vs es rk rp i e hi
    cases rk
    cases rp
    simp at hi
  | cons hp _ ih =>
    intro vs es rk rp i e hi
    cases rk with
    | cons r1 r2 =>
      cases rp with
      | cons p1 p2 p3 =>
        cases i with
        | zero =>
          obtain ⟨x, y, e1, e2, e3⟩ := hp
          simp only [List.getElem?_cons_zero, Option.some.injEq] at hi
          subst hi
          rw [← r1.1, e1] at p1
          obtain ⟨tk, e4⟩ := Value.isStrOf_shape p1
          exact ⟨x, y, tk, _, e4, by rw [p2]; exact r1.2, e2, by rw [e3]; rfl⟩
        | succ i =>
          obtain ⟨x, y, tk, v, q⟩ := ih r2 p3 i e (by simpa using hi)
          exact ⟨x, y, tk, v, by simpa using q⟩
theorem under_room {k : Nat} {A : Around} (r : Room (k + 1) A) (args : Args) : Room k (A.under (.builtin "dict.__repr__" args)) := by
  have e : (A.under (.builtin "dict.__repr__" args)).depth ≤ A.depth + 1 := by
    first
      | exact Nat.le_of_eq (by rfl)
      | (simp [Around.under, Code.weight, Code.isCreation, Code.isGuard, Code.isCaller, Code.frames, Code.isFrame, guardIds])
  exact ⟨r.hd, by have := r.dp; omega, by have := r.un; rw [units_under_dict_repr]; omega⟩
section
variable {X : Cx} {pins : List (Addr × Obj)} {σ : L2.St} {H : Hp} {s : Shared} {C fR : Addr} {k : Nat} {fd : FuncData} {sp : Sp}
theorem dict_rep {a : Addr} {o : Obj} {kvs : List (Key × V)} {ts : List Str} {A : Around} {E : Value → Shared → Prop} {Q : Value → Shared → Prop} (m : Meth X.K C "__repr__" fR) (F : FnOk X.prog X.w X.K X.mg X.base CX0 k fR fd ["self"] sp) (hbd : Binds X.K fd ["self"] [])
    (I : Inv X pins σ H s) (ha : H a = some (.frz o (.dK kvs))) (hp : Paired (ShKV X.K C sp H) kvs ts) (hz : (dictText ts).length ≤ sizeLine) (hr : Room (k + 1) A) (hf : A.frames = some X.stack) (hg : A.guards = some [])
    (q : ∀ u s', Inv X pins σ H s' → Q (.str (dictText ts) u) s') : wpAny (model X.prog X.w) A (call (.builtin "dict.__repr__") [.ref a]) Q E s := by
  obtain ⟨ho, hlen, hsys, vs, rk, ⟨o2, es, ep, ho2, hex, hd, hko, hpr, hnd⟩⟩ := I.hok a _ ha
  rw [ho] at ho2
  cases ho2
  have hun := hr.un
  have hts : ts.length = es.size := by
    have l1 := Paired.length hp
    have l2 := Paired.length rk
    have l3 := hpr.length
    rw [Array.length_toList] at l3
    omega
  have hpl := piled_le_dictText ts
  refine wpAny_call (codeAny_call_builtin_own (Code.quiet_builtin _ (by decide +kernel)) PySem.F.entry_dict_repr (PySem.F.slot_dict_repr.check _ _ _ _ _ _ _ _ ⟨o, ho, hex.1⟩ (PySem.F.args_dict_repr_1 _) ?_))
  show wpOwn _ A _ (Builtin.dictReprAt 0 ⟨[.ref a], []⟩) _ _ s
  unfold Builtin.dictReprAt
  refine wpOwn_bind (wpOwn_of_wpAny ?_)
  unfold Builtin.Dict.dictSlotNone
  refine wpAny_bind (wpAny_notOrdered_dict ⟨o, ho, hex.1⟩ ?_)
  show wpAny _ _ (pure (Value.ref a)) _ _ s
  refine wpAny_pure ?_
  rw [dictReprRunning_eq]
  refine wpOwn_bind (wpOwn_stackTailAny hg (dictGuardF_off _) (dictGuardF_pos _) ?_)
  refine wpOwn_of_wpAny ?_
  have hg1 := guards_under_guard (isGuard_dict_repr ⟨[.ref a], []⟩) hg
  have hr1 := under_room hr ⟨[.ref a], []⟩
  have hu1 : (A.under (.builtin "dict.__repr__" ⟨[.ref a], []⟩)).units = A.units + 1 := units_under_dict_repr _ _
  show wpAny _ _ (Builtin.Dict.addrOf (.ref a) >>= _) _ _ s
  refine wpAny_bind (wpAny_pure ?_)
  show wpAny _ _ (Builtin.Dict.showsAll a >>= _) _ _ s
  unfold Builtin.Dict.showsAll
  rw [if_neg (by rw [hsys]; simp)]
  refine wpAny_bind (wpAny_pure ?_)
  refine wpAny_bind (wpAny_dictEpoch ho hd ?_)
  refine wpAny_bind (wpAny_dictEntries ho hd ?_)
  refine wpAny_bind ?_
  rw [Std.Legacy.Range.forIn_eq_forIn_range']
  simp only [Std.Legacy.Range.size, Nat.sub_zero, Nat.add_sub_cancel, Nat.div_one]
  refine wpAny_forIn_list _ (fun l r s' => ∃ i, l = List.range' i (es.size - i) ∧ i ≤ es.size ∧ r = (⟨(ts.take i).toArray, piled (ts.take i)⟩ : (Array Str × Nat)) ∧ Inv X pins σ H s') _ ?_ ?_ _ _ ⟨0, by simp, Nat.zero_le _, by simp [piled], I⟩
  · rintro j l _ s1 ⟨i, el, hi, rfl, I1⟩
    have hlt : i < es.size := by
      rcases Nat.lt_or_ge i es.size with h | h
      · exact h
      · rw [Nat.sub_eq_zero_of_le h] at el
        simp at el
    have es1 : es.size - i = (es.size - (i + 1)) + 1 := by omega
    rw [es1, List.range'_succ] at el
    injection el with ej el
    subst ej
    obtain ⟨ho1, _⟩ := I1.hok a _ ha
    obtain ⟨x, y, tk, v, ek, rv, sv, et⟩ := ent_at hp rk hpr j es[j] (by simp [hlt])
    have lt3 : (reprText x ++ ": " ++ y).length = (reprText x).length + 2 + y.length := by
      rw [Str.length_append, Str.length_append]
      rfl
    have p1 := piled_take_succ et
    have p2 := piled_take_le ts (j + 1)
    rw [lt3] at p1
    refine wpAny_bind (wpAny_dictEntries ho1 hd ?_)
    rw [Array.getElem?_eq_getElem hlt]
    have fin : ∀ (E2 : Value → Shared → Prop) s2, Inv X pins σ H s2 → wpAny (model X.prog X.w) (A.under (.builtin "dict.__repr__" ⟨[.ref a], []⟩)) (pyReprUnder (piled (ts.take j) + ((reprText x).length + 3)) es[j].val) (fun z s3 => z = y ∧ Inv X pins σ H s3) E2 s2 := by
      intro E2 s2 I2
      rcases sv with ⟨d, h1, h2, h3, rfl⟩ | ⟨b, dx, fs, rfl, h1, h2⟩
      · obtain ⟨ho3, _⟩ := I2.hok a _ ha
        exact rep_data I2 ho3 hex.1 hd (List.mem_map_of_mem (by simp)) h1 h2 rv (by omega) hg1 (by rw [hu1]; omega) fun s3 I3 _ => ⟨rfl, I3⟩
      · rw [show es[j].val = Value.ref b from rv]
        exact rep_own m F hbd I2 h1 hr1 hf (by omega) h2 fun s3 I3 => ⟨rfl, I3⟩
    refine wpAny_bind (wpAny_holding (wpAny_bind ?_))
    rw [ek]
    refine ReprIs.str x tk (by omega) (piled (ts.take j) + 1) (by omega) _ _ _ _ fun tk2 => ?_
    refine wpAny_bind (wpAny_mono (fin _ _ (I1.tok tk2)) (fun z s3 hz3 => ?_) fun _ _ z => z)
    obtain ⟨rfl, I3⟩ := hz3
    refine wpAny_pure ?_
    obtain ⟨ho3, _⟩ := I3.hok a _ ha
    refine wpAny_bind (wpAny_dictEpoch ho3 hd ?_)
    rw [if_neg (by simp)]
    refine wpAny_pure ⟨j + 1, el, hlt, ?_, I3⟩
    have e1 : (ts.take j).toArray.push (reprText x ++ ": " ++ z) = (ts.take (j + 1)).toArray := by
      rw [List.take_add_one, et]
      simp
    have e2 : piled (ts.take j) + ((reprText x).length + z.length + 4) = piled (ts.take (j + 1)) := by omega
    rw [e1, e2]
  · rintro _ s1 ⟨i, el, hi, rfl, I1⟩
    have hin : i = es.size := by
      rcases Nat.lt_or_ge i es.size with h | h
      · have es1 : es.size - i = (es.size - (i + 1)) + 1 := by omega
        rw [es1, List.range'_succ] at el
        cases el
      · omega
    rw [hin, ← hts, List.take_length]
    refine wpAny_bind (wpAny_mkStr (wpAny_pure ?_) (by simpa [dictText] using hz))
    have fin := q s1.toks _ (I1.tok (s1.toks + 1))
    simpa [dictText] using fin
/-- repr(d): the dict's values are data, or instances of the class -/
def rRepDict (K : PySem.W.Frag) (C : Addr) (sp : Sp) : List V → Hp → VK → Prop := fun xs H Q => ∃ a kvs ts, xs = [.ref a] ∧ H a = some (.dK kvs) ∧ (∀ o, Paired (ShKV K C sp (upd H a (.frz o (.dK kvs)))) kvs ts) ∧ (dictText ts).length ≤ sizeLine ∧ Q (.str (dictText ts)) H
theorem upd_back {H : Hp} {a : Addr} {o u : HO} (h : H a = some u) : upd (upd H a o) a u = H := by
  funext b
  by_cases e : b = a
  · rw [e, upd_same, h]
  · rw [upd_ne e, upd_ne e]
theorem call_repDict (m : Meth X.K C "__repr__" fR) (F : FnOk X.prog X.w X.K X.mg X.base CX0 k fR fd ["self"] sp) (hbd : Binds X.K fd ["self"] []) (hr : Room (k + 2) X.A) (gd : X.A.guards = some []) : CallR X (.builtin "repr") (rRepDict X.K C sp) := by
  intro pins s σ H xs us Q I r h
  obtain ⟨a, kvs, ts, rfl, ha, hp, hz, q⟩ := h
  obtain ⟨u, rfl, ru⟩ := vals1 r
  cases (show u = Value.ref a from ru)
  have mu : Mut (some (.dK kvs)) := trivial
  obtain ⟨od, I1⟩ := I.lock ha mu
  obtain ⟨ho, _, _, _, _, ⟨o2, _, _, ho2, hex, _⟩⟩ := I1.hok a _ upd_same
  rw [ho] at ho2
  cases ho2
  have hun := hr.un
  refine call_repr_slot (idr := "dict.__repr__") (by omega) ⟨od, ho, hex.1⟩ PySem.F.slot_dict_repr ?_
  refine dict_rep m F hbd I1 upd_same (hp od) hz hr.in1 (by exact I.env0.frames) (by exact gd) fun u s' I2 => ⟨_, u, rfl, .str (dictText ts), H, ?_, ⟨u, rfl⟩, q⟩
  have I3 := I2.unlock upd_same (I.nofrz ha mu)
  rw [upd_back ha] at I3
  exact I3
end
open AutoSeq1 (wpAny_loadPart')
/-! ==, != of things that are equal: data, tuples, lists, dicts, one object; nested -/
def EqS (K : PySem.W.Frag) (H : Hp) (E : V → V → Prop) (x y : V) : Prop :=
  EqR K H E x y ∨ ∃ a b xs ys, x = .ref a ∧ y = .ref b ∧ SqT K H a xs ∧ SqT K H b ys ∧ Paired E xs ys
def EqW (K : PySem.W.Frag) (H : Hp) : Nat → V → V → Prop
  | 0 => fun _ _ => False
  | n + 1 => fun x y => (x = y ∧ flatB x = true) ∨ (∃ a, x = .ref a ∧ y = .ref a) ∨ (∃ d, Dp K H x d ∧ Dp K H y d ∧ SeqAt.shaped d = true) ∨ EqS K H (EqW K H n) x y
section
variable {prog : Program} {w : World} {A : Around} {R : Result → Shared → Prop}
theorem tup_ne_run (l b : Addr) (us vs : Array Value) (n m : Nat) (dd ee : Option Addr) (sl sm : Array (Option Value)) (hsz : us.size = vs.size) {s : Shared} (turn : ∀ i (h1 : i < us.size) (h2 : i < vs.size), SeqAt.EqP prog w A.in1 s us[i] vs[i] true)
    (fin : R (.ok (.ret (.bool false))) s) (hl : s.heap.get? l = some { cls := .type "tuple", dict := dd, data := .seq us n, slots := sl }) (hb : s.heap.get? b = some { cls := .type "tuple", dict := ee, data := .seq vs m, slots := sm }) :
    wpAny (model prog w) A.in1 (Builtin.«tuple.__ne__» ⟨[.ref l, .ref b], []⟩) (GQ.FinOf prog w A R) (fun e s' => R (.error e) s') s := by
  have f2 := AutoSeq1.sub_tuple_tuple
  have zl : (us.toList.zip vs.toList).length = us.size := by simp [hsz]
  obtain ⟨hp, g, d, tk, os⟩ := s
  wp_walk using wpAny_loadPart' hl, wpAny_loadPart' hb, wpAny_forIn_list _ (fun rest c s' => c.1 = none ∧ s' = ⟨hp, g, d, tk, os⟩ ∧ ∃ i, rest = (us.toList.zip vs.toList).drop i ∧ i ≤ us.size) _
  case turn =>
    rintro ⟨y, x⟩ rest c s' ⟨hc, rfl, i, hz, hi⟩
    have hlt : i < (us.toList.zip vs.toList).length := by
      rcases Nat.lt_or_ge i (us.toList.zip vs.toList).length with h | h
      · exact h
      · rw [List.drop_of_length_le h] at hz
        cases hz
    have h1 : i < us.size := zl ▸ hlt
    have h2 : i < vs.size := hsz ▸ h1
    rw [List.drop_eq_getElem_cons hlt] at hz
    injection hz with hyx hrest
    have ey : y = us[i] := by simpa using congrArg Prod.fst hyx
    have ex : x = vs[i] := by simpa using congrArg Prod.snd hyx
    subst ey ex
    refine wpAny_bind (turn i h1 h2 _ _ ?_)
    wp_walk
    exact ⟨rfl, rfl, i + 1, hrest, h1⟩
  case fin =>
    rintro ⟨c1, c2⟩ s' ⟨hc, rfl, i, hz, hi⟩
    simp only at hc
    subst hc
    wp_walk
    simpa [Builtin.Tuple.tupleCompareSizes, hsz, bne] using fin
  case h =>
    exact ⟨rfl, rfl, 0, rfl, Nat.zero_le _⟩
end
section
variable {X : Cx} {pins : List (Addr × Obj)} {σ : L2.St} {H : Hp} {s : Shared}
theorem eqS_run (I : Inv X pins σ H s) {A : Around} {F : V → V → Prop} (hu : A.units < cLine) (ih : ∀ x y v u, F x y → RelV x v → RelV y u → SeqAt.EqP X.prog X.w A.in1 s v u true) {x y : V} {v u : Value} (h : EqS X.K H F x y) (rx : RelV x v) (ry : RelV y u)
    (E Q : Value → Shared → Prop) (q : Q (.bool true) s) : wpAny (model X.prog X.w) A (richCompare .Eq v u) Q E s := by
  rcases h with h | ⟨a, b, xs, ys, rfl, rfl, ha, hb, hp⟩
  · exact eqR_run I hu ih h rx ry E Q q
  · cases (show v = Value.ref a from rx)
    cases (show u = Value.ref b from ry)
    obtain ⟨us, r1, p1, _⟩ := I.tuple ha
    obtain ⟨ws, r2, p2, _⟩ := I.tuple hb
    have hsz : us.toArray.size = ws.toArray.size := by
      rw [List.size_toArray, List.size_toArray, ← r1.length, ← r2.length]
      exact Paired.length hp
    refine GQ.rc_tupG hsz hu (fun _ s' => s' = s) p1 p2 (fun i h1 h2 s' e => ?_) (fun s' e => by rw [e]; exact q) rfl
    subst e
    have k := items_run ih hp r1 r2 i (by simpa using h1) (by simpa using h2)
    have k2 : SeqAt.EqP X.prog X.w A.in1 s' us.toArray[i] ws.toArray[i] true := by simpa using k
    exact k2 _ _ ⟨rfl, rfl⟩
theorem eqW_run (I : Inv X pins σ H s) : ∀ (n : Nat) (A : Around), A.units + n + 64 < cLine → ∀ (x y : V) (v u : Value), EqW X.K H n x y → RelV x v → RelV y u → SeqAt.EqP X.prog X.w A s v u true
  | 0, _, _, _, _, _, _, h, _, _ => (show False from h).elim
  | n + 1, A, hu, x, y, v, u, h, rx, ry => by
    rcases h with ⟨rfl, f⟩ | ⟨a, rfl, rfl⟩ | ⟨d, h1, h2, sd⟩ | h
    · exact (eqAt_same rx ry f).eqP
    · cases (show v = Value.ref a from rx)
      cases (show u = Value.ref a from ry)
      exact (SeqAt.EqAt.same _).eqP
    · obtain ⟨as, r1⟩ := Dp.reads I d x v h1 rx
      obtain ⟨bs, r2⟩ := Dp.reads I d y u h2 ry
      have k := SeqAt.eqAt_reads d d A s v u as bs r1 r2 (SeqAt.canLay_of_shaped sd) (SeqAt.canLay_of_shaped sd) (SeqAt.room_of_shaped sd (by omega))
      rw [SeqAt.eqv_refl d (SeqAt.canLay_of_shaped sd)] at k
      exact k.eqP
    · have step := eqS_run I (A := A) (by omega) (eqW_run I n A.in1 (by show A.units + 1 + n + 64 < cLine; omega)) h rx ry
      obtain ⟨a, b, rfl, rfl⟩ : ∃ a b, x = .ref a ∧ y = .ref b := by
        rcases h with (⟨a, b, _, _, e1, e2, _⟩ | ⟨a, b, _, _, e1, e2, _⟩) | ⟨a, b, _, _, e1, e2, _⟩
        · exact ⟨a, b, e1, e2⟩
        · exact ⟨a, b, e1, e2⟩
        · exact ⟨a, b, e1, e2⟩
      cases (show v = Value.ref a from rx)
      cases (show u = Value.ref b from ry)
      by_cases e : a = b
      · subst e
        exact (SeqAt.EqAt.same _).eqP
      · exact SeqAt.eqP_refs e step
end
section
variable {X : Cx}
/-- x == y, equal -/
def rEqS (K : PySem.W.Frag) : R2 := fun x y H Q => ∃ n, n ≤ 40 ∧ EqS K H (EqW K H n) x y ∧ Q (.bl true) H
theorem op_eqS (hu : X.A.units + 120 < cLine) : OpR X (compareOp .Eq) (rEqS X.K) := by
  intro pins s σ H x y v u Q I rx ry h
  obtain ⟨n, hn, h, q⟩ := h
  exact eqS_run I (A := X.A) (by omega) (eqW_run I n X.A.in1 (by show X.A.units + 1 + n + 64 < cLine; omega)) h rx ry _ _ ⟨.bl true, H, I, rfl, q⟩
/-- x != y, two tuples or two dicts that are equal -/
def rNeS (K : PySem.W.Frag) : R2 := fun x y H Q => ∃ n a b, n ≤ 40 ∧ x = .ref a ∧ y = .ref b ∧ ((∃ xs ys, SqT K H a xs ∧ SqT K H b ys ∧ Paired (EqW K H n) xs ys) ∨
  ∃ ks ls, H a = some (.dK ks) ∧ H b = some (.dK ls) ∧ ks.length = ls.length ∧ ∀ p ∈ ks, ∃ u, valV ls p.1 = some u ∧ EqW K H n p.2 u) ∧ Q (.bl false) H
theorem op_neS (hu : X.A.units + 120 < cLine) : OpR X (compareOp .NotEq) (rNeS X.K) := by
  intro pins s σ H x y v u Q I rx ry h
  obtain ⟨n, a, b, hn, rfl, rfl, h, q⟩ := h
  cases (show v = Value.ref a from rx)
  cases (show u = Value.ref b from ry)
  have ih := eqW_run I n X.A.in1 (by show X.A.units + 1 + n + 64 < cLine; omega)
  rcases h with ⟨xs, ys, ha, hb, hp⟩ | ⟨ks, ls, ha, hb, hl, hp⟩
  · obtain ⟨us, r1, p1, _⟩ := I.tuple ha
    obtain ⟨ws, r2, p2, _⟩ := I.tuple hb
    have hsz : us.toArray.size = ws.toArray.size := by
      rw [List.size_toArray, List.size_toArray, ← r1.length, ← r2.length]
      exact Paired.length hp
    obtain ⟨⟨c1, dd, da, sl⟩, ho, hc, m1, hd⟩ := p1
    obtain ⟨⟨c2, ee, db, sm⟩, ho2, hc2, m2, hd2⟩ := p2
    simp only at hc hd hc2 hd2
    subst hc hd hc2 hd2
    refine wpAny_richCompare_same_room (op := .NotEq) ⟨_, ho, rfl⟩ ⟨_, ho2, rfl⟩ F.slot_tuple_ne (GQ.call_here F.slot_tuple_ne ⟨_, ho, rfl⟩ F.entry_tuple_ne (F.args_tuple_ne_2 _ _) ?_) (by omega)
    refine tup_ne_run (R := wants (fun v s' => v ≠ .notImplemented ∧ EP X pins σ Q v s') X.xe) a b us.toArray ws.toArray m1 m2 dd ee sl sm hsz (fun i h1 h2 => ?_) (show _ ∧ _ from ⟨(fun z => nomatch z), (.bl false : V), H, I, rfl, q⟩) ho ho2
    have k := items_run ih hp r1 r2 i (by simpa using h1) (by simpa using h2)
    simpa using k
  · obtain ⟨_, ya, va, ra, da⟩ := (show ObjOk X.prog X.w H s.heap a (.dK ks) from I.hok a _ ha)
    obtain ⟨_, yb, vb, rb, db⟩ := (show ObjOk X.prog X.w H s.heap b (.dK ls) from I.hok b _ hb)
    have hl2 : va.length = vb.length := by rw [← ra.length, ← rb.length]; exact hl
    refine wpAny_richCompare_same_room (op := .NotEq) da.typeIs db.typeIs PySem.F.slot_dict_ne (wpAny_call_entry PySem.F.slot_dict_ne da.typeIs PySem.F.entry_dict_ne ?_ (PySem.F.args_dict_ne_2 _ _)) (by omega)
    show wpAny _ _ (Builtin.Dict.dictSlotArgs "__ne__" ⟨[.ref a, .ref b], []⟩ >>= _) _ _ s
    refine wpAny_bind ?_
    unfold Builtin.Dict.dictSlotArgs
    refine wpAny_bind (wpAny_notOrdered_dict da.typeIs (wpAny_pure ?_))
    refine wpAny_bind (wpAny_isInstance (T := "dict") db.typeIs PySem.F.sub_dict_dict ?_)
    simp only [Bool.not_true, Bool.false_eq_true, if_false]
    refine wpAny_bind (wpAny_pure (wpAny_bind (wpAny_pure ?_)))
    refine wpAny_bind (PySem.W.samePairsP (knd := mixKind X.prog X.w) (r := true) ya yb da db (fun _ => hits_run (A := X.A.in1) ih rb ra hp) ?_)
    refine wpAny_pure ⟨_, rfl, ?_, ?_⟩
    · exact fun x => nomatch x
    · have e : ((va.length == vb.length && true) == false) = false := by simp [hl2]
      rw [e]
      exact ⟨.bl false, H, I, rfl, q⟩
end
/-! list(zip(t, u)) of two tuples: new pairs in a new list -/
section
variable {prog : Program} {w : World} {A : Around} {E : Value → Shared → Prop} {s : Shared}
/-- the next pair, while the one handed out before is still there -/
theorem held_item {z TI TO T i1 i2 l1 l2 : Addr} {f : Bool} {oT : Obj} {k1 k2 : Nat} {xs ys : Array Value} {x y : Value} {Q : Option Value → Shared → Prop} (D : ZipApart z TI TO i1 i2 l1 l2) (hz : IsZipHeld s.heap z TI TO T f)
    (hT : s.heap.get? T = some oT) (pI : IsPair s.heap TI (.ref i1) (.ref i2)) (t1 : s.heap.IsTupleIter i1 l1 k1) (t2 : s.heap.IsTupleIter i2 l2 k2) (u1 : s.heap.IsTuple l1 xs) (u2 : s.heap.IsTuple l2 ys) (hx : xs[k1]? = some x) (hy : ys[k2]? = some y)
    (q : ∀ h', IsZipHeld h' z TI TO T true → h'.IsTupleIter i1 l1 (k1 + 1) → h'.IsTupleIter i2 l2 (k2 + 1) → IsPair h' s.heap.objs.size x y → h'.objs.size = s.heap.objs.size + 1 → (∀ c o, c ≠ z → c ≠ i1 → c ≠ i2 → s.heap.get? c = some o → h'.get? c = some o) →
      Q (some (.ref s.heap.objs.size)) { s with heap := h' }) : wpAny (model prog w) A (pyNext (.ref z)) Q E s := by
  have ty : s.TypeIs (.ref z) "zip" := ⟨_, hz, rfl⟩
  unfold pyNext
  refine wpAny_bind (wpAny_attempt (wpAny_callSpecial?_slot (name := Str.ofString "__next__") ty F.slot_zip_next (wpAny_call_entry F.slot_zip_next ty F.entry_zip_next ?_ (F.args_zip_next_1 _))))
  show wpAny _ _ (field (.ref z) 2 >>= _) _ _ s
  refine wpAny_bind (wpAny_field hz rfl (x := .bool false) rfl ?_); show wpAny _ _ (field (.ref z) 3 >>= _) _ _ s
  refine wpAny_bind (wpAny_field hz rfl (x := .ref TI) rfl ?_); refine wpAny_bind (wpAny_seqItems pI rfl ?_); show wpAny _ _ (Builtin.SmallTypes.ownedTupleIsFree (.ref z) >>= _) _ _ s
  refine wpAny_bind (wpAny_tupleHeld_zip hz hT fun ha za sa => ?_); simp only [Bool.false_eq_true, if_false]
  refine wpAny_bind ?_; rw [← Array.forIn_toList]; simp only [List.forIn_cons, List.forIn_nil]
  refine wpAny_bind (wpAny_bind (wpAny_holding ?_)); show wpAny _ _ (Builtin.SmallTypes.nextOf (.ref i1) >>= _) _ _ _
  refine wpAny_bind (RZ.nextOf_tuple_item (s := { s with heap := ha }) (t1.extBut sa.extBut D.i1z) (u1.extBut sa.extBut D.l1z) hx fun hb tb sb => wpAny_pure ?_)
  refine wpAny_pure ?_; refine wpAny_bind (wpAny_bind (wpAny_holding ?_)); show wpAny _ _ (Builtin.SmallTypes.nextOf (.ref i2) >>= _) _ _ _
  refine wpAny_bind (RZ.nextOf_tuple_item (s := { s with heap := hb }) ((t2.extBut sa.extBut D.i2z).extBut sb.extBut D.i12.symm) ((u2.extBut sa.extBut D.l2z).extBut sb.extBut D.l2i1) hy fun hc tc sc => wpAny_pure ?_)
  refine wpAny_pure (wpAny_pure ?_); show wpAny _ _ (newTuple [x, y] >>= _) _ _ _
  refine wpAny_bind (wpAny_newTuple ?_)
  have hsz : hc.objs.size = s.heap.objs.size := by rw [sc.1, sb.1, sa.1]
  have zc : IsZipHeld hc z TI TO T true := sc.extBut _ _ D.i2z.symm (sb.extBut _ _ D.i1z.symm za)
  have hk : ∀ c o, c ≠ z → c ≠ i1 → c ≠ i2 → s.heap.get? c = some o → hc.get? c = some o := fun c o n1 n2 n3 e => sc.extBut _ _ n3 (sb.extBut _ _ n2 (sa.extBut _ _ n1 e))
  have r1 : hc.IsTupleIter i1 l1 (k1 + 1) := tb.extBut sc.extBut D.i12
  have hp : IsPair (hc.push { cls := .type "tuple", data := .seq #[x, y] }) hc.objs.size x y := Heap.get?_push_size _ rfl
  have hw : (hc.push { cls := .type "tuple", data := .seq #[x, y] }).objs.size = hc.objs.size + 1 := Heap.size_push ..
  refine wpAny_pure ⟨_, rfl, wpAny_pure ?_⟩
  show Q (some (.ref hc.objs.size)) _
  rw [hsz] at hp hw ⊢
  exact q _ (Heap.get?_push_of_some _ zc) (r1.at fun o e => Heap.get?_push_of_some _ e) (tc.at fun o e => Heap.get?_push_of_some _ e) hp hw fun c o n1 n2 n3 e => Heap.get?_push_of_some _ (hk c o n1 n2 n3 e)
theorem held_end {z TI TO T i1 i2 l1 l2 : Addr} {f : Bool} {oT : Obj} {k1 k2 : Nat} {xs ys : Array Value} {Q : Option Value → Shared → Prop} (hh : A.handled = none) (D : ZipApart z TI TO i1 i2 l1 l2) (hz : IsZipHeld s.heap z TI TO T f)
    (hT : s.heap.get? T = some oT) (pI : IsPair s.heap TI (.ref i1) (.ref i2)) (t1 : s.heap.IsTupleIter i1 l1 k1) (t2 : s.heap.IsTupleIter i2 l2 k2) (u1 : s.heap.IsTuple l1 xs) (u2 : s.heap.IsTuple l2 ys) (he : xs[k1]? = none ∨ ys[k2]? = none)
    (q : ∀ h', (∀ c o, c ≠ z → c ≠ i1 → c ≠ i2 → s.heap.get? c = some o → h'.get? c = some o) → Q none { s with heap := h' }) : wpAny (model prog w) A (pyNext (.ref z)) Q E s := by
  have ty : s.TypeIs (.ref z) "zip" := ⟨_, hz, rfl⟩
  have fin : ∀ h' e, (∀ c o, c ≠ z → c ≠ i1 → c ≠ i2 → s.heap.get? c = some o → h'.get? c = some o) → (∃ o, h'.get? e = some o ∧ o.cls = .type "StopIteration") →
      wpAny (model prog w) A (do if ← isInstance (.ref e) (.type "StopIteration") then pure none else throw (.ref e)) Q E { s with heap := h' } := fun h' e hk ⟨o, ho, hc⟩ =>
    wpAny_bind (wpAny_isInstance (T := "StopIteration") (b := true) ⟨o, ho, hc⟩ isSubtype_stop (wpAny_pure (q _ hk)))
  unfold pyNext
  refine wpAny_bind (wpAny_attempt (wpAny_callSpecial?_slot (name := Str.ofString "__next__") ty F.slot_zip_next (wpAny_call_entry F.slot_zip_next ty F.entry_zip_next ?_ (F.args_zip_next_1 _))))
  show wpAny _ _ (field (.ref z) 2 >>= _) _ _ s
  refine wpAny_bind (wpAny_field hz rfl (x := .bool false) rfl ?_); show wpAny _ _ (field (.ref z) 3 >>= _) _ _ s
  refine wpAny_bind (wpAny_field hz rfl (x := .ref TI) rfl ?_); refine wpAny_bind (wpAny_seqItems pI rfl ?_); show wpAny _ _ (Builtin.SmallTypes.ownedTupleIsFree (.ref z) >>= _) _ _ s
  refine wpAny_bind (wpAny_tupleHeld_zip hz hT fun ha za sa => ?_); simp only [Bool.false_eq_true, if_false]
  refine wpAny_bind ?_; rw [← Array.forIn_toList]; simp only [List.forIn_cons, List.forIn_nil]
  refine wpAny_bind (wpAny_bind (wpAny_holding ?_)); show wpAny _ _ (Builtin.SmallTypes.nextOf (.ref i1) >>= _) _ _ _
  cases hx : xs[k1]? with
  | none =>
    refine wpAny_bind (RZ.nextOf_tuple_end (s := { s with heap := ha }) hh (t1.extBut sa.extBut D.i1z) (u1.extBut sa.extBut D.l1z) hx fun hb e sb ie => ?_)
    exact fin hb e (fun c o n1 n2 _ x => sb _ _ n2 (sa.extBut _ _ n1 x)) ie
  | some x =>
    have hy : ys[k2]? = none := by
      rcases he with h | h
      · rw [hx] at h
        cases h
      · exact h
    refine wpAny_bind (RZ.nextOf_tuple_item (s := { s with heap := ha }) (t1.extBut sa.extBut D.i1z) (u1.extBut sa.extBut D.l1z) hx fun hb tb sb => wpAny_pure ?_)
    refine wpAny_pure ?_; refine wpAny_bind (wpAny_bind (wpAny_holding ?_)); show wpAny _ _ (Builtin.SmallTypes.nextOf (.ref i2) >>= _) _ _ _
    refine wpAny_bind (RZ.nextOf_tuple_end (s := { s with heap := hb }) hh ((t2.extBut sa.extBut D.i2z).extBut sb.extBut D.i12.symm) ((u2.extBut sa.extBut D.l2z).extBut sb.extBut D.l2i1) hy fun hc e sc ie => ?_)
    exact fin hc e (fun c o n1 n2 n3 x => sc _ _ n3 (sb.extBut _ _ n2 (sa.extBut _ _ n1 x))) ie
end
/-- how far a zip of two tuples has come -/
def ZSt (h : Heap) (z TI TO i1 i2 l1 l2 S : Addr) (i : Nat) : Prop := IsPair h TI (.ref i1) (.ref i2) ∧ h.IsTupleIter i1 l1 i ∧ h.IsTupleIter i2 l2 i ∧
  ((IsZip h z TI TO .none ∧ ∃ a b, IsPair h TO a b) ∨ ∃ T f oT, IsZipHeld h z TI TO T f ∧ h.get? T = some oT ∧ T ≠ z ∧ T ≠ i1 ∧ T ≠ i2 ∧ T ≠ S)
theorem ZSt.type {s : Shared} {z TI TO i1 i2 l1 l2 S : Addr} {i : Nat} (h : ZSt s.heap z TI TO i1 i2 l1 l2 S i) : s.TypeIs (.ref z) "zip" := by
  obtain ⟨_, _, _, ⟨hz, _⟩ | ⟨T, f, oT, hz, _⟩⟩ := h
  · exact ⟨_, hz, rfl⟩
  · exact ⟨_, hz, rfl⟩
/-- nothing but S is another -/
theorem ZSt.keep {h h' : Heap} {z TI TO i1 i2 l1 l2 S : Addr} {i : Nat} (st : ZSt h z TI TO i1 i2 l1 l2 S i) (n : S ∉ [z, TI, TO, i1, i2]) (k : ∀ b o, b ≠ S → h.get? b = some o → h'.get? b = some o) : ZSt h' z TI TO i1 i2 l1 l2 S i := by
  obtain ⟨p, t1, t2, c⟩ := st
  simp only [List.mem_cons, List.not_mem_nil, or_false, not_or] at n
  obtain ⟨n1, n2, n3, n4, n5⟩ := n
  refine ⟨k _ _ (Ne.symm n2) p, t1.at fun o e => k _ o (Ne.symm n4) e, t2.at fun o e => k _ o (Ne.symm n5) e, ?_⟩
  rcases c with ⟨hz, a, b, hb⟩ | ⟨T, f, oT, hz, hT, r1, r2, r3, r4⟩
  · exact .inl ⟨k _ _ (Ne.symm n1) hz, a, b, k _ _ (Ne.symm n3) hb⟩
  · exact .inr ⟨T, f, oT, k _ _ (Ne.symm n1) hz, k _ _ r4 hT, r1, r2, r3, r4⟩
section
variable {prog : Program} {w : World} {A : Around} {E : Value → Shared → Prop} {s : Shared}
theorem zst_item {z TI TO i1 i2 l1 l2 S : Addr} {i : Nat} {xs ys : Array Value} {x y : Value} {Q : Option Value → Shared → Prop} (D : ZipApart z TI TO i1 i2 l1 l2) (st : ZSt s.heap z TI TO i1 i2 l1 l2 S i) (hS : S < s.heap.objs.size)
    (u1 : s.heap.IsTuple l1 xs) (u2 : s.heap.IsTuple l2 ys) (hx : xs[i]? = some x) (hy : ys[i]? = some y)
    (q : ∀ h', ZSt h' z TI TO i1 i2 l1 l2 S (i + 1) → IsPair h' s.heap.objs.size x y → h'.objs.size = s.heap.objs.size + 1 → (∀ c o, c ∉ [z, TO, i1, i2] → s.heap.get? c = some o → h'.get? c = some o) → Q (some (.ref s.heap.objs.size)) { s with heap := h' }) :
    wpAny (model prog w) A (pyNext (.ref z)) Q E s := by
  obtain ⟨p, t1, t2, c⟩ := st
  have lt : ∀ {c : Addr} {o : Obj}, s.heap.get? c = some o → s.heap.objs.size ≠ c := fun e => Nat.ne_of_gt (Heap.lt_size e)
  have m1 : s.heap.objs.size ≠ i1 := let ⟨_, e, _⟩ := t1; lt e
  have m2 : s.heap.objs.size ≠ i2 := let ⟨_, e, _⟩ := t2; lt e
  rcases c with ⟨hz, a, b, hb⟩ | ⟨T, f, oT, hz, hT, r1, r2, r3, r4⟩
  · refine RZ.pyNext_zipT_item D hz p hb t1 t2 u1 u2 hx hy fun h' a1 a2 a3 a4 a5 a6 hk => ?_
    refine q h' ⟨hk _ _ D.TIz D.TITO D.TIi1 D.TIi2 p, a3, a4, .inr ⟨s.heap.objs.size, false, _, a1, a5, lt hz, m1, m2, Nat.ne_of_gt hS⟩⟩ a5 a6 fun c o n e => ?_
    simp only [List.mem_cons, List.not_mem_nil, or_false, not_or] at n
    exact hk c o n.1 n.2.1 n.2.2.1 n.2.2.2 e
  · refine held_item D hz hT p t1 t2 u1 u2 hx hy fun h' a1 a3 a4 a5 a6 hk => ?_
    refine q h' ⟨hk _ _ D.TIz D.TIi1 D.TIi2 p, a3, a4, .inr ⟨T, true, oT, a1, hk _ _ r1 r2 r3 hT, r1, r2, r3, r4⟩⟩ a5 a6 fun c o n e => ?_
    simp only [List.mem_cons, List.not_mem_nil, or_false, not_or] at n
    exact hk c o n.1 n.2.2.1 n.2.2.2 e
theorem zst_end {z TI TO i1 i2 l1 l2 S : Addr} {i : Nat} {xs ys : Array Value} {Q : Option Value → Shared → Prop} (hh : A.handled = none) (D : ZipApart z TI TO i1 i2 l1 l2) (st : ZSt s.heap z TI TO i1 i2 l1 l2 S i)
    (u1 : s.heap.IsTuple l1 xs) (u2 : s.heap.IsTuple l2 ys) (he : xs[i]? = none ∨ ys[i]? = none) (q : ∀ h', (∀ c o, c ∉ [z, TO, i1, i2] → s.heap.get? c = some o → h'.get? c = some o) → Q none { s with heap := h' }) : wpAny (model prog w) A (pyNext (.ref z)) Q E s := by
  obtain ⟨p, t1, t2, c⟩ := st
  rcases c with ⟨hz, a, b, hb⟩ | ⟨T, f, oT, hz, hT, r1, r2, r3, r4⟩
  · refine RZ.pyNext_zipT_end hh D hz p hb t1 t2 u1 u2 he fun h' hk => q h' fun c o n e => ?_
    simp only [List.mem_cons, List.not_mem_nil, or_false, not_or] at n
    exact hk c o n.1 n.2.1 n.2.2.1 n.2.2.2 e
  · refine held_end hh D hz hT p t1 t2 u1 u2 he fun h' hk => q h' fun c o n e => ?_
    simp only [List.mem_cons, List.not_mem_nil, or_false, not_or] at n
    exact hk c o n.1 n.2.2.1 n.2.2.2 e
end
/-- the pairs laid so far, above lo -/
structure ZG (xs ys : Array Value) (lo : Addr) (h : Heap) (as : List Addr) : Prop where
  rise : as.Pairwise (· < ·)
  above : ∀ a ∈ as, lo < a
  pairs : ∀ (j : Nat) (a : Addr), as[j]? = some a → ∃ x y, xs[j]? = some x ∧ ys[j]? = some y ∧ IsPair h a x y
theorem ZG.there {xs ys : Array Value} {lo : Addr} {h : Heap} {as : List Addr} (g : ZG xs ys lo h as) {a : Addr} (ha : a ∈ as) : a < h.objs.size := by
  obtain ⟨j, hj⟩ := List.mem_iff_getElem?.mp ha
  obtain ⟨x, y, _, _, e⟩ := g.pairs j a hj
  exact Heap.lt_size e
theorem ZG.keep {xs ys : Array Value} {lo : Addr} {h h' : Heap} {as : List Addr} (g : ZG xs ys lo h as) (k : ∀ b o, lo < b → h.get? b = some o → h'.get? b = some o) : ZG xs ys lo h' as :=
  ⟨g.rise, g.above, fun j a hj => let ⟨x, y, e1, e2, e3⟩ := g.pairs j a hj; ⟨x, y, e1, e2, k a _ (g.above a (List.mem_of_getElem? hj)) e3⟩⟩
theorem ZG.snoc {xs ys : Array Value} {lo : Addr} {h h' : Heap} {as : List Addr} {b : Addr} {x y : Value} (g : ZG xs ys lo h as) (k : ∀ b o, lo < b → h.get? b = some o → h'.get? b = some o) (hb : b = h.objs.size) (hl : lo < b)
    (hx : xs[as.length]? = some x) (hy : ys[as.length]? = some y) (hp : IsPair h' b x y) : ZG xs ys lo h' (as ++ [b]) := by
  have g' := g.keep k
  refine ⟨List.pairwise_append.mpr ⟨g.rise, List.pairwise_singleton _ _, fun a ha c hc => ?_⟩, fun a ha => ?_, fun j a hj => ?_⟩
  · rw [List.mem_singleton.mp hc, hb]
    exact g.there ha
  · rcases List.mem_append.mp ha with ha | ha
    · exact g.above a ha
    · rw [List.mem_singleton.mp ha]
      exact hl
  · by_cases lt : j < as.length
    · rw [List.getElem?_append_left lt] at hj
      exact g'.pairs j a hj
    · rw [List.getElem?_append_right (by omega)] at hj
      have e : j - as.length = 0 := by
        by_cases z : j - as.length = 0
        · exact z
        · rw [List.getElem?_eq_none (by simp; omega)] at hj
          cases hj
      rw [e] at hj
      have ej : j = as.length := by omega
      subst ej
      cases hj
      exact ⟨x, y, hx, hy, hp⟩
section
variable {prog : Program} {w : World} {A : Around} {s : Shared} {R : Result → Shared → Prop}
theorem z_loop {S z TI TO i1 i2 l1 l2 lo : Addr} {xs ys : Array Value} {n : Nat} (hh : A.handled = none) (D : ZipApart z TI TO i1 i2 l1 l2) (hn : n = min xs.size ys.size) (hz : n ≤ sizeLine) (aS : S ∉ [z, TI, TO, i1, i2]) (aL : l1 ≠ S ∧ l2 ≠ S)
    (low : ∀ b ∈ [S, z, TO, i1, i2], b ≤ lo) (res : Value) {h₁ : Heap}
    (hR : ∀ h' tk acc c as, (∀ b o, b ∉ [S, z, TO, i1, i2] → h₁.get? b = some o → h'.get? b = some o) → h'.get? S = some { cls := .type "list", dict := none, data := .seq acc c, slots := #[] } → as.length = n → ZG xs ys lo h' as →
      acc.toList = as.map Value.ref → R (.ok (.ret res)) { s with heap := h', toks := tk }) :
    ∀ (k i : Nat) (h : Heap) (tk c : Nat) (acc : Array Value) (as : List Addr), n - i = k → i ≤ n → ZSt h z TI TO i1 i2 l1 l2 S i → h.IsTuple l1 xs → h.IsTuple l2 ys → (∀ b o, b ∉ [S, z, TO, i1, i2] → h₁.get? b = some o → h.get? b = some o) →
      h.get? S = some { cls := .type "list", dict := none, data := .seq acc c, slots := #[] } → acc.toList = as.map Value.ref → as.length = i → ZG xs ys lo h as → lo < h.objs.size →
      codeAny (model prog w) A (.builtin "list.extend.loop" ⟨[.ref S, .ref z, res], []⟩) R { s with heap := h, toks := tk } := by
  have sub : ∀ b, b ∉ [S, z, TO, i1, i2] → b ∉ [z, TO, i1, i2] := fun b hb m => hb (List.mem_cons_of_mem _ m)
  have up2 : ∀ b, lo < b → b ∉ [S, z, TO, i1, i2] := fun b hb m => absurd (low b m) (Nat.not_le_of_lt hb)
  have S4 : S ∉ [z, TO, i1, i2] := fun m => aS (by
    simp only [List.mem_cons, List.not_mem_nil, or_false] at m ⊢
    rcases m with m | m | m | m
    · exact .inl m
    · exact .inr (.inr (.inl m))
    · exact .inr (.inr (.inr (.inl m)))
    · exact .inr (.inr (.inr (.inr m))))
  intro k
  induction k with
  | zero =>
    intro i h tk c acc as hk hi st u1 u2 kp hS ha hl g hs
    refine codeAny_builtin PySem.F.entry_extend_loop ?_; rw [Around.under_plainId PySem.F.plain_extend_loop _]
    show wpAny _ A.in1 (pyNext (.ref z) >>= _) _ _ _
    have e : xs[i]? = none ∨ ys[i]? = none := by
      have : i = min xs.size ys.size := by omega
      rcases Nat.le_total xs.size ys.size with q | q
      · exact .inl (Array.getElem?_eq_none (by omega))
      · exact .inr (Array.getElem?_eq_none (by omega))
    refine wpAny_bind (zst_end (A := A.in1) (s := { s with heap := h, toks := tk }) hh D st u1 u2 e fun h' hk' => ?_)
    exact wpAny_pure (hR h' tk acc c as (fun b o m e => hk' b o (sub b m) (kp b o m e)) (hk' S _ S4 hS) (by omega) (g.keep fun b o lb e => hk' b o (sub b (up2 b lb)) e) ha)
  | succ k ih =>
    intro i h tk c acc as hk hi st u1 u2 kp hS ha hl g hs
    have hx : i < xs.size := by omega
    have hy : i < ys.size := by omega
    have sz : acc.size = i := by rw [← Array.length_toList, ha, List.length_map, hl]
    have lS : S < h.objs.size := Heap.lt_size hS
    refine codeAny_builtin PySem.F.entry_extend_loop ?_; rw [Around.under_plainId PySem.F.plain_extend_loop _]
    show wpAny _ A.in1 (pyNext (.ref z) >>= _) _ _ _
    refine wpAny_bind (zst_item (A := A.in1) (s := { s with heap := h, toks := tk }) D st lS u1 u2 (Array.getElem?_eq_getElem hx) (Array.getElem?_eq_getElem hy) fun h' st' hp sz' hk' => ?_)
    dsimp only at hp sz' hk' ⊢
    have hS' := hk' S _ S4 hS
    have up : ∀ b o, b ≠ S → h'.get? b = some o → (h'.update S (Obj.mapSeq (·.push (Value.ref h.objs.size)))).get? b = some o := fun b o hb e => (Heap.get?_update_other _ _ (Ne.symm hb)).trans e
    have nl : ∀ b o, lo < b → h.get? b = some o → (h'.update S (Obj.mapSeq (·.push (Value.ref h.objs.size)))).get? b = some o := fun b o lb e => up b o (fun z => up2 b lb (by simp [z])) (hk' b o (sub b (up2 b lb)) e)
    have hp' : IsPair (h'.update S (Obj.mapSeq (·.push (Value.ref h.objs.size)))) h.objs.size _ _ := up _ _ (Nat.ne_of_gt lS) hp
    show wpAny _ A.in1 (updateSeq S (·.push (Value.ref h.objs.size)) >>= _) _ _ _
    refine wpAny_bind (wpAny_updateSeq hS' rfl (wpAny_pure ⟨plainId_quiet PySem.F.plain_extend_loop _, ?_⟩) (by rw [sz]; omega) (by show (acc.push (Value.ref h.objs.size)).size ≤ sizeLine + 1; rw [Array.size_push, sz]; omega))
    have tup : ∀ {l : Addr} {vs : Array Value}, l ≠ S → l ∉ [z, TO, i1, i2] → h.IsTuple l vs → (h'.update S (Obj.mapSeq (·.push (Value.ref h.objs.size)))).IsTuple l vs := fun n1 n2 ⟨o, e, r⟩ => ⟨o, up _ o n1 (hk' _ o n2 e), r⟩
    have L1 : l1 ∉ [z, TO, i1, i2] := by
      simp only [List.mem_cons, List.not_mem_nil, or_false, not_or]
      exact ⟨D.l1z, D.l1TO, D.l1i1, D.l1i2⟩
    have L2 : l2 ∉ [z, TO, i1, i2] := by
      simp only [List.mem_cons, List.not_mem_nil, or_false, not_or]
      exact ⟨D.l2z, D.l2TO, D.l2i1, D.l2i2⟩
    refine ih (i + 1) _ tk _ (acc.push (Value.ref h.objs.size)) (as ++ [h.objs.size]) (by omega) (by omega) (st'.keep aS up) (tup aL.1 L1 u1) (tup aL.2 L2 u2) (fun b o m e => up b o (fun z => m (by simp [z])) (hk' b o (sub b m) (kp b o m e)))
      (Heap.get?_update_self _ hS' rfl) (by rw [Array.toList_push, ha, List.map_append]; rfl) (by rw [List.length_append, hl]; rfl) (g.snoc nl rfl hs (by rw [hl]; exact Array.getElem?_eq_getElem hx) (by rw [hl]; exact Array.getElem?_eq_getElem hy) hp') (Nat.lt_trans hs (Heap.lt_size hp'))
end
theorem zip_len0 : typeLookup (.type "zip") "__len__" = pure none := am_miss_of_fast (by decide +kernel)
theorem zip_hint0 : typeLookup (.type "zip") "__length_hint__" = pure none := am_miss_of_fast (by decide +kernel)
section
variable {prog : Program} {w : World} {A : Around} {E : Value → Shared → Prop} {s : Shared}
/-- a zip of two tuples just made -/
structure Z0 (h : Heap) (z TI TO i1 i2 l1 l2 : Addr) (xs ys : Array Value) : Prop where
  iz : IsZip h z TI TO .none
  ti : IsPair h TI (.ref i1) (.ref i2)
  to : ∃ a b, IsPair h TO a b
  t1 : h.IsTupleIter i1 l1 0
  t2 : h.IsTupleIter i2 l2 0
  u1 : h.IsTuple l1 xs
  u2 : h.IsTuple l2 ys
  d : ZipApart z TI TO i1 i2 l1 l2
theorem Z0.keep {h h' : Heap} {z TI TO i1 i2 l1 l2 : Addr} {xs ys : Array Value} (q : Z0 h z TI TO i1 i2 l1 l2 xs ys) (k : ∀ b o, b < h.objs.size → h.get? b = some o → h'.get? b = some o) : Z0 h' z TI TO i1 i2 l1 l2 xs ys := by
  have kk : ∀ b o, h.get? b = some o → h'.get? b = some o := fun b o e => k b o (Heap.lt_size e) e
  obtain ⟨a, b, e⟩ := q.to
  obtain ⟨o1, e1, r1⟩ := q.u1
  obtain ⟨o2, e2, r2⟩ := q.u2
  exact ⟨kk _ _ q.iz, kk _ _ q.ti, ⟨a, b, kk _ _ e⟩, q.t1.at fun o e => kk _ o e, q.t2.at fun o e => kk _ o e, ⟨o1, kk _ _ e1, r1⟩, ⟨o2, kk _ _ e2, r2⟩, q.d⟩
theorem Z0.lt {h : Heap} {z TI TO i1 i2 l1 l2 : Addr} {xs ys : Array Value} (q : Z0 h z TI TO i1 i2 l1 l2 xs ys) : ∀ b ∈ [z, TI, TO, i1, i2, l1, l2], b < h.objs.size := by
  obtain ⟨a, b, e⟩ := q.to
  obtain ⟨o1, e1, r1⟩ := q.u1
  obtain ⟨o2, e2, r2⟩ := q.u2
  obtain ⟨o3, e3, _⟩ := q.t1
  obtain ⟨o4, e4, _⟩ := q.t2
  intro c hc
  simp only [List.mem_cons, List.not_mem_nil, or_false] at hc
  rcases hc with h | h | h | h | h | h | h
  · rw [h]; exact Heap.lt_size q.iz
  · rw [h]; exact Heap.lt_size q.ti
  · rw [h]; exact Heap.lt_size e
  · rw [h]; exact Heap.lt_size e3
  · rw [h]; exact Heap.lt_size e4
  · rw [h]; exact Heap.lt_size e1
  · rw [h]; exact Heap.lt_size e2
theorem z_extend {R : Result → Shared → Prop} {z TI TO i1 i2 l1 l2 S : Addr} {xs ys : Array Value} {n c₀ : Nat} (hh : A.handled = none) (q0 : Z0 s.heap z TI TO i1 i2 l1 l2 xs ys) (hn : n = min xs.size ys.size) (hz : n ≤ sizeLine)
    (aS : ∀ b ∈ [z, TI, TO, i1, i2, l1, l2], b < S) (res : Value) (hS : s.heap.get? S = some { cls := .type "list", data := .seq #[] c₀ })
    (hR : ∀ h' tk acc c as, (∀ b o, b ∉ [S, z, TO, i1, i2] → s.heap.get? b = some o → h'.get? b = some o) → h'.get? S = some { cls := .type "list", dict := none, data := .seq acc c, slots := #[] } → as.length = n → ZG xs ys S h' as →
      acc.toList = as.map Value.ref → R (.ok (.ret res)) { s with heap := h', toks := tk }) :
    wpAny (model prog w) A.in1 (Builtin.List.listExtendWith (.ref S) (.ref z) res) (fun fin s' => match fin with | .done f => R (.ok f) s' | .again c' => c'.quiet = true ∧ codeAny (model prog w) A c' R s') (fun e s' => R (.error e) s') s := by
  have nS : ∀ b ∈ [z, TI, TO, i1, i2, l1, l2], b ≠ S := fun b hb => Nat.ne_of_lt (aS b hb)
  have ty : s.TypeIs (.ref z) "zip" := ⟨_, q0.iz, rfl⟩
  have lS : S < s.heap.objs.size := Heap.lt_size hS
  unfold Builtin.List.listExtendWith
  refine wpAny_bind (wpAny_typeOf ty ?_)
  have e1 : Builtin.List.listSameRef (.ref S) (.ref z) = false := by simp [Builtin.List.listSameRef, Ne.symm (nS z (by simp))]
  have e2 : (Value.type "zip" == Value.type "list") = false := by decide
  have e3 : (Value.type "zip" == Value.type "tuple") = false := by decide
  simp only [e1, e2, e3, Bool.or_false, Bool.false_eq_true, if_false]
  refine wpAny_bind (wpAny_pyIter_zip q0.iz ?_); refine wpAny_bind (wpAny_holding ?_)
  unfold Builtin.List.listLengthHint
  refine wpAny_bind (wpAny_specialOf ty zip_len0 ?_); show wpAny _ A.in1 (specialOf (Value.ref z) (Str.ofString "__length_hint__") >>= _) _ _ s
  refine wpAny_bind (wpAny_specialOf ty zip_hint0 ?_); refine wpAny_pure ?_
  show wpAny _ A.in1 (rule "list.extend.makes-room" >>= fun _ => Builtin.List.listTouch (.ref S) >>= fun _ => again (.builtin "list.extend.loop" ⟨[.ref S, .ref z, res], []⟩)) _ _ s
  refine wpAny_bind (wpAny_rule ?_); refine wpAny_bind ?_
  show wpAny _ A.in1 (updateSeq S (·.push .none) >>= fun _ => updateSeq S (·.pop)) _ _ s
  refine wpAny_bind (wpAny_updateSeq hS rfl ?_)
  have g1 := Heap.get?_update_self (Obj.mapSeq (·.push Value.none)) hS rfl
  refine wpAny_updateSeq (hz := by seq_fits) g1 rfl ?_
  have g2 := Heap.get?_update_self (Obj.mapSeq (·.pop)) g1 rfl
  have oth : ∀ b o, b ≠ S → s.heap.get? b = some o → ((s.heap.update S (Obj.mapSeq (·.push Value.none))).update S (Obj.mapSeq (·.pop))).get? b = some o := fun b o n e => (Heap.get?_update_other _ _ (Ne.symm n)).trans ((Heap.get?_update_other _ _ (Ne.symm n)).trans e)
  obtain ⟨a, b, e⟩ := q0.to
  obtain ⟨o1, x1, r1⟩ := q0.u1
  obtain ⟨o2, x2, r2⟩ := q0.u2
  refine wpAny_pure ⟨plainId_quiet PySem.F.plain_extend_loop _, z_loop (s := s) (h₁ := s.heap) (lo := S) (n := n) hh q0.d hn hz ?_ ⟨nS _ (by simp), nS _ (by simp)⟩ ?_ res hR n 0 _ _ _ #[] [] (Nat.sub_zero _) (Nat.zero_le _)
    ⟨oth _ _ (nS _ (by simp)) q0.ti, q0.t1.at fun o e => oth _ o (nS _ (by simp)) e, q0.t2.at fun o e => oth _ o (nS _ (by simp)) e, .inl ⟨oth _ _ (nS _ (by simp)) q0.iz, a, b, oth _ _ (nS _ (by simp)) e⟩⟩
    ⟨o1, oth _ _ (nS _ (by simp)) x1, r1⟩ ⟨o2, oth _ _ (nS _ (by simp)) x2, r2⟩ (fun b o m e => oth b o (fun z => m (by simp [z])) e) g2 rfl rfl ⟨List.Pairwise.nil, (fun _ ha => nomatch ha), (fun j a hj => by simp at hj)⟩ (Heap.lt_size g2)⟩
  · intro m
    exact Nat.lt_irrefl _ (aS S (by
      simp only [List.mem_cons, List.not_mem_nil, or_false] at m ⊢
      rcases m with m | m | m | m | m
      · exact .inl m
      · exact .inr (.inl m)
      · exact .inr (.inr (.inl m))
      · exact .inr (.inr (.inr (.inl m)))
      · exact .inr (.inr (.inr (.inr (.inl m))))))
  · intro b hb
    simp only [List.mem_cons, List.not_mem_nil, or_false] at hb
    rcases hb with h | h | h | h | h
    · rw [h]; exact Nat.le_refl _
    · rw [h]; exact Nat.le_of_lt (aS _ (by simp))
    · rw [h]; exact Nat.le_of_lt (aS _ (by simp))
    · rw [h]; exact Nat.le_of_lt (aS _ (by simp))
    · rw [h]; exact Nat.le_of_lt (aS _ (by simp))
theorem z_call {Q : Value → Shared → Prop} {z TI TO i1 i2 l1 l2 : Addr} {xs ys : Array Value} {n : Nat} (hh : A.handled = none) (q0 : Z0 s.heap z TI TO i1 i2 l1 l2 xs ys) (hn : n = min xs.size ys.size) (hz : n ≤ sizeLine)
    (q : ∀ h' tk acc c as, (∀ b o, b ∉ [z, TO, i1, i2] → s.heap.get? b = some o → h'.get? b = some o) → h'.get? s.heap.objs.size = some { cls := .type "list", dict := none, data := .seq acc c, slots := #[] } → as.length = n → ZG xs ys s.heap.objs.size h' as →
      acc.toList = as.map Value.ref → Q (.ref s.heap.objs.size) { s with heap := h', toks := tk }) : wpAny (model prog w) A (call (.type "list") [.ref z]) Q E s := by
  refine callType_codes (Q₁ := fun obj s₁ => obj = .ref s.heap.objs.size ∧ s₁ = { s with heap := s.heap.push { cls := .type "list", data := .seq #[] } }) PySem.F.called_list (PySem.F.typeCall_list_1 _) PySem.F.entry_list_init (code_list_new _ ⟨rfl, rfl⟩) fun obj s₁ h₁ => ?_
  obtain ⟨rfl, rfl⟩ := h₁
  have hS : (s.heap.push { cls := .type "list", data := .seq #[] }).get? s.heap.objs.size = some { cls := .type "list", data := .seq #[] } := Heap.get?_push_size _ rfl
  refine ⟨⟨_, hS, rfl⟩, PySem.F.args_list_init_2 _ _, ?_⟩
  show wpAny _ _ (do let old ← Builtin.List.listItems (.ref s.heap.objs.size); Builtin.List.listUpdate (.ref s.heap.objs.size) (fun _ => #[]); letGo old.toList.reverse; Builtin.List.listExtendWith (.ref s.heap.objs.size) (.ref z) .none) _ _ _
  refine wpAny_bind ?_; unfold Builtin.List.listItems; refine wpAny_bind (wpAny_seqItems hS rfl (wpAny_pure ?_))
  show wpAny _ _ (updateSeq s.heap.objs.size (fun _ => #[]) >>= fun _ => letGo (#[] : Array Value).toList.reverse >>= fun _ => Builtin.List.listExtendWith (.ref s.heap.objs.size) (.ref z) .none) _ _ _
  refine wpAny_bind (wpAny_updateSeq hS rfl ?_)
  have g1 := Heap.get?_update_self (Obj.mapSeq (fun _ => (#[] : Array Value))) hS rfl
  have oth : ∀ b o, b ≠ s.heap.objs.size → s.heap.get? b = some o → ((s.heap.push { cls := .type "list", data := .seq #[] }).update s.heap.objs.size (Obj.mapSeq (fun _ => (#[] : Array Value)))).get? b = some o :=
    fun b o n e => (Heap.get?_update_other _ _ (Ne.symm n)).trans (Heap.get?_push_of_some _ e)
  refine wpAny_bind (wpAny_letGo ?_)
  refine z_extend (A := A.in1) hh (q0.keep fun b o lb e => oth b o (Nat.ne_of_lt lb) e) hn hz q0.lt .none g1 fun h' tk acc c as hk hS' hl hG ha => ?_
  refine ⟨rfl, q h' tk acc c as (fun b o m e => hk b o (fun y => ?_) (oth b o (Nat.ne_of_lt (Heap.lt_size e)) e)) hS' hl hG ha⟩
  rcases List.mem_cons.mp y with y | y
  · exact Nat.ne_of_lt (Heap.lt_size e) y
  · exact m y
end
/-- pairs tracked at these addresses -/
def putP : Hp → List Addr → List (V × V) → Hp
  | H, a :: as, p :: ps => putP (upd H a (.tup [p.1, p.2])) as ps
  | H, _, _ => H
theorem putP_off {b : Addr} : ∀ (as : List Addr) (ps : List (V × V)) (H : Hp), b ∉ as → putP H as ps b = H b
  | [], _, _, _ => by unfold putP; rfl
  | _ :: _, [], _, _ => by unfold putP; rfl
  | a :: as, p :: ps, H, h => by
    unfold putP
    rw [putP_off as ps _ fun z => h (List.mem_cons_of_mem _ z), upd_ne fun z => h (by rw [z]; exact List.mem_cons_self)]
theorem putP_at : ∀ (as : List Addr) (ps : List (V × V)) (H : Hp), as.length = ps.length → as.Nodup → ∀ (j : Nat) (a : Addr), as[j]? = some a → ∃ x y, ps[j]? = some (x, y) ∧ putP H as ps a = some (.tup [x, y])
  | [], _, _, _, _, _, _, e => by simp at e
  | _ :: _, [], _, h, _, _, _, _ => by cases h
  | a :: as, p :: ps, H, h, nd, j, b, e => by
    have nd := List.nodup_cons.mp nd
    unfold putP
    cases j with
    | zero =>
      cases e
      exact ⟨p.1, p.2, rfl, by rw [putP_off as ps _ nd.1, upd_same]⟩
    | succ j =>
      exact putP_at as ps _ (Nat.succ.inj h) nd.2 j b e
section
variable {X : Cx} {pins : List (Addr × Obj)} {σ : L2.St} {H : Hp} {s : Shared}
theorem zip_laid {h' : Heap} {tk c : Nat} {xs ys : List V} {its its2 : List Value} {acc : Array Value} {as : List Addr} {S n : Nat} (I : Inv X pins σ H s) (rx : Vals xs its) (ry : Vals ys its2) (hn : n = min xs.length ys.length) (hz : n ≤ sizeLine) (lS : s.heap.objs.size ≤ S)
    (hk : ∀ b o, s.heap.get? b = some o → h'.get? b = some o) (hS : h'.get? S = some { cls := .type "list", dict := none, data := .seq acc c, slots := #[] }) (hl : as.length = n) (g : ZG its.toArray its2.toArray S h' as) (ha : acc.toList = as.map Value.ref) :
    ∃ H' : Hp, Same H H' ∧ H S = none ∧ (∀ t ∈ as, H t = none) ∧ S ∉ as ∧ H' S = some (.lst (as.map V.ref)) ∧ (∀ (j : Nat) (t : Addr), as[j]? = some t → ∃ x y, xs[j]? = some x ∧ ys[j]? = some y ∧ H' t = some (.tup [x, y])) ∧ Inv X pins σ H' { s with heap := h', toks := tk } := by
  have nS : S ∉ as := fun z => Nat.lt_irrefl _ (g.above _ z)
  have nd : as.Nodup := List.Pairwise.imp (fun {a b} (h : a < b) => Nat.ne_of_lt h) g.rise
  have new : ∀ t ∈ as, H t = none := fun t ht => I.hok.fresh (Nat.le_trans lS (Nat.le_of_lt (g.above t ht)))
  have newS : H S = none := I.hok.fresh lS
  have lz : as.length = (xs.zip ys).length := by rw [List.length_zip, hl, hn]
  generalize hH : putP (upd H S (.lst (as.map V.ref))) as (xs.zip ys) = H'
  have atP : ∀ (j : Nat) (t : Addr), as[j]? = some t → ∃ x y, xs[j]? = some x ∧ ys[j]? = some y ∧ H' t = some (.tup [x, y]) := fun j t e => by
    obtain ⟨x, y, e1, e2⟩ := putP_at as (xs.zip ys) (upd H S (.lst (as.map V.ref))) lz nd j t e
    rw [hH] at e2
    have q := List.getElem?_zip_eq_some.mp e1
    exact ⟨x, y, q.1, q.2, e2⟩
  have off : ∀ b, b ∉ as → b ≠ S → H' b = H b := fun b h1 h2 => by rw [← hH, putP_off as _ _ h1, upd_ne h2]
  have lo : ∀ b o, s.heap.get? b = some o → b ∉ as ∧ b ≠ S := fun b o e => ⟨fun z => absurd (Nat.lt_of_lt_of_le (Heap.lt_size e) (Nat.le_trans lS (Nat.le_of_lt (g.above b z)))) (Nat.lt_irrefl _), Nat.ne_of_lt (Nat.lt_of_lt_of_le (Heap.lt_size e) lS)⟩
  have kp : Same H H' := fun b u e => by
    rw [off b (fun z => by rw [new b z] at e; cases e) (fun z => by rw [z, newS] at e; cases e)]
    exact e
  have eS : H' S = some (.lst (as.map V.ref)) := by rw [← hH, putP_off as _ _ nS, upd_same]
  refine ⟨H', kp, newS, new, nS, eS, atP, ?_⟩
  refine I.call' (ch := []) rfl ⟨fun b o e _ _ _ => hk b o e, fun b o e _ _ _ => ⟨o.slots, hk b o e⟩, fun b o e m _ => ?_, fun b o e _ => ⟨o, hk b o e⟩, fun b vs e => kp b _ e, fun b o u e => kp b _ e, fun b ps e => ⟨#[], by rw [kp b _ e]; simp⟩⟩ (fun b u e => ?_) I.bare fun b z => by simp at z
  · obtain ⟨z1, z2⟩ := lo b o e
    rw [off b z1 z2]
    exact m
  · by_cases hb : b ∈ as
    · obtain ⟨j, ej⟩ := List.mem_iff_getElem?.mp hb
      obtain ⟨x, y, ex, ey, et⟩ := atP j b ej
      rw [et] at e
      cases e
      obtain ⟨u, v, eu, ev, hp⟩ := g.pairs j b ej
      obtain ⟨u', eu', ru⟩ := rx.get ex
      obtain ⟨v', ev', rv⟩ := ry.get ey
      have a1 : u' = u := by
        have eu : its[j]? = some u := by simpa using eu
        rw [eu] at eu'
        exact (Option.some.inj eu').symm
      have a2 : v' = v := by
        have ev : its2[j]? = some v := by simpa using ev
        rw [ev] at ev'
        exact (Option.some.inj ev').symm
      subst a1
      subst a2
      exact ⟨by show 2 ≤ sizeLine; decide, [u', v'], .cons ru (.cons rv .nil), ⟨_, hp, rfl, _, rfl⟩⟩
    · by_cases hb2 : b = S
      · rw [hb2] at e ⊢
        rw [eS] at e
        cases e
        refine ⟨by rw [List.length_map]; omega, acc.toList, c, by rw [ha]; exact LiI.vals_refs as, ?_⟩
        rw [Array.toArray_toList]
        exact hS
      · rw [off b hb hb2] at e
        exact (I.hok b u e).stay (fun d v _ y => hk d v y) (fun d y => kp d _ y) fun d vs y => kp d _ y
end
/-- list(zip(t, u)) of two tuples -/
def tListZip (K : PySem.W.Frag) (ta : TA) : TE := fun σ H Q => ta σ H fun vs H1 => ∃ a b xs ys, vs = [.ref a, .ref b] ∧ SqT K H1 a xs ∧ SqT K H1 b ys ∧
  ∀ (p : Addr) (ts : List Addr) (H' : Hp), Same H1 H' → H1 p = none → (∀ t ∈ ts, H1 t = none) → p ∉ ts → H' p = some (.lst (ts.map V.ref)) → ts.length = min xs.length ys.length → (∀ (j : Nat) (t : Addr), ts[j]? = some t → ∃ x y, xs[j]? = some x ∧ ys[j]? = some y ∧ H' t = some (.tup [x, y])) → Q (.ref p) H'
section
variable {X : Cx} {e e2 : Expr} {ta : TA} {p p2 zpos pos : Pos}
theorem pe_listZip (hc : X.calm = true) (ha : PA X [e, e2] ta) (hg : Gl X "list") (hm : X.mg "list" = none) (hgz : Gl X "zip") (hmz : X.mg "zip" = none)
    (hs : starEach [.Call (.Name "zip" p2) [e, e2] [] zpos] X.env = (false, eval (.Call (.Name "zip" p2) [e, e2] [] zpos) X.env) :: starEach [] X.env := by rfl)
    (hs2 : starEach [e, e2] X.env = (false, eval e X.env) :: starEach [e2] X.env := by rfl) (hpl : (backTo zpos (starEach [e2] X.env)).any (·.1) = false := by rfl) :
    PE X (.Call (.Name "list" p) [.Call (.Name "zip" p2) [e, e2] [] zpos] [] pos) (tListZip X.K ta) := by
  refine ⟨fun pins s σ H Q I hq => ?_⟩
  refine wpAny_Call_Name_kw (ld_blt I hg hm b_list ?_); refine PyProof.Rows.callWith_type1 ?_ hs rfl
  rw [hs]
  show wpAny _ _ (spliced ((false, eval (.Call (.Name "zip" p2) [e, e2] [] zpos) X.env) :: backTo pos (starEach [] X.env))) _ _ s
  refine Calls.spliced_cons ?_
  refine Call_ (ld_blt I hgz hmz PyProof.Rows.boot_zip (PyProof.Rows.callWith_type1 (thn (ha.run zpos pins s σ H _ I hq) fun us s1 ⟨vs, H1, I1, r1, q1⟩ => ?_) hs2 hpl))
  obtain ⟨a, b, xs, ys, ex, hx, hy, q⟩ := q1
  subst ex
  obtain ⟨u, u2, rfl, ru, ru2⟩ := vals2 r1
  cases ru
  cases ru2
  obtain ⟨its, rx, px, bx⟩ := I1.tuple hx
  obtain ⟨its2, ry, py, bY⟩ := I1.tuple hy
  obtain ⟨o1, e1, r1'⟩ := id px
  obtain ⟨o2, e2', r2'⟩ := id py
  have lx := rx.length
  have ly := ry.length
  refine RZ.call_zipT (show s1.heap.IsTuple a its.toArray from px) (show s1.heap.IsTuple b its2.toArray from py) fun h' hz hTI hTO h1 h2 hsz hk => ?_
  refine Calls.spliced_nil ?_
  have q0 : Z0 h' (s1.heap.objs.size + 4) (s1.heap.objs.size + 2) (s1.heap.objs.size + 3) s1.heap.objs.size (s1.heap.objs.size + 1) a b its.toArray its2.toArray :=
    ⟨hz, hTI, ⟨_, _, hTO⟩, h1, h2, ⟨o1, hk _ _ e1, r1'⟩, ⟨o2, hk _ _ e2', r2'⟩, PySem.W.ktu_apart s1.heap.objs.size a b (Heap.lt_size e1) (Heap.lt_size e2')⟩
  refine z_call (n := min xs.length ys.length) (s := { s1 with heap := h' }) (I1.ok.hd hc) q0 (by rw [List.size_toArray, List.size_toArray, lx, ly]) (Nat.le_trans (Nat.min_le_left _ _) bx) fun h'' tk acc c as hk2 hS hl g hacc => ?_
  have kk : ∀ b o, s1.heap.get? b = some o → h''.get? b = some o := fun b o z => hk2 b o (fun m => by
    have lb := Heap.lt_size z
    simp only [List.mem_cons, List.not_mem_nil, or_false] at m
    rcases m with m | m | m | m <;> rw [m] at lb <;> first | exact Nat.lt_irrefl _ lb | exact absurd lb (Nat.not_lt.mpr (Nat.le_add_right _ _))) (hk b o z)
  obtain ⟨H', k1, k2, k3, k4, k5, k6, J⟩ := zip_laid (S := h'.objs.size) (tk := tk) I1 rx ry rfl (Nat.le_trans (Nat.min_le_left _ _) bx) (by rw [hsz]; exact Nat.le_add_right _ _) kk hS hl g hacc
  exact ⟨.ref _, H', J, rfl, q _ as H' k1 k2 k3 k4 k5 hl k6⟩
end
/-! enumerate over a list, a tuple or a text, from any number on -/
/-- what stands in Its is gone along by the iterator at it -/
structure Goer (P : Program) (w : World) (K : PySem.W.Frag) (it : Addr) (Its : Hp → List V → Prop) (tn : Nat → Heap → Prop) : Prop where
  cell : ∀ i h, tn i h → ∃ o, h.get? it = some o ∧ ∀ v, o.data ≠ .cell v
  keep : ∀ i h h', tn i h → (∀ o, h.get? it = some o → h'.get? it = some o) → tn i h'
  uniq : ∀ (X : Cx) (pins : List (Addr × Obj)) (σ : L2.St) (H : Hp) (s : Shared) xs ys, X.K = K → Inv X pins σ H s → Its H xs → Its H ys → xs = ys
  drw : ∀ (X : Cx) (i0 : Nat) (pins : List (Addr × Obj)) (σ : L2.St) (H : Hp) (s : Shared) (e : Addr) (xs : List V), X.prog = P → X.w = w → X.K = K → X.calm = true → Inv X pins σ H s → tn i0 s.heap → e ≠ it → (∃ ob, s.heap.get? e = some ob ∧ ob.cls = .type "enumerate") → Its H xs →
    ∃ (Pq : Nat → Value → Prop) (Z : Nat → Heap → Prop) (fp : List Addr), Draws P w X.A.in1 it fp xs.length Pq Z ∧ (∀ i, tn i s.heap → Z i s.heap) ∧ (∀ i h, Z i h → tn i h) ∧ e ∉ fp ∧ ∀ i u, Pq i u → ∃ x, xs[i]? = some x ∧ RelV x u
def ItC (Its : Hp → List V → Prop) (k0 : Int) : It :=
  ⟨fun i H => ∃ (zs : List V) (z : V), Its H zs ∧ zs[i]? = some z,
   fun i H y H' => ∃ T z, y = .ref T ∧ H T = none ∧ H' = upd H T (.tup [.int (k0 + (i : Nat)), z]) ∧ ∀ zs, Its H zs → zs[i]? = some z,
   fun i H => ∃ zs : List V, Its H zs ∧ zs.length = i⟩
theorem turn_enumC {P : Program} {w : World} {K : PySem.W.Frag} {elts : List Expr} {kk : Nat} {tpos : Pos} {Its : Hp → List V → Prop} {tn : Nat → Heap → Prop} (k0 : Int) (e it : Addr) (G : Goer P w K it Its tn) :
    Turn P w K (.Tuple elts kk tpos) (ItC Its k0) [e, it] e (fun i h => (∃ old, IsEnum h e it (k0 + (i : Nat)) old) ∧ tn i h ∧ e ≠ it) where
  mem := List.mem_cons_self
  obj := fun i h st b hb => by
    obtain ⟨⟨old, ee⟩, ii, _⟩ := st
    rcases List.mem_cons.mp hb with z | hb
    · subst z
      exact ⟨_, ee, fun v q => nomatch q⟩
    · rw [List.mem_singleton.mp hb]
      exact G.cell i h ii
  keep := fun i h h' st k => by
    obtain ⟨⟨old, ee⟩, ii, ne⟩ := st
    exact ⟨⟨old, k e List.mem_cons_self _ ee⟩, G.keep i h h' ii (fun o q => k it (List.mem_cons_of_mem _ List.mem_cons_self) o q), ne⟩
  item := by
    intro X hP hw hK hc i pins s σ H E I fr st hg
    subst hP hw hK
    obtain ⟨⟨old, ee⟩, ii, ne⟩ := st
    obtain ⟨zs, z, hz, hi⟩ := hg
    obtain ⟨Pq, Z, fp, D, z1, z2, ef, pq⟩ := G.drw X i pins σ H s e zs rfl rfl rfl hc I ii ne ⟨_, ee, rfl⟩ hz
    have le : e < s.heap.objs.size := Heap.lt_size ee
    have li : it < s.heap.objs.size := by
      obtain ⟨o, q, _⟩ := G.cell i _ ii
      exact Heap.lt_size q
    refine wpAny_pyNext_enum_itemC D ee (z1 i ii) (List.getElem?_eq_some_iff.mp hi).1 ne ef fun x h1 tk px ho st1 hT hs kp => ?_
    obtain ⟨x', e', rx⟩ := pq i x px
    have ex := Option.some.inj (e'.symm.trans hi)
    subst ex
    refine ⟨_, rfl, wpAny_letOwnedTupleGo_enum (s := { s with heap := h1, toks := tk + 1 }) ho fun h2 e2 sb => ?_⟩
    have t2 : h2.get? s.heap.objs.size = some { cls := .type "tuple", data := .seq #[.int (k0 + (i : Nat)) tk, x] } := (sb.2 _ (Nat.ne_of_gt le)).trans hT
    have fresh : ObjOk X.prog X.w (upd H s.heap.objs.size (.tup [.int (k0 + (i : Nat)), x'])) h2 s.heap.objs.size (.tup [.int (k0 + (i : Nat)), x']) :=
      ⟨by show 2 ≤ sizeLine; decide, [.int (k0 + (i : Nat)) tk, x], .cons ⟨_, rfl⟩ (.cons rx .nil), ⟨_, t2, rfl, _, rfl⟩⟩
    have I1 : Inv X pins σ (upd H s.heap.objs.size (.tup [.int (k0 + (i : Nat)), x'])) { s with heap := h2, toks := tk + 1 } :=
      I.turnedNew (ch := [e, it]) (fun b o nb q => (sb.2 b (fun y => nb (by simp [y]))).trans (kp b o (fun y => nb (by simp [y])) (fun y => nb (by simp [y])) q)) fr (Nat.le_refl _) fresh
    refine ⟨.ref s.heap.objs.size, _, I1, rfl, ⟨_, x', rfl, I.hok.fresh (Nat.le_refl _), rfl, fun ys hy => by rw [G.uniq X pins σ H s ys zs rfl I hy hz]; exact hi⟩, ⟨⟨x, ?_⟩, ?_, ne⟩, fun b hb => ?_⟩
    · have a1 : k0 + ((i + 1 : Nat) : Int) = k0 + (i : Nat) + 1 := by omega
      rw [a1]
      exact e2
    · exact G.keep _ h1 h2 (z2 _ _ st1) fun o q => (sb.2 it (Ne.symm ne)).trans q
    · have lb : b < s.heap.objs.size := by
        rcases List.mem_cons.mp hb with y | hb
        · rw [y]; exact le
        · rw [List.mem_singleton.mp hb]; exact li
      rw [upd_ne (Nat.ne_of_lt lb)]
      exact (fr b hb).1
  done := by
    intro X hP hw hK hc i pins s σ H E I fr st hg
    subst hP hw hK
    obtain ⟨⟨old, ee⟩, ii, ne⟩ := st
    obtain ⟨zs, hz, hl⟩ := hg
    obtain ⟨Pq, Z, fp, D, z1, z2, ef, pq⟩ := G.drw X i pins σ H s e zs rfl rfl rfl hc I ii ne ⟨_, ee, rfl⟩ hz
    subst hl
    obtain ⟨f0, f1, f2, f3, f4, f5⟩ := fr it (List.mem_cons_of_mem _ List.mem_cons_self)
    exact wpAny_pyNext_enum_endD D ee (z1 _ ii) fun h1 eb => ⟨rfl, I.turned (t' := s.toks) (fun b o nb q => eb b o nb q) f0 f1 f3 f4 f5⟩
  self := fun A i s Q E st h => by
    obtain ⟨⟨_, ee⟩, _⟩ := st
    exact wpAny_pyIter_enum ee h
theorem vals_back : ∀ {xs : List V} {us : List Value} {i : Nat} {u : Value}, Vals xs us → us[i]? = some u → ∃ x, xs[i]? = some x ∧ RelV x u := by
  intro xs us i u r e
  have hi := (List.getElem?_eq_some_iff.mp e).1
  have l := r.length
  obtain ⟨u2, e2, r2⟩ := r.get (List.getElem?_eq_getElem (l := xs) (i := i) (by omega))
  have z := Option.some.inj (e2.symm.trans e)
  subst z
  exact ⟨_, List.getElem?_eq_getElem (by omega), r2⟩
section
variable {P : Program} {w : World} {K : PySem.W.Frag}
theorem goer_tup (a it : Addr) : Goer P w K it (fun H xs => SqT K H a xs) (fun i h => h.IsTupleIter it a i) where
  cell := fun i h st => by
    obtain ⟨o, q, _, r⟩ := st
    exact ⟨o, q, fun v y => by rw [r] at y; cases y⟩
  keep := fun i h h' st k => st.at fun o q => k o q
  uniq := fun X pins σ H s xs ys hK I hx hy => by
    subst hK
    exact I.tuple_inj hx hy
  drw := fun X i0 pins σ H s e xs hP hw hK hc I ti ne ⟨oe, oq, oc⟩ hx => by
    subst hP hw hK
    obtain ⟨its, rv, p, hz⟩ := I.tuple hx
    have p2 : s.heap.IsTuple a its.toArray := p
    obtain ⟨ot, t1, t2, _⟩ := p
    have nt : a ≠ it := by
      intro y
      obtain ⟨oi, q1, q2, _⟩ := ti
      rw [y, q1] at t1
      cases t1
      rw [q2] at t2
      exact absurd (Value.type.inj t2) (by decide)
    have net : e ≠ a := by
      intro y
      rw [y, t1] at oq
      cases oq
      rw [t2] at oc
      exact absurd (Value.type.inj oc) (by decide)
    have D := Draws.tuple (prog := X.prog) (w := X.w) (A := X.A.in1) (I.ok.hd hc) it a nt its.toArray
    rw [List.size_toArray, ← rv.length] at D
    refine ⟨_, _, _, D, fun i st => ⟨st, p2⟩, fun i h z => z.1, ?_, ?_⟩
    · simp only [List.mem_cons, List.not_mem_nil, or_false, not_or]
      exact ⟨ne, net⟩
    · intro i u q
      have q : its.toArray[i]? = some u := q
      rw [List.getElem?_toArray] at q
      exact vals_back rv q
theorem goer_lst (a it : Addr) : Goer P w K it (fun H xs => SqL K H a xs) (fun i h => h.IsListIter it a i) where
  cell := fun i h st => by
    obtain ⟨o, q, _, r⟩ := st
    exact ⟨o, q, fun v y => by rw [r] at y; cases y⟩
  keep := fun i h h' st k => st.at fun o q => k o q
  uniq := fun X pins σ H s xs ys hK I hx hy => by
    subst hK
    exact I.list_inj hx hy
  drw := fun X i0 pins σ H s e xs hP hw hK hc I ti ne ⟨oe, oq, oc⟩ hx => by
    subst hP hw hK
    obtain ⟨its, rv, p, hz⟩ := I.list hx
    have p2 : s.heap.IsList a its.toArray := p.isList
    obtain ⟨ot, t1, t2, _⟩ := id p2
    have nt : a ≠ it := by
      intro y
      obtain ⟨oi, q1, q2, _⟩ := ti
      rw [y, q1] at t1
      cases t1
      rw [q2] at t2
      exact absurd (Value.type.inj t2) (by decide)
    have net : e ≠ a := by
      intro y
      rw [y, t1] at oq
      cases oq
      rw [t2] at oc
      exact absurd (Value.type.inj oc) (by decide)
    have D := Draws.list (prog := X.prog) (w := X.w) (A := X.A.in1) (I.ok.hd hc) it a nt its.toArray
    rw [List.size_toArray, ← rv.length] at D
    refine ⟨_, _, _, D, fun i st => ⟨st, p2⟩, fun i h z => z.1, ?_, ?_⟩
    · simp only [List.mem_cons, List.not_mem_nil, or_false, not_or]
      exact ⟨ne, net⟩
    · intro i u q
      have q : its.toArray[i]? = some u := q
      rw [List.getElem?_toArray] at q
      exact vals_back rv q
/-- the signs of a text -/
def signs (z : Str) : List V := z.cps.toList.map fun c => V.str ⟨#[c]⟩
theorem goer_str (z : Str) (t : Tok) (it : Addr) : Goer P w K it (fun _ xs => xs = signs z) (fun i h => h.IsStrIter it (strIterType z) z t i) where
  cell := fun i h st => by
    obtain ⟨o, q, _, r⟩ := st
    exact ⟨o, q, fun v y => by rw [r] at y; cases y⟩
  keep := fun i h h' st k => by
    obtain ⟨o, q, r⟩ := st
    exact ⟨o, k o q, r⟩
  uniq := fun X pins σ H s xs ys hK I hx hy => hx.trans hy.symm
  drw := fun X i0 pins σ H s e xs hP hw hK hc I ti ne _ hx => by
    subst hP hw hK hx
    have D := Draws.text (prog := X.prog) (w := X.w) (A := X.A.in1) (I.ok.hd hc) it z t
    have ez : z.cps.size = (signs z).length := by simp [signs]
    rw [ez] at D
    refine ⟨_, _, _, D, fun i st => st, fun i h z => z, ?_, ?_⟩
    · simp only [List.mem_cons, List.not_mem_nil, or_false]
      exact ne
    · rintro i u ⟨c, u2, q, rfl⟩
      refine ⟨.str ⟨#[c]⟩, ?_, ⟨_, rfl⟩⟩
      unfold signs
      rw [List.getElem?_map]
      have q2 : z.cps.toList[i]? = some c := by simpa using q
      rw [q2]
      rfl
end
set_option maxHeartbeats 1000000 in
theorem meets_enum1 {v : Value} {ob : Obj} {Z : Heap → Prop} (B : Begins v ob Z) :
    Meets (Builtin.«enumerate.__new__» ⟨[.type "enumerate", v], []⟩) (fun _ R s => Z s.heap ∧
      R (.ok (.ret (.ref (s.heap.push ob).objs.size))) { s with heap := (s.heap.push ob).push { cls := .type "enumerate", data := .fields #[.none, .bool false, .ref s.heap.objs.size, rawInt 0, .none, .none] } }) :=
  .of_wp fun prog w A R s hh => by
    obtain ⟨hp, g, d, tk, os⟩ := s
    obtain ⟨hz, hh⟩ := hh
    have hsub := sub_enumerate
    have go : ∀ {A' : Around} {E : Value → Shared → Prop} {Q : Value → Shared → Prop}, Q (.ref hp.objs.size) ⟨hp.push ob, g, d, tk, os⟩ → wpAny (model prog w) A' (pyIter v) Q E ⟨hp, g, d, tk, os⟩ :=
      fun q => B.iter prog w _ _ ⟨hp, g, d, tk, os⟩ _ hz q
    wp_walk using go
    refine wpAny_stack_any fun st => wpAny_pure ?_
    split
    · rename_i c _ _ _ _ _
      cases (c == Value.type "enumerate") <;>
      · wp_walk using go
        exact ⟨_, rfl, hh⟩
    · wp_walk using go
      exact ⟨_, rfl, hh⟩
theorem enum_made {prog : Program} {w : World} {A : Around} {E : Value → Shared → Prop} {s : Shared} {v : Value} {ob : Obj} {Z : Heap → Prop} {Q : Value → Shared → Prop} (B : Begins v ob Z) (hz : Z s.heap)
    (h : ∀ h', IsEnum h' (s.heap.objs.size + 1) s.heap.objs.size 0 .none → h'.get? s.heap.objs.size = some ob → (∀ b o, s.heap.get? b = some o → h'.get? b = some o) → Q (.ref (s.heap.objs.size + 1)) { s with heap := h' }) :
    wpAny (model prog w) A (call (.type "enumerate") [v]) Q E s := by
  refine callType_new F.called_enumerate (by decide) (F.typeCall_enumerate_1 _) (F.newCall_enumerate_1 _) (fun obj => F.args_object_init_2 obj _) F.entry_enumerate_new (meets_enum1 B) ⟨hz, ?_⟩
  have sz : (s.heap.push ob).objs.size = s.heap.objs.size + 1 := Heap.size_push ..
  show _ ∧ _
  rw [sz]
  have ee := Heap.get?_push_size (s.heap.push ob) (o := { cls := .type "enumerate", data := .fields #[.none, .bool false, .ref s.heap.objs.size, rawInt 0, .none, .none] }) rfl
  rw [sz] at ee
  exact ⟨⟨_, ee, rfl⟩, h _ ee (Heap.get?_push_of_some _ (Heap.get?_push_size _ B.free)) fun b o x => Heap.get?_push_of_some _ (Heap.get?_push_of_some _ x)⟩
def iEnumA (K : PySem.W.Frag) (ta : TA) : TI := fun σ H R => ta σ H fun vs H1 =>
  (∃ a xs, vs = [.ref a] ∧ SqT K H1 a xs ∧ R (ItC (fun H ys => SqT K H a ys) 0) H1) ∨ ∃ z, vs = [.str z] ∧ R (ItC (fun _ ys => ys = signs z) 0) H1
def iEnumK (K : PySem.W.Frag) (ta : TA) : TI := fun σ H R => ta σ H fun vs H1 => ∃ a xs k, vs = [.ref a, .int k] ∧ SqL K H1 a xs ∧ -(2 ^ 63) ≤ k ∧ k < 2 ^ 63 ∧ R (ItC (fun H ys => SqL K H a ys) k) H1
section
variable {X : Cx} {e e2 : Expr} {ta : TA} {p pos tpos : Pos} {elts : List Expr} {kk : Nat}
theorem pie_enum {pins : List (Addr × Obj)} {σ : L2.St} {H : Hp} {s : Shared} {h' : Heap} {Its : Hp → List V → Prop} {tn : Nat → Heap → Prop} {R : It → Hp → Prop} {k : Int} (I : Inv X pins σ H s) (G : Goer X.prog X.w X.K s.heap.objs.size Its tn)
    (ee : IsEnum h' (s.heap.objs.size + 1) s.heap.objs.size k .none) (t0 : tn 0 h') (kp : ∀ b o, s.heap.get? b = some o → h'.get? b = some o) (q : R (ItC Its k) H) :
    wpAny (model X.prog X.w) X.A (pyIter (.ref (s.heap.objs.size + 1))) (PIE X pins σ (.Tuple elts kk tpos) R) X.xe { s with heap := h' } := by
  refine wpAny_pyIter_enum ee ?_
  refine ⟨s.heap.objs.size + 1, [s.heap.objs.size + 1, s.heap.objs.size], _, _, H, rfl, I.kept (t' := s.toks) kp, turn_enumC k (s.heap.objs.size + 1) s.heap.objs.size G, ⟨⟨.none, ?_⟩, t0, Nat.succ_ne_self _⟩, fun b hb => ?_, q⟩
  · have z : k + ((0 : Nat) : Int) = k := by omega
    rw [z]
    exact ee
  · have lb : s.heap.objs.size ≤ b := by
      rcases List.mem_cons.mp hb with y | hb
      · rw [y]; exact Nat.le_succ _
      · rw [List.mem_singleton.mp hb]; exact Nat.le_refl _
    exact I.fpOk lb (I.hok.fresh lb)
theorem pi_enumA (hg : Gl X "enumerate") (hm : X.mg "enumerate" = none) (ha : PA X [e] ta) (hs : starEach [e] X.env = [(false, eval e X.env)] := by rfl) :
    PI X (.Tuple elts kk tpos) (.Call (.Name "enumerate" p) [e] [] pos) (iEnumA X.K ta) := by
  refine ⟨fun pins s σ H R I h => ?_⟩
  refine Call_ (ld_blt I hg hm boot_enumerate (PyProof.Rows.callWith_type1 (thn (ha.run pos pins s σ H _ I h) fun us s1 ⟨vs, H1, I1, r1, q1⟩ => ?_) hs rfl))
  rcases q1 with ⟨a, xs, rfl, hx, q⟩ | ⟨z, rfl, q⟩
  · obtain ⟨u, rfl, ru⟩ := r1.one
    cases ru
    obtain ⟨its, rv, tp, hz⟩ := I1.tuple hx
    exact enum_made (begins_tuple a its.toArray) tp fun h' ee hi kp => pie_enum I1 (goer_tup a _) ee ⟨_, hi, rfl, rfl⟩ kp q
  · obtain ⟨u, rfl, ru⟩ := r1.one
    obtain ⟨t, rfl⟩ := ru
    exact enum_made (begins_text z t) trivial fun h' ee hi kp => pie_enum I1 (goer_str z t _) ee ⟨_, hi, rfl, rfl⟩ kp q
theorem pi_enumK (hg : Gl X "enumerate") (hm : X.mg "enumerate" = none) (ha : PA X [e, e2] ta) (hs : starEach [e, e2] X.env = (false, eval e X.env) :: starEach [e2] X.env := by rfl) (hpl : (backTo pos (starEach [e2] X.env)).any (·.1) = false := by rfl) :
    PI X (.Tuple elts kk tpos) (.Call (.Name "enumerate" p) [e, e2] [] pos) (iEnumK X.K ta) := by
  refine ⟨fun pins s σ H R I h => ?_⟩
  refine Call_ (ld_blt I hg hm boot_enumerate (PyProof.Rows.callWith_type1 (thn (ha.run pos pins s σ H _ I h) fun us s1 ⟨vs, H1, I1, r1, q1⟩ => ?_) hs hpl))
  obtain ⟨a, xs, k, rfl, hx, k0, k1, q⟩ := q1
  obtain ⟨u, v, rfl, ru, rv⟩ := r1.two
  cases ru
  obtain ⟨t, rfl⟩ := rv
  obtain ⟨its, rv, tp, hz⟩ := I1.list hx
  exact enum_begins (begins_list a its.toArray) tp.isList k0 k1 fun h' ee hi _ kp => pie_enum I1 (goer_lst a _) ee ⟨_, hi, rfl, rfl⟩ kp q
end
/-- going along what enumerate hands out -/
theorem walk_C {Its : Hp → List V → Prop} {xs : List V} {k0 : Int} : Walk (ItC Its k0) xs.length (fun H => Its H xs)
    (fun i H y H' => ∃ T z, y = .ref T ∧ H T = none ∧ H' = upd H T (.tup [.int (k0 + (i : Nat)), z]) ∧ xs[i]? = some z) := by
  refine ⟨fun i H hi g => ⟨xs, _, g, List.getElem?_eq_getElem hi⟩, ?_, ?_⟩
  · intro H g
    exact ⟨xs, g, rfl⟩
  · rintro i H y H' hi g ⟨T, z, e1, e2, e3, e4⟩
    exact ⟨T, z, e1, e2, e3, e4 xs g⟩
/-! y = {k: v for ..}; a dict comprehension over anything that is walked -/
theorem sw_dict {kx vx : Expr} {gs : List Comprehension} {scope : Scope} {pos py : Pos} {y : Str} {l : Nat} {env : Env} (hk : env.scope.kind = .function) (hy : env.scope.names.lookup y = some .local) (hl : (py.line == pos.line) = true)
    (ha : (scope.names.any fun (n, k) => n == y && (k == .local || k == .cell)) = false) : swapsWith (.DictComp kx vx gs scope pos) (some (.Name y py)) l env = pure true := by
  have e1 : env.kindOf y = some .local := hy
  have e2 : env.blockKind = .function := by
    unfold Env.blockKind
    rw [hk]
    rfl
  unfold swapsWith
  simp only [e2, e1, ha, Expr.pos, hl]
  rfl
theorem ps_setDc {X : Cx} {i : Nat} {y : Str} {py : Pos} {kx vx tg iter : Expr} {ifs : List Expr} {scope : Scope} {own : List (Str × Nat)} {pos spos : Pos} {wi : TI} {g : TG} {tt : TT} {tk tv : TE} (hc : X.calm = true) (hN : X.N.Nodup) (hy : X.N[i]? = some y) (hyl : X.env.scope.names.lookup y = some .local)
    (hsw : swapsWith (.DictComp kx vx [⟨tg, iter, ifs, 0⟩] scope pos) (some (.Name y py)) spos.line X.env = pure true) (hi : PI X tg iter wi) (ok : BlkOk X.N X.env.scope scope own)
    (hg : ∀ (s : Shared) (H : Hp) (C : Addr) (cl : List (Str × Addr)) (fp : List Addr), PG (X.blk s H scope (compEnvC scope cl C X.env) fp) tg g) (ht : ∀ (s : Shared) (H : Hp) (C : Addr) (cl : List (Str × Addr)) (fp : List Addr), PTs (X.blk s H scope (compEnvC scope cl C X.env) fp) ifs tt)
    (hk : ∀ (s : Shared) (H : Hp) (C : Addr) (cl : List (Str × Addr)) (fp : List Addr), PE (X.blk s H scope (compEnvC scope cl C X.env) fp) kx tk)
    (he : ∀ (s : Shared) (H : Hp) (C : Addr) (cl : List (Str × Addr)) (fp : List Addr), PE (X.blk s H scope (compEnvC scope cl C X.env) fp) vx tv) (hs : ∀ x, foldedSetIterable iter X.env x = pure x := by intro _; rfl) :
    PS X (.Assign [.Name y py] (.DictComp kx vx [⟨tg, iter, ifs, 0⟩] scope pos) spos) (tAsg (tDc wi g tt tk tv (own.map (·.2))) (gName i)) := by
  refine ⟨fun pins s σ H D I h => ?_⟩
  rw [exec_Assign_Name_used _ _ _ _ hsw]
  refine wpAny_bind (wpAny_standAt (wpAny_bind ?_))
  show wpAny _ X.A (do let _ ← comprehension (.DictComp kx vx [⟨tg, iter, ifs, 0⟩] scope pos) scope X.env (firstIterPos [⟨tg, iter, ifs, 0⟩] pos) newDict false (eval iter X.env) (some (assign (.Name y py) X.env))) _ _ s
  have h : tDc wi g tt tk tv (own.map (·.2)) σ H (fun x H1 => gName i x σ H1 D.nx) := h
  refine wpAny_bind (thn (dc_core (Qf := fun _ s' => SP X pins D .next s') hc hN I hi ok hg ht hk he hs h fun L C s' m H' I' q hn f => ?_) fun _ s' hq => wpAny_pure (wpAny_pure hq))
  show wpAny _ _ (assign (.Name y py) X.env (.ref L)) _ _ _
  obtain ⟨f0, f1, f2, f3, f4, f5⟩ := f
  refine wpAny_assign_Name (store_ok2 (v := V.ref L) I' hN hy (.inl hyl) rfl (fun s2 I2 ⟨a, sb, ha⟩ => ?_) (.inr hyl))
  have nCa : C ≠ a := by
    rcases ha with z | z
    · rw [z]
      exact f1
    · exact fun e => f4 y a z e.symm
  refine ⟨m, hn.sameBut sb nCa, fun h3 sb3 => ⟨_, H', I2.turned (t' := s2.toks) (fun b o hb e => (sb3.2 b hb).trans e) f0 f1 f3 f4 f5, q⟩⟩
theorem dc_it {J : It} {n : Nat} {G : Hp → Prop} {Y : Nat → Hp → V → Hp → Prop} (w : Walk J n G Y) {g : TG} {tt : TT} {tk tv : TE} {vs : List Nat} {σ : L2.St} {H1 : Hp} {D : Addr} {Qd : Hp → Prop} (Pv : Nat → Hp → Prop) (h0 : Pv 0 (upd H1 D (.dK []))) (hG : ∀ i H, i ≤ n → Pv i H → G H)
    (hs : ∀ i x H H', i < n → Pv i H → Y i H x H' → g x (wipe σ vs) H' fun σ2 H2 => wipe σ2 vs = wipe σ vs ∧ tt σ2 H2 fun b H3 =>
      if b = true then tk σ2 H3 fun y H4 => tv σ2 H4 fun z H5 => ∃ kvs k, y = kV k ∧ H5 D = some (.dK kvs) ∧ kvs.length < sizeLine ∧ Pv (i + 1) (upd H5 D (.dK (putK kvs k z))) else Pv (i + 1) H3) (hd : ∀ H, Pv n H → Qd H) :
    ∃ W : Nat → Nat → Hp → Prop, (∃ m, W 0 m (upd H1 D (.dK []))) ∧ ∀ i m H, W i m H → (J.stop i H ∧ Qd H) ∨ (J.go i H ∧ ∃ Nx : Hp → Prop, (∀ H', Nx H' → ∃ m', m' < m ∧ W (i + 1) m' H') ∧ ∀ x H', J.yld i H x H' → g x (wipe σ vs) H' fun σ2 H2 =>
      wipe σ2 vs = wipe σ vs ∧ tt σ2 H2 fun b H3 => if b = true then tk σ2 H3 fun y H4 => tv σ2 H4 fun z H5 => ∃ kvs k, y = kV k ∧ H5 D = some (.dK kvs) ∧ kvs.length < sizeLine ∧ Nx (upd H5 D (.dK (putK kvs k z))) else Nx H3) := by
  refine ⟨fun i m H => i ≤ n ∧ m + i = n ∧ Pv i H, ⟨n, Nat.zero_le _, rfl, h0⟩, ?_⟩
  rintro i m H ⟨hi, hm, p⟩
  have gg := hG i H hi p
  by_cases lt : i < n
  · exact Or.inr ⟨w.goes i H lt gg, Pv (i + 1), fun H' p' => ⟨m - 1, by omega, by omega, by omega, p'⟩, fun x H' y => hs i x H H' lt p (w.yields i H x H' lt gg y)⟩
  · have e : i = n := by omega
    subst e
    exact Or.inl ⟨w.stops H gg, hd H p⟩
/-! dicts by their keys -/
theorem putK_new {kvs : List (Key × V)} {k : Key} {v : V} (h : ∀ p ∈ kvs, p.1 ≠ k) : putK kvs k v = kvs ++ [(k, v)] := by
  unfold putK
  rw [if_neg]
  intro z
  obtain ⟨p, m, e⟩ := List.any_eq_true.mp z
  exact h p m (of_decide_eq_true e)
theorem valV_at : ∀ {kvs : List (Key × V)} {i : Nat} {p : Key × V}, (kvs.map (·.1)).Nodup → kvs[i]? = some p → valV kvs p.1 = some p.2
  | [], _, _, _, h => by simp at h
  | q :: kvs, 0, p, _, h => by
    have e : q = p := by simpa using h
    subst e
    unfold valV
    rw [List.find?_cons_of_pos (by simp)]
    rfl
  | q :: kvs, i + 1, p, nd, h => by
    have h : kvs[i]? = some p := by simpa using h
    rw [List.map_cons, List.nodup_cons] at nd
    have ne : ¬ q.1 = p.1 := fun z => nd.1 (by rw [z]; exact List.mem_map_of_mem (List.mem_of_getElem? h))
    have ih := valV_at nd.2 h
    unfold valV at ih ⊢
    rw [List.find?_cons_of_neg (by simpa using ne)]
    exact ih
theorem take_fresh : ∀ {kvs : List (Key × V)} {i : Nat} {p : Key × V}, (kvs.map (·.1)).Nodup → kvs[i]? = some p → ∀ q ∈ kvs.take i, q.1 ≠ p.1
  | [], _, _, _, h, _, _ => by simp at h
  | r :: kvs, 0, p, _, h, q, m => by simp at m
  | r :: kvs, i + 1, p, nd, h, q, m => by
    have h : kvs[i]? = some p := by simpa using h
    rw [List.map_cons, List.nodup_cons] at nd
    rw [List.take_succ_cons] at m
    rcases List.mem_cons.mp m with e | m
    · subst e
      exact fun z => nd.1 (by rw [z]; exact List.mem_map_of_mem (List.mem_of_getElem? h))
    · exact take_fresh nd.2 h q m
theorem nodup_inr : ∀ {xs : List Str}, xs.Nodup → (xs.map (Sum.inr : Str → Key)).Nodup
  | [], _ => .nil
  | x :: xs, h => by
    rw [List.nodup_cons] at h
    rw [List.map_cons, List.nodup_cons]
    refine ⟨fun z => ?_, nodup_inr h.2⟩
    obtain ⟨y, m, e⟩ := List.mem_map.mp z
    exact h.1 (by rw [← Sum.inr.inj e]; exact m)
/-! != of a list and an empty list: no element is compared -/
def rNeNil (K : PySem.W.Frag) : R2 := fun x y H Q => ∃ a b xs, x = .ref a ∧ y = .ref b ∧ SqL K H a xs ∧ SqL K H b [] ∧ Q (.bl (!xs.isEmpty)) H
theorem op_neNil {X : Cx} (hu : X.A.units + 64 < cLine) : OpR X (compareOp .NotEq) (rNeNil X.K) := by
  intro pins s σ H x y v u Q I rx ry h
  obtain ⟨a, b, xs, rfl, rfl, ha, hb, q⟩ := h
  cases (show v = Value.ref a from rx)
  cases (show u = Value.ref b from ry)
  obtain ⟨us, r1, p1, _⟩ := I.list ha
  obtain ⟨ws, r2, p2, _⟩ := I.list hb
  cases r2
  have hu2 : X.A.units < cLine := by omega
  cases xs with
  | nil =>
    cases r1
    exact SeqAt.RcNeAt.lists p1.isList p2.isList rfl hu2 (e := fun _ => true) (fun j h1 h2 => absurd h1 (Nat.not_lt_zero j)) X.prog X.w _ _ ⟨.bl false, H, I, rfl, q⟩
  | cons z zs =>
    cases r1
    exact SeqAt.RcNeAt.lists_lengths p1.isList p2.isList (by simp) hu2 X.prog X.w _ _ ⟨.bl true, H, I, rfl, q⟩
/-! == of a list and an empty list: no element is compared -/
def rEqNil (K : PySem.W.Frag) : R2 := fun x y H Q => ∃ a b xs, x = .ref a ∧ y = .ref b ∧ SqL K H a xs ∧ SqL K H b [] ∧ Q (.bl xs.isEmpty) H
theorem op_eqNil {X : Cx} (hu : X.A.units + 64 < cLine) : OpR X (compareOp .Eq) (rEqNil X.K) := by
  intro pins s σ H x y v u Q I rx ry h
  obtain ⟨a, b, xs, rfl, rfl, ha, hb, q⟩ := h
  cases (show v = Value.ref a from rx)
  cases (show u = Value.ref b from ry)
  obtain ⟨us, r1, p1, _⟩ := I.list ha
  obtain ⟨ws, r2, p2, _⟩ := I.list hb
  cases r2
  have hu2 : X.A.units < cLine := by omega
  cases xs with
  | nil =>
    cases r1
    exact SeqAt.RcAt.lists p1.isList p2.isList rfl hu2 (e := fun _ => true) (fun j h1 h2 => absurd h1 (Nat.not_lt_zero j)) X.prog X.w _ _ ⟨.bl true, H, I, rfl, q⟩
  | cons z zs =>
    cases r1
    exact SeqAt.RcAt.lists_lengths p1.isList p2.isList (by simp) hu2 X.prog X.w _ _ ⟨.bl false, H, I, rfl, q⟩
section
variable {X : Cx} {C fL : Addr} {k : Nat} {fd : FuncData} {sp : Sp}
/-- len(x), x of the class: its own __len__ tells -/
def rLenO (C : Addr) (sp : Sp) : List V → Hp → VK → Prop := fun xs H Q => ∃ a dx fs, xs = [.ref a] ∧ H a = some (.ins C dx fs) ∧ sp [.ref a] H (fun v H' => ∃ n : Nat, v = .int n ∧ n < 2 ^ 60 ∧ Q (.int n) H') E0
theorem call_lenO (M : Meth X.K C "__len__" fL) (F : FnOk X.prog X.w X.K X.mg X.base CX0 k fL fd ["self"] sp) (hb : Binds X.K fd ["self"] []) (hr : Room (k + 1) X.A) : CallR X (.builtin "len") (rLenO C sp) := by
  intro pins s σ H xs us Q I r h
  obtain ⟨a, dx, fs, rfl, ha, q⟩ := h
  obtain rfl := Vals.ref1 r
  obtain ⟨ox, od, J⟩ := inst_at I ha
  obtain ⟨m, fr⟩ := I.fr
  refine PySem.W.len_K fr I.ok.mod.kin J M.at_ M.fn (wpAny_mono (run_at (E' := X.xe) F hr.in1 I.env0.in1 hb I r q) (fun r t hq => ?_) fun _ _ z => z)
  obtain ⟨v', H', I', rv, n, rfl, hn, q'⟩ := hq
  obtain ⟨tk, rfl⟩ := (show ∃ t, r = Value.int (n : Nat) t from rv)
  exact ⟨⟨by omega, by omega⟩, ⟨.int (n : Nat), H', I'.tok _, ⟨_, rfl⟩, q'⟩⟩
/-- x[k], x of the class: its own __getitem__ tells -/
def rIxO (C : Addr) (sp : Sp) : R2 := fun x y H Q => ∃ a dx fs, x = .ref a ∧ H a = some (.ins C dx fs) ∧ sp [.ref a, y] H Q E0
theorem ix_own (hq : PySem.W.noSeq X.K C = true) (M : Meth X.K C "__getitem__" fL) (hf : PySem.W.fnIn X.K fL = true) {ps : List Str} (F : FnOk X.prog X.w X.K X.mg X.base CX0 k fL fd ps sp) (hb : Binds X.K fd ps []) (hr : Room (k + 1) X.A) {value slice : Expr}
    (hsl : ∀ v u, subscripted slice true v u = runValue (.builtin "lifetime.subscript" ⟨[v, u], []⟩)) :
    ∀ (pins : List (Addr × Obj)) (s : Shared) (σ : L2.St) (H : Hp) (x y : V) (v u : Value) (Q : VK), Inv X pins σ H s → RelV x v → RelV y u → rIxO C sp x y H Q → wpAny (model X.prog X.w) X.A (subscriptTail value slice v u) (EP X pins σ Q) X.xe s := by
  intro pins s σ H x y v u Q I rx ry h
  obtain ⟨a, dx, fs, rfl, ha, q⟩ := h
  cases (show v = Value.ref a from rx)
  obtain ⟨ox, od, J⟩ := inst_at I ha
  obtain ⟨m, fr⟩ := I.fr
  exact PySem.W.sub_K fr I.ok.mod.kin J M.at_ hf M.fn (run_at (E' := X.xe) F hr.in1 I.env0.in1 hb I (.cons rx (.cons ry .nil)) q) (hsl _ _)
end
section
variable {X : Cx} {CX : CXT} {C fL : Addr} {k : Nat} {fd : FuncData} {sp : Sp} {ps : List Str} {E : L2.St → XK} {a b : Expr} {ta tb : TE} {pos : Pos}
theorem run_fnSA {A' : Around} {pins : List (Addr × Obj)} {σ : L2.St} {H : Hp} {s : Shared} {Q : VK} {us : List Value} {vs : List V} (F : FnOk X.prog X.w X.K X.mg X.base CX k fL fd ps sp) (hr : Room k A') (ee : Env0 X.prog X.w X.K X.mg X.base A' X.stack s H) (hb : Binds X.K fd ps []) (hx : PassesAt CX X σ (E σ))
    (I : Inv X pins σ H s) (r : Vals vs us) (h : sp vs H Q (E σ)) : wpAny (model X.prog X.w) A' (call (.ref fL) us) (EP X pins σ Q) X.xe s := by
  have hl : us.length = ps.length := by rw [← r.length]; exact F.len _ _ _ _ h
  have b := hb s us I.kIn (by rw [List.append_nil]; exact hl)
  rw [List.append_nil] at b
  refine wpAny_call (codeAny_mono (F.run A' X.stack s H ⟨us, []⟩ us vs Q (E σ) hr ee b r h) fun r s' hq => ?_)
  cases r with
  | error e => exact hx pins H s e s' I hq
  | ok fl =>
    cases fl with
    | ret u => exact I.after hq
    | next => exact False.elim hq
    | brk => exact False.elim hq
    | cont => exact False.elim hq
/-- x[k], x of the class: its own __getitem__ tells, or raises -/
def tIxO (C : Addr) (sp : Sp) (E : L2.St → XK) (ta tb : TE) : TE := fun σ H Q => ta σ H fun x H1 => tb σ H1 fun y H2 => ∃ a dx fs, x = .ref a ∧ H2 a = some (.ins C dx fs) ∧ sp [.ref a, y] H2 Q (E σ)
theorem pe_ixO (hq : PySem.W.noSeq X.K C = true) (M : Meth X.K C "__getitem__" fL) (hf : PySem.W.fnIn X.K fL = true) (F : FnOk X.prog X.w X.K X.mg X.base CX k fL fd ps sp) (hb : Binds X.K fd ps []) (hr : Room (k + 1) X.A) (hx : ∀ σ, PassesAt CX X σ (E σ))
    (ha : PE X a ta) (hbb : PE X b tb) (hsl : ∀ v u, subscripted b true v u = runValue (.builtin "lifetime.subscript" ⟨[v, u], []⟩)) : PE X (.Subscript a b pos) (tIxO C sp E ta tb) := by
  refine ⟨fun pins s σ H Q I h => ?_⟩
  refine Subscript_ (binT ha hbb I (R := fun x y H2 => ∃ a dx fs, x = .ref a ∧ H2 a = some (.ins C dx fs) ∧ sp [.ref a, y] H2 Q (E σ)) h fun v u s2 x y H2 I2 rx ry q => ?_)
  obtain ⟨a0, dx, fs, rfl, ha0, q⟩ := q
  cases (show v = Value.ref a0 from rx)
  obtain ⟨ox, od, J⟩ := inst_at I2 ha0
  obtain ⟨m, fr⟩ := I2.fr
  exact PySem.W.sub_K fr I2.ok.mod.kin J M.at_ hf M.fn (run_fnSA F hr.in1 I2.env0.in1 hb (hx σ) I2 (.cons rx (.cons ry .nil)) q) (hsl _ _)
end
def topS (i : Nat) : Stmt := PySem.Challenge.pw_runlore_k09_books.main.body.getD i (.Pass ⟨0, 0, 0, 0⟩)
/-! the forms of trees, and what is inside of one -/
def exL : List (Str × Str) := [("int", "k"), ("atom", "n"), ("name", "n"), ("plus", "ek"), ("tuple", "s"), ("part", "ei"), ("join", "ee"), ("read", "n"), ("reach", "e"), ("call", "ns"), ("let", "nee"), ("if", "tee"), ("each", "nee"), ("pick", "net"), ("fold", "nenee"), ("fail", "n")]
def teL : List (Str × Str) := [("is", "we"), ("sized", "ei"), ("most", "eke"), ("alike", "ee"), ("not", "t"), ("both", "tt"), ("either", "tt")]
def allL : List (Str × Str) := exL ++ teL
/-- what stands in a slot: many trees (s), one tree (e, t), or none -/
def inSlot (k : Nat) (c : Nat) (d : PyData) : List (List Int × PyData) :=
  if c = 115 then (match d with | .tuple es => es.zipIdx.map fun p => ([(k : Int), (p.2 : Int)], p.1) | _ => [])
  else if c = 101 ∨ c = 116 then [([(k : Int)], d)] else []
def inArgs : Nat → List Nat → List PyData → List (List Int × PyData)
  | k, c :: cs, d :: ds => inSlot k c d ++ inArgs (k + 1) cs ds
  | _, [], _ => []
  | _, _ :: _, [] => []
/-- arguments as the slots want them -/
def ShA : List Nat → List PyData → Prop
  | c :: cs, d :: ds => (c = 115 → ∃ es, d = .tuple es) ∧ ShA cs ds
  | [], [] => True
  | [], _ :: _ => False
  | _ :: _, [] => False
/-- a tree of n trees, nested less than f deep -/
def Wf : Nat → Nat → PyData → Prop
  | 0, _, _ => False
  | f + 1, n, d => ∃ (h sl : Str) (args : List PyData) (ns : List Nat), d = .tuple (.str h :: args) ∧ (h, sl) ∈ allL ∧ ShA sl.cps.toList args ∧
      Paired (fun (m : Nat) (p : List Int × PyData) => Wf f m p.2) ns (inArgs 1 sl.cps.toList args) ∧ n = 1 + ns.sum
theorem ShA.len : ∀ {cs : List Nat} {ds : List PyData}, ShA cs ds → cs.length = ds.length
  | [], [], _ => rfl
  | _ :: _, _ :: _, h => congrArg (· + 1) (ShA.len h.2)
  | [], _ :: _, h => h.elim
  | _ :: _, [], h => h.elim
theorem paired_mono {α β : Type} {F G : α → β → Prop} (h : ∀ a b, F a b → G a b) : ∀ {xs : List α} {ys : List β}, Paired F xs ys → Paired G xs ys
  | _, _, .nil => .nil
  | _, _, .cons a t => .cons (h _ _ a) (paired_mono h t)
theorem paired_app {α β : Type} {F : α → β → Prop} : ∀ {xs : List α} {ys : List β} {xs2 : List α} {ys2 : List β}, Paired F xs ys → Paired F xs2 ys2 → Paired F (xs ++ xs2) (ys ++ ys2)
  | _, _, _, _, .nil, g => g
  | _, _, _, _, .cons a t, g => .cons a (paired_app t g)
theorem Wf.up : ∀ {f n : Nat} {d : PyData}, Wf f n d → Wf (f + 1) n d
  | 0, _, _, h => h.elim
  | f + 1, n, d, h => by
    obtain ⟨h0, sl, args, ns, e, m, s, p, q⟩ := h
    exact ⟨h0, sl, args, ns, e, m, s, paired_mono (fun a b z => Wf.up z) p, q⟩
theorem Wf.mono {f g n : Nat} {d : PyData} (h : Wf f n d) (hg : f ≤ g) : Wf g n d := by
  induction hg with
  | refl => exact h
  | step _ ih => exact ih.up
theorem inArgs_app : ∀ (k : Nat) (cs cs2 : List Nat) (ds ds2 : List PyData), cs.length = ds.length → inArgs k (cs ++ cs2) (ds ++ ds2) = inArgs k cs ds ++ inArgs (k + cs.length) cs2 ds2
  | k, [], cs2, [], ds2, _ => by simp [inArgs]
  | k, c :: cs, cs2, d :: ds, ds2, h => by
    have h2 : cs.length = ds.length := by simpa using h
    show inSlot k c d ++ inArgs (k + 1) (cs ++ cs2) (ds ++ ds2) = (inSlot k c d ++ inArgs (k + 1) cs ds) ++ _
    rw [inArgs_app (k + 1) cs cs2 ds ds2 h2, List.append_assoc, List.length_cons, show k + 1 + cs.length = k + (cs.length + 1) by omega]
  | k, [], cs2, _ :: _, ds2, h => by cases h
  | k, _ :: _, cs2, [], ds2, h => by cases h
theorem inArgs_take {k i : Nat} {cs : List Nat} {ds : List PyData} {c : Nat} {d : PyData} (h : cs.length = ds.length) (hc : cs[i]? = some c) (hd : ds[i]? = some d) :
    inArgs k (cs.take (i + 1)) (ds.take (i + 1)) = inArgs k (cs.take i) (ds.take i) ++ inSlot (k + i) c d := by
  have hi := (List.getElem?_eq_some_iff.mp hc).1
  rw [get_take hc, get_take hd, inArgs_app k _ _ _ _ (by rw [List.length_take, List.length_take, h])]
  have e : (cs.take i).length = i := by rw [List.length_take]; omega
  rw [e]
  simp [inArgs]
theorem ShA.at {cs : List Nat} {ds : List PyData} {i c : Nat} {d : PyData} (h : ShA cs ds) (hc : cs[i]? = some c) (hd : ds[i]? = some d) : c = 115 → ∃ es, d = .tuple es := by
  induction cs generalizing ds i with
  | nil => simp at hc
  | cons c0 cs ih =>
    cases ds with
    | nil => simp at hd
    | cons d0 ds =>
      cases i with
      | zero =>
        simp at hc hd
        subst hc hd
        exact h.1
      | succ i => exact ih (i := i) h.2 (by simpa using hc) (by simpa using hd)
/-- the trees inside, as pairs of path and tree -/
def pairD (p : List Int × PyData) : PyData := .tuple [.tuple (p.1.map PyData.int), p.2]
/-- a place inside of data -/
def atD : PyData → List Int → Option PyData
  | d, [] => some d
  | .tuple ds, i :: r => if 0 ≤ i then (match ds[i.toNat]? with | some e => atD e r | none => none) else none
  | _, _ :: _ => none
theorem atD_app : ∀ (p q : List Int) (d e : PyData), atD d p = some e → atD d (p ++ q) = atD e q
  | [], q, d, e, h => by
    have h : d = e := by simpa [atD] using h
    rw [h]
    rfl
  | i :: r, q, d, e, h => by
    cases d with
    | tuple ds =>
      simp only [atD, List.cons_append] at h ⊢
      split at h
      · rename_i h0
        rw [if_pos h0]
        cases hd : ds[i.toNat]? with
        | none => rw [hd] at h; cases h
        | some x =>
          rw [hd] at h
          exact atD_app r q x e h
      · cases h
    | none => simp [atD] at h
    | bool _ => simp [atD] at h
    | int _ => simp [atD] at h
    | str _ => simp [atD] at h
    | list _ => simp [atD] at h
    | dict _ => simp [atD] at h
theorem inSlot_at {k c : Nat} {d : PyData} {p : List Int × PyData} (h : p ∈ inSlot k c d) (ds : List PyData) (hk : ds[k]? = some d) : atD (.tuple ds) p.1 = some p.2 := by
  unfold inSlot at h
  split at h
  · cases d with
    | tuple es =>
      obtain ⟨q, hq, rfl⟩ := List.mem_map.mp h
      obtain ⟨j, hj⟩ := List.mem_iff_getElem?.mp hq
      rw [List.getElem?_zipIdx] at hj
      obtain ⟨x, hx, e⟩ := Option.map_eq_some_iff.mp hj
      subst e
      simp only [atD]
      rw [if_pos (by omega)]
      simp only [Int.toNat_natCast, hk]
      have e2 : ((0 + j : Nat) : Int).toNat = j := by omega
      simp only [atD]
      rw [if_pos (by omega), e2, hx]
    | none => simp at h
    | bool _ => simp at h
    | int _ => simp at h
    | str _ => simp at h
    | list _ => simp at h
    | dict _ => simp at h
  · split at h
    · rw [List.mem_singleton] at h
      subst h
      simp only [atD]
      rw [if_pos (by omega)]
      simp only [Int.toNat_natCast, hk]
    · cases h
theorem inArgs_at : ∀ (k : Nat) (cs : List Nat) (ds all : List PyData) (p : List Int × PyData), p ∈ inArgs k cs ds → (∀ i d, ds[i]? = some d → all[k + i]? = some d) → atD (.tuple all) p.1 = some p.2
  | k, c :: cs, d :: ds, all, p, h, g => by
    rcases List.mem_append.mp (show p ∈ inSlot k c d ++ inArgs (k + 1) cs ds from h) with h | h
    · exact inSlot_at h all (g 0 d rfl)
    · refine inArgs_at (k + 1) cs ds all p h fun i e he => ?_
      have q := g (i + 1) e (by simpa using he)
      rw [show k + 1 + i = k + (i + 1) by omega]
      exact q
  | k, [], ds, all, p, h, g => by simp [inArgs] at h
  | k, _ :: _, [], all, p, h, g => by simp [inArgs] at h
/-- what is inside of a tree -/
def kids8 : PyData → List (List Int × PyData)
  | .tuple (.str h :: args) => inArgs 1 (((allL.find? fun p => decide (p.1 = h)).map Prod.snd).getD "").cps.toList args
  | _ => []
theorem allL_find : ∀ p ∈ allL, ((allL.find? fun q => decide (q.1 = p.1)).map Prod.snd).getD "" = p.2 := by decide +kernel
theorem Wf.open {f n : Nat} {d : PyData} (w : Wf f n d) : ∃ (h sl : Str) (args : List PyData) (ns : List Nat) (f' : Nat), f = f' + 1 ∧ d = .tuple (.str h :: args) ∧ (h, sl) ∈ allL ∧ ShA sl.cps.toList args ∧ kids8 d = inArgs 1 sl.cps.toList args ∧
    Paired (fun (m : Nat) (p : List Int × PyData) => Wf f' m p.2) ns (kids8 d) ∧ n = 1 + ns.sum := by
  cases f with
  | zero => exact w.elim
  | succ f =>
    obtain ⟨h, sl, args, ns, rfl, m, s, p, q⟩ := w
    have e : kids8 (.tuple (.str h :: args)) = inArgs 1 sl.cps.toList args := by
      have z := allL_find _ m
      simp only [kids8]
      rw [z]
    exact ⟨h, sl, args, ns, f, rfl, rfl, m, s, e, by rw [e]; exact p, q⟩
theorem kids_at {f n : Nat} {d : PyData} (w : Wf f n d) : ∀ p ∈ kids8 d, atD d p.1 = some p.2 := by
  obtain ⟨h, sl, args, ns, f', _, rfl, m, s, e, p, q⟩ := w.open
  rw [e]
  intro p hp
  refine inArgs_at 1 _ args _ p hp fun i x hx => ?_
  rw [show 1 + i = i + 1 by omega]
  simpa using hx
mutual
/-- no list in it -/
def nl : PyData → Bool
  | .list _ => false
  | .dict _ => false
  | .tuple ds => nls ds
  | .none => true
  | .bool _ => true
  | .int _ => true
  | .str _ => true
def nls : List PyData → Bool
  | [] => true
  | d :: ds => nl d && nls ds
end
/-- none of these is a tuple -/
def NT (l : List Addr) (H : Hp) : Prop := ∀ b ∈ l, ∀ xs, ¬ Rd H b (.tup xs)
mutual
theorem Dp.less {K : PySem.W.Frag} {H : Hp} {l : List Addr} (hl : NT l H) : ∀ (d : PyData) (v : V), nl d = true → Dp K H v d → Dp K (cut l H) v d
  | .none, _, _, h => by cases h; exact .non
  | .bool b, _, _, h => by cases h; exact .bl b
  | .int i, _, _, h => by cases h; exact .int i
  | .str x, _, _, h => by cases h; exact .str x
  | .list ds, _, n, _ => by simp [nl] at n
  | .dict _, _, n, _ => by simp [nl] at n
  | .tuple ds, _, n, h => by
    cases h with
    | @tup a xs _ h1 h2 =>
      refine .tup ?_ (Dp.lesss hl ds _ (by simpa only [nl] using n) h2)
      rcases h1 with (h1 | ⟨o, h1⟩) | h1
      · refine .inl (.inl ?_)
        rw [cut_out fun z => hl _ z _ (.inl h1)]
        exact h1
      · refine .inl (.inr ⟨o, ?_⟩)
        rw [cut_out fun z => hl _ z _ (.inr ⟨o, h1⟩)]
        exact h1
      · exact .inr h1
theorem Dp.lesss {K : PySem.W.Frag} {H : Hp} {l : List Addr} (hl : NT l H) : ∀ (ds : List PyData) (vs : List V), nls ds = true → DpAll K H vs ds → DpAll K (cut l H) vs ds
  | [], _, _, h => by cases h; exact .nil
  | d :: ds, _, n, h => by
    simp only [nls, Bool.and_eq_true] at n
    cases h with
    | cons h1 h2 => exact .cons (Dp.less hl d _ n.1 h1) (Dp.lesss hl ds _ n.2 h2)
end
theorem nls_mem : ∀ {ds : List PyData} {d : PyData}, nls ds = true → d ∈ ds → nl d = true
  | _ :: _, _, h, m => by
    simp only [nls, Bool.and_eq_true] at h
    rcases List.mem_cons.mp m with e | e
    · rw [e]
      exact h.1
    · exact nls_mem h.2 e
theorem nls_app : ∀ ds es : List PyData, nls (ds ++ es) = (nls ds && nls es)
  | [], es => by simp [nls]
  | d :: ds, es => by simp only [List.cons_append, nls, nls_app ds es, Bool.and_assoc]
theorem Dp.off {K : PySem.W.Frag} {H H' : Hp} {l : List Addr} {d : PyData} {v : V} (h : Dp K H v d) (hl : NT l H) (n : nl d = true) (o : Off l H H') : Dp K H' v d :=
  Dp.up (Same.trans o (cut_same l H')) _ _ (Dp.less hl d v n h)
theorem DpAll.off {K : PySem.W.Frag} {H H' : Hp} {l : List Addr} {ds : List PyData} {vs : List V} (h : DpAll K H vs ds) (hl : NT l H) (n : nls ds = true) (o : Off l H H') : DpAll K H' vs ds :=
  Dp.ups (Same.trans o (cut_same l H')) _ _ (Dp.lesss hl ds vs n h)
theorem nt_lst {H : Hp} {b : Addr} {ys : List V} (h : H b = some (.lst ys)) : ∀ xs, ¬ Rd H b (.tup xs) := fun xs z => by
  rcases z with z | ⟨o, z⟩
  · rw [h] at z
    cases z
  · rw [h] at z
    cases z
theorem nt_dk {H : Hp} {b : Addr} {ys : List (Key × V)} (h : H b = some (.dK ys)) : ∀ xs, ¬ Rd H b (.tup xs) := fun xs z => by
  rcases z with z | ⟨o, z⟩
  · rw [h] at z
    cases z
  · rw [h] at z
    cases z
theorem NT.cons {H : Hp} {b : Addr} {l : List Addr} (h : ∀ xs, ¬ Rd H b (.tup xs)) (n : NT l H) : NT (b :: l) H := fun c hc => by
  rcases List.mem_cons.mp hc with e | e
  · rw [e]
    exact h
  · exact n c e
theorem NT.nil {H : Hp} : NT [] H := fun _ z => nomatch z
theorem Box.nt {H : Hp} {p g : Addr} (b : Box H p g) : NT [p, g] H := by
  obtain ⟨n, s, t, gs, h1, h2, _⟩ := b.ex
  exact .cons (nt_dk h1) (.cons (nt_lst h2) .nil)
theorem inSlot_sum (k c : Nat) (d : PyData) : ((inSlot k c d).map fun p => nod p.2).sum ≤ nod d := by
  unfold inSlot
  split
  · cases d with
    | tuple es =>
      have key : ∀ (es : List PyData) (j : Nat), ((es.zipIdx j).map fun p : PyData × Nat => nod p.1).sum = nods es := fun es => by
        induction es with
        | nil => intro j; simp [nods]
        | cons e es ih =>
          intro j
          simp only [List.zipIdx_cons, List.map_cons, List.sum_cons, nods, ih]
      simp only [List.map_map, nod]
      have := key es 0
      have e : ((fun p : List Int × PyData => nod p.2) ∘ fun p : PyData × Nat => ([(k : Int), (p.2 : Int)], p.1)) = fun p : PyData × Nat => nod p.1 := rfl
      rw [e]
      omega
    | _ => simp
  · split
    · simp
    · simp
theorem inArgs_sum : ∀ (k : Nat) (cs : List Nat) (ds : List PyData), ((inArgs k cs ds).map fun p => nod p.2).sum ≤ nods ds
  | k, c :: cs, d :: ds => by
    have h1 := inSlot_sum k c d
    have h2 := inArgs_sum (k + 1) cs ds
    simp only [inArgs, List.map_append, List.sum_append, nods]
    omega
  | _, [], _ => by simp [inArgs]
  | _, _ :: _, [] => by simp [inArgs]
theorem Wf.le : ∀ {f n : Nat} {d : PyData}, Wf f n d → n ≤ nod d
  | 0, _, _, h => h.elim
  | f + 1, n, d, h => by
    obtain ⟨h0, sl, args, ns, rfl, m, s, p, rfl⟩ := h
    have q := inArgs_sum 1 sl.cps.toList args
    have r : ns.sum ≤ ((inArgs 1 sl.cps.toList args).map fun p => nod p.2).sum := by
      revert p
      generalize inArgs 1 sl.cps.toList args = ks
      intro p
      clear q
      induction p with
      | nil => exact Nat.le_refl _
      | cons a t ih =>
        have := Wf.le a
        simp only [List.map_cons, List.sum_cons]
        omega
    simp only [nod, nods]
    omega
abbrev sBox : Stmt := topS 32
abbrev sTake : Stmt := topS 33
theorem c47 : (0 : Int) < 2147483647 := by decide
theorem c29 : (0 : Int) < 2147483629 := by decide
/-! _law_take: some number below many; the box stays a box -/
def spTake : Sp := fun vs H Q _ => ∃ (p g : Addr) (m : Int), vs = [.ref p, .int m] ∧ Box H p g ∧ 0 < m ∧ m.natAbs < 2 ^ 200 ∧
  ∀ (r : Int) (H' : Hp), 0 ≤ r → r < m → Box H' p g → Off [p, g] H H' → Q (.int r) H'
def spBox (K : PySem.W.Frag) : Sp := fun vs H Q _ => ∃ (a : Addr) (ns : List Int) (c : Int), vs = [.ref a, .int c] ∧ SqL K H a (ns.map V.int) ∧ ns.length ≤ 63 ∧ 0 ≤ c ∧ c < 1000 ∧
  ∀ (p g : Addr) (H' : Hp), Box H' p g → Same H H' → H p = none → H g = none → Q (.ref p) H'
theorem scTake : FnScope ["_law_box_here", "_law_many", "_law_digit", "_law_one"] ["_law_box_here", "_law_many"] (defScope sTake) :=
  ⟨rfl, rfl, rfl, by decide +kernel, rfl, by decide +kernel, by decide +kernel⟩
section
variable {P : Program} {w : World} {K : PySem.W.Frag} {mg : Str → Option Value} {base : Heap} {f : Addr} {fd : FuncData}
theorem get_now {H : Hp} {p g : Addr} {n s t : Int} (h : H p = some (.dK (bx g n s t))) : DGet H p (.str "now") (some (.int n)) := by
  have q := DGet.k (k := (Sum.inr "now" : Key)) h
  rw [bx_now] at q
  exact q
theorem get_great {H : Hp} {p g : Addr} {n s t : Int} (h : H p = some (.dK (bx g n s t))) : DGet H p (.str "great") (some (.ref g)) := by
  have q := DGet.k (k := (Sum.inr "great" : Key)) h
  rw [bx_great] at q
  exact q
theorem get_seed {H : Hp} {p g : Addr} {n s t : Int} (h : H p = some (.dK (bx g n s t))) : DGet H p (.str "seed") (some (.int s)) := by
  have q := DGet.k (k := (Sum.inr "seed" : Key)) h
  rw [bx_seed] at q
  exact q
theorem get_turn {H : Hp} {p g : Addr} {n s t : Int} (h : H p = some (.dK (bx g n s t))) : DGet H p (.str "turn") (some (.int t)) := by
  have q := DGet.k (k := (Sum.inr "turn" : Key)) h
  rw [bx_turn] at q
  exact q
theorem set_now {H : Hp} {p g : Addr} {n s t : Int} (y : Int) (h : H p = some (.dK (bx g n s t))) : DPut H p (.str "now") (.int y) (upd H p (.dK (bx g y s t))) := by
  have q := DPut.k (k := (Sum.inr "now" : Key)) (v := .int y) h (by show 4 < sizeLine; decide)
  rw [put_now] at q
  exact q
theorem set_seed {H : Hp} {p g : Addr} {n s t : Int} (y : Int) (h : H p = some (.dK (bx g n s t))) : DPut H p (.str "seed") (.int y) (upd H p (.dK (bx g n y t))) := by
  have q := DPut.k (k := (Sum.inr "seed" : Key)) (v := .int y) h (by show 4 < sizeLine; decide)
  rw [put_seed] at q
  exact q
theorem set_turn {H : Hp} {p g : Addr} {n s t : Int} (y : Int) (h : H p = some (.dK (bx g n s t))) : DPut H p (.str "turn") (.int y) (upd H p (.dK (bx g n s y))) := by
  have q := DPut.k (k := (Sum.inr "turn" : Key)) (v := .int y) h (by show 4 < sizeLine; decide)
  rw [put_turn] at q
  exact q
theorem ok_take {k : Nat} (F : Fun K "_law_take" "_law_take" sTake f fd) (ml : mg "len" = none) : FnOk P w K mg base CX0 (k + 1) f fd ["_law_box_here", "_law_many"] spTake := by
  refine F.ok scTake (fun vs H Q E h => ?_) (fun cdv A outer s H vs Q E hr h => ?_)
  · obtain ⟨p, g, m, rfl, _⟩ := h
    rfl
  obtain ⟨p, g, m, rfl, ⟨n, sd, t, gs, hp, hg, hl⟩, m0, m9, q⟩ := h
  have hu := hu_of hr
  have npg : p ≠ g := ne_of hp hg (by intro z; cases z)
  refine ⟨_, C8.pss_cut (ps_if (PW.pt (pw_and (pt_cmpR op_eq (pe_dget hu (pv 0) pe_str (fun _ _ => rfl)) pe_int (nomark _))
        (pw_and1 (pt_cmpR op_gt (pe_callB call_len_seq (by rfl) ml PySem.boot_len (pa_cons (pe_dget hu (pv 0) pe_str (fun _ _ => rfl)) pa_nil)) pe_int (nomark _)))))
        (pss_one (ps_dput hu (pv 0) pe_str (pe_bm0 PySem.F.plainAttrs_list PySem.F.slot_list_pop PySem.F.type_list_pop mt_pop (pe_dget hu (pv 0) pe_str (fun _ _ => rfl))) rfl)) pss_nil)
    (pss_cons (ps_if (pt_cmpR op_gt (pe_dget hu (pv 0) pe_str (fun _ _ => rfl)) pe_int (nomark _))
        (pss_cons (ps_set (i := 2) scTake.nd rfl (.inl rfl) (pe_op op_mod (pe_dget hu (pv 0) pe_str (fun _ _ => rfl)) (pv 1)))
        (pss_cons (ps_dput hu (pv 0) pe_str (pe_op op_fdivW (pe_dget hu (pv 0) pe_str (fun _ _ => rfl)) (pv 1)) rfl)
        (pss_one (ps_ret (pv 2))))) pss_nil)
    (pss_cons (ps_dput hu (pv 0) pe_str (pe_op op_add (pe_dget hu (pv 0) pe_str (fun _ _ => rfl)) pe_int) rfl)
    (pss_cons (ps_set (i := 3) scTake.nd rfl (.inl rfl) (pe_op op_mod (pe_op op_mul (pe_op op_mod (pe_op op_add (pe_dget hu (pv 0) pe_str (fun _ _ => rfl))
        (pe_op op_mul pe_int (pe_dget hu (pv 0) pe_str (fun _ _ => rfl)))) pe_int) pe_int) pe_int))
    (pss_cons (ps_dput hu (pv 0) pe_str (pe_op op_add (pe_op op_mod (pe_op op_add (pv 3) (pe_op op_mul pe_int (pe_dget hu (pv 0) pe_str (fun _ _ => rfl)))) pe_int) pe_int) rfl)
    (pss_one (ps_ret (pe_op op_mod (pe_op op_fdiv (pe_op op_add (pe_op op_mul (pv 3) pe_int) (pe_dget hu (pv 0) pe_str (fun _ _ => rfl))) pe_int) (pv 1)))))))), ?_⟩
  refine ⟨fun σ H1 => ∃ n1 gs1, σ = [some (.ref p), some (.int m), none, none] ∧ H1 p = some (.dK (bx g n1 sd t)) ∧ H1 g = some (.lst (List.map V.int gs1)) ∧ gs1.length ≤ 1000 ∧ Off [p, g] H H1, ?_, ?_⟩
  · refine ⟨_, rfl, p, _, rfl, get_now hp, rfl, _, rfl, ite2 (fun c => ?_) (fun c => iteF ⟨n, gs, rfl, hp, hg, hl, Off.refl _ _⟩)⟩
    refine ⟨_, rfl, p, _, rfl, get_great hp, g, _, rfl, .inl (SqL.of hg), _, _, rfl, rfl, _, rfl, ite2 (fun c2 => ?_) (fun c2 => ⟨n, gs, rfl, hp, hg, hl, Off.refl _ _⟩)⟩
    have c3 : (0 : Int) < (((List.map V.int gs).length : Nat) : Int) := of_decide_eq_true c2
    rw [List.length_map] at c3
    have hlast : (List.map V.int gs)[(List.map V.int gs).length - 1]? = some (V.int (gs[gs.length - 1]'(by omega))) := by
      rw [List.length_map, List.getElem?_map, List.getElem?_eq_getElem (by omega)]
      rfl
    have hp1 : (upd H g (.lst (List.map V.int gs).dropLast)) p = some (.dK (bx g n sd t)) := by rw [upd_ne npg]; exact hp
    refine ⟨_, rfl, p, _, rfl, get_great hp, .inl ⟨rfl, _, .inl (.inl hg)⟩, g, _, _, rfl, rfl, hg, hlast, _, rfl, p, _, rfl, set_now _ hp1, ?_⟩
    refine ⟨_, gs.dropLast, rfl, upd_same, ?_, ?_, ?_⟩
    · rw [upd_ne npg.symm, upd_same, List.map_dropLast]
    · rw [List.length_dropLast]
      omega
    · exact (Off.put (by simp)).trans (Off.put (by simp))
  · rintro σ H1 ⟨n1, gs1, rfl, hp1, hg1, hl1, of1⟩
    refine ⟨_, rfl, p, _, rfl, get_now hp1, _, _, rfl, rfl, _, rfl, ite2 (fun c => ?_) (fun c => ?_)⟩
    · refine ⟨_, rfl, p, _, rfl, get_now hp1, _, rfl, _, _, rfl, rfl, m0, ?_⟩
      refine ⟨_, rfl, p, _, rfl, get_now hp1, _, rfl, _, _, rfl, rfl, wide_div m0 m9 (by decide) (by decide), _, rfl, p, _, rfl, set_now _ hp1, ?_⟩
      refine ⟨_, rfl, q _ _ (Int.emod_nonneg _ (by omega)) (Int.emod_lt_of_pos _ m0) ⟨_, sd, t, gs1, upd_same, by rw [upd_ne npg.symm]; exact hg1, hl1⟩ (of1.trans (Off.put (by simp)))⟩
    · refine ⟨_, rfl, p, _, rfl, get_turn hp1, _, _, rfl, rfl, _, rfl, p, _, rfl, set_turn _ hp1, ?_⟩
      refine ⟨_, rfl, p, _, rfl, get_seed upd_same, _, rfl, p, _, rfl, get_turn upd_same, _, _, rfl, rfl, .inl ⟨by decide, by decide⟩, _, _, rfl, rfl, _, _, rfl, rfl, c47, _, _, rfl, rfl, .inr ⟨by decide, by decide⟩, _, _, rfl, rfl, c47, ?_⟩
      refine ⟨_, rfl, _, rfl, p, _, rfl, get_seed upd_same, _, _, rfl, rfl, .inl ⟨by decide, by decide⟩, _, _, rfl, rfl, _, _, rfl, rfl, c29, _, _, rfl, rfl, _, rfl, p, _, rfl, set_seed _ upd_same, ?_⟩
      refine ⟨_, rfl, _, _, rfl, rfl, .inr ⟨by decide, by decide⟩, _, rfl, p, _, rfl, get_seed upd_same, _, _, rfl, rfl, _, _, rfl, rfl, ⟨by decide, by decide⟩, _, rfl, _, _, rfl, rfl, m0, ?_⟩
      refine q _ _ (Int.emod_nonneg _ (by omega)) (Int.emod_lt_of_pos _ m0) ⟨n1, _, _, gs1, upd_same, ?_, hl1⟩ (of1.trans ((Off.put (by simp)).trans (Off.put (by simp))))
      rw [upd_ne npg.symm, upd_ne npg.symm]
      exact hg1
end
theorem cutV_ints (ns : List Int) (lo hi : Option Int) : ∃ ms : List Int, cutV (ns.map V.int) lo hi = ms.map V.int ∧ ms.length ≤ ns.length := by
  refine ⟨(ns.drop (HT.sIx ns.length 0 lo)).take (HT.sIx ns.length ns.length hi - HT.sIx ns.length 0 lo), ?_, ?_⟩
  · unfold cutV
    rw [List.length_map, List.map_take, List.map_drop]
  · rw [List.length_take, List.length_drop]
    omega
theorem int_at {ms : List Int} {i : Nat} {y : V} (h : (ms.map V.int)[i]? = some y) : ∃ z, y = V.int z := by
  rw [List.getElem?_map] at h
  cases e : ms[i]? with
  | none =>
    rw [e] at h
    cases h
  | some z =>
    rw [e] at h
    exact ⟨z, (Option.some.inj h).symm⟩
theorem scBox : FnScope ["_law_script", "_law_base", "_law_seed", "_law_cell", "_law_great"] ["_law_script", "_law_base"] (defScope sBox) :=
  ⟨rfl, rfl, rfl, by decide +kernel, rfl, by decide +kernel, by decide +kernel⟩
section
variable {P : Program} {w : World} {K : PySem.W.Frag} {mg : Str → Option Value} {base : Heap} {f : Addr} {fd : FuncData}
theorem ok_box {k : Nat} (F : Fun K "_law_box" "_law_box" sBox f fd) (mab : mg "abs" = none) : FnOk P w K mg base CX0 (k + 1) f fd ["_law_script", "_law_base"] (spBox K) := by
  refine F.ok scBox (fun vs H Q E h => ?_) (fun cdv A outer s H vs Q E hr h => ?_)
  · obtain ⟨a, ns, c, rfl, _⟩ := h
    rfl
  obtain ⟨a, ns, c, rfl, hS, hlen, c0, c9, q⟩ := h
  have hu := hu_of hr
  refine ⟨_, pss_cons (ps_set (i := 2) scBox.nd rfl (.inl rfl) (pe_op op_add pe_int (pe_op op_mul pe_int (pv 1))))
    (pss_cons (ps_for PassesOwn.never rfl (pi_list (pe_slice sl_list (pv 0) po_none (po_some pe_int))) (pg_name (i := 3) scBox.nd rfl (.inl rfl))
      (pss_one (ps_set (i := 2) scBox.nd rfl (.inl rfl) (pe_op op_mod (pe_op op_add (pe_op op_add (pe_op op_mul (pv 2) pe_int)
        (pe_op op_mod (pe_callB call_abs (by rfl) mab (by decide +kernel) (pa_cons (pv 3) pa_nil)) pe_int)) pe_int) pe_int))))
    (pss_cons (ps_setLc (i := 4) (own := [("_law_cell", 3)]) (g := gName 3) (by rfl) scBox.nd rfl rfl (sw_true rfl rfl rfl (by decide +kernel))
      (pi_list (pe_slice sl_list (pv 0) (po_some (pv 1)) (po_some pe_int)))
      (blkOk_by (own := [("_law_cell", 3)]) (N := ["_law_script", "_law_base", "_law_seed", "_law_cell", "_law_great"]) (sc := defScope sBox) (by decide +kernel))
      (fun _ _ _ _ _ => pg_name (i := 3) scBox.nd rfl (Or.inl rfl))
      (fun _ _ _ _ _ => pts_one (pt_cmpR op_ge (pe_callB call_abs (by rfl) mab (by decide +kernel) (pa_cons (pv 3) pa_nil)) (pe_op op_pow pe_int pe_int) (nomark _)))
      (fun _ _ _ _ _ => pe_callB call_abs (by rfl) mab (by decide +kernel) (pa_cons (pv 3) pa_nil)))
    (pss_one (ps_ret (pe_disp (pps_cons pe_str (pe_revL (pv 4)) (pps_cons pe_str pe_int (pps_cons pe_str (pe_op op_add (pv 2) pe_int) (pps_cons pe_str pe_int pps_nil))))
      (by rfl) (by rfl) (fun z => by cases z) (by decide)))))), ?_⟩
  refine ⟨_, rfl, _, _, rfl, rfl, .inl ⟨by decide, by decide⟩, _, _, rfl, rfl, ?_⟩
  refine ⟨_, rfl, 50, rfl, a, _, rfl, hS, fun q0 hq0 => ?_⟩
  obtain ⟨ms, em, lm⟩ := cutV_ints ns none (some 50)
  rw [em]
  have s1 : Same H (upd H q0 (.lst (ms.map V.int))) := same_new hq0 _
  refine ⟨q0, rfl, ⟨_, SqL.of upd_same⟩, for_list (K := K) (a := q0) (xs := ms.map V.int) (fun i σ H2 => ∃ (z : Int) (v : Option V), σ = [some (.ref a), some (.int c), some (.int z), v, none] ∧ -(2 ^ 40) < z ∧ z < 2 ^ 40 ∧ H2 = upd H q0 (.lst (ms.map V.int)))
    ⟨7001 + 211 * c, none, rfl, by omega, by omega, rfl⟩ (fun i σ H2 _ ⟨_, _, _, _, _, e⟩ => by rw [e]; exact SqL.of upd_same) ?_ ?_⟩
  · rintro i y σ H2 hi ⟨z, v, rfl, z0, z1, rfl⟩
    obtain ⟨x, rfl⟩ := int_at hi
    refine ⟨_, rfl, _, _, rfl, rfl, .inr ⟨by decide, by decide⟩, _, rfl, _, rfl, _, _, rfl, rfl, c29, _, _, rfl, rfl, _, _, rfl, rfl, _, _, rfl, rfl, c47, ?_⟩
    exact ⟨_, _, rfl, Int.lt_of_lt_of_le (by decide) (Int.emod_nonneg _ (by decide)), Int.lt_trans (Int.emod_lt_of_pos _ c47) (by decide), rfl⟩
  · rintro σ H2 ⟨z, v, rfl, z0, z1, rfl⟩
    refine ⟨_, rfl, _, rfl, c, rfl, 50, rfl, a, _, rfl, s1.seq hS, fun q1 hq1 => ?_⟩
    obtain ⟨ks, ek, lk⟩ := cutV_ints ns (some c) (some 50)
    rw [ek]
    have s2 := s1.trans (same_new hq1 (.lst (ks.map V.int)))
    refine ⟨q1, rfl, ⟨_, SqL.of upd_same⟩, fun D hD => lc_list (K := K) (a := q1) (xs := ks.map V.int) (fun i H3 => ∃ gs : List Int, gs.length ≤ i ∧ H3 D = some (.lst (gs.map V.int)) ∧ H3 q1 = some (.lst (ks.map V.int)) ∧ Same H H3)
      ⟨[], Nat.le_refl _, upd_same, by rw [upd_ne (ne_of_none upd_same hD), upd_same], s2.trans (same_new hD _)⟩ (fun i H3 _ ⟨_, _, _, h, _⟩ => SqL.of h) ?_ ?_⟩
    · rintro i y H3 hi ⟨gs, lg, h1, h2, h3⟩
      have hik := (List.getElem?_eq_some_iff.mp hi).1
      rw [List.length_map] at hik
      obtain ⟨x, rfl⟩ := int_at hi
      refine ⟨rfl, _, rfl, _, rfl, _, _, rfl, rfl, ⟨by decide, by decide, by decide⟩, _, _, rfl, rfl, _, rfl, ite2 (fun _ => ?_) (fun _ => ?_)⟩
      · refine ⟨_, rfl, _, rfl, _, h1, ?_, gs ++ [if x < 0 then -x else x], ?_, ?_, ?_, ?_⟩
        · rw [List.length_map]
          exact small1000 (by omega)
        · rw [List.length_append, List.length_singleton]
          omega
        · rw [upd_same, List.map_append]
          rfl
        · rw [upd_ne (ne_of_none upd_same hD)]
          exact h2
        · intro b o e
          rw [upd_ne (ne_of_none e (s2.free hD))]
          exact h3 b o e
      · exact ⟨gs, by omega, h1, h2, h3⟩
    · rintro H3 ⟨gs, lg, h1, h2, h3⟩
      rw [List.length_map] at lg
      refine fun p hp => ⟨_, rfl, D, _, rfl, SqL.of (by rw [upd_ne (ne_of_none h1 hp)]; exact h1), fun g hg => ?_⟩
      have ngp : g ≠ p := fun e => by
        rw [e, upd_same] at hg
        cases hg
      have hp2 : (upd (upd H3 p (.dK [])) g (.lst (gs.map V.int).reverse)) p = some (.dK []) := by rw [upd_ne ngp.symm, upd_same]
      refine ⟨_, rfl, _, _, rfl, rfl, hp2, bx g 0 (z + 1) 0, rfl, by show 4 ≤ 15; decide, ?_⟩
      rw [mer_box]
      have hg3 : H3 g = none := by
        rw [upd_ne ngp] at hg
        exact hg
      refine q p g _ ⟨0, z + 1, 0, gs.reverse, upd_same, ?_, ?_⟩ ?_ (h3.free hp) (h3.free hg3)
      · rw [upd_ne ngp, upd_same, List.map_reverse]
      · rw [List.length_reverse]
        omega
      · intro b o e
        have e3 := h3 b o e
        rw [upd_ne (ne_of_none e3 hp), upd_ne (ne_of_none e3 hg3), upd_ne (ne_of_none e3 hp)]
        exact e3
end
structure Tk (P : Program) (w : World) (K : PySem.W.Frag) (mg : Str → Option Value) (base : Heap) (f : Addr) (fd : FuncData) : Prop where
  ok : FnOk P w K mg base CX0 1 f fd ["_law_box_here", "_law_many"] spTake
  kp : PySem.W.keepIn K (.ref f) = true
  bd : Binds K fd ["_law_box_here", "_law_many"] []
  mg : mg "_law_take" = some (.ref f)
theorem atI_ok {α : Type} {xs : List α} {r : Int} (h0 : 0 ≤ r) (h : r < (xs.length : Int)) : ∃ x, atI xs r = some x ∧ x ∈ xs ∧ xs[r.toNat]? = some x := by
  have hr : r.toNat < xs.length := by omega
  have e : r = (r.toNat : Int) := by omega
  have q : atI xs ((r.toNat : Nat) : Int) = some xs[r.toNat] := atI_nat (List.getElem?_eq_getElem hr)
  rw [← e] at q
  exact ⟨xs[r.toNat], q, List.getElem_mem hr, List.getElem?_eq_getElem hr⟩
theorem okG {P : Program} {w : World} {K : PySem.W.Frag} {mg : Str → Option Value} {base : Heap} {x qual : Str} {st : Stmt} {f : Addr} {fd : FuncData} {N ps : List Str} {k : Nat} {sp : Sp} (F : Fun K x qual st f fd) (S : FnScope N ps (defScope st))
    (len : ∀ ws H Q E, sp ws H Q E → ws.length = ps.length)
    (hb : ∀ (cdv : Value) (A : Around) (outer : List Env) (s : Shared) (H : Hp) (vs : List V) (Q : VK) (E : XK), A.guards = some [] → Room k (A.deeper (envOfC qual (defScope st) s.heap.objs.size f cdv)) → sp vs H Q E →
      ∃ t, PSs (cxOf CX0 P w K mg base N qual (defScope st) f cdv A outer s H E).nox (defBody st) t ∧ t { nx := fun _ H' => Q .non H', rt := Q } (start N vs) H) : FnG P w K mg base CX0 (k + 1) f fd ps sp := by
  obtain ⟨oc, od, kV, doc, pm, an, cdv, ct, osl, rfl, lk, hcd⟩ := F.ex
  refine fnG_of lk hcd S len ?_
  intro A outer s H vs Q E hg hr hsp
  obtain ⟨t, h, q⟩ := hb cdv A outer s H vs Q E hg hr hsp
  exact ⟨t, h.nox, q⟩
theorem bool_prn (b : Bool) : Prn (.bool b) := prn_of (by simp only [gd]) (by simp only [nod]; omega) (by simp only [PyData.depth]; omega)
/-- a def of the top that keeps a promise -/
structure Dn (P : Program) (w : World) (K : PySem.W.Frag) (mg : Str → Option Value) (base : Heap) (lvl : Nat) (nm : Str) (ps : List Str) (sp : Sp) (f : Addr) (fd : FuncData) : Prop where
  ok : FnOk P w K mg base CX0 lvl f fd ps sp
  kp : PySem.W.keepIn K (.ref f) = true
  bd : Binds K fd ps []
  mg : mg nm = some (.ref f)
theorem cut_less {l m : List Addr} {H : Hp} (h : ∀ b ∈ m, b ∈ l) : Same (cut l H) (cut m H) := fun b o e => by
  obtain ⟨n, e⟩ := cut_some e
  rw [cut_out (fun z => n (h b z))]
  exact e
theorem cut_more {l : List Addr} {H : Hp} {a : Addr} {o : HO} (h : H a = none) : Same (cut l H) (cut (a :: l) (upd H a o)) := fun b u e => by
  obtain ⟨n, e⟩ := cut_some e
  have nb := ne_of_none e h
  rw [cut_out (fun z => (List.mem_cons.mp z).elim nb n), upd_ne nb]
  exact e
theorem dp_true {K : PySem.W.Frag} {H : Hp} {b : Bool} (h : b = true) : Dp K H (.bl b) (.bool true) := by
  rw [h]
  exact .bl true
theorem DpAll.parts {K : PySem.W.Frag} {H : Hp} {xs : List V} {ds : List PyData} (h : DpAll K H xs ds) (i : Nat) : DpAll K H (xs.take i) (ds.take i) ∧ DpAll K H (xs.drop i) (ds.drop i) := by
  have lx := DpAll.len h
  obtain ⟨d1, d2, e, a, b⟩ := DpAll.unapp (xs := xs.take i) (ys := xs.drop i) (by rw [List.take_append_drop]; exact h)
  have la := DpAll.len a
  have lb := DpAll.len b
  rw [List.length_take] at la
  rw [List.length_drop] at lb
  subst e
  by_cases hi : i ≤ xs.length
  · have l1 : d1.length = i := by omega
    have e1 : (d1 ++ d2).take i = d1 := by rw [← l1]; exact List.take_left
    have e2 : (d1 ++ d2).drop i = d2 := by rw [← l1]; exact List.drop_left
    rw [e1, e2]
    exact ⟨a, b⟩
  · have l2 : d2 = [] := List.length_eq_zero_iff.mp (by omega)
    subst l2
    rw [List.append_nil, List.take_of_length_le (l := d1) (by omega), List.drop_of_length_le (l := d1) (by omega)]
    exact ⟨a, b⟩
theorem cutV_dp {K : PySem.W.Frag} {H : Hp} {xs : List V} {ds : List PyData} (h : DpAll K H xs ds) (lo hi : Option Int) : ∃ es, DpAll K H (cutV xs lo hi) es ∧ ∀ e ∈ es, e ∈ ds := by
  unfold cutV
  exact ⟨_, (DpAll.parts (DpAll.parts h _).2 _).1, fun e he => List.mem_of_mem_drop (List.mem_of_mem_take he)⟩
theorem gd_int {i : Int} (h : i.natAbs < 2 ^ 1000) : gd (.int i) = true := by
  simp only [gd]
  exact decide_eq_true (Nat.lt_trans (PySem.Flt.log2_lt_of (by decide) h) (by decide))
/-! own errors -/
/-- an error of the class C with these attributes stands at a, its dict at d -/
def ErrD (H : Hp) (C a d : Addr) (fs : List (Str × V)) : Prop := H a = some (exo a C (some d)) ∧ H d = some (exd d fs)
theorem ErrD.up {H H' : Hp} {C a d : Addr} {fs : List (Str × V)} (s : Same H H') (h : ErrD H C a d fs) : ErrD H' C a d fs := ⟨s _ _ h.1, s _ _ h.2⟩
theorem ErrD.at {H : Hp} {C a d : Addr} {fs : List (Str × V)} (h : ErrD H C a d fs) : ErrAt H C a := .inr ⟨d, fs, h.1, h.2⟩
theorem few9 {n : Nat} (h : n ≤ 3) : n ≤ 900 := Nat.le_trans h (by decide)
/-- an __init__ that keeps its arguments in attributes of these names -/
def spIni (C : Addr) (ns : List Str) : Sp := fun vs H Q _ => ∃ (a : Addr) (ws : List V), vs = .ref a :: ws ∧ ws.length = ns.length ∧ H a = some (exo a C none) ∧
  ∀ d H', H d = none → d ≠ a → ErrD H' C a d (ns.zip ws).reverse → (∀ b o, b ≠ a → H b = some o → H' b = some o) → Q .non H'
/-- what is known of an error class with an __init__ of its own -/
structure EC (P : Program) (w : World) (K : PySem.W.Frag) (mg : Str → Option Value) (base : Heap) (nm : Str) (ns ks : List Str) (C fI : Addr) (fd : FuncData) : Prop where
  T : ExK K C
  X : XfC K C
  E : ExcC K C
  iC : PySem.W.findIn K (.ref C) "__init__" = some (some (.ref fI))
  tI : PySem.W.typeIn K (.ref fI) = some (.type "function")
  ok : FnOk P w K mg base CX0 1 fI fd ("self" :: ns) (spIni C ns)
  bd : Binds K fd ("self" :: ns) []
  mg : mg nm = some (.ref C)
  no : ∀ f ∈ ns, PySem.W.findIn K (.ref C) f = some none
section
variable {P : Program} {w : World} {K : PySem.W.Frag} {mg : Str → Option Value} {base : Heap} {C fI : Addr} {fd : FuncData}
abbrev sI2 : Stmt := inClass (topS 3) 0
theorem scI2 : FnScope ["self", "name"] ["self", "name"] (defScope sI2) := ⟨rfl, rfl, rfl, by decide +kernel, rfl, by decide +kernel, by decide +kernel⟩
theorem ok_I2 {k : Nat} (F : Fun K "__init__" "NoCell.__init__" sI2 fI fd) (T : ExK K C) (no0 : PySem.W.findIn K (.ref C) "name" = some none) : FnOk P w K mg base CX0 (k + 1) fI fd ["self", "name"] (spIni C ["name"]) := by
  refine F.ok scI2 (fun vs H Q E h => ?_) (fun cdv A outer s H vs Q E hr h => ?_)
  · obtain ⟨a, ws, rfl, hl, _⟩ := h
    simp only [List.length_cons, hl]
  obtain ⟨a, ws, rfl, hl, ha, q⟩ := h
  match ws, hl with
  | [v0], _ =>
    refine ⟨_, pss_one (ps_osK (pv 0) (pv 1)), ?_⟩
    refine ⟨_, rfl, _, rfl, a, C, rfl, T, no0, .inl ⟨ha, fun dx n1 n2 => q dx _ n1 n2 ⟨upd_same, by (rw [upd_ne n2]; exact upd_same)⟩ fun b o nb hb => ?_⟩⟩
    rw [upd_ne nb, upd_ne (ne_of_none hb n1)]
    exact hb
end
/-- the error class named nm stands at C, the rest of its order of classes is bm -/
structure EL (K : PySem.W.Frag) (C : Addr) (nm : Str) (bm : List Value) (newId : String) : Prop where
  ex : ∃ q N bs sn sub ab col dd k0 k1 k2 k3 k5, K.lookup C = some (excClassObj nm q C N bs bm true sn sub ab col dd k0 k1 k2 k3 k5 newId)
section
variable {K : PySem.W.Frag} {C C' : Addr} {nm nm' : Str} {bm bm' : List Value} {newId newId' : String}
theorem EL.cd (e : EL K C nm bm newId) : ∃ cd, PySem.W.clsIn K C = some cd ∧ cd.mro = .ref C :: bm ∧ cd.name = nm ∧ cd.hasDict = true := by
  obtain ⟨q, N, bs, sn, sub, ab, col, dd, k0, k1, k2, k3, k5, h⟩ := e.ex
  exact ⟨{ name := nm, bases := bs, mro := .ref C :: bm, ns := N, qualname := q, hasDict := true, slotNames := sn, subclasses := sub, abstract := ab, collection := col, hasDel := false }, by (unfold PySem.W.clsIn; rw [h] <;> rfl), rfl, rfl, rfl⟩
theorem EL.ne (e : EL K C nm bm newId) (e' : EL K C' nm' bm' newId') (h : nm ≠ nm') : C ≠ C' := fun z => by
  obtain ⟨cd, h1, _, h2, _⟩ := e.cd
  obtain ⟨cd', h1', _, h2', _⟩ := e'.cd
  rw [z, h1'] at h1
  have q := Option.some.inj h1
  subst q
  exact h (h2.symm.trans h2')
theorem EL.ty (e : EL K C nm bm newId) : PySem.W.typeIn K (.ref C) = some (.type "type") := by
  obtain ⟨q, N, bs, sn, sub, ab, col, dd, k0, k1, k2, k3, k5, h⟩ := e.ex
  show (K.lookup C).map (·.cls) = _
  rw [h]
  rfl
theorem EL.sub (e : EL K C nm bm newId) (c : Value) : PySem.W.subIn K (.ref C) c = some ((Value.ref C :: bm).contains c) := by
  obtain ⟨cd, h1, h2, _⟩ := e.cd
  show PySem.W.mroIn K C c = _
  unfold PySem.W.mroIn
  rw [h1, Option.bind_some, h2]
  rfl
theorem EL.hd (e : EL K C nm bm newId) : PySem.W.hasDictIn K C = true := by
  obtain ⟨cd, h1, _, _, h3⟩ := e.cd
  unfold PySem.W.hasDictIn
  rw [h1]
  exact h3
theorem EL.isK (e : EL K C nm bm newId) (e' : EL K C' nm' bm' newId') : PySem.W.kitOne K (.ref C) (.ref C') = some ((Value.ref C :: bm).contains (.ref C')) := by
  unfold PySem.W.kitOne PySem.W.kitCls
  by_cases h : (Value.ref C == Value.ref C') = true
  · rw [if_pos h]
    have q := beq_iff_eq.mp h
    rw [← q]
    simp
  · rw [if_neg h]
    obtain ⟨cd, h1, _⟩ := e'.cd
    show (if ((PySem.W.clsIn K C').isSome && PySem.W.typeIn K (.ref C') == some (.type "type")) = true then PySem.W.subIn K (.ref C) (.ref C') else none) = _
    rw [h1, e'.ty, e.sub]
    simp only [Option.isSome_some, beq_self_eq_true, Bool.and_self, if_true]
theorem EL.isT (e : EL K C nm bm newId) {T : String} (m : PySem.W.kitMeta T = true) : PySem.W.kitOne K (.ref C) (.type T) = some ((Value.ref C :: bm).contains (.type T)) := by
  unfold PySem.W.kitOne PySem.W.kitCls
  rw [if_neg (fun z => nomatch (beq_iff_eq.mp z : Value.ref C = Value.type T))]
  show (if PySem.W.kitMeta T = true then _ else _) = _
  rw [if_pos m]
  exact e.sub _
/-- what is asked of the class by its names -/
structure EF (K : PySem.W.Frag) (C : Addr) : Prop where
  ga : PySem.W.findIn K (.ref C) "__getattribute__" = some (some (.builtin "BaseException.__getattribute__"))
  gg : PySem.W.findIn K (.ref C) "__getattr__" = some none
  ha : PySem.W.findIn K (.ref C) "__class__" = some (some (.builtin "object.__class__"))
  sa : PySem.W.findIn K (.ref C) "__setattr__" = some (some (.builtin "object.__setattr__"))
  kC : PySem.W.keepIn K (.ref C) = true
structure Hn (K : PySem.W.Frag) : Prop where
  hn : PySem.W.specialIn K (.builtin "object.__class__") "__get__" = some (some (.builtin "getset_descriptor.__get__"))
  ht : PySem.W.takesIn K (.builtin "object.__class__") = some true
theorem EL.exk {B initId : String} {bmF T : List Value} (e : EL K C nm bm newId) (f : EF K C) (F : EBase B newId initId bmF T) (ht : tlB T bm = true) (hb : bm.contains (.type "BaseException") = true) : ExK K C := by
  obtain ⟨q, N, bs, sn, sub, ab, col, dd, k0, k1, k2, k3, k5, h⟩ := e.ex
  exact ⟨⟨B, newId, initId, bmF, T, nm, q, N, bs, bm, sn, sub, ab, col, dd, k0, k1, k2, k3, k5, F, h, ht⟩, f.sa, by (rw [e.sub, List.contains_cons, hb, Bool.or_true]), e.ty, f.kC⟩
theorem EL.xf (e : EL K C nm bm newId) (f : EF K C) (hb : bm.contains (.type "BaseException") = true) : XfC K C := ⟨f.ga, f.gg, by (rw [e.sub, List.contains_cons, hb, Bool.or_true]), e.hd⟩
theorem EL.exc (e : EL K C nm bm newId) (f : EF K C) (n : Hn K) (hb : bm.contains (.type "BaseException") = true) (ho : bm.contains (.type "object") = true) : ExcC K C :=
  ⟨f.ga, f.gg, by (rw [e.sub, List.contains_cons, hb, Bool.or_true]), e.hd, f.ha, n.hn, n.ht, by (have z := e.sub (.type "object"); rw [List.contains_cons, ho, Bool.or_true] at z; exact z)⟩
end
theorem lk1 {f : Str} {y : V} {r : List (Str × V)} : ((f, y) :: r).lookup f = some y := by rw [L2.lookup_put, if_pos rfl]
theorem EC.exm {P : Program} {w : World} {K : PySem.W.Frag} {mg : Str → Option Value} {base : Heap} {nm : Str} {ns ks : List Str} {C fI : Addr} {fd : FuncData} (c : EC P w K mg base nm ns ks C fI fd) {nm' : Str} {bm : List Value} {newId : String} (e : EL K C nm' bm newId) :
    PySem.W.exmOne K (.ref C) (.ref C) = some true :=
  PySem.W.exm_ref c.T.exC e.hd c.T.tyC (by rw [e.sub, List.contains_cons, beq_self_eq_true, Bool.true_or])
theorem few1 {n : Nat} (h : n ≤ 1000) : n < sizeLine := small1000 h
/-- behind the making of an error that is raised -/
theorem flown {H1 H' : Hp} {a d : Addr} {o u : HO} (ha : H1 a = none) (hd : H1 d = none) (k : ∀ b v, b ≠ a → upd H1 a o b = some v → H' b = some v) : Same H1 (upd (L2.del H' a) d u) := fun b v z => by
  have na := ne_of_none z ha
  rw [upd_ne (ne_of_none z hd), L2.del_ne na]
  exact k b v na (by (rw [upd_ne na]; exact z))
/-- isinstance(e, (A, B)) -/
def rIsXT (K : PySem.W.Frag) : List V → Hp → VK → Prop := fun xs H Q => ∃ (a D tp : Addr) (cs : List Addr) (b : Bool), xs = [.ref a, .ref tp] ∧ ExcC K D ∧ ErrAt H D a ∧ H tp = some (.tup (cs.map V.ref)) ∧ PySem.W.kitAny K (.ref D) (cs.map Value.ref) = some b ∧ Q (.bl b) H
theorem vals_refs : ∀ {cs : List Addr} {us : List Value}, Vals (cs.map V.ref) us → us = cs.map Value.ref
  | [], _, h => by cases h; rfl
  | c :: cs, _, h => by
    cases h with
    | cons h1 h2 =>
      cases h1
      rw [vals_refs h2]
      rfl
theorem call_isXT {X : Cx} : CallR X (.builtin "isinstance") (rIsXT X.K) := by
  intro pins s σ H xs us Q I r h
  obtain ⟨a, D, tp, cs, b, rfl, C, he, ht, e, q⟩ := h
  cases r with
  | cons rx rr =>
    cases rr with
    | cons rt rr =>
      cases rr
      cases rx
      cases rt
      obtain ⟨its, r2, ⟨o, ho, hc, n, hd⟩, hl2⟩ := I.tuple (.inl (.inl ht) : SqT X.K H tp (cs.map V.ref))
      have ei := vals_refs r2
      subst ei
      obtain ⟨oc, od0, oda, osl⟩ := o
      cases hc
      cases hd
      have fin : ∀ {ox : Obj} {od : Option Obj}, PySem.W.InstAt s.heap a ox D od → wpAny (model X.prog X.w) X.A (call (.builtin "isinstance") [.ref a, .ref tp]) (EP X pins σ Q) X.xe s := fun {ox od} J =>
        PySem.W.kia_tup (PySem.W.kitx_exc (hasD_cls C.hd) C.hg C.hk C.hs C.ha C.hn C.ht C.hm) I.kIn J ho e (fun z => nomatch z) fun tk => ⟨.bl b, H, I.kept (t' := tk) fun _ _ z => z, rfl, q⟩
      rcases he with ea | ⟨d, fs, ea, ed⟩
      · obtain ⟨t1, ha⟩ := exo_at I.hok ea
        exact fin (od := none) ⟨ha, rfl, rfl, trivial⟩
      · obtain ⟨t1, ha⟩ := exo_at I.hok ea
        obtain ⟨mA, ⟨o, es, ep, ho2, hr⟩, _⟩ := exd_at I.hok ed
        exact fin (od := some o) ⟨ha, rfl, rfl, ho2⟩
abbrev sName : Stmt := topS 5
abbrev sInteger : Stmt := topS 6
theorem scName : FnScope ["thing", "letter"] ["thing"] (defScope sName) := ⟨rfl, rfl, rfl, by decide +kernel, rfl, by decide +kernel, by decide +kernel⟩
theorem scInteger : FnScope ["thing"] ["thing"] (defScope sInteger) := ⟨rfl, rfl, rfl, by decide +kernel, rfl, by decide +kernel, by decide +kernel⟩
section
variable {P : Program} {w : World} {K : PySem.W.Frag} {mg : Str → Option Value} {base : Heap} {f : Addr} {fd : FuncData}
theorem ok_name {k : Nat} (F : Fun K "is_name" "is_name" sName f fd) (B : Bi mg) : FnOk P w K mg base CX0 (k + 1) f fd ["thing"] (spLook K (fun d => gd d = true) fun d => .bl (nmD d)) := by
  refine F.ok scName (fun vs H Q E h => ?_) (fun cdv A outer s H vs Q E hr h => ?_)
  · obtain ⟨v, d, rfl, _⟩ := h
    rfl
  obtain ⟨v, d, rfl, hd, hg, q⟩ := h
  have q : ∀ H', Same H H' → Q (.bl (nmD d)) H' := q
  refine ⟨_, pss_cons (ps_if (PW.pt (pw_or (pt_not (pt_val (pe_callB call_isD (by rfl) B.ii (by decide +kernel) (pa_cons (pv 0) (pa_cons (pe_bltn (by rfl) B.str (by decide +kernel) (v := .ty "str") rfl) pa_nil)))))
      (pw_or1 (pt_not (pt_chain op_le op_le pe_int (pe_callB call_len_str (by rfl) B.len PySem.boot_len (pa_cons (pv 0) pa_nil)) pe_int))))) (pss_one (ps_ret pe_bl)) pss_nil)
    (pss_one (ps_ret (pe_callB (cr_all rfl) (by rfl) B.all (by decide +kernel) (pa_cons (pe_lc (own := [("letter", 1)]) (g := gName 1) (by rfl) scName.nd (pi_str (pv 0))
      (blkOk_by (own := [("letter", 1)]) (N := ["thing", "letter"]) (sc := defScope sName) (by decide +kernel))
      (fun _ _ _ _ _ => pg_name (i := 1) scName.nd rfl (Or.inl rfl)) (fun _ _ _ _ _ => pts_nil) (fun _ _ _ _ _ => pe_chain op_le_str op_le_str pe_str (pv 1) pe_str)) pa_nil)))), ?_⟩
  refine ⟨_, rfl, v, d, "str", _, rfl, hd, kit_str d, _, rfl, ?_⟩
  have same0 : Same H H := Same.refl H
  cases hs : isStr d with
  | false =>
    refine iteT ?_
    refine iteT ?_
    have e : nmD d = false := by cases d <;> first | rfl | cases hs
    rw [e] at q
    exact q H same0
  | true =>
    obtain ⟨x, rfl⟩ : ∃ x, d = .str x := by cases d <;> first | exact ⟨_, rfl⟩ | cases hs
    cases hd
    have hx := gd_str hg
    have hx2 : x.length ≤ sizeLine := Nat.le_trans hx (by decide)
    refine iteF ?_
    refine ⟨_, rfl, x, rfl, hx2, _, _, rfl, rfl, _, rfl, ite2 (fun c1 => ?_) (fun c1 => ?_)⟩
    · have c1 : 1 ≤ (x.length : Int) := of_decide_eq_true c1
      refine ⟨_, _, rfl, rfl, _, rfl, ?_⟩
      by_cases c2 : (x.length : Int) ≤ 8
      · rw [decide_eq_true c2]
        refine iteF ?_
        refine ⟨_, rfl, x, rfl, fun D hD => ?_⟩
        refine lc_it walk_str (fun i H2 => H2 D = some (.lst ((x.cps.toList.take i).map fun c => V.bl (lowOk c))) ∧ Same H H2) ⟨upd_same, same_new hD _⟩ (fun _ _ _ _ => True.intro) ?_ ?_
        · rintro i y H2 H3 hi ⟨h1, h2⟩ ⟨rfl, c, hc, rfl⟩
          refine ⟨rfl, ?_⟩
          refine ⟨_, rfl, _, _, rfl, rfl, _, rfl, ?_⟩
          have key : lowOk c = ((!decide ((⟨#[c]⟩ : Str).cps.toList < ("a" : Str).cps.toList)) && (!decide (("z" : Str).cps.toList < (⟨#[c]⟩ : Str).cps.toList))) := by
            rw [ge_a, le_z]
            rfl
          have fin : ∀ b : Bool, b = lowOk c → ∃ acc, H3 D = some (.lst acc) ∧ acc.length < sizeLine ∧ (upd H3 D (.lst (acc ++ [V.bl b]))) D = some (.lst ((x.cps.toList.take (i + 1)).map fun c => V.bl (lowOk c))) ∧ Same H (upd H3 D (.lst (acc ++ [V.bl b]))) := by
            intro b hb
            refine ⟨_, h1, ?_, ?_, ?_⟩
            · rw [List.length_map, List.length_take]
              have : x.cps.toList.length = x.length := by simp [len_cps]
              exact Nat.lt_of_le_of_lt (Nat.le_trans (Nat.min_le_right _ _) (by omega)) (small1000 (n := 100) (by decide))
            · rw [upd_same, take_snoc _ (cps_at hc), hb]
            · intro b2 o e
              rw [upd_ne (ne_of_none e hD)]
              exact h2 b2 o e
          by_cases ca : (!decide ((⟨#[c]⟩ : Str).cps.toList < ("a" : Str).cps.toList)) = true
          · rw [ca] at key ⊢
            refine iteT ?_
            refine ⟨_, _, rfl, rfl, fin _ ?_⟩
            rw [key, Bool.true_and]
          · have ca := Bool.eq_false_iff.mpr ca
            rw [ca] at key ⊢
            refine iteF (fin _ ?_)
            rw [key, Bool.false_and]
        · rintro H2 ⟨h1, h2⟩
          refine ⟨D, x.cps.toList.map lowOk, rfl, SqL.of ?_, ?_⟩
          · rw [h1, List.map_map]
            have : x.cps.toList.take x.cps.size = x.cps.toList := List.take_of_length_le (by simp)
            rw [this]
            rfl
          · rw [all_map]
            have e : nmD (.str x) = x.cps.toList.all lowOk := by
              have a1 : 1 ≤ x.length := by omega
              have a2 : x.length ≤ 8 := by omega
              show (decide (1 ≤ x.length) && decide (x.length ≤ 8) && x.cps.toList.all lowOk) = _
              rw [decide_eq_true a1, decide_eq_true a2]
              rfl
            rw [e] at q
            exact q H2 h2
      · rw [decide_eq_false c2]
        refine iteT ?_
        have e : nmD (.str x) = false := by
          have a2 : ¬ x.length ≤ 8 := by omega
          show (decide (1 ≤ x.length) && decide (x.length ≤ 8) && x.cps.toList.all lowOk) = _
          rw [decide_eq_false a2, Bool.and_false, Bool.false_and]
        rw [e] at q
        exact q H same0
    · have c1 : ¬ 1 ≤ (x.length : Int) := of_decide_eq_false (Bool.eq_false_iff.mpr c1)
      refine ⟨_, rfl, ?_⟩
      refine iteT ?_
      have e : nmD (.str x) = false := by
        have a2 : ¬ 1 ≤ x.length := by omega
        show (decide (1 ≤ x.length) && decide (x.length ≤ 8) && x.cps.toList.all lowOk) = _
        rw [decide_eq_false a2, Bool.false_and, Bool.false_and]
      rw [e] at q
      exact q H same0
theorem ok_integer {k : Nat} (F : Fun K "is_integer" "is_integer" sInteger f fd) (B : Bi mg) : FnOk P w K mg base CX0 (k + 1) f fd ["thing"] (spLook K (fun _ => True) fun d => .bl (inD d)) := by
  refine F.ok scInteger (fun vs H Q E h => ?_) (fun cdv A outer s H vs Q E hr h => ?_)
  · obtain ⟨v, d, rfl, _⟩ := h
    rfl
  obtain ⟨v, d, rfl, hd, _, q⟩ := h
  refine ⟨_, pss_one (ps_ret (pe_and (pe_callB call_isD (by rfl) B.ii (by decide +kernel) (pa_cons (pv 0) (pa_cons (pe_bltn (by rfl) B.int (by decide +kernel) (v := .ty "int") rfl) pa_nil)))
    (pe_one (pe_not (pe_callB call_isD (by rfl) B.ii (by decide +kernel) (pa_cons (pv 0) (pa_cons (pe_bltn (by rfl) B.bool (by decide +kernel) (v := .ty "bool") rfl) pa_nil))))))), ?_⟩
  refine ⟨_, rfl, v, d, "int", _, rfl, hd, kit_int d, _, rfl, ?_⟩
  have q : Q (.bl (inD d)) H := q H (Same.refl H)
  cases hs : isIntB d with
  | false =>
    refine iteF ?_
    have e : inD d = false := by cases d <;> first | rfl | cases hs
    rw [e] at q
    exact q
  | true =>
    refine iteT ?_
    refine ⟨_, rfl, v, d, "bool", _, rfl, hd, kit_bool d, _, rfl, ?_⟩
    have e : inD d = !isBool d := by cases d <;> first | rfl | cases hs
    rw [e] at q
    exact q
end
abbrev sSorts : Stmt := topS 10
abbrev sItems : Stmt := topS 13
abbrev sInner : Stmt := topS 14
def isT (h : Str) : Bool := teL.any fun p => decide (p.1 = h)
def sortS (c : Nat) : Str := if c = 101 then "expression" else if c = 116 then "test" else if c = 115 then "expressions" else if c = 107 then "integer" else if c = 110 then "name" else if c = 105 then "index" else "kind"
def sortsV (sl : Str) : List V := sl.cps.toList.map fun c => V.str (sortS c)
def wantS (h : Str) : Str := if isT h = true then "test" else "expression"
theorem isT_e : ∀ p ∈ exL, isT p.1 = false := by decide +kernel
theorem isT_t : ∀ p ∈ teL, isT p.1 = true := by decide +kernel
/-- the two tables of the program's top -/
structure Tab (K : PySem.W.Frag) (w : World) (mg : Str → Option Value) (aE : Addr) (esE : Array DictEntry) (nE : Nat) (aT : Addr) (esT : Array DictEntry) (nT : Nat) : Prop where
  mE : mg "EXPRESSIONS" = some (.ref aE)
  mT : mg "TESTS" = some (.ref aT)
  dE : KDict K w aE esE nE
  dT : KDict K w aT esT nT
  e1 : ∀ p ∈ exL, ∃ a, PySem.W.nsIn K aE p.1 = some (some (.ref a)) ∧ ∀ H, SqT K H a (sortsV p.2)
  t1 : ∀ p ∈ teL, ∃ a, PySem.W.nsIn K aT p.1 = some (some (.ref a)) ∧ ∀ H, SqT K H a (sortsV p.2)
  e0 : ∀ p ∈ exL, PySem.W.nsIn K aT p.1 = some none
theorem scSorts : FnScope ["word", "wanted"] ["word", "wanted"] (defScope sSorts) := ⟨rfl, rfl, rfl, by decide +kernel, rfl, by decide +kernel, by decide +kernel⟩
theorem scItems : FnScope ["tree", "wanted"] ["tree"] (defScope sItems) := ⟨rfl, rfl, rfl, by decide +kernel, rfl, by decide +kernel, by decide +kernel⟩
def spSorts (K : PySem.W.Frag) : Sp := fun vs H Q _ => ∃ h sl, vs = [.str h, .str (wantS h)] ∧ (h, sl) ∈ allL ∧ ∀ a, (∀ H', SqT K H' a (sortsV sl)) → Q (.ref a) H
/-- pairs of an item and its sort -/
def spItems (K : PySem.W.Frag) : Sp := fun vs H Q _ => ∃ a h sl xs, vs = [.ref a] ∧ SqT K H a (.str h :: xs) ∧ xs.length ≤ 1000 ∧ (h, sl) ∈ allL ∧ xs.length = sl.cps.toList.length ∧
  ∀ (p : Addr) (ts : List Addr) (H' : Hp), Same H H' → H p = none → H' p = some (.lst (ts.map V.ref)) → ts.length = xs.length → (∀ (j : Nat) (t : Addr), ts[j]? = some t → ∃ x c, xs[j]? = some x ∧ sl.cps.toList[j]? = some c ∧ H' t = some (.tup [x, .str (sortS c)])) → Q (.ref p) H'
section
variable {P : Program} {w : World} {K : PySem.W.Frag} {mg : Str → Option Value} {base : Heap} {f fS : Addr} {fd dS : FuncData} {aE aT : Addr} {esE esT : Array DictEntry} {nE nT : Nat}
theorem ok_sorts {k : Nat} (F : Fun K "sorts_behind" "sorts_behind" sSorts f fd) (TB : Tab K w mg aE esE nE aT esT nT) : FnOk P w K mg base CX0 (k + 1) f fd ["word", "wanted"] (spSorts K) := by
  refine F.ok scSorts (fun vs H Q E h => ?_) (fun cdv A outer s H vs Q E hr h => ?_)
  · obtain ⟨h, sl, rfl, _⟩ := h
    rfl
  obtain ⟨h, sl, rfl, m, q⟩ := h
  refine ⟨_, pss_one (ps_ret (pe_ifExp (pt_cmpR op_eq (pv 1) pe_str (nomark _)) (pe_kget TB.dT (pe_glob (by rfl) TB.mT (v := .ref aT) rfl) (pv 0) ⟨rfl, rfl, rfl, rfl⟩) (pe_kget TB.dE (pe_glob (by rfl) TB.mE (v := .ref aE) rfl) (pv 0) ⟨rfl, rfl, rfl, rfl⟩))), ?_⟩
  refine ⟨_, rfl, rfl, _, rfl, ?_⟩
  rcases List.mem_append.mp m with m | m
  · have e := isT_e _ m
    obtain ⟨a, n1, sq⟩ := TB.e1 _ m
    have e2 : wantS h = "expression" := by unfold wantS; rw [e]; rfl
    rw [e2]
    exact iteF ⟨rfl, _, rfl, h, _, _, rfl, n1, (show RelV (V.ref a) (Value.ref a) from rfl), q a sq⟩
  · have e := isT_t _ m
    obtain ⟨a, n1, sq⟩ := TB.t1 _ m
    have e2 : wantS h = "test" := by unfold wantS; rw [e]; rfl
    rw [e2]
    exact iteT ⟨rfl, _, rfl, h, _, _, rfl, n1, (show RelV (V.ref a) (Value.ref a) from rfl), q a sq⟩
theorem ok_items {k : Nat} (F : Fun K "sorted_items" "sorted_items" sItems f fd) (TB : Tab K w mg aE esE nE aT esT nT) (ml : mg "list" = none) (mz : mg "zip" = none) (GS : Dn P w K mg base 1 "sorts_behind" ["word", "wanted"] (spSorts K) fS dS) :
    FnOk P w K mg base CX0 (k + 2) f fd ["tree"] (spItems K) := by
  refine F.ok scItems (fun vs H Q E h => ?_) (fun cdv A outer s H vs Q E hr h => ?_)
  · obtain ⟨a, h, sl, xs, rfl, _⟩ := h
    rfl
  obtain ⟨a, h, sl, xs, rfl, hx, lx, m, le, q⟩ := h
  have hr1 : Room 1 _ := hr.mono (by omega)
  refine ⟨_, pss_cons (ps_set (i := 1) scItems.nd rfl (.inl rfl) (pe_ifExp (pt_cmpR (op_in_kd TB.dT) (pe_ix ix_tup (pv 0) pe_int (fun _ _ => rfl)) (pe_glob (by rfl) TB.mT (v := .ref aT) rfl) rfl) pe_str pe_str))
    (pss_one (ps_ret (pe_listZip (by rfl) (pa_cons (pe_slice sl_tupA (pv 0) (po_some pe_int) po_none) (pa_cons (pe_call GS.ok hr1 (by rfl) GS.mg GS.kp GS.bd .nil pass0 (pa_cons (pe_ix ix_tup (pv 0) pe_int (fun _ _ => rfl)) (pa_cons (pv 1) pa_nil))) pa_nil)) (by rfl) ml (by rfl) mz))), ?_⟩
  have a0 : atI (V.str h :: xs) 0 = some (.str h) := atI_nat (j := 0) rfl
  have nr : ∃ r, PySem.W.nsIn K aT h = some r ∧ r.isSome = isT h := by
    rcases List.mem_append.mp m with m | m
    · exact ⟨_, TB.e0 _ m, (isT_e _ m).symm⟩
    · obtain ⟨a, n1, sq⟩ := TB.t1 _ m
      exact ⟨_, n1, (isT_t _ m).symm⟩
  obtain ⟨r, n1, er⟩ := nr
  have e3 : ∀ b : Bool, b = isT h → (if b = true then ("test" : Str) else "expression") = wantS h := fun b e => by
    unfold wantS
    rw [e]
  have fin : ∀ (cc : Addr) (H1 : Hp), Same H H1 → SqT K H1 cc xs → ∀ bb, (∀ H', SqT K H' bb (sortsV sl)) → ∀ (p : Addr) (ts : List Addr) (H' : Hp), Same H1 H' → H1 p = none → (∀ t ∈ ts, H1 t = none) → p ∉ ts → H' p = some (.lst (ts.map V.ref)) → ts.length = min xs.length (sortsV sl).length → (∀ (j : Nat) (t : Addr), ts[j]? = some t → ∃ x y, xs[j]? = some x ∧ (sortsV sl)[j]? = some y ∧ H' t = some (.tup [x, y])) → Q (.ref p) H' := by
    intro cc H1 s1 hc bb hb p ts H' s2 hp _ _ hl lt at'
    have ls : (sortsV sl).length = xs.length := by
      unfold sortsV
      rw [List.length_map, le]
    refine q p ts H' (s1.trans s2) (s1.free hp) hl (by omega) fun j t ht => ?_
    obtain ⟨x, y, e1, e2, e4⟩ := at' j t ht
    unfold sortsV at e2
    rw [List.getElem?_map] at e2
    obtain ⟨c, ec, rfl⟩ := Option.map_eq_some_iff.mp e2
    exact ⟨x, c, e1, ec, e4⟩
  refine ⟨_, rfl, a, _, 0, _, rfl, rfl, hx, a0, h, r, rfl, rfl, n1, ?_⟩
  rw [er]
  refine ⟨_, rfl, ite2 (fun c => ?_) (fun c => ?_)⟩
  all_goals
    refine ⟨_, rfl, 1, rfl, a, _, rfl, hx, (fun e => ?_), fun _ cc hcc => ?_⟩
    · have e := e.1
      rw [show (1 : Int) = ((1 : Nat) : Int) from rfl, HT.sIx_nat, List.length_cons] at e
      omega
    rw [cutV_drop _ (by decide) (by simp only [List.length_cons]; omega)]
    have s1 : Same H (upd H cc (.tup xs)) := same_new hcc _
    refine ⟨_, rfl, a, _, 0, _, rfl, rfl, seqT_up s1 hx, a0, _, rfl, h, sl, ?_, m, fun bb hb => ⟨cc, bb, xs, sortsV sl, rfl, .inl (.inl upd_same), hb _, fin cc _ s1 (.inl (.inl upd_same)) bb hb⟩⟩
    unfold wantS
    first
      | exact congrArg (fun z => [V.str h, V.str z]) (if_pos c).symm
      | exact congrArg (fun z => [V.str h, V.str z]) (if_neg c).symm
end
theorem scInner : FnScope ["tree", "found", "index", "item", "sort", "at", "inner"] ["tree"] (defScope sInner) := ⟨rfl, rfl, rfl, by decide +kernel, rfl, by decide +kernel, by decide +kernel⟩
/-- tuples of a path, a tree and a sort -/
def in3Slot (k c : Nat) (d : PyData) : List (List Int × PyData × Nat) := (inSlot k c d).map fun p => (p.1, p.2, if c = 116 then 116 else 101)
def in3 : Nat → List Nat → List PyData → List (List Int × PyData × Nat)
  | k, c :: cs, d :: ds => in3Slot k c d ++ in3 (k + 1) cs ds
  | _, [], _ => []
  | _, _ :: _, [] => []
theorem in3_in : ∀ (k : Nat) (cs : List Nat) (ds : List PyData), (in3 k cs ds).map (fun p => (p.1, p.2.1)) = inArgs k cs ds
  | k, c :: cs, d :: ds => by
    simp only [in3, inArgs, List.map_append, in3_in (k + 1) cs ds, in3Slot, List.map_map]
    congr 1
    exact (List.map_congr_left fun p _ => rfl).trans (List.map_id _)
  | _, [], _ => by simp [in3, inArgs]
  | _, _ :: _, [] => by simp [in3, inArgs]
theorem in3_len (k : Nat) (cs : List Nat) (ds : List PyData) : (in3 k cs ds).length = (inArgs k cs ds).length := by rw [← in3_in, List.length_map]
theorem in3_app : ∀ (k : Nat) (cs cs2 : List Nat) (ds ds2 : List PyData), cs.length = ds.length → in3 k (cs ++ cs2) (ds ++ ds2) = in3 k cs ds ++ in3 (k + cs.length) cs2 ds2
  | k, [], cs2, [], ds2, _ => by simp [in3]
  | k, c :: cs, cs2, d :: ds, ds2, h => by
    have h2 : cs.length = ds.length := by simpa using h
    show in3Slot k c d ++ in3 (k + 1) (cs ++ cs2) (ds ++ ds2) = (in3Slot k c d ++ in3 (k + 1) cs ds) ++ _
    rw [in3_app (k + 1) cs cs2 ds ds2 h2, List.append_assoc, List.length_cons, show k + 1 + cs.length = k + (cs.length + 1) by omega]
  | k, [], cs2, _ :: _, ds2, h => by cases h
  | k, _ :: _, cs2, [], ds2, h => by cases h
theorem in3_take {k i : Nat} {cs : List Nat} {ds : List PyData} {c : Nat} {d : PyData} (h : cs.length = ds.length) (hc : cs[i]? = some c) (hd : ds[i]? = some d) :
    in3 k (cs.take (i + 1)) (ds.take (i + 1)) = in3 k (cs.take i) (ds.take i) ++ in3Slot (k + i) c d := by
  have hi := (List.getElem?_eq_some_iff.mp hc).1
  rw [get_take hc, get_take hd, in3_app k _ _ _ _ (by rw [List.length_take, List.length_take, h])]
  have e : (cs.take i).length = i := by rw [List.length_take]; omega
  rw [e]
  simp [in3]
def Inn (K : PySem.W.Frag) (H : Hp) (ts : List Addr) (ks : List (List Int × PyData × Nat)) : Prop :=
  ts.length = ks.length ∧ ∀ (j : Nat) (t : Addr), ts[j]? = some t → ∃ p q x, ks[j]? = some p ∧ H t = some (.tup [.ref q, x, .str (sortS p.2.2)]) ∧ H q = some (.tup (p.1.map V.int)) ∧ Dp K H x p.2.1
theorem Inn.nil {K : PySem.W.Frag} {H : Hp} : Inn K H [] [] := ⟨rfl, fun j t e => by simp at e⟩
theorem Inn.up {K : PySem.W.Frag} {H H' : Hp} {ts : List Addr} {ks : List (List Int × PyData × Nat)} (h : Inn K H ts ks) (s : Same H H') : Inn K H' ts ks :=
  ⟨h.1, fun j t e => by
    obtain ⟨p, q, x, e1, e2, e3, e4⟩ := h.2 j t e
    exact ⟨p, q, x, e1, s _ _ e2, s _ _ e3, Dp.up s _ _ e4⟩⟩
theorem Inn.app {K : PySem.W.Frag} {H : Hp} {ts ts2 : List Addr} {ks ks2 : List (List Int × PyData × Nat)} (h : Inn K H ts ks) (g : Inn K H ts2 ks2) : Inn K H (ts ++ ts2) (ks ++ ks2) := by
  refine ⟨by rw [List.length_append, List.length_append, h.1, g.1], fun j t e => ?_⟩
  by_cases hj : j < ts.length
  · rw [List.getElem?_append_left hj] at e
    rw [List.getElem?_append_left (by rw [← h.1]; exact hj)]
    exact h.2 j t e
  · rw [List.getElem?_append_right (by omega)] at e
    rw [List.getElem?_append_right (by rw [← h.1]; omega), ← h.1]
    exact g.2 _ t e
theorem Inn.one {K : PySem.W.Frag} {H : Hp} {t q : Addr} {p : List Int × PyData × Nat} {x : V} {s : Str} (es : sortS p.2.2 = s) (e2 : H t = some (.tup [.ref q, x, .str s])) (e3 : H q = some (.tup (p.1.map V.int))) (e4 : Dp K H x p.2.1) : Inn K H [t] [p] := by
  refine ⟨rfl, fun j t' e => ?_⟩
  cases j with
  | zero =>
    cases e
    subst es
    exact ⟨p, q, x, rfl, e2, e3, e4⟩
  | succ j => simp at e
theorem Inn.ref {ts : List Addr} {j : Nat} {y : V} (h : (ts.map V.ref)[j]? = some y) : ∃ t, ts[j]? = some t ∧ y = .ref t := by
  rw [List.getElem?_map] at h
  obtain ⟨t, e, rfl⟩ := Option.map_eq_some_iff.mp h
  exact ⟨t, e, rfl⟩
theorem inSlot_len (k c : Nat) (d : PyData) : (inSlot k c d).length ≤ nod d := by
  have := nod_pos d
  unfold inSlot
  split
  · cases d with
    | tuple es =>
      have := nods_len es
      simp only [List.length_map, List.length_zipIdx, nod]
      omega
    | _ => simp
  · split
    · simpa using this
    · simp
theorem inArgs_len : ∀ (k : Nat) (cs : List Nat) (ds : List PyData), (inArgs k cs ds).length ≤ nods ds
  | k, c :: cs, d :: ds => by
    have h1 := inSlot_len k c d
    have h2 := inArgs_len (k + 1) cs ds
    simp only [inArgs, List.length_append, nods]
    omega
  | _, [], _ => by simp [inArgs]
  | _, _ :: _, [] => by simp [inArgs]
theorem inArgs_part (k : Nat) (cs : List Nat) (ds : List PyData) (i : Nat) : (inArgs k (cs.take i) (ds.take i)).length ≤ nods ds := Nat.le_trans (inArgs_len _ _ _) (nods_take _ _)
theorem pg_tupK {X : Cx} {K : PySem.W.Frag} {pos : Pos} {es : List Expr} {k : Nat} {t : TGs} {n : Nat} (h0 : X.K = K) (hc : X.calm = true) (h : PGs X es t)
    (hn : (assignEach es X.env).length = n := by rfl) (hst : (assignEach es X.env).findIdx? (·.1) = none := by rfl) : PG X (.Tuple es k pos) (gTup K n t) := by
  subst h0
  exact pg_tup hc h hn hst
def spInner (K : PySem.W.Frag) : Sp := fun vs H Q _ => ∃ a h sl xs args, vs = [.ref a] ∧ SqT K H a (.str h :: xs) ∧ DpAll K H xs args ∧ nods args ≤ 900 ∧ (h, sl) ∈ allL ∧ ShA sl.cps.toList args ∧
  ∀ (L : Addr) (ts : List Addr) (H' : Hp), Same H H' → H L = none → H' L = some (.lst (ts.map V.ref)) → Inn K H' ts (in3 1 sl.cps.toList args) → Q (.ref L) H'
theorem sortS_s : ∀ c : Nat, (sortS c = "expressions") = (c = 115) := by
  intro c
  unfold sortS
  refine propext ⟨fun h => ?_, fun h => by subst h; rfl⟩
  revert h
  repeat' split
  all_goals first
    | exact fun _ => by assumption
    | exact fun h => absurd h (by decide +kernel)
theorem sortS_et : ∀ c : Nat, (sortS c = "expression" ∨ sortS c = "test") = (c = 101 ∨ c = 116) := by
  intro c
  unfold sortS
  refine propext ⟨fun h => ?_, fun h => ?_⟩
  · revert h
    repeat' split
    all_goals first
      | exact fun _ => .inl (by assumption)
      | exact fun _ => .inr (by assumption)
      | exact fun h => absurd h (by decide +kernel)
  · rcases h with h | h
    · subst h
      exact .inl rfl
    · subst h
      exact .inr rfl
theorem inV2 (s : Str) : inV (.str s) [.str "expression", .str "test"] = true ↔ s = "expression" ∨ s = "test" := by
  simp only [inV, List.any_cons, List.any_nil, eqV, Bool.or_false, Bool.or_eq_true, beq_iff_eq]
  exact ⟨fun h => h.imp Eq.symm Eq.symm, fun h => h.imp Eq.symm Eq.symm⟩
section
variable {P : Program} {w : World} {K : PySem.W.Frag} {mg : Str → Option Value} {base : Heap} {f fI : Addr} {fd dI : FuncData}
theorem ok_inner {k : Nat} (F : Fun K "inner_trees" "inner_trees" sInner f fd) (me : mg "enumerate" = none) (GI : Dn P w K mg base 2 "sorted_items" ["tree"] (spItems K) fI dI) :
    FnOk P w K mg base CX0 (k + 3) f fd ["tree"] (spInner K) := by
  refine F.ok scInner (fun vs H Q E h => ?_) (fun cdv A outer s H vs Q E hr h => ?_)
  · obtain ⟨a, h, sl, xs, args, rfl, _⟩ := h
    rfl
  obtain ⟨a, h, sl, xs, args, rfl, hx, dx, na, m, sh, q⟩ := h
  have hr2 : Room 2 _ := hr.mono (by omega)
  refine ⟨_, pss_cons (ps_set (i := 1) scInner.nd rfl (.inl rfl) (pe_lst pa_nil))
    (pss_cons (ps_for PassesOwn.never rfl (pi_enumK (by rfl) me (pa_cons (pe_call GI.ok hr2 (by rfl) GI.mg GI.kp GI.bd .nil pass0 (pa_cons (pv 0) pa_nil)) (pa_cons pe_int pa_nil)))
      (pg_tup (by rfl) (pgs_cons (pg_name (i := 2) scInner.nd rfl (.inr rfl)) (pgs_cons (pg_tup (by rfl) (pgs_cons (pg_name (i := 3) scInner.nd rfl (.inl rfl)) (pgs_cons (pg_name (i := 4) scInner.nd rfl (.inl rfl)) pgs_nil))) pgs_nil)))
      (pss_one (ps_if (pt_cmpR op_eq (pv 4) pe_str (nomark _))
        (pss_one (ps_expr (pe_bm PySem.F.plainAttrs_list PySem.F.slot_list_extend PySem.F.type_list_extend mt_extend (pv 1) (pa_cons
          (pe_lc (own := [("at", 5), ("inner", 6)]) (g := gTup K 2 (gCons (gName 5) (gCons (gName 6) gNil))) (by rfl) scInner.nd (pi_enumA (by rfl) me (pa_cons (pv 3) pa_nil))
            (blkOk_by (own := [("at", 5), ("inner", 6)]) (N := ["tree", "found", "index", "item", "sort", "at", "inner"]) (sc := defScope sInner) (by decide +kernel))
            (fun _ _ _ _ _ => pg_tupK rfl (by rfl) (pgs_cons (pg_name (i := 5) scInner.nd rfl (Or.inl rfl)) (pgs_cons (pg_name (i := 6) scInner.nd rfl (Or.inl rfl)) pgs_nil))) (fun _ _ _ _ _ => pts_nil)
            (fun _ _ _ _ _ => pe_tup (pa_cons (pe_tup (pa_cons (pv 2) (pa_cons (pv 5) pa_nil))) (pa_cons (pv 6) (pa_cons pe_str pa_nil))))) pa_nil))))
        (pss_one (ps_if (pt_cmpR op_in_seq (pv 4) (pe_tup (pa_cons pe_str (pa_cons pe_str pa_nil))) rfl)
          (pss_one (ps_expr (pe_bm PySem.F.plainAttrs_list PySem.F.slot_list_append PySem.F.type_list_append mt_append (pv 1) (pa_cons (pe_tup (pa_cons (pe_tup (pa_cons (pv 2) pa_nil)) (pa_cons (pv 3) (pa_cons (pv 4) pa_nil)))) pa_nil)))) pss_nil)))))
    (pss_one (ps_ret (pv 1)))), ?_⟩
  refine ⟨by decide, fun L hL => ?_⟩
  have s1 : Same H (upd H L (.lst [])) := same_new hL _
  have lx := DpAll.len dx
  have la := sh.len
  have ln := nods_len args
  refine ⟨_, rfl, a, h, sl, xs, rfl, seqT_up s1 hx, by omega, m, by omega, fun p ts H3 s3 hp hl3 lt at3 => ⟨p, _, 1, rfl, SqL.of hl3, by decide, by decide, ?_⟩⟩
  have hL3 : H3 L = some (.lst []) := s3 _ _ upd_same
  have s03 : Same H (cut [L] H3) := fun b u z => by
    rw [cut_out (by simp only [List.mem_singleton]; exact ne_of_none z hL)]
    exact s3 _ _ (s1 _ _ z)
  have npL : p ≠ L := fun z => by
    rw [z, upd_same] at hp
    cases hp
  have ntL : ∀ (j : Nat) (t : Addr), ts[j]? = some t → t ≠ L := fun j t e z => by
    obtain ⟨x, c, _, _, h3⟩ := at3 j t e
    rw [z, hL3] at h3
    cases h3
  refine for_it (walk_C (Its := fun H ys => SqL K H p ys) (xs := ts.map V.ref) (k0 := 1)) (fun i σ H2 => ∃ o2 o3 o4 us, σ = [some (.ref a), some (.ref L), o2, o3, o4, none, none] ∧ H2 L = some (.lst (us.map V.ref)) ∧ Inn K (cut [L] H2) us (in3 1 (sl.cps.toList.take i) (args.take i)) ∧ Off [L] H3 H2)
    ⟨none, none, none, [], rfl, hL3, Inn.nil, Off.refl _ _⟩ ?_ ?_ ?_
  · rintro i σ H2 hi ⟨o2, o3, o4, us, rfl, h1, h2, h3⟩
    exact SqL.of (h3.get hl3 (by simpa using npL))
  · rintro i y σ H2 H2' hi ⟨o2, o3, o4, us, rfl, h1, h2, h3⟩ ⟨T, z, rfl, hT, rfl, hz⟩
    obtain ⟨t, ht, rfl⟩ := Inn.ref hz
    obtain ⟨x, c, ex, ec, h3t⟩ := at3 i t ht
    obtain ⟨d, ed, dxd⟩ := DpAll.get dx ex
    have s4 : Same H2 (upd H2 T (.tup [.int (1 + (i : Nat)), .ref t])) := same_new hT _
    have h2t := h3.get h3t (by simpa using ntL i t ht)
    have nTL : T ≠ L := fun e => by
      rw [e, h1] at hT
      cases hT
    have h4L : (upd H2 T (.tup [.int (1 + (i : Nat)), .ref t])) L = some (.lst (us.map V.ref)) := s4 _ _ h1
    have c4 : Same (cut [L] H2) (cut [L] (upd H2 T (.tup [.int (1 + (i : Nat)), .ref t]))) := Off.of s4
    have dxc : Dp K (cut [L] H2) x d := Dp.up (s03.trans h3) _ _ dxd
    have tk := in3_take (k := 1) la ec ed
    have lu : us.length ≤ 900 := by
      have := inArgs_part 1 sl.cps.toList args i
      rw [h2.1, in3_len]
      omega
    have nd1 : nod d ≤ 900 := Nat.le_trans (nods_mem (List.mem_of_getElem? ed)) na
    refine ⟨T, [.int (1 + (i : Nat)), .ref t], rfl, .inl (.inl upd_same), rfl, _, _, rfl, _, _, rfl, t, [x, .str (sortS c)], rfl, .inl (.inl (s4 _ _ h2t)), rfl, _, _, rfl, _, _, rfl, rfl, rfl, ?_⟩
    refine ⟨_, rfl, rfl, _, rfl, ite2 (fun cc => ?_) (fun cc => ?_)⟩
    · have c115 : c = 115 := by
        have z : sortS c = "expressions" := V.str.inj (of_decide_eq_true cc)
        rw [sortS_s] at z
        exact z
      obtain ⟨es, rfl⟩ := sh.at ec ed c115
      subst c115
      have dx4 : Dp K (cut [L] (upd H2 T (.tup [.int (1 + (i : Nat)), .ref t]))) x (.tuple es) := Dp.up c4 _ _ dxc
      obtain ⟨b, ys, es2, rfl, e2, hb, dys⟩ := tup_of dx4 rfl
      cases e2
      have ly := DpAll.len dys
      have le2 : es.length ≤ 900 := by
        have := nods_len es
        simp only [nod] at nd1
        omega
      generalize hH4 : upd H2 T (.tup [.int (1 + (i : Nat)), .ref t]) = H4 at *
      refine ⟨_, rfl, .inl ⟨rfl, _, SqL.of h4L⟩, _, rfl, .inl ⟨b, ys, rfl, seqT_cut hb, fun D hD => ?_⟩⟩
      refine lc_it (walk_C (Its := fun H zs => SqT K H b zs) (xs := ys) (k0 := 0)) (fun j H5 => ∃ vs, H5 D = some (.lst (vs.map V.ref)) ∧ Inn K (cut [D, L] H5) vs ((es.zipIdx.take j).map fun p => ([((1 + i : Nat) : Int), (p.2 : Int)], p.1, 101)) ∧ Same H4 (cut [D] H5) ∧ Off [L] H4 H5 ∧ Same (cut [L] H4) (cut [D, L] H5))
        ⟨[], upd_same, Inn.nil, ?_, Off.of (same_new hD _), ?_⟩ ?_ ?_ ?_
      · intro b2 u z
        rw [cut_out (by simp only [List.mem_singleton]; exact ne_of_none z hD), upd_ne (ne_of_none z hD)]
        exact z
      · intro b2 u z
        obtain ⟨z1, z2⟩ := cut_some z
        rw [cut_out (by simp only [List.mem_cons, List.not_mem_nil, or_false, not_or] at z1 ⊢; exact ⟨ne_of_none z2 hD, z1⟩), upd_ne (ne_of_none z2 hD)]
        exact z2
      · rintro j H5 hj ⟨vs, g1, g2, g3, g4, g5⟩
        exact seqT_up (g3.trans (cut_same _ _)) (seqT_cut hb)
      · rintro j y H5 H5' hj ⟨vs, g1, g2, g3, g4, g5⟩ ⟨T5, z, rfl, hT5, rfl, hz⟩
        obtain ⟨e, he, de⟩ := DpAll.get dys hz
        have q5 : Same H5 (upd H5 T5 (.tup [.int (0 + (j : Nat)), z])) := same_new hT5 _
        refine ⟨T5, [.int (0 + (j : Nat)), z], rfl, .inl (.inl upd_same), rfl, _, _, rfl, _, _, rfl, rfl, rfl, ?_⟩
        refine ⟨_, rfl, _, rfl, few (by simp), fun T6 hT6 => ⟨_, rfl, few (by simp), fun T7 hT7 => ?_⟩⟩
        have q6 := q5.trans (same_new (o := .tup [.int (1 + (i : Nat)), .int (0 + (j : Nat))]) hT6)
        have q7 := q6.trans (same_new (o := .tup [.ref T6, z, .str "expression"]) hT7)
        have g1' := q7 _ _ g1
        generalize hH6 : upd (upd H5 T5 (.tup [.int (0 + (j : Nat)), z])) T6 (.tup [.int (1 + (i : Nat)), .int (0 + (j : Nat))]) = H6 at *
        have h66 : H6 T6 = some (.tup [.int (1 + (i : Nat)), .int (0 + (j : Nat))]) := by rw [← hH6]; exact upd_same
        have g16 : H6 D = some (.lst (vs.map V.ref)) := q6 _ _ g1
        have nD7 : T7 ≠ D := fun y => by
          rw [y, g16] at hT7
          cases hT7
        have nD6 : T6 ≠ D := fun y => by
          rw [y, g16] at h66
          cases h66
        have gL : H5 L = some (.lst (us.map V.ref)) := cut_same _ _ _ _ (g3 _ _ h4L)
        have nL7 : T7 ≠ L := fun y => by
          rw [y, q6 _ _ gL] at hT7
          cases hT7
        have nL6 : T6 ≠ L := fun y => by
          rw [y, q6 _ _ gL] at h66
          cases h66
        have n67 : T6 ≠ T7 := ne_of_none h66 hT7
        have tk2 : (es.zipIdx.take (j + 1)) = es.zipIdx.take j ++ [(e, j)] := get_take (by rw [List.getElem?_zipIdx, he]; simp)
        have c8 : Off [D] H5 (upd (upd H6 T7 (.tup [.ref T6, z, .str "expression"])) D (.lst (vs.map V.ref ++ [.ref T7]))) := (Off.of q7).trans (Off.put (by simp))
        have c9 : Off [D, L] H5 (upd (upd H6 T7 (.tup [.ref T6, z, .str "expression"])) D (.lst (vs.map V.ref ++ [.ref T7]))) := c8.mono fun b hb => List.mem_cons.mpr (.inl (List.mem_singleton.mp hb))
        have lv : vs.length ≤ 900 := by
          rw [g2.1, List.length_map, List.length_take]
          simp only [List.length_zipIdx]
          omega
        refine ⟨_, g1', ?_, vs ++ [T7], ?_, ?_, g3.trans c8, ?_, g5.trans c9⟩
        · rw [List.length_map]
          exact small1000 (by omega)
        · rw [upd_same, List.map_append]
          rfl
        · rw [tk2, List.map_append]
          refine (g2.up c9).app (Inn.one (q := T6) (x := z) (s := "expression") rfl ?_ ?_ ?_)
          · rw [cut_out (by simp [nD7, nL7]), upd_ne nD7]
            exact upd_same
          · rw [cut_out (by simp [nD6, nL6]), upd_ne nD6, upd_ne n67, h66]
            have a1 : (((1 + i : Nat)) : Int) = 1 + (i : Nat) := by omega
            have a2 : ((j : Nat) : Int) = 0 + (j : Nat) := by omega
            show some (HO.tup [V.int (1 + (i : Nat)), V.int (0 + (j : Nat))]) = some (HO.tup [V.int (((1 + i : Nat)) : Int), V.int ((j : Nat) : Int)])
            rw [a1, ← a2]
          · exact Dp.up (g5.trans c9) _ _ de
        · intro b2 u z2
          obtain ⟨y1, y2⟩ := cut_some z2
          rw [cut_out y1]
          exact c8.get (g4.get y2 y1) (by simpa using ne_of_none y2 hD)
      · rintro H5 ⟨vs, g1, g2, g3, g4, g5⟩
        rw [List.take_of_length_le (by rw [List.length_zipIdx]; omega)] at g2
        have g3' := g3.trans (cut_same _ _)
        have nDL : D ≠ L := fun y => by
          rw [y, h4L] at hD
          cases hD
        have lv : vs.length ≤ 900 := by
          rw [g2.1, List.length_map, List.length_zipIdx]
          omega
        refine ⟨L, D, _, _, rfl, rfl, g3' _ _ h4L, g1, ?_, ?_⟩
        · rw [List.length_map, List.length_map]
          exact few2 (by omega)
        have oD : Off [L] H4 (upd H5 L (.lst (us.map V.ref ++ vs.map V.ref))) := (Off.of g3').trans (Off.put (by simp))
        refine ⟨_, _, _, us ++ vs, rfl, ?_, ?_, ?_⟩
        · rw [upd_same, List.map_append]
        · rw [tk]
          have ei : in3Slot (1 + i) 115 (.tuple es) = es.zipIdx.map fun p => ([((1 + i : Nat) : Int), (p.2 : Int)], p.1, 101) := by
            unfold in3Slot inSlot
            rw [if_pos rfl, List.map_map]
            rfl
          rw [ei]
          exact (h2.up (c4.trans oD)).app (g2.up (Same.trans (cut_less fun b hb => List.mem_cons_of_mem _ hb) (Off.put (l := [L]) (by simp))))
        · exact h3.trans (c4.trans oD)
    · have n115 : ¬ c = 115 := fun z => cc (decide_eq_true (by rw [V.str.injEq, sortS_s]; exact z))
      refine ⟨_, rfl, few (by simp), fun T2 hT2 => ⟨T2, _, rfl, .inr (.inl (.inl upd_same)), rfl, rfl, _, rfl, ite2 (fun c2 => ?_) (fun c2 => ?_)⟩⟩
      · have hc : c = 101 ∨ c = 116 := by
          rw [← sortS_et]
          exact (inV2 _).mp c2
        have s5 := s4.trans (same_new (o := .tup [.str "expression", .str "test"]) hT2)
        refine ⟨_, rfl, .inl ⟨rfl, _, SqL.of (s5 _ _ h1)⟩, _, rfl, few (by simp), fun T3 hT3 => ⟨_, rfl, _, rfl, few (by simp), fun T4 hT4 => ?_⟩⟩
        have s6 := s5.trans (same_new (o := .tup [.int (1 + (i : Nat))]) hT3)
        have s7 := s6.trans (same_new (o := .tup [.ref T3, x, .str (sortS c)]) hT4)
        have h6L := s6 _ _ h1
        generalize hH6 : upd (upd (upd H2 T (.tup [.int (1 + (i : Nat)), .ref t])) T2 (.tup [.str "expression", .str "test"])) T3 (.tup [.int (1 + (i : Nat))]) = H6 at *
        have h63 : H6 T3 = some (.tup [.int (1 + (i : Nat))]) := by rw [← hH6]; exact upd_same
        have nL4 : T4 ≠ L := fun y => by
          rw [y, h6L] at hT4
          cases hT4
        have nL3 : T3 ≠ L := fun y => by
          rw [y, h6L] at h63
          cases h63
        have n34 : T3 ≠ T4 := ne_of_none h63 hT4
        have c8 : Off [L] H2 (upd (upd H6 T4 (.tup [.ref T3, x, .str (sortS c)])) L (.lst (us.map V.ref ++ [.ref T4]))) := (Off.of s7).trans (Off.put (by simp))
        refine ⟨L, _, _, rfl, rfl, s7 _ _ h1, by rw [List.length_map]; exact small1000 (by omega), _, _, _, us ++ [T4], rfl, ?_, ?_, h3.trans c8⟩
        · rw [upd_same, List.map_append]
          rfl
        · rw [tk]
          have ei : in3Slot (1 + i) c d = [([((1 + i : Nat) : Int)], d, c)] := by
            unfold in3Slot inSlot
            rw [if_neg n115, if_pos hc]
            rcases hc with hc | hc <;> subst hc <;> rfl
          rw [ei]
          refine (h2.up c8).app (Inn.one (q := T3) (x := x) (s := sortS c) rfl ?_ ?_ ?_)
          · rw [cut_out (by simpa using nL4), upd_ne nL4]
            exact upd_same
          · rw [cut_out (by simpa using nL3), upd_ne nL3, upd_ne n34, h63]
            have a1 : (((1 + i : Nat)) : Int) = 1 + (i : Nat) := by omega
            show some (HO.tup [V.int (1 + (i : Nat))]) = some (HO.tup [V.int (((1 + i : Nat)) : Int)])
            rw [a1]
          · exact Dp.up c8 _ _ dxc
      · have hc : ¬ (c = 101 ∨ c = 116) := by
          rw [← sortS_et]
          exact fun z => c2 ((inV2 _).mpr z)
        have s5 := s4.trans (same_new (o := .tup [.str "expression", .str "test"]) hT2)
        refine ⟨_, _, _, us, rfl, s5 _ _ h1, ?_, h3.trans (Off.of s5)⟩
        rw [tk]
        have ei : in3Slot (1 + i) c d = [] := by
          unfold in3Slot inSlot
          rw [if_neg n115, if_neg hc]
          rfl
        rw [ei, List.append_nil]
        exact h2.up (Off.of s5)
  · rintro σ H2 ⟨o2, o3, o4, us, rfl, h1, h2, h3⟩
    refine ⟨_, rfl, ?_⟩
    rw [List.length_map, List.take_of_length_le (by omega), List.take_of_length_le (by omega)] at h2
    have s2 : Same H H2 := s03.trans (Same.trans h3 (cut_same [L] H2))
    exact q L us H2 s2 hL h1 (h2.up (cut_same _ _))
end
/-! forms: has_sort, has_form, names_bound, path_of_scope (for what has the form) -/
abbrev sHasSort : Stmt := topS 11
abbrev sHasForm : Stmt := topS 12
abbrev sBound : Stmt := topS 15
abbrev sPScope : Stmt := topS 16
theorem scHasSort : FnScope ["item", "sort"] ["item", "sort"] (defScope sHasSort) := ⟨rfl, rfl, rfl, by decide +kernel, rfl, by decide +kernel, by decide +kernel⟩
theorem scHasForm : FnScope ["tree", "wanted", "sorts", "item", "sort"] ["tree", "wanted"] (defScope sHasForm) := ⟨rfl, rfl, rfl, by decide +kernel, rfl, by decide +kernel, by decide +kernel⟩
theorem scBound : FnScope ["tree"] ["tree"] (defScope sBound) := ⟨rfl, rfl, rfl, by decide +kernel, rfl, by decide +kernel, by decide +kernel⟩
theorem scPScope : FnScope ["tree"] ["tree"] (defScope sPScope) := ⟨rfl, rfl, rfl, by decide +kernel, rfl, by decide +kernel, by decide +kernel⟩
/-- a thing that a slot takes: k integer, i index, n name, w kind, s tuple; e and t take any -/
def FitS (c : Nat) (d : PyData) : Prop :=
  if c = 107 then ∃ i, d = .int i else if c = 105 then ∃ i : Int, d = .int i ∧ 0 ≤ i else if c = 110 then ∃ x, d = .str x ∧ isNm x = true ∧ gd (.str x) = true
  else if c = 119 then d = .str "integer" ∨ d = .str "atom" ∨ d = .str "tuple" else if c = 115 then ∃ es, d = .tuple es else True
def FmA : List Nat → List PyData → Prop
  | c :: cs, d :: ds => FitS c d ∧ FmA cs ds
  | [], [] => True
  | [], _ :: _ => False
  | _ :: _, [] => False
theorem FmA.len : ∀ {cs : List Nat} {ds : List PyData}, FmA cs ds → cs.length = ds.length
  | [], [], _ => rfl
  | _ :: _, _ :: _, h => congrArg (· + 1) (FmA.len h.2)
  | [], _ :: _, h => h.elim
  | _ :: _, [], h => h.elim
theorem FmA.sh : ∀ {cs : List Nat} {ds : List PyData}, FmA cs ds → ShA cs ds
  | [], [], _ => True.intro
  | c :: _, _ :: _, h => ⟨fun e => by
      have h1 := h.1
      subst e
      exact h1, FmA.sh h.2⟩
  | [], _ :: _, h => h.elim
  | _ :: _, [], h => h.elim
theorem FmA.at {cs : List Nat} {ds : List PyData} {i c : Nat} {d : PyData} (h : FmA cs ds) (hc : cs[i]? = some c) (hd : ds[i]? = some d) : FitS c d := by
  induction cs generalizing ds i with
  | nil => simp at hc
  | cons c0 cs ih =>
    cases ds with
    | nil => simp at hd
    | cons d0 ds =>
      cases i with
      | zero =>
        simp at hc hd
        subst hc hd
        exact h.1
      | succ i => exact ih (i := i) h.2 (by simpa using hc) (by simpa using hd)
/-- the table for a sort of tree: tests 116, expressions 101 -/
def tblC (c : Nat) : List (Str × Str) := if c = 116 then teL else exL
theorem tblC_all {c : Nat} : ∀ p ∈ tblC c, p ∈ allL := fun p h => by
  unfold tblC at h
  split at h
  · exact List.mem_append_right _ h
  · exact List.mem_append_left _ h
theorem wantS_tbl {c : Nat} (hc : c = 101 ∨ c = 116) : ∀ p ∈ tblC c, wantS p.1 = sortS c := by
  rcases hc with rfl | rfl <;> decide +kernel
/-- a tree of this sort as to its form -/
structure Fo (K : PySem.W.Frag) (H : Hp) (v : V) (c : Nat) (h sl : Str) (args : List PyData) : Prop where
  ce : c = 101 ∨ c = 116
  mem : (h, sl) ∈ tblC c
  fm : FmA sl.cps.toList args
  na : nods args ≤ 900
  dp : ∃ a xs, v = .ref a ∧ SqT K H a (.str h :: xs) ∧ DpAll K H xs args
theorem Fo.up {K : PySem.W.Frag} {H H' : Hp} {v : V} {c : Nat} {h sl : Str} {args : List PyData} (s : Same H H') (F : Fo K H v c h sl args) : Fo K H' v c h sl args := by
  obtain ⟨a, xs, e, h1, h2⟩ := F.dp
  exact ⟨F.ce, F.mem, F.fm, F.na, a, xs, e, seqT_up s h1, Dp.ups s _ _ h2⟩
/-- what a tree binds -/
def bndD (h : Str) (args : List PyData) : List Str :=
  if h = "fold" then (match args with | .str a :: _ :: .str x :: _ => [a, x] | _ => []) else
  if h = "let" ∨ h = "each" ∨ h = "pick" then (match args with | .str x :: _ => [x] | _ => []) else []
def spHasSort (K : PySem.W.Frag) : Sp := fun vs H Q _ => ∃ v c d, vs = [v, .str (sortS c)] ∧ Dp K H v d ∧ FitS c d ∧ c ∈ [101, 116, 115, 107, 110, 105, 119] ∧ ∀ H', Same H H' → Q (.bl true) H'
def spHasForm (K : PySem.W.Frag) : Sp := fun vs H Q _ => ∃ v c h sl args, vs = [v, .str (sortS c)] ∧ Fo K H v c h sl args ∧ ∀ H', Same H H' → Q (.bl true) H'
def spBound (K : PySem.W.Frag) : Sp := fun vs H Q _ => ∃ v c h sl args, vs = [v] ∧ Fo K H v c h sl args ∧ ∀ a H', Same H H' → SqT K H' a ((bndD h args).map V.str) → Q (.ref a) H'
def spPScope (K : PySem.W.Frag) : Sp := fun vs H Q _ => ∃ v c h sl args, vs = [v] ∧ Fo K H v c h sl args ∧ ∀ a H', Same H H' → H' a = some (.tup [.int args.length]) → Q (.ref a) H'
theorem walk_zipT {K : PySem.W.Frag} {a b : Addr} {xs ys : List V} (hl : xs.length = ys.length) : Walk (RZ.ItzT K a b) xs.length (fun H => SqT K H a xs ∧ SqT K H b ys)
    (fun i H v H' => ∃ T x y, v = .ref T ∧ H T = none ∧ H' = upd H T (.tup [x, y]) ∧ xs[i]? = some x ∧ ys[i]? = some y) :=
  ⟨fun i H hi q => ⟨xs, ys, xs[i], ys[i]'(by omega), q.1, q.2, by simp, by simp⟩, fun H q => ⟨xs, ys, q.1, q.2, .inl (Nat.le_refl _)⟩, fun i H v H' hi q y => by
    obtain ⟨T, x, y, e, hT, eH, f1, f2⟩ := y
    exact ⟨T, x, y, e, hT, eH, f1 xs q.1, f2 ys q.2⟩⟩
theorem dpall_cons {K : PySem.W.Frag} {H : Hp} {xs : List V} {d : PyData} {ds : List PyData} (h : DpAll K H xs (d :: ds)) : ∃ v vs, xs = v :: vs ∧ True ∧ Dp K H v d ∧ DpAll K H vs ds := by
  cases h with
  | cons a b => exact ⟨_, _, rfl, True.intro, a, b⟩
theorem inV3 (s : Str) : inV (.str s) [.str "let", .str "each", .str "pick"] = true ↔ s = "let" ∨ s = "each" ∨ s = "pick" := by
  simp only [inV, List.any_cons, List.any_nil, eqV, Bool.or_false, Bool.or_eq_true, beq_iff_eq]
  exact ⟨fun h => h.imp Eq.symm fun h => h.imp Eq.symm Eq.symm, fun h => h.imp Eq.symm fun h => h.imp Eq.symm Eq.symm⟩
theorem sl_fold : ∀ p ∈ allL, p.1 = "fold" → p.2 = "nenee" := by decide +kernel
theorem sl_bind : ∀ p ∈ allL, p.1 = "let" ∨ p.1 = "each" ∨ p.1 = "pick" → p.2 = "nee" ∨ p.2 = "net" := by decide +kernel
theorem shp_fold {h sl : Str} {args : List PyData} (m : (h, sl) ∈ allL) (e : h = "fold") (fm : FmA sl.cps.toList args) : ∃ y d1 x d2 d3, args = [.str y, d1, .str x, d2, d3] := by
  have e2 : sl = "nenee" := sl_fold _ m e
  subst e2
  rw [show ("nenee" : Str).cps.toList = [110, 101, 110, 101, 101] by decide +kernel] at fm
  match args, fm with
  | [a0, a1, a2, a3, a4], fm =>
    obtain ⟨y, rfl, _⟩ := fm.1
    obtain ⟨x, rfl, _⟩ := fm.2.2.1
    exact ⟨_, _, _, _, _, rfl⟩
theorem shp_bind {h sl : Str} {args : List PyData} (m : (h, sl) ∈ allL) (e : h = "let" ∨ h = "each" ∨ h = "pick") (fm : FmA sl.cps.toList args) : ∃ x d1 d2, args = [.str x, d1, d2] := by
  rcases sl_bind _ m e with e2 | e2
  · have e2 : sl = "nee" := e2
    subst e2
    rw [show ("nee" : Str).cps.toList = [110, 101, 101] by decide +kernel] at fm
    match args, fm with
    | [a0, a1, a2], fm =>
      obtain ⟨y, rfl, _⟩ := fm.1
      exact ⟨_, _, _, rfl⟩
  · have e2 : sl = "net" := e2
    subst e2
    rw [show ("net" : Str).cps.toList = [110, 101, 116] by decide +kernel] at fm
    match args, fm with
    | [a0, a1, a2], fm =>
      obtain ⟨y, rfl, _⟩ := fm.1
      exact ⟨_, _, _, rfl⟩
theorem slots_in : ∀ p ∈ allL, ∀ c ∈ p.2.cps.toList, c ∈ [101, 116, 115, 107, 110, 105, 119] := by decide +kernel
section
variable {P : Program} {w : World} {K : PySem.W.Frag} {mg : Str → Option Value} {base : Heap} {f fN fI fS fH : Addr} {fd dN dI dS dH : FuncData}
theorem ok_hasSort {k : Nat} (F : Fun K "has_sort" "has_sort" sHasSort f fd) (B : Bi mg) (GN : Dn P w K mg base 1 "is_name" ["thing"] (spLook K (fun d => gd d = true) fun d => .bl (nmD d)) fN dN)
    (GI : Dn P w K mg base 1 "is_integer" ["thing"] (spLook K (fun _ => True) fun d => .bl (inD d)) fI dI) : FnOk P w K mg base CX0 (k + 2) f fd ["item", "sort"] (spHasSort K) := by
  refine F.ok scHasSort (fun vs H Q E h => ?_) (fun cdv A outer s H vs Q E hr h => ?_)
  · obtain ⟨v, c, d, rfl, _⟩ := h
    rfl
  obtain ⟨v, c, d, rfl, hd, hf, hc, q⟩ := h
  have hr1 : Room 1 _ := hr.mono (by omega)
  refine ⟨_, pss_cons (ps_if (pt_cmpR op_eq (pv 1) pe_str (nomark _)) (pss_one (ps_ret (pe_call GI.ok hr1 (by rfl) GI.mg GI.kp GI.bd .nil pass0 (pa_cons (pv 0) pa_nil)))) pss_nil)
    (pss_cons (ps_if (pt_cmpR op_eq (pv 1) pe_str (nomark _)) (pss_one (ps_ret (pe_and (pe_call GI.ok hr1 (by rfl) GI.mg GI.kp GI.bd .nil pass0 (pa_cons (pv 0) pa_nil)) (pe_one (pe_cmpR op_ge (pv 0) pe_int (nomark _)))))) pss_nil)
    (pss_cons (ps_if (pt_cmpR op_eq (pv 1) pe_str (nomark _)) (pss_one (ps_ret (pe_call GN.ok hr1 (by rfl) GN.mg GN.kp GN.bd .nil pass0 (pa_cons (pv 0) pa_nil)))) pss_nil)
    (pss_cons (ps_if (pt_cmpR op_eq (pv 1) pe_str (nomark _)) (pss_one (ps_ret (pe_cmpR op_in_seq (pv 0) (pe_tup (pa_cons pe_str (pa_cons pe_str (pa_cons pe_str pa_nil)))) rfl))) pss_nil)
    (pss_one (ps_ret (pe_or (pe_cmpR op_ne (pv 1) pe_str (nomark _)) (pe_one (pe_callB call_isD (by rfl) B.ii b_ii (pa_cons (pv 0) (pa_cons (pe_bltn (by rfl) B.tup b_tup (v := .ty "tuple") rfl) pa_nil)))))))))), ?_⟩
  have eT : ∀ {a b : Str} {A B : Prop}, a = b → A → if decide (V.str a = V.str b) = true then A else B := fun e x => by rw [if_pos (decide_eq_true (congrArg V.str e))]; exact x
  have eF : ∀ {a b : Str} {A B : Prop}, ¬ a = b → B → if decide (V.str a = V.str b) = true then A else B := fun e x => by rw [if_neg (fun z => e (V.str.inj (of_decide_eq_true z)))]; exact x
  have eN : ∀ {a b : Str} {A B : Prop}, ¬ a = b → A → if (!decide (V.str a = V.str b)) = true then A else B := fun e x => by rw [decide_eq_false (fun z => e (V.str.inj z))]; exact x
  have eM : ∀ {a b : Str} {A B : Prop}, a = b → B → if (!decide (V.str a = V.str b)) = true then A else B := fun e x => by rw [decide_eq_true (congrArg V.str e)]; exact x
  simp only [List.mem_cons, List.not_mem_nil, or_false] at hc
  rcases hc with rfl | rfl | rfl | rfl | rfl | rfl | rfl
  · exact ⟨_, rfl, rfl, _, rfl, eF (by decide +kernel) ⟨_, rfl, rfl, _, rfl, eF (by decide +kernel) ⟨_, rfl, rfl, _, rfl, eF (by decide +kernel) ⟨_, rfl, rfl, _, rfl, eF (by decide +kernel) ⟨_, rfl, rfl, _, rfl, eN (by decide +kernel) (q H (Same.refl H))⟩⟩⟩⟩⟩
  · exact ⟨_, rfl, rfl, _, rfl, eF (by decide +kernel) ⟨_, rfl, rfl, _, rfl, eF (by decide +kernel) ⟨_, rfl, rfl, _, rfl, eF (by decide +kernel) ⟨_, rfl, rfl, _, rfl, eF (by decide +kernel) ⟨_, rfl, rfl, _, rfl, eN (by decide +kernel) (q H (Same.refl H))⟩⟩⟩⟩⟩
  · obtain ⟨es, rfl⟩ := hf
    exact ⟨_, rfl, rfl, _, rfl, eF (by decide +kernel) ⟨_, rfl, rfl, _, rfl, eF (by decide +kernel) ⟨_, rfl, rfl, _, rfl, eF (by decide +kernel) ⟨_, rfl, rfl, _, rfl, eF (by decide +kernel) ⟨_, rfl, rfl, _, rfl, eM (by decide +kernel)
      ⟨_, rfl, v, .tuple es, "tuple", _, rfl, hd, kit_tup _, q H (Same.refl H)⟩⟩⟩⟩⟩⟩
  · obtain ⟨i, rfl⟩ := hf
    exact ⟨_, rfl, rfl, _, rfl, eT (by decide +kernel) ⟨_, rfl, v, .int i, rfl, hd, True.intro, fun H' s' => q H' s'⟩⟩
  · obtain ⟨x, rfl, hx, gx⟩ := hf
    refine ⟨_, rfl, rfl, _, rfl, eF (by decide +kernel) ⟨_, rfl, rfl, _, rfl, eF (by decide +kernel) ⟨_, rfl, rfl, _, rfl, eT (by decide +kernel) ⟨_, rfl, v, .str x, rfl, hd, gx, fun H' s' => ?_⟩⟩⟩⟩
    have e : nmD (.str x) = true := hx
    show Q (.bl (nmD (.str x))) H'
    rw [e]
    exact q H' s'
  · obtain ⟨i, rfl, hi⟩ := hf
    refine ⟨_, rfl, rfl, _, rfl, eF (by decide +kernel) ⟨_, rfl, rfl, _, rfl, eT (by decide +kernel) ⟨_, rfl, v, .int i, rfl, hd, True.intro, fun H' s' => ?_⟩⟩⟩
    cases hd
    refine ⟨true, rfl, iteT ⟨_, rfl, i, 0, rfl, rfl, ?_⟩⟩
    show Q (V.bl (decide (0 ≤ i))) H'
    rw [decide_eq_true hi]
    exact q H' s'
  · refine ⟨_, rfl, rfl, _, rfl, eF (by decide +kernel) ⟨_, rfl, rfl, _, rfl, eF (by decide +kernel) ⟨_, rfl, rfl, _, rfl, eF (by decide +kernel) ⟨_, rfl, rfl, _, rfl, eT (by decide +kernel) ⟨_, rfl, few (by simp), fun T hT => ?_⟩⟩⟩⟩⟩
    have go : ∀ x : Str, inV (.str x) [.str "integer", .str "atom", .str "tuple"] = true → d = .str x → v = .str x ∧ Q (.bl (inV v [.str "integer", .str "atom", .str "tuple"])) (upd H T (.tup [.str "integer", .str "atom", .str "tuple"])) := fun x hx e => by
      subst e
      cases hd
      rw [hx]
      exact ⟨rfl, q _ (same_new hT _)⟩
    have fin : ∃ x : Str, v = .str x ∧ Q (.bl (inV v [.str "integer", .str "atom", .str "tuple"])) (upd H T (.tup [.str "integer", .str "atom", .str "tuple"])) := by
      rcases hf with e | e | e
      · exact ⟨_, go _ (by decide +kernel) e⟩
      · exact ⟨_, go _ (by decide +kernel) e⟩
      · exact ⟨_, go _ (by decide +kernel) e⟩
    obtain ⟨x, rfl, q2⟩ := fin
    exact ⟨T, _, rfl, .inr (.inl (.inl upd_same)), rfl, rfl, q2⟩
theorem ok_hasForm {k : Nat} (F : Fun K "has_form" "has_form" sHasForm f fd) (B : Bi mg) (mz : mg "zip" = none) (GS : Dn P w K mg base 1 "sorts_behind" ["word", "wanted"] (spSorts K) fS dS)
    (GH : Dn P w K mg base 2 "has_sort" ["item", "sort"] (spHasSort K) fH dH) : FnOk P w K mg base CX0 (k + 3) f fd ["tree", "wanted"] (spHasForm K) := by
  refine F.ok scHasForm (fun vs H Q E h => ?_) (fun cdv A outer s H vs Q E hr h => ?_)
  · obtain ⟨v, c, h, sl, args, rfl, _⟩ := h
    rfl
  obtain ⟨v, c, h, sl, args, rfl, F0, q⟩ := h
  have hr1 : Room 1 _ := hr.mono (by omega)
  have hr2 : Room 2 _ := hr.mono (by omega)
  refine ⟨_, pss_cons (ps_if (PW.pt (pw_or (pt_not (pt_val (pe_callB call_isD (by rfl) B.ii b_ii (pa_cons (pv 0) (pa_cons (pe_bltn (by rfl) B.tup b_tup (v := .ty "tuple") rfl) pa_nil)))))
      (pw_or (pt_not (pt_truth (pv 0) (by intro _; rfl))) (pw_or1 (pt_not (pt_val (pe_callB call_isD (by rfl) B.ii b_ii (pa_cons (pe_ix ix_tup (pv 0) pe_int (fun _ _ => rfl)) (pa_cons (pe_bltn (by rfl) B.str (by decide +kernel) (v := .ty "str") rfl) pa_nil))))))))) (pss_one (ps_ret pe_bl)) pss_nil)
    (pss_cons (ps_set (i := 2) scHasForm.nd rfl (.inl rfl) (pe_call GS.ok hr1 (by rfl) GS.mg GS.kp GS.bd .nil pass0 (pa_cons (pe_ix ix_tup (pv 0) pe_int (fun _ _ => rfl)) (pa_cons (pv 1) pa_nil))))
    (pss_cons (ps_if (PW.pt (pw_or (pt_cmpR op_isN (pv 2) pe_non rfl) (pw_or1 (pt_cmpR op_ne (pe_callB call_len_seq (by rfl) B.len PySem.boot_len (pa_cons (pv 0) pa_nil)) (pe_op op_add (pe_callB call_len_seq (by rfl) B.len PySem.boot_len (pa_cons (pv 2) pa_nil)) pe_int) (nomark _))))) (pss_one (ps_ret pe_bl)) pss_nil)
    (pss_one (ps_ret (pe_callB (cr_all rfl) (by rfl) B.all b_all (pa_cons (pe_lc (own := [("item", 3), ("sort", 4)]) (g := gTup K 2 (gCons (gName 3) (gCons (gName 4) gNil))) (by rfl) scHasForm.nd (RZ.pi_zipA (by rfl) mz (pa_cons (pe_slice sl_tupA (pv 0) (po_some pe_int) po_none) (pa_cons (pv 2) pa_nil)))
      (blkOk_by (own := [("item", 3), ("sort", 4)]) (N := ["tree", "wanted", "sorts", "item", "sort"]) (sc := defScope sHasForm) (by decide +kernel))
      (fun _ _ _ _ _ => pg_tupK rfl (by rfl) (pgs_cons (pg_name (i := 3) scHasForm.nd rfl (Or.inl rfl)) (pgs_cons (pg_name (i := 4) scHasForm.nd rfl (Or.inl rfl)) pgs_nil))) (fun _ _ _ _ _ => pts_nil)
      (fun _ _ _ _ _ => pe_call GH.ok hr2 (by rfl) GH.mg GH.kp GH.bd .nil pass0 (pa_cons (pv 3) (pa_cons (pv 4) pa_nil)))) pa_nil)))))), ?_⟩
  obtain ⟨a, xs, rfl, hx, dx⟩ := F0.dp
  have lx := DpAll.len dx
  have la := F0.fm.len
  have ln := nods_len args
  have na := F0.na
  have ew := wantS_tbl F0.ce _ F0.mem
  have a0 : atI (V.str h :: xs) 0 = some (.str h) := atI_nat (j := 0) rfl
  have same0 := Same.refl H
  refine ⟨_, rfl, _, .tuple (.str h :: args), "tuple", _, rfl, .tup hx (.cons (.str h) dx), kit_tup _, _, rfl, iteF ⟨_, rfl, true, .inr (.inl ⟨_, hx, rfl⟩), iteF ⟨_, rfl, a, _, 0, _, rfl, rfl, hx, a0, _, .str h, "str", _, rfl, .str h, kit_str _, _, rfl, iteF ?_⟩⟩⟩
  refine ⟨_, rfl, a, _, 0, _, rfl, rfl, hx, a0, _, rfl, h, sl, congrArg (fun z => [V.str h, V.str z]) ew.symm, tblC_all _ F0.mem, fun b hb => ?_⟩
  have lsv : (sortsV sl).length = args.length := by
    unfold sortsV
    rw [List.length_map, la]
  refine ⟨_, rfl, rfl, _, rfl, iteF ⟨_, rfl, a, _, rfl, .inr hx, _, rfl, b, _, rfl, .inr (hb H), _, _, rfl, rfl, rfl, _, rfl, ?_⟩⟩
  rw [lsv]
  have e1 : ((V.str h :: xs).length : Int) = (args.length : Int) + 1 := by rw [List.length_cons, lx]; omega
  rw [show (!decide (V.int ((V.str h :: xs).length : Nat) = V.int ((args.length : Nat) + 1))) = false by rw [e1]; simp]
  refine iteF ?_
  refine ⟨_, rfl, 1, rfl, a, _, rfl, hx, (fun e => ?_), fun _ cc hcc => ?_⟩
  · have e := e.1
    rw [show (1 : Int) = ((1 : Nat) : Int) from rfl, HT.sIx_nat, List.length_cons] at e
    omega
  rw [cutV_drop _ (by decide) (by simp only [List.length_cons]; omega), show List.drop (Int.toNat 1) (V.str h :: xs) = xs from rfl]
  have s1 : Same H (upd H cc (.tup xs)) := same_new hcc _
  have hcx : SqT K (upd H cc (.tup xs)) cc xs := .inl (.inl upd_same)
  have hdx : DpAll K (upd H cc (.tup xs)) xs args := Dp.ups s1 _ _ dx
  generalize hH1 : upd H cc (.tup xs) = H1 at *
  refine ⟨_, rfl, cc, b, xs, sortsV sl, rfl, .inr ⟨hcx, hb H1, fun D hD => ?_⟩⟩
  refine lc_it (walk_zipT (K := K) (a := cc) (b := b) (xs := xs) (ys := sortsV sl) (by omega)) (fun i H2 => H2 D = some (.lst ((List.replicate i true).map V.bl)) ∧ Same H1 (cut [D] H2)) ⟨upd_same, ?_⟩ ?_ ?_ ?_
  · intro b2 u z
    rw [cut_out (by simp only [List.mem_singleton]; exact ne_of_none z hD), upd_ne (ne_of_none z hD)]
    exact z
  · rintro i H2 hi ⟨g1, g2⟩
    exact ⟨seqT_up (g2.trans (cut_same _ _)) hcx, hb H2⟩
  · rintro i y H2 H3 hi ⟨g1, g2⟩ ⟨T, x, y2, rfl, hT, rfl, ex, ey⟩
    obtain ⟨d, ed, dxd⟩ := DpAll.get hdx ex
    unfold sortsV at ey
    rw [List.getElem?_map] at ey
    obtain ⟨c2, ec, rfl⟩ := Option.map_eq_some_iff.mp ey
    have s3 : Same H2 (upd H2 T (.tup [x, .str (sortS c2)])) := same_new hT _
    refine ⟨T, _, rfl, .inl (.inl upd_same), rfl, _, _, rfl, _, _, rfl, rfl, rfl, ?_⟩
    refine ⟨_, rfl, _, rfl, x, c2, d, rfl, Dp.up ((g2.trans (cut_same _ _)).trans s3) _ _ dxd, F0.fm.at ec ed, slots_in _ (tblC_all _ F0.mem) _ (List.mem_of_getElem? ec), fun H4 s4 => ?_⟩
    have g14 := (s3.trans s4) _ _ g1
    refine ⟨_, g14, ?_, ?_, ?_⟩
    · rw [List.length_map, List.length_replicate]
      exact small1000 (by omega)
    · rw [upd_same, List.replicate_succ', List.map_append]
      rfl
    · intro b2 u z
      obtain ⟨z1, z2⟩ := cut_some (g2 _ _ z)
      rw [cut_out z1, upd_ne (by simpa using z1)]
      exact (s3.trans s4) _ _ z2
  · rintro H2 ⟨g1, g2⟩
    refine ⟨D, List.replicate xs.length true, rfl, SqL.of g1, ?_⟩
    have e : (List.replicate xs.length true).all id = true := by
      rw [List.all_eq_true]
      intro z hz
      exact (List.eq_of_mem_replicate hz)
    rw [e]
    exact q H2 (s1.trans (g2.trans (cut_same _ _)))
theorem ok_bound {k : Nat} (F : Fun K "names_bound" "names_bound" sBound f fd) : FnOk P w K mg base CX0 (k + 1) f fd ["tree"] (spBound K) := by
  refine F.ok scBound (fun vs H Q E h => ?_) (fun cdv A outer s H vs Q E hr h => ?_)
  · obtain ⟨v, c, h, sl, args, rfl, _⟩ := h
    rfl
  obtain ⟨v, c, h, sl, args, rfl, F0, q⟩ := h
  refine ⟨_, pss_cons (ps_if (pt_cmpR op_eq (pe_ix ix_tup (pv 0) pe_int (fun _ _ => rfl)) pe_str (nomark _)) (pss_one (ps_ret (pe_tup (pa_cons (pe_ix ix_tup (pv 0) pe_int (fun _ _ => rfl)) (pa_cons (pe_ix ix_tup (pv 0) pe_int (fun _ _ => rfl)) pa_nil))))) pss_nil)
    (pss_one (ps_ret (pe_ifExp (pt_cmpR op_in_seq (pe_ix ix_tup (pv 0) pe_int (fun _ _ => rfl)) (pe_tup (pa_cons pe_str (pa_cons pe_str (pa_cons pe_str pa_nil)))) rfl) (pe_tup (pa_cons (pe_ix ix_tup (pv 0) pe_int (fun _ _ => rfl)) pa_nil)) (pe_tup pa_nil)))), ?_⟩
  obtain ⟨a, xs, rfl, hx, dx⟩ := F0.dp
  have lx := DpAll.len dx
  have la := F0.fm.len
  have a0 : atI (V.str h :: xs) 0 = some (.str h) := atI_nat (j := 0) rfl
  have hm := F0.mem
  have fm := F0.fm
  have eT : ∀ {a b : Str} {A B : Prop}, a = b → A → if decide (V.str a = V.str b) = true then A else B := fun e x => by rw [if_pos (decide_eq_true (congrArg V.str e))]; exact x
  have eF : ∀ {a b : Str} {A B : Prop}, ¬ a = b → B → if decide (V.str a = V.str b) = true then A else B := fun e x => by rw [if_neg (fun z => e (V.str.inj (of_decide_eq_true z)))]; exact x
  refine ⟨_, rfl, a, _, 0, _, rfl, rfl, hx, a0, rfl, _, rfl, ?_⟩
  by_cases h1 : h = "fold"
  · refine eT h1 ?_
    obtain ⟨y, d1, x, d2, d3, rfl⟩ := shp_fold (tblC_all _ hm) h1 fm
    obtain ⟨v0, xs, rfl, _, e0, dx⟩ := dpall_cons dx
    obtain ⟨v1, xs, rfl, _, _, dx⟩ := dpall_cons dx
    obtain ⟨v2, xs, rfl, _, e2, dx⟩ := dpall_cons dx
    cases e0
    cases e2
    refine ⟨_, rfl, a, _, 1, _, rfl, rfl, hx, atI_nat (j := 1) rfl, _, rfl, a, _, 3, _, rfl, rfl, hx, atI_nat (j := 3) rfl, few (by simp), fun T hT => q T _ (same_new hT _) (.inl (.inl ?_))⟩
    rw [upd_same]
    unfold bndD
    rw [if_pos h1]
    rfl
  · refine eF h1 ⟨_, rfl, a, _, 0, _, rfl, rfl, hx, a0, few (by simp), fun T hT => ⟨T, _, rfl, .inr (.inl (.inl upd_same)), rfl, rfl, _, rfl, ite2 (fun cc => ?_) (fun cc => ?_)⟩⟩
    · have h2 : h = "let" ∨ h = "each" ∨ h = "pick" := (inV3 h).mp cc
      obtain ⟨x, d1, d2, rfl⟩ := shp_bind (tblC_all _ hm) h2 fm
      obtain ⟨v0, xs, rfl, _, e0, dx⟩ := dpall_cons dx
      cases e0
      have s1 := same_new (o := .tup [.str "let", .str "each", .str "pick"]) hT
      refine ⟨_, rfl, a, _, 1, _, rfl, rfl, seqT_up s1 hx, atI_nat (j := 1) rfl, few (by simp), fun T2 hT2 => q T2 _ (s1.trans (same_new hT2 _)) (.inl (.inl ?_))⟩
      rw [upd_same]
      unfold bndD
      rw [if_neg h1, if_pos h2]
      rfl
    · have h2 : ¬ (h = "let" ∨ h = "each" ∨ h = "pick") := fun z => cc ((inV3 h).mpr z)
      have s1 := same_new (o := .tup [.str "let", .str "each", .str "pick"]) hT
      refine ⟨few (by simp), fun T2 hT2 => q T2 _ (s1.trans (same_new hT2 _)) (.inl (.inl ?_))⟩
      rw [upd_same]
      unfold bndD
      rw [if_neg h1, if_neg h2]
      rfl
theorem ok_pscope {k : Nat} (F : Fun K "path_of_scope" "path_of_scope" sPScope f fd) (mn : mg "len" = none) : FnOk P w K mg base CX0 (k + 1) f fd ["tree"] (spPScope K) := by
  refine F.ok scPScope (fun vs H Q E h => ?_) (fun cdv A outer s H vs Q E hr h => ?_)
  · obtain ⟨v, c, h, sl, args, rfl, _⟩ := h
    rfl
  obtain ⟨v, c, h, sl, args, rfl, F0, q⟩ := h
  refine ⟨_, pss_one (ps_ret (pe_tup (pa_cons (pe_op op_sub (pe_callB call_len_seq (by rfl) mn PySem.boot_len (pa_cons (pv 0) pa_nil)) pe_int) pa_nil))), ?_⟩
  obtain ⟨a, xs, rfl, hx, dx⟩ := F0.dp
  have lx := DpAll.len dx
  refine ⟨_, rfl, a, _, rfl, .inr hx, _, _, rfl, rfl, few (by simp), fun T hT => ?_⟩
  refine q T _ (same_new hT _) ?_
  rw [upd_same, List.length_cons, lx]
  show some (HO.tup [V.int (((args.length + 1 : Nat) : Int) - 1)]) = _
  rw [show ((args.length + 1 : Nat) : Int) - 1 = args.length by omega]
end
/-! scopes -/
abbrev sSWith : Stmt := topS 28
theorem scSWith : FnScope ["scope", "name", "what", "inner", "other"] ["scope", "name", "what"] (defScope sSWith) := ⟨rfl, rfl, rfl, by decide +kernel, rfl, by decide +kernel, by decide +kernel⟩
abbrev Scp := Str → Option Str
def updS (sc : Scp) (x s : Str) : Scp := fun y => if y = x then some s else sc y
def StW (s : Str) : Prop := s = "" ∨ s = "own" ∨ s = "piece"
def ScW (sc : Scp) : Prop := ∀ x s, sc x = some s → StW s
theorem ScW.upd {sc : Scp} {x s : Str} (h : ScW sc) (hs : StW s) : ScW (updS sc x s) := fun y t e => by
  unfold updS at e
  split at e
  · cases e
    exact hs
  · exact h y t e
/-- a dict of words by words -/
structure ScD (H : Hp) (a : Addr) (sc : Scp) (m : Nat) (kvs : List (Key × V)) : Prop where
  at_ : H a = some (.dK kvs)
  ks : ∀ p ∈ kvs, ∃ x, p.1 = Sum.inr x
  nd : (kvs.map (·.1)).Nodup
  vl : ∀ x, valV kvs (Sum.inr x) = (sc x).map V.str
  le : kvs.length ≤ m
  w : ScW sc
theorem ScD.up {H H' : Hp} {a : Addr} {sc : Scp} {m : Nat} {kvs : List (Key × V)} (s : Same H H') (h : ScD H a sc m kvs) : ScD H' a sc m kvs := ⟨s _ _ h.at_, h.ks, h.nd, h.vl, h.le, h.w⟩
theorem ScD.mono {H : Hp} {a : Addr} {sc : Scp} {m m' : Nat} {kvs : List (Key × V)} (h : ScD H a sc m kvs) (hm : m ≤ m') : ScD H a sc m' kvs := ⟨h.at_, h.ks, h.nd, h.vl, Nat.le_trans h.le hm, h.w⟩
theorem putK_keys {kvs : List (Key × V)} {k : Key} {v : V} : (putK kvs k v).map (·.1) = kvs.map (·.1) ∧ k ∈ kvs.map (·.1) ∨ putK kvs k v = kvs ++ [(k, v)] ∧ k ∉ kvs.map (·.1) := by
  by_cases h : k ∈ kvs.map (·.1)
  · refine .inl ⟨?_, h⟩
    obtain ⟨p, hp, e⟩ := List.mem_map.mp h
    have ha : (kvs.any fun p => decide (p.1 = k)) = true := List.any_eq_true.mpr ⟨p, hp, decide_eq_true e⟩
    unfold putK
    rw [if_pos ha, List.map_map]
    refine List.map_congr_left fun q hq => ?_
    show (if q.1 = k then (q.1, v) else q).1 = q.1
    split <;> rfl
  · exact .inr ⟨putK_new fun p hp e => h (List.mem_map.mpr ⟨p, hp, e⟩), h⟩
theorem ScD.put {H : Hp} {a : Addr} {sc : Scp} {m : Nat} {kvs : List (Key × V)} (h : ScD H a sc m kvs) (x s : Str) (hs : StW s) (H' : Hp) (b : Addr) (e : H' b = some (.dK (putK kvs (Sum.inr x) (.str s)))) : ScD H' b (updS sc x s) (m + 1) (putK kvs (Sum.inr x) (.str s)) := by
  have hv : ∀ y, valV (putK kvs (Sum.inr x) (.str s)) (Sum.inr y : Key) = (updS sc x s y).map V.str := fun y => by
    unfold updS
    rw [valV_put]
    by_cases e : y = x
    · rw [if_pos e, e, if_pos rfl]
      rfl
    · rw [if_neg e, if_neg (fun z => e (Sum.inr.inj z))]
      exact h.vl y
  rcases putK_keys (kvs := kvs) (k := Sum.inr x) (v := .str s) with ⟨e1, e2⟩ | ⟨e1, e2⟩
  · refine ⟨e, fun p hp => ?_, by rw [e1]; exact h.nd, hv, ?_, h.w.upd hs⟩
    · have : p.1 ∈ (putK kvs (Sum.inr x) (.str s)).map (·.1) := List.mem_map.mpr ⟨p, hp, rfl⟩
      rw [e1] at this
      obtain ⟨q, hq, eq⟩ := List.mem_map.mp this
      obtain ⟨y, ey⟩ := h.ks q hq
      exact ⟨y, by rw [← eq, ey]⟩
    · have := congrArg List.length e1
      rw [List.length_map, List.length_map] at this
      have := h.le
      omega
  · refine ⟨e, fun p hp => ?_, ?_, hv, ?_, h.w.upd hs⟩
    · rw [e1] at hp
      rcases List.mem_append.mp hp with hp | hp
      · exact h.ks p hp
      · rw [List.mem_singleton] at hp
        subst hp
        exact ⟨x, rfl⟩
    · rw [e1, List.map_append, List.nodup_append]
      refine ⟨h.nd, by simp, fun y hy z hz e => ?_⟩
      simp only [List.map_cons, List.map_nil, List.mem_singleton] at hz
      subst hz
      subst e
      exact e2 hy
    · rw [e1, List.length_append]
      have := h.le
      simp only [List.length_cons, List.length_nil]
      omega
theorem upd_twice {H : Hp} {a : Addr} {o u : HO} : upd (upd H a o) a u = upd H a u := by
  funext b
  by_cases e : b = a
  · rw [e, upd_same, upd_same]
  · rw [upd_ne e, upd_ne e, upd_ne e]
def spSWith : Sp := fun vs H Q _ => ∃ a sc m kvs x s, vs = [.ref a, .str x, .str s] ∧ ScD H a sc m kvs ∧ StW s ∧ m ≤ 900 ∧ ∀ q kvs' H', Same H H' → H q = none → ScD H' q (updS sc x s) (m + 1) kvs' → Q (.ref q) H'
section
variable {P : Program} {w : World} {K : PySem.W.Frag} {mg : Str → Option Value} {base : Heap} {f : Addr} {fd : FuncData}
theorem ok_swith {k : Nat} (F : Fun K "scope_with" "scope_with" sSWith f fd) : FnOk P w K mg base CX0 (k + 1) f fd ["scope", "name", "what"] spSWith := by
  refine F.ok scSWith (fun vs H Q E h => ?_) (fun cdv A outer s H vs Q E hr h => ?_)
  · obtain ⟨a, sc, m, kvs, x, s, rfl, _⟩ := h
    rfl
  obtain ⟨a, sc, m, kvs, x, st, rfl, hS, hw, hm, q⟩ := h
  have hu := hu_of hr
  refine ⟨_, pss_cons (ps_lock (ps_setDc (i := 3) (own := [("other", 4)]) (g := gName 4) (by rfl) scSWith.nd rfl rfl (sw_dict rfl rfl rfl (by decide +kernel)) (pi_keys (pv 0))
        (blkOk_by (own := [("other", 4)]) (N := ["scope", "name", "what", "inner", "other"]) (sc := defScope sSWith) (by decide +kernel))
        (fun _ _ _ _ _ => pg_name (i := 4) scSWith.nd rfl (Or.inl rfl)) (fun _ _ _ _ _ => pts_nil) (fun _ _ _ _ _ => pv 4) (fun _ _ _ _ _ => pe_dget hu (pv 0) (pv 4) (fun _ _ => rfl))))
    (pss_cons (ps_dput hu (pv 3) (pv 1) (pv 2) rfl)
    (pss_one (ps_ret (pv 3)))), ?_⟩
  have nd := hS.nd
  refine ⟨a, .dK kvs, hS.at_, trivial, fun od => ⟨_, rfl, a, od, rfl, .inl ⟨kvs, upd_same, fun D hD => dc_it (walk_keys (d := a) (o := od)) (fun i H2 => H2 = upd (upd H a (.frz od (.dK kvs))) D (.dK (kvs.take i))) rfl ?_ ?_ ?_⟩⟩⟩
  · rintro i H2 hi rfl
    rw [upd_ne (ne_of_none upd_same hD), upd_same]
  · rintro i y H2 H3 hi rfl ⟨rfl, kk, vv, hkv, rfl⟩
    have hle := hS.le
    refine ⟨rfl, _, rfl, _, rfl, _, rfl, a, vv, rfl, .inl ⟨kvs, kk, .inr ⟨od, by rw [upd_ne (ne_of_none upd_same hD), upd_same]⟩, rfl, (valV_at nd hkv).symm⟩, kvs.take i, kk, rfl, upd_same, few1 (by rw [List.length_take]; omega), ?_⟩
    rw [upd_twice, putK_new (take_fresh nd hkv), get_take hkv]
  · rintro H2 rfl
    have naD : a ≠ D := ne_of_none upd_same hD
    have hD0 : H D = none := by
      rw [upd_ne naD.symm] at hD
      exact hD
    refine ⟨by rw [upd_ne naD, upd_same], ?_⟩
    have eH : upd (upd (upd H a (.frz od (.dK kvs))) D (.dK (kvs.take kvs.length))) a (.dK kvs) = upd H D (.dK kvs) := by
      rw [List.take_length]
      funext c
      by_cases e1 : c = a
      · rw [e1, upd_same, upd_ne naD, hS.at_]
      · by_cases e2 : c = D
        · rw [e2, upd_ne naD.symm, upd_same, upd_same]
        · rw [upd_ne e1, upd_ne e2, upd_ne e1, upd_ne e2]
    rw [eH]
    have hle := hS.le
    refine ⟨_, rfl, _, rfl, _, rfl, D, _, rfl, DPut.k (k := Sum.inr x) upd_same (few1 (by omega)), _, rfl, q D _ _ ?_ hD0 (hS.put x st hw _ D upd_same)⟩
    intro c o z
    rw [upd_twice, upd_ne (ne_of_none z hD0)]
    exact z
end
/-! what an expression is of what falls -/
abbrev sStand : Stmt := topS 30
abbrev sPStand : Stmt := topS 29
theorem scStand : FnScope ["tree", "scope", "is_part", "found"] ["tree", "scope"] (defScope sStand) := ⟨rfl, rfl, rfl, by decide +kernel, rfl, by decide +kernel, by decide +kernel⟩
theorem scPStand : FnScope ["tree", "scope"] ["tree", "scope"] (defScope sPStand) := ⟨rfl, rfl, rfl, by decide +kernel, rfl, by decide +kernel, by decide +kernel⟩
/-- data of a form, at their head -/
structure FoD (c : Nat) (d : PyData) (h sl : Str) (args : List PyData) : Prop where
  e : d = .tuple (.str h :: args)
  ce : c = 101 ∨ c = 116
  mem : (h, sl) ∈ tblC c
  fm : FmA sl.cps.toList args
  na : nods args ≤ 900
theorem FoD.fo {K : PySem.W.Frag} {H : Hp} {v : V} {c : Nat} {d : PyData} {h sl : Str} {args : List PyData} (F : FoD c d h sl args) (hd : Dp K H v d) : Fo K H v c h sl args := by
  have e := F.e
  subst e
  obtain ⟨a, xs, ds, rfl, e2, hx, dx⟩ := tup_of hd rfl
  cases e2
  obtain ⟨v0, ys, rfl, _, e0, dy⟩ := dpall_cons dx
  cases e0
  exact ⟨F.ce, F.mem, F.fm, F.na, a, ys, rfl, hx, dy⟩
inductive St : Nat → Scp → PyData → Str → Prop
  | name {n : Nat} {sc : Scp} {d : PyData} {x sl : Str} : FoD 101 d "name" sl [.str x] → St n sc d ((sc x).getD "")
  | part {n : Nat} {sc : Scp} {d a i : PyData} {s sl : Str} : FoD 101 d "part" sl [a, i] → St n sc a s → St n sc d (if s = "" then "" else "piece")
  | lt {n : Nat} {sc : Scp} {d a b : PyData} {x s t sl : Str} : FoD 101 d "let" sl [.str x, a, b] → St n sc a s → St (n + 1) (updS sc x s) b t → St (n + 1) sc d t
  | other {n : Nat} {sc : Scp} {d : PyData} {h sl : Str} {args : List PyData} : FoD 101 d h sl args → h ≠ "name" → h ≠ "part" → h ≠ "let" → St n sc d ""
theorem St.up {n : Nat} {sc : Scp} {d : PyData} {s : Str} (h : St n sc d s) : St (n + 1) sc d s := by
  induction h with
  | name f => exact .name f
  | part f _ ih => exact .part f ih
  | lt f _ _ i1 i2 => exact .lt f i1 i2
  | other f h1 h2 h3 => exact .other f h1 h2 h3
theorem St.mono {n m : Nat} {sc : Scp} {d : PyData} {s : Str} (h : St n sc d s) (hm : n ≤ m) : St m sc d s := by
  induction hm with
  | refl => exact h
  | step _ ih => exact ih.up
/-- the same answer -/
theorem St.fun {n : Nat} {sc : Scp} {d : PyData} {s : Str} (h : St n sc d s) : ∀ {m : Nat} {t : Str}, St m sc d t → s = t := by
  induction h with
  | name f =>
    intro m t g
    have e := f.e
    subst e
    cases g with
    | name g => cases g.e; rfl
    | part g _ => cases g.e
    | lt g _ _ => cases g.e
    | other g h1 _ _ => cases g.e; exact absurd rfl h1
  | part f _ ih =>
    intro m t g
    have e := f.e
    subst e
    cases g with
    | name g => have z := g.e; simp at z
    | part g g2 => cases g.e; rw [ih g2]
    | lt g _ _ => have z := g.e; simp at z
    | other g _ h2 _ => cases g.e; exact absurd rfl h2
  | lt f _ _ i1 i2 =>
    intro m t g
    have e := f.e
    subst e
    cases g with
    | name g => have z := g.e; simp at z
    | part g g2 => have z := g.e; simp at z
    | lt g g1 g2 =>
      cases g.e
      have e1 := i1 g1
      subst e1
      exact i2 g2
    | other g _ _ h3 => cases g.e; exact absurd rfl h3
  | other f h1 h2 h3 =>
    intro m t g
    have e := f.e
    subst e
    cases g with
    | name g => cases g.e; exact absurd rfl h1
    | part g g2 => cases g.e; exact absurd rfl h2
    | lt g _ _ => cases g.e; exact absurd rfl h3
    | other g _ _ _ => rfl
theorem St.w {n : Nat} {sc : Scp} {d : PyData} {s : Str} (h : St n sc d s) : ScW sc → StW s := by
  induction h with
  | @name n sc d x sl f =>
    intro hw
    cases e : sc x with
    | none => exact .inl rfl
    | some t => exact hw x t e
  | part f _ ih =>
    intro _
    split
    · exact .inl rfl
    · exact .inr (.inr rfl)
  | lt f _ _ i1 i2 => exact fun hw => i2 (hw.upd (i1 hw))
  | other f _ _ _ => exact fun _ => .inl rfl
theorem truv_w {K : PySem.W.Frag} {H : Hp} {s : Str} (h : StW s) : TruV K (.str s) H (decide (s ≠ "")) := by
  rcases h with h | h | h
  · subst h
    exact ⟨by decide +kernel, by decide +kernel⟩
  · subst h
    exact ⟨by decide +kernel, by decide +kernel⟩
  · subst h
    exact ⟨by decide +kernel, by decide +kernel⟩
theorem isd_k {H : Hp} {a : Addr} {kvs : List (Key × V)} (h : H a = some (.dK kvs)) : IsD H a := .inl ⟨_, .inl h⟩
theorem ibT {b : Bool} {A B : Prop} (e : b = true) (x : A) : if b = true then A else B := by rw [if_pos e]; exact x
theorem ibF {b : Bool} {A B : Prop} (e : ¬ b = true) (x : B) : if b = true then A else B := by rw [if_neg e]; exact x
theorem ieT {a b : Str} {A B : Prop} (e : a = b) (x : A) : if decide (V.str a = V.str b) = true then A else B := by rw [if_pos (decide_eq_true (congrArg V.str e))]; exact x
theorem ieF {a b : Str} {A B : Prop} (e : ¬ a = b) (x : B) : if decide (V.str a = V.str b) = true then A else B := by rw [if_neg (fun z => e (V.str.inj (of_decide_eq_true z)))]; exact x
theorem ieN {a b : Str} {A B : Prop} (e : ¬ a = b) (x : A) : if (!decide (V.str a = V.str b)) = true then A else B := by rw [decide_eq_false (fun z => e (V.str.inj z))]; exact x
theorem ieM {a b : Str} {A B : Prop} (e : a = b) (x : B) : if (!decide (V.str a = V.str b)) = true then A else B := by rw [decide_eq_true (congrArg V.str e)]; exact x
def fin (b : Bool) (s : Str) : Str := if b = true ∧ s ≠ "" then "piece" else s
theorem fin_part (b : Bool) (s : Str) : fin b (if s = "" then "" else "piece") = fin true s := by
  unfold fin
  by_cases h : s = ""
  · rw [if_pos h, if_neg (fun z => z.2 rfl), if_neg (fun z => z.2 h), h]
  · rw [if_neg h, if_pos (show true = true ∧ s ≠ "" from ⟨rfl, h⟩)]
    split <;> rfl
theorem inV2p (s : Str) : inV (.str s) [.str "part", .str "let"] = true ↔ s = "part" ∨ s = "let" := by
  simp only [inV, List.any_cons, List.any_nil, eqV, Bool.or_false, Bool.or_eq_true, beq_iff_eq]
  exact ⟨fun h => h.imp Eq.symm Eq.symm, fun h => h.imp Eq.symm Eq.symm⟩
def spStand (K : PySem.W.Frag) (n : Nat) : Sp := fun vs H Q _ => ∃ v a d sc m kvs s j, vs = [v, .ref a] ∧ Dp K H v d ∧ ScD H a sc m kvs ∧ m + nod d ≤ 900 ∧ n = j + 1 ∧ St j sc d s ∧ ∀ H', Same H H' → Q (.str s) H'
section
variable {P : Program} {w : World} {K : PySem.W.Frag} {mg : Str → Option Value} {base : Heap} {f fF fW : Addr} {fd dF dW : FuncData}
theorem ok_stand {k n : Nat} (F : Fun K "standing" "standing" sStand f fd) (GF : Dn P w K mg base 3 "has_form" ["tree", "wanted"] (spHasForm K) fF dF)
    (GW : Dn P w K mg base 1 "scope_with" ["scope", "name", "what"] spSWith fW dW) (VS : FnOk P w K mg base CX0 (k + 3) f fd ["tree", "scope"] (spStand K n)) (kV : PySem.W.keepIn K (.ref f) = true) (bV : Binds K fd ["tree", "scope"] []) (mV : mg "standing" = some (.ref f)) :
    FnOk P w K mg base CX0 (k + 4) f fd ["tree", "scope"] (spStand K (n + 1)) := by
  refine F.ok scStand (fun vs H Q E h => ?_) (fun cdv A outer s H vs Q E hr h => ?_)
  · obtain ⟨v, a, d, sc, m, kvs, st, j, rfl, _⟩ := h
    rfl
  obtain ⟨v, a, d, sc, m, kvs, st, j, rfl, hd, hS, hm, en, hst, q⟩ := h
  have hr3 : Room 3 _ := hr.mono (by omega)
  have hr1 : Room 1 _ := hr.mono (by omega)
  have hu := hu_of hr
  refine ⟨_, pss_cons (ps_set (i := 2) scStand.nd rfl (.inl rfl) pe_bl)
    (pss_cons (ps_while PassesOwn.never (PW.pt (pw_and (pt_val (pe_call GF.ok hr3 (by rfl) GF.mg GF.kp GF.bd .nil pass0 (pa_cons (pv 0) (pa_cons pe_str pa_nil)))) (pw_and1 (pt_cmpR op_in_seq (pe_ix ix_tup (pv 0) pe_int (fun _ _ => rfl)) (pe_tup (pa_cons pe_str (pa_cons pe_str pa_nil))) rfl))))
      (pss_one (ps_if (pt_cmpR op_eq (pe_ix ix_tup (pv 0) pe_int (fun _ _ => rfl)) pe_str (nomark _))
        (pss_cons (ps_set (i := 2) scStand.nd rfl (.inl rfl) pe_bl) (pss_one (ps_set (i := 0) scStand.nd rfl (.inl rfl) (pe_ix ix_tup (pv 0) pe_int (fun _ _ => rfl)))))
        (pss_cons (ps_set (i := 1) scStand.nd rfl (.inl rfl) (pe_call GW.ok hr1 (by rfl) GW.mg GW.kp GW.bd .nil pass0 (pa_cons (pv 1) (pa_cons (pe_ix ix_tup (pv 0) pe_int (fun _ _ => rfl)) (pa_cons
            (pe_call VS hr (by rfl) mV kV bV .nil pass0 (pa_cons (pe_ix ix_tup (pv 0) pe_int (fun _ _ => rfl)) (pa_cons (pv 1) pa_nil))) pa_nil)))))
          (pss_one (ps_set (i := 0) scStand.nd rfl (.inl rfl) (pe_ix ix_tup (pv 0) pe_int (fun _ _ => rfl))))))))
    (pss_cons (ps_if (PW.pt (pw_or (pt_not (pt_val (pe_call GF.ok hr3 (by rfl) GF.mg GF.kp GF.bd .nil pass0 (pa_cons (pv 0) (pa_cons pe_str pa_nil))))) (pw_or1 (pt_cmpR op_ne (pe_ix ix_tup (pv 0) pe_int (fun _ _ => rfl)) pe_str (nomark _))))) (pss_one (ps_ret pe_str)) pss_nil)
    (pss_cons (ps_set (i := 3) scStand.nd rfl (.inl rfl) (pe_dget2 hu (pv 1) (pe_ix ix_tup (pv 0) pe_int (fun _ _ => rfl)) pe_str ⟨rfl, rfl, rfl, rfl⟩))
    (pss_one (ps_ret (pe_ifExp (PW.pt (pw_and (pt_val (pv 2)) (pw_and1 (pt_truth (pv 3) (by intro _; rfl))))) pe_str (pv 3))))))), ?_⟩
  refine ⟨fun mm σ H2 => ∃ v' a' d' sc' m' kvs' s' b, mm = nod d' ∧ σ = [some v', some (.ref a'), some (.bl b), none] ∧ Same H H2 ∧ Dp K H2 v' d' ∧ ScD H2 a' sc' m' kvs' ∧ m' + nod d' ≤ 900 ∧ St j sc' d' s' ∧ fin b s' = st,
    ⟨_, v, a, d, sc, m, kvs, st, false, rfl, rfl, Same.refl H, hd, hS, hm, hst, by unfold fin; rw [if_neg (fun z => by cases z.1)]⟩, ?_⟩
  rintro mm σ H2 ⟨v', a', d', sc', m', kvs', s', b, rfl, rfl, s2, hd, hS, hm, hst, es⟩
  cases hst with
  | @part n0 sc0 d0 a0 i0 s0 sl f0 hs =>
    have F0 := f0.fo hd
    obtain ⟨a1, xs1, rfl, hx, dx⟩ := F0.dp
    refine ⟨_, rfl, _, 101, _, _, _, rfl, F0, fun H3 s3 => ⟨_, rfl, iteT ⟨_, rfl, a1, _, 0, _, rfl, rfl, seqT_up s3 hx, atI_nat (j := 0) rfl, few (by simp), fun T hT => ⟨T, _, rfl, .inr (.inl (.inl upd_same)), rfl, rfl, _, rfl, ?_⟩⟩⟩⟩
    refine ibT ((inV2p _).mpr (.inl rfl)) ?_
    have s4 := s3.trans (same_new (o := .tup [.str "part", .str "let"]) hT)
    have hx4 := seqT_up s4 hx
    obtain ⟨v1, ys, rfl, _, e1, dx⟩ := dpall_cons dx
    refine ⟨_, fun _ _ h => h, _, rfl, a1, _, 0, _, rfl, rfl, hx4, atI_nat (j := 0) rfl, rfl, _, rfl, ieT rfl ⟨_, rfl, a1, _, 1, _, rfl, rfl, hx4, atI_nat (j := 1) rfl, ?_⟩⟩
    have en : nod a0 < nod d' := by
      rw [f0.e]
      simp only [nod, nods]
      omega
    exact ⟨nod a0, en, v1, a', a0, sc', m', kvs', s0, true, rfl, rfl, s2.trans s4, Dp.up s4 _ _ e1, hS.up s4, by omega, hs, (fin_part b s0).symm.trans es⟩
  | @lt n0 sc0 d0 a0 b0 x s0 t0 sl f0 h1 h2 =>
    have F0 := f0.fo hd
    obtain ⟨a1, xs1, rfl, hx, dx⟩ := F0.dp
    refine ⟨_, rfl, _, 101, _, _, _, rfl, F0, fun H3 s3 => ⟨_, rfl, iteT ⟨_, rfl, a1, _, 0, _, rfl, rfl, seqT_up s3 hx, atI_nat (j := 0) rfl, few (by simp), fun T hT => ⟨T, _, rfl, .inr (.inl (.inl upd_same)), rfl, rfl, _, rfl, ?_⟩⟩⟩⟩
    refine ibT ((inV2p _).mpr (.inr rfl)) ?_
    have s4 := s3.trans (same_new (o := .tup [.str "part", .str "let"]) hT)
    have hx4 := seqT_up s4 hx
    obtain ⟨v1, ys, rfl, _, e1, dx⟩ := dpall_cons dx
    obtain ⟨v2, ys, rfl, _, e2, dx⟩ := dpall_cons dx
    obtain ⟨v3, ys, rfl, _, e3, dx⟩ := dpall_cons dx
    cases e1
    have en2 : nod a0 + nod b0 < nod d' := by
      rw [f0.e]
      simp only [nod, nods]
      omega
    have p1 := nod_pos a0
    refine ⟨_, fun _ _ h => h, _, rfl, a1, _, 0, _, rfl, rfl, hx4, atI_nat (j := 0) rfl, rfl, _, rfl, ieF (by decide +kernel) ⟨_, rfl, _, rfl, a1, _, 1, _, rfl, rfl, hx4, atI_nat (j := 1) rfl, _, rfl, a1, _, 2, _, rfl, rfl, hx4, atI_nat (j := 2) rfl, _, rfl,
      v2, a', a0, sc', m', kvs', s0, n0, rfl, Dp.up s4 _ _ e2, hS.up s4, by omega, by omega, h1, fun H5 s5 => ⟨a', sc', m', kvs', x, s0, rfl, (hS.up s4).up s5, h1.w hS.w, by omega, fun g kv2 H6 s6 hg hS2 => ?_⟩⟩⟩
    have s56 := s5.trans s6
    refine ⟨_, rfl, a1, _, 3, _, rfl, rfl, seqT_up s56 hx4, atI_nat (j := 3) rfl, ?_⟩
    exact ⟨nod b0, by omega, v3, g, b0, _, m' + 1, kv2, s', b, rfl, rfl, s2.trans (s4.trans s56), Dp.up (s4.trans s56) _ _ e3, hS2, by omega, h2, es⟩
  | @name n0 sc0 d0 x sl f0 =>
    have F0 := f0.fo hd
    obtain ⟨a1, xs1, rfl, hx, dx⟩ := F0.dp
    refine ⟨_, rfl, _, 101, _, _, _, rfl, F0, fun H3 s3 => ⟨_, rfl, iteT ⟨_, rfl, a1, _, 0, _, rfl, rfl, seqT_up s3 hx, atI_nat (j := 0) rfl, few (by simp), fun T hT => ⟨T, _, rfl, .inr (.inl (.inl upd_same)), rfl, rfl, _, rfl, ?_⟩⟩⟩⟩
    refine ibF (fun z => by rcases (inV2p _).mp z with e | e <;> exact absurd e (by decide +kernel)) ?_
    have s4 := s3.trans (same_new (o := .tup [.str "part", .str "let"]) hT)
    refine ⟨_, rfl, _, 101, _, _, _, rfl, F0.up s4, fun H5 s5 => ⟨_, rfl, iteF ⟨_, rfl, a1, _, 0, _, rfl, rfl, seqT_up (s4.trans s5) hx, atI_nat (j := 0) rfl, rfl, _, rfl, ieM rfl ?_⟩⟩⟩
    obtain ⟨v1, ys, rfl, _, e1, dx⟩ := dpall_cons dx
    cases e1
    have hS5 := (hS.up s4).up s5
    refine ⟨_, rfl, a', rfl, isd_k hS5.at_, _, rfl, a1, _, 1, _, rfl, rfl, seqT_up (s4.trans s5) hx, atI_nat (j := 1) rfl, _, DGet.k (k := Sum.inr x) hS5.at_, ?_⟩
    rw [hS5.vl x]
    have eg : (Option.map V.str (sc' x)).getD (V.str "") = V.str ((sc' x).getD "") := by cases sc' x <;> rfl
    rw [eg]
    have q2 := q H5 (s2.trans (s4.trans s5))
    rw [← es] at q2
    refine ⟨_, rfl, b, rfl, ?_⟩
    have hw : StW ((sc' x).getD "") := by
      cases e : sc' x with
      | none => exact .inl rfl
      | some t => exact hS.w x t e
    cases b with
    | false =>
      refine iteF (iteF ⟨_, rfl, ?_⟩)
      unfold fin at q2
      rw [if_neg (fun z => by cases z.1)] at q2
      exact q2
    | true =>
      refine iteT ⟨_, rfl, _, truv_w hw, ?_⟩
      by_cases e : (sc' x).getD "" = ""
      · refine ibF (by simpa using e) ⟨_, rfl, ?_⟩
        unfold fin at q2
        rw [if_neg (fun z => z.2 e)] at q2
        exact q2
      · refine ibT (by simpa using e) ?_
        unfold fin at q2
        rw [if_pos ⟨rfl, e⟩] at q2
        exact q2
  | @other n0 sc0 d0 h sl args f0 h1 h2 h3 =>
    have F0 := f0.fo hd
    obtain ⟨a1, xs1, rfl, hx, dx⟩ := F0.dp
    refine ⟨_, rfl, _, 101, _, _, _, rfl, F0, fun H3 s3 => ⟨_, rfl, iteT ⟨_, rfl, a1, _, 0, _, rfl, rfl, seqT_up s3 hx, atI_nat (j := 0) rfl, few (by simp), fun T hT => ⟨T, _, rfl, .inr (.inl (.inl upd_same)), rfl, rfl, _, rfl, ?_⟩⟩⟩⟩
    refine ibF (fun z => by rcases (inV2p _).mp z with e | e <;> exact absurd e (by assumption)) ?_
    have s4 := s3.trans (same_new (o := .tup [.str "part", .str "let"]) hT)
    refine ⟨_, rfl, _, 101, _, _, _, rfl, F0.up s4, fun H5 s5 => ⟨_, rfl, iteF ⟨_, rfl, a1, _, 0, _, rfl, rfl, seqT_up (s4.trans s5) hx, atI_nat (j := 0) rfl, rfl, _, rfl, ieN h1 ?_⟩⟩⟩
    have e0 : st = "" := by
      rw [← es]
      unfold fin
      rw [if_neg (fun z => z.2 rfl)]
    rw [e0] at q
    exact q H5 (s2.trans (s4.trans s5))
end
/-! the scope of an inner tree -/
abbrev sIScope : Stmt := topS 27
theorem scIScope : FnScope ["tree", "step", "scope", "held"] ["tree", "step", "scope"] (defScope sIScope) := ⟨rfl, rfl, rfl, by decide +kernel, rfl, by decide +kernel, by decide +kernel⟩
def prt (s : Str) : Str := if s = "" then "" else "piece"
theorem prt_w (s : Str) : StW (prt s) := by
  unfold prt
  split
  · exact .inl rfl
  · exact .inr (.inr rfl)
theorem gds_ints : ∀ {is : List Int}, (∀ i ∈ is, 0 ≤ i ∧ i < 1000) → gds (is.map PyData.int) = true
  | [], _ => rfl
  | i :: is, h => by
    have h1 := h i List.mem_cons_self
    simp only [List.map_cons, gds, Bool.and_eq_true]
    exact ⟨gd_int (Nat.lt_of_lt_of_le (by omega : i.natAbs < 2 ^ 20) (Nat.pow_le_pow_right (by decide) (by decide))), gds_ints fun j hj => h j (List.mem_cons_of_mem _ hj)⟩
theorem depth_ints : ∀ is : List Int, PyData.depthAll (is.map PyData.int) = 0
  | [] => rfl
  | _ :: is => by
    simp only [List.map_cons, PyData.depthAll, PyData.depth, depth_ints is]
    rfl
theorem eqv_ints : ∀ is js : List Int, PyData.eqvAll (is.map PyData.int) (js.map PyData.int) = decide (is = js)
  | [], [] => by simp [PyData.eqvAll]
  | [], _ :: _ => by simp [PyData.eqvAll]
  | _ :: _, [] => by simp [PyData.eqvAll]
  | i :: is, j :: js => by
    simp only [List.map_cons, PyData.eqvAll, eqv_ints is js, PyData.eqv]
    by_cases h : i = j
    · by_cases h2 : is = js <;> simp [h, h2]
    · simp [h]
theorem dp_ints {K : PySem.W.Frag} {H : Hp} : ∀ is : List Int, DpAll K H (is.map V.int) (is.map PyData.int)
  | [] => .nil
  | i :: is => .cons (.int i) (dp_ints is)
def PathOk (p : List Int) : Prop := ∀ i ∈ p, 0 ≤ i ∧ i < 1000
/-- the scope inside -/
def ScIn (n : Nat) (sc : Scp) (h : Str) (args : List PyData) (path : List Int) (sc' : Scp) : Prop :=
  ((bndD h args = [] ∨ path ≠ [(args.length : Int)]) ∧ sc' = sc) ∨
  (path = [3] ∧ ∃ x a b s, args = [.str x, a, b] ∧ St n sc a s ∧ ((h = "let" ∧ sc' = updS sc x s) ∨ ((h = "each" ∨ h = "pick") ∧ sc' = updS sc x (prt s)))) ∨
  (path = [5] ∧ ∃ y a x b c s, h = "fold" ∧ args = [.str y, a, .str x, b, c] ∧ St n sc b s ∧ sc' = updS (updS sc y "") x (prt s))
def spPStand (K : PySem.W.Frag) (n : Nat) : Sp := fun vs H Q _ => ∃ v a d sc m kvs s, vs = [v, .ref a] ∧ Dp K H v d ∧ ScD H a sc m kvs ∧ m + nod d ≤ 900 ∧ St n sc d s ∧ ∀ H', Same H H' → Q (.str (prt s)) H'
def spIScope (K : PySem.W.Frag) (n : Nat) : Sp := fun vs H Q _ => ∃ v q a c h sl args path sc sc' m kvs, vs = [v, .ref q, .ref a] ∧ Fo K H v c h sl args ∧ SqT K H q (path.map V.int) ∧ PathOk path ∧ ScD H a sc m kvs ∧ m + nods args + 2 ≤ 900 ∧ ScIn n sc h args path sc' ∧
  ∀ g kvs' H', Same H H' → (g = a ∨ H g = none) → ScD H' g sc' (m + 2) kvs' → Q (.ref g) H'
section
variable {P : Program} {w : World} {K : PySem.W.Frag} {mg : Str → Option Value} {base : Heap} {f fB fS fW fT fP : Addr} {fd dB dS dW dT dP : FuncData}
theorem ok_pstand {k n : Nat} (F : Fun K "part_standing" "part_standing" sPStand f fd) (GS : Dn P w K mg base (k + 3) "standing" ["tree", "scope"] (spStand K (n + 1)) fS dS) : FnOk P w K mg base CX0 (k + 4) f fd ["tree", "scope"] (spPStand K n) := by
  refine F.ok scPStand (fun vs H Q E h => ?_) (fun cdv A outer s H vs Q E hr h => ?_)
  · obtain ⟨v, a, d, sc, m, kvs, st, rfl, _⟩ := h
    rfl
  obtain ⟨v, a, d, sc, m, kvs, st, rfl, hd, hS, hm, hst, q⟩ := h
  refine ⟨_, pss_one (ps_ret (pe_ifExp (pt_truth (pe_call GS.ok hr (by rfl) GS.mg GS.kp GS.bd .nil pass0 (pa_cons (pv 0) (pa_cons (pv 1) pa_nil))) (by intro _; rfl)) pe_str pe_str)), ?_⟩
  refine ⟨_, rfl, _, rfl, v, a, d, sc, m, kvs, st, n, rfl, hd, hS, hm, rfl, hst, fun H2 s2 => ⟨_, truv_w (hst.w hS.w), ?_⟩⟩
  have q2 := q H2 s2
  unfold prt at q2
  by_cases e : st = ""
  · rw [if_pos e] at q2
    exact ibF (by simpa using e) q2
  · rw [if_neg e] at q2
    exact ibT (by simpa using e) q2
theorem ok_iscope {k n : Nat} (F : Fun K "inner_scope" "inner_scope" sIScope f fd) (GB : Dn P w K mg base 1 "names_bound" ["tree"] (spBound K) fB dB) (GP : Dn P w K mg base 1 "path_of_scope" ["tree"] (spPScope K) fP dP)
    (GW : Dn P w K mg base 1 "scope_with" ["scope", "name", "what"] spSWith fW dW) (GS : Dn P w K mg base (k + 3) "standing" ["tree", "scope"] (spStand K (n + 1)) fS dS)
    (GT : Dn P w K mg base (k + 4) "part_standing" ["tree", "scope"] (spPStand K n) fT dT) : FnOk P w K mg base CX0 (k + 5) f fd ["tree", "step", "scope"] (spIScope K n) := by
  refine F.ok scIScope (fun vs H Q E h => ?_) (fun cdv A outer s H vs Q E hr h => ?_)
  · obtain ⟨v, q, a, c, h, sl, args, path, sc, sc', m, kvs, rfl, _⟩ := h
    rfl
  obtain ⟨v, qa, a, c, h, sl, args, path, sc, sc', m, kvs, rfl, F0, hq, hp, hS, hm, hsc, q⟩ := h
  have hr1 : Room 1 _ := hr.mono (by omega)
  have hr3 : Room (k + 3) _ := hr.mono (by omega)
  refine ⟨_, pss_cons (ps_if (PW.pt (pw_or (pt_not (pt_truth (pe_call GB.ok hr1 (by rfl) GB.mg GB.kp GB.bd .nil pass0 (pa_cons (pv 0) pa_nil)) (by intro _; rfl))) (pw_or1 (pt_cmpR (op_neD hr.units) (pv 1) (pe_call GP.ok hr1 (by rfl) GP.mg GP.kp GP.bd .nil pass0 (pa_cons (pv 0) pa_nil)) (nomark _))))) (pss_one (ps_ret (pv 2))) pss_nil)
    (pss_cons (ps_if (pt_cmpR op_eq (pe_ix ix_tup (pv 0) pe_int (fun _ _ => rfl)) pe_str (nomark _))
      (pss_one (ps_ret (pe_call GW.ok hr1 (by rfl) GW.mg GW.kp GW.bd .nil pass0 (pa_cons (pv 2) (pa_cons (pe_ix ix_tup (pv 0) pe_int (fun _ _ => rfl)) (pa_cons (pe_call GS.ok hr3 (by rfl) GS.mg GS.kp GS.bd .nil pass0 (pa_cons (pe_ix ix_tup (pv 0) pe_int (fun _ _ => rfl)) (pa_cons (pv 2) pa_nil))) pa_nil)))))) pss_nil)
    (pss_cons (ps_if (pt_cmpR op_eq (pe_ix ix_tup (pv 0) pe_int (fun _ _ => rfl)) pe_str (nomark _))
      (pss_cons (ps_set (i := 3) scIScope.nd rfl (.inl rfl) (pe_call GW.ok hr1 (by rfl) GW.mg GW.kp GW.bd .nil pass0 (pa_cons (pv 2) (pa_cons (pe_ix ix_tup (pv 0) pe_int (fun _ _ => rfl)) (pa_cons pe_str pa_nil)))))
      (pss_one (ps_ret (pe_call GW.ok hr1 (by rfl) GW.mg GW.kp GW.bd .nil pass0 (pa_cons (pv 3) (pa_cons (pe_ix ix_tup (pv 0) pe_int (fun _ _ => rfl)) (pa_cons (pe_call GT.ok hr (by rfl) GT.mg GT.kp GT.bd .nil pass0 (pa_cons (pe_ix ix_tup (pv 0) pe_int (fun _ _ => rfl)) (pa_cons (pv 2) pa_nil))) pa_nil))))))) pss_nil)
    (pss_one (ps_ret (pe_call GW.ok hr1 (by rfl) GW.mg GW.kp GW.bd .nil pass0 (pa_cons (pv 2) (pa_cons (pe_ix ix_tup (pv 0) pe_int (fun _ _ => rfl)) (pa_cons (pe_call GT.ok hr (by rfl) GT.mg GT.kp GT.bd .nil pass0 (pa_cons (pe_ix ix_tup (pv 0) pe_int (fun _ _ => rfl)) (pa_cons (pv 2) pa_nil))) pa_nil)))))))), ?_⟩
  have hS2 : ScD H a sc (m + 2) kvs := hS.mono (by omega)
  have inv : (bndD h args = [] ∨ path ≠ [(args.length : Int)]) → sc' = sc := fun z => by
    rcases hsc with ⟨_, e⟩ | ⟨ep, x, a0, b0, s0, ea, _, e⟩ | ⟨ep, y, a0, x, b0, c0, s0, eh, ea, _, e⟩
    · exact e
    · exfalso
      subst ea ep
      rcases z with z | z
      · unfold bndD at z
        have hn : ¬ h = "fold" := by rcases e with ⟨e, _⟩ | ⟨e | e, _⟩ <;> rw [e] <;> decide +kernel
        rw [if_neg hn, if_pos (by rcases e with ⟨e, _⟩ | ⟨e | e, _⟩; exact .inl e; exact .inr (.inl e); exact .inr (.inr e))] at z
        cases z
      · exact z rfl
    · exfalso
      subst ea ep
      rcases z with z | z
      · unfold bndD at z
        rw [if_pos eh] at z
        cases z
      · exact z rfl
  refine ⟨_, rfl, v, c, h, sl, args, rfl, F0, fun b H1 s1 hb => ⟨_, .inr (.inl ⟨_, hb, rfl⟩), ?_⟩⟩
  by_cases hbn : bndD h args = []
  · rw [hbn]
    refine iteT ⟨_, rfl, q a kvs H1 s1 (.inl rfl) ?_⟩
    rw [inv (.inl hbn)]
    exact hS2.up s1
  have eb : (!((bndD h args).map V.str).isEmpty) = true := by
    cases e : bndD h args with
    | nil => exact absurd e hbn
    | cons _ _ => rfl
  rw [eb]
  have la := F0.fm.len
  have na := nods_len args
  refine iteF ⟨_, rfl, _, rfl, v, c, h, sl, args, rfl, F0.up s1, fun b2 H2 s2 hb2 => ⟨.tuple (path.map PyData.int), .tuple ([(args.length : Int)].map PyData.int), .tup (seqT_up (s1.trans s2) hq) (dp_ints path), .tup (.inl (.inl hb2)) (dp_ints [_]), ?_, ?_, _, rfl, ?_⟩⟩
  · exact shaped_of (by simp only [gd]; exact gds_ints hp) (by simp only [PyData.depth, depth_ints]; omega)
  · exact shaped_of (by simp only [gd]; exact gds_ints (by intro i hi; rw [List.mem_singleton] at hi; subst hi; constructor <;> omega)) (by simp only [PyData.depth, depth_ints]; omega)
  have ee : PyData.eqv (.tuple (path.map PyData.int)) (.tuple ([(args.length : Int)].map PyData.int)) = decide (path = [(args.length : Int)]) := by
    simp only [PyData.eqv, eqv_ints]
  rw [ee]
  have s12 := s1.trans s2
  by_cases hpp : path = [(args.length : Int)]
  · rw [decide_eq_true hpp]
    obtain ⟨a1, xs1, rfl, hx, dx⟩ := F0.dp
    have hx2 := seqT_up s12 hx
    have hS12 := hS.up s12
    refine iteF ⟨_, rfl, a1, _, 0, _, rfl, rfl, hx2, atI_nat (j := 0) rfl, rfl, _, rfl, ?_⟩
    rcases hsc with ⟨z, _⟩ | ⟨ep, x, a0, b0, s0, ea, hst, e⟩ | ⟨ep, y, a0, x, b0, c0, s0, eh, ea, hst, e⟩
    · rcases z with z | z
      · exact absurd z hbn
      · exact absurd hpp z
    · subst ea
      obtain ⟨v1, ys, rfl, _, e1, dx⟩ := dpall_cons dx
      obtain ⟨v2, ys, rfl, _, e2, dx⟩ := dpall_cons dx
      cases e1
      have n0 : nod a0 ≤ nods [PyData.str x, a0, b0] := by simp only [nods]; omega
      rcases e with ⟨e, es⟩ | ⟨e, es⟩
      · refine ieT e ⟨_, rfl, _, rfl, a1, _, 1, _, rfl, rfl, hx2, atI_nat (j := 1) rfl, _, rfl, a1, _, 2, _, rfl, rfl, hx2, atI_nat (j := 2) rfl, _, rfl, v2, a, a0, sc, m, kvs, s0, n, rfl, Dp.up s12 _ _ e2, hS12, by omega, rfl, hst, fun H3 s3 => ?_⟩
        refine ⟨a, sc, m, kvs, x, s0, rfl, hS12.up s3, hst.w hS.w, by omega, fun g kv2 H4 s4 hg hS4 => q g kv2 H4 (s12.trans (s3.trans s4)) (.inr ((s12.trans s3).free hg)) ?_⟩
        rw [es]
        exact hS4.mono (by omega)
      · have h1 : ¬ h = "let" := by rcases e with e | e <;> rw [e] <;> decide +kernel
        have h2 : ¬ h = "fold" := by rcases e with e | e <;> rw [e] <;> decide +kernel
        refine ieF h1 ⟨_, rfl, a1, _, 0, _, rfl, rfl, hx2, atI_nat (j := 0) rfl, rfl, _, rfl, ieF h2 ?_⟩
        refine ⟨_, rfl, _, rfl, a1, _, 1, _, rfl, rfl, hx2, atI_nat (j := 1) rfl, _, rfl, a1, _, 2, _, rfl, rfl, hx2, atI_nat (j := 2) rfl, _, rfl, v2, a, a0, sc, m, kvs, s0, rfl, Dp.up s12 _ _ e2, hS12, by omega, hst, fun H3 s3 => ?_⟩
        refine ⟨a, sc, m, kvs, x, prt s0, rfl, hS12.up s3, prt_w _, by omega, fun g kv2 H4 s4 hg hS4 => q g kv2 H4 (s12.trans (s3.trans s4)) (.inr ((s12.trans s3).free hg)) ?_⟩
        rw [es]
        exact hS4.mono (by omega)
    · subst ea
      obtain ⟨v1, ys, rfl, _, e1, dx⟩ := dpall_cons dx
      obtain ⟨v2, ys, rfl, _, e2, dx⟩ := dpall_cons dx
      obtain ⟨v3, ys, rfl, _, e3, dx⟩ := dpall_cons dx
      obtain ⟨v4, ys, rfl, _, e4, dx⟩ := dpall_cons dx
      cases e1
      cases e3
      have n0 : nod b0 ≤ nods [PyData.str y, a0, .str x, b0, c0] := by simp only [nods]; omega
      have h1 : ¬ h = "let" := by rw [eh]; decide +kernel
      refine ieF h1 ⟨_, rfl, a1, _, 0, _, rfl, rfl, hx2, atI_nat (j := 0) rfl, rfl, _, rfl, ieT eh ?_⟩
      refine ⟨_, rfl, _, rfl, a1, _, 1, _, rfl, rfl, hx2, atI_nat (j := 1) rfl, a, sc, m, kvs, y, "", rfl, hS12, .inl rfl, by omega, fun g1 kv1 H3 s3 hg1 hS3 => ?_⟩
      have s123 := s12.trans s3
      have hx3 := seqT_up s3 hx2
      refine ⟨_, rfl, _, rfl, a1, _, 3, _, rfl, rfl, hx3, atI_nat (j := 3) rfl, _, rfl, a1, _, 4, _, rfl, rfl, hx3, atI_nat (j := 4) rfl, _, rfl, v4, a, b0, sc, m, kvs, s0, rfl, Dp.up s123 _ _ e4, hS12.up s3, by omega, hst, fun H4 s4 => ?_⟩
      refine ⟨g1, _, m + 1, kv1, x, prt s0, rfl, hS3.up s4, prt_w _, by omega, fun g kv2 H5 s5 hg hS5 => q g kv2 H5 (s123.trans (s4.trans s5)) (.inr ((s123.trans s4).free hg)) ?_⟩
      rw [e]
      exact hS5
  · rw [decide_eq_false hpp]
    refine iteT ⟨_, rfl, q a kvs H2 s12 (.inl rfl) ?_⟩
    rw [inv (.inr hpp)]
    exact hS2.up s12
end
/-! what is wrong with a call, with a tree: nothing -/
abbrev sWCall : Stmt := topS 26
abbrev sWWord : Stmt := topS 25
theorem scWCall : FnScope ["name", "arguments", "scope", "calls"] ["name", "arguments", "scope", "calls"] (defScope sWCall) := ⟨rfl, rfl, rfl, by decide +kernel, rfl, by decide +kernel, by decide +kernel⟩
theorem scWWord : FnScope ["tree", "wanted", "scope", "taken", "calls", "names", "name"] ["tree", "wanted", "scope", "taken", "calls"] (defScope sWWord) := ⟨rfl, rfl, rfl, by decide +kernel, rfl, by decide +kernel, by decide +kernel⟩
/-- what a body may call -/
structure Cl where
  cn : Str → Option Nat
  own : Option Str
  falls : Option Nat
def ownV : Option Str → V
  | some x => .str x
  | none => .non
def fallV : Option Nat → V
  | some j => .int j
  | none => .non
/-- the class Calls -/
structure CaC (K : PySem.W.Frag) (C : Addr) : Prop where
  cl : Cls K C
  nc : NoAttr K C "counts"
  no : NoAttr K C "own"
  nf : NoAttr K C "falls"
/-- numbers by names -/
def CnD (H : Hp) (a : Addr) (cn : Str → Option Nat) : Prop := ∃ kvs, H a = some (.dK kvs) ∧ ∀ x, valV kvs (Sum.inr x) = (cn x).map fun (n : Nat) => V.int n
structure CallAt (K : PySem.W.Frag) (C : Addr) (H : Hp) (ca : Addr) (cl : Cl) : Prop where
  ex : ∃ dx fs cd, H ca = some (.ins C dx fs) ∧ fs.lookup ("counts" : Str) = some (.ref cd) ∧ fs.lookup ("own" : Str) = some (ownV cl.own) ∧ fs.lookup ("falls" : Str) = some (fallV cl.falls) ∧ CnD H cd cl.cn
theorem CallAt.up {K : PySem.W.Frag} {C : Addr} {H H' : Hp} {ca : Addr} {cl : Cl} (s : Same H H') (h : CallAt K C H ca cl) : CallAt K C H' ca cl := by
  obtain ⟨dx, fs, cd, h1, h2, h3, h4, kvs, h5, h6⟩ := h.ex
  exact ⟨dx, fs, cd, s _ _ h1, h2, h3, h4, kvs, s _ _ h5, h6⟩
/-- names that are taken -/
def TkD (H : Hp) (t : Addr) (T : Str → Bool) : Prop := ∃ kvs, H t = some (.dK kvs) ∧ (∀ x, (valV kvs (Sum.inr x)).isSome = T x)
theorem TkD.up {H H' : Hp} {t : Addr} {T : Str → Bool} (s : Same H H') (h : TkD H t T) : TkD H' t T := by
  obtain ⟨kvs, h1, h2⟩ := h
  exact ⟨kvs, s _ _ h1, h2⟩
/-- a call that is allowed -/
def CallOk (n : Nat) (cl : Cl) (sc : Scp) (x : Str) (es : List PyData) : Prop :=
  cl.cn x = some es.length ∧ (cl.own = some x → ∃ j e, cl.falls = some j ∧ es[j]? = some e ∧ St n sc e "piece")
def spWCall (K : PySem.W.Frag) (C : Addr) (n : Nat) : Sp := fun vs H Q _ => ∃ x b a ca es sc m kvs cl, vs = [.str x, .ref b, .ref a, .ref ca] ∧ Dp K H (.ref b) (.tuple es) ∧ ScD H a sc m kvs ∧ m + nods es ≤ 900 ∧ CallAt K C H ca cl ∧ CallOk n cl sc x es ∧ ∀ H', Same H H' → Q .non H'
/-- what is asked of a tree itself -/
structure WdOk (n : Nat) (cl : Cl) (sc : Scp) (h : Str) (args : List PyData) : Prop where
  nm : h = "name" → ∀ x, args = [.str x] → (sc x).isSome = true
  cl : h = "call" → ∀ x es, args = [.str x, .tuple es] → CallOk n cl sc x es
def spWWord (K : PySem.W.Frag) (C : Addr) (n : Nat) : Sp := fun vs H Q _ => ∃ v c h sl args a t ca sc m kvs T cl, vs = [v, .str (sortS c), .ref a, .ref t, .ref ca] ∧ Fo K H v c h sl args ∧ ScD H a sc m kvs ∧ m + nods args ≤ 900 ∧ TkD H t T ∧ CallAt K C H ca cl ∧
  WdOk n cl sc h args ∧ (∀ x ∈ bndD h args, T x = false) ∧ (bndD h args).Nodup ∧ ∀ H', Same H H' → Q .non H'
theorem and_same {b : Bool} {A B : Prop} (h : b = true → B → A) (x : B) : if b = true then A else B := by
  cases b with
  | true => exact h rfl x
  | false => exact x
theorem sl_name : ∀ p ∈ allL, p.1 = "name" → p.2 = "n" := by decide +kernel
theorem sl_call : ∀ p ∈ allL, p.1 = "call" → p.2 = "ns" := by decide +kernel
theorem shp_name {h sl : Str} {args : List PyData} (m : (h, sl) ∈ allL) (e : h = "name") (fm : FmA sl.cps.toList args) : ∃ x, args = [.str x] := by
  have e2 : sl = "n" := sl_name _ m e
  subst e2
  rw [show ("n" : Str).cps.toList = [110] by decide +kernel] at fm
  match args, fm with
  | [a0], fm =>
    obtain ⟨y, rfl, _⟩ := fm.1
    exact ⟨_, rfl⟩
theorem shp_call {h sl : Str} {args : List PyData} (m : (h, sl) ∈ allL) (e : h = "call") (fm : FmA sl.cps.toList args) : ∃ x es, args = [.str x, .tuple es] := by
  have e2 : sl = "ns" := sl_call _ m e
  subst e2
  rw [show ("ns" : Str).cps.toList = [110, 115] by decide +kernel] at fm
  match args, fm with
  | [a0, a1], fm =>
    obtain ⟨y, rfl, _⟩ := fm.1
    obtain ⟨es, rfl⟩ := fm.2.1
    exact ⟨_, _, rfl⟩
section
variable {P : Program} {w : World} {K : PySem.W.Frag} {mg : Str → Option Value} {base : Heap} {f fB fS fF fC C : Addr} {fd dB dS dF dC : FuncData}
theorem ok_wcall {k n : Nat} (F : Fun K "wrong_call" "wrong_call" sWCall f fd) (mn : mg "len" = none) (CC : CaC K C) (GS : Dn P w K mg base (k + 3) "standing" ["tree", "scope"] (spStand K (n + 1)) fS dS) : FnOk P w K mg base CX0 (k + 4) f fd ["name", "arguments", "scope", "calls"] (spWCall K C n) := by
  refine F.ok scWCall (fun vs H Q E h => ?_) (fun cdv A outer s H vs Q E hr h => ?_)
  · obtain ⟨x, b, a, ca, es, sc, m, kvs, cl, rfl, _⟩ := h
    rfl
  obtain ⟨x, b, a, ca, es, sc, m, kvs, cl, rfl, hd, hS, hm, hca, hok, q⟩ := h
  have hu := hu_of hr
  refine ⟨_, pss_cons (ps_if (pt_cmp (pc_dnotin hu (pv 0) (pe_fld (pv 3) rfl))) (pss_one (ps_ret pe_str)) pss_nil)
    (pss_cons (ps_if (pt_cmpR op_ne (pe_callB call_len_seq (by rfl) mn PySem.boot_len (pa_cons (pv 1) pa_nil)) (pe_dget hu (pe_fld (pv 3) rfl) (pv 0) (fun _ _ => rfl)) (nomark _)) (pss_one (ps_ret pe_str)) pss_nil)
    (pss_cons (ps_if (PW.pt (pw_and (pt_cmpR op_eq (pv 0) (pe_fld (pv 3) rfl) (nomark _)) (pw_and1 (pt_cmpR op_ne (pe_call GS.ok hr (by rfl) GS.mg GS.kp GS.bd .nil pass0 (pa_cons (pe_ix ix_tup (pv 1) (pe_fld (pv 3) rfl) (fun _ _ => rfl)) (pa_cons (pv 2) pa_nil))) pe_str (nomark _))))) (pss_one (ps_ret pe_str)) pss_nil)
    (pss_one (ps_ret pe_non)))), ?_⟩
  obtain ⟨dx, fs, cd, hca1, l1, l2, l3, ckv, hcd, hv⟩ := hca.ex
  obtain ⟨cx, hj⟩ := hok
  obtain ⟨b2, xs, es2, eb, ee, hb, dxs⟩ := tup_of hd rfl
  cases eb
  cases ee
  have lx := DpAll.len dxs
  have hvx := hv x
  rw [cx] at hvx
  have hvx : valV ckv (Sum.inr x) = some (.int (es.length : Nat)) := hvx
  have q2 := q
  have q := q H (Same.refl H)
  refine ⟨_, rfl, _, rfl, ca, C, dx, fs, _, rfl, hca1, CC.cl, CC.nc, l1, cd, _, rfl, DGet.k (k := Sum.inr x) hcd, ?_⟩
  have dg : DGet H cd (V.str x) (some (.int (es.length : Nat))) := by
    have z := DGet.k (k := Sum.inr x) hcd
    rw [hvx] at z
    exact z
  refine ⟨_, rfl, ibF (by rw [hvx]; simp) ?_⟩
  refine ⟨_, rfl, b, _, rfl, .inr hb, _, rfl, ca, C, dx, fs, _, rfl, hca1, CC.cl, CC.nc, l1, _, rfl, cd, _, rfl, dg, rfl, _, rfl, ibF (by rw [lx]; simp) ?_⟩
  by_cases ho : cl.own = some x
  · obtain ⟨j, e, ef, ej, hst⟩ := hj ho
    have l2 : fs.lookup ("own" : Str) = some (.str x) := by rw [l2, ho]; rfl
    have l3 : fs.lookup ("falls" : Str) = some (.int (j : Nat)) := by rw [l3, ef]; rfl
    have hjl : j < xs.length := by rw [lx]; exact (List.getElem?_eq_some_iff.mp ej).1
    obtain ⟨e', he', de⟩ := DpAll.get dxs (List.getElem?_eq_getElem hjl)
    rw [ej] at he'
    cases he'
    have n0 := nods_mem (List.mem_of_getElem? ej)
    refine ⟨_, rfl, _, rfl, ca, C, dx, fs, _, rfl, hca1, CC.cl, CC.no, l2, rfl, _, rfl, ibT (by simp) ?_⟩
    refine ⟨_, rfl, _, rfl, ca, C, dx, fs, _, rfl, hca1, CC.cl, CC.nf, l3, b, _, _, _, rfl, rfl, hb, atI_nat (List.getElem?_eq_getElem hjl), _, rfl, _, a, e, sc, m, kvs, "piece", n, rfl, de, hS, by omega, rfl, hst, fun H2 s2 => ?_⟩
    exact ⟨rfl, _, rfl, ibF (by simp) (q2 H2 s2)⟩
  · refine ⟨_, rfl, _, rfl, ca, C, dx, fs, _, rfl, hca1, CC.cl, CC.no, l2, ?_, _, rfl, ibF ?_ q⟩
    · cases cl.own <;> rfl
    · intro z
      have z := of_decide_eq_true z
      cases e : cl.own with
      | none =>
        rw [e] at z
        cases z
      | some y =>
        rw [e] at z
        cases z
        exact ho e
theorem ok_wword {k n : Nat} (F : Fun K "wrong_word" "wrong_word" sWWord f fd) (mn : mg "len" = none) (ma : mg "any" = none) (GF : Dn P w K mg base 3 "has_form" ["tree", "wanted"] (spHasForm K) fF dF)
    (GB : Dn P w K mg base 1 "names_bound" ["tree"] (spBound K) fB dB) (GC : Dn P w K mg base (k + 4) "wrong_call" ["name", "arguments", "scope", "calls"] (spWCall K C n) fC dC) : FnOk P w K mg base CX0 (k + 5) f fd ["tree", "wanted", "scope", "taken", "calls"] (spWWord K C n) := by
  refine F.ok scWWord (fun vs H Q E h => ?_) (fun cdv A outer s H vs Q E hr h => ?_)
  · obtain ⟨v, c, h, sl, args, a, t, ca, sc, m, kvs, T, cl, rfl, _⟩ := h
    rfl
  obtain ⟨v, c, h, sl, args, a, t, ca, sc, m, kvs, T, cl, rfl, F0, hS, hm, hT, hca, wd, hbn, hbd, q⟩ := h
  have hu := hu_of hr
  have hr3 : Room 3 _ := hr.mono (by omega)
  have hr1 : Room 1 _ := hr.mono (by omega)
  refine ⟨_, pss_cons (ps_if (pt_not (pt_val (pe_call GF.ok hr3 (by rfl) GF.mg GF.kp GF.bd .nil pass0 (pa_cons (pv 0) (pa_cons (pv 1) pa_nil))))) (pss_one (ps_ret pe_str)) pss_nil)
    (pss_cons (ps_if (PW.pt (pw_and (pt_cmpR op_eq (pe_ix ix_tup (pv 0) pe_int (fun _ _ => rfl)) pe_str (nomark _)) (pw_and1 (pt_cmp (pc_dnotin hu (pe_ix ix_tup (pv 0) pe_int (fun _ _ => rfl)) (pv 2)))))) (pss_one (ps_ret pe_str)) pss_nil)
    (pss_cons (ps_set (i := 5) scWWord.nd rfl (.inl rfl) (pe_call GB.ok hr1 (by rfl) GB.mg GB.kp GB.bd .nil pass0 (pa_cons (pv 0) pa_nil)))
    (pss_cons (ps_if (PW.pt (pw_or (pt_val (pe_callB (cr_any rfl) (by rfl) ma (by decide +kernel) (pa_cons (pe_lc (own := [("name", 6)]) (g := gName 6) (by rfl) scWWord.nd (pi_tup (pv 5))
        (blkOk_by (own := [("name", 6)]) (N := ["tree", "wanted", "scope", "taken", "calls", "names", "name"]) (sc := defScope sWWord) (by decide +kernel))
        (fun _ _ _ _ _ => pg_name (i := 6) scWWord.nd rfl (Or.inl rfl)) (fun _ _ _ _ _ => pts_nil) (fun _ _ _ _ _ => pe_cmp (pc_din hu (pv 6) (pv 3)))) pa_nil)))
      (pw_or1 (PW.pt (pw_and (pt_cmpR op_eq (pe_callB call_len_seq (by rfl) mn PySem.boot_len (pa_cons (pv 5) pa_nil)) pe_int (nomark _)) (pw_and1 (pt_cmpR op_eq (pe_ix ix_tup (pv 5) pe_int (fun _ _ => rfl)) (pe_ix ix_tup (pv 5) pe_int (fun _ _ => rfl)) (nomark _)))))))) (pss_one (ps_ret pe_str)) pss_nil)
    (pss_one (ps_ret (pe_ifExp (pt_cmpR op_eq (pe_ix ix_tup (pv 0) pe_int (fun _ _ => rfl)) pe_str (nomark _))
      (pe_call GC.ok hr (by rfl) GC.mg GC.kp GC.bd .nil pass0 (pa_cons (pe_ix ix_tup (pv 0) pe_int (fun _ _ => rfl)) (pa_cons (pe_ix ix_tup (pv 0) pe_int (fun _ _ => rfl)) (pa_cons (pv 2) (pa_cons (pv 4) pa_nil))))) pe_non)))))), ?_⟩
  refine ⟨_, rfl, _, rfl, v, c, h, sl, args, rfl, F0, fun H1 s1 => ⟨_, rfl, iteF ?_⟩⟩
  obtain ⟨a1, xs1, rfl, hx, dx⟩ := F0.dp
  have hx1 := seqT_up s1 hx
  have fm := F0.fm
  have hm0 := F0.mem
  refine ⟨_, rfl, a1, _, 0, _, rfl, rfl, hx1, atI_nat (j := 0) rfl, rfl, _, rfl, and_same (fun e G => ?_) ?_⟩
  · have eh : h = "name" := V.str.inj (of_decide_eq_true e)
    obtain ⟨x, rfl⟩ := shp_name (tblC_all _ hm0) eh fm
    obtain ⟨v1, ys, rfl, _, e1, dx⟩ := dpall_cons dx
    cases e1
    refine ⟨_, rfl, a1, _, 1, _, rfl, rfl, hx1, atI_nat (j := 1) rfl, _, rfl, a, _, rfl, DGet.k (k := Sum.inr x) (hS.up s1).at_, ?_⟩
    have z := wd.nm eh x rfl
    have z2 : (!(valV kvs (Sum.inr x : Key)).isSome) = false := by
      rw [hS.vl x, Option.isSome_map, z]
      rfl
    rw [z2]
    exact ⟨_, rfl, G⟩
  refine iteF ⟨_, rfl, _, c, h, sl, args, rfl, F0.up s1, fun b H2 s2 hb => ?_⟩
  obtain ⟨tkv, hT0, hT1⟩ := hT.up (s1.trans s2)
  have lb : (bndD h args).length ≤ 2 := by
    unfold bndD
    split
    · split <;> simp
    · split
      · split <;> simp
      · simp
  refine ⟨_, rfl, b, rfl, ⟨_, hb⟩, fun D hD => lc_it (walk_tup (K := K) (a := b) (xs := (bndD h args).map V.str)) (fun i H3 => H3 D = some (.lst ((List.replicate i false).map V.bl)) ∧ Same H2 H3) ⟨upd_same, same_new hD _⟩ ?_ ?_ ?_⟩
  · rintro i H3 hi ⟨g1, g2⟩
    exact seqT_up g2 hb
  · rintro i y H3 H4 hi ⟨g1, g2⟩ ⟨rfl, hy⟩
    rw [List.getElem?_map] at hy
    obtain ⟨x, ex, rfl⟩ := Option.map_eq_some_iff.mp hy
    refine ⟨rfl, _, rfl, _, rfl, t, _, rfl, DGet.k (k := Sum.inr x) (g2 _ _ hT0), _, g1, ?_, ?_, ?_⟩
    · rw [List.length_map, List.length_replicate]
      rw [List.length_map] at hi
      exact small1000 (by omega)
    · rw [hT1 x, hbn x (List.mem_of_getElem? ex), upd_same, List.replicate_succ', List.map_append]
      rfl
    · intro b2 o e
      rw [upd_ne (ne_of_none e hD)]
      exact g2 b2 o e
  · rintro H3 ⟨g1, g2⟩
    refine ⟨D, List.replicate ((bndD h args).map V.str).length false, rfl, SqL.of g1, ?_⟩
    have e : (List.replicate ((bndD h args).map V.str).length false).any id = false := by
      rw [List.any_eq_false]
      intro z hz
      rw [List.eq_of_mem_replicate hz]
      exact Bool.false_ne_true
    rw [e]
    have s3 := s1.trans (s2.trans g2)
    have hb3 := seqT_up g2 hb
    refine ⟨_, rfl, iteF ⟨_, rfl, b, _, rfl, .inr hb3, rfl, _, rfl, and_same (fun e2 G => ?_) ?_⟩⟩
    · have e3 : (bndD h args).length = 2 := by
        have z := V.int.inj (of_decide_eq_true e2)
        rw [List.length_map] at z
        omega
      match hbb : bndD h args, e3 with
      | [x, y], _ =>
        rw [hbb] at hb3 hbd
        have nxy : ¬ x = y := by
          intro z
          subst z
          simp at hbd
        refine ⟨_, rfl, b, _, 0, _, rfl, rfl, hb3, atI_nat (j := 0) rfl, _, rfl, b, _, 1, _, rfl, rfl, hb3, atI_nat (j := 1) rfl, rfl, _, rfl, ?_⟩
        rw [decide_eq_false (fun z => nxy (V.str.inj z))]
        exact G
    have hx3 := seqT_up s3 hx
    refine iteF ⟨_, rfl, a1, _, 0, _, rfl, rfl, hx3, atI_nat (j := 0) rfl, rfl, _, rfl, ?_⟩
    by_cases eh : h = "call"
    · obtain ⟨x, es, rfl⟩ := shp_call (tblC_all _ hm0) eh fm
      obtain ⟨v1, ys, rfl, _, e1, dx⟩ := dpall_cons dx
      obtain ⟨v2, ys, rfl, _, e2, dx⟩ := dpall_cons dx
      cases e1
      have de := Dp.up s3 _ _ e2
      obtain ⟨b5, xs5, es5, rfl, ee5, _, _⟩ := tup_of e2 rfl
      have nn : nods es ≤ nods [PyData.str x, .tuple es] := by
        simp only [nods, nod]
        omega
      exact ieT eh ⟨_, rfl, a1, _, 1, _, rfl, rfl, hx3, atI_nat (j := 1) rfl, _, rfl, a1, _, 2, _, rfl, rfl, hx3, atI_nat (j := 2) rfl, _, rfl, _, rfl, x, b5, a, ca, es, sc, m, kvs, cl, rfl, de, hS.up s3, by omega, hca.up s3, wd.cl eh x es rfl, fun H4 s4 => q H4 (s3.trans s4)⟩
    · exact ieF eh (q H3 s3)
end
/-! first_wrong_tree: none is wrong -/
abbrev sFirst : Stmt := topS 24
theorem scFirst : FnScope ["body", "parameters", "calls", "name", "taken", "todo", "tree", "path", "wanted", "scope", "word", "rows", "step", "inner", "sort"] ["body", "parameters", "calls"] (defScope sFirst) := ⟨rfl, rfl, rfl, by decide +kernel, rfl, by decide +kernel, by decide +kernel⟩
/-- a tree in which nothing is wrong: f levels, the names bs bound in it, z trees -/
def Wt (n : Nat) (cl : Cl) : Nat → Scp → Nat → PyData → List Str → Nat → Prop
  | 0, _, _, _, _, _ => False
  | f + 1, sc, c, d, bs, z => ∃ (h sl : Str) (args : List PyData) (rows : List (List Str × Nat)), FoD c d h sl args ∧ WdOk n cl sc h args ∧
      Paired (fun (r : List Str × Nat) (p : List Int × PyData × Nat) => ∃ sc', ScIn n sc h args p.1 sc' ∧ Wt n cl f sc' p.2.2 p.2.1 r.1 r.2) rows (in3 1 sl.cps.toList args) ∧ bs = bndD h args ++ rows.flatMap (·.1) ∧ z = 1 + (rows.map (·.2)).sum
theorem ints_back {K : PySem.W.Frag} {H : Hp} : ∀ {is : List Int} {zs : List V}, DpAll K H zs (is.map PyData.int) → zs = is.map V.int
  | [], _, .nil => rfl
  | _ :: _, _, .cons a t => by
    cases a
    rw [ints_back t]
    rfl
def rCatK (K : PySem.W.Frag) : R2 := fun x y H Q => ∃ a b xs ys, x = .ref a ∧ y = .ref b ∧ SqT K H a xs ∧ SqT K H b ys ∧ xs.length + ys.length ≤ sizeLine ∧ ∀ c H', Same H H' → SqT K H' c (xs ++ ys) → Q (.ref c) H'
theorem op_catK {X : Cx} {K : PySem.W.Frag} (h : X.K = K) : OpR X (binaryOp .Add) (rCatK K) := by
  subst h
  intro pins s σ H x y v u Q I rx ry h
  obtain ⟨a, b, xs, ys, rfl, rfl, ha, hb, hz, q⟩ := h
  have c0 : Same H (cut [] H) := fun b o z => by
    rw [cut_out (by simp)]
    exact z
  exact op_catU pins s σ H _ _ v u Q I rx ry ⟨a, b, xs, ys, [], rfl, rfl, seqT_up c0 ha, seqT_up c0 hb, (fun _ z => nomatch z), hz, fun c H' s1 hc => q c H' s1 (seqT_cut hc)⟩
/-- a tree that is to be looked at -/
structure Itm where
  d : PyData
  c : Nat
  sc : Scp
  bs : List Str
  z : Nat
def ItA (K : PySem.W.Frag) (n : Nat) (cl : Cl) (X : List Addr) (H : Hp) (t : Addr) (it : Itm) : Prop := ∃ v pa sa m kvs ps f, H t = some (.tup [v, .ref pa, .str (sortS it.c), .ref sa]) ∧ Dp K H v it.d ∧ Dp K H (.ref pa) (.tuple (ps.map PyData.int)) ∧ PathOk ps ∧ ps.length + 2 * f ≤ 900 ∧
  ScD H sa it.sc m kvs ∧ sa ∉ X ∧ m + 2 * f + nod it.d ≤ 890 ∧ nl it.d = true ∧ Wt n cl f it.sc it.c it.d it.bs it.z
theorem nls_ints : ∀ is : List Int, nls (is.map PyData.int) = true
  | [] => by simp only [List.map_nil, nls]
  | _ :: is => by simp only [List.map_cons, nls, nl, nls_ints is, Bool.and_self]
theorem ItA.off {K : PySem.W.Frag} {n : Nat} {cl : Cl} {X l : List Addr} {H H' : Hp} {t : Addr} {it : Itm} (h : ItA K n cl X H t it) (hl : NT l H) (hx : ∀ b ∈ l, b ∈ X ∨ ∀ kvs, H b ≠ some (.dK kvs)) (o : Off l H H') : ItA K n cl X H' t it := by
  obtain ⟨v, pa, sa, m, kvs, ps, f, h1, h2, h3, h4, h5, h6, h7, h8, h9, h10⟩ := h
  refine ⟨v, pa, sa, m, kvs, ps, f, o.get h1 (fun z => hl t z _ (.inl h1)), Dp.off h2 hl h9 o, Dp.off h3 hl (by simp only [nl]; exact nls_ints ps) o, h4, h5, ?_, h7, h8, h9, h10⟩
  refine ⟨o.get h6.at_ (fun z => ?_), h6.ks, h6.nd, h6.vl, h6.le, h6.w⟩
  rcases hx sa z with e | e
  · exact h7 e
  · exact e _ h6.at_
/-- the trees on the pile -/
def Pil (K : PySem.W.Frag) (n : Nat) (cl : Cl) (X : List Addr) (H : Hp) (ts : List Addr) (its : List Itm) : Prop := Paired (fun t it => ItA K n cl X H t it) ts its
theorem Pil.off {K : PySem.W.Frag} {n : Nat} {cl : Cl} {X l : List Addr} {H H' : Hp} {ts : List Addr} {its : List Itm} (h : Pil K n cl X H ts its) (hl : NT l H) (hx : ∀ b ∈ l, b ∈ X ∨ ∀ kvs, H b ≠ some (.dK kvs)) (o : Off l H H') : Pil K n cl X H' ts its :=
  paired_mono (fun _ _ z => z.off hl hx o) h
theorem Wt.z1 {n : Nat} {cl : Cl} {f : Nat} {sc : Scp} {c : Nat} {d : PyData} {bs : List Str} {z : Nat} (h : Wt n cl f sc c d bs z) : 1 ≤ z := by
  cases f with
  | zero => exact h.elim
  | succ f =>
    obtain ⟨_, _, _, _, _, _, _, _, e⟩ := h
    omega
theorem Wt.pos {n : Nat} {cl : Cl} {f : Nat} {sc : Scp} {c : Nat} {d : PyData} {bs : List Str} {z : Nat} (h : Wt n cl f sc c d bs z) : ∃ g, f = g + 1 := by
  cases f with
  | zero => exact h.elim
  | succ f => exact ⟨f, rfl⟩
theorem in3Slot_ok (k c : Nat) (d : PyData) (hk : k < 1000) (hd : nod d ≤ 901) : ∀ p ∈ in3Slot k c d, PathOk p.1 ∧ nod p.2.1 ≤ nod d ∧ (nl d = true → nl p.2.1 = true) ∧ p.1.length ≤ 2 := by
  intro p hp
  obtain ⟨q, hq, rfl⟩ := List.mem_map.mp hp
  unfold inSlot at hq
  split at hq
  · cases d with
    | tuple es =>
      obtain ⟨r, hr, rfl⟩ := List.mem_map.mp hq
      obtain ⟨j, hj⟩ := List.mem_iff_getElem?.mp hr
      rw [List.getElem?_zipIdx] at hj
      obtain ⟨x, hx, e⟩ := Option.map_eq_some_iff.mp hj
      subst e
      have hm := List.mem_of_getElem? hx
      have h1 := nods_mem hm
      have h2 := nods_len es
      have h3 := (List.getElem?_eq_some_iff.mp hx).1
      simp only [nod] at hd
      refine ⟨?_, by simp only [nod]; omega, fun z => nls_mem (by simpa only [nl] using z) hm, by simp⟩
      intro i hi
      simp only [List.mem_cons, List.not_mem_nil, or_false] at hi
      rcases hi with rfl | rfl <;> constructor <;> omega
    | none => simp at hq
    | bool _ => simp at hq
    | int _ => simp at hq
    | str _ => simp at hq
    | list _ => simp at hq
    | dict _ => simp at hq
  · split at hq
    · rw [List.mem_singleton] at hq
      subst hq
      refine ⟨?_, Nat.le_refl _, fun z => z, by simp⟩
      intro i hi
      rw [List.mem_singleton] at hi
      subst hi
      constructor <;> omega
    · cases hq
theorem in3_ok : ∀ (k : Nat) (cs : List Nat) (ds : List PyData), k + cs.length < 1000 → nods ds ≤ 900 → ∀ p ∈ in3 k cs ds, PathOk p.1 ∧ nod p.2.1 ≤ nods ds ∧ (nls ds = true → nl p.2.1 = true) ∧ p.1.length ≤ 2
  | k, c :: cs, d :: ds, hk, hd, p, hp => by
    simp only [nods] at hd
    rw [List.length_cons] at hk
    rcases List.mem_append.mp (show p ∈ in3Slot k c d ++ in3 (k + 1) cs ds from hp) with hp | hp
    · obtain ⟨a1, a2, a3, a4⟩ := in3Slot_ok k c d (by omega) (by omega) p hp
      exact ⟨a1, by simp only [nods]; omega, fun z => a3 (by simp only [nls, Bool.and_eq_true] at z; exact z.1), a4⟩
    · obtain ⟨a1, a2, a3, a4⟩ := in3_ok (k + 1) cs ds (by omega) (by omega) p hp
      exact ⟨a1, by simp only [nods]; omega, fun z => a3 (by simp only [nls, Bool.and_eq_true] at z; exact z.2), a4⟩
  | k, [], ds, _, _, p, hp => by simp [in3] at hp
  | k, _ :: _, [], _, _, p, hp => by simp [in3] at hp
def TkL (H : Hp) (t : Addr) (T : Str → Bool) (L : Nat) : Prop := ∃ kvs, H t = some (.dK kvs) ∧ (∀ x, (valV kvs (Sum.inr x)).isSome = T x) ∧ kvs.length ≤ L
theorem TkL.tk {H : Hp} {t : Addr} {T : Str → Bool} {L : Nat} (h : TkL H t T L) : TkD H t T := by
  obtain ⟨kvs, h1, h2, _⟩ := h
  exact ⟨kvs, h1, h2⟩
theorem TkL.up {H H' : Hp} {t : Addr} {T : Str → Bool} {L : Nat} (s : Same H H') (h : TkL H t T L) : TkL H' t T L := by
  obtain ⟨kvs, h1, h2, h3⟩ := h
  exact ⟨kvs, s _ _ h1, h2, h3⟩
theorem valV_mapT (kvs : List (Key × V)) (k : Key) : (valV (kvs.map fun p => (p.1, V.bl true)) k).isSome = (valV kvs k).isSome := by
  induction kvs with
  | nil => rfl
  | cons p kvs ih =>
    simp only [valV, List.map_cons, List.find?_cons] at ih ⊢
    cases h : decide (p.1 = k)
    · exact ih
    · rfl
theorem same_off {H H2 H3 : Hp} {l : List Addr} (s : Same H H2) (hl : ∀ b ∈ l, H b = none) (o : Off l H2 H3) : Same H H3 := fun b u z => o.get (s _ _ z) fun m => by
  rw [hl b m] at z
  cases z
theorem paired_last {α β : Type} {F : α → β → Prop} : ∀ {xs : List α} {ys : List β}, Paired F xs ys → xs ≠ [] → ∃ xs2 x ys2 y, xs = xs2 ++ [x] ∧ ys = ys2 ++ [y] ∧ Paired F xs2 ys2 ∧ F x y
  | _, _, .nil, h => absurd rfl h
  | _, _, .cons (a := a) (b := b) (l₁ := xs) (l₂ := ys) h t, _ => by
    by_cases e : xs = []
    · subst e
      cases t
      exact ⟨[], a, [], b, rfl, rfl, .nil, h⟩
    · obtain ⟨xs2, x, ys2, y, rfl, rfl, t2, h2⟩ := paired_last t e
      exact ⟨a :: xs2, x, b :: ys2, y, rfl, rfl, .cons h t2, h2⟩
theorem seqT_off {K : PySem.W.Frag} {l : List Addr} {H H' : Hp} {a : Addr} {xs : List V} (hl : NT l H) (o : Off l H H') (h : SqT K H a xs) : SqT K H' a xs := by
  rcases h with (h | ⟨d, h⟩) | h
  · exact .inl (.inl (o.get h fun z => hl _ z _ (.inl h)))
  · exact .inl (.inr ⟨d, o.get h fun z => hl _ z _ (.inr ⟨d, h⟩)⟩)
  · exact .inr h
theorem rows_itm {n : Nat} {cl : Cl} {f : Nat} {sc : Scp} {h : Str} {args : List PyData} : ∀ {rows : List (List Str × Nat)} {ks : List (List Int × PyData × Nat)}, Paired (fun (r : List Str × Nat) (p : List Int × PyData × Nat) => ∃ sc', ScIn n sc h args p.1 sc' ∧ Wt n cl f sc' p.2.2 p.2.1 r.1 r.2) rows ks →
    ∃ its : List Itm, its.flatMap (·.bs) = rows.flatMap (·.1) ∧ its.map (·.z) = rows.map (·.2) ∧ its.length = ks.length ∧ ∀ (j : Nat) (p : List Int × PyData × Nat), ks[j]? = some p → ∃ it : Itm, its[j]? = some it ∧ it.d = p.2.1 ∧ it.c = p.2.2 ∧ ScIn n sc h args p.1 it.sc ∧ Wt n cl f it.sc it.c it.d it.bs it.z
  | _, _, .nil => ⟨[], rfl, rfl, rfl, fun j p e => by simp at e⟩
  | _, _, .cons (a := r) (b := p) hh t => by
    obtain ⟨its, h1, h2, h3, h4⟩ := rows_itm t
    obtain ⟨sc', i1, i2⟩ := hh
    refine ⟨⟨p.2.1, p.2.2, sc', r.1, r.2⟩ :: its, ?_, ?_, ?_, fun j q e => ?_⟩
    · rw [List.flatMap_cons, List.flatMap_cons, h1]
    · rw [List.map_cons, List.map_cons, h2]
    · rw [List.length_cons, List.length_cons, h3]
    · cases j with
      | zero =>
        have e : some p = some q := by simpa using e
        cases e
        exact ⟨_, rfl, rfl, rfl, i1, i2⟩
      | succ j => exact h4 j q (by simpa using e)
theorem paired_rev {α β : Type} {F : α → β → Prop} : ∀ {xs : List α} {ys : List β}, Paired F xs ys → Paired F xs.reverse ys.reverse
  | _, _, .nil => .nil
  | _, _, .cons (a := a) (b := b) h t => by
    rw [List.reverse_cons, List.reverse_cons]
    exact paired_app (paired_rev t) (.cons h .nil)
def spFirst (K : PySem.W.Frag) (C : Addr) (n : Nat) : Sp := fun vs H Q _ => ∃ v a ca d sc m kvs cl f bs z, vs = [v, .ref a, .ref ca] ∧ Dp K H v d ∧ nl d = true ∧ ScD H a sc m kvs ∧ m + 2 * f + nod d ≤ 890 ∧ f ≤ 400 ∧ CallAt K C H ca cl ∧ Wt n cl f sc 101 d bs z ∧ z ≤ 900 ∧
  bs.Nodup ∧ (∀ x ∈ bs, sc x = none) ∧ ∀ H', Same H H' → Q .non H'
section
variable {P : Program} {w : World} {K : PySem.W.Frag} {mg : Str → Option Value} {base : Heap} {f fB fI fW fS C : Addr} {fd dB dI dW dS : FuncData}
theorem ok_first {k n : Nat} (F : Fun K "first_wrong_tree" "first_wrong_tree" sFirst f fd) (GB : Dn P w K mg base 1 "names_bound" ["tree"] (spBound K) fB dB) (GI : Dn P w K mg base 3 "inner_trees" ["tree"] (spInner K) fI dI)
    (GW : Dn P w K mg base (k + 5) "wrong_word" ["tree", "wanted", "scope", "taken", "calls"] (spWWord K C n) fW dW) (GS : Dn P w K mg base (k + 5) "inner_scope" ["tree", "step", "scope"] (spIScope K n) fS dS) : FnOk P w K mg base CX0 (k + 6) f fd ["body", "parameters", "calls"] (spFirst K C n) := by
  refine F.ok scFirst (fun vs H Q E h => ?_) (fun cdv A outer s H vs Q E hr h => ?_)
  · obtain ⟨v, a, ca, d, sc, m, kvs, cl, f0, bs, z, rfl, _⟩ := h
    rfl
  obtain ⟨v, a, ca, d, sc, m, kvs, cl, f0, bs, z, rfl, hd, hnl, hS, hm, hf0, hca, hw, hz, hbs, hsc, q⟩ := h
  have hu := hu_of hr
  have hr3 : Room 3 _ := hr.mono (by omega)
  have hr1 : Room 1 _ := hr.mono (by omega)
  refine ⟨_, pss_cons (ps_lock (ps_setDc (i := 4) (own := [("name", 3)]) (g := gName 3) (by rfl) scFirst.nd rfl rfl (sw_dict rfl rfl rfl (by decide +kernel)) (pi_keys (pv 1))
        (blkOk_by (own := [("name", 3)]) (N := ["body", "parameters", "calls", "name", "taken", "todo", "tree", "path", "wanted", "scope", "word", "rows", "step", "inner", "sort"]) (sc := defScope sFirst) (by decide +kernel))
        (fun _ _ _ _ _ => pg_name (i := 3) scFirst.nd rfl (Or.inl rfl)) (fun _ _ _ _ _ => pts_nil) (fun _ _ _ _ _ => pv 3) (fun _ _ _ _ _ => pe_bl)))
    (pss_cons (ps_set (i := 5) scFirst.nd rfl (.inl rfl) (pe_lst (pa_cons (pe_tup (pa_cons (pv 0) (pa_cons (pe_tup pa_nil) (pa_cons pe_str (pa_cons (pv 1) pa_nil))))) pa_nil)))
    (pss_cons (ps_while PassesOwn.never (pt_truth (pv 5) (by intro _; rfl))
      (pss_cons (ps_asg (pe_bm0 PySem.F.plainAttrs_list PySem.F.slot_list_pop PySem.F.type_list_pop mt_pop (pv 5)) (pg_tup (by rfl) (pgs_cons (pg_name (i := 6) scFirst.nd rfl (.inl rfl)) (pgs_cons (pg_name (i := 7) scFirst.nd rfl (.inl rfl)) (pgs_cons (pg_name (i := 8) scFirst.nd rfl (.inl rfl)) (pgs_cons (pg_name (i := 9) scFirst.nd rfl (.inl rfl)) pgs_nil))))))
      (pss_cons (ps_set (i := 10) scFirst.nd rfl (.inl rfl) (pe_call GW.ok hr (by rfl) GW.mg GW.kp GW.bd .nil pass0 (pa_cons (pv 6) (pa_cons (pv 8) (pa_cons (pv 9) (pa_cons (pv 4) (pa_cons (pv 2) pa_nil)))))))
      (pss_cons (ps_if (pt_cmpR op_notN (pv 10) pe_non rfl) (pss_one (ps_ret (pe_tup (pa_cons (pv 10) (pa_cons (pv 7) pa_nil))))) pss_nil)
      (pss_cons (ps_for PassesOwn.never rfl (pi_tup (pe_call GB.ok hr1 (by rfl) GB.mg GB.kp GB.bd .nil pass0 (pa_cons (pv 6) pa_nil))) (pg_name (i := 3) scFirst.nd rfl (.inl rfl)) (pss_one (ps_dput hu (pv 4) (pv 3) pe_bl rfl)))
      (pss_cons (ps_set (i := 11) scFirst.nd rfl (.inl rfl) (pe_lst pa_nil))
      (pss_cons (ps_for PassesOwn.never rfl (pi_list (pe_call GI.ok hr3 (by rfl) GI.mg GI.kp GI.bd .nil pass0 (pa_cons (pv 6) pa_nil))) (pg_tup (by rfl) (pgs_cons (pg_name (i := 12) scFirst.nd rfl (.inl rfl)) (pgs_cons (pg_name (i := 13) scFirst.nd rfl (.inl rfl)) (pgs_cons (pg_name (i := 14) scFirst.nd rfl (.inl rfl)) pgs_nil))))
        (pss_one (ps_expr (pe_bm PySem.F.plainAttrs_list PySem.F.slot_list_append PySem.F.type_list_append mt_append (pv 11) (pa_cons (pe_tup (pa_cons (pv 13) (pa_cons (pe_op (op_catK rfl) (pv 7) (pv 12)) (pa_cons (pv 14) (pa_cons (pe_call GS.ok hr (by rfl) GS.mg GS.kp GS.bd .nil pass0 (pa_cons (pv 6) (pa_cons (pv 12) (pa_cons (pv 9) pa_nil)))) pa_nil))))) pa_nil)))))
      (pss_one (ps_expr (pe_bm PySem.F.plainAttrs_list PySem.F.slot_list_extend PySem.F.type_list_extend mt_extend (pv 5) (pa_cons (pe_revL (pv 11)) pa_nil)))))))))))
    (pss_one (ps_ret pe_non)))), ?_⟩
  have nd := hS.nd
  have hle := hS.le
  refine ⟨a, .dK kvs, hS.at_, trivial, fun od => ⟨_, rfl, a, od, rfl, .inl ⟨kvs, upd_same, fun tk htk => dc_it (walk_keys (d := a) (o := od)) (fun i H2 => H2 = upd (upd H a (.frz od (.dK kvs))) tk (.dK ((kvs.take i).map fun p => (p.1, V.bl true)))) rfl ?_ ?_ ?_⟩⟩⟩
  · rintro i H2 hi rfl
    rw [upd_ne (ne_of_none upd_same htk), upd_same]
  · rintro i y H2 H3 hi rfl ⟨rfl, kk, vv, hkv, rfl⟩
    refine ⟨rfl, _, rfl, (kvs.take i).map fun p => (p.1, V.bl true), kk, rfl, upd_same, few1 (by rw [List.length_map, List.length_take]; omega), ?_⟩
    rw [upd_twice, putK_new, get_take hkv, List.map_append]
    · rfl
    · intro p hp
      obtain ⟨p0, hp0, rfl⟩ := List.mem_map.mp hp
      exact take_fresh nd hkv p0 hp0
  rintro H2 rfl
  have naD : a ≠ tk := ne_of_none upd_same htk
  have hD0 : H tk = none := by
    rw [upd_ne naD.symm] at htk
    exact htk
  refine ⟨by rw [upd_ne naD, upd_same], ?_⟩
  have eH : upd (upd (upd H a (.frz od (.dK kvs))) tk (.dK ((kvs.take kvs.length).map fun p => (p.1, V.bl true)))) a (.dK kvs) = upd H tk (.dK (kvs.map fun p => (p.1, V.bl true))) := by
    rw [List.take_length]
    funext c
    by_cases e1 : c = a
    · rw [e1, upd_same, upd_ne naD, hS.at_]
    · by_cases e2 : c = tk
      · rw [e2, upd_ne naD.symm, upd_same, upd_same]
      · rw [upd_ne e1, upd_ne e2, upd_ne e1, upd_ne e2]
  rw [eH]
  have s1 : Same H (upd H tk (.dK (kvs.map fun p => (p.1, V.bl true)))) := same_new hD0 _
  have tk1 : TkL (upd H tk (.dK (kvs.map fun p => (p.1, V.bl true)))) tk (fun x => (sc x).isSome) 900 := ⟨_, upd_same, fun x => by rw [valV_mapT, hS.vl x, Option.isSome_map], by rw [List.length_map]; omega⟩
  generalize hH1 : upd H tk (.dK (kvs.map fun p => (p.1, V.bl true))) = H1 at *
  refine ⟨_, rfl, few (by simp), fun PA hPA => ⟨_, rfl, few (by simp), fun T0 hT0 => ⟨few (by simp), fun TD hTD => ?_⟩⟩⟩
  have s2 : Same H1 (upd H1 PA (.tup [])) := same_new hPA _
  have s3 := s2.trans (same_new (o := .tup [v, .ref PA, .str "expression", .ref a]) hT0)
  have s4 := s3.trans (same_new (o := .lst [.ref T0]) hTD)
  have hT4 : (upd (upd (upd H1 PA (.tup [])) T0 (.tup [v, .ref PA, .str "expression", .ref a])) TD (.lst [.ref T0])) T0 = some (.tup [v, .ref PA, .str "expression", .ref a]) := same_new hTD _ _ _ upd_same
  have hP4 : (upd (upd (upd H1 PA (.tup [])) T0 (.tup [v, .ref PA, .str "expression", .ref a])) TD (.lst [.ref T0])) PA = some (.tup []) := same_new hTD _ _ _ (same_new hT0 _ _ _ upd_same)
  have hD4 : (upd (upd (upd H1 PA (.tup [])) T0 (.tup [v, .ref PA, .str "expression", .ref a])) TD (.lst [.ref T0])) TD = some (.lst [.ref T0]) := upd_same
  have hTD0 : H TD = none := (s1.trans s3).free hTD
  have tk4 := tk1.up s4
  have s14 := s1.trans s4
  generalize upd (upd (upd H1 PA (.tup [])) T0 (.tup [v, .ref PA, .str "expression", .ref a])) TD (.lst [.ref T0]) = HH at s4 hT4 hP4 hD4 tk4 s14
  have fr : ∀ b ∈ [TD, tk], H b = none := fun b hb => by
    simp only [List.mem_cons, List.not_mem_nil, or_false] at hb
    rcases hb with rfl | rfl
    · exact hTD0
    · exact hD0
  have naT : a ≠ TD := ne_of_none hS.at_ hTD0
  refine ⟨fun mm σ H2 => ∃ (ts : List Addr) (its : List Itm) (o3 o6 o7 o8 o9 o10 o11 o12 o13 o14 : Option V) (T : Str → Bool), σ = [some v, some (.ref a), some (.ref ca), o3, some (.ref tk), some (.ref TD), o6, o7, o8, o9, o10, o11, o12, o13, o14] ∧
      Same H H2 ∧ H2 TD = some (.lst (ts.map V.ref)) ∧ TkL H2 tk T (900 + 2 * (z - mm)) ∧ mm ≤ z ∧ Pil K n cl [TD, tk] H2 ts its ∧ mm = (its.map (·.z)).sum ∧ (its.flatMap (·.bs)).Nodup ∧ ∀ x ∈ its.flatMap (·.bs), T x = false,
    ⟨z, [T0], [⟨d, 101, sc, bs, z⟩], none, none, none, none, none, none, none, none, none, none, _, rfl, s14, hD4, by rw [Nat.sub_self]; exact tk4, Nat.le_refl _,
      .cons ⟨v, PA, a, m, kvs, [], f0, hT4, Dp.up s14 _ _ hd, .tup (.inl (.inl hP4)) .nil, (fun i hi => absurd hi List.not_mem_nil), by show 0 + 2 * f0 ≤ 900; omega, hS.up s14, by simp [naT, naD], hm, hnl, hw⟩ .nil, by simp, by simpa using hbs,
      fun x hx => by rw [hsc x (by simpa using hx)]; rfl⟩, ?_⟩
  rintro mm σ H2 ⟨ts, its, o3, o6, o7, o8, o9, o10, o11, o12, o13, o14, T, rfl, sm, hx, htk2, hmz, pil, em, nds, nots⟩
  refine ⟨_, rfl, _, .inl ⟨_, SqL.of hx, rfl⟩, ?_⟩
  by_cases ex : ts = []
  · subst ex
    exact iteF (q H2 sm)
  rw [show (!(ts.map V.ref).isEmpty) = true by cases ts with | nil => exact absurd rfl ex | cons _ _ => rfl]
  refine iteT ?_
  obtain ⟨ts2, t, its2, it, rfl, rfl, pil2, hit⟩ := paired_last pil ex
  obtain ⟨v', pa, sa, m', kvs', ps, f', ht1, ht2, ht3, ht4, ht5, ht6, ht7, ht8, ht9, ht10⟩ := hit
  rw [List.map_append, show [t].map V.ref = [V.ref t] from rfl] at hx
  refine ⟨_, fun _ _ h => h, ?_⟩
  refine ⟨_, rfl, .inl ⟨rfl, _, SqL.of hx⟩, TD, _, _, rfl, rfl, hx, last_at _ _, ?_⟩
  rw [drop_last]
  have ntl : NT [TD, tk] H2 := by
    obtain ⟨tkv, e1, _⟩ := htk2
    exact .cons (nt_lst hx) (.cons (nt_dk e1) .nil)
  have inl : ∀ {H : Hp}, ∀ b ∈ [TD, tk], b ∈ [TD, tk] ∨ ∀ kvs, H b ≠ some (.dK kvs) := fun b hb => .inl hb
  have ntd : ∀ xs, H2 TD ≠ some (.tup xs) := fun xs e => by
    rw [hx] at e
    cases e
  have nTk : TD ≠ tk := fun e => by
    obtain ⟨tkv, e1, _⟩ := htk2
    rw [← e, hx] at e1
    cases e1
  have o3' : Off [TD, tk] H2 (upd H2 TD (.lst (ts2.map V.ref))) := Off.put (by simp)
  have sm3 := same_off sm fr o3'
  have pil3 : Pil K n cl [TD, tk] _ ts2 its2 := Pil.off pil2 ntl inl o3'
  have htk3 : TkL (upd H2 TD (.lst (ts2.map V.ref))) tk T (900 + 2 * (z - mm)) := by
    obtain ⟨tkv, e1, e2, e3⟩ := htk2
    exact ⟨tkv, by rw [upd_ne nTk.symm]; exact e1, e2, e3⟩
  have hx3 : (upd H2 TD (.lst (ts2.map V.ref))) TD = some (.lst (ts2.map V.ref)) := upd_same
  have ht1 := o3'.get ht1 (fun z => ntl t z _ (.inl ht1))
  have ht2 := Dp.off ht2 ntl ht9 o3'
  have ht3 := Dp.off ht3 ntl (by simp only [nl]; exact nls_ints ps) o3'
  have ht6 : ScD (upd H2 TD (.lst (ts2.map V.ref))) sa it.sc m' kvs' := ⟨o3'.get ht6.at_ ht7, ht6.ks, ht6.nd, ht6.vl, ht6.le, ht6.w⟩
  generalize upd H2 TD (.lst (ts2.map V.ref)) = H3 at *
  refine ⟨t, _, rfl, .inl (.inl ht1), rfl, _, _, rfl, _, _, rfl, _, _, rfl, _, _, rfl, rfl, ?_⟩
  obtain ⟨f1, rfl⟩ := ht10.pos
  obtain ⟨h, sl, args, rows, fo, wd, prw, ebs, ez⟩ := ht10
  have F0 := fo.fo ht2
  have hca3 := hca.up sm3
  have nna : nod it.d = 2 + nods args := by
    rw [fo.e]
    simp only [nod, nods]
    omega
  have bsm : it.bs ∈ [it.bs] := List.mem_singleton.mpr rfl
  rw [List.flatMap_append, show [it].flatMap (·.bs) = it.bs by simp] at nds nots
  have ndi : it.bs.Nodup := (List.nodup_append.mp nds).2.1
  rw [ebs] at ndi
  refine ⟨_, rfl, _, rfl, _, rfl, _, rfl, _, rfl, v', it.c, h, sl, args, sa, tk, ca, it.sc, m', kvs', T, cl, rfl, F0, ht6, by omega, htk3.tk, hca3, wd, fun x hx2 => nots x (List.mem_append_right _ (by rw [ebs]; exact List.mem_append_left _ hx2)), (List.nodup_append.mp ndi).1, fun H4 s4' => ?_⟩
  refine ⟨_, rfl, rfl, _, rfl, iteF ?_⟩
  refine ⟨_, rfl, v', it.c, h, sl, args, rfl, F0.up s4', fun b H5 s5 hb => ⟨b, rfl, ⟨_, hb⟩, ?_⟩⟩
  have s45 := s4'.trans s5
  have htk5 := htk3.up s45
  have hx5 := s45 _ _ hx3
  have sm5 := sm3.trans s45
  have lb : (bndD h args).length ≤ 2 := by
    unfold bndD
    split
    · split <;> simp
    · split
      · split <;> simp
      · simp
  have ntl5 : NT [TD, tk] H5 := by
    obtain ⟨tkv, e1, _⟩ := htk5
    exact .cons (nt_lst hx5) (.cons (nt_dk e1) .nil)
  refine for_it (walk_tup (K := K) (a := b) (xs := (bndD h args).map V.str)) (fun i σ H6 => ∃ o3, σ = [some v, some (.ref a), some (.ref ca), o3, some (.ref tk), some (.ref TD), some v', some (.ref pa), some (.str (sortS it.c)), some (.ref sa), some .non, o11, o12, o13, o14] ∧
      TkL H6 tk (fun x => T x || decide (x ∈ (bndD h args).take i)) (900 + 2 * (z - mm) + i) ∧ Off [tk] H5 H6) ⟨o3, rfl, by simpa using htk5, Off.refl _ _⟩ ?_ ?_ ?_
  · rintro i σ H6 hi ⟨o3, rfl, g1, g2⟩
    have nk : NT [tk] H5 := fun c hc => ntl5 c (List.mem_cons_of_mem _ hc)
    exact seqT_off nk g2 hb
  · rintro i y σ H6 H7 hi ⟨o3, rfl, g1, g2⟩ ⟨rfl, hy⟩
    rw [List.getElem?_map] at hy
    obtain ⟨x, ex2, rfl⟩ := Option.map_eq_some_iff.mp hy
    obtain ⟨tkv, e1, e2, e3⟩ := g1
    rw [List.length_map] at hi
    refine ⟨_, rfl, _, rfl, tk, _, rfl, DPut.k (k := Sum.inr x) e1 (Nat.lt_of_le_of_lt (show tkv.length ≤ 5000 by omega) (by decide)), ?_⟩
    refine ⟨_, rfl, ⟨_, upd_same, fun y => ?_, ?_⟩, g2.trans (Off.put (by simp))⟩
    · rw [valV_put, get_take ex2]
      by_cases e : y = x
      · subst e
        rw [if_pos rfl]
        simp
      · rw [if_neg (fun z => e (Sum.inr.inj z)), e2 y]
        simp [e]
    · rcases putK_keys (kvs := tkv) (k := Sum.inr x) (v := .bl true) with ⟨e4, _⟩ | ⟨e4, _⟩
      · have e5 := congrArg List.length e4
        rw [List.length_map, List.length_map] at e5
        omega
      · rw [e4, List.length_append, List.length_singleton]
        omega
  rintro σ H6 ⟨o3, rfl, g1, g2⟩
  have ntl3 : NT [TD, tk] H3 := by
    obtain ⟨tkv, e1, _⟩ := htk3
    exact .cons (nt_lst hx3) (.cons (nt_dk e1) .nil)
  have o36 : Off [TD, tk] H3 H6 := (Off.of s45).trans (g2.mono fun b hb => List.mem_cons_of_mem _ hb)
  have pil6 : Pil K n cl [TD, tk] H6 ts2 its2 := Pil.off pil3 ntl3 inl o36
  have hx6 : H6 TD = some (.lst (ts2.map V.ref)) := g2.get hx5 (by simpa using nTk)
  have sm6 := same_off sm3 fr o36
  have nl3 : nl (.tuple (ps.map PyData.int)) = true := by simp only [nl]; exact nls_ints ps
  have dt6 := Dp.off ht2 ntl3 ht9 o36
  have dp6 := Dp.off ht3 ntl3 nl3 o36
  have sc6 : ScD H6 sa it.sc m' kvs' := ⟨o36.get ht6.at_ ht7, ht6.ks, ht6.nd, ht6.vl, ht6.le, ht6.w⟩
  rw [List.length_map, List.take_length] at g1
  refine ⟨by decide, fun R hR => ?_⟩
  have s7 : Same H6 (upd H6 R (.lst [])) := same_new hR _
  have hR7 : (upd H6 R (.lst [])) R = some (.lst []) := upd_same
  generalize upd H6 R (.lst []) = H7 at s7 hR7
  obtain ⟨a1, xs1, rfl, hxa, dxa⟩ := (fo.fo (Dp.up s7 _ _ dt6)).dp
  refine ⟨_, rfl, a1, h, sl, xs1, args, rfl, hxa, dxa, fo.na, tblC_all _ fo.mem, fo.fm.sh, fun L ts' H8 s8 hL h8 inn => ⟨L, rfl, ⟨_, SqL.of h8⟩, ?_⟩⟩
  obtain ⟨kit, k1, k2, k3, k4⟩ := rows_itm prw
  have s68 := s7.trans s8
  have hR8 := s8 _ _ hR7
  have nLR : L ≠ R := fun e => by
    rw [e, hR7] at hL
    cases hL
  have ntR : NT [R] H8 := .cons (nt_lst hR8) .nil
  have ink := in3_ok 1 sl.cps.toList args (by have := fo.fm.len; have := nods_len args; have := fo.na; omega) fo.na
  have lk : (in3 1 sl.cps.toList args).length ≤ 900 := by
    rw [in3_len]
    have := inArgs_len 1 sl.cps.toList args
    have := fo.na
    omega
  refine for_list (K := K) (a := L) (xs := ts'.map V.ref) (fun i σ H9 => ∃ o12 o13 o14 us, σ = [some v, some (.ref a), some (.ref ca), o3, some (.ref tk), some (.ref TD), some (.ref a1), some (.ref pa), some (.str (sortS it.c)), some (.ref sa), some .non, some (.ref R), o12, o13, o14] ∧
      H9 R = some (.lst (us.map V.ref)) ∧ Pil K n cl [TD, tk] H9 us (kit.take i) ∧ Off [R] H8 H9) ⟨o12, o13, o14, [], rfl, hR8, by rw [List.take_zero]; exact .nil, Off.refl _ _⟩ ?_ ?_ ?_
  · rintro i σ H9 hi ⟨o12, o13, o14, us, rfl, j1, j2, j3⟩
    exact SqL.of (j3.get h8 (by simpa using nLR))
  · rintro i y σ H9 hy ⟨o12, o13, o14, us, rfl, j1, j2, j3⟩
    obtain ⟨t, ht, rfl⟩ := Inn.ref hy
    obtain ⟨p, qa, x, ek, e1, e2, e3⟩ := inn.2 i t ht
    obtain ⟨itk, ei, ed, ec, eS, eW⟩ := k4 i p ek
    obtain ⟨p1, p2, p3, p4⟩ := ink p (List.mem_of_getElem? ek)
    have nltk : nl p.2.1 = true := p3 (by
      have z := ht9
      rw [fo.e] at z
      simp only [nl, nls, Bool.true_and] at z
      exact z)
    have s69 : Same H6 H9 := same_off s68 (fun b hb => by rw [List.mem_singleton.mp hb]; exact hR) j3
    have e1' := j3.get e1 (fun z => ntR t z _ (.inl e1))
    have e2' := j3.get e2 (fun z => ntR qa z _ (.inl e2))
    have e3' := Dp.off e3 ntR nltk j3
    have dp9 := Dp.up s69 _ _ dp6
    obtain ⟨pa2, zs, dzs, epa, ez, hpa, dpa⟩ := tup_of dp9 rfl
    cases epa
    cases ez
    have ezs := ints_back dpa
    subst ezs
    have dt9 := Dp.up s69 _ _ dt6
    have sc9 := sc6.up s69
    have hpa2 : SqT K H9 pa (ps.map V.int) := hpa
    refine ⟨t, _, rfl, .inl (.inl e1'), rfl, _, _, rfl, _, _, rfl, _, _, rfl, rfl, ?_⟩
    refine ⟨_, rfl, .inl ⟨rfl, _, SqL.of j1⟩, _, rfl, _, rfl, _, rfl, pa, qa, _, _, rfl, rfl, hpa2, .inl (.inl e2'), few2 (by rw [List.length_map, List.length_map]; omega), fun cc H10 s10 hcc => ?_⟩
    refine ⟨_, rfl, _, rfl, _, rfl, _, rfl, .ref a1, qa, sa, it.c, h, sl, args, p.1, it.sc, itk.sc, m', kvs', rfl, fo.fo (Dp.up s10 _ _ dt9), .inl (.inl (s10 _ _ e2')), p1, sc9.up s10, by omega, eS, fun g kv2 H11 s11 hg hS11 => ⟨few (by simp), fun T5 hT5 => ?_⟩⟩
    have s12 : Same H9 (upd H11 T5 (.tup [x, .ref cc, .str (sortS p.2.2), .ref g])) := s10.trans (s11.trans (same_new hT5 _))
    have hT12 : (upd H11 T5 (.tup [x, .ref cc, .str (sortS p.2.2), .ref g])) T5 = some (.tup [x, .ref cc, .str (sortS p.2.2), .ref g]) := upd_same
    have sq12 : SqT K (upd H11 T5 (.tup [x, .ref cc, .str (sortS p.2.2), .ref g])) cc (ps.map V.int ++ p.1.map V.int) := seqT_up (s11.trans (same_new hT5 _)) hcc
    have hS12 := hS11.up (same_new (o := .tup [x, .ref cc, .str (sortS p.2.2), .ref g]) hT5)
    have hx12 : (upd H11 T5 (.tup [x, .ref cc, .str (sortS p.2.2), .ref g])) TD = some (.lst (ts2.map V.ref)) := s12 _ _ (s69 _ _ hx6)
    have gX : g ∉ [TD, tk] := by
      rcases hg with e | e
      · rw [e]
        exact ht7
      · intro z
        simp only [List.mem_cons, List.not_mem_nil, or_false] at z
        obtain ⟨tkv, t1, _⟩ := g1
        rcases z with z | z
        · rw [z, s10 _ _ (s69 _ _ hx6)] at e
          cases e
        · rw [z, s10 _ _ (s69 _ _ t1)] at e
          cases e
    generalize upd H11 T5 (.tup [x, .ref cc, .str (sortS p.2.2), .ref g]) = H12 at s12 hT12 sq12 hS12 hx12
    have j12 := s12 _ _ j1
    have lus : us.length ≤ 900 := by
      have z : ∀ {xs : List Addr} {ys : List Itm}, Pil K n cl [TD, tk] H9 xs ys → xs.length = ys.length := fun z => by
        induction z with
        | nil => rfl
        | cons _ _ ih => rw [List.length_cons, List.length_cons, ih]
      rw [z j2, List.length_take]
      omega
    have ntR9 : NT [R] H12 := .cons (nt_lst j12) .nil
    have newI : ItA K n cl [TD, tk] H12 T5 itk := by
      refine ⟨x, cc, g, m' + 2, kv2, ps ++ p.1, f1, by rw [ec]; exact hT12, by rw [ed]; exact Dp.up s12 _ _ e3', .tup ?_ (dp_ints _), fun j hj => ?_, by rw [List.length_append]; omega, hS12, gX, by rw [ed]; omega, by rw [ed]; exact nltk, eW⟩
      · rw [List.map_append]
        exact sq12
      · rcases List.mem_append.mp hj with hj | hj
        · exact ht4 j hj
        · exact p1 j hj
    have notd : ∀ b ∈ [R], b ∈ [TD, tk] ∨ ∀ kvs, H12 b ≠ some (.dK kvs) := fun b hb => .inr fun kvs e => by
      rw [List.mem_singleton.mp hb, j12] at e
      cases e
    have oput : Off [R] H12 (upd H12 R (.lst (us.map V.ref ++ [.ref T5]))) := Off.put (by simp)
    refine ⟨R, _, _, rfl, rfl, j12, by rw [List.length_map]; exact small1000 (by omega), _, _, _, us ++ [T5], rfl, ?_, ?_, j3.trans ((Off.of s12).trans oput)⟩
    · rw [upd_same, List.map_append]
      rfl
    · rw [get_take ei]
      have ntl0 : NT [] H9 := NT.nil
      have pil12 : Pil K n cl [TD, tk] H12 us (kit.take i) := Pil.off j2 ntl0 (fun b hb => absurd hb List.not_mem_nil) (Off.of s12)
      exact paired_app (Pil.off pil12 ntR9 notd oput) (.cons (newI.off ntR9 notd oput) .nil)
  · rintro σ H9 ⟨o12, o13, o14, us, rfl, j1, j2, j3⟩
    rw [List.length_map, inn.1, ← k3, List.take_length] at j2
    have s69 : Same H6 H9 := same_off s68 (fun b hb => by rw [List.mem_singleton.mp hb]; exact hR) j3
    have hx9 := s69 _ _ hx6
    have plen : ∀ {xs : List Addr} {ys : List Itm}, Pil K n cl [TD, tk] H9 xs ys → xs.length = ys.length := fun z => by
      induction z with
      | nil => rfl
      | cons _ _ ih => rw [List.length_cons, List.length_cons, ih]
    have lus := plen j2
    have pil9 : Pil K n cl [TD, tk] H9 ts2 its2 := Pil.off pil6 NT.nil (fun b hb => absurd hb List.not_mem_nil) (Off.of s69)
    have lts := plen pil9
    refine ⟨_, rfl, .inl ⟨rfl, _, SqL.of hx9⟩, _, rfl, R, _, rfl, SqL.of j1, fun p hp => ?_⟩
    have s10 := same_new (o := .lst (us.map V.ref).reverse) hp
    have zlen : ∀ its : List Itm, (∀ it ∈ its, 1 ≤ it.z) → its.length ≤ (its.map (·.z)).sum := fun its => by
      induction its with
      | nil => exact fun _ => Nat.zero_le _
      | cons a its ih =>
        intro g
        have g1 := g a List.mem_cons_self
        have g2 := ih fun b hb => g b (List.mem_cons_of_mem _ hb)
        simp only [List.length_cons, List.map_cons, List.sum_cons]
        omega
    have pz : ∀ {xs : List Addr} {ys : List Itm}, Pil K n cl [TD, tk] H9 xs ys → ∀ it ∈ ys, 1 ≤ it.z := fun z => by
      induction z with
      | nil => exact fun _ h => nomatch h
      | cons h _ ih =>
        intro it hi
        rcases List.mem_cons.mp hi with e | hi
        · subst e
          obtain ⟨_, _, _, _, _, _, _, _, _, _, _, _, _, _, _, _, hw⟩ := h
          exact hw.z1
        · exact ih it hi
    have z1 := zlen _ (pz pil9)
    have z2 := zlen _ (pz j2)
    have esum : ((its2 ++ [it]).map (·.z)).sum = (its2.map (·.z)).sum + 1 + (kit.map (·.z)).sum := by
      rw [List.map_append, List.sum_append, k2]
      simp only [List.map_cons, List.map_nil, List.sum_cons, List.sum_nil, ez]
      omega
    have o10 : Off [TD, tk] H9 (upd (upd H9 p (.lst (us.map V.ref).reverse)) TD (.lst (ts2.map V.ref ++ (us.map V.ref).reverse))) := (Off.of s10).trans (Off.put (by simp))
    have ntl9 : NT [TD, tk] H9 := by
      obtain ⟨tkv, e1, _⟩ := g1
      exact .cons (nt_lst hx9) (.cons (nt_dk (s69 _ _ e1)) .nil)
    have perm : ((its2 ++ kit.reverse).flatMap (·.bs)).Perm (its2.flatMap (·.bs) ++ kit.flatMap (·.bs)) := by
      rw [List.flatMap_append]
      exact List.Perm.append_left _ (List.Perm.flatMap_right _ (List.reverse_perm kit))
    rw [ebs, ← k1] at nds nots
    have bsub : ∀ x ∈ (its2 ++ kit.reverse).flatMap (·.bs), x ∈ its2.flatMap (·.bs) ++ (bndD h args ++ kit.flatMap (·.bs)) := fun x hx2 => by
      rcases List.mem_append.mp (perm.mem_iff.mp hx2) with e | e
      · exact List.mem_append_left _ e
      · exact List.mem_append_right _ (List.mem_append_right _ e)
    have bnod : ((its2 ++ kit.reverse).flatMap (·.bs)).Nodup ∧ ∀ x ∈ (its2 ++ kit.reverse).flatMap (·.bs), decide (x ∈ bndD h args) = false := by
      obtain ⟨n1, n2, n3⟩ := List.nodup_append.mp nds
      obtain ⟨n4, n5, n6⟩ := List.nodup_append.mp n2
      refine ⟨perm.nodup_iff.mpr (List.nodup_append.mpr ⟨n1, n5, fun x hx2 y hy => n3 x hx2 y (List.mem_append_right _ hy)⟩), fun x hx2 => decide_eq_false fun e => ?_⟩
      rcases List.mem_append.mp (perm.mem_iff.mp hx2) with e2 | e2
      · exact n3 x e2 x (List.mem_append_left _ e) rfl
      · exact n6 x e x e2 rfl
    refine ⟨TD, p, ts2.map V.ref, (us.map V.ref).reverse, rfl, rfl, s10 _ _ hx9, upd_same, few2 (by rw [List.length_reverse, List.length_map, List.length_map]; omega), ?_⟩
    refine ⟨(its2.map (·.z)).sum + (kit.map (·.z)).sum, by omega, ts2 ++ us.reverse, its2 ++ kit.reverse, _, _, _, _, _, _, _, _, _, _, fun x => T x || decide (x ∈ bndD h args), rfl, same_off (sm6.trans s69) fr o10, ?_, ?_, by omega, ?_, ?_, ?_, ?_⟩
    · rw [upd_same, List.map_append, List.map_reverse]
    · obtain ⟨tkv, e1, e2, e3⟩ := g1
      exact ⟨tkv, by rw [upd_ne nTk.symm]; exact s10 _ _ (s69 _ _ e1), e2, by omega⟩
    · exact paired_app (Pil.off pil9 ntl9 inl o10) (paired_rev (Pil.off j2 ntl9 inl o10))
    · rw [List.map_append, List.sum_append, List.map_reverse, List.sum_reverse]
    · exact bnod.1
    · intro x hx2
      show (T x || decide (x ∈ bndD h args)) = false
      rw [bnod.2 x hx2, nots x (bsub x hx2)]
      rfl
end
/-! definitions -/
abbrev sCounts : Stmt := topS 21
abbrev sWHead : Stmt := topS 23
theorem scCounts : FnScope ["definitions", "definition"] ["definitions"] (defScope sCounts) := ⟨rfl, rfl, rfl, by decide +kernel, rfl, by decide +kernel, by decide +kernel⟩
theorem scWHead : FnScope ["name", "parameters", "falls", "counts", "index", "parameter"] ["name", "parameters", "falls", "counts"] (defScope sWHead) := ⟨rfl, rfl, rfl, by decide +kernel, rfl, by decide +kernel, by decide +kernel⟩
structure Df where
  nm : Str
  ps : List Str
  falls : Option Nat
  body : PyData
def fallD : Option Nat → PyData
  | some j => .int j
  | none => .none
def Df.data (d : Df) : PyData := .tuple [.str d.nm, .tuple (d.ps.map PyData.str), fallD d.falls, d.body]
def cntL (dfs : List Df) : List (Key × V) := dfs.map fun d => (Sum.inr d.nm, V.int d.ps.length)
def spCounts (K : PySem.W.Frag) : Sp := fun vs H Q _ => ∃ a dfs, vs = [.ref a] ∧ Dp K H (.ref a) (.tuple (dfs.map Df.data)) ∧ (dfs.map (·.nm)).Nodup ∧ dfs.length ≤ 900 ∧ ∀ D H', Same H H' → H D = none → H' D = some (.dK (cntL dfs)) → Q (.ref D) H'
theorem ix_tupK {X : Cx} {K : PySem.W.Frag} (h : X.K = K) : IxR X (rIxT K) := by
  subst h
  exact ix_tup
def rLenK (K : PySem.W.Frag) : List V → Hp → VK → Prop := fun xs H Q => ∃ p ys, xs = [V.ref p] ∧ (SqL K H p ys ∨ SqT K H p ys) ∧ Q (.int ys.length) H
theorem call_lenK {X : Cx} {K : PySem.W.Frag} (h : X.K = K) : CallR X (.builtin "len") (rLenK K) := by
  subst h
  exact call_len_seq
/-- a statement that is not reached -/
theorem ps_never {X : Cx} {st : Stmt} : PS X st fun _ _ _ => False := ⟨fun _ _ _ _ _ _ h => h.elim⟩
def spWHead (K : PySem.W.Frag) : Sp := fun vs H Q _ => ∃ (x : Str) (b : Addr) (v : V) (cd : Addr) (ps : List Str) (fl : Option Nat) (ckv : List (Key × V)), vs = [.str x, .ref b, v, .ref cd] ∧ isNm x = true ∧ gd (.str x) = true ∧ SqT K H b (ps.map V.str) ∧ ps.length ≤ 900 ∧ (∀ y ∈ ps, isNm y = true ∧ gd (.str y) = true) ∧ ps.Nodup ∧ v = fallV fl ∧ (∀ j, fl = some j → j < ps.length) ∧
  H cd = some (.dK ckv) ∧ valV ckv (Sum.inr x) = none ∧ ∀ H', Same H H' → Q .non H'
theorem inr_nodup {dfs : List Df} (h : (dfs.map (·.nm)).Nodup) : ((cntL dfs).map (·.1)).Nodup := by
  have e : (cntL dfs).map (·.1) = (dfs.map (·.nm)).map (Sum.inr : Str → Key) := by
    unfold cntL
    rw [List.map_map, List.map_map]
    rfl
  rw [e]
  unfold List.Nodup
  rw [List.pairwise_map]
  exact List.Pairwise.imp (fun hab e => hab (Sum.inr.inj e)) h
section
variable {P : Program} {w : World} {K : PySem.W.Frag} {mg : Str → Option Value} {base : Heap} {f fN fI : Addr} {fd dN dI : FuncData}
theorem ok_counts {k : Nat} (F : Fun K "counts_in" "counts_in" sCounts f fd) (mn : mg "len" = none) : FnOk P w K mg base CX0 (k + 1) f fd ["definitions"] (spCounts K) := by
  refine F.ok scCounts (fun vs H Q E h => ?_) (fun cdv A outer s H vs Q E hr h => ?_)
  · obtain ⟨a, dfs, rfl, _⟩ := h
    rfl
  obtain ⟨a, dfs, rfl, hd, hnd, hl, q⟩ := h
  refine ⟨_, pss_one (ps_ret (pe_dc (own := [("definition", 1)]) (g := gName 1) (by rfl) scCounts.nd (pi_tup (pv 0))
        (blkOk_by (own := [("definition", 1)]) (N := ["definitions", "definition"]) (sc := defScope sCounts) (by decide +kernel))
        (fun _ _ _ _ _ => pg_name (i := 1) scCounts.nd rfl (Or.inl rfl)) (fun _ _ _ _ _ => pts_nil) (fun _ _ _ _ _ => pe_ix (ix_tupK (K := K) rfl) (pv 1) pe_int (fun _ _ => rfl)) (fun _ _ _ _ _ => pe_callB (call_lenK (K := K) rfl) (by rfl) mn PySem.boot_len (pa_cons (pe_ix (ix_tupK (K := K) rfl) (pv 1) pe_int (fun _ _ => rfl)) pa_nil)))), ?_⟩
  obtain ⟨a2, vs, ds, ea, ed, hx, dx⟩ := tup_of hd rfl
  cases ea
  cases ed
  have lx := DpAll.len dx
  rw [List.length_map] at lx
  refine ⟨_, rfl, a, rfl, ⟨_, hx⟩, fun D hD => dc_it (walk_tup (K := K) (a := a) (xs := vs)) (fun i H2 => H2 = upd H D (.dK ((cntL dfs).take i))) rfl ?_ ?_ ?_⟩
  · rintro i H2 hi rfl
    exact seqT_up (same_new hD _) hx
  · rintro i y H2 H3 hi rfl ⟨rfl, hy⟩
    have s2 : Same H (upd H D (.dK ((cntL dfs).take i))) := same_new hD _
    obtain ⟨d, ed, dd⟩ := DpAll.get dx hy
    rw [List.getElem?_map] at ed
    obtain ⟨df, edf, rfl⟩ := Option.map_eq_some_iff.mp ed
    obtain ⟨b, us, eds, rfl, e2, hb, du⟩ := tup_of (Dp.up s2 _ _ dd) rfl
    cases e2
    obtain ⟨v0, us, rfl, _, e0, du⟩ := dpall_cons du
    obtain ⟨v1, us, rfl, _, e1, du⟩ := dpall_cons du
    cases e0
    obtain ⟨b1, ws, eds2, rfl, e3, hb1, dw⟩ := tup_of e1 rfl
    cases e3
    have lw := DpAll.len dw
    rw [List.length_map] at lw
    have ec : (cntL dfs)[i]? = some (Sum.inr df.nm, .int df.ps.length) := by
      unfold cntL
      rw [List.getElem?_map, edf]
      rfl
    refine ⟨rfl, _, rfl, b, _, 0, _, rfl, rfl, hb, atI_nat (j := 0) rfl, _, rfl, b, _, 1, _, rfl, rfl, hb, atI_nat (j := 1) rfl, b1, _, rfl, .inr hb1, (cntL dfs).take i, Sum.inr df.nm, rfl, upd_same, few1 (by rw [List.length_take]; unfold cntL; rw [List.length_map]; omega), ?_⟩
    rw [upd_twice, putK_new (take_fresh (inr_nodup hnd) ec), get_take ec, lw]
  · rintro H2 rfl
    refine q D _ (same_new hD _) hD ?_
    rw [upd_same, List.take_of_length_le (by unfold cntL; rw [List.length_map]; omega)]
theorem ok_whead {k : Nat} (F : Fun K "wrong_head" "wrong_head" sWHead f fd) (mn : mg "len" = none) (me : mg "enumerate" = none) (GN : Dn P w K mg base 1 "is_name" ["thing"] (spLook K (fun d => gd d = true) fun d => .bl (nmD d)) fN dN)
    (GI : Dn P w K mg base 1 "is_integer" ["thing"] (spLook K (fun _ => True) fun d => .bl (inD d)) fI dI) : FnOk P w K mg base CX0 (k + 2) f fd ["name", "parameters", "falls", "counts"] (spWHead K) := by
  refine F.ok scWHead (fun vs H Q E h => ?_) (fun cdv A outer s H vs Q E hr h => ?_)
  · obtain ⟨x, b, v, cd, ps, fl, ckv, rfl, _⟩ := h
    rfl
  obtain ⟨x, b, v, cd, ps, fl, ckv, rfl, hx, gx, hb, lp, hps, npd, rfl, hfl, hc, hvx, q⟩ := h
  have hu := hu_of hr
  have hr1 : Room 1 _ := hr.mono (by omega)
  refine ⟨_, pss_cons (ps_if (pt_not (pt_val (pe_call GN.ok hr1 (by rfl) GN.mg GN.kp GN.bd .nil pass0 (pa_cons (pv 0) pa_nil)))) (pss_one (ps_ret pe_str)) pss_nil)
    (pss_cons (ps_if (pt_cmp (pc_din hu (pv 0) (pv 3))) (pss_one (ps_ret pe_str)) pss_nil)
    (pss_cons (ps_for PassesOwn.never rfl (pi_enumA (by rfl) me (pa_cons (pv 1) pa_nil)) (pg_tup (by rfl) (pgs_cons (pg_name (i := 4) scWHead.nd rfl (.inl rfl)) (pgs_cons (pg_name (i := 5) scWHead.nd rfl (.inl rfl)) pgs_nil)))
      (pss_one (ps_if (PW.pt (pw_or (pt_not (pt_val (pe_call GN.ok hr1 (by rfl) GN.mg GN.kp GN.bd .nil pass0 (pa_cons (pv 5) pa_nil)))) (pw_or1 (pt_cmpR op_in_seq (pv 5) (pe_slice sl_tupA (pv 1) po_none (po_some (pv 4))) rfl)))) (pss_one (ps_ret pe_str)) pss_nil)))
    (pss_cons (ps_if (PW.pt (pw_and (pt_cmpR op_notN (pv 2) pe_non rfl) (pw_and1 (pt_not (PW.pt (pw_and (pt_val (pe_call GI.ok hr1 (by rfl) GI.mg GI.kp GI.bd .nil pass0 (pa_cons (pv 2) pa_nil))) (pw_and1 (pt_chain op_le op_lt pe_int (pv 2) (pe_callB call_len_seq (by rfl) mn PySem.boot_len (pa_cons (pv 1) pa_nil)))))))))) (pss_one (ps_ret pe_str)) pss_nil)
    (pss_one (ps_ret pe_non))))), ?_⟩
  have nmx : nmD (.str x) = true := hx
  refine ⟨_, rfl, .str x, .str x, rfl, .str x, gx, fun H1 s1 => ⟨_, rfl, ibF (by simp [nmx]) ?_⟩⟩
  refine ⟨_, rfl, _, rfl, cd, _, rfl, DGet.k (k := Sum.inr x) (s1 _ _ hc), _, rfl, ibF (by rw [hvx]; simp) ?_⟩
  have hb1 := seqT_up s1 hb
  refine ⟨_, rfl, .inl ⟨b, _, rfl, hb1, ?_⟩⟩
  refine for_it (walk_C (Its := fun H ys => SqT K H b ys) (xs := ps.map V.str) (k0 := 0)) (fun i σ H2 => ∃ o4 o5, σ = [some (.str x), some (.ref b), some (fallV fl), some (.ref cd), o4, o5] ∧ Same H1 H2) ⟨none, none, rfl, Same.refl _⟩ ?_ ?_ ?_
  · rintro i σ H2 hi ⟨o4, o5, rfl, s2⟩
    exact seqT_up s2 hb1
  · rintro i y σ H2 H3 hi ⟨o4, o5, rfl, s2⟩ ⟨T, z, rfl, hT, rfl, hz⟩
    rw [List.getElem?_map] at hz
    obtain ⟨y, ey, rfl⟩ := Option.map_eq_some_iff.mp hz
    have s3 := s2.trans (same_new (o := .tup [.int (0 + (i : Nat)), .str y]) hT)
    have hy := hps y (List.mem_of_getElem? ey)
    have nmy : nmD (.str y) = true := hy.1
    have li := (List.getElem?_eq_some_iff.mp ey).1
    refine ⟨T, _, rfl, .inl (.inl upd_same), rfl, _, _, rfl, _, _, rfl, rfl, ?_⟩
    refine ⟨_, rfl, .str y, .str y, rfl, .str y, hy.2, fun H5 s5 => ⟨_, rfl, ibF (by simp [nmy]) ?_⟩⟩
    have s35 := s3.trans s5
    refine ⟨_, rfl, _, rfl, _, rfl, 0 + (i : Nat), rfl, b, _, rfl, seqT_up s35 hb1, (fun e => ?_), fun _ cc hcc => ?_⟩
    · have e := e.2
      rw [show (0 + (i : Nat) : Int) = ((i : Nat) : Int) by omega, HT.sIx_nat, List.length_map] at e
      omega
    · rw [show (0 + (i : Nat) : Int) = ((i : Nat) : Int) by omega, cutV_take _ (by omega) (by rw [List.length_map]; omega)]
      have s6 := s35.trans (same_new (o := .tup ((ps.map V.str).take ((i : Nat) : Int).toNat)) hcc)
      have e0 : inV (.str y) ((ps.map V.str).take ((i : Nat) : Int).toNat) = false := by
        rw [Int.toNat_natCast, ← List.map_take]
        rw [Bool.eq_false_iff]
        intro z
        simp only [inV, List.any_eq_true, List.mem_map] at z
        obtain ⟨u, ⟨u0, hu0, rfl⟩, e⟩ := z
        have e : u0 = y := by simpa [eqV] using e
        subst e
        obtain ⟨j, hj⟩ := List.mem_iff_getElem?.mp hu0
        have hj1 : j < i := by
          have z := (List.getElem?_eq_some_iff.mp hj).1
          rw [List.length_take] at z
          omega
        rw [List.getElem?_take, if_pos hj1] at hj
        have z := (List.getElem?_inj (show j < ps.length by omega) npd).mp (hj.trans ey.symm)
        omega
      refine ⟨cc, _, rfl, .inr (.inl (.inl upd_same)), rfl, (by rw [List.all_eq_true]; intro u hu3; obtain ⟨u0, _, rfl⟩ := List.mem_map.mp (List.mem_of_mem_take hu3); rfl), _, rfl, ibF (by rw [e0]; simp) ?_⟩
      exact ⟨_, _, rfl, s6⟩
  · rintro σ H2 ⟨o4, o5, rfl, s2⟩
    have s12 := s1.trans s2
    cases fl with
    | none => exact ⟨_, rfl, rfl, _, rfl, ibF (by simp [fallV]) (q H2 s12)⟩
    | some j =>
      have hj := hfl j rfl
      refine ⟨_, rfl, rfl, _, rfl, ibT (by simp [fallV]) ⟨_, rfl, .int j, .int j, rfl, .int _, True.intro, fun H3 s3 => ⟨_, rfl, ibT rfl ?_⟩⟩⟩
      refine ⟨_, rfl, _, _, rfl, rfl, _, rfl, ibT (by simp) ⟨_, rfl, b, _, rfl, .inr (seqT_up (s12.trans s3) hb), _, _, rfl, rfl, _, rfl, ?_⟩⟩
      rw [List.length_map]
      refine ibF ?_ (q H3 (s12.trans s3))
      rw [decide_eq_true (by omega)]
      exact Bool.false_ne_true
end
/-! check_definitions: all are right -/
abbrev sIniCa : Stmt := inClass (topS 19) 0
abbrev sCheck : Stmt := topS 22
theorem scIniCa : FnScope ["self", "counts", "own", "falls"] ["self", "counts", "own", "falls"] (defScope sIniCa) := ⟨rfl, rfl, rfl, by decide +kernel, rfl, by decide +kernel, by decide +kernel⟩
theorem scCheck : FnScope ["definitions", "at", "definition", "counts", "name", "parameters", "falls", "body", "word", "scope", "found", "index", "parameter"] ["definitions"] (defScope sCheck) := ⟨rfl, rfl, rfl, by decide +kernel, rfl, by decide +kernel, by decide +kernel⟩
def clf (c o f : V) : List (Str × V) := putF "falls" f (putF "own" o (putF "counts" c []))
theorem clf_c (c o f : V) : (clf c o f).lookup ("counts" : Str) = some c := by
  unfold clf
  rw [lookup_putF, if_neg (by decide +kernel), lookup_putF, if_neg (by decide +kernel), lookup_putF, if_pos rfl]
theorem clf_o (c o f : V) : (clf c o f).lookup ("own" : Str) = some o := by
  unfold clf
  rw [lookup_putF, if_neg (by decide +kernel), lookup_putF, if_pos rfl]
theorem clf_f (c o f : V) : (clf c o f).lookup ("falls" : Str) = some f := by
  unfold clf
  rw [lookup_putF, if_pos rfl]
theorem putF_len (f : Str) (v : V) (fs : List (Str × V)) : (putF f v fs).length ≤ fs.length + 1 := by
  induction fs with
  | nil => exact Nat.le_refl _
  | cons p fs ih =>
    unfold putF
    split
    · rw [List.length_cons, List.length_cons]; omega
    · rw [List.length_cons, List.length_cons]; omega
def spIniCa (C : Addr) : Sp := fun vs H Q _ => ∃ (a dx : Addr) (c o f : V), vs = [.ref a, c, o, f] ∧ H a = some (.ins C dx []) ∧ ∀ H', H' a = some (.ins C dx (clf c o f)) → (∀ b, b ≠ a → H' b = H b) → Q .non H'
/-- how Calls is made -/
structure MkCa (P : Program) (w : World) (K : PySem.W.Frag) (mg : Str → Option Value) (base : Heap) (C fI : Addr) (dI : FuncData) : Prop where
  mkr : Mk K C fI
  ok : FnOk P w K mg base CX0 1 fI dI ["self", "counts", "own", "falls"] (spIniCa C)
  bd : Binds K dI ["self", "counts", "own", "falls"] []
  mg : mg "Calls" = some (.ref C)
def ownW (fl : Option Nat) (i : Nat) : Str := if fl = some i then "own" else ""
/-- the scope of the parameters -/
def scF : List Str → Nat → Option Nat → Scp
  | [], _, _ => fun _ => none
  | x :: xs, i, fl => fun y => if y = x then some (ownW fl i) else scF xs (i + 1) fl y
def scKv : List Str → Nat → Option Nat → List (Key × V)
  | [], _, _ => []
  | x :: xs, i, fl => (Sum.inr x, .str (ownW fl i)) :: scKv xs (i + 1) fl
theorem scKv_vl : ∀ (xs : List Str) (i : Nat) (fl : Option Nat) (y : Str), valV (scKv xs i fl) (Sum.inr y : Key) = (scF xs i fl y).map V.str
  | [], _, _, _ => rfl
  | x :: xs, i, fl, y => by
    have ih := scKv_vl xs (i + 1) fl y
    simp only [valV, scKv, List.find?_cons, scF] at ih ⊢
    by_cases h : y = x
    · subst h
      simp
    · rw [if_neg h]
      have h2 : ¬ ((Sum.inr x : Key) = Sum.inr y) := fun z => h (Sum.inr.inj z).symm
      rw [decide_eq_false h2]
      exact ih
theorem scKv_get : ∀ {xs : List Str} {i j : Nat} {fl : Option Nat} {x : Str}, xs[j]? = some x → (scKv xs i fl)[j]? = some (Sum.inr x, .str (ownW fl (i + j)))
  | [], _, _, _, _, h => by simp at h
  | y :: ys, i, j, fl, x, h => by
    cases j with
    | zero =>
      have h : some y = some x := by simpa using h
      cases h
      rfl
    | succ j =>
      have h : ys[j]? = some x := by simpa using h
      have z := scKv_get (i := i + 1) (fl := fl) h
      rw [show i + 1 + j = i + (j + 1) by omega] at z
      exact z
theorem scKv_len : ∀ (xs : List Str) (i : Nat) (fl : Option Nat), (scKv xs i fl).length = xs.length
  | [], _, _ => rfl
  | _ :: xs, i, fl => by rw [scKv, List.length_cons, List.length_cons, scKv_len xs]
theorem scKv_keys : ∀ (xs : List Str) (i : Nat) (fl : Option Nat), (scKv xs i fl).map (·.1) = xs.map (Sum.inr : Str → Key)
  | [], _, _ => rfl
  | _ :: xs, i, fl => by rw [scKv, List.map_cons, List.map_cons, scKv_keys xs]
theorem scF_w : ∀ (xs : List Str) (i : Nat) (fl : Option Nat), ScW (scF xs i fl)
  | [], _, _ => fun _ _ e => nomatch e
  | x :: xs, i, fl => fun y s e => by
    unfold scF at e
    split at e
    · cases e
      unfold ownW
      split
      · exact .inr (.inl rfl)
      · exact .inl rfl
    · exact scF_w xs (i + 1) fl y s e
theorem nodup_inrS {xs : List Str} (h : xs.Nodup) : (xs.map (Sum.inr : Str → Key)).Nodup := by
  unfold List.Nodup
  rw [List.pairwise_map]
  exact List.Pairwise.imp (fun hab e => hab (Sum.inr.inj e)) h
theorem scKv_d {H : Hp} {a : Addr} {xs : List Str} {fl : Option Nat} (h : H a = some (.dK (scKv xs 0 fl))) (nd : xs.Nodup) : ScD H a (scF xs 0 fl) xs.length (scKv xs 0 fl) :=
  ⟨h, fun p hp => by
    have : p.1 ∈ (scKv xs 0 fl).map (·.1) := List.mem_map.mpr ⟨p, hp, rfl⟩
    rw [scKv_keys] at this
    obtain ⟨x, _, e⟩ := List.mem_map.mp this
    exact ⟨x, e.symm⟩, by rw [scKv_keys]; exact nodup_inrS nd, scKv_vl _ _ _, Nat.le_of_eq (scKv_len _ _ _), scF_w _ _ _⟩
/-- the numbers of parameters that a body of d may go by, behind prev -/
def cnF (prev : List Df) (d : Df) : Str → Option Nat := fun x => if d.falls.isSome = true ∧ x = d.nm then some d.ps.length else (prev.find? fun e => decide (e.nm = x)).map (·.ps.length)
def clOf (prev : List Df) (d : Df) : Cl := ⟨cnF prev d, some d.nm, d.falls⟩
theorem cntL_vl (prev : List Df) (x : Str) : valV (cntL prev) (Sum.inr x : Key) = ((prev.find? fun e => decide (e.nm = x)).map (·.ps.length)).map fun (n : Nat) => V.int n := by
  induction prev with
  | nil => rfl
  | cons e prev ih =>
    simp only [valV, cntL, List.map_cons, List.find?_cons] at ih ⊢
    by_cases h : e.nm = x
    · subst h
      simp
    · have h2 : ¬ ((Sum.inr e.nm : Key) = Sum.inr x) := fun z => h (Sum.inr.inj z)
      rw [decide_eq_false h2, decide_eq_false h]
      exact ih
/-- a definition behind others in which nothing is wrong -/
structure DfOk (n : Nat) (prev : List Df) (d : Df) : Prop where
  nm : isNm d.nm = true ∧ gd (.str d.nm) = true
  new : ∀ e ∈ prev, e.nm ≠ d.nm
  ps : ∀ y ∈ d.ps, isNm y = true ∧ gd (.str y) = true
  nd : d.ps.Nodup
  lp : d.ps.length ≤ 100
  fl : ∀ j, d.falls = some j → j < d.ps.length
  nl : nl d.body = true
  wt : ∃ f bs z, Wt n (clOf prev d) f (scF d.ps 0 d.falls) 101 d.body bs z ∧ z ≤ 900 ∧ f ≤ 400 ∧ d.ps.length + 2 * f + nod d.body ≤ 890 ∧ bs.Nodup ∧ ∀ x ∈ bs, x ∉ d.ps
theorem scF_none : ∀ {xs : List Str} {i : Nat} {fl : Option Nat} {y : Str}, y ∉ xs → scF xs i fl y = none
  | [], _, _, _, _ => rfl
  | x :: xs, i, fl, y, h => by
    unfold scF
    rw [if_neg fun e => h (by rw [e]; exact List.mem_cons_self)]
    exact scF_none fun m => h (List.mem_cons_of_mem _ m)
theorem strs_back {K : PySem.W.Frag} {H : Hp} : ∀ {xs : List Str} {zs : List V}, DpAll K H zs (xs.map PyData.str) → zs = xs.map V.str
  | [], _, .nil => rfl
  | _ :: _, _, .cons a t => by
    cases a
    rw [strs_back t]
    rfl
theorem names_nodup {n : Nat} {dfs : List Df} (h : ∀ (i : Nat) (d : Df), dfs[i]? = some d → DfOk n (dfs.take i) d) : (dfs.map (·.nm)).Nodup := by
  unfold List.Nodup
  rw [List.pairwise_map, List.pairwise_iff_getElem]
  intro i j hi hj hij
  have z := (h j dfs[j] (List.getElem?_eq_getElem hj)).new dfs[i] (List.mem_iff_getElem?.mpr ⟨i, by rw [List.getElem?_take, if_pos hij]; exact List.getElem?_eq_getElem hi⟩)
  exact z
def spCheck (K : PySem.W.Frag) (n : Nat) : Sp := fun vs H Q _ => ∃ (a : Addr) (dfs : List Df), vs = [.ref a] ∧ Dp K H (.ref a) (.tuple (dfs.map Df.data)) ∧ dfs.length ≤ 100 ∧ (∀ (i : Nat) (d : Df), dfs[i]? = some d → DfOk n (dfs.take i) d) ∧ ∀ H', Same H H' → Q .non H'
section
variable {P : Program} {w : World} {K : PySem.W.Frag} {mg : Str → Option Value} {base : Heap} {f fC fW fF fI C : Addr} {fd dC dW dF dI : FuncData}
theorem ok_iniCa {k : Nat} (F : Fun K "__init__" "Calls.__init__" sIniCa f fd) (T : CaC K C) : FnOk P w K mg base CX0 (k + 1) f fd ["self", "counts", "own", "falls"] (spIniCa C) := by
  refine F.ok scIniCa (fun vs H Q E h => ?_) (fun cdv A outer s H vs Q E hr h => ?_)
  · obtain ⟨a, dx, c, o, g, rfl, _⟩ := h
    rfl
  obtain ⟨a, dx, c, o, g, rfl, ha, q⟩ := h
  refine ⟨_, pss_cons (ps_fld (pv 0) (pv 1) rfl) (pss_cons (ps_fld (pv 0) (pv 2) rfl) (pss_one (ps_fld (pv 0) (pv 3) rfl))), ?_⟩
  refine ⟨_, rfl, _, rfl, a, C, dx, [], rfl, ha, T.cl, T.nc, (by show 0 < 1000; decide), _, rfl, _, rfl, a, C, dx, _, rfl, upd_same, T.cl, T.no, ?_, _, rfl, _, rfl, a, C, dx, _, rfl, upd_same, T.cl, T.nf, ?_, q _ upd_same fun b hb => by rw [upd_ne hb, upd_ne hb, upd_ne hb]⟩
  · show 1 < 1000
    decide
  · have z1 := putF_len "own" o (putF "counts" c [])
    have z2 := putF_len "counts" c []
    rw [List.length_nil] at z2
    omega
theorem ok_check {k n : Nat} (F : Fun K "check_definitions" "check_definitions" sCheck f fd) (B : Bi mg) (me : mg "enumerate" = none) (CC : CaC K C) (MK : MkCa P w K mg base C fI dI)
    (GC : Dn P w K mg base 1 "counts_in" ["definitions"] (spCounts K) fC dC) (GW : Dn P w K mg base 2 "wrong_head" ["name", "parameters", "falls", "counts"] (spWHead K) fW dW)
    (GF : Dn P w K mg base (k + 6) "first_wrong_tree" ["body", "parameters", "calls"] (spFirst K C n) fF dF) : FnOk P w K mg base CX0 (k + 7) f fd ["definitions"] (spCheck K n) := by
  refine F.ok scCheck (fun vs H Q E h => ?_) (fun cdv A outer s H vs Q E hr h => ?_)
  · obtain ⟨a, dfs, rfl, _⟩ := h
    rfl
  obtain ⟨a, dfs, rfl, hd, hl, hok, q⟩ := h
  have hu := hu_of hr
  have hr1 : Room 1 _ := hr.mono (by omega)
  have hr2 : Room 2 _ := hr.mono (by omega)
  have hr2' : Room (1 + 1) _ := hr.mono (by omega)
  refine ⟨_, pss_one (ps_for PassesOwn.never rfl (pi_enumA (by rfl) me (pa_cons (pv 0) pa_nil)) (pg_tup (by rfl) (pgs_cons (pg_name (i := 1) scCheck.nd rfl (.inl rfl)) (pgs_cons (pg_name (i := 2) scCheck.nd rfl (.inl rfl)) pgs_nil)))
    (pss_cons (ps_if (PW.pt (pw_or (pt_not (pt_val (pe_callB call_isD (by rfl) B.ii b_ii (pa_cons (pv 2) (pa_cons (pe_bltn (by rfl) B.tup b_tup (v := .ty "tuple") rfl) pa_nil)))))
        (pw_or (pt_cmpR op_ne (pe_callB call_len_seq (by rfl) B.len PySem.boot_len (pa_cons (pv 2) pa_nil)) pe_int (nomark _)) (pw_or1 (pt_not (pt_val (pe_callB call_isD (by rfl) B.ii b_ii (pa_cons (pe_ix ix_tup (pv 2) pe_int (fun _ _ => rfl)) (pa_cons (pe_bltn (by rfl) B.tup b_tup (v := .ty "tuple") rfl) pa_nil))))))))) (pss_one ps_never) pss_nil)
    (pss_cons (ps_set (i := 3) scCheck.nd rfl (.inl rfl) (pe_call GC.ok hr1 (by rfl) GC.mg GC.kp GC.bd .nil pass0 (pa_cons (pe_slice sl_tupA (pv 0) po_none (po_some (pv 1))) pa_nil)))
    (pss_cons (ps_asg (pv 2) (pg_tup (by rfl) (pgs_cons (pg_name (i := 4) scCheck.nd rfl (.inl rfl)) (pgs_cons (pg_name (i := 5) scCheck.nd rfl (.inl rfl)) (pgs_cons (pg_name (i := 6) scCheck.nd rfl (.inr rfl)) (pgs_cons (pg_name (i := 7) scCheck.nd rfl (.inl rfl)) pgs_nil))))))
    (pss_cons (ps_set (i := 8) scCheck.nd rfl (.inl rfl) (pe_call GW.ok hr2 (by rfl) GW.mg GW.kp GW.bd .nil pass0 (pa_cons (pv 4) (pa_cons (pv 5) (pa_cons (pv 6) (pa_cons (pv 3) pa_nil))))))
    (pss_cons (ps_if (pt_cmpR op_notN (pv 8) pe_non rfl) (pss_one ps_never) pss_nil)
    (C8.pss_cut (ps_if (pt_cmpR op_notN (pv 6) pe_non rfl) (pss_one (ps_dput hu (pv 3) (pv 4) (pe_callB call_len_seq (by rfl) B.len PySem.boot_len (pa_cons (pv 5) pa_nil)) rfl)) pss_nil)
    (pss_cons (ps_setDc (i := 9) (own := [("index", 11), ("parameter", 12)]) (g := gTup K 2 (gCons (gName 11) (gCons (gName 12) gNil))) (by rfl) scCheck.nd rfl rfl (sw_dict rfl rfl rfl (by decide +kernel)) (pi_enumA (by rfl) me (pa_cons (pv 5) pa_nil))
        (blkOk_by (own := [("index", 11), ("parameter", 12)]) (N := ["definitions", "at", "definition", "counts", "name", "parameters", "falls", "body", "word", "scope", "found", "index", "parameter"]) (sc := defScope sCheck) (by decide +kernel))
        (fun _ _ _ _ _ => pg_tupK rfl (by rfl) (pgs_cons (pg_name (i := 11) scCheck.nd rfl (Or.inl rfl)) (pgs_cons (pg_name (i := 12) scCheck.nd rfl (Or.inl rfl)) pgs_nil))) (fun _ _ _ _ _ => pts_nil) (fun _ _ _ _ _ => pv 12)
        (fun _ _ _ _ _ => pe_ifExp (pt_cmpR op_eq (pv 11) (pv 6) (nomark _)) pe_str pe_str))
    (pss_cons (ps_set (i := 10) scCheck.nd rfl (.inl rfl) (pe_call GF.ok hr (by rfl) GF.mg GF.kp GF.bd .nil pass0 (pa_cons (pv 7) (pa_cons (pv 9) (pa_cons (pe_make MK.mkr MK.ok hr2' (by rfl) MK.mg MK.bd .nil pass0 (pa_cons (pv 3) (pa_cons (pv 4) (pa_cons (pv 6) pa_nil)))) pa_nil)))))
    (pss_one (ps_if (pt_cmpR op_notN (pv 10) pe_non rfl) (pss_one ps_never) pss_nil))))))))))), ?_⟩
  obtain ⟨a2, vs, ds, ea, ed, hx, dx⟩ := tup_of hd rfl
  cases ea
  cases ed
  have lx := DpAll.len dx
  rw [List.length_map] at lx
  refine ⟨_, rfl, .inl ⟨a, vs, rfl, hx, ?_⟩⟩
  refine for_it (walk_C (Its := fun H ys => SqT K H a ys) (xs := vs) (k0 := 0)) (fun i σ H2 => ∃ o1 o2 o3 o4 o5 o6 o7 o8 o9 o10, σ = [some (.ref a), o1, o2, o3, o4, o5, o6, o7, o8, o9, o10, none, none] ∧ Same H H2) ⟨none, none, none, none, none, none, none, none, none, none, rfl, Same.refl _⟩ ?_ ?_ ?_
  · rintro i σ H2 hi ⟨_, _, _, _, _, _, _, _, _, _, rfl, s2⟩
    exact seqT_up s2 hx
  · rintro i y σ H2 H3 hi ⟨o1, o2, o3, o4, o5, o6, o7, o8, o9, o10, rfl, s2⟩ ⟨T, zv, rfl, hT, rfl, hz⟩
    obtain ⟨d0, ed0, dz⟩ := DpAll.get dx hz
    rw [List.getElem?_map] at ed0
    obtain ⟨df, edf, rfl⟩ := Option.map_eq_some_iff.mp ed0
    have ok := hok i df edf
    have s3 := s2.trans (same_new (o := .tup [.int (0 + (i : Nat)), zv]) hT)
    have hT3 : (upd H2 T (.tup [.int (0 + (i : Nat)), zv])) T = some (.tup [.int (0 + (i : Nat)), zv]) := upd_same
    generalize upd H2 T (.tup [.int (0 + (i : Nat)), zv]) = H3 at s3 hT3
    have dz3 := Dp.up s3 _ _ dz
    obtain ⟨b, us, eds, rfl, e2, hb, du⟩ := tup_of dz3 rfl
    cases e2
    have hdat : Dp K H3 (.ref b) df.data := dz3
    obtain ⟨v0, us, rfl, _, e0, du⟩ := dpall_cons du
    obtain ⟨v1, us, rfl, _, e1, du⟩ := dpall_cons du
    obtain ⟨v2, us, rfl, _, e2, du⟩ := dpall_cons du
    obtain ⟨v3, us, rfl, _, e3, du⟩ := dpall_cons du
    cases du
    cases e0
    obtain ⟨b1, ws, eds2, rfl, e4, hb1, dw⟩ := tup_of e1 rfl
    cases e4
    have ews : ws = df.ps.map V.str := strs_back dw
    subst ews
    have ev2 : v2 = fallV df.falls := by
      cases ef : df.falls with
      | none =>
        rw [ef] at e2
        cases e2
        rfl
      | some j =>
        rw [ef] at e2
        cases e2
        rfl
    subst ev2
    have hx3 := seqT_up s3 hx
    refine ⟨T, _, rfl, .inl (.inl hT3), rfl, _, _, rfl, _, _, rfl, rfl, ?_⟩
    refine ⟨_, rfl, .ref b, df.data, "tuple", _, rfl, hdat, kit_tup _, _, rfl, iteF ⟨_, rfl, b, _, rfl, .inr hb, rfl, _, rfl, ibF (by simp) ⟨_, rfl, b, _, 1, _, rfl, rfl, hb, atI_nat (j := 1) rfl, _, _, "tuple", _, rfl, e1, kit_tup _, _, rfl, iteF ?_⟩⟩⟩
    refine ⟨_, rfl, _, rfl, 0 + (i : Nat), rfl, a, vs, rfl, hx3, (fun e => ?_), fun _ cc hcc => ?_⟩
    · have e := e.2
      rw [show (0 + (i : Nat) : Int) = ((i : Nat) : Int) by omega, HT.sIx_nat] at e
      omega
    rw [show (0 + (i : Nat) : Int) = ((i : Nat) : Int) by omega, cutV_take _ (by omega) (by omega), Int.toNat_natCast]
    have s4 := same_new (o := .tup (vs.take i)) hcc
    have dcc : Dp K (upd H3 cc (.tup (vs.take i))) (.ref cc) (.tuple ((dfs.take i).map Df.data)) := by
      rw [List.map_take]
      exact .tup (.inl (.inl upd_same)) (Dp.ups (s3.trans s4) _ _ (DpAll.parts dx i).1)
    generalize upd H3 cc (.tup (vs.take i)) = H4 at s4 dcc
    have nd4 : ((dfs.take i).map (·.nm)).Nodup := by
      rw [List.map_take]
      exact (names_nodup hok).sublist (List.take_sublist _ _)
    have lt4 : (dfs.take i).length ≤ 100 := by
      rw [List.length_take]
      omega
    refine ⟨cc, dfs.take i, rfl, dcc, nd4, by omega, fun D H5 s5 hD hDd => ?_⟩
    have s345 := s4.trans s5
    refine ⟨_, rfl, b, _, rfl, seqT_up s345 hb, rfl, _, _, rfl, _, _, rfl, _, _, rfl, _, _, rfl, rfl, ?_⟩
    have hb15 := seqT_up s345 hb1
    have vnone : valV (cntL (dfs.take i)) (Sum.inr df.nm : Key) = none := by
      rw [cntL_vl]
      cases ef : (dfs.take i).find? fun e => decide (e.nm = df.nm) with
      | none => rfl
      | some e =>
        have z := List.find?_some ef
        exact absurd (of_decide_eq_true z) (ok.new e (List.mem_of_find?_eq_some ef))
    refine ⟨_, rfl, _, rfl, _, rfl, _, rfl, df.nm, b1, _, D, df.ps, df.falls, cntL (dfs.take i), rfl, ok.nm.1, ok.nm.2, hb15, by have := ok.lp; omega, ok.ps, ok.nd, rfl, ok.fl, hDd, vnone, fun H6 s6 => ?_⟩
    refine ⟨_, rfl, rfl, _, rfl, ibF (by simp) ?_⟩
    have s36 := s345.trans s6
    have hD6 := s6 _ _ hDd
    have hD0 : H2 D = none ∨ True := .inr trivial
    refine ⟨fun σ H7 => σ = [some (.ref a), some (.int i), some (.ref b), some (.ref D), some (.str df.nm), some (.ref b1), some (fallV df.falls), some v3, some .non, o9, o10, none, none] ∧ Same H3 H7 ∧ CnD H7 D (cnF (dfs.take i) df), ?_, ?_⟩
    · cases ef : df.falls with
      | none =>
        refine ⟨_, rfl, rfl, _, rfl, ibF (by simp [fallV]) ?_⟩
        refine ⟨rfl, s36, cntL (dfs.take i), hD6, fun x => ?_⟩
        rw [cntL_vl]
        unfold cnF
        rw [ef, if_neg (fun z => by cases z.1)]
      | some j =>
        refine ⟨_, rfl, rfl, _, rfl, ibT (by simp [fallV]) ?_⟩
        refine ⟨_, rfl, b1, _, rfl, .inr (seqT_up s6 hb15), _, rfl, _, rfl, D, _, rfl, DPut.k (k := Sum.inr df.nm) hD6 (few1 (by unfold cntL; rw [List.length_map]; omega)), rfl, ?_, _, upd_same, fun x => ?_⟩
        · refine same_off s36 (l := [D]) (fun b hb => by rw [List.mem_singleton.mp hb]; exact s4.free hD) (Off.put (by simp))
        · rw [valV_put, cntL_vl]
          unfold cnF
          by_cases e : x = df.nm
          · subst e
            rw [if_pos rfl, if_pos ⟨by rw [ef]; rfl, rfl⟩, List.length_map]
            rfl
          · rw [if_neg (fun z => e (Sum.inr.inj z)), if_neg (fun z => e z.2)]
    rintro σ H7 ⟨rfl, s37, cn7⟩
    have hb17 := seqT_up s37 hb1
    refine ⟨_, rfl, .inl ⟨b1, _, rfl, hb17, fun D2 hD2 => dc_it (walk_C (Its := fun H ys => SqT K H b1 ys) (xs := df.ps.map V.str) (k0 := 0)) (fun j H8 => H8 D2 = some (.dK ((scKv df.ps 0 df.falls).take j)) ∧ Same H7 H8) ⟨upd_same, same_new hD2 _⟩ ?_ ?_ ?_⟩⟩
    · rintro j H8 hj ⟨g1, g2⟩
      exact seqT_up g2 hb17
    · rintro j y H8 H9 hj ⟨g1, g2⟩ ⟨T2, y2, rfl, hT2, rfl, hy⟩
      rw [List.getElem?_map] at hy
      obtain ⟨y, ey, rfl⟩ := Option.map_eq_some_iff.mp hy
      have s9 := same_new (o := .tup [.int (0 + (j : Nat)), .str y]) hT2
      have g1' := s9 _ _ g1
      have lj := (List.getElem?_eq_some_iff.mp ey).1
      have lps := ok.lp
      refine ⟨T2, _, rfl, .inl (.inl upd_same), rfl, _, _, rfl, _, _, rfl, rfl, rfl, ?_⟩
      refine ⟨_, rfl, _, rfl, _, rfl, ?_, _, rfl, ?_⟩
      · cases df.falls <;> rfl
      have fin : ∀ u : V, u = .str (ownW df.falls j) → ∃ kvs k, V.str y = kV k ∧ (upd H8 T2 (.tup [.int (0 + (j : Nat)), .str y])) D2 = some (.dK kvs) ∧ kvs.length < sizeLine ∧
          ((upd (upd H8 T2 (.tup [.int (0 + (j : Nat)), .str y])) D2 (.dK (putK kvs k u))) D2 = some (.dK ((scKv df.ps 0 df.falls).take (j + 1))) ∧ Same H7 (upd (upd H8 T2 (.tup [.int (0 + (j : Nat)), .str y])) D2 (.dK (putK kvs k u)))) := by
        rintro u rfl
        have eg := scKv_get (i := 0) (fl := df.falls) ey
        rw [Nat.zero_add] at eg
        refine ⟨_, Sum.inr y, rfl, g1', Nat.lt_of_le_of_lt (show _ ≤ 1000 by rw [List.length_take, scKv_len]; omega) (by decide), ?_, ?_⟩
        · rw [upd_same, get_take eg, putK_new (take_fresh (by rw [scKv_keys]; exact nodup_inrS ok.nd) eg)]
        · exact same_off (g2.trans s9) (l := [D2]) (fun b hb => by rw [List.mem_singleton.mp hb]; exact hD2) (Off.put (by simp))
      unfold ownW at fin
      by_cases e : df.falls = some j
      · rw [if_pos e] at fin
        refine ibT (decide_eq_true ?_) (fin _ rfl)
        rw [e]
        exact congrArg V.int (by omega)
      · rw [if_neg e] at fin
        refine ibF ?_ (fin _ rfl)
        intro z
        have z := of_decide_eq_true z
        cases ef : df.falls with
        | none =>
          rw [ef] at z
          cases z
        | some j2 =>
          rw [ef] at z
          have z := V.int.inj z
          apply e
          rw [ef]
          congr 1
          omega
    · rintro H8 ⟨g1, g2⟩
      rw [List.length_map, List.take_of_length_le (by rw [scKv_len]; omega)] at g1
      obtain ⟨f1, bs1, z1, hw1, hz1, hf1, hm1, hn1, hp1⟩ := ok.wt
      refine ⟨_, rfl, _, rfl, _, rfl, _, rfl, _, rfl, fun x1 dx1 hx1 hdx1 ne1 => ⟨x1, dx1, .ref D, .str df.nm, fallV df.falls, rfl, upd_same, fun H9 e1 e2 => ⟨rfl, ?_⟩⟩⟩
      have s89 : Same H8 H9 := fun c u zc => by
        rw [e2 c (ne_of_none zc hx1), upd_ne (ne_of_none zc hx1), upd_ne (ne_of_none zc hdx1)]
        exact zc
      have s79 := g2.trans s89
      obtain ⟨ckv, c1, c2⟩ := cn7
      refine ⟨v3, D2, x1, df.body, _, df.ps.length, _, clOf (dfs.take i) df, f1, bs1, z1, rfl, Dp.up (s37.trans s79) _ _ e3, ok.nl, scKv_d (s89 _ _ g1) ok.nd, hm1, hf1, ⟨dx1, _, D, e1, clf_c _ _ _, clf_o _ _ _, clf_f _ _ _, ckv, s79 _ _ c1, c2⟩, hw1, hz1, hn1, fun x hx5 => scF_none (hp1 x hx5), fun H10 s10 => ?_⟩
      refine ⟨_, rfl, rfl, _, rfl, ibF (by simp) ?_⟩
      exact ⟨_, _, _, _, _, _, _, _, _, _, rfl, s3.trans (s37.trans (s79.trans s10))⟩
  · rintro σ H2 ⟨_, _, _, _, _, _, _, _, _, _, rfl, s2⟩
    exact q H2 s2
end
/-! books -/
abbrev sIniBk : Stmt := inClass (topS 18) 0
abbrev sLenBk : Stmt := inClass (topS 18) 1
abbrev sGetBk : Stmt := inClass (topS 18) 2
abbrev sEqBk : Stmt := inClass (topS 18) 4
theorem scIniBk : FnScope ["self", "definitions"] ["self", "definitions"] (defScope sIniBk) := ⟨rfl, rfl, rfl, by decide +kernel, rfl, by decide +kernel, by decide +kernel⟩
theorem scLenBk : FnScope ["self"] ["self"] (defScope sLenBk) := ⟨rfl, rfl, rfl, by decide +kernel, rfl, by decide +kernel, by decide +kernel⟩
theorem scGetBk : FnScope ["self", "name", "definition"] ["self", "name"] (defScope sGetBk) := ⟨rfl, rfl, rfl, by decide +kernel, rfl, by decide +kernel, by decide +kernel⟩
theorem scEqBk : FnScope ["self", "other"] ["self", "other"] (defScope sEqBk) := ⟨rfl, rfl, rfl, by decide +kernel, rfl, by decide +kernel, by decide +kernel⟩
def bkf (t : V) : List (Str × V) := putF "definitions" t []
theorem bkf_d (t : V) : (bkf t).lookup ("definitions" : Str) = some t := by
  unfold bkf
  rw [lookup_putF, if_pos rfl]
/-- the class Book -/
structure BkC (K : PySem.W.Frag) (mg : Str → Option Value) (C fE : Addr) : Prop where
  o : OwnC K C fE
  nd : NoAttr K C "definitions"
  mg : mg "Book" = some (.ref C)
/-- a book of these definitions -/
def BookAt (K : PySem.W.Frag) (C : Addr) (H : Hp) (a : Addr) (dfs : List Df) : Prop := ∃ dx t, H a = some (.ins C dx (bkf (.ref t))) ∧ Dp K H (.ref t) (.tuple (dfs.map Df.data))
theorem BookAt.up {K : PySem.W.Frag} {C : Addr} {H H' : Hp} {a : Addr} {dfs : List Df} (s : Same H H') (h : BookAt K C H a dfs) : BookAt K C H' a dfs := by
  obtain ⟨dx, t, h1, h2⟩ := h
  exact ⟨dx, t, s _ _ h1, Dp.up s _ _ h2⟩
/-- definitions that make a book -/
structure DfsOk (n : Nat) (dfs : List Df) : Prop where
  le : dfs.length ≤ 100
  ok : ∀ (i : Nat) (d : Df), dfs[i]? = some d → DfOk n (dfs.take i) d
theorem DfsOk.nl {n : Nat} {dfs : List Df} (h : DfsOk n dfs) : nl (.tuple (dfs.map Df.data)) = true := by
  simp only [Rl.nl]
  have key : ∀ ds : List PyData, (∀ d ∈ ds, Rl.nl d = true) → nls ds = true := fun ds => by
    induction ds with
    | nil => exact fun _ => rfl
    | cons d ds ih =>
      intro g
      simp only [nls, g d List.mem_cons_self, ih fun x hx => g x (List.mem_cons_of_mem _ hx), Bool.and_self]
  refine key _ fun d hd => ?_
  obtain ⟨df, hdf, rfl⟩ := List.mem_map.mp hd
  obtain ⟨i, hi⟩ := List.mem_iff_getElem?.mp hdf
  have ok := h.ok i df hi
  have k2 := key (df.ps.map PyData.str) fun x hx => by
    obtain ⟨y, _, rfl⟩ := List.mem_map.mp hx
    rfl
  have k3 : Rl.nl (fallD df.falls) = true := by cases df.falls <;> rfl
  simp only [Df.data, Rl.nl, nls, k2, k3, ok.nl, Bool.and_self]
def spIniBk (K : PySem.W.Frag) (C : Addr) (n : Nat) : Sp := fun vs H Q _ => ∃ (a dx p : Addr) (us : List V) (dfs : List Df), vs = [.ref a, .ref p] ∧ H a = some (.ins C dx []) ∧ (SqL K H p us ∨ SqT K H p us) ∧ p ≠ a ∧ DpAll K H us (dfs.map Df.data) ∧ DfsOk n dfs ∧
  ∀ H', Off [a] H H' → BookAt K C H' a dfs → Q .non H'
def spLenBk (K : PySem.W.Frag) (C : Addr) : Sp := fun vs H Q _ => ∃ a dfs, vs = [.ref a] ∧ BookAt K C H a dfs ∧ ∀ H', Same H H' → Q (.int (dfs.length : Nat)) H'
def lacks (CE : Addr) (H : Hp) (x : Str) (E : XK) : Prop := ∀ d H', Same H H' → H d = none → H' d = some (.xd [("name", .str x)]) → E (.ref CE) (some d) H'
def spGetBk (K : PySem.W.Frag) (C CE : Addr) : Sp := fun vs H Q E => ∃ (a : Addr) (x : Str) (dfs : List Df), vs = [.ref a, .str x] ∧ BookAt K C H a dfs ∧ dfs.length ≤ 100 ∧
  ((dfs.find? fun d => decide (d.nm = x)) = none → lacks CE H x E) ∧ ∀ d, (dfs.find? fun d => decide (d.nm = x)) = some d → ∀ v H', Same H H' → Dp K H' v d.data → Q v H'
def spEqBk (K : PySem.W.Frag) (C : Addr) : Sp := fun vs H Q _ => ∃ a b dfs efs, vs = [.ref a, .ref b] ∧ BookAt K C H a dfs ∧ BookAt K C H b efs ∧ SeqAt.shaped (.tuple (dfs.map Df.data)) = true ∧ SeqAt.shaped (.tuple (efs.map Df.data)) = true ∧
  ∀ H', Same H H' → Q (.bl (PyData.eqv (.tuple (dfs.map Df.data)) (.tuple (efs.map Df.data)))) H'
section
variable {P : Program} {w : World} {K : PySem.W.Frag} {mg : Str → Option Value} {base : Heap} {f fE fC fI C CE : Addr} {fd dC dI : FuncData}
theorem ok_iniBk {k n : Nat} (F : Fun K "__init__" "Book.__init__" sIniBk f fd) (B : Bi mg) (T : BkC K mg C fE) (GC : Dn P w K mg base (k + 7) "check_definitions" ["definitions"] (spCheck K n) fC dC) : FnOk P w K mg base CX0 (k + 8) f fd ["self", "definitions"] (spIniBk K C n) := by
  refine F.ok scIniBk (fun vs H Q E h => ?_) (fun cdv A outer s H vs Q E hr h => ?_)
  · obtain ⟨a, dx, p, us, dfs, rfl, _⟩ := h
    rfl
  obtain ⟨a, dx, p, us, dfs, rfl, ha, hp, npa, dus, ok, q⟩ := h
  have cl := T.o.c.cl
  refine ⟨_, C8.pss_cut (ps_fld (pv 0) (pe_callTy call_tuple_of (by rfl) B.tup (by decide +kernel) (pa_cons (pv 1) pa_nil)) rfl)
    (pss_one (ps_expr (pe_call GC.ok hr (by rfl) GC.mg GC.kp GC.bd .nil pass0 (pa_cons (pe_fld (pv 0) rfl) pa_nil)))), ?_⟩
  have nta : NT [a] H := .cons (fun xs z => by
    rcases z with z | ⟨o, z⟩
    · rw [ha] at z; cases z
    · rw [ha] at z; cases z) .nil
  have nld := ok.nl
  simp only [Rl.nl] at nld
  refine ⟨fun σ H1 => σ = [some (.ref a), some (.ref p)] ∧ Off [a] H H1 ∧ BookAt K C H1 a dfs, ?_, ?_⟩
  · refine ⟨_, rfl, p, us, rfl, ?_⟩
    rcases hp with hp | hp
    · refine .inl ⟨hp, fun t ht => ⟨_, rfl, a, C, dx, [], rfl, (same_new ht _) _ _ ha, cl, T.nd, (by show 0 < 1000; decide), rfl, ?_, dx, t, upd_same, ?_⟩⟩
      · exact (Off.of (same_new ht _)).trans (Off.put (by simp))
      · have nta2 : t ≠ a := (ne_of_none ha ht).symm
        refine .tup (.inl (.inl ?_)) (DpAll.off dus nta nld ((Off.of (same_new ht _)).trans (Off.put (by simp))))
        rw [upd_ne nta2]
        exact upd_same
    · refine .inr ⟨hp, _, rfl, a, C, dx, [], rfl, ha, cl, T.nd, (by show 0 < 1000; decide), rfl, Off.put (by simp), dx, p, upd_same, ?_⟩
      exact .tup (seqT_off nta (Off.put (by simp)) hp) (DpAll.off dus nta nld (Off.put (by simp)))
  rintro σ H1 ⟨rfl, o1, dx1, t, h1, hd1⟩
  refine ⟨_, rfl, a, C, dx1, _, .ref t, rfl, h1, cl, T.nd, bkf_d _, t, dfs, rfl, hd1, ok.le, ok.ok, fun H2 s2 => ?_⟩
  exact q H2 (o1.trans (Off.of s2)) ⟨dx1, t, s2 _ _ h1, Dp.up s2 _ _ hd1⟩
theorem ok_lenBk {k : Nat} (F : Fun K "__len__" "Book.__len__" sLenBk f fd) (mn : mg "len" = none) (T : BkC K mg C fE) : FnOk P w K mg base CX0 (k + 1) f fd ["self"] (spLenBk K C) := by
  refine F.ok scLenBk (fun vs H Q E h => ?_) (fun cdv A outer s H vs Q E hr h => ?_)
  · obtain ⟨a, dfs, rfl, _⟩ := h
    rfl
  obtain ⟨a, dfs, rfl, ⟨dx, t, h1, h2⟩, q⟩ := h
  refine ⟨_, pss_one (ps_ret (pe_callB call_len_seq (by rfl) mn PySem.boot_len (pa_cons (pe_fld (pv 0) rfl) pa_nil))), ?_⟩
  obtain ⟨t2, us, ds, et, ed, hx, dx2⟩ := tup_of h2 rfl
  cases et
  cases ed
  have lx := DpAll.len dx2
  rw [List.length_map] at lx
  refine ⟨_, rfl, a, C, dx, _, .ref t, rfl, h1, T.o.c.cl, T.nd, bkf_d _, t, _, rfl, .inr hx, ?_⟩
  rw [lx]
  exact q H (Same.refl H)
theorem ok_eqBk {k : Nat} (F : Fun K "__eq__" "Book.__eq__" sEqBk f fd) (B : Bi mg) (T : BkC K mg C fE) : FnOk P w K mg base CX0 (k + 1) f fd ["self", "other"] (spEqBk K C) := by
  refine F.ok scEqBk (fun vs H Q E h => ?_) (fun cdv A outer s H vs Q E hr h => ?_)
  · obtain ⟨a, b, dfs, efs, rfl, _⟩ := h
    rfl
  obtain ⟨a, b, dfs, efs, rfl, ⟨dx, t, h1, h2⟩, ⟨dy, u, g1, g2⟩, sd, se, q⟩ := h
  refine ⟨_, pss_one (ps_ret (pe_and (pe_callB call_isi (by rfl) B.ii b_ii (pa_cons (pv 1) (pa_cons (pe_glob (by rfl) T.mg (v := .ref C) rfl) pa_nil)))
    (pe_one (pe_cmpR (op_eqD hr.units) (pe_fld (pv 0) rfl) (pe_fld (pv 1) rfl) (nomark _))))), ?_⟩
  refine ⟨_, rfl, .ref b, .ref C, _, _, true, rfl, .own C, .base (.ins g1 T.o.c.cl T.o.c.ha T.o.c.hn T.o.c.htk T.o.c.hm), T.o.c.me, _, rfl, iteT ?_⟩
  exact ⟨_, rfl, a, C, dx, _, _, rfl, h1, T.o.c.cl, T.nd, bkf_d _, _, rfl, b, C, dy, _, _, rfl, g1, T.o.c.cl, T.nd, bkf_d _, _, _, h2, g2, sd, se, q H (Same.refl H)⟩
theorem ok_getBk {k : Nat} (F : Fun K "__getitem__" "Book.__getitem__" sGetBk f fd) (T : BkC K mg C fE) (c4 : EC P w K mg base "NoCell" ["name"] ["name"] CE fI dI) : FnOk P w K mg base (L2.CX P w) (k + 3) f fd ["self", "name"] (spGetBk K C CE) := by
  refine F.okX scGetBk (fun vs H Q E h => ?_) (fun cdv A outer s H vs Q E hr h => ?_)
  · obtain ⟨a, x, dfs, rfl, _⟩ := h
    rfl
  obtain ⟨a, x, dfs, rfl, ⟨dx, t, h1, h2⟩, hl, qN, qS⟩ := h
  have hr2 : Room 2 _ := hr.mono (by omega)
  refine ⟨_, pss_cons (ps_for (passes_of rfl) rfl (pi_tup (pe_fld (pv 0) rfl)) (pg_name (i := 2) scGetBk.nd rfl (.inl rfl)) (pss_one (ps_if (pt_cmpR op_eq (pe_ix ix_tup (pv 2) pe_int (fun _ _ => rfl)) (pv 1) (nomark _)) (pss_one (ps_ret (pv 2))) pss_nil)))
    (pss_one (ps_raise rfl (takes_of rfl rfl rfl rfl) (pmk_exK c4.T c4.iC c4.tI c4.ok hr2 c4.bd pass0 (by rfl) c4.mg (pa_cons (pv 1) pa_nil)))), ?_⟩
  obtain ⟨t2, us, ds, et, ed, hx, dxs⟩ := tup_of h2 rfl
  cases et
  cases ed
  have lx := DpAll.len dxs
  rw [List.length_map] at lx
  refine ⟨_, rfl, a, C, dx, _, .ref t, rfl, h1, T.o.c.cl, T.nd, bkf_d _, t, rfl, ⟨_, hx⟩, ?_⟩
  refine for_it (walk_tup (K := K) (a := t) (xs := us)) (fun i σ H2 => ∃ o, σ = [some (.ref a), some (.str x), o] ∧ Same H H2 ∧ ∀ d ∈ dfs.take i, d.nm ≠ x) ⟨none, rfl, Same.refl _, fun d hd => nomatch hd⟩ ?_ ?_ ?_
  · rintro i σ H2 hi ⟨o, rfl, s2, _⟩
    exact seqT_up s2 hx
  · rintro i y σ H2 H3 hi ⟨o, rfl, s2, hno⟩ ⟨rfl, hy⟩
    obtain ⟨d0, ed0, dy⟩ := DpAll.get dxs hy
    rw [List.getElem?_map] at ed0
    obtain ⟨df, edf, rfl⟩ := Option.map_eq_some_iff.mp ed0
    have dy2 := Dp.up s2 _ _ dy
    obtain ⟨b, ws, eds, rfl, e2, hb, dw⟩ := tup_of dy2 rfl
    cases e2
    obtain ⟨v0, ws, rfl, _, e0, dw⟩ := dpall_cons dw
    cases e0
    refine ⟨_, rfl, b, _, 0, _, rfl, rfl, hb, atI_nat (j := 0) rfl, _, rfl, rfl, _, rfl, ?_⟩
    by_cases e : df.nm = x
    · refine ieT e ⟨_, rfl, qS df ?_ _ _ s2 dy2⟩
      rw [List.find?_eq_some_iff_getElem]
      have li := (List.getElem?_eq_some_iff.mp edf)
      refine ⟨decide_eq_true e, i, li.1, li.2, fun j hj => ?_⟩
      have z := hno (dfs[j]'(by omega)) (List.mem_iff_getElem?.mpr ⟨j, by rw [List.getElem?_take, if_pos hj]; exact List.getElem?_eq_getElem (by omega)⟩)
      simp [z]
    · refine ieF e ⟨_, rfl, s2, fun d hd => ?_⟩
      rw [get_take edf] at hd
      rcases List.mem_append.mp hd with hd | hd
      · exact hno d hd
      · rw [List.mem_singleton.mp hd]
        exact e
  · rintro σ H2 ⟨o, rfl, s2, hno⟩
    have enone : (dfs.find? fun d => decide (d.nm = x)) = none := by
      rw [List.find?_eq_none]
      intro d hd
      have z := hno d (by rw [List.take_of_length_le (by omega)]; exact hd)
      simp [z]
    refine ⟨_, rfl, by (show 1 ≤ 1000); decide, fun a1 h1 => ⟨a1, [.str x], rfl, rfl, upd_same, fun x1 H5 n1 e1' E1 k1 => ⟨rfl, x1, [("name", .str x)], E1.1, E1.2, by (rw [upd_ne e1'] at n1; exact n1), ?_⟩⟩⟩
    have n1' : H2 x1 = none := by
      rw [upd_ne e1'] at n1
      exact n1
    exact qN enone x1 _ (s2.trans (flown h1 n1' k1)) (s2.free n1') upd_same
end
/-! look_body -/
abbrev sLook : Stmt := topS 20
theorem scLook : FnScope ["book", "body", "name", "found"] ["book", "body", "name"] (defScope sLook) := ⟨rfl, rfl, rfl, by decide +kernel, rfl, by decide +kernel, by decide +kernel⟩
def cnB (dfs : List Df) : Str → Option Nat := fun x => (dfs.find? fun e => decide (e.nm = x)).map (·.ps.length)
def clB (dfs : List Df) : Cl := ⟨cnB dfs, none, none⟩
/-- a body of a cell in which nothing is wrong -/
structure BodyOk (n : Nat) (dfs : List Df) (d : PyData) : Prop where
  nl : nl d = true
  wt : ∃ f bs z, Wt n (clB dfs) f (fun _ => none) 101 d bs z ∧ z ≤ 900 ∧ f ≤ 400 ∧ 2 * f + nod d ≤ 890 ∧ bs.Nodup
def spLookB (K : PySem.W.Frag) (CB : Addr) (n : Nat) : Sp := fun vs H Q _ => ∃ (a : Addr) (v : V) (nm : Str) (dfs : List Df) (d : PyData), vs = [.ref a, v, .str nm] ∧ BookAt K CB H a dfs ∧ (dfs.map (·.nm)).Nodup ∧ dfs.length ≤ 100 ∧ Dp K H v d ∧ BodyOk n dfs d ∧ ∀ H', Same H H' → Q (.bl true) H'
section
variable {P : Program} {w : World} {K : PySem.W.Frag} {mg : Str → Option Value} {base : Heap} {f fE fC fF fI C CB : Addr} {fd dC dF dI : FuncData}
theorem ok_look {k n : Nat} (F : Fun K "look_body" "look_body" sLook f fd) (T : BkC K mg CB fE) (CC : CaC K C) (MK : MkCa P w K mg base C fI dI) (GC : Dn P w K mg base 1 "counts_in" ["definitions"] (spCounts K) fC dC)
    (GF : Dn P w K mg base (k + 6) "first_wrong_tree" ["body", "parameters", "calls"] (spFirst K C n) fF dF) : FnOk P w K mg base CX0 (k + 7) f fd ["book", "body", "name"] (spLookB K CB n) := by
  refine F.ok scLook (fun vs H Q E h => ?_) (fun cdv A outer s H vs Q E hr h => ?_)
  · obtain ⟨a, v, nm, dfs, d, rfl, _⟩ := h
    rfl
  obtain ⟨a, v, nm, dfs, d, rfl, ⟨dx, t, h1, h2⟩, hnd, hl, hd, hb, q⟩ := h
  have hr1 : Room 1 _ := hr.mono (by omega)
  have hr2' : Room (1 + 1) _ := hr.mono (by omega)
  refine ⟨_, pss_cons (ps_set (i := 3) scLook.nd rfl (.inl rfl) (pe_call GF.ok hr (by rfl) GF.mg GF.kp GF.bd .nil pass0 (pa_cons (pv 1) (pa_cons pe_dnewK (pa_cons (pe_make MK.mkr MK.ok hr2' (by rfl) MK.mg MK.bd .nil pass0
      (pa_cons (pe_call GC.ok hr1 (by rfl) GC.mg GC.kp GC.bd .nil pass0 (pa_cons (pe_fld (pv 0) rfl) pa_nil)) (pa_cons pe_non (pa_cons pe_non pa_nil)))) pa_nil)))))
    (pss_cons (ps_if (pt_cmpR op_notN (pv 3) pe_non rfl) (pss_one ps_never) pss_nil)
    (pss_one (ps_ret pe_bl))), ?_⟩
  refine ⟨_, rfl, fun e he => ?_⟩
  have s1 : Same H (upd H e (.dK [])) := same_new he _
  have he1 : (upd H e (.dK [])) e = some (.dK []) := upd_same
  generalize upd H e (.dK []) = H1 at s1 he1
  refine ⟨_, rfl, a, CB, dx, _, .ref t, rfl, s1 _ _ h1, T.o.c.cl, T.nd, bkf_d _, t, dfs, rfl, Dp.up s1 _ _ h2, hnd, by omega, fun D H2 s2 hD hDd => fun x1 dx1 hx1 hdx1 ne1 => ⟨x1, dx1, .ref D, .non, .non, rfl, upd_same, fun H9 e1 e2 => ⟨rfl, ?_⟩⟩⟩
  have s29 : Same H2 H9 := fun c u zc => by
    rw [e2 c (ne_of_none zc hx1), upd_ne (ne_of_none zc hx1), upd_ne (ne_of_none zc hdx1)]
    exact zc
  obtain ⟨f1, bs1, z1, hw1, hz1, hf1, hm1, hn1⟩ := hb.wt
  have s19 := s1.trans (s2.trans s29)
  have hsd : ScD H9 e (fun _ => none) 0 [] := ⟨s29 _ _ (s2 _ _ he1), (fun p hp => absurd hp List.not_mem_nil), List.nodup_nil, fun x => rfl, Nat.le_refl _, (fun x s e => by cases e)⟩
  refine ⟨v, e, x1, d, _, 0, [], clB dfs, f1, bs1, z1, rfl, Dp.up s19 _ _ hd, hb.nl, hsd, by omega, hf1, ⟨dx1, _, D, e1, clf_c _ _ _, clf_o _ _ _, clf_f _ _ _, cntL dfs, s29 _ _ hDd, cntL_vl dfs⟩, hw1, hz1, hn1, fun x hx5 => rfl, fun H10 s10 => ?_⟩
  exact ⟨_, rfl, rfl, _, rfl, ibF (by simp) (q H10 (s19.trans s10))⟩
end
abbrev sPick : Stmt := topS 34
abbrev sForms : Stmt := topS 36
theorem scPick : FnScope ["_law_box_here", "_law_items"] ["_law_box_here", "_law_items"] (defScope sPick) := ⟨rfl, rfl, rfl, by decide +kernel, rfl, by decide +kernel, by decide +kernel⟩
theorem scForms : FnScope ["_law_sort", "_law_found", "_law_more", "_law_tests"] ["_law_sort"] (defScope sForms) := ⟨rfl, rfl, rfl, by decide +kernel, rfl, by decide +kernel, by decide +kernel⟩
theorem b_dict : bootBuiltins "dict" = some (.type "dict") := by decide +kernel
def kvL (l : List (Str × Str)) : List (Key × V) := l.map fun p => (Sum.inr p.1, V.str p.2)
theorem mergeK_new : ∀ (more kvs : List (Key × V)), ((kvs ++ more).map Prod.fst).Nodup → mergeK kvs more = kvs ++ more
  | [], kvs, _ => by simp [mergeK]
  | (k, v) :: r, kvs, h => by
    have e : putK kvs k v = kvs ++ [(k, v)] := putK_new fun p hp e => by
      rw [List.map_append, List.nodup_append] at h
      exact h.2.2 p.1 (List.mem_map.mpr ⟨p, hp, rfl⟩) k (by simp) e
    show mergeK (putK kvs k v) r = _
    rw [e, mergeK_new r (kvs ++ [(k, v)]) (by rw [List.append_assoc]; exact h), List.append_assoc]
    rfl
theorem kvL_nodup {l : List (Str × Str)} (h : (l.map Prod.fst).Nodup) : ((kvL l).map Prod.fst).Nodup := by
  unfold kvL
  rw [List.map_map]
  have e : (Prod.fst ∘ fun p : Str × Str => ((Sum.inr p.1 : Key), V.str p.2)) = (fun x : Str => (Sum.inr x : Key)) ∘ Prod.fst := rfl
  rw [e, ← List.map_map]
  exact List.Pairwise.map _ (fun a b n z => n (Sum.inr.inj z)) h
theorem merge_kvL {l : List (Str × Str)} (h : (l.map Prod.fst).Nodup) : mergeK [] (kvL l) = kvL l := mergeK_new _ _ (kvL_nodup h)
theorem kvL_app (a b : List (Str × Str)) : kvL (a ++ b) = kvL a ++ kvL b := List.map_append
theorem nd_ex : (exL.map Prod.fst).Nodup := by decide +kernel
theorem nd_te : (teL.map Prod.fst).Nodup := by decide +kernel
theorem nd_all : (allL.map Prod.fst).Nodup := by decide +kernel
def spPick : Sp := fun vs H Q _ => ∃ p g a xs, vs = [.ref p, .ref a] ∧ Box H p g ∧ H a = some (.lst xs) ∧ a ∉ [p, g] ∧ 0 < xs.length ∧ xs.length ≤ 1000 ∧ ∀ x ∈ xs, ∀ H', Box H' p g → Off [p, g] H H' → Q x H'
def spForms : Sp := fun vs H Q _ => ∃ s, vs = [.str s] ∧ ∀ p H', Same H H' → H p = none → H' p = some (.dK (kvL (if s = "t" then teL else exL))) → Q (.ref p) H'
section
variable {P : Program} {w : World} {K : PySem.W.Frag} {mg : Str → Option Value} {base : Heap} {f fT : Addr} {fd dT : FuncData}
theorem ok_pick {k : Nat} (F : Fun K "_law_pick" "_law_pick" sPick f fd) (mn : mg "len" = none) (T : Tk P w K mg base fT dT) : FnOk P w K mg base CX0 (k + 2) f fd ["_law_box_here", "_law_items"] spPick := by
  refine F.ok scPick (fun vs H Q E h => ?_) (fun cdv A outer s H vs Q E hr h => ?_)
  · obtain ⟨p, g, a, xs, rfl, _⟩ := h
    rfl
  obtain ⟨p, g, a, xs, rfl, hb, ha, na, l0, l1, q⟩ := h
  have hr1 : Room 1 _ := hr.mono (by omega)
  refine ⟨_, pss_one (ps_ret (pe_ix ix_list (pv 1) (pe_call T.ok hr1 (by rfl) T.mg T.kp T.bd .nil pass0 (pa_cons (pv 0) (pa_cons (pe_callB call_len_seq (by rfl) mn PySem.boot_len (pa_cons (pv 1) pa_nil)) pa_nil))) (fun _ _ => rfl))), ?_⟩
  refine ⟨_, rfl, _, rfl, _, rfl, a, xs, rfl, .inl (SqL.of ha), p, g, _, rfl, hb, by omega, ?_, fun r H1 r0 r1 b1 o1 => ?_⟩
  · show xs.length < 2 ^ 200
    exact Nat.lt_of_le_of_lt l1 (by decide)
  obtain ⟨x, hx, mx, _⟩ := atI_ok (xs := xs) r0 r1
  exact ⟨a, _, _, x, rfl, rfl, SqL.of (o1.get ha na), hx, q x mx H1 b1 o1⟩
theorem ok_forms {k : Nat} (F : Fun K "_law_forms" "_law_forms" sForms f fd) (md : mg "dict" = none) (ml : mg "list" = none) : FnOk P w K mg base CX0 (k + 1) f fd ["_law_sort"] spForms := by
  refine F.ok scForms (fun vs H Q E h => ?_) (fun cdv A outer s H vs Q E hr h => ?_)
  · obtain ⟨s, rfl, _⟩ := h
    rfl
  obtain ⟨srt, rfl, q⟩ := h
  refine ⟨_, pss_cons (ps_set (i := 1) scForms.nd rfl (.inl rfl) (pe_disp (pps_cons pe_str pe_str (pps_cons pe_str pe_str (pps_cons pe_str pe_str (pps_cons pe_str pe_str (pps_cons pe_str pe_str (pps_cons pe_str pe_str (pps_cons pe_str pe_str (pps_cons pe_str pe_str pps_nil)))))))) (by rfl) (by rfl) (fun z => by cases z) (by decide)))
    (pss_cons (ps_set (i := 2) scForms.nd rfl (.inl rfl) (pe_disp (pps_cons pe_str pe_str (pps_cons pe_str pe_str (pps_cons pe_str pe_str (pps_cons pe_str pe_str (pps_cons pe_str pe_str (pps_cons pe_str pe_str (pps_cons pe_str pe_str pps_nil))))))) (by rfl) (by rfl) (fun z => by cases z) (by decide)))
    (pss_cons (ps_set (i := 3) scForms.nd rfl (.inl rfl) (pe_disp (pps_cons pe_str pe_str (pps_cons pe_str pe_str (pps_cons pe_str pe_str (pps_cons pe_str pe_str (pps_cons pe_str pe_str (pps_cons pe_str pe_str (pps_cons pe_str pe_str pps_nil))))))) (by rfl) (by rfl) (fun z => by cases z) (by decide)))
    (pss_one (ps_ret (pe_ifExp (pt_cmpR op_eq (pv 0) pe_str (nomark _)) (pv 3) (pe_callTy (call_dictP rfl) (by rfl) md b_dict (pa_cons
      (pe_op op_cat (pe_op op_cat (LiI.pe_listItems (by rfl) (pv 1) (by rfl) ml b_list) (LiI.pe_listItems (by rfl) (pv 2) (by rfl) ml b_list)) (pe_lst (pa_cons (pe_tup (pa_cons pe_str (pa_cons pe_str pa_nil))) pa_nil))) pa_nil))))))), ?_⟩
  refine fun p1 h1 => ⟨upd_same, kvL (exL.take 8), rfl, by decide, fun p2 h2 => ⟨upd_same, kvL ((exL.drop 8).take 7), rfl, by decide, fun p3 h3 => ⟨upd_same, kvL teL, rfl, by decide, ?_⟩⟩⟩
  rw [merge_kvL (by decide +kernel)] at h2
  rw [merge_kvL (by decide +kernel), merge_kvL (by decide +kernel)] at h3
  rw [merge_kvL (by decide +kernel), merge_kvL (by decide +kernel), merge_kvL (by decide +kernel)]
  have sA : Same H (upd (upd H p1 (.dK [])) p1 (.dK (kvL (exL.take 8)))) := fun b u z => by
    rw [upd_ne (ne_of_none z h1), upd_ne (ne_of_none z h1)]
    exact z
  have hA1 : (upd (upd H p1 (.dK [])) p1 (.dK (kvL (exL.take 8)))) p1 = some (.dK (kvL (exL.take 8))) := upd_same
  generalize upd (upd H p1 (.dK [])) p1 (.dK (kvL (exL.take 8))) = HA at *
  have sB : Same HA (upd (upd HA p2 (.dK [])) p2 (.dK (kvL ((exL.drop 8).take 7)))) := fun b u z => by
    rw [upd_ne (ne_of_none z h2), upd_ne (ne_of_none z h2)]
    exact z
  have hB2 : (upd (upd HA p2 (.dK [])) p2 (.dK (kvL ((exL.drop 8).take 7)))) p2 = some (.dK (kvL ((exL.drop 8).take 7))) := upd_same
  generalize upd (upd HA p2 (.dK [])) p2 (.dK (kvL ((exL.drop 8).take 7))) = HB at *
  have sC : Same HB (upd (upd HB p3 (.dK [])) p3 (.dK (kvL teL))) := fun b u z => by
    rw [upd_ne (ne_of_none z h3), upd_ne (ne_of_none z h3)]
    exact z
  have hC3 : (upd (upd HB p3 (.dK [])) p3 (.dK (kvL teL))) p3 = some (.dK (kvL teL)) := upd_same
  generalize upd (upd HB p3 (.dK [])) p3 (.dK (kvL teL)) = HC at *
  have s3 := sA.trans (sB.trans sC)
  refine ⟨_, rfl, rfl, _, rfl, ite2 (fun c => ⟨_, rfl, ?_⟩) (fun c => ?_)⟩
  · have c : srt = "t" := V.str.inj (of_decide_eq_true c)
    exact q p3 HC s3 ((sA.trans sB).free h3) (by rw [if_pos c]; exact hC3)
  · have c : ¬ srt = "t" := fun z => c (decide_eq_true (by rw [z]))
    refine ⟨_, rfl, p1, _, rfl, sC _ _ (sB _ _ hA1), fun H5 l1 ts1 s5 hl1 ht1 nl1 e1 P1 => ?_⟩
    have s5 : Same HC H5 := s5
    refine ⟨_, rfl, p2, _, rfl, s5 _ _ (sC _ _ hB2), fun H6 l2 ts2 s6 hl2 ht2 nl2 e2 P2 => ?_⟩
    have s6 : Same H5 H6 := s6
    have t1 := P1.length
    have t2 := P2.length
    have q1 : (kvL (exL.take 8)).length = 8 := by decide +kernel
    have q2 : (kvL ((exL.drop 8).take 7)).length = 7 := by decide +kernel
    refine ⟨l1, l2, _, _, rfl, rfl, s6 _ _ e1, e2, few (by rw [List.length_map, List.length_map]; omega), fun l3 hl3 => ⟨few (by simp), fun t3 ht3 => ⟨few (by simp), fun l4 hl4 => ?_⟩⟩⟩
    have s7 : Same H6 (upd H6 l3 (.lst (ts1.map V.ref ++ ts2.map V.ref))) := same_new hl3 _
    have e3 : (upd H6 l3 (.lst (ts1.map V.ref ++ ts2.map V.ref))) l3 = some (.lst (ts1.map V.ref ++ ts2.map V.ref)) := upd_same
    generalize upd H6 l3 (.lst (ts1.map V.ref ++ ts2.map V.ref)) = H7 at *
    have s8 : Same H7 (upd H7 t3 (.tup [.str "fail", .str "n"])) := same_new ht3 _
    have e4 : (upd H7 t3 (.tup [.str "fail", .str "n"])) t3 = some (.tup [.str "fail", .str "n"]) := upd_same
    generalize upd H7 t3 (.tup [.str "fail", .str "n"]) = H8 at *
    have s9 : Same H8 (upd H8 l4 (.lst [.ref t3])) := same_new hl4 _
    have e5 : (upd H8 l4 (.lst [.ref t3])) l4 = some (.lst [.ref t3]) := upd_same
    generalize upd H8 l4 (.lst [.ref t3]) = H9 at *
    refine ⟨l3, l4, _, _, rfl, rfl, s9 _ _ (s8 _ _ e3), e5, few (by simp only [List.length_append, List.length_map, List.length_cons, List.length_nil]; omega), fun l5 hl5 => ?_⟩
    have s10 : Same H9 (upd H9 l5 (.lst (ts1.map V.ref ++ ts2.map V.ref ++ [.ref t3]))) := same_new hl5 _
    have e6 : (upd H9 l5 (.lst (ts1.map V.ref ++ ts2.map V.ref ++ [.ref t3]))) l5 = some (.lst (ts1.map V.ref ++ ts2.map V.ref ++ [.ref t3])) := upd_same
    generalize upd H9 l5 (.lst (ts1.map V.ref ++ ts2.map V.ref ++ [.ref t3])) = HX at *
    have up : ∀ {H1 H2 : Hp} {ts : List Addr} {kvs : List (Key × V)}, Same H1 H2 → Paired (fun (t : Addr) (q : Key × V) => H1 t = some (.tup [kV q.1, q.2])) ts kvs → Paired (fun (t : Addr) (q : Key × V) => SqT K H2 t [kV q.1, q.2]) ts kvs := fun s p => paired_mono (fun a b z => .inl (.inl (s _ _ z))) p
    refine ⟨l5, ts1 ++ ts2 ++ [t3], kvL exL, rfl, ?_, ?_, fun r hr5 => ?_⟩
    · refine SqL.of ?_
      rw [e6, List.map_append, List.map_append]
      rfl
    · have e7 : kvL exL = kvL (exL.take 8) ++ kvL ((exL.drop 8).take 7) ++ [((Sum.inr "fail" : Key), V.str "n")] := by decide +kernel
      rw [e7]
      exact paired_app (paired_app (up (s6.trans (s7.trans (s8.trans (s9.trans s10)))) P1) (up (s7.trans (s8.trans (s9.trans s10))) P2)) (.cons (.inl (.inl (s10 _ _ (s9 _ _ e4)))) .nil)
    · rw [merge_kvL nd_ex]
      have sX : Same H HX := s3.trans (s5.trans (s6.trans (s7.trans (s8.trans (s9.trans s10)))))
      exact q r _ (sX.trans (same_new hr5 _)) (sX.free hr5) (by rw [if_neg c]; exact upd_same)
end
/-! the law: mixed, locals -/
abbrev sMixed : Stmt := topS 35
abbrev sLocals : Stmt := topS 42
theorem scMixed : FnScope ["_law_box_here", "_law_items", "_law_left", "_law_found", "_law_turn"] ["_law_box_here", "_law_items"] (defScope sMixed) := ⟨rfl, rfl, rfl, by decide +kernel, rfl, by decide +kernel, by decide +kernel⟩
theorem scLocals : FnScope ["_law_box_here", "_law_found", "_law_one", "_law_other"] ["_law_box_here"] (defScope sLocals) := ⟨rfl, rfl, rfl, by decide +kernel, rfl, by decide +kernel, by decide +kernel⟩
theorem off_fresh {l m : List Addr} {H H2 H3 : Hp} (o : Off l H H2) (lm : ∀ b ∈ l, b ∈ m) (fr : ∀ b ∈ m, b ∉ l → H b = none) (o2 : Off m H2 H3) : Off l H H3 := fun b u z => by
  obtain ⟨z1, z2⟩ := cut_some z
  rw [cut_out z1]
  refine o2.get (o.get z2 z1) fun hm => ?_
  rw [fr b hm z1] at z2
  cases z2
theorem seqIndex_nat {j n : Nat} (h : j < n) : seqIndex? (j : Int) n = some j := by
  unfold seqIndex?
  simp [show ¬ ((j : Int) < 0) by omega, h]
theorem erase_perm {α : Type} : ∀ {l : List α} {j : Nat} (h : j < l.length), (l[j] :: l.eraseIdx j).Perm l
  | a :: l, 0, _ => List.Perm.refl _
  | a :: l, j + 1, h => by
    have h2 : j < l.length := by simpa using h
    show (l[j] :: a :: l.eraseIdx j).Perm (a :: l)
    exact (List.Perm.swap a l[j] _).trans (List.Perm.cons a (erase_perm h2))
def spMixed (K : PySem.W.Frag) : Sp := fun vs H Q _ => ∃ (p g a : Addr) (xs : List V), vs = [.ref p, .ref a] ∧ Box H p g ∧ SqL K H a xs ∧ xs.length ≤ 900 ∧
  ∀ L ys H', Box H' p g → Off [p, g] H H' → H L = none → H' L = some (.lst ys) → ys.Perm xs → Q (.ref L) H'
section
variable {X : Cx}
theorem call_listS (hc : X.calm = true) : CallR X (.type "list") (fun xs H Q => ∃ x, xs = [.str x] ∧ x.length ≤ sizeLine ∧ ∀ l, H l = none → Q (.ref l) (upd H l (.lst (x.cps.toList.map fun c => V.str ⟨#[c]⟩)))) := by
  intro pins s σ H xs us Q I r h
  obtain ⟨x, rfl, hx, q⟩ := h
  obtain ⟨u, rfl, rx⟩ := vals1 r
  obtain ⟨t, rfl⟩ := rx
  refine PySem.call_list_str (I.ok.hd hc) x t (fun h' tk acc c kp e it => ?_) hx
  have rv : Vals (x.cps.toList.map fun c => V.str ⟨#[c]⟩) acc.toList := by
    refine vals_of_idx _ _ ?_ fun j u hj => ?_
    · rw [List.length_map, Array.length_toList, it.1, Array.length_toList]
    · obtain ⟨c, t2, hc2, rfl⟩ := it.2 j u (by simpa using hj)
      exact ⟨.str ⟨#[c]⟩, by rw [List.getElem?_map, cps_at hc2]; rfl, t2, rfl⟩
  exact ⟨.ref s.heap.objs.size, _, I.laid (t' := tk) kp (Nat.le_refl _) (show ObjOk X.prog X.w _ h' _ (.lst _) from ⟨by rw [List.length_map, Array.length_toList]; exact hx, acc.toList, c, rv, by rw [Array.toArray_toList]; exact e⟩), rfl, q _ (I.hok.fresh (Nat.le_refl _))⟩
end
def heads4 : List Str := ["", "p", "if", "abcdefg"]
def lets12 : List Str := ("bcdefghijkmn" : Str).cps.toList.map fun c => ⟨#[c]⟩
def names48 : List Str := heads4.flatMap fun o => lets12.map fun c => o ++ c
theorem names48_nd : names48.Nodup := by decide +kernel
theorem names48_len : names48.length = 48 := by decide +kernel
theorem names48_nm : ∀ x ∈ names48, isNm x = true := by decide +kernel
theorem heads4_len : ∀ x ∈ heads4, x.length ≤ 100 := by decide +kernel
theorem lets12_len : ∀ x ∈ lets12, x.length ≤ 100 := by decide +kernel
theorem perm_strs {ys : List V} {xs : List Str} (h : ys.Perm (xs.map V.str)) : ∃ zs : List Str, ys = zs.map V.str ∧ zs.Perm xs := by
  let un : V → Str := fun v => match v with | .str x => x | _ => ""
  have e : ∀ l : List Str, (l.map V.str).map un = l := fun l => by
    rw [List.map_map]
    exact (List.map_congr_left fun x _ => rfl).trans (List.map_id l)
  refine ⟨ys.map un, ?_, ?_⟩
  · have key : ∀ v ∈ ys, V.str (un v) = v := fun v hv => by
      obtain ⟨x, _, rfl⟩ := List.mem_map.mp (h.mem_iff.mp hv)
      rfl
    rw [List.map_map]
    exact ((List.map_congr_left fun v hv => key v hv).trans (List.map_id ys)).symm
  · have z := h.map un
    rw [e] at z
    exact z
def spLocals : Sp := fun vs H Q _ => ∃ (p g : Addr), vs = [.ref p] ∧ Box H p g ∧ ∀ (L : Addr) (ys : List Str) (H' : Hp), Box H' p g → Off [p, g] H H' → H L = none → H' L = some (.lst (ys.map V.str)) → ys.Perm names48 → Q (.ref L) H'
section
variable {P : Program} {w : World} {K : PySem.W.Frag} {mg : Str → Option Value} {base : Heap} {f fT fM : Addr} {fd dT dM : FuncData}
theorem ok_mixed {k : Nat} (F : Fun K "_law_mixed" "_law_mixed" sMixed f fd) (B : Bi mg) (ml : mg "list" = none) (T : Tk P w K mg base fT dT) : FnOk P w K mg base CX0 (k + 2) f fd ["_law_box_here", "_law_items"] (spMixed K) := by
  refine F.ok scMixed (fun vs H Q E h => ?_) (fun cdv A outer s H vs Q E hr h => ?_)
  · obtain ⟨p, g, a, xs, rfl, _⟩ := h
    rfl
  obtain ⟨p, g, a, xs, rfl, hb, ha, hl, q⟩ := h
  have hr1 : Room 1 _ := hr.mono (by omega)
  refine ⟨_, pss_cons (ps_par (i := 2) (j := 3) (by rfl) scMixed.nd rfl rfl (by decide) rfl rfl (pa_cons (pe_callTy call_list_of (by rfl) ml PyProof.Rows.boot_list (pa_cons (pv 1) pa_nil)) (pa_cons (pe_lst pa_nil) pa_nil)) (by rfl))
    (pss_cons (ps_for PassesOwn.never rfl (pi_range1 (by rfl) B.rng (pa_cons (pe_callB call_len_seq (by rfl) B.len PySem.boot_len (pa_cons (pv 2) pa_nil)) pa_nil)) (pg_name (i := 4) scMixed.nd rfl (.inl rfl))
      (pss_one (ps_expr (pe_bm PySem.F.plainAttrs_list PySem.F.slot_list_append PySem.F.type_list_append mt_append (pv 3) (pa_cons
        (pe_bm PySem.F.plainAttrs_list PySem.F.slot_list_pop PySem.F.type_list_pop mt_popAt (pv 2) (pa_cons (pe_call T.ok hr1 (by rfl) T.mg T.kp T.bd .nil pass0 (pa_cons (pv 0) (pa_cons (pe_callB call_len_seq (by rfl) B.len PySem.boot_len (pa_cons (pv 2) pa_nil)) pa_nil))) pa_nil)) pa_nil)))))
    (pss_one (ps_ret (pv 3)))), ?_⟩
  refine ⟨_, rfl, a, xs, rfl, .inl ha, fun L hL => ⟨by decide, fun R hR => ?_⟩⟩
  have hL0 : (upd H L (.lst xs)) L = some (.lst xs) := upd_same
  have nLR : L ≠ R := ne_of_none hL0 hR
  have hR0 : H R = none := (same_new hL _).free hR
  obtain ⟨_, _, _, _, e1, e2, _⟩ := hb.ex
  have npL : p ≠ L := ne_of_none e1 hL
  have ngL : g ≠ L := ne_of_none e2 hL
  have npR : p ≠ R := ne_of_none e1 hR0
  have ngR : g ≠ R := ne_of_none e2 hR0
  have s1 : Same H (upd (upd H L (.lst xs)) R (.lst [])) := (same_new hL _).trans (same_new hR _)
  have hL1 : (upd (upd H L (.lst xs)) R (.lst [])) L = some (.lst xs) := by rw [upd_ne nLR]; exact upd_same
  have hR1 : (upd (upd H L (.lst xs)) R (.lst [])) R = some (.lst []) := upd_same
  generalize upd (upd H L (.lst xs)) R (.lst []) = H1 at s1 hL1 hR1
  have fr : ∀ b ∈ [p, g, L, R], b ∉ [p, g] → H b = none := fun b hb nb => by
    simp only [List.mem_cons, List.not_mem_nil, or_false, not_or] at hb nb
    rcases hb with e | e | e | e
    · exact absurd e nb.1
    · exact absurd e nb.2
    · rw [e]; exact hL
    · rw [e]; exact hR0
  refine ⟨_, _, rfl, _, rfl, L, xs, rfl, .inl (SqL.of hL1), (xs.length : Nat), rfl, by omega, by omega, for_range (lo := 0) (n := ((xs.length : Nat) : Int).toNat) (fun i σ H2 => ∃ o ls fs, σ = [some (.ref p), some (.ref a), some (.ref L), some (.ref R), o] ∧
    H2 L = some (.lst ls) ∧ H2 R = some (.lst fs) ∧ ls.length + i = xs.length ∧ (fs ++ ls).Perm xs ∧ Box H2 p g ∧ Off [p, g] H H2) ⟨none, xs, [], rfl, hL1, hR1, rfl, by simp, hb.same s1, Off.of s1⟩ ?_ ?_⟩
  · rintro i σ H2 hi ⟨o, ls, fs, rfl, h1, h2, h3, h4, h5, h6⟩
    rw [Int.toNat_natCast] at hi
    have lf : fs.length ≤ 900 := by
      have z := h4.length_eq
      rw [List.length_append] at z
      omega
    refine ⟨_, rfl, .inl ⟨rfl, _, SqL.of h2⟩, _, rfl, .inl ⟨rfl, _, SqL.of h1⟩, _, rfl, _, rfl, L, ls, rfl, .inl (SqL.of h1), p, g, _, rfl, h5, by omega, ?_, fun r H3 r0 r1 b3 o3 => ?_⟩
    · show ls.length < 2 ^ 200
      exact Nat.lt_of_le_of_lt (show ls.length ≤ 900 by omega) (by decide)
    have h1' := o3.get h1 (by simp [npL.symm, ngL.symm])
    have h2' := o3.get h2 (by simp [npR.symm, ngR.symm])
    obtain ⟨j, rfl⟩ : ∃ j : Nat, r = j := ⟨r.toNat, by omega⟩
    have hj : j < ls.length := by omega
    refine ⟨L, ls, _, j, ls[j], rfl, rfl, h1', by omega, by omega, seqIndex_nat hj, List.getElem?_eq_getElem hj, ?_⟩
    have h2'' : (upd H3 L (.lst (ls.eraseIdx j))) R = some (.lst fs) := by
      rw [upd_ne nLR.symm]
      exact h2'
    refine ⟨R, fs, _, rfl, rfl, h2'', small1000 (by omega), ?_⟩
    refine ⟨_, ls.eraseIdx j, fs ++ [ls[j]], rfl, ?_, upd_same, ?_, ?_, ?_, ?_⟩
    · rw [upd_ne nLR]
      exact upd_same
    · rw [List.length_eraseIdx, if_pos hj]
      omega
    · refine List.Perm.trans ?_ h4
      rw [List.append_assoc]
      exact List.Perm.append_left _ (erase_perm hj)
    · exact b3.off (l := [L, R]) ((Off.put (by simp)).trans (Off.put (by simp))) (by simp [npL, npR]) (by simp [ngL, ngR])
    · exact off_fresh h6 (fun b hb => by simp only [List.mem_cons, List.not_mem_nil, or_false] at hb ⊢; rcases hb with e | e; exact .inl e; exact .inr (.inl e)) fr ((o3.mono (fun b hb => by simp only [List.mem_cons, List.not_mem_nil, or_false] at hb ⊢; rcases hb with e | e; exact .inl e; exact .inr (.inl e))).trans ((Off.put (by simp)).trans (Off.put (by simp))))
  · rintro σ H2 ⟨o, ls, fs, rfl, h1, h2, h3, h4, h5, h6⟩
    have e0 : ls = [] := by
      rw [Int.toNat_natCast] at h3
      exact List.length_eq_zero_iff.mp (by omega)
    subst e0
    rw [List.append_nil] at h4
    exact ⟨_, rfl, q R fs H2 h5 h6 hR0 h2 h4⟩
theorem ok_locals {k : Nat} (F : Fun K "_law_locals" "_law_locals" sLocals f fd) (ml : mg "list" = none) (GM : Dn P w K mg base 2 "_law_mixed" ["_law_box_here", "_law_items"] (spMixed K) fM dM) : FnOk P w K mg base CX0 (k + 3) f fd ["_law_box_here"] spLocals := by
  refine F.ok scLocals (fun vs H Q E h => ?_) (fun cdv A outer s H vs Q E hr h => ?_)
  · obtain ⟨p, g, rfl, _⟩ := h
    rfl
  obtain ⟨p, g, rfl, hb, q⟩ := h
  have hr2 : Room 2 _ := hr.mono (by omega)
  refine ⟨_, pss_cons (ps_set (i := 1) scLocals.nd rfl (.inl rfl) (pe_lst pa_nil))
    (pss_cons (ps_for PassesOwn.never rfl (pi_list (pe_lst (pa_cons pe_str (pa_cons pe_str (pa_cons pe_str (pa_cons pe_str pa_nil)))))) (pg_name (i := 2) scLocals.nd rfl (.inr rfl))
      (pss_one (ps_expr (pe_bm PySem.F.plainAttrs_list PySem.F.slot_list_extend PySem.F.type_list_extend mt_extend (pv 1) (pa_cons
        (pe_lc (own := [("_law_other", 3)]) (g := gName 3) (by rfl) scLocals.nd (pi_list (pe_callTy (call_listS rfl) (by rfl) ml PyProof.Rows.boot_list (pa_cons pe_str pa_nil)))
          (blkOk_by (own := [("_law_other", 3)]) (N := ["_law_box_here", "_law_found", "_law_one", "_law_other"]) (sc := defScope sLocals) (by decide +kernel))
          (fun _ _ _ _ _ => pg_name (i := 3) scLocals.nd rfl (Or.inl rfl)) (fun _ _ _ _ _ => pts_nil) (fun _ _ _ _ _ => pe_op op_add_str (pv 2) (pv 3))) pa_nil)))))
    (pss_one (ps_ret (pe_call GM.ok hr2 (by rfl) GM.mg GM.kp GM.bd .nil pass0 (pa_cons (pv 0) (pa_cons (pv 1) pa_nil)))))), ?_⟩
  refine ⟨by decide, fun FA hFA => ⟨few (by simp), fun LA hLA => ?_⟩⟩
  have hF1 : (upd H FA (.lst [])) FA = some (.lst []) := upd_same
  have nFL : FA ≠ LA := ne_of_none hF1 hLA
  have s1 : Same H (upd (upd H FA (.lst [])) LA (.lst (heads4.map V.str))) := (same_new hFA _).trans (same_new hLA _)
  have hF2 : (upd (upd H FA (.lst [])) LA (.lst (heads4.map V.str))) FA = some (.lst []) := by rw [upd_ne nFL]; exact upd_same
  have hL2 : (upd (upd H FA (.lst [])) LA (.lst (heads4.map V.str))) LA = some (.lst (heads4.map V.str)) := upd_same
  have eL : upd (upd H FA (.lst [])) LA (.lst [V.str "", V.str "p", V.str "if", V.str "abcdefg"]) = upd (upd H FA (.lst [])) LA (.lst (heads4.map V.str)) := rfl
  refine ⟨LA, rfl, ⟨heads4.map V.str, SqL.of hL2⟩, ?_⟩
  refine for_list (K := K) (a := LA) (xs := heads4.map V.str) (fun i σ H2 => ∃ o, σ = [some (.ref p), some (.ref FA), o, none] ∧ H2 FA = some (.lst (((heads4.take i).flatMap fun o => lets12.map fun c => o ++ c).map V.str)) ∧ H2 LA = some (.lst (heads4.map V.str)) ∧ Same H H2)
    ⟨none, rfl, hF2, hL2, s1⟩ (fun i σ H2 _ ⟨_, _, _, h, _⟩ => SqL.of h) ?_ ?_
  · rintro i y σ H2 hy ⟨o, rfl, h1, h2, s2⟩
    rw [List.getElem?_map] at hy
    obtain ⟨x, ex, rfl⟩ := Option.map_eq_some_iff.mp hy
    have lx := heads4_len x (List.mem_of_getElem? ex)
    have li : i < 4 := (List.getElem?_eq_some_iff.mp ex).1
    refine ⟨_, rfl, .inl ⟨rfl, _, SqL.of h1⟩, ("bcdefghijkmn" : Str), rfl, by decide +kernel, fun Z hZ => ⟨Z, rfl, ⟨_, SqL.of upd_same⟩, fun D hD => ?_⟩⟩
    have s3 : Same H2 (upd H2 Z (.lst (("bcdefghijkmn" : Str).cps.toList.map fun c => V.str ⟨#[c]⟩))) := same_new hZ _
    have hZ3 : (upd H2 Z (.lst (("bcdefghijkmn" : Str).cps.toList.map fun c => V.str ⟨#[c]⟩))) Z = some (.lst (lets12.map V.str)) := by
      rw [upd_same]
      unfold lets12
      rw [List.map_map]
      rfl
    generalize upd H2 Z (.lst (("bcdefghijkmn" : Str).cps.toList.map fun c => V.str ⟨#[c]⟩)) = H3 at s3 hZ3 hD
    refine lc_list (K := K) (a := Z) (xs := lets12.map V.str) (fun j H4 => H4 D = some (.lst (((lets12.take j).map fun c => x ++ c).map V.str)) ∧ Same H3 H4) ⟨upd_same, same_new hD _⟩ ?_ ?_ ?_
    · rintro j H4 hj ⟨g1, g2⟩
      exact SqL.of (g2 _ _ hZ3)
    · rintro j y H4 hy ⟨g1, g2⟩
      rw [List.getElem?_map] at hy
      obtain ⟨c, ec, rfl⟩ := Option.map_eq_some_iff.mp hy
      have lc := lets12_len c (List.mem_of_getElem? ec)
      refine ⟨rfl, _, rfl, _, rfl, x, c, rfl, rfl, few (by omega), _, g1, ?_, ?_, ?_⟩
      · rw [List.length_map, List.length_map, List.length_take]
        exact small1000 (by have := (show lets12.length = 12 by decide +kernel); omega)
      · rw [upd_same, get_take ec, List.map_append, List.map_append]
        rfl
      · exact same_off g2 (l := [D]) (fun b hb => by rw [List.mem_singleton.mp hb]; exact hD) (Off.put (by simp))
    · rintro H4 ⟨g1, g2⟩
      rw [List.length_map, List.take_length] at g1
      have s34 := s3.trans g2
      refine ⟨FA, D, _, _, rfl, rfl, s34 _ _ h1, g1, few2 ?_, ?_⟩
      · rw [List.length_map, List.length_map, List.length_map]
        have z1 : (lets12.length) = 12 := by decide +kernel
        have z2 : ∀ j, j < 4 → ((heads4.take j).flatMap fun o => lets12.map fun c => o ++ c).length ≤ 100 := by decide +kernel
        have := z2 i li
        omega
      · refine ⟨_, rfl, ?_, ?_, ?_⟩
        · rw [upd_same, get_take ex, List.flatMap_append, List.map_append]
          simp
        · rw [upd_ne nFL.symm]
          exact s34 _ _ h2
        · exact same_off (s2.trans s34) (l := [FA]) (fun b hb => by rw [List.mem_singleton.mp hb]; exact hFA) (Off.put (by simp))
  · rintro σ H2 ⟨o, rfl, h1, h2, s2⟩
    rw [List.length_map, List.take_length] at h1
    have h1 : H2 FA = some (.lst (names48.map V.str)) := h1
    refine ⟨_, rfl, _, rfl, p, g, FA, names48.map V.str, rfl, hb.same s2, SqL.of h1, by rw [List.length_map, names48_len]; decide, fun L ys H3 b3 o3 hL h3 pm => ?_⟩
    obtain ⟨zs, rfl, pz⟩ := perm_strs pm
    exact q L zs H3 b3 ((Off.of s2).trans o3) (s2.free hL) h3 pz
end
/-! the law's own standing -/
abbrev sLStand : Stmt := topS 37
theorem scLStand : FnScope ["_law_tree", "_law_scope"] ["_law_tree", "_law_scope"] (defScope sLStand) := ⟨rfl, rfl, rfl, by decide +kernel, rfl, by decide +kernel, by decide +kernel⟩
/-- the last one of a name counts -/
def scL (ls : List (Str × Str)) : Scp := ls.foldl (fun sc p => updS sc p.1 p.2) fun _ => none
theorem scL_snoc (ls : List (Str × Str)) (x s : Str) : scL (ls ++ [(x, s)]) = updS (scL ls) x s := by
  unfold scL
  rw [List.foldl_append]
  rfl
theorem merge_scL : ∀ (ls : List (Str × Str)) (kvs : List (Key × V)) (sc : Scp), (∀ y, valV kvs (Sum.inr y : Key) = (sc y).map V.str) → ∀ y, valV (mergeK kvs (kvL ls)) (Sum.inr y : Key) = (ls.foldl (fun sc p => updS sc p.1 p.2) sc y).map V.str
  | [], kvs, sc, h, y => h y
  | (x, s) :: ls, kvs, sc, h, y => by
    show valV (mergeK (putK kvs (Sum.inr x) (.str s)) (kvL ls)) _ = (ls.foldl (fun sc p => updS sc p.1 p.2) (updS sc x s) y).map V.str
    refine merge_scL ls _ _ (fun y => ?_) y
    rw [valV_put]
    unfold updS
    by_cases e : y = x
    · rw [if_pos e, e, if_pos rfl]
      rfl
    · rw [if_neg e, if_neg (fun z => e (Sum.inr.inj z))]
      exact h y
/-- a list of pairs of words -/
def LsA (K : PySem.W.Frag) (H : Hp) (a : Addr) (ls : List (Str × Str)) : Prop := ∃ ps : List Addr, H a = some (.lst (ps.map V.ref)) ∧ Paired (fun p (kv : Str × Str) => SqT K H p [.str kv.1, .str kv.2]) ps ls
theorem LsA.up {K : PySem.W.Frag} {H H' : Hp} {a : Addr} {ls : List (Str × Str)} (s : Same H H') (h : LsA K H a ls) : LsA K H' a ls := by
  obtain ⟨ps, h1, h2⟩ := h
  exact ⟨ps, s _ _ h1, paired_mono (fun _ _ z => seqT_up s z) h2⟩
theorem LsA.len {K : PySem.W.Frag} {H : Hp} {ps : List Addr} {ls : List (Str × Str)} (h : Paired (fun p (kv : Str × Str) => SqT K H p [.str kv.1, .str kv.2]) ps ls) : ps.length = ls.length := by
  induction h with
  | nil => rfl
  | cons _ _ ih => rw [List.length_cons, List.length_cons, ih]
theorem paired_kvL {K : PySem.W.Frag} {H : Hp} {ps : List Addr} {ls : List (Str × Str)} (h : Paired (fun p (kv : Str × Str) => SqT K H p [.str kv.1, .str kv.2]) ps ls) : Paired (fun p (kv : Key × V) => SqT K H p [kV kv.1, kv.2]) ps (kvL ls) := by
  induction h with
  | nil => exact .nil
  | cons h _ ih => exact .cons h ih
def spLStand (K : PySem.W.Frag) (n : Nat) : Sp := fun vs H Q _ => ∃ v a d ls s j, vs = [v, .ref a] ∧ Dp K H v d ∧ LsA K H a ls ∧ ls.length + d.depth ≤ 900 ∧ d.depth < n ∧ St j (scL ls) d s ∧ ScW (scL ls) ∧ ∀ H', Same H H' → Q (.str s) H'
section
variable {P : Program} {w : World} {K : PySem.W.Frag} {mg : Str → Option Value} {base : Heap} {f : Addr} {fd : FuncData}
theorem ok_lstand {k n : Nat} (F : Fun K "_law_standing" "_law_standing" sLStand f fd) (md : mg "dict" = none) (VS : FnOk P w K mg base CX0 k f fd ["_law_tree", "_law_scope"] (spLStand K n)) (kV : PySem.W.keepIn K (.ref f) = true) (bV : Binds K fd ["_law_tree", "_law_scope"] []) (mV : mg "_law_standing" = some (.ref f)) :
    FnOk P w K mg base CX0 (k + 1) f fd ["_law_tree", "_law_scope"] (spLStand K (n + 1)) := by
  refine F.ok scLStand (fun vs H Q E h => ?_) (fun cdv A outer s H vs Q E hr h => ?_)
  · obtain ⟨v, a, d, ls, st, j, rfl, _⟩ := h
    rfl
  obtain ⟨v, a, d, ls, st, j, rfl, hd, hl, hm, hn, hst, hw, q⟩ := h
  have hu := hu_of hr
  refine ⟨_, pss_cons (ps_if (pt_cmpR op_eq (pe_ix ix_tup (pv 0) pe_int (fun _ _ => rfl)) pe_str (nomark _)) (pss_one (ps_ret (pe_dget2 hu (pe_callTy (call_dictP rfl) (by rfl) md b_dict (pa_cons (pv 1) pa_nil)) (pe_ix ix_tup (pv 0) pe_int (fun _ _ => rfl)) pe_str ⟨rfl, rfl, rfl, rfl⟩))) pss_nil)
    (pss_cons (ps_if (pt_cmpR op_eq (pe_ix ix_tup (pv 0) pe_int (fun _ _ => rfl)) pe_str (nomark _)) (pss_one (ps_ret (pe_ifExp (pt_cmpR op_ne (pe_call VS hr (by rfl) mV kV bV .nil pass0 (pa_cons (pe_ix ix_tup (pv 0) pe_int (fun _ _ => rfl)) (pa_cons (pv 1) pa_nil))) pe_str (nomark _)) pe_str pe_str))) pss_nil)
    (pss_cons (ps_if (pt_cmpR op_eq (pe_ix ix_tup (pv 0) pe_int (fun _ _ => rfl)) pe_str (nomark _)) (pss_one (ps_ret (pe_call VS hr (by rfl) mV kV bV .nil pass0 (pa_cons (pe_ix ix_tup (pv 0) pe_int (fun _ _ => rfl)) (pa_cons
        (pe_op op_cat (pv 1) (pe_lst (pa_cons (pe_tup (pa_cons (pe_ix ix_tup (pv 0) pe_int (fun _ _ => rfl)) (pa_cons (pe_call VS hr (by rfl) mV kV bV .nil pass0 (pa_cons (pe_ix ix_tup (pv 0) pe_int (fun _ _ => rfl)) (pa_cons (pv 1) pa_nil))) pa_nil))) pa_nil))) pa_nil))))) pss_nil)
    (pss_one (ps_ret pe_str)))), ?_⟩
  have hst0 := hst
  cases hst with
  | @name n0 sc0 d0 x sl f0 =>
    have F0 := f0.fo hd
    obtain ⟨a1, xs1, rfl, hx, dx⟩ := F0.dp
    obtain ⟨v1, ys, rfl, _, e1, dx⟩ := dpall_cons dx
    cases e1
    obtain ⟨ps, hl1, hl2⟩ := hl
    refine ⟨_, rfl, a1, _, 0, _, rfl, rfl, hx, atI_nat (j := 0) rfl, rfl, _, rfl, ieT rfl ?_⟩
    have pr := paired_kvL hl2
    refine ⟨_, rfl, a, ps, kvL ls, rfl, SqL.of hl1, pr, fun D hD => ?_⟩
    have s1 : Same H (upd H D (.dK (mergeK [] (kvL ls)))) := same_new hD _
    have hD1 : (upd H D (.dK (mergeK [] (kvL ls)))) D = some (.dK (mergeK [] (kvL ls))) := upd_same
    generalize upd H D (.dK (mergeK [] (kvL ls))) = H1 at s1 hD1
    refine ⟨D, rfl, isd_k hD1, _, rfl, a1, _, 1, _, rfl, rfl, seqT_up s1 hx, atI_nat (j := 1) rfl, _, DGet.k (k := Sum.inr x) hD1, ?_⟩
    have z := merge_scL ls [] (fun _ => none) (fun _ => rfl) x
    rw [z]
    have eg : (Option.map V.str (scL ls x)).getD (V.str "") = V.str ((scL ls x).getD "") := by cases scL ls x <;> rfl
    show Q ((Option.map V.str (scL ls x)).getD (V.str "")) H1
    rw [eg]
    exact q H1 s1
  | @part n0 sc0 d0 a0 i0 s0 sl f0 hs =>
    have F0 := f0.fo hd
    obtain ⟨a1, xs1, rfl, hx, dx⟩ := F0.dp
    obtain ⟨v1, ys, rfl, _, e1, dx⟩ := dpall_cons dx
    have dd : a0.depth < d.depth := by
      rw [f0.e]
      simp only [PyData.depth, PyData.depthAll]
      omega
    refine ⟨_, rfl, a1, _, 0, _, rfl, rfl, hx, atI_nat (j := 0) rfl, rfl, _, rfl, ieF (by decide +kernel) ⟨_, rfl, a1, _, 0, _, rfl, rfl, hx, atI_nat (j := 0) rfl, rfl, _, rfl, ieT rfl ?_⟩⟩
    refine ⟨_, rfl, a1, _, 1, _, rfl, rfl, hx, atI_nat (j := 1) rfl, _, rfl, v1, a, a0, ls, s0, j, rfl, e1, hl, by omega, by omega, hs, hw, fun H2 s2 => ⟨rfl, _, rfl, ?_⟩⟩
    by_cases e : s0 = ""
    · rw [if_pos e] at q
      exact ieM e (q H2 s2)
    · rw [if_neg e] at q
      exact ieN e (q H2 s2)
  | @lt n0 sc0 d0 a0 b0 x s0 t0 sl f0 h1 h2 =>
    have F0 := f0.fo hd
    obtain ⟨a1, xs1, rfl, hx, dx⟩ := F0.dp
    obtain ⟨v1, ys, rfl, _, e1, dx⟩ := dpall_cons dx
    obtain ⟨v2, ys, rfl, _, e2, dx⟩ := dpall_cons dx
    obtain ⟨v3, ys, rfl, _, e3, dx⟩ := dpall_cons dx
    cases e1
    have dd : a0.depth < d.depth ∧ b0.depth < d.depth := by
      rw [f0.e]
      simp only [PyData.depth, PyData.depthAll]
      omega
    refine ⟨_, rfl, a1, _, 0, _, rfl, rfl, hx, atI_nat (j := 0) rfl, rfl, _, rfl, ieF (by decide +kernel) ⟨_, rfl, a1, _, 0, _, rfl, rfl, hx, atI_nat (j := 0) rfl, rfl, _, rfl, ieF (by decide +kernel) ⟨_, rfl, a1, _, 0, _, rfl, rfl, hx, atI_nat (j := 0) rfl, rfl, _, rfl, ieT rfl ?_⟩⟩⟩
    refine ⟨_, rfl, a1, _, 3, _, rfl, rfl, hx, atI_nat (j := 3) rfl, _, rfl, _, rfl, a1, _, 1, _, rfl, rfl, hx, atI_nat (j := 1) rfl, _, rfl, a1, _, 2, _, rfl, rfl, hx, atI_nat (j := 2) rfl, _, rfl, v2, a, a0, ls, s0, n0, rfl, e2, hl, by omega, by omega, h1, hw, fun H2 s2 => ⟨few (by simp), fun T hT => ⟨few (by simp), fun B hB => ?_⟩⟩⟩
    have s3 := s2.trans (same_new (o := .tup [.str x, .str s0]) hT)
    have s4 := s3.trans (same_new (o := .lst [.ref T]) hB)
    obtain ⟨ps, hl1, hl2⟩ := hl
    have ll := LsA.len hl2
    have hT4 : (upd (upd H2 T (.tup [.str x, .str s0])) B (.lst [.ref T])) T = some (.tup [.str x, .str s0]) := same_new hB _ _ _ upd_same
    refine ⟨a, B, _, _, rfl, rfl, s4 _ _ hl1, upd_same, few (by rw [List.length_map]; simp only [List.length_cons, List.length_nil]; omega), fun c hc => ?_⟩
    have s5 := same_new (o := .lst (ps.map V.ref ++ [.ref T])) hc
    have s45 := s4.trans s5
    refine ⟨v3, c, b0, ls ++ [(x, s0)], st, n0 + 1, rfl, Dp.up s45 _ _ e3, ⟨ps ++ [T], by rw [upd_same, List.map_append]; rfl, paired_app (paired_mono (fun _ _ z => seqT_up s45 z) hl2) (.cons (.inl (.inl (s5 _ _ hT4))) .nil)⟩, ?_, by omega, by rw [scL_snoc]; exact h2, by rw [scL_snoc]; exact hw.upd (h1.w hw), fun H6 s6 => q H6 (s45.trans s6)⟩
    rw [List.length_append, List.length_singleton]
    omega
  | @other n0 sc0 d0 h sl args f0 h1 h2 h3 =>
    have F0 := f0.fo hd
    obtain ⟨a1, xs1, rfl, hx, dx⟩ := F0.dp
    exact ⟨_, rfl, a1, _, 0, _, rfl, rfl, hx, atI_nat (j := 0) rfl, rfl, _, rfl, ieF h1 ⟨_, rfl, a1, _, 0, _, rfl, rfl, hx, atI_nat (j := 0) rfl, rfl, _, rfl, ieF h2 ⟨_, rfl, a1, _, 0, _, rfl, rfl, hx, atI_nat (j := 0) rfl, rfl, _, rfl, ieF h3 (q H (Same.refl H))⟩⟩⟩
end
/-! leaves -/
abbrev sLeaf : Stmt := topS 38
theorem scLeaf : FnScope ["_law_box_here", "_law_world", "_law_scope", "_law_names", "_law_form", "_law_one"] ["_law_box_here", "_law_world", "_law_scope"] (defScope sLeaf) := ⟨rfl, rfl, rfl, by decide +kernel, rfl, by decide +kernel, by decide +kernel⟩
def NmOk (ls : List (Str × Str)) : Prop := ∀ p ∈ ls, isNm p.1 = true ∧ gd (.str p.1) = true
def d77 : PyData := .tuple [.str "int", .int 77]
theorem ni_head {h : Str} {args : List PyData} (hh : h ≠ "int") : PyData.eqv (.tuple (.str h :: args)) d77 = false := by
  unfold d77
  simp [PyData.eqv, PyData.eqvAll, hh]
theorem ni_int {i : Int} (hi : i ≠ 77) : PyData.eqv (.tuple [.str "int", .int i]) d77 = false := by
  unfold d77
  simp [PyData.eqv, PyData.eqvAll, hi]
/-- a drawn tree: b bounds its parts -/
structure Drw (n : Nat) (cl : Cl) (f : Nat) (sc : Scp) (c : Nat) (d : PyData) (bs : List Str) (z : Nat) (b : Nat) : Prop where
  wt : Wt n cl f sc c d bs z
  nd : nod d ≤ b
  dp : d.depth ≤ 2 * f
  gd : gd d = true
  nl : nl d = true
  ni : PyData.eqv d d77 = false
theorem scL_some0 : ∀ (ls : List (Str × Str)) (sc : Scp) (x : Str), (sc x).isSome = true ∨ x ∈ ls.map (·.1) → (ls.foldl (fun sc p => updS sc p.1 p.2) sc x).isSome = true
  | [], sc, x, h => h.elim (fun h => h) fun h => nomatch h
  | (y, s) :: ls, sc, x, h => by
    refine scL_some0 ls _ x ?_
    by_cases e : x = y
    · refine .inl ?_
      show (updS sc y s x).isSome = true
      unfold updS
      rw [if_pos e]
      rfl
    · rcases h with h | h
      · refine .inl ?_
        show (updS sc y s x).isSome = true
        unfold updS
        rw [if_neg e]
        exact h
      · rcases List.mem_cons.mp h with h | h
        · exact absurd h e
        · exact .inr h
theorem scL_some {ls : List (Str × Str)} {x : Str} (h : x ∈ ls.map (·.1)) : (scL ls x).isSome = true := scL_some0 ls _ x (.inr h)
theorem wt_leaf {n : Nat} {cl : Cl} {sc : Scp} {h sl : Str} {x : PyData} (m : (h, sl) ∈ [(("int" : Str), ("k" : Str)), ("atom", "n"), ("name", "n"), ("read", "n")]) (fm : FmA sl.cps.toList [x]) (hn : h = "name" → ∀ y, x = .str y → (sc y).isSome = true) (nx : nod x = 1) :
    Wt n cl 1 sc 101 (.tuple [.str h, x]) [] 1 := by
  have m2 : (h, sl) ∈ exL := by
    simp only [List.mem_cons, List.not_mem_nil, or_false] at m
    rcases m with e | e | e | e <;> (cases e; decide +kernel)
  have hc : ¬ h = "call" := by
    simp only [List.mem_cons, List.not_mem_nil, or_false] at m
    rcases m with e | e | e | e <;> (cases e; decide +kernel)
  have hb : bndD h [x] = [] := by
    simp only [List.mem_cons, List.not_mem_nil, or_false] at m
    unfold bndD
    rcases m with e | e | e | e <;> (cases e; rw [if_neg (by decide +kernel), if_neg (by decide +kernel)])
  have hi : in3 1 sl.cps.toList [x] = [] := by
    simp only [List.mem_cons, List.not_mem_nil, or_false] at m
    rcases m with e | e | e | e
    · cases e
      rw [show ("k" : Str).cps.toList = [107] by decide +kernel]
      rfl
    all_goals
      cases e
      rw [show ("n" : Str).cps.toList = [110] by decide +kernel]
      rfl
  refine ⟨h, sl, [x], [], ⟨rfl, .inl rfl, m2, fm, by simp only [nods, nx]; omega⟩, ⟨fun e y ey => hn e y (by simpa using ey), fun e => absurd e hc⟩, by rw [hi]; exact .nil, by rw [hb]; rfl, rfl⟩
theorem paired_get {α β : Type} {F : α → β → Prop} : ∀ {xs : List α} {ys : List β}, Paired F xs ys → ∀ {i : Nat} {x : α}, xs[i]? = some x → ∃ y, ys[i]? = some y ∧ F x y
  | _, _, .nil, i, x, h => by simp at h
  | _, _, .cons (b := b) hh t, i, x, h => by
    cases i with
    | zero =>
      simp only [List.getElem?_cons_zero, Option.some.injEq] at h
      subst h
      exact ⟨b, rfl, hh⟩
    | succ i => exact paired_get t (i := i) (by simpa using h)
theorem leaf_drw {n : Nat} {cl : Cl} {sc : Scp} {h sl : Str} {x : PyData} (m : (h, sl) ∈ [(("int" : Str), ("k" : Str)), ("atom", "n"), ("name", "n"), ("read", "n")]) (fm : FmA sl.cps.toList [x]) (hn : h = "name" → ∀ y, x = .str y → (sc y).isSome = true) (nx : nod x = 1) (gx : gd x = true) (lx : nl x = true) (dx : x.depth = 0) (ni : PyData.eqv (.tuple [.str h, x]) d77 = false) :
    Drw n cl 1 sc 101 (.tuple [.str h, x]) [] 1 3 := by
  have gh : gd (.str h) = true := by
    simp only [List.mem_cons, List.not_mem_nil, or_false] at m
    rcases m with e | e | e | e <;> (cases e; decide +kernel)
  refine ⟨wt_leaf m fm hn nx, by simp only [nod, nods, nx]; omega, by simp only [PyData.depth, PyData.depthAll, dx]; omega, by simp only [gd, gds, Bool.and_eq_true] at gh ⊢; exact ⟨gh, gx, trivial⟩, by simp only [nl, nls, lx, Bool.and_self], ni⟩
theorem fm_n {y : Str} (h1 : isNm y = true) (h2 : gd (.str y) = true) : FmA ("n" : Str).cps.toList [.str y] := by
  rw [show ("n" : Str).cps.toList = [110] by decide +kernel]
  exact ⟨⟨y, rfl, h1, h2⟩, True.intro⟩
theorem fm_k (i : Int) : FmA ("k" : Str).cps.toList [.int i] := by
  rw [show ("k" : Str).cps.toList = [107] by decide +kernel]
  exact ⟨⟨i, rfl⟩, True.intro⟩
def spLeaf (K : PySem.W.Frag) : Sp := fun vs H Q _ => ∃ (p g : Addr) (wv : V) (a : Addr) (ls : List (Str × Str)), vs = [.ref p, wv, .ref a] ∧ Box H p g ∧ LsA K H a ls ∧ a ∉ [p, g] ∧ NmOk ls ∧ ls.length ≤ 900 ∧
  ∀ v d H', Box H' p g → Off [p, g] H H' → Dp K H' v d → (∀ n cl, Drw n cl 1 (scL ls) 101 d [] 1 3) → Q v H'
section
variable {P : Program} {w : World} {K : PySem.W.Frag} {mg : Str → Option Value} {base : Heap} {f fT fP : Addr} {fd dT dP : FuncData}
theorem ok_leaf {k : Nat} (F : Fun K "_law_leaf" "_law_leaf" sLeaf f fd) (T : Tk P w K mg base fT dT) (GP : Dn P w K mg base 2 "_law_pick" ["_law_box_here", "_law_items"] spPick fP dP) : FnOk P w K mg base CX0 (k + 3) f fd ["_law_box_here", "_law_world", "_law_scope"] (spLeaf K) := by
  refine F.ok scLeaf (fun vs H Q E h => ?_) (fun cdv A outer s H vs Q E hr h => ?_)
  · obtain ⟨p, g, wv, a, ls, rfl, _⟩ := h
    rfl
  obtain ⟨p, g, wv, a, ls, rfl, hb, hls, na, hnm, hlen, q⟩ := h
  have hr1 : Room 1 _ := hr.mono (by omega)
  have hr2 : Room 2 _ := hr.mono (by omega)
  refine ⟨_, pss_cons (ps_par (i := 3) (j := 4) (by rfl) scLeaf.nd rfl rfl (by decide) rfl rfl (pa_cons (pe_lc (own := [("_law_one", 5)]) (g := gName 5) (by rfl) scLeaf.nd (pi_list (pv 2))
          (blkOk_by (own := [("_law_one", 5)]) (N := ["_law_box_here", "_law_world", "_law_scope", "_law_names", "_law_form", "_law_one"]) (sc := defScope sLeaf) (by decide +kernel))
          (fun _ _ _ _ _ => pg_name (i := 5) scLeaf.nd rfl (Or.inl rfl)) (fun _ _ _ _ _ => pts_nil) (fun _ _ _ _ _ => pe_ix (ix_tupK (K := K) rfl) (pv 5) pe_int (fun _ _ => rfl)))
        (pa_cons (pe_call T.ok hr1 (by rfl) T.mg T.kp T.bd .nil pass0 (pa_cons (pv 0) (pa_cons pe_int pa_nil))) pa_nil)) (by rfl))
    (pss_cons (ps_if (PW.pt (pw_and (pt_cmpR (op_neNil hr.units) (pv 3) (pe_lst pa_nil) (nomark _)) (pw_and1 (pt_cmpR op_gt (pv 4) pe_int (nomark _)))))
      (pss_one (ps_ret (pe_tup (pa_cons pe_str (pa_cons (pe_call GP.ok hr2 (by rfl) GP.mg GP.kp GP.bd .nil pass0 (pa_cons (pv 0) (pa_cons (pv 3) pa_nil))) pa_nil))))) pss_nil)
    (pss_one (ps_ret (pe_ix ix_list (pe_lst (pa_cons (pe_tup (pa_cons pe_str (pa_cons (pe_op op_sub (pe_call T.ok hr1 (by rfl) T.mg T.kp T.bd .nil pass0 (pa_cons (pv 0) (pa_cons pe_int pa_nil))) pe_int) pa_nil)))
      (pa_cons (pe_tup (pa_cons pe_str (pa_cons (pe_call GP.ok hr2 (by rfl) GP.mg GP.kp GP.bd .nil pass0 (pa_cons (pv 0) (pa_cons (pe_lst (pa_cons pe_str (pa_cons pe_str pa_nil))) pa_nil))) pa_nil)))
      (pa_cons (pe_tup (pa_cons pe_str (pa_cons pe_str pa_nil))) pa_nil)))) (pe_op op_mod (pv 4) pe_int) (fun _ _ => rfl))))), ?_⟩
  obtain ⟨ps, hl1, hl2⟩ := hls
  have ll := LsA.len hl2
  refine ⟨_, rfl, a, rfl, ⟨_, SqL.of hl1⟩, fun D hD => ?_⟩
  refine lc_list (K := K) (a := a) (xs := ps.map V.ref) (fun i H2 => H2 D = some (.lst (((ls.take i).map (·.1)).map V.str)) ∧ Same H H2) ⟨upd_same, same_new hD _⟩ ?_ ?_ ?_
  · rintro i H2 hi ⟨g1, g2⟩
    exact SqL.of (g2 _ _ hl1)
  · rintro i y H2 hy ⟨g1, g2⟩
    rw [List.getElem?_map] at hy
    obtain ⟨t, et, rfl⟩ := Option.map_eq_some_iff.mp hy
    obtain ⟨kv, ek, hkv⟩ := paired_get hl2 et
    refine ⟨rfl, _, rfl, t, _, 0, _, rfl, rfl, seqT_up g2 hkv, atI_nat (j := 0) rfl, _, g1, ?_, ?_, ?_⟩
    · rw [List.length_map, List.length_map, List.length_take]
      exact small1000 (by omega)
    · rw [upd_same, get_take ek, List.map_append, List.map_append]
      rfl
    · exact same_off g2 (l := [D]) (fun b hb => by rw [List.mem_singleton.mp hb]; exact hD) (Off.put (by simp))
  rintro H2 ⟨g1, g2⟩
  rw [List.length_map, ll, List.take_length] at g1
  obtain ⟨_, _, _, _, z1, z2, _⟩ := hb.ex
  have nDp : D ≠ p := (ne_of_none z1 hD).symm
  have nDg : D ≠ g := (ne_of_none z2 hD).symm
  refine ⟨_, rfl, p, g, 6, rfl, hb.same g2, by decide, by decide, fun r H3 r0 r6 b3 o3 => ?_⟩
  have g13 := o3.get g1 (by simp [nDp, nDg])
  have o03 : Off [p, g] H H3 := (Off.of g2).trans o3
  refine ⟨_, _, rfl, ?_⟩
  have lmap : (ls.map (·.1)).length = ls.length := List.length_map ..
  refine ⟨_, rfl, by decide, fun E0 hE0 => ⟨D, E0, _, rfl, rfl, SqL.of (same_new hE0 _ _ _ g13), SqL.of upd_same, _, rfl, ?_⟩⟩
  have s4 : Same H3 (upd H3 E0 (.lst [])) := same_new hE0 _
  generalize upd H3 E0 (.lst []) = H4 at s4
  have g14 := s4 _ _ g13
  have b4 := b3.same s4
  have o04 : Off [p, g] H H4 := o03.trans (Off.of s4)
  refine and_same (fun e G => ?_) ?_
  · refine ⟨_, rfl, r, 1, rfl, rfl, _, rfl, ?_⟩
    by_cases hr1 : 1 < r
    · rw [decide_eq_true hr1]
      have hne : ls ≠ [] := fun z => by
        rw [z] at e
        cases e
      have lpos : 0 < ls.length := by
        cases ls with
        | nil => exact absurd rfl hne
        | cons _ _ => simp
      refine iteT ⟨_, rfl, _, rfl, p, g, D, _, rfl, b4, g14, by simp [nDp, nDg], by rw [List.length_map, lmap]; exact lpos, by rw [List.length_map, lmap]; omega, fun x hx H5 b5 o5 => ⟨few (by simp), fun T5 hT5 => ?_⟩⟩
      obtain ⟨y, hy, ey0⟩ := List.mem_map.mp hx
      subst ey0
      obtain ⟨kv, hkv, ekv⟩ := List.mem_map.mp hy
      subst ekv
      have nk := hnm kv hkv
      refine q _ (.tuple [.str "name", .str kv.1]) _ (b5.same (same_new hT5 _)) ((o04.trans o5).trans (Off.of (same_new hT5 _))) (.tup (.inl (.inl upd_same)) (.cons (.str _) (.cons (.str _) .nil))) fun n cl => ?_
      refine leaf_drw (sl := "n") (by simp) (fm_n nk.1 nk.2) (fun _ y ey => ?_) rfl nk.2 rfl rfl (ni_head (by decide +kernel))
      cases ey
      exact scL_some (List.mem_map.mpr ⟨kv, hkv, rfl⟩)
    · rw [decide_eq_false hr1]
      exact G
  refine ⟨_, rfl, p, g, 9, rfl, b4, by decide, by decide, fun r5 H5 r50 r59 b5 o5 => ⟨_, _, rfl, rfl, few (by simp), fun T1 hT1 => ?_⟩⟩
  have s6 := same_new (o := .tup [.str "int", .int (r5 - 4)]) hT1
  have hT16 : (upd H5 T1 (.tup [.str "int", .int (r5 - 4)])) T1 = some (.tup [.str "int", .int (r5 - 4)]) := upd_same
  have b6 := b5.same s6
  have o06 := (o04.trans o5).trans (Off.of s6)
  generalize upd H5 T1 (.tup [.str "int", .int (r5 - 4)]) = H6 at s6 hT16 b6 o06
  refine ⟨_, rfl, few (by simp), fun AB hAB => ?_⟩
  have s7 := same_new (o := .lst [.str "a", .str "b"]) hAB
  obtain ⟨_, _, _, _, y1, y2, _⟩ := b6.ex
  have nAp : AB ≠ p := (ne_of_none y1 hAB).symm
  have nAg : AB ≠ g := (ne_of_none y2 hAB).symm
  have hT17 := s7 _ _ hT16
  refine ⟨p, g, AB, _, rfl, b6.same s7, upd_same, by simp [nAp, nAg], by decide, by decide, fun x hx H8 b8 o8 => ⟨few (by simp), fun T2 hT2 => ⟨few (by simp), fun T3 hT3 => ⟨few (by simp), fun LL hLL => ?_⟩⟩⟩⟩
  have hT1p : T1 ∉ [p, g] := fun z => by
    simp only [List.mem_cons, List.not_mem_nil, or_false] at z
    rcases z with z | z
    · rw [z, y1] at hT16
      cases hT16
    · rw [z, y2] at hT16
      cases hT16
  have hT18 := o8.get hT17 hT1p
  have t2 := same_new (o := .tup [.str "atom", x]) hT2
  have t3 := same_new (o := .tup [.str "read", .str "x"]) hT3
  have t4 := same_new (o := .lst [.ref T1, .ref T2, .ref T3]) hLL
  have t24 := t2.trans (t3.trans t4)
  have o09 : Off [p, g] H _ := ((o06.trans (Off.of s7)).trans o8).trans (Off.of t24)
  have b9 := b8.same t24
  have k1 := t24 _ _ hT18
  have k2 := (t3.trans t4) _ _ (show (upd H8 T2 (.tup [.str "atom", x])) T2 = some (.tup [.str "atom", x]) from upd_same)
  have k3 := t4 _ _ (show (upd (upd H8 T2 (.tup [.str "atom", x])) T3 (.tup [.str "read", .str "x"])) T3 = some (.tup [.str "read", .str "x"]) from upd_same)
  have k4 : (upd (upd (upd H8 T2 (.tup [.str "atom", x])) T3 (.tup [.str "read", .str "x"])) LL (.lst [.ref T1, .ref T2, .ref T3])) LL = some (.lst [.ref T1, .ref T2, .ref T3]) := upd_same
  generalize upd (upd (upd H8 T2 (.tup [.str "atom", x])) T3 (.tup [.str "read", .str "x"])) LL (.lst [.ref T1, .ref T2, .ref T3]) = H9 at *
  have m0 := Int.emod_nonneg r (show (3 : Int) ≠ 0 by decide)
  have m3 := Int.emod_lt_of_pos r (show (0 : Int) < 3 by decide)
  have gx : gd (.str "x") = true := by decide +kernel
  have fin : ∀ (j : Nat) (t : V), r % 3 = (j : Int) → [V.ref T1, .ref T2, .ref T3][j]? = some t → ∀ d, Dp K H9 t d → (∀ n cl, Drw n cl 1 (scL ls) 101 d [] 1 3) → ∃ a' xs i x', V.ref LL = .ref a' ∧ V.int (r % 3) = .int i ∧ SqL K H9 a' xs ∧ atI xs i = some x' ∧ Q x' H9 := fun j t ej et d hd hw =>
    ⟨LL, _, r % 3, t, rfl, rfl, SqL.of k4, by rw [ej]; exact atI_nat et, q t d H9 b9 o09 hd hw⟩
  refine ⟨_, rfl, r, 3, rfl, rfl, (show (0 : Int) < 3 by decide), ?_⟩
  have cases3 : r % 3 = ((0 : Nat) : Int) ∨ r % 3 = ((1 : Nat) : Int) ∨ r % 3 = ((2 : Nat) : Int) := by omega
  rcases cases3 with e | e | e
  · refine fin 0 _ e rfl (.tuple [.str "int", .int (r5 - 4)]) (.tup (.inl (.inl k1)) (.cons (.str _) (.cons (.int _) .nil))) fun n cl => ?_
    exact leaf_drw (sl := "k") (by simp) (fm_k _) (fun z => absurd z (by decide +kernel)) rfl (gd_int (Nat.lt_of_lt_of_le (show (r5 - 4).natAbs < 2 ^ 10 by omega) (Nat.pow_le_pow_right (by decide) (by decide)))) rfl rfl (ni_int (by omega))
  · have hx2 : ∃ y : Str, x = .str y ∧ isNm y = true ∧ gd (.str y) = true := by
      simp only [List.mem_cons, List.not_mem_nil, or_false] at hx
      rcases hx with z | z
      · exact ⟨"a", z, by decide +kernel, by decide +kernel⟩
      · exact ⟨"b", z, by decide +kernel, by decide +kernel⟩
    obtain ⟨y, rfl, n1, n2⟩ := hx2
    refine fin 1 _ e rfl (.tuple [.str "atom", .str y]) (.tup (.inl (.inl k2)) (.cons (.str _) (.cons (.str _) .nil))) fun n cl => ?_
    exact leaf_drw (sl := "n") (by simp) (fm_n n1 n2) (fun z => absurd z (by decide +kernel)) rfl n2 rfl rfl (ni_head (by decide +kernel))
  · refine fin 2 _ e rfl (.tuple [.str "read", .str "x"]) (.tup (.inl (.inl k3)) (.cons (.str _) (.cons (.str _) .nil))) fun n cl => ?_
    exact leaf_drw (sl := "n") (by simp) (fm_n (by decide +kernel) gx) (fun z => absurd z (by decide +kernel)) rfl gx rfl rfl (ni_head (by decide +kernel))
end
/-! trees put together, slot by slot -/
def RowF (n : Nat) (cl : Cl) (f : Nat) (sc : Scp) (r : List Str × Nat) (p : List Int × PyData × Nat) : Prop := Wt n cl f sc p.2.2 p.2.1 r.1 r.2
structure Acc (n : Nat) (cl : Cl) (f : Nat) (sc : Scp) (cs : List Nat) (args : List PyData) (rows : List (List Str × Nat)) : Prop where
  fm : FmA cs args
  pr : Paired (RowF n cl f sc) rows (in3 1 cs args)
theorem Acc.nil {n : Nat} {cl : Cl} {f : Nat} {sc : Scp} : Acc n cl f sc [] [] [] := ⟨True.intro, .nil⟩
theorem FmA.snoc : ∀ {cs : List Nat} {ds : List PyData} {c : Nat} {d : PyData}, FmA cs ds → FitS c d → FmA (cs ++ [c]) (ds ++ [d])
  | [], [], _, _, _, h => ⟨h, True.intro⟩
  | _ :: _, _ :: _, _, _, g, h => ⟨g.1, FmA.snoc g.2 h⟩
  | [], _ :: _, _, _, g, _ => g.elim
  | _ :: _, [], _, _, g, _ => g.elim
theorem in3_snoc {cs : List Nat} {ds : List PyData} (c : Nat) (d : PyData) (h : cs.length = ds.length) : in3 1 (cs ++ [c]) (ds ++ [d]) = in3 1 cs ds ++ in3Slot (1 + cs.length) c d := by
  rw [in3_app 1 cs [c] ds [d] h]
  simp [in3]
theorem Acc.leaf {n : Nat} {cl : Cl} {f : Nat} {sc : Scp} {cs : List Nat} {args : List PyData} {rows : List (List Str × Nat)} (A : Acc n cl f sc cs args rows) {c : Nat} {d : PyData} (hf : FitS c d) (h1 : c ≠ 101) (h2 : c ≠ 116) (h3 : c ≠ 115) : Acc n cl f sc (cs ++ [c]) (args ++ [d]) rows := by
  refine ⟨A.fm.snoc hf, ?_⟩
  rw [in3_snoc c d A.fm.len]
  have e : in3Slot (1 + cs.length) c d = [] := by
    unfold in3Slot inSlot
    rw [if_neg h3, if_neg h2, if_neg (fun z => z.elim h1 h2)]
    rfl
  rw [e, List.append_nil]
  exact A.pr
theorem Acc.tree {n : Nat} {cl : Cl} {f : Nat} {sc : Scp} {cs : List Nat} {args : List PyData} {rows : List (List Str × Nat)} (A : Acc n cl f sc cs args rows) {c : Nat} {d : PyData} {bs : List Str} {z : Nat} (hc : c = 101 ∨ c = 116) (hw : Wt n cl f sc c d bs z) : Acc n cl f sc (cs ++ [c]) (args ++ [d]) (rows ++ [(bs, z)]) := by
  have hf : FitS c d := by rcases hc with e | e <;> subst e <;> exact True.intro
  refine ⟨A.fm.snoc hf, ?_⟩
  rw [in3_snoc c d A.fm.len]
  refine paired_app A.pr ?_
  have e : in3Slot (1 + cs.length) c d = [([((1 + cs.length : Nat) : Int)], d, c)] := by
    unfold in3Slot inSlot
    rcases hc with e | e <;> subst e <;> rfl
  rw [e]
  exact .cons hw .nil
theorem paired_zip3 {n : Nat} {cl : Cl} {f : Nat} {sc : Scp} {k : Int} : ∀ {rs : List (List Str × Nat)} {es : List PyData} (j : Nat), Paired (fun (r : List Str × Nat) (d : PyData) => Wt n cl f sc 101 d r.1 r.2) rs es →
    Paired (RowF n cl f sc) rs ((es.zipIdx j).map fun p => ([k, (p.2 : Int)], p.1, 101))
  | _, _, _, .nil => .nil
  | _, _, j, .cons a t => .cons a (paired_zip3 (j + 1) t)
theorem Acc.trees {n : Nat} {cl : Cl} {f : Nat} {sc : Scp} {cs : List Nat} {args : List PyData} {rows rs : List (List Str × Nat)} (A : Acc n cl f sc cs args rows) {es : List PyData} (hw : Paired (fun (r : List Str × Nat) (d : PyData) => Wt n cl f sc 101 d r.1 r.2) rs es) :
    Acc n cl f sc (cs ++ [115]) (args ++ [.tuple es]) (rows ++ rs) := by
  refine ⟨A.fm.snoc ⟨es, rfl⟩, ?_⟩
  rw [in3_snoc 115 _ A.fm.len]
  refine paired_app A.pr ?_
  have e : in3Slot (1 + cs.length) 115 (.tuple es) = es.zipIdx.map fun p => ([((1 + cs.length : Nat) : Int), (p.2 : Int)], p.1, 101) := by
    unfold in3Slot inSlot
    rw [if_pos rfl, List.map_map]
    rfl
  rw [e]
  exact paired_zip3 0 hw
/-- a tree that binds nothing -/
theorem Acc.done {n : Nat} {cl : Cl} {f : Nat} {sc : Scp} {c : Nat} {h sl : Str} {args : List PyData} {rows : List (List Str × Nat)} (A : Acc n cl f sc sl.cps.toList args rows) (ce : c = 101 ∨ c = 116) (m : (h, sl) ∈ tblC c) (na : nods args ≤ 900) (wd : WdOk n cl sc h args) (hb : bndD h args = []) :
    Wt n cl (f + 1) sc c (.tuple (.str h :: args)) (rows.flatMap (·.1)) (1 + (rows.map (·.2)).sum) :=
  ⟨h, sl, args, rows, ⟨rfl, ce, m, A.fm, na⟩, wd, paired_mono (fun r p z => ⟨sc, .inl ⟨.inl hb, rfl⟩, z⟩) A.pr, by rw [hb]; rfl, rfl⟩
theorem bnd_none {h : Str} {args : List PyData} (h1 : h ≠ "fold") (h2 : h ≠ "let") (h3 : h ≠ "each") (h4 : h ≠ "pick") : bndD h args = [] := by
  unfold bndD
  rw [if_neg h1, if_neg (fun z => z.elim h2 fun z => z.elim h3 h4)]
/-- more levels -/
theorem Wt.up {n : Nat} {cl : Cl} : ∀ {f : Nat} {sc : Scp} {c : Nat} {d : PyData} {bs : List Str} {z : Nat}, Wt n cl f sc c d bs z → Wt n cl (f + 1) sc c d bs z
  | 0, _, _, _, _, _, h => h.elim
  | f + 1, _, _, _, _, _, h => by
    obtain ⟨h0, sl, args, rows, fo, wd, pr, e1, e2⟩ := h
    exact ⟨h0, sl, args, rows, fo, wd, paired_mono (fun r p ⟨sc', a, b⟩ => ⟨sc', a, Wt.up b⟩) pr, e1, e2⟩
theorem Wt.mono {n : Nat} {cl : Cl} {f g : Nat} {sc : Scp} {c : Nat} {d : PyData} {bs : List Str} {z : Nat} (h : Wt n cl f sc c d bs z) (hg : f ≤ g) : Wt n cl g sc c d bs z := by
  induction hg with
  | refl => exact h
  | step _ ih => exact ih.up
/-- let, each, pick -/
theorem wt_bind {n : Nat} {cl : Cl} {f : Nat} {sc : Scp} {h sl x s : Str} {a b : PyData} {c2 : Nat} {b1 b2 : List Str} {z1 z2 : Nat} (m : (h, sl) ∈ exL) (esl : sl.cps.toList = [110, 101, c2]) (ce : c2 = 101 ∨ c2 = 116) (hx : isNm x = true) (gx : gd (.str x) = true) (na : nods [PyData.str x, a, b] ≤ 900)
    (hk : h = "let" ∨ h = "each" ∨ h = "pick") (wa : Wt n cl f sc 101 a b1 z1) (st : St n sc a s) (wb : Wt n cl f (updS sc x (if h = "let" then s else prt s)) c2 b b2 z2) : Wt n cl (f + 1) sc 101 (.tuple [.str h, .str x, a, b]) (x :: (b1 ++ b2)) (1 + (z1 + z2)) := by
  have hf : h ≠ "fold" := by rcases hk with e | e | e <;> rw [e] <;> decide +kernel
  have hn : h ≠ "name" := by rcases hk with e | e | e <;> rw [e] <;> decide +kernel
  have hc : h ≠ "call" := by rcases hk with e | e | e <;> rw [e] <;> decide +kernel
  have hb : bndD h [PyData.str x, a, b] = [x] := by
    unfold bndD
    rw [if_neg hf, if_pos hk]
  have ei : in3 1 sl.cps.toList [PyData.str x, a, b] = [([2], a, 101), ([3], b, c2)] := by
    rw [esl]
    rcases ce with e | e <;> subst e <;> rfl
  refine ⟨h, sl, [.str x, a, b], [(b1, z1), (b2, z2)], ⟨rfl, .inl rfl, m, ?_, na⟩, ⟨fun e => absurd e hn, fun e => absurd e hc⟩, ?_, ?_, ?_⟩
  · rw [esl]
    refine ⟨⟨x, rfl, hx, gx⟩, True.intro, ?_, True.intro⟩
    rcases ce with e | e <;> subst e <;> exact True.intro
  · rw [ei]
    refine .cons ⟨sc, .inl ⟨.inr (fun e => absurd (show ([2] : List Int) = [3] from e) (by decide)), rfl⟩, wa⟩ (.cons ⟨_, .inr (.inl ⟨rfl, x, a, b, s, rfl, st, ?_⟩), wb⟩ .nil)
    by_cases e : h = "let"
    · rw [if_pos e]
      exact .inl ⟨e, rfl⟩
    · rw [if_neg e]
      exact .inr ⟨by rcases hk with z | z | z; exact absurd z e; exact .inl z; exact .inr z, rfl⟩
  · rw [hb]
    simp
  · simp
theorem updS_comm {sc : Scp} {x y s t : Str} (h : x ≠ y) : updS (updS sc x s) y t = updS (updS sc y t) x s := by
  funext u
  unfold updS
  by_cases e1 : u = y
  · rw [if_pos e1, if_neg (fun z => h (z.symm.trans e1)), if_pos e1]
  · rw [if_neg e1]
    by_cases e2 : u = x
    · rw [if_pos e2, if_pos e2]
    · rw [if_neg e2, if_neg e2, if_neg e1]
theorem wt_fold {n : Nat} {cl : Cl} {f : Nat} {sc : Scp} {x y s : Str} {a b c : PyData} {b1 b2 b3 : List Str} {z1 z2 z3 : Nat} (hx : isNm x = true) (gx : gd (.str x) = true) (hy : isNm y = true) (gy : gd (.str y) = true) (nxy : x ≠ y) (na : nods [PyData.str y, a, .str x, b, c] ≤ 900)
    (wa : Wt n cl f sc 101 a b1 z1) (wb : Wt n cl f sc 101 b b2 z2) (st : St n sc b s) (wc : Wt n cl f (updS (updS sc x (prt s)) y "") 101 c b3 z3) : Wt n cl (f + 1) sc 101 (.tuple [.str "fold", .str y, a, .str x, b, c]) (y :: x :: (b1 ++ (b2 ++ b3))) (1 + (z1 + (z2 + z3))) := by
  have esl : ("nenee" : Str).cps.toList = [110, 101, 110, 101, 101] := by decide +kernel
  have hb : bndD "fold" [PyData.str y, a, .str x, b, c] = [y, x] := by
    unfold bndD
    rw [if_pos rfl]
  have ei : in3 1 ("nenee" : Str).cps.toList [PyData.str y, a, .str x, b, c] = [([2], a, 101), ([4], b, 101), ([5], c, 101)] := by
    rw [esl]
    rfl
  refine ⟨"fold", "nenee", [.str y, a, .str x, b, c], [(b1, z1), (b2, z2), (b3, z3)], ⟨rfl, .inl rfl, (by decide +kernel : (("fold" : Str), ("nenee" : Str)) ∈ exL), ?_, na⟩, ⟨fun e => absurd e (by decide +kernel), fun e => absurd e (by decide +kernel)⟩, ?_, ?_, ?_⟩
  · rw [esl]
    exact ⟨⟨y, rfl, hy, gy⟩, True.intro, ⟨x, rfl, hx, gx⟩, True.intro, True.intro, True.intro⟩
  · rw [ei]
    refine .cons ⟨sc, .inl ⟨.inr (fun e => absurd (show ([2] : List Int) = [5] from e) (by decide)), rfl⟩, wa⟩ (.cons ⟨sc, .inl ⟨.inr (fun e => absurd (show ([4] : List Int) = [5] from e) (by decide)), rfl⟩, wb⟩ (.cons ⟨_, .inr (.inr ⟨rfl, y, a, x, b, c, s, rfl, rfl, st, rfl⟩), ?_⟩ .nil))
    rw [← updS_comm nxy]
    exact wc
  · rw [hb]
    simp
  · simp
/-- a call that is allowed -/
theorem wt_call {n : Nat} {cl : Cl} {f : Nat} {sc : Scp} {x : Str} {es : List PyData} {rs : List (List Str × Nat)} (hx : isNm x = true) (gx : gd (.str x) = true) (na : nods [PyData.str x, .tuple es] ≤ 900) (hc : CallOk n cl sc x es)
    (hw : Paired (fun (r : List Str × Nat) (d : PyData) => Wt n cl f sc 101 d r.1 r.2) rs es) : Wt n cl (f + 1) sc 101 (.tuple [.str "call", .str x, .tuple es]) (rs.flatMap (·.1)) (1 + (rs.map (·.2)).sum) := by
  have esl : ("ns" : Str).cps.toList = [110] ++ [115] := by decide +kernel
  have A : Acc n cl f sc ("ns" : Str).cps.toList ([PyData.str x] ++ [.tuple es]) ([] ++ rs) := by
    rw [esl]
    exact Acc.trees (Acc.leaf (cs := []) (args := []) Acc.nil (c := 110) ⟨x, rfl, hx, gx⟩ (by decide) (by decide) (by decide)) hw
  have z := A.done (h := "call") (c := 101) (.inl rfl) (by decide +kernel : (("call" : Str), ("ns" : Str)) ∈ exL) na ⟨fun e => absurd e (by decide +kernel), fun _ y fs e => by
    cases e
    exact hc⟩ (bnd_none (by decide +kernel) (by decide +kernel) (by decide +kernel) (by decide +kernel))
  exact z
/-! names and room: they last -/
/-- l names are left, room r, d levels: enough -/
def Pre (l r d : Int) : Prop := 0 ≤ l ∧ (r ≤ 0 ∨ r + 2 * d ≤ l ∨ d ≤ 4)
/-- what a drawn tree has taken: from l0, r0 to l1, r1 at d levels -/
structure Post (l0 l1 r0 r1 d : Int) : Prop where
  le : l1 ≤ l0
  nn : 0 ≤ l1
  rr : r1 < r0
  z : r0 ≤ 1 → l1 = l0
  a : 1 ≤ r1 → l0 - l1 ≤ r0 - r1 - 1
  b : l0 - l1 ≤ max r0 0 + 2 * d
  c : min l0 (4 - d) ≤ l1
theorem post_leaf {l r d : Int} (hl : 0 ≤ l) (hd : 1 ≤ d) : Post l l r (r - 1) d := ⟨Int.le_refl _, hl, by omega, fun _ => rfl, fun _ => by omega, by omega, by omega⟩
/-- within a tree that is not small: p names of its own are taken (q of them behind inner trees), m inner trees are drawn -/
structure Mid (l0 l r0 r d p q m : Int) : Prop where
  le : l ≤ l0
  nn : 0 ≤ l
  rr : r < r0
  a : 1 ≤ r → l0 - l ≤ p + (r0 - 1 - r) - m
  b : l0 - l ≤ p + (r0 - 1) + 2 * (d - 1)
  c : min (l0 - p) (5 - d - q) ≤ l
/-- it begins, with p names taken -/
theorem mid_start {l r d p : Int} (hl : p ≤ l) (hp : 0 ≤ p) (hr : 2 ≤ r) (hd : 2 ≤ d) : Mid l (l - p) r (r - 1) d p 0 0 := ⟨by omega, by omega, by omega, fun _ => by omega, by omega, by omega⟩
/-- a name of its own behind inner trees -/
theorem Mid.pop {l0 l r0 r d p q m : Int} (M : Mid l0 l r0 r d p q m) (hl : 1 ≤ l) : Mid l0 (l - 1) r0 r d (p + 1) (q + 1) m :=
  ⟨by have := M.le; omega, by omega, M.rr, fun h => by have := M.a h; omega, by have := M.b; omega, by have := M.c; omega⟩
/-- an inner tree may be drawn -/
theorem Mid.pre {l0 l r0 r d p q m : Int} (M : Mid l0 l r0 r d p q m) (h : Pre l0 r0 d) (hr : 2 ≤ r0) (hpm : p ≤ m + 2) : Pre l r (d - 1) := by
  obtain ⟨_, h⟩ := h
  refine ⟨M.nn, ?_⟩
  by_cases h1 : r ≤ 0
  · exact .inl h1
  · have := M.a (by omega)
    have := M.rr
    rcases h with h | h | h
    · omega
    · exact .inr (.inl (by omega))
    · exact .inr (.inr (by omega))
/-- an inner tree is drawn -/
theorem Mid.kid {l0 l l1 r0 r r1 d p q m : Int} (M : Mid l0 l r0 r d p q m) (P : Post l l1 r r1 (d - 1)) (hm : 0 ≤ m) (hq : 0 ≤ q) : Mid l0 l1 r0 r1 d p q (m + 1) := by
  have h1 := M.le
  have h2 := M.nn
  have h3 := M.rr
  have h5 := M.b
  have h6 := M.c
  have g1 := P.le
  have g2 := P.nn
  have g3 := P.rr
  have g6 := P.b
  have g7 := P.c
  refine ⟨by omega, g2, by omega, fun h => ?_, ?_, ?_⟩
  · have := M.a (by omega)
    have := P.a h
    omega
  · by_cases e : r ≤ 1
    · have := P.z e
      omega
    · have := M.a (by omega)
      omega
  · omega
/-- the tree is drawn -/
theorem Mid.post {l0 l r0 r d p q m : Int} (M : Mid l0 l r0 r d p q m) (hl : 4 ≤ l0) (hr : 2 ≤ r0) (hd : 2 ≤ d) (hp : p ≤ 2) (hp2 : p ≤ m) (hq : q ≤ 1) : Post l0 l r0 r d := by
  have h1 := M.le
  have h2 := M.nn
  have h3 := M.rr
  have h5 := M.b
  have h6 := M.c
  refine ⟨h1, h2, h3, fun z => by omega, fun h => ?_, by omega, by omega⟩
  have := M.a h
  omega
/-- there is one more name for a fold, behind its first inner tree -/
theorem fold_name {l0 l1 r0 r1 d : Int} (h : Pre l0 r0 d) (hl : 4 ≤ l0) (hr : 2 ≤ r0) (hd : 2 ≤ d) (P : Post (l0 - 1) l1 (r0 - 1) r1 (d - 1)) : 1 ≤ l1 := by
  obtain ⟨_, h⟩ := h
  have hb := P.b
  have hc := P.c
  rcases h with h | h | h
  · omega
  · omega
  · omega
/-- room for parts: what a drawn tree weighs -/
def capN (r : Int) : Int := 28 * max r 0 + (if 14 < r then 12 else 0)
theorem cap_less {r : Int} (hr : 2 ≤ r) : capN (r - 1) + 28 ≤ capN r := by
  unfold capN
  split <;> split <;> omega
theorem cap_many {r : Int} (hr : 14 < r - 1) : capN 14 + 40 ≤ capN r := by
  unfold capN
  split <;> split <;> omega
theorem cap_mono {r s : Int} (h : r ≤ s) : capN r ≤ capN s := by
  unfold capN
  split <;> split <;> omega
theorem cap_nn (r : Int) : 0 ≤ capN r := by
  unfold capN
  split <;> omega
/-- the room is set lower -/
theorem Mid.drop {l0 l r0 r r' d p q m : Int} (M : Mid l0 l r0 r d p q m) (h : r' ≤ r) : Mid l0 l r0 r' d p q m :=
  ⟨M.le, M.nn, by have := M.rr; omega, fun z => by have := M.a (by omega); omega, M.b, M.c⟩
/-! what is asked of the law's drawing: the world, a drawn tree -/
abbrev sLCall : Stmt := topS 39
abbrev sBinder : Stmt := topS 40
abbrev sGrown : Stmt := topS 41
theorem scLCall : FnScope ["_law_box_here", "_law_world", "_law_scope", "_law_deep", "_law_some", "_law_pieces", "_law_said", "_law_many", "_law_given", "_law_piece", "_law_x", "_law_one", "_law_k"] ["_law_box_here", "_law_world", "_law_scope", "_law_deep"] (defScope sLCall) := ⟨rfl, rfl, rfl, by decide +kernel, rfl, by decide +kernel, by decide +kernel⟩
theorem scBinder : FnScope ["_law_box_here", "_law_world", "_law_head", "_law_scope", "_law_deep", "_law_x", "_law_over", "_law_stands", "_law_inner", "_law_a", "_law_first"] ["_law_box_here", "_law_world", "_law_head", "_law_scope", "_law_deep"] (defScope sBinder) := ⟨rfl, rfl, rfl, by decide +kernel, rfl, by decide +kernel, by decide +kernel⟩
theorem scGrown : FnScope ["_law_box_here", "_law_world", "_law_sort", "_law_scope", "_law_deep", "_law_forms_here", "_law_is_small", "_law_head", "_law_found", "_law_slot", "_law_many", "_law_number", "_law_one", "_law_k"] ["_law_box_here", "_law_world", "_law_sort", "_law_scope", "_law_deep"] (defScope sGrown) := ⟨rfl, rfl, rfl, by decide +kernel, rfl, by decide +kernel, by decide +kernel⟩
structure Wor where
  nm : Str
  many : Nat
  fl : Option Nat
  elder : List (Str × Nat)
def wkv (w : Wor) (el fr : Addr) (r : Int) : List (Key × V) := [(Sum.inr "name", .str w.nm), (Sum.inr "many", .int w.many), (Sum.inr "falls", fallV w.fl), (Sum.inr "elder", .ref el), (Sum.inr "fresh", .ref fr), (Sum.inr "room", .int r)]
/-- the world as it stands: the names F are left, room r -/
structure WdA (K : PySem.W.Frag) (H : Hp) (wd el fr : Addr) (w : Wor) (F : List Str) (r : Int) : Prop where
  wd : H wd = some (.dK (wkv w el fr r))
  fr : H fr = some (.lst (F.map V.str))
  el : ∃ ps : List Addr, H el = some (.lst (ps.map V.ref)) ∧ Paired (fun p (kv : Str × Nat) => SqT K H p [.str kv.1, .int kv.2]) ps w.elder
theorem WdA.ne {K : PySem.W.Frag} {H : Hp} {wd el fr : Addr} {w : Wor} {F : List Str} {r : Int} (h : WdA K H wd el fr w F r) : wd ≠ el ∧ wd ≠ fr := by
  obtain ⟨ps, h1, _⟩ := h.el
  refine ⟨fun e => ?_, fun e => ?_⟩
  · rw [← e, h.wd] at h1
    cases h1
  · have h2 := h.fr
    rw [← e, h.wd] at h2
    cases h2
/-- what the calls of a body may be -/
structure ClW (cl : Cl) (w : Wor) : Prop where
  len : w.elder.length ≤ 10
  elder : ∀ p ∈ w.elder, cl.cn p.1 = some p.2 ∧ cl.own ≠ some p.1 ∧ p.1 ≠ w.nm ∧ isNm p.1 = true ∧ gd (.str p.1) = true ∧ p.2 ≤ 4
  own : ∀ j, w.fl = some j → cl.cn w.nm = some w.many ∧ cl.own = some w.nm ∧ cl.falls = some j ∧ j < w.many ∧ w.many ≤ 4 ∧ isNm w.nm = true ∧ gd (.str w.nm) = true
/-- what is asked before a tree is drawn -/
structure Ask (K : PySem.W.Frag) (cl : Cl) (H : Hp) (p g wd el fr a : Addr) (w : Wor) (F : List Str) (r : Int) (ls : List (Str × Str)) (deep : Int) : Prop where
  box : Box H p g
  wo : WdA K H wd el fr w F r
  la : LsA K H a ls
  cw : ClW cl w
  nm : NmOk ls
  fm : ∀ x ∈ F, isNm x = true ∧ gd (.str x) = true
  nd : (F ++ ls.map (·.1)).Nodup
  sw : ScW (scL ls)
  pre : Pre F.length r deep
  rm : r ≤ 30
  ll : (ls.length : Int) + 2 * deep ≤ 100
  ap : a ∉ [p, g, wd, fr] ∧ wd ∉ [p, g] ∧ fr ∉ [p, g] ∧ el ∉ [p, g, fr]
def limC (c : Nat) : Int := if c = 116 then 6 else 3
/-- what is told of a drawn tree: tk is what it has taken -/
structure Told (cl : Cl) (F F1 : List Str) (r r1 : Int) (ls : List (Str × Str)) (deep : Int) (f : Nat) (c : Nat) (d : PyData) (bs : List Str) (z : Nat) : Prop where
  tk : ∃ tk, F = F1 ++ tk ∧ bs.Nodup ∧ ∀ x ∈ bs, x ∈ tk
  wt : Wt 12 cl f (scL ls) c d bs z
  st : c = 101 → ∃ s, St f (scL ls) d s
  nd : (nod d : Int) + capN r1 ≤ limC c + capN r
  dp : d.depth ≤ 2 * f
  gd : gd d = true
  nl : nl d = true
  ni : PyData.eqv d d77 = false
  po : Post F.length F1.length r r1 deep
def sortC (c : Nat) : Str := if c = 116 then "t" else "e"
def spGrown (K : PySem.W.Frag) (cl : Cl) (n : Nat) : Sp := fun vs H Q _ => ∃ (p g wd el fr a : Addr) (w : Wor) (F : List Str) (r : Int) (ls : List (Str × Str)) (deep : Nat) (c : Nat), vs = [.ref p, .ref wd, .str (sortC c), .ref a, .int deep] ∧ (c = 101 ∨ c = 116) ∧ 1 ≤ deep ∧ deep < n ∧ deep ≤ 7 ∧ Ask K cl H p g wd el fr a w F r ls deep ∧
  ∀ v d bs z F1 r1 H', Box H' p g → Off [p, g, wd, fr] H H' → WdA K H' wd el fr w F1 r1 → Dp K H' v d → Told cl F F1 r r1 ls deep (deep + 4) c d bs z → Q v H'
/-! what is told of trees put together -/
def Tak (F F1 bs : List Str) : Prop := ∃ tk, F = F1 ++ tk ∧ bs.Nodup ∧ ∀ x ∈ bs, x ∈ tk
theorem Tak.refl (F : List Str) : Tak F F [] := ⟨[], (List.append_nil F).symm, List.nodup_nil, fun _ z => nomatch z⟩
theorem Tak.one (F : List Str) (x : Str) : Tak (F ++ [x]) F [x] := ⟨[x], rfl, by simp, fun _ z => z⟩
theorem Tak.app {F F1 F2 b1 b2 : List Str} (nd : F.Nodup) (h1 : Tak F F1 b1) (h2 : Tak F1 F2 b2) : Tak F F2 (b1 ++ b2) := by
  obtain ⟨t1, e1, n1, s1⟩ := h1
  obtain ⟨t2, e2, n2, s2⟩ := h2
  subst e2
  subst e1
  refine ⟨t2 ++ t1, List.append_assoc _ _ _, ?_, fun y hy => ?_⟩
  · refine List.nodup_append.mpr ⟨n1, n2, fun a ha b hb e => ?_⟩
    exact (List.nodup_append.mp nd).2.2 b (List.mem_append_right _ (s2 b hb)) a (s1 a ha) e.symm
  · rcases List.mem_append.mp hy with h | h
    · exact List.mem_append_right _ (s1 y h)
    · exact List.mem_append_left _ (s2 y h)
theorem Tak.perm {F F1 b1 b2 : List Str} (h : Tak F F1 b1) (p : b1.Perm b2) : Tak F F1 b2 := by
  obtain ⟨t, e, n, s⟩ := h
  exact ⟨t, e, p.nodup_iff.mp n, fun y hy => s y (p.mem_iff.mpr hy)⟩
theorem Tak.sub {F F1 b1 b2 : List Str} (h : Tak F F1 b1) (p : List.Sublist b2 b1) : Tak F F1 b2 := by
  obtain ⟨t, e, n, s⟩ := h
  exact ⟨t, e, n.sublist p, fun y hy => s y (p.subset hy)⟩
theorem Tak.nd {F F1 b1 : List Str} (h : Tak F F1 b1) (n : F.Nodup) : F1.Nodup := by
  obtain ⟨t, rfl, _⟩ := h
  exact n.sublist (List.sublist_append_left _ _)
theorem limC_le (c : Nat) : limC c ≤ 6 ∧ 3 ≤ limC c := by
  unfold limC
  split <;> omega
theorem told_bind {cl : Cl} {F1 F2 F3 bs1 bs2 : List Str} {x h sl s1 : Str} {r r2 r3 : Int} {ls : List (Str × Str)} {deep : Nat} {d1 d2 : PyData} {z1 z2 c2 : Nat}
    (hd : 2 ≤ deep) (h7 : deep ≤ 7) (hr1 : 1 ≤ r) (hr : r ≤ 30) (nd : (F1 ++ [x]).Nodup) (hx : isNm x = true) (gx : gd (.str x) = true)
    (m : (h, sl) ∈ exL) (esl : sl.cps.toList = [110, 101, c2]) (ce : c2 = 101 ∨ c2 = 116) (hk : h = "let" ∨ h = "each" ∨ h = "pick") (hl : h = "let" → c2 = 101)
    (st1 : St (deep - 1 + 4) (scL ls) d1 s1) (T1 : Told cl F1 F2 r r2 ls ((deep - 1 : Nat) : Int) (deep - 1 + 4) 101 d1 bs1 z1)
    (T2 : Told cl F2 F3 r2 r3 (ls ++ [(x, if h = "let" then s1 else prt s1)]) ((deep - 1 : Nat) : Int) (deep - 1 + 4) c2 d2 bs2 z2)
    (po : Post ((F1 ++ [x]).length) F3.length (r + 1) r3 deep) :
    Told cl (F1 ++ [x]) F3 (r + 1) r3 ls deep (deep + 4) 101 (.tuple [.str h, .str x, d1, d2]) (x :: (bs1 ++ bs2)) (1 + (z1 + z2)) := by
  obtain ⟨e, rfl⟩ : ∃ e, deep = e + 1 := ⟨deep - 1, by omega⟩
  rw [Nat.add_sub_cancel] at st1 T1 T2
  have gh : gd (.str h) = true := by rcases hk with z | z | z <;> rw [z] <;> decide +kernel
  have n1 := T1.nd
  have n2 := T2.nd
  have l2 := limC_le c2
  have l1 : limC 101 = 3 := rfl
  have cm : capN r ≤ capN 30 := cap_mono hr
  have cl1 : capN (r + 1 - 1) + 28 ≤ capN (r + 1) := cap_less (by omega)
  rw [show r + 1 - 1 = r by omega] at cl1
  have c30 : capN 30 = 852 := by decide
  have c3 := cap_nn r3
  have na : nods [PyData.str x, d1, d2] ≤ 900 := by
    simp only [nods, nod]
    omega
  have w2 := T2.wt
  rw [scL_snoc] at w2
  have wt : Wt 12 cl (e + 4 + 1) (scL ls) 101 (.tuple [.str h, .str x, d1, d2]) (x :: (bs1 ++ bs2)) (1 + (z1 + z2)) :=
    wt_bind m esl ce hx gx na hk T1.wt (st1.mono (by omega)) w2
  have fo : FoD 101 (.tuple [.str h, .str x, d1, d2]) h sl [.str x, d1, d2] := by
    refine ⟨rfl, .inl rfl, m, ?_, na⟩
    rw [esl]
    refine ⟨⟨x, rfl, hx, gx⟩, True.intro, ?_, True.intro⟩
    rcases ce with e | e <;> subst e <;> exact True.intro
  refine ⟨?_, wt, fun _ => ?_, ?_, ?_, ?_, ?_, ni_head (by rcases hk with z | z | z <;> rw [z] <;> decide +kernel), po⟩
  · exact Tak.app (b1 := [x]) nd (Tak.one F1 x) (Tak.app (Tak.nd (Tak.one F1 x) nd) T1.tk T2.tk)
  · by_cases hlet : h = "let"
    · rw [hl hlet] at T2
      obtain ⟨t, ht⟩ := T2.st rfl
      rw [if_pos hlet, scL_snoc] at ht
      subst hlet
      exact ⟨t, .lt fo st1 (show St (e + 4 + 1) _ d2 t from ht.up)⟩
    · refine ⟨"", .other fo ?_ ?_ hlet⟩
      · rcases hk with z | z | z <;> rw [z] <;> decide +kernel
      · rcases hk with z | z | z <;> rw [z] <;> decide +kernel
  · simp only [nod, nods]
    omega
  · have := T1.dp
    have := T2.dp
    simp only [PyData.depth, PyData.depthAll]
    omega
  · have g1 := T1.gd
    have g2 := T2.gd
    simp only [gd, gds, Bool.and_eq_true] at *
    exact ⟨gh, gx, g1, g2, trivial⟩
  · simp only [nl, nls, T1.nl, T2.nl, Bool.and_self]
theorem told_fold {cl : Cl} {F1 F2 F4 F5 bs1 bs2 bs3 : List Str} {x y s1 : Str} {r r2 r3 r4 : Int} {ls : List (Str × Str)} {deep : Nat} {d1 d2 d3 : PyData} {z1 z2 z3 : Nat}
    (hd : 2 ≤ deep) (h7 : deep ≤ 7) (hr1 : 1 ≤ r) (hr : r ≤ 30) (nd : (F1 ++ [x]).Nodup) (hx : isNm x = true) (gx : gd (.str x) = true) (hy : isNm y = true) (gy : gd (.str y) = true)
    (st1 : St (deep - 1 + 4) (scL ls) d1 s1) (T1 : Told cl F1 (F2 ++ [y]) r r2 ls ((deep - 1 : Nat) : Int) (deep - 1 + 4) 101 d1 bs1 z1)
    (T2 : Told cl F2 F4 r2 r3 ls ((deep - 1 : Nat) : Int) (deep - 1 + 4) 101 d2 bs2 z2)
    (T3 : Told cl F4 F5 r3 r4 (ls ++ [(x, prt s1)] ++ [(y, ("" : Str))]) ((deep - 1 : Nat) : Int) (deep - 1 + 4) 101 d3 bs3 z3)
    (po : Post ((F1 ++ [x]).length) F5.length (r + 1) r4 deep) :
    Told cl (F1 ++ [x]) F5 (r + 1) r4 ls deep (deep + 4) 101 (.tuple [.str "fold", .str y, d2, .str x, d1, d3]) (y :: x :: (bs2 ++ (bs1 ++ bs3))) (1 + (z2 + (z1 + z3))) := by
  obtain ⟨e, rfl⟩ : ∃ e, deep = e + 1 := ⟨deep - 1, by omega⟩
  rw [Nat.add_sub_cancel] at st1 T1 T2 T3
  have n1 := T1.nd
  have n2 := T2.nd
  have n3 := T3.nd
  have l1 : limC 101 = 3 := rfl
  have cm : capN r ≤ capN 30 := cap_mono hr
  have cl1 : capN (r + 1 - 1) + 28 ≤ capN (r + 1) := cap_less (by omega)
  rw [show r + 1 - 1 = r by omega] at cl1
  have c30 : capN 30 = 852 := by decide
  have c3 := cap_nn r4
  have na : nods [PyData.str y, d2, .str x, d1, d3] ≤ 900 := by
    simp only [nods, nod]
    omega
  have nxy : x ≠ y := fun z => by
    obtain ⟨t, e, _⟩ := T1.tk
    rw [e, ← z, List.append_assoc, List.append_assoc] at nd
    have z2 := (List.nodup_append.mp nd).2.1
    exact (List.nodup_append.mp z2).2.2 x (by simp) x (by simp) rfl
  have w3 := T3.wt
  rw [scL_snoc, scL_snoc] at w3
  have wt : Wt 12 cl (e + 4 + 1) (scL ls) 101 (.tuple [.str "fold", .str y, d2, .str x, d1, d3]) (y :: x :: (bs2 ++ (bs1 ++ bs3))) (1 + (z2 + (z1 + z3))) :=
    wt_fold hx gx hy gy nxy na T2.wt T1.wt (st1.mono (by omega)) w3
  have fo : FoD 101 (.tuple [.str "fold", .str y, d2, .str x, d1, d3]) "fold" "nenee" [.str y, d2, .str x, d1, d3] := by
    refine ⟨rfl, .inl rfl, (by decide +kernel : (("fold" : Str), ("nenee" : Str)) ∈ exL), ?_, na⟩
    rw [show ("nenee" : Str).cps.toList = [110, 101, 110, 101, 101] by decide +kernel]
    exact ⟨⟨y, rfl, hy, gy⟩, True.intro, ⟨x, rfl, hx, gx⟩, True.intro, True.intro, True.intro⟩
  refine ⟨?_, wt, fun _ => ⟨"", .other fo (by decide +kernel) (by decide +kernel) (by decide +kernel)⟩, ?_, ?_, ?_, ?_, ni_head (by decide +kernel), po⟩
  · have nd1 := Tak.nd (Tak.one F1 x) nd
    have nd2 := Tak.nd T1.tk nd1
    have nd3 := Tak.nd (Tak.one F2 y) nd2
    have t := Tak.app (b1 := [x]) nd (Tak.one F1 x) (Tak.app nd1 T1.tk (Tak.app nd2 (Tak.one F2 y) (Tak.app nd3 T2.tk T3.tk)))
    refine t.perm ?_
    show (x :: (bs1 ++ (y :: (bs2 ++ bs3)))).Perm _
    have p1 : (bs1 ++ (y :: (bs2 ++ bs3))).Perm (y :: (bs1 ++ (bs2 ++ bs3))) := List.perm_middle
    have p2 : (bs1 ++ (bs2 ++ bs3)).Perm (bs2 ++ (bs1 ++ bs3)) := by
      rw [← List.append_assoc, ← List.append_assoc]
      exact List.Perm.append_right _ List.perm_append_comm
    exact ((p1.trans (p2.cons y)).cons x).trans (List.Perm.swap _ _ _)
  · simp only [nod, nods]
    omega
  · have := T1.dp
    have := T2.dp
    have := T3.dp
    simp only [PyData.depth, PyData.depthAll]
    omega
  · have g1 := T1.gd
    have g2 := T2.gd
    have g3 := T3.gd
    have gf : gd (.str "fold") = true := by decide +kernel
    simp only [gd, gds, Bool.and_eq_true] at *
    exact ⟨gf, gy, g2, gx, g1, g3, trivial⟩
  · simp only [nl, nls, T1.nl, T2.nl, T3.nl, Bool.and_self]
/-! binders -/
theorem wk_fresh (w : Wor) (el fr : Addr) (r : Int) : valV (wkv w el fr r) (Sum.inr "fresh" : Key) = some (.ref fr) := by
  have n1 : ¬ (("name" : Str) = "fresh") := by decide +kernel
  have n2 : ¬ (("many" : Str) = "fresh") := by decide +kernel
  have n3 : ¬ (("falls" : Str) = "fresh") := by decide +kernel
  have n4 : ¬ (("elder" : Str) = "fresh") := by decide +kernel
  unfold wkv valV
  simp [n1, n2, n3, n4]
theorem LsA.off {K : PySem.W.Frag} {H H' : Hp} {a : Addr} {ls : List (Str × Str)} {l : List Addr} (h : LsA K H a ls) (hl : NT l H) (na : a ∉ l) (o : Off l H H') : LsA K H' a ls := by
  obtain ⟨ps, e1, e2⟩ := h
  exact ⟨ps, o.get e1 na, paired_mono (fun _ _ z => seqT_off hl o z) e2⟩
theorem WdA.up {K : PySem.W.Frag} {H H' : Hp} {wd el fr : Addr} {w : Wor} {F : List Str} {r : Int} (h : WdA K H wd el fr w F r) (s : Same H H') : WdA K H' wd el fr w F r := by
  obtain ⟨ps, e1, e2⟩ := h.el
  exact ⟨s _ _ h.wd, s _ _ h.fr, ps, s _ _ e1, paired_mono (fun _ _ z => seqT_up s z) e2⟩
/-- what is asked holds again, in a scope with a name more -/
theorem Ask.ext {K : PySem.W.Frag} {cl : Cl} {H H' : Hp} {p g wd el fr a c : Addr} {w : Wor} {F F2 tk : List Str} {x s : Str} {r r2 : Int} {ls : List (Str × Str)} {deep d2 : Int} (A : Ask K cl H p g wd el fr a w F r ls deep) (eF : F = F2 ++ (tk ++ [x]))
    (b : Box H' p g) (wo : WdA K H' wd el fr w F2 r2) (la : LsA K H' c (ls ++ [(x, s)])) (hs : StW s) (pre : Pre F2.length r2 d2) (hd : d2 + 1 ≤ deep) (hr : r2 ≤ r) (hc : c ∉ [p, g, wd, fr]) : Ask K cl H' p g wd el fr c w F2 r2 (ls ++ [(x, s)]) d2 := by
  have hx : x ∈ F := by rw [eF]; simp
  refine ⟨b, wo, la, A.cw, fun q hq => ?_, fun y hy => A.fm y (by rw [eF]; exact List.mem_append_left _ hy), ?_, by rw [scL_snoc]; exact A.sw.upd hs, pre, Int.le_trans hr A.rm, ?_, hc, A.ap.2⟩
  · rcases List.mem_append.mp hq with hq | hq
    · exact A.nm q hq
    · rw [List.mem_singleton.mp hq]
      exact A.fm x hx
  · have nd := A.nd
    rw [eF] at nd
    rw [List.map_append, show [(x, s)].map (·.1) = [x] from rfl]
    have pm : (F2 ++ (ls.map (·.1) ++ [x])).Perm (F2 ++ ([x] ++ ls.map (·.1))) := List.Perm.append_left _ List.perm_append_comm
    rw [pm.nodup_iff]
    refine nd.sublist ?_
    rw [List.append_assoc]
    refine List.Sublist.append (List.Sublist.refl _) ?_
    rw [List.append_assoc]
    exact List.sublist_append_right _ _
  · have := A.ll
    rw [List.length_append, List.length_singleton]
    omega
theorem tif_same {b : Bool} {u v z : V} {σ : L2.St} {H : Hp} {k : V → Hp → Prop} (h : (if b = true then u else v) = z) (g : k z H) : if b = true then tC u σ H k else tC v σ H k := by
  subst h
  cases b
  · exact g
  · exact g
theorem prt_if (s : Str) : (if (!decide (V.str s = V.str "")) = true then V.str "piece" else V.str "") = V.str (prt s) := by
  unfold prt
  by_cases e : s = ""
  · subst e
    rw [if_pos rfl, decide_eq_true rfl]
    rfl
  · rw [if_neg e, decide_eq_false (fun z => e (V.str.inj z))]
    rfl
def spBinder (K : PySem.W.Frag) (cl : Cl) (n : Nat) : Sp := fun vs H Q _ => ∃ (p g wd el fr a : Addr) (w : Wor) (F : List Str) (r : Int) (ls : List (Str × Str)) (deep : Nat) (h : Str), vs = [.ref p, .ref wd, .str h, .ref a, .int deep] ∧ h ∈ [("let" : Str), "each", "pick", "fold"] ∧ 2 ≤ deep ∧ deep ≤ n ∧ deep ≤ 7 ∧ 4 ≤ F.length ∧ 1 ≤ r ∧
  Ask K cl H p g wd el fr a w F r ls deep ∧ Pre F.length (r + 1) deep ∧ ∀ v d bs z F1 r1 H', Box H' p g → Off [p, g, wd, fr] H H' → WdA K H' wd el fr w F1 r1 → Dp K H' v d → Told cl F F1 (r + 1) r1 ls deep (deep + 4) 101 d bs z → Q v H'
section
variable {P : Program} {w : World} {K : PySem.W.Frag} {mg : Str → Option Value} {base : Heap} {f fG fS : Addr} {fd dG dS : FuncData}
theorem ok_binder {k n : Nat} {cl : Cl} (F : Fun K "_law_binder" "_law_binder" sBinder f fd) (GG : Dn P w K mg base k "_law_grown" ["_law_box_here", "_law_world", "_law_sort", "_law_scope", "_law_deep"] (spGrown K cl n) fG dG)
    (GS : Dn P w K mg base k "_law_standing" ["_law_tree", "_law_scope"] (spLStand K 40) fS dS) : FnOk P w K mg base CX0 (k + 1) f fd ["_law_box_here", "_law_world", "_law_head", "_law_scope", "_law_deep"] (spBinder K cl n) := by
  refine F.ok scBinder (fun vs H Q E h => ?_) (fun cdv A outer s H vs Q E hr h => ?_)
  · obtain ⟨p, g, wd, el, fr, a, w0, F0, r, ls, deep, h0, rfl, _⟩ := h
    rfl
  obtain ⟨p, g, wd, el, fr, a, w0, F0, r, ls, deep, h0, rfl, hh, hd2, hdn, hd7, hF, hrm, ask, hpre, q⟩ := h
  have hu := hu_of hr
  refine ⟨_, pss_cons (ps_par (i := 5) (j := 6) (by rfl) scBinder.nd rfl rfl (by decide) rfl rfl (pa_cons (pe_bm0 PySem.F.plainAttrs_list PySem.F.slot_list_pop PySem.F.type_list_pop mt_pop (pe_dget hu (pv 1) pe_str (fun _ _ => rfl)))
        (pa_cons (pe_call GG.ok hr (by rfl) GG.mg GG.kp GG.bd .nil pass0 (pa_cons (pv 0) (pa_cons (pv 1) (pa_cons pe_str (pa_cons (pv 3) (pa_cons (pe_op op_sub (pv 4) pe_int) pa_nil)))))) pa_nil)) (by rfl))
    (pss_cons (ps_set (i := 7) scBinder.nd rfl (.inl rfl) (pe_call GS.ok hr (by rfl) GS.mg GS.kp GS.bd .nil pass0 (pa_cons (pv 6) (pa_cons (pv 3) pa_nil))))
    (pss_cons (ps_if (pt_cmpR op_eq (pv 2) pe_str (nomark _)) (pss_one (ps_ret (pe_tup (pa_cons pe_str (pa_cons (pv 5) (pa_cons (pv 6) (pa_cons (pe_call GG.ok hr (by rfl) GG.mg GG.kp GG.bd .nil pass0 (pa_cons (pv 0) (pa_cons (pv 1) (pa_cons pe_str
        (pa_cons (pe_op op_cat (pv 3) (pe_lst (pa_cons (pe_tup (pa_cons (pv 5) (pa_cons (pv 7) pa_nil))) pa_nil))) (pa_cons (pe_op op_sub (pv 4) pe_int) pa_nil)))))) pa_nil))))))) pss_nil)
    (pss_cons (ps_set (i := 8) scBinder.nd rfl (.inl rfl) (pe_op op_cat (pv 3) (pe_lst (pa_cons (pe_tup (pa_cons (pv 5) (pa_cons (pe_ifExp (pt_cmpR op_ne (pv 7) pe_str (nomark _)) pe_str pe_str) pa_nil))) pa_nil))))
    (pss_cons (ps_if (pt_cmpR op_ne (pv 2) pe_str (nomark _)) (pss_one (ps_ret (pe_tup (pa_cons (pv 2) (pa_cons (pv 5) (pa_cons (pv 6) (pa_cons (pe_call GG.ok hr (by rfl) GG.mg GG.kp GG.bd .nil pass0 (pa_cons (pv 0) (pa_cons (pv 1)
        (pa_cons (pe_ifExp (pt_cmpR op_eq (pv 2) pe_str (nomark _)) pe_str pe_str) (pa_cons (pv 8) (pa_cons (pe_op op_sub (pv 4) pe_int) pa_nil)))))) pa_nil))))))) pss_nil)
    (pss_cons (ps_par (i := 9) (j := 10) (by rfl) scBinder.nd rfl rfl (by decide) rfl rfl (pa_cons (pe_bm0 PySem.F.plainAttrs_list PySem.F.slot_list_pop PySem.F.type_list_pop mt_pop (pe_dget hu (pv 1) pe_str (fun _ _ => rfl)))
        (pa_cons (pe_call GG.ok hr (by rfl) GG.mg GG.kp GG.bd .nil pass0 (pa_cons (pv 0) (pa_cons (pv 1) (pa_cons pe_str (pa_cons (pv 3) (pa_cons (pe_op op_sub (pv 4) pe_int) pa_nil)))))) pa_nil)) (by rfl))
    (pss_one (ps_ret (pe_tup (pa_cons pe_str (pa_cons (pv 9) (pa_cons (pv 10) (pa_cons (pv 5) (pa_cons (pv 6) (pa_cons (pe_call GG.ok hr (by rfl) GG.mg GG.kp GG.bd .nil pass0 (pa_cons (pv 0) (pa_cons (pv 1) (pa_cons pe_str
        (pa_cons (pe_op op_cat (pv 8) (pe_lst (pa_cons (pe_tup (pa_cons (pv 9) (pa_cons pe_str pa_nil))) pa_nil))) (pa_cons (pe_op op_sub (pv 4) pe_int) pa_nil)))))) pa_nil)))))))))))))), ?_⟩
  have ask0 := ask
  obtain ⟨hbox, hwo, hla, hcw, hnm, hfm, hnd, hsw, _, hrm40, hll, hap1, hap2, hap3, hap4⟩ := ask
  obtain ⟨F1, x, rfl⟩ : ∃ F1 x, F0 = F1 ++ [x] := by
    rcases List.eq_nil_or_concat F0 with e | ⟨l, b, e⟩
    · rw [e] at hF
      exact absurd hF (by simp)
    · exact ⟨l, b, by rw [e, List.concat_eq_append]⟩
  have hfr := hwo.fr
  rw [List.map_append, show [x].map V.str = [V.str x] from rfl] at hfr
  have dgf : DGet H wd (V.str "fresh") (some (.ref fr)) := by
    have z := DGet.k (k := Sum.inr "fresh") hwo.wd
    have e : valV (wkv w0 el fr r) (Sum.inr "fresh" : Key) = some (.ref fr) := by
      exact wk_fresh _ _ _ _
    rw [e] at z
    exact z
  refine ⟨_, rfl, wd, .ref fr, rfl, dgf, .inl ⟨rfl, _, SqL.of hfr⟩, fr, _, _, rfl, rfl, hfr, last_at _ _, ?_⟩
  rw [drop_last]
  have wne := hwo.ne
  have hap2' : wd ≠ p ∧ wd ≠ g := by simpa using hap2
  have hap3' : fr ≠ p ∧ fr ≠ g := by simpa using hap3
  have hap4' : el ≠ p ∧ el ≠ g ∧ el ≠ fr := by simpa using hap4
  have hap1' : a ≠ p ∧ a ≠ g ∧ a ≠ wd ∧ a ≠ fr := by simpa using hap1
  have lF : ((F1 ++ [x]).length : Int) = F1.length + 1 := by simp
  rw [lF] at hpre
  rw [List.length_append, List.length_singleton] at hF
  have M0 := mid_start (l := (F1.length : Int) + 1) (r := r + 1) (d := deep) (p := 1) (by omega) (by omega) (by omega) (by omega)
  have P1 := M0.pre hpre (by omega) (by omega)
  rw [show (F1.length : Int) + 1 - 1 = F1.length by omega, show r + 1 - 1 = r by omega] at P1 M0
  have o1 : Off [p, g, wd, fr] H (upd H fr (.lst (F1.map V.str))) := Off.put (by simp)
  have o1f : Off [fr] H (upd H fr (.lst (F1.map V.str))) := Off.put (by simp)
  have ntf : NT [fr] H := .cons (nt_lst hfr) .nil
  have hwo1 : WdA K (upd H fr (.lst (F1.map V.str))) wd el fr w0 F1 r := by
    obtain ⟨ps, e1, e2⟩ := hwo.el
    exact ⟨by rw [upd_ne wne.2]; exact hwo.wd, upd_same, ps, by rw [upd_ne hap4'.2.2]; exact e1, paired_mono (fun _ _ z => seqT_off ntf o1f z) e2⟩
  have hla1 : LsA K (upd H fr (.lst (F1.map V.str))) a ls := by
    obtain ⟨ps, e1, e2⟩ := hla
    exact ⟨ps, by rw [upd_ne hap1'.2.2.2]; exact e1, paired_mono (fun _ _ z => seqT_off ntf o1f z) e2⟩
  have hb1 : Box (upd H fr (.lst (F1.map V.str))) p g := hbox.off o1f (by simp [hap3'.1.symm]) (by simp [hap3'.2.symm])
  have hnx : x ∉ F1 ∧ x ∉ ls.map (·.1) := by
    rw [List.append_assoc, List.nodup_append] at hnd
    refine ⟨fun z => hnd.2.2 x z x (by simp) rfl, fun z => ?_⟩
    have z2 := hnd.2.1
    rw [List.nodup_append] at z2
    exact z2.2.2 x (by simp) x z rfl
  have hnd1 : (F1 ++ ls.map (·.1)).Nodup := by
    refine hnd.sublist (List.Sublist.append (List.sublist_append_left _ _) (List.Sublist.refl _))
  generalize upd H fr (.lst (F1.map V.str)) = H1 at o1 hwo1 hla1 hb1
  have ask1 : Ask K cl H1 p g wd el fr a w0 F1 r ls ((deep - 1 : Nat) : Int) := ⟨hb1, hwo1, hla1, hcw, hnm, fun y hy => hfm y (List.mem_append_left _ hy), hnd1, hsw, by rw [show ((deep - 1 : Nat) : Int) = (deep : Int) - 1 by omega]; exact P1, hrm40, by omega, hap1, hap2, hap3, hap4⟩
  refine ⟨_, rfl, _, rfl, _, rfl, _, rfl, _, _, rfl, rfl, p, g, wd, el, fr, a, w0, F1, r, ls, deep - 1, 101, ?_, .inl rfl, by omega, by omega, by omega, ask1, fun v1 d1 bs1 z1 F2 r2 H2 b2 o2 wo2 dd1 T1 => ⟨_, _, rfl, ?_⟩⟩
  · rw [show ((deep - 1 : Nat) : Int) = (deep : Int) - 1 by omega]
    rfl
  obtain ⟨s1, st1⟩ := T1.st rfl
  have nt1 : NT [p, g, wd, fr] H1 := by
    obtain ⟨_, _, _, _, y1, y2, _⟩ := hb1.ex
    exact .cons (nt_dk y1) (.cons (nt_lst y2) (.cons (nt_dk hwo1.wd) (.cons (nt_lst hwo1.fr) .nil)))
  have la2 : LsA K H2 a ls := hla1.off nt1 hap1 o2
  have dp1 := T1.dp
  refine ⟨_, rfl, _, rfl, v1, a, d1, ls, s1, deep - 1 + 4, rfl, dd1, la2, by omega, by omega, st1, hsw, fun H3 s3 => ?_⟩
  have b3 := b2.same s3
  have dd3 := Dp.up s3 _ _ dd1
  have la3 := la2.up s3
  have wo3 : WdA K H3 wd el fr w0 F2 r2 := wo2.up s3
  have o3 : Off [p, g, wd, fr] H H3 := (o1.trans o2).trans (Off.of s3)
  have M1 := M0.kid (by rw [show ((deep - 1 : Nat) : Int) = (deep : Int) - 1 by omega] at *; exact T1.po) (by omega) (by omega)
  obtain ⟨tk1, eF1, nb1, sb1⟩ := T1.tk
  refine ⟨_, rfl, rfl, _, rfl, ?_⟩
  by_cases hlet : h0 = "let"
  · refine ieT hlet ?_
    obtain ⟨psx, la3a, la3b⟩ := la3
    have llx := LsA.len la3b
    refine ⟨_, rfl, _, rfl, _, rfl, _, rfl, _, rfl, _, rfl, _, rfl, few (by simp), fun T hT => ⟨few (by simp), fun B hB => ⟨a, B, psx.map V.ref, [.ref T], rfl, rfl, ?_, upd_same, few (by rw [List.length_map]; simp only [List.length_cons, List.length_nil]; omega), fun c hc => ?_⟩⟩⟩
    · exact (same_new hB _) _ _ ((same_new hT _) _ _ la3a)
    have e4 := (same_new (o := .tup [.str x, .str s1]) hT).trans (same_new (o := .lst [.ref T]) hB)
    have hT4 : (upd (upd H3 T (.tup [.str x, .str s1])) B (.lst [.ref T])) T = some (.tup [.str x, .str s1]) := same_new hB _ _ _ upd_same
    have s5 := same_new (o := .lst (psx.map V.ref ++ [.ref T])) hc
    have s35 := e4.trans s5
    have hT5 := s5 _ _ hT4
    have la5 : LsA K (upd (upd (upd H3 T (.tup [.str x, .str s1])) B (.lst [.ref T])) c (.lst (psx.map V.ref ++ [.ref T]))) c (ls ++ [(x, s1)]) :=
      ⟨psx ++ [T], by rw [upd_same, List.map_append]; rfl, paired_app (paired_mono (fun _ _ z => seqT_up s35 z) la3b) (.cons (.inl (.inl hT5)) .nil)⟩
    have hc3 : H3 c = none := e4.free hc
    generalize upd (upd (upd H3 T (.tup [.str x, .str s1])) B (.lst [.ref T])) c (.lst (psx.map V.ref ++ [.ref T])) = H5 at s35 la5
    refine ⟨_, rfl, _, _, rfl, rfl, p, g, wd, el, fr, c, w0, F2, r2, ls ++ [(x, s1)], deep - 1, 101, ?_, .inl rfl, by omega, by omega, by omega, ?_, fun v2 d2 bs2 z2 F3 r3 H6 b6 o6 wo6 dd6 T2 => ?_⟩
    · rw [show ((deep - 1 : Nat) : Int) = (deep : Int) - 1 by omega]
      rfl
    · have hr2r : r2 ≤ r := by
        have := T1.po.rr
        omega
      refine ask0.ext (F2 := F2) (tk := tk1) (by rw [eF1, List.append_assoc]) (b3.same s35) (wo3.up s35) la5 (st1.w hsw) ?_ (by omega) hr2r (fun zz => ?_)
      · have P2 := M1.pre hpre (by omega) (by omega)
        rw [show ((deep - 1 : Nat) : Int) = (deep : Int) - 1 by omega]
        exact P2
      · obtain ⟨_, _, _, _, y1, y2, _⟩ := b3.ex
        simp only [List.mem_cons, List.not_mem_nil, or_false] at zz
        rcases zz with e | e | e | e
        · rw [e, y1] at hc3; cases hc3
        · rw [e, y2] at hc3; cases hc3
        · rw [e, wo3.wd] at hc3; cases hc3
        · rw [e, wo3.fr] at hc3; cases hc3
    · refine ⟨few (by simp), fun T6 hT6 => ?_⟩
      have s7 := same_new (o := .tup [.str "let", .str x, v1, v2]) hT6
      have o36 : Off [p, g, wd, fr] H3 H6 := (Off.of s35).trans o6
      have nt3 : NT [p, g, wd, fr] H3 := by
        obtain ⟨_, _, _, _, y1, y2, _⟩ := b3.ex
        exact .cons (nt_dk y1) (.cons (nt_lst y2) (.cons (nt_dk wo3.wd) (.cons (nt_lst wo3.fr) .nil)))
      have dd1' := Dp.up s7 _ _ (Dp.off dd3 nt3 T1.nl o36)
      have dd2' := Dp.up s7 _ _ dd6
      have hxx := hfm x (by simp)
      refine q _ (.tuple [.str "let", .str x, d1, d2]) (x :: (bs1 ++ bs2)) (1 + (z1 + z2)) F3 r3 _ (b6.same s7) ((o3.trans o36).trans (Off.of s7)) (wo6.up s7) (.tup (.inl (.inl upd_same)) (.cons (.str _) (.cons (.str _) (.cons dd1' (.cons dd2' .nil))))) ?_
      have hF3 : Post ((F1 ++ [x]).length) F3.length (r + 1) r3 deep := by
        rw [List.length_append, List.length_singleton]
        have M2 := M1.kid (by have z := T2.po; rw [show ((deep - 1 : Nat) : Int) = (deep : Int) - 1 by omega] at z; exact z) (by omega) (by omega)
        exact M2.post (by omega) (by omega) (by omega) (by omega) (by omega) (by omega)
      have T2' : Told cl F2 F3 r2 r3 (ls ++ [(x, if ("let" : Str) = "let" then s1 else prt s1)]) ((deep - 1 : Nat) : Int) (deep - 1 + 4) 101 d2 bs2 z2 := by
        rw [if_pos rfl]
        exact T2
      exact told_bind (by omega) hd7 hrm hrm40 (hnd.sublist (List.sublist_append_left _ _)) hxx.1 hxx.2 (sl := "nee") (by decide +kernel) (by decide +kernel) (.inl rfl) (.inl rfl) (fun _ => rfl) st1 T1 T2' hF3
  · refine ieF hlet ?_
    obtain ⟨psx, la3a, la3b⟩ := la3
    have llx := LsA.len la3b
    refine ⟨_, rfl, _, rfl, _, rfl, rfl, _, rfl, tif_same (z := .str (prt s1)) (prt_if s1) ?_⟩
    refine ⟨few (by simp), fun T hT => ⟨few (by simp), fun B hB => ⟨a, B, psx.map V.ref, [.ref T], rfl, rfl, ?_, upd_same, few (by rw [List.length_map]; simp only [List.length_cons, List.length_nil]; omega), fun c hc => ?_⟩⟩⟩
    · exact (same_new hB _) _ _ ((same_new hT _) _ _ la3a)
    have e4 := (same_new (o := .tup [.str x, .str (prt s1)]) hT).trans (same_new (o := .lst [.ref T]) hB)
    have hT4 : (upd (upd H3 T (.tup [.str x, .str (prt s1)])) B (.lst [.ref T])) T = some (.tup [.str x, .str (prt s1)]) := same_new hB _ _ _ upd_same
    have s5 := same_new (o := .lst (psx.map V.ref ++ [.ref T])) hc
    have s35 := e4.trans s5
    have hT5 := s5 _ _ hT4
    have la5 : LsA K (upd (upd (upd H3 T (.tup [.str x, .str (prt s1)])) B (.lst [.ref T])) c (.lst (psx.map V.ref ++ [.ref T]))) c (ls ++ [(x, prt s1)]) :=
      ⟨psx ++ [T], by rw [upd_same, List.map_append]; rfl, paired_app (paired_mono (fun _ _ z => seqT_up s35 z) la3b) (.cons (.inl (.inl hT5)) .nil)⟩
    have hc3 : H3 c = none := e4.free hc
    generalize upd (upd (upd H3 T (.tup [.str x, .str (prt s1)])) B (.lst [.ref T])) c (.lst (psx.map V.ref ++ [.ref T])) = H5 at s35 la5
    have ncc : c ∉ [p, g, wd, fr] := fun zz => by
      obtain ⟨_, _, _, _, y1, y2, _⟩ := b3.ex
      simp only [List.mem_cons, List.not_mem_nil, or_false] at zz
      rcases zz with e | e | e | e
      · rw [e, y1] at hc3; cases hc3
      · rw [e, y2] at hc3; cases hc3
      · rw [e, wo3.wd] at hc3; cases hc3
      · rw [e, wo3.fr] at hc3; cases hc3
    have hr2r : r2 ≤ r := by
      have := T1.po.rr
      omega
    have nt3 : NT [p, g, wd, fr] H3 := by
      obtain ⟨_, _, _, _, y1, y2, _⟩ := b3.ex
      exact .cons (nt_dk y1) (.cons (nt_lst y2) (.cons (nt_dk wo3.wd) (.cons (nt_lst wo3.fr) .nil)))
    have hxx := hfm x (by simp)
    have P2 := M1.pre hpre (by omega) (by omega)
    rw [show (deep : Int) - 1 = ((deep - 1 : Nat) : Int) by omega] at P2
    refine ⟨_, rfl, rfl, _, rfl, ?_⟩
    have hla5 : ∀ H', Same H5 H' → LsA K H' c (ls ++ [(x, prt s1)]) := fun H' s => la5.up s
    have ask2 : Ask K cl H5 p g wd el fr c w0 F2 r2 (ls ++ [(x, prt s1)]) ((deep - 1 : Nat) : Int) :=
      ask0.ext (F2 := F2) (tk := tk1) (by rw [eF1, List.append_assoc]) (b3.same s35) (wo3.up s35) la5 (prt_w s1) P2 (by omega) hr2r ncc
    have T1' := T1
    by_cases hfold : h0 = "fold"
    · refine ieM hfold ?_
      have hpo1 : Post ((F1.length : Int) + 1 - 1) F2.length (r + 1 - 1) r2 ((deep : Int) - 1) := by
        have z := T1.po
        rw [show (F1.length : Int) + 1 - 1 = F1.length by omega, show r + 1 - 1 = r by omega, show (deep : Int) - 1 = ((deep - 1 : Nat) : Int) by omega]
        exact z
      have hl2 : (1 : Int) ≤ F2.length := fold_name hpre (by omega) (by omega) (by omega) hpo1
      obtain ⟨F2, y, rfl⟩ : ∃ F2' y, F2 = F2' ++ [y] := by
        rcases List.eq_nil_or_concat F2 with e | ⟨l, b, e⟩
        · rw [e] at hl2
          exact absurd hl2 (by simp)
        · exact ⟨l, b, by rw [e, List.concat_eq_append]⟩
      have wo5 := wo3.up s35
      have hfr5 := wo5.fr
      rw [List.map_append, show [y].map V.str = [V.str y] from rfl] at hfr5
      have dgf5 : DGet H5 wd (V.str "fresh") (some (.ref fr)) := by
        have z := DGet.k (k := Sum.inr "fresh") wo5.wd
        rw [wk_fresh] at z
        exact z
      refine ⟨_, rfl, wd, .ref fr, rfl, dgf5, .inl ⟨rfl, _, SqL.of hfr5⟩, fr, _, _, rfl, rfl, hfr5, last_at _ _, ?_⟩
      rw [drop_last]
      have hyy : isNm y = true ∧ gd (.str y) = true := hfm y (by rw [eF1]; simp)
      have b5 := b3.same s35
      have o5f : Off [fr] H5 (upd H5 fr (.lst (F2.map V.str))) := Off.put (by simp)
      have o5 : Off [p, g, wd, fr] H5 (upd H5 fr (.lst (F2.map V.str))) := Off.put (by simp)
      have ntf5 : NT [fr] H5 := .cons (nt_lst hfr5) .nil
      have nt5 : NT [p, g, wd, fr] H5 := by
        obtain ⟨_, _, _, _, y1, y2, _⟩ := b5.ex
        exact .cons (nt_dk y1) (.cons (nt_lst y2) (.cons (nt_dk wo5.wd) (.cons (nt_lst wo5.fr) .nil)))
      have wo6 : WdA K (upd H5 fr (.lst (F2.map V.str))) wd el fr w0 F2 r2 := by
        obtain ⟨ps, e1, e2⟩ := wo5.el
        exact ⟨by rw [upd_ne wne.2]; exact wo5.wd, upd_same, ps, by rw [upd_ne hap4'.2.2]; exact e1, paired_mono (fun _ _ z => seqT_off ntf5 o5f z) e2⟩
      have la5a : LsA K H5 a ls := by
        exact LsA.up s35 ⟨psx, la3a, la3b⟩
      have la6a : LsA K (upd H5 fr (.lst (F2.map V.str))) a ls := la5a.off nt5 hap1 o5
      have la6c : LsA K (upd H5 fr (.lst (F2.map V.str))) c (ls ++ [(x, prt s1)]) := la5.off nt5 ncc o5
      have b6 : Box (upd H5 fr (.lst (F2.map V.str))) p g := b5.off o5f (by simp [hap3'.1.symm]) (by simp [hap3'.2.symm])
      have M1p := M1.pop hl2
      rw [show ((F2 ++ [y]).length : Int) - 1 = F2.length by simp] at M1p
      have P3 := M1p.pre hpre (by omega) (by omega)
      rw [show (deep : Int) - 1 = ((deep - 1 : Nat) : Int) by omega] at P3
      have dd6 : Dp K (upd H5 fr (.lst (F2.map V.str))) v1 d1 := Dp.off (Dp.up s35 _ _ dd3) nt5 T1.nl o5
      generalize upd H5 fr (.lst (F2.map V.str)) = H6 at o5 wo6 la6a la6c b6 dd6
      have askA : Ask K cl H6 p g wd el fr a w0 F2 r2 ls ((deep - 1 : Nat) : Int) := by
        refine ⟨b6, wo6, la6a, hcw, hnm, fun z hz => hfm z (by rw [eF1]; simp [hz]), ?_, hsw, P3, by omega, by omega, hap1, hap2, hap3, hap4⟩
        refine hnd1.sublist ?_
        rw [eF1]
        exact List.Sublist.append ((List.sublist_append_left _ _).trans (List.sublist_append_left _ _)) (List.Sublist.refl _)
      refine ⟨_, rfl, _, rfl, _, rfl, _, rfl, _, _, rfl, rfl, p, g, wd, el, fr, a, w0, F2, r2, ls, deep - 1, 101, ?_, .inl rfl, by omega, by omega, by omega, askA, fun v2 d2 bs2 z2 F4 r3 H7 b7 o7 wo7 dd7 T2 => ⟨_, _, rfl, ?_⟩⟩
      · rw [show ((deep - 1 : Nat) : Int) = (deep : Int) - 1 by omega]
        rfl
      have nt6 : NT [p, g, wd, fr] H6 := by
        obtain ⟨_, _, _, _, y1, y2, _⟩ := b6.ex
        exact .cons (nt_dk y1) (.cons (nt_lst y2) (.cons (nt_dk wo6.wd) (.cons (nt_lst wo6.fr) .nil)))
      have la7c := la6c.off nt6 ncc o7
      have dd71 : Dp K H7 v1 d1 := Dp.off dd6 nt6 T1.nl o7
      obtain ⟨psc, la7x, la7y⟩ := la7c
      have llc := LsA.len la7y
      have lls : (ls ++ [(x, prt s1)]).length = ls.length + 1 := by simp
      refine ⟨_, rfl, _, rfl, _, rfl, _, rfl, _, rfl, _, rfl, _, rfl, _, rfl, few (by simp), fun T hT => ⟨few (by simp), fun B hB => ⟨c, B, psc.map V.ref, [.ref T], rfl, rfl, ?_, upd_same, few (by rw [List.length_map]; simp only [List.length_cons, List.length_nil]; omega), fun c2 hc2 => ?_⟩⟩⟩
      · exact (same_new hB _) _ _ ((same_new hT _) _ _ la7x)
      have e7 := (same_new (o := .tup [.str y, .str ""]) hT).trans (same_new (o := .lst [.ref T]) hB)
      have hT7 : (upd (upd H7 T (.tup [.str y, .str ""])) B (.lst [.ref T])) T = some (.tup [.str y, .str ""]) := same_new hB _ _ _ upd_same
      have s8 := same_new (o := .lst (psc.map V.ref ++ [.ref T])) hc2
      have s78 := e7.trans s8
      have hT8 := s8 _ _ hT7
      have la8 : LsA K (upd (upd (upd H7 T (.tup [.str y, .str ""])) B (.lst [.ref T])) c2 (.lst (psc.map V.ref ++ [.ref T]))) c2 (ls ++ [(x, prt s1)] ++ [(y, ("" : Str))]) :=
        ⟨psc ++ [T], by rw [upd_same, List.map_append]; rfl, paired_app (paired_mono (fun _ _ z => seqT_up s78 z) la7y) (.cons (.inl (.inl hT8)) .nil)⟩
      have hc27 : H7 c2 = none := e7.free hc2
      generalize upd (upd (upd H7 T (.tup [.str y, .str ""])) B (.lst [.ref T])) c2 (.lst (psc.map V.ref ++ [.ref T])) = H8 at s78 la8
      have ncc2 : c2 ∉ [p, g, wd, fr] := fun zz => by
        obtain ⟨_, _, _, _, y1, y2, _⟩ := b7.ex
        simp only [List.mem_cons, List.not_mem_nil, or_false] at zz
        rcases zz with e | e | e | e
        · rw [e, y1] at hc27; cases hc27
        · rw [e, y2] at hc27; cases hc27
        · rw [e, wo7.wd] at hc27; cases hc27
        · rw [e, wo7.fr] at hc27; cases hc27
      have M2 := M1p.kid (by have z := T2.po; rw [show ((deep - 1 : Nat) : Int) = (deep : Int) - 1 by omega] at z; exact z) (by omega) (by omega)
      have P4 := M2.pre hpre (by omega) (by omega)
      rw [show (deep : Int) - 1 = ((deep - 1 : Nat) : Int) by omega] at P4
      obtain ⟨tk2, eF2, nb2, sb2⟩ := T2.tk
      have hr3 : r3 ≤ r := by
        have := T2.po.rr
        omega
      have sub4 : ∀ z ∈ F4, z ∈ F1 := fun z hz => by rw [eF1, eF2]; simp [hz]
      have ndF1 : F1.Nodup := hnd1.sublist (List.sublist_append_left _ _)
      have ny4 : y ∉ F4 := fun z => by
        rw [eF1] at ndF1
        have z2 := ndF1.sublist (List.sublist_append_left _ _)
        exact (List.nodup_append.mp z2).2.2 y (by rw [eF2]; simp [z]) y (by simp) rfl
      have nd4 : (F4 ++ (ls ++ [(x, prt s1)] ++ [(y, ("" : Str))]).map (·.1)).Nodup := by
        rw [List.map_append, List.map_append, show [(x, prt s1)].map (·.1) = [x] from rfl, show [(y, ("" : Str))].map (·.1) = [y] from rfl]
        have base1 : (F4 ++ ls.map (·.1)).Nodup := hnd1.sublist (by
          rw [eF1, eF2]
          exact List.Sublist.append (((List.sublist_append_left _ _).trans (List.sublist_append_left _ _)).trans (List.sublist_append_left _ _)) (List.Sublist.refl _))
        have yF : y ∈ F1 := by rw [eF1]; simp
        have yx : y ≠ x := fun e => hnx.1 (by rw [← e]; exact yF)
        have yl : y ∉ ls.map (·.1) := fun z => (List.nodup_append.mp hnd1).2.2 y yF y z rfl
        have pm : (F4 ++ (ls.map (·.1) ++ [x] ++ [y])).Perm (y :: x :: (F4 ++ ls.map (·.1))) := by
          rw [← List.append_assoc, ← List.append_assoc]
          refine List.perm_append_comm.trans ?_
          refine List.Perm.cons y ?_
          exact (show (F4 ++ ls.map (·.1) ++ [x]).Perm (x :: (F4 ++ ls.map (·.1))) from List.perm_append_comm)
        rw [pm.nodup_iff, List.nodup_cons, List.nodup_cons]
        refine ⟨fun z => ?_, fun z => ?_, base1⟩
        · rcases List.mem_cons.mp z with z | z
          · exact yx z
          · rcases List.mem_append.mp z with z | z
            · exact ny4 z
            · exact yl z
        · rcases List.mem_append.mp z with z | z
          · exact hnx.1 (sub4 x z)
          · exact hnx.2 z
      have askB : Ask K cl H8 p g wd el fr c2 w0 F4 r3 (ls ++ [(x, prt s1)] ++ [(y, ("" : Str))]) ((deep - 1 : Nat) : Int) := by
        refine ⟨b7.same s78, wo7.up s78, la8, hcw, fun z hz => ?_, fun z hz => hfm z (by simp [sub4 z hz]), nd4, ?_, P4, by omega, ?_, ncc2, hap2, hap3, hap4⟩
        · rcases List.mem_append.mp hz with hz | hz
          · rcases List.mem_append.mp hz with hz | hz
            · exact hnm z hz
            · rw [List.mem_singleton.mp hz]
              exact hxx
          · rw [List.mem_singleton.mp hz]
            exact hyy
        · rw [scL_snoc, scL_snoc]
          exact (hsw.upd (prt_w s1)).upd (.inl rfl)
        · simp only [List.length_append, List.length_singleton]
          omega
      refine ⟨_, rfl, _, _, rfl, rfl, p, g, wd, el, fr, c2, w0, F4, r3, ls ++ [(x, prt s1)] ++ [(y, ("" : Str))], deep - 1, 101, ?_, .inl rfl, by omega, by omega, by omega, askB, fun v3 d3 bs3 z3 F5 r4 H9 b9 o9 wo9 dd9 T3 => ⟨few (by simp), fun T6 hT6 => ?_⟩⟩
      · rw [show ((deep - 1 : Nat) : Int) = (deep : Int) - 1 by omega]
        rfl
      have s10 := same_new (o := .tup [.str "fold", .str y, v2, .str x, v1, v3]) hT6
      have o79 : Off [p, g, wd, fr] H7 H9 := (Off.of s78).trans o9
      have nt7 : NT [p, g, wd, fr] H7 := by
        obtain ⟨_, _, _, _, y1, y2, _⟩ := b7.ex
        exact .cons (nt_dk y1) (.cons (nt_lst y2) (.cons (nt_dk wo7.wd) (.cons (nt_lst wo7.fr) .nil)))
      have f1 := Dp.up s10 _ _ (Dp.off dd71 nt7 T1.nl o79)
      have f2 := Dp.up s10 _ _ (Dp.off dd7 nt7 T2.nl o79)
      have f3 := Dp.up s10 _ _ dd9
      have hF5 : Post ((F1 ++ [x]).length) F5.length (r + 1) r4 deep := by
        rw [List.length_append, List.length_singleton]
        have M3 := M2.kid (by have z := T3.po; rw [show ((deep - 1 : Nat) : Int) = (deep : Int) - 1 by omega] at z; exact z) (by omega) (by omega)
        exact M3.post (by omega) (by omega) (by omega) (by omega) (by omega) (by omega)
      refine q _ (.tuple [.str "fold", .str y, d2, .str x, d1, d3]) (y :: x :: (bs2 ++ (bs1 ++ bs3))) (1 + (z2 + (z1 + z3))) F5 r4 _ (b9.same s10) ((((o3.trans (Off.of s35)).trans (o5.trans o7)).trans o79).trans (Off.of s10)) (wo9.up s10) (.tup (.inl (.inl upd_same)) (.cons (.str _) (.cons (.str _) (.cons f2 (.cons (.str _) (.cons f1 (.cons f3 .nil))))))) ?_
      exact told_fold (by omega) hd7 hrm hrm40 (hnd.sublist (List.sublist_append_left _ _)) hxx.1 hxx.2 hyy.1 hyy.2 st1 T1 T2 T3 hF5
    · refine ieN hfold ?_
      have fin : ∀ (sl : Str) (c2 : Nat), (h0, sl) ∈ exL → sl.cps.toList = [110, 101, c2] → (c2 = 101 ∨ c2 = 116) → (h0 = "each" ∨ h0 = "pick") → ∀ v2 d2 bs2 z2 F3 r3 H6, Box H6 p g → Off [p, g, wd, fr] H5 H6 → WdA K H6 wd el fr w0 F3 r3 → Dp K H6 v2 d2 → Told cl F2 F3 r2 r3 (ls ++ [(x, prt s1)]) ((deep - 1 : Nat) : Int) (deep - 1 + 4) c2 d2 bs2 z2 →
          ∀ T6, H6 T6 = none → Q (.ref T6) (upd H6 T6 (.tup [.str h0, .str x, v1, v2])) := by
        intro sl c2 m esl ce hk v2 d2 bs2 z2 F3 r3 H6 b6 o6 wo6 dd6 T2 T6 hT6
        have s7 := same_new (o := .tup [.str h0, .str x, v1, v2]) hT6
        have o36 : Off [p, g, wd, fr] H3 H6 := (Off.of s35).trans o6
        have dd1' := Dp.up s7 _ _ (Dp.off dd3 nt3 T1.nl o36)
        have dd2' := Dp.up s7 _ _ dd6
        have hF3 : Post ((F1 ++ [x]).length) F3.length (r + 1) r3 deep := by
          rw [List.length_append, List.length_singleton]
          have M2 := M1.kid (by have z := T2.po; rw [show ((deep - 1 : Nat) : Int) = (deep : Int) - 1 by omega] at z; exact z) (by omega) (by omega)
          exact M2.post (by omega) (by omega) (by omega) (by omega) (by omega) (by omega)
        have T2' : Told cl F2 F3 r2 r3 (ls ++ [(x, if h0 = "let" then s1 else prt s1)]) ((deep - 1 : Nat) : Int) (deep - 1 + 4) c2 d2 bs2 z2 := by
          rw [if_neg hlet]
          exact T2
        refine q _ (.tuple [.str h0, .str x, d1, d2]) (x :: (bs1 ++ bs2)) (1 + (z1 + z2)) F3 r3 _ (b6.same s7) ((o3.trans o36).trans (Off.of s7)) (wo6.up s7) (.tup (.inl (.inl upd_same)) (.cons (.str _) (.cons (.str _) (.cons dd1' (.cons dd2' .nil))))) ?_
        exact told_bind (by omega) hd7 hrm hrm40 (hnd.sublist (List.sublist_append_left _ _)) hxx.1 hxx.2 m esl ce (.inr hk) (fun z => absurd z hlet) st1 T1 T2' hF3
      by_cases heach : h0 = "each"
      · subst heach
        refine ⟨_, rfl, _, rfl, _, rfl, _, rfl, _, rfl, _, rfl, rfl, _, rfl, ieT rfl ⟨_, rfl, _, rfl, _, _, rfl, rfl, p, g, wd, el, fr, c, w0, F2, r2, ls ++ [(x, prt s1)], deep - 1, 101, ?_, .inl rfl, by omega, by omega, by omega, ask2, fun v2 d2 bs2 z2 F3 r3 H6 b6 o6 wo6 dd6 T2 => ⟨few (by simp), fun T6 hT6 => fin "nee" 101 (by decide +kernel) (by decide +kernel) (.inl rfl) (.inl rfl) v2 d2 bs2 z2 F3 r3 H6 b6 o6 wo6 dd6 T2 T6 hT6⟩⟩⟩
        rw [show ((deep - 1 : Nat) : Int) = (deep : Int) - 1 by omega]
        rfl
      · have hpick : h0 = "pick" := by
          simp only [List.mem_cons, List.not_mem_nil, or_false] at hh
          rcases hh with z | z | z | z
          · exact absurd z hlet
          · exact absurd z heach
          · exact z
          · exact absurd z hfold
        subst hpick
        refine ⟨_, rfl, _, rfl, _, rfl, _, rfl, _, rfl, _, rfl, rfl, _, rfl, ieF (by decide +kernel) ⟨_, rfl, _, rfl, _, _, rfl, rfl, p, g, wd, el, fr, c, w0, F2, r2, ls ++ [(x, prt s1)], deep - 1, 116, ?_, .inr rfl, by omega, by omega, by omega, ask2, fun v2 d2 bs2 z2 F3 r3 H6 b6 o6 wo6 dd6 T2 => ⟨few (by simp), fun T6 hT6 => fin "net" 116 (by decide +kernel) (by decide +kernel) (.inr rfl) (.inr rfl) v2 d2 bs2 z2 F3 r3 H6 b6 o6 wo6 dd6 T2 T6 hT6⟩⟩⟩
        rw [show ((deep - 1 : Nat) : Int) = (deep : Int) - 1 by omega]
        rfl
end
/-! children of a call or a tuple; pieces -/
theorem slc_ne : ∀ p ∈ allL, p.2.cps.toList ≠ [] := by decide +kernel
theorem FoD.nod3 {c : Nat} {d : PyData} {h sl : Str} {args : List PyData} (f : FoD c d h sl args) : 3 ≤ nod d := by
  rw [f.e]
  have l1 := f.fm.len
  have l2 := nods_len args
  have z : sl.cps.toList ≠ [] := slc_ne _ (tblC_all _ f.mem)
  have l3 : 0 < sl.cps.toList.length := List.length_pos_iff.mpr z
  simp only [nod, nods]
  omega
theorem Wt.nod3 {n : Nat} {cl : Cl} {f : Nat} {sc : Scp} {c : Nat} {d : PyData} {bs : List Str} {z : Nat} (h : Wt n cl f sc c d bs z) : 3 ≤ nod d := by
  obtain ⟨g, rfl⟩ := h.pos
  obtain ⟨h0, sl, args, rows, fo, _⟩ := h
  exact fo.nod3
structure Kids (cl : Cl) (ls : List (Str × Str)) (f : Nat) (F Fj : List Str) (r rj : Int) (es : List PyData) (rows : List (List Str × Nat)) : Prop where
  wt : Paired (fun (r : List Str × Nat) (d : PyData) => Wt 12 cl f (scL ls) 101 d r.1 r.2) rows es
  tk : Tak F Fj (rows.flatMap (·.1))
  nd : (nods es : Int) + capN rj ≤ 3 * (es.length : Int) + capN r
  dp : PyData.depthAll es ≤ 2 * f
  gd : gds es = true
  nl : nls es = true
theorem Kids.nil {cl : Cl} {ls : List (Str × Str)} {f : Nat} {F : List Str} {r : Int} : Kids cl ls f F F r r [] [] := ⟨.nil, Tak.refl F, by simp [nods], by simp [PyData.depthAll], by simp [gds], by simp [nls]⟩
theorem Kids.snoc {cl : Cl} {ls : List (Str × Str)} {f : Nat} {F Fj Fk : List Str} {r rj rk deep : Int} {es : List PyData} {rows : List (List Str × Nat)} {d : PyData} {bs : List Str} {z : Nat} (nF : F.Nodup) (k : Kids cl ls f F Fj r rj es rows) (T : Told cl Fj Fk rj rk ls deep f 101 d bs z) :
    Kids cl ls f F Fk r rk (es ++ [d]) (rows ++ [(bs, z)]) := by
  have a1 := k.nd
  have a2 := T.nd
  have l1 : limC 101 = 3 := rfl
  have a3 := k.dp
  have a4 := T.dp
  refine ⟨paired_app k.wt (.cons T.wt .nil), ?_, ?_, ?_, ?_, ?_⟩
  · rw [List.flatMap_append]
    refine Tak.app nF k.tk ?_
    have e : [(bs, z)].flatMap (·.1) = bs := by simp
    rw [e]
    exact T.tk
  · rw [nods_app, List.length_append, List.length_singleton]
    simp only [nods]
    omega
  · rw [depthAll_app]
    simp only [PyData.depthAll]
    omega
  · rw [gds_app, k.gd]
    simp only [gds, T.gd, Bool.and_self]
  · rw [nls_app, k.nl]
    simp only [nls, T.nl, Bool.and_self]
theorem Kids.len {cl : Cl} {ls : List (Str × Str)} {f : Nat} {F Fj : List Str} {r rj : Int} {es : List PyData} {rows : List (List Str × Nat)} (k : Kids cl ls f F Fj r rj es rows) : rows.length = es.length := by
  have h := k.wt
  clear k
  induction h with
  | nil => rfl
  | cons _ _ ih => rw [List.length_cons, List.length_cons, ih]
theorem split_nth {α : Type} : ∀ {l : List α} {j : Nat}, j < l.length → ∃ A y B, l = A ++ y :: B ∧ A.length = j
  | a :: l, 0, _ => ⟨[], a, l, rfl, rfl⟩
  | a :: l, j + 1, h => by
    obtain ⟨A, y, B, e, e2⟩ := split_nth (l := l) (j := j) (by simpa using h)
    exact ⟨a :: A, y, B, by rw [e]; rfl, by rw [List.length_cons, e2]⟩
theorem set_mid {α : Type} (A B : List α) (y z : α) : (A ++ y :: B).set A.length z = A ++ z :: B := by
  induction A with
  | nil => rfl
  | cons a A ih => rw [List.cons_append, List.length_cons, List.set_cons_succ, ih]; rfl
theorem paired_mid {α β : Type} {G : α → β → Prop} : ∀ {A : List α} {y : α} {B : List α} {A2 : List β} {y2 : β} {B2 : List β}, A.length = A2.length → Paired G (A ++ y :: B) (A2 ++ y2 :: B2) → Paired G A A2 ∧ G y y2 ∧ Paired G B B2
  | [], _, _, [], _, _, _, .cons h t => ⟨.nil, h, t⟩
  | _ :: _, _, _, _ :: _, _, _, e, .cons h t => by
    have z := paired_mid (by simpa using e) t
    exact ⟨.cons h z.1, z.2⟩
  | [], _, _, _ :: _, _, _, e, _ => nomatch e
  | _ :: _, _, _, [], _, _, e, _ => nomatch e
/-- a piece of what falls, to be handed to a call of its own -/
structure PcD (cl : Cl) (ls : List (Str × Str)) (m : Nat) (d : PyData) (bs : List Str) (z : Nat) : Prop where
  wt : Wt 12 cl 4 (scL ls) 101 d bs z
  st : St 4 (scL ls) d "piece"
  nd : nod d ≤ m
  dp : d.depth ≤ 5
  gd : gd d = true
  nl : nl d = true
theorem kids_set {cl : Cl} {ls : List (Str × Str)} {f : Nat} {F F1 F2 : List Str} {r r1 : Int} {es : List PyData} {rows : List (List Str × Nat)} {j : Nat} {d : PyData} {bs : List Str} {z : Nat} (nF : F.Nodup) (hf : 5 ≤ f) (k : Kids cl ls f F F1 r r1 es rows) (hj : j < es.length) (h4 : es.length ≤ 4)
    (P : PcD cl ls 18 d bs z) (tk : Tak F1 F2 bs) : ∃ rows2, Paired (fun (r : List Str × Nat) (d : PyData) => Wt 12 cl f (scL ls) 101 d r.1 r.2) rows2 (es.set j d) ∧ Tak F F2 (rows2.flatMap (·.1)) ∧ (nods (es.set j d) : Int) + capN r1 ≤ 27 + capN r ∧
      PyData.depthAll (es.set j d) ≤ 2 * f ∧ gds (es.set j d) = true ∧ nls (es.set j d) = true := by
  have kl := k.len
  obtain ⟨A, y, B, e1, e2⟩ := split_nth hj
  obtain ⟨A2, y2, B2, e3, e4⟩ := split_nth (l := rows) (j := j) (by omega)
  subst e1
  subst e3
  subst e2
  have w := k.wt
  obtain ⟨w1, w2, w3⟩ := paired_mid e4 w
  have n3 := w2.nod3
  have g := k.gd
  have l := k.nl
  have dd := k.dp
  have nn := k.nd
  have pn := P.nd
  have pd := P.dp
  rw [nods_app] at nn
  rw [gds_app] at g
  rw [nls_app] at l
  rw [depthAll_app] at dd
  simp only [nods, gds, nls, PyData.depthAll, Bool.and_eq_true, List.length_append, List.length_cons] at nn g l dd h4
  rw [set_mid]
  refine ⟨A2 ++ (bs, z) :: B2, paired_app w1 (.cons (P.wt.mono (by omega)) w3), ?_, ?_, ?_, ?_, ?_⟩
  · have t : Tak F F1 (A2.flatMap (·.1) ++ B2.flatMap (·.1)) := by
      refine k.tk.sub ?_
      rw [List.flatMap_append, List.flatMap_cons]
      exact List.Sublist.append (List.Sublist.refl _) (List.sublist_append_right _ _)
    refine (Tak.app nF t tk).perm ?_
    rw [List.flatMap_append, List.flatMap_cons, List.append_assoc]
    exact List.Perm.append_left _ List.perm_append_comm
  · rw [nods_app]
    simp only [nods]
    omega
  · rw [depthAll_app]
    simp only [PyData.depthAll]
    omega
  · rw [gds_app]
    simp only [gds, P.gd, g, Bool.and_self]
  · rw [nls_app]
    simp only [nls, P.nl, l, Bool.and_self]
theorem told_call {cl : Cl} {ls : List (Str × Str)} {F F1 : List Str} {r r1 : Int} {deep : Nat} {x : Str} {es : List PyData} {rows : List (List Str × Nat)} (hd : 2 ≤ deep) (hr1 : 1 ≤ r) (hr : r ≤ 30)
    (hx : isNm x = true) (gx : gd (.str x) = true) (hc : CallOk 12 cl (scL ls) x es) (wt : Paired (fun (r : List Str × Nat) (d : PyData) => Wt 12 cl (deep - 1 + 4) (scL ls) 101 d r.1 r.2) rows es) (tk : Tak F F1 (rows.flatMap (·.1)))
    (nd : (nods es : Int) + capN r1 ≤ 27 + capN r) (dp : PyData.depthAll es ≤ 2 * (deep - 1 + 4)) (g : gds es = true) (l : nls es = true) (po : Post F.length F1.length (r + 1) r1 deep) :
    Told cl F F1 (r + 1) r1 ls deep (deep + 4) 101 (.tuple [.str "call", .str x, .tuple es]) (rows.flatMap (·.1)) (1 + (rows.map (·.2)).sum) := by
  obtain ⟨e, rfl⟩ : ∃ e, deep = e + 1 := ⟨deep - 1, by omega⟩
  rw [Nat.add_sub_cancel] at wt dp
  have l1 : limC 101 = 3 := rfl
  have cm : capN r ≤ capN 30 := cap_mono hr
  have cl1 : capN (r + 1 - 1) + 28 ≤ capN (r + 1) := cap_less (by omega)
  rw [show r + 1 - 1 = r by omega] at cl1
  have c30 : capN 30 = 852 := by decide
  have c3 := cap_nn r1
  have na : nods [PyData.str x, .tuple es] ≤ 900 := by
    simp only [nods, nod]
    omega
  have w2 : Wt 12 cl (e + 4 + 1) (scL ls) 101 (.tuple [.str "call", .str x, .tuple es]) (rows.flatMap (·.1)) (1 + (rows.map (·.2)).sum) := wt_call hx gx na hc wt
  have fo : FoD 101 (.tuple [.str "call", .str x, .tuple es]) "call" "ns" [.str x, .tuple es] := by
    refine ⟨rfl, .inl rfl, (by decide +kernel : (("call" : Str), ("ns" : Str)) ∈ exL), ?_, na⟩
    rw [show ("ns" : Str).cps.toList = [110, 115] by decide +kernel]
    exact ⟨⟨x, rfl, hx, gx⟩, ⟨es, rfl⟩, True.intro⟩
  refine ⟨tk, w2, fun _ => ⟨"", .other fo (by decide +kernel) (by decide +kernel) (by decide +kernel)⟩, ?_, ?_, ?_, ?_, ni_head (by decide +kernel), po⟩
  · simp only [nod, nods]
    omega
  · simp only [PyData.depth, PyData.depthAll]
    omega
  · have gc : gd (.str "call") = true := by decide +kernel
    simp only [gd, gds, Bool.and_eq_true] at gx gc ⊢
    exact ⟨gc, gx, g, trivial⟩
  · simp only [nl, nls, l, Bool.and_self]
theorem scL_get0 : ∀ (ls : List (Str × Str)) (sc : Scp) (x : Str), x ∉ ls.map (·.1) → ls.foldl (fun sc p => updS sc p.1 p.2) sc x = sc x
  | [], _, _, _ => rfl
  | (y, s) :: ls, sc, x, h => by
    have h1 : x ≠ y ∧ x ∉ ls.map (·.1) := by
      simp only [List.map_cons, List.mem_cons, not_or] at h
      exact h
    show ls.foldl (fun sc p => updS sc p.1 p.2) (updS sc y s) x = sc x
    rw [scL_get0 ls _ x h1.2]
    unfold updS
    rw [if_neg h1.1]
theorem scL_get : ∀ (ls : List (Str × Str)) (sc : Scp) (x s : Str), (ls.map (·.1)).Nodup → (x, s) ∈ ls → ls.foldl (fun sc p => updS sc p.1 p.2) sc x = some s
  | [], _, _, _, _, h => nomatch h
  | (y, t) :: ls, sc, x, s, nd, h => by
    rw [List.map_cons, List.nodup_cons] at nd
    show ls.foldl (fun sc p => updS sc p.1 p.2) (updS sc y t) x = some s
    rcases List.mem_cons.mp h with h | h
    · cases h
      rw [scL_get0 ls _ _ nd.1]
      unfold updS
      rw [if_pos rfl]
    · exact scL_get ls _ x s nd.2 h
theorem scL_mem {ls : List (Str × Str)} {x s : Str} (nd : (ls.map (·.1)).Nodup) (h : (x, s) ∈ ls) : scL ls x = some s := scL_get ls _ x s nd h
theorem fm_ei {a : PyData} {i : Int} (hi : 0 ≤ i) : FmA ("ei" : Str).cps.toList [a, .int i] := by
  rw [show ("ei" : Str).cps.toList = [101, 105] by decide +kernel]
  exact ⟨True.intro, ⟨i, rfl, hi⟩, True.intro⟩
theorem wt_part {n : Nat} {cl : Cl} {f : Nat} {sc : Scp} {a : PyData} {i : Int} {b : List Str} {z : Nat} (wa : Wt n cl f sc 101 a b z) (hi : 0 ≤ i) (na : nod a ≤ 890) : Wt n cl (f + 1) sc 101 (.tuple [.str "part", a, .int i]) b (1 + z) := by
  have A : Acc n cl f sc ("ei" : Str).cps.toList ([a] ++ [.int i]) ([] ++ [(b, z)]) := by
    rw [show ("ei" : Str).cps.toList = [101] ++ [105] by decide +kernel]
    exact Acc.leaf (Acc.tree (cs := []) (args := []) Acc.nil (c := 101) (.inl rfl) wa) (c := 105) ⟨i, rfl, hi⟩ (by decide) (by decide) (by decide)
  have z2 := A.done (h := "part") (c := 101) (.inl rfl) (by decide +kernel : (("part" : Str), ("ei" : Str)) ∈ exL) (by simp only [List.cons_append, List.nil_append, nods, nod]; omega) ⟨fun e => absurd e (by decide +kernel), fun e => absurd e (by decide +kernel)⟩ (bnd_none (by decide +kernel) (by decide +kernel) (by decide +kernel) (by decide +kernel))
  simpa using z2
theorem fo_part {a : PyData} {i : Int} (hi : 0 ≤ i) (na : nod a ≤ 890) : FoD 101 (.tuple [.str "part", a, .int i]) "part" "ei" [a, .int i] :=
  ⟨rfl, .inl rfl, (by decide +kernel : (("part" : Str), ("ei" : Str)) ∈ exL), fm_ei hi, by simp only [nods, nod]; omega⟩
/-- a part of a name's own, or of a piece -/
structure PcN (cl : Cl) (ls : List (Str × Str)) (f m : Nat) (s : Str) (d : PyData) : Prop where
  wt : ∃ z, Wt 12 cl f (scL ls) 101 d [] z
  st : ∀ n, St n (scL ls) d s
  nd : nod d ≤ m
  dp : d.depth ≤ f
  gd : gd d = true
  nl : nl d = true
theorem fo_name {x : Str} (hx : isNm x = true) (gx : gd (.str x) = true) : FoD 101 (.tuple [.str "name", .str x]) "name" "n" [.str x] :=
  ⟨rfl, .inl rfl, (by decide +kernel : (("name" : Str), ("n" : Str)) ∈ exL), fm_n hx gx, by simp only [nods, nod]; omega⟩
theorem pcn_name {cl : Cl} {ls : List (Str × Str)} {x s : Str} (hx : isNm x = true) (gx : gd (.str x) = true) (h : scL ls x = some s) : PcN cl ls 1 3 s (.tuple [.str "name", .str x]) := by
  have w := leaf_drw (n := 12) (cl := cl) (sc := scL ls) (h := "name") (sl := "n") (x := .str x) (by simp) (fm_n hx gx) (fun _ y ey => by cases ey; rw [h]; rfl) rfl gx rfl rfl (ni_head (by decide +kernel))
  refine ⟨⟨1, w.wt⟩, fun n => ?_, w.nd, by simp only [PyData.depth, PyData.depthAll]; omega, w.gd, w.nl⟩
  have z := St.name (n := n) (sc := scL ls) (fo_name hx gx)
  rw [h] at z
  exact z
theorem pcn_part {cl : Cl} {ls : List (Str × Str)} {f m : Nat} {s : Str} {a : PyData} {i : Int} (h : PcN cl ls f m s a) (hs : s ≠ "") (hi : 0 ≤ i ∧ i < 100) (hm : m ≤ 800) : PcN cl ls (f + 1) (m + 3) "piece" (.tuple [.str "part", a, .int i]) := by
  obtain ⟨z, w⟩ := h.wt
  have n1 := h.nd
  have d1 := h.dp
  refine ⟨⟨1 + z, wt_part w hi.1 (by omega)⟩, ?_, by simp only [nod, nods]; omega, by simp only [PyData.depth, PyData.depthAll]; omega, ?_, by simp only [nl, nls, h.nl, Bool.and_self]⟩
  · intro n
    have z := St.part (fo_part hi.1 (by omega)) (h.st n)
    rw [if_neg hs] at z
    exact z
  · have gi : gd (.int i) = true := gd_int (Nat.lt_of_lt_of_le (by omega : i.natAbs < 2 ^ 20) (Nat.pow_le_pow_right (by decide) (by decide)))
    have gp : gd (.str "part") = true := by decide +kernel
    have ga := h.gd
    simp only [gd, gds, Bool.and_eq_true] at gi gp ⊢
    exact ⟨gp, ga, gi, trivial⟩
theorem PcN.pcd {cl : Cl} {ls : List (Str × Str)} {f m k : Nat} {d : PyData} (h : PcN cl ls f m "piece" d) (hf : f ≤ 4) (hm : m ≤ k) : ∃ z, PcD cl ls k d [] z := by
  obtain ⟨z, w⟩ := h.wt
  have := h.nd
  have := h.dp
  exact ⟨z, w.mono hf, h.st 4, by omega, by omega, h.gd, h.nl⟩
/-- a let of a piece -/
theorem pcd_let {cl : Cl} {ls : List (Str × Str)} {x : Str} {a b : PyData} (hx : isNm x = true) (gx : gd (.str x) = true) (ha : PcN cl ls 3 9 "piece" a) (hb : PcN cl (ls ++ [(x, ("piece" : Str))]) 2 6 "piece" b) : ∃ z, PcD cl ls 18 (.tuple [.str "let", .str x, a, b]) [x] z := by
  obtain ⟨z1, w1⟩ := ha.wt
  obtain ⟨z2, w2⟩ := hb.wt
  have n1 := ha.nd
  have n2 := hb.nd
  have d1 := ha.dp
  have d2 := hb.dp
  have sb := hb.st 4
  rw [scL_snoc] at w2 sb
  have na : nods [PyData.str x, a, b] ≤ 900 := by
    simp only [nods, nod]
    omega
  have fo : FoD 101 (.tuple [.str "let", .str x, a, b]) "let" "nee" [.str x, a, b] := by
    refine ⟨rfl, .inl rfl, (by decide +kernel : (("let" : Str), ("nee" : Str)) ∈ exL), ?_, na⟩
    rw [show ("nee" : Str).cps.toList = [110, 101, 101] by decide +kernel]
    exact ⟨⟨x, rfl, hx, gx⟩, True.intro, True.intro, True.intro⟩
  have w := wt_bind (n := 12) (cl := cl) (f := 3) (sc := scL ls) (h := "let") (sl := "nee") (x := x) (s := "piece") (a := a) (b := b) (c2 := 101) (by decide +kernel) (by decide +kernel) (.inl rfl) hx gx na (.inl rfl) w1 (ha.st 12) (by rw [if_pos rfl]; exact w2.mono (by omega))
  have g1 := ha.gd
  have g2 := hb.gd
  have gl : gd (.str "let") = true := by decide +kernel
  refine ⟨1 + (z1 + z2), ⟨by simpa using w, ?_, by simp only [nod, nods]; omega, by simp only [PyData.depth, PyData.depthAll]; omega, ?_, by simp only [nl, nls, ha.nl, hb.nl, Bool.and_self]⟩⟩
  · exact St.lt fo (ha.st 3) sb
  · simp only [gd, gds, Bool.and_eq_true] at gx gl ⊢
    exact ⟨gl, gx, g1, g2, trivial⟩
/-! calls -/
theorem ex_part : ∀ p ∈ exL, p.1 = "part" → p.2 = "ei" := by decide +kernel
theorem ex_let : ∀ p ∈ exL, p.1 = "let" → p.2 = "nee" := by decide +kernel
theorem leaf_st {n : Nat} {cl : Cl} {sc : Scp} {d : PyData} {bs : List Str} {z : Nat} (w : Wt n cl 1 sc 101 d bs z) : ∃ s, St 1 sc d s := by
  obtain ⟨h, sl, args, rows, fo, wd, pr, e1, e2⟩ := w
  have e0 : in3 1 sl.cps.toList args = [] := by
    generalize in3 1 sl.cps.toList args = ks at pr
    cases pr with
    | nil => rfl
    | cons hh _ =>
      obtain ⟨_, _, w⟩ := hh
      exact w.elim
  have fm := fo.fm
  have mem : (h, sl) ∈ exL := fo.mem
  by_cases h1 : h = "name"
  · obtain ⟨x, ex⟩ := shp_name (tblC_all _ fo.mem) h1 fm
    subst h1
    subst ex
    exact ⟨_, .name fo⟩
  by_cases h2 : h = "part"
  · have es := ex_part _ mem h2
    simp only at es
    rw [es, show ("ei" : Str).cps.toList = [101, 105] by decide +kernel] at fm e0
    match args, fm with
    | [a, i], _ => exact absurd e0 (by simp [in3, in3Slot, inSlot])
  by_cases h3 : h = "let"
  · have es := ex_let _ mem h3
    simp only at es
    rw [es, show ("nee" : Str).cps.toList = [110, 101, 101] by decide +kernel] at fm e0
    match args, fm with
    | [a, b, c], _ => exact absurd e0 (by simp [in3, in3Slot, inSlot])
  exact ⟨"", .other fo h1 h2 h3⟩
theorem told_leaf {cl : Cl} {ls : List (Str × Str)} {d : PyData} {F : List Str} {r : Int} {deep : Nat} (D : ∀ n cl, Drw n cl 1 (scL ls) 101 d [] 1 3) (hd : 1 ≤ deep) : Told cl F F r (r - 1) ls deep (deep + 4) 101 d [] 1 := by
  have w := D 12 cl
  obtain ⟨s, st⟩ := leaf_st w.wt
  have h1 := w.nd
  have h2 := w.dp
  have h3 : capN (r - 1) ≤ capN r := cap_mono (by omega)
  have l1 : limC 101 = 3 := rfl
  exact ⟨Tak.refl F, w.wt.mono (by omega), fun _ => ⟨s, st.mono (by omega)⟩, by omega, by omega, w.gd, w.nl, w.ni, post_leaf (by omega) (by omega)⟩
theorem wk_falls (w : Wor) (el fr : Addr) (r : Int) : valV (wkv w el fr r) (Sum.inr "falls" : Key) = some (fallV w.fl) := by
  have n1 : ¬ (("name" : Str) = "falls") := by decide +kernel
  have n2 : ¬ (("many" : Str) = "falls") := by decide +kernel
  unfold wkv valV
  simp [n1, n2]
theorem wk_elder (w : Wor) (el fr : Addr) (r : Int) : valV (wkv w el fr r) (Sum.inr "elder" : Key) = some (.ref el) := by
  have n1 : ¬ (("name" : Str) = "elder") := by decide +kernel
  have n2 : ¬ (("many" : Str) = "elder") := by decide +kernel
  have n3 : ¬ (("falls" : Str) = "elder") := by decide +kernel
  unfold wkv valV
  simp [n1, n2, n3]
theorem wk_name (w : Wor) (el fr : Addr) (r : Int) : valV (wkv w el fr r) (Sum.inr "name" : Key) = some (.str w.nm) := by
  unfold wkv valV
  simp
theorem wk_many (w : Wor) (el fr : Addr) (r : Int) : valV (wkv w el fr r) (Sum.inr "many" : Key) = some (.int w.many) := by
  have n1 : ¬ (("name" : Str) = "many") := by decide +kernel
  unfold wkv valV
  simp [n1]
theorem wk_room (w : Wor) (el fr : Addr) (r : Int) : valV (wkv w el fr r) (Sum.inr "room" : Key) = some (.int r) := by
  have n1 : ¬ (("name" : Str) = "room") := by decide +kernel
  have n2 : ¬ (("many" : Str) = "room") := by decide +kernel
  have n3 : ¬ (("falls" : Str) = "room") := by decide +kernel
  have n4 : ¬ (("elder" : Str) = "room") := by decide +kernel
  have n5 : ¬ (("fresh" : Str) = "room") := by decide +kernel
  unfold wkv valV
  simp [n1, n2, n3, n4, n5]
theorem WdA.at {K : PySem.W.Frag} {H : Hp} {wd el fr : Addr} {w : Wor} {F : List Str} {r : Int} (h : WdA K H wd el fr w F r) : DGet H wd (V.str "fresh") (some (.ref fr)) ∧ DGet H wd (V.str "falls") (some (fallV w.fl)) ∧ DGet H wd (V.str "elder") (some (.ref el)) ∧ DGet H wd (V.str "name") (some (.str w.nm)) ∧
    DGet H wd (V.str "many") (some (.int w.many)) ∧ DGet H wd (V.str "room") (some (.int r)) := by
  have z1 := DGet.k (k := Sum.inr "fresh") h.wd
  have z2 := DGet.k (k := Sum.inr "falls") h.wd
  have z3 := DGet.k (k := Sum.inr "elder") h.wd
  have z4 := DGet.k (k := Sum.inr "name") h.wd
  have z5 := DGet.k (k := Sum.inr "many") h.wd
  have z6 := DGet.k (k := Sum.inr "room") h.wd
  rw [wk_fresh] at z1
  rw [wk_falls] at z2
  rw [wk_elder] at z3
  rw [wk_name] at z4
  rw [wk_many] at z5
  rw [wk_room] at z6
  exact ⟨z1, z2, z3, z4, z5, z6⟩
theorem WdA.off {K : PySem.W.Frag} {H H' : Hp} {wd el fr : Addr} {w : Wor} {F : List Str} {r : Int} {l : List Addr} (h : WdA K H wd el fr w F r) (nt : NT l H) (n1 : wd ∉ l) (n2 : fr ∉ l) (n3 : el ∉ l) (o : Off l H H') : WdA K H' wd el fr w F r := by
  obtain ⟨ps, e1, e2⟩ := h.el
  exact ⟨o.get h.wd n1, o.get h.fr n2, ps, o.get e1 n3, paired_mono (fun _ _ z => seqT_off nt o z) e2⟩
theorem nt4 {K : PySem.W.Frag} {H : Hp} {p g wd el fr : Addr} {w : Wor} {F : List Str} {r : Int} (b : Box H p g) (wo : WdA K H wd el fr w F r) : NT [p, g, wd, fr] H := by
  obtain ⟨_, _, _, _, y1, y2, _⟩ := b.ex
  exact .cons (nt_dk y1) (.cons (nt_lst y2) (.cons (nt_dk wo.wd) (.cons (nt_lst wo.fr) .nil)))
theorem fresh4 {K : PySem.W.Frag} {H : Hp} {p g wd el fr D : Addr} {w : Wor} {F : List Str} {r : Int} (b : Box H p g) (wo : WdA K H wd el fr w F r) (h : H D = none) : D ∉ [p, g, wd, fr] := fun zz => by
  obtain ⟨_, _, _, _, y1, y2, _⟩ := b.ex
  simp only [List.mem_cons, List.not_mem_nil, or_false] at zz
  rcases zz with e | e | e | e
  · rw [e, y1] at h; cases h
  · rw [e, y2] at h; cases h
  · rw [e, wo.wd] at h; cases h
  · rw [e, wo.fr] at h; cases h
/-- what is asked holds for an inner tree -/
theorem Ask.kid {K : PySem.W.Frag} {cl : Cl} {H H' : Hp} {p g wd el fr a : Addr} {w : Wor} {F Fj bs : List Str} {r rj : Int} {ls : List (Str × Str)} {deep d2 : Int} (A : Ask K cl H p g wd el fr a w F r ls deep) (b : Box H' p g) (wo : WdA K H' wd el fr w Fj rj) (la : LsA K H' a ls)
    (tk : Tak F Fj bs) (pre : Pre Fj.length rj d2) (hr : rj ≤ r) (hd : d2 ≤ deep) : Ask K cl H' p g wd el fr a w Fj rj ls d2 := by
  obtain ⟨t, e, _⟩ := tk
  refine ⟨b, wo, la, A.cw, A.nm, fun x hx => A.fm x (by rw [e]; exact List.mem_append_left _ hx), A.nd.sublist ?_, A.sw, pre, Int.le_trans hr A.rm, ?_, A.ap⟩
  · rw [e]
    exact List.Sublist.append (List.sublist_append_left _ _) (List.Sublist.refl _)
  · have := A.ll
    omega
theorem DpAll.put {K : PySem.W.Frag} {H : Hp} : ∀ {vs : List V} {es : List PyData} (j : Nat) {v : V} {d : PyData}, DpAll K H vs es → Dp K H v d → DpAll K H (vs.set j v) (es.set j d)
  | _, _, _, _, _, .nil, _ => .nil
  | _, _, 0, _, _, .cons a t, h => .cons h t
  | _, _, j + 1, _, _, .cons a t, h => .cons a (DpAll.put j t h)
theorem ixN_nat {j n : Nat} (h : j < n) : ixN n (j : Int) = some j := by
  unfold ixN
  rw [if_pos (by omega), if_pos (by omega)]
  simp
/-- a piece in memory -/
def PcV (K : PySem.W.Frag) (cl : Cl) (ls : List (Str × Str)) (H : Hp) (x : V) : Prop := ∃ d, Dp K H x d ∧ PcN cl ls 3 9 "piece" d
theorem PcV.off {K : PySem.W.Frag} {cl : Cl} {ls : List (Str × Str)} {H H' : Hp} {x : V} {l : List Addr} (h : PcV K cl ls H x) (nt : NT l H) (o : Off l H H') : PcV K cl ls H' x := by
  obtain ⟨d, h1, h2⟩ := h
  exact ⟨d, Dp.off h1 nt h2.nl o, h2⟩
theorem PcN.mono {cl : Cl} {ls : List (Str × Str)} {f m g k : Nat} {s : Str} {d : PyData} (h : PcN cl ls f m s d) (hf : f ≤ g) (hm : m ≤ k) : PcN cl ls g k s d := by
  obtain ⟨z, w⟩ := h.wt
  exact ⟨⟨z, w.mono hf⟩, h.st, Nat.le_trans h.nd hm, Nat.le_trans h.dp hf, h.gd, h.nl⟩
def spLCall (K : PySem.W.Frag) (cl : Cl) (n : Nat) : Sp := fun vs H Q _ => ∃ (p g wd el fr a : Addr) (w : Wor) (F : List Str) (r : Int) (ls : List (Str × Str)) (deep : Nat), vs = [.ref p, .ref wd, .ref a, .int deep] ∧ 2 ≤ deep ∧ deep ≤ n ∧ deep ≤ 7 ∧ 4 ≤ F.length ∧ 1 ≤ r ∧
  Ask K cl H p g wd el fr a w F r ls deep ∧ Pre F.length (r + 1) deep ∧ ∀ v d bs z F1 r1 H', Box H' p g → Off [p, g, wd, fr] H H' → WdA K H' wd el fr w F1 r1 → Dp K H' v d → Told cl F F1 (r + 1) r1 ls deep (deep + 4) 101 d bs z → Q v H'
theorem paired_len {α β : Type} {G : α → β → Prop} {xs : List α} {ys : List β} (h : Paired G xs ys) : xs.length = ys.length := by
  induction h with
  | nil => rfl
  | cons _ _ ih => rw [List.length_cons, List.length_cons, ih]
/-- behind what a call may name -/
def LcW (K : PySem.W.Frag) (cl : Cl) (H : Hp) (p g wd a E4 b6 : Addr) (deep : Nat) (w0 : Wor) (ls : List (Str × Str)) (pcs : List V) : L2.St → Hp → Prop := fun σ H7 => ∃ pe7 el7, σ = [some (.ref p), some (.ref wd), some (.ref a), some (.int deep), some (.ref E4), some (.ref b6), none, none, none, none, none, none, none] ∧
  H7 E4 = some (.lst (pe7.map V.ref)) ∧ Paired (fun p (kv : Str × Nat) => SqT K H7 p [.str kv.1, .int kv.2]) pe7 el7 ∧ el7.length ≤ 11 ∧
  (el7 = w0.elder ∨ ((∃ j, w0.fl = some j) ∧ pcs ≠ [] ∧ el7 = w0.elder ++ [(w0.nm, w0.many)])) ∧ Box H7 p g ∧ Off [p, g] H H7 ∧ H7 b6 = some (.lst pcs) ∧ ∀ x ∈ pcs, PcV K cl ls H7 x
section
variable {P : Program} {w : World} {K : PySem.W.Frag} {mg : Str → Option Value} {base : Heap} {f fG fT fP fL : Addr} {fd dG dT dP dL : FuncData}
theorem ok_lcall {k n : Nat} {cl : Cl} (F : Fun K "_law_call" "_law_call" sLCall f fd) (ml : mg "list" = none) (mt : mg "tuple" = none) (mn : mg "len" = none) (mr : mg "range" = none) (T : Tk P w K mg base fT dT) (GP : Dn P w K mg base 2 "_law_pick" ["_law_box_here", "_law_items"] spPick fP dP)
    (GL : Dn P w K mg base 3 "_law_leaf" ["_law_box_here", "_law_world", "_law_scope"] (spLeaf K) fL dL)
    (GG : Dn P w K mg base (k + 3) "_law_grown" ["_law_box_here", "_law_world", "_law_sort", "_law_scope", "_law_deep"] (spGrown K cl n) fG dG) : FnOk P w K mg base CX0 (k + 4) f fd ["_law_box_here", "_law_world", "_law_scope", "_law_deep"] (spLCall K cl n) := by
  refine F.ok scLCall (fun vs H Q E h => ?_) (fun cdv A outer s H vs Q E hr h => ?_)
  · obtain ⟨p, g, wd, el, fr, a, w0, F0, r, ls, deep, rfl, _⟩ := h
    rfl
  obtain ⟨p, g, wd, el, fr, a, w0, F0, r, ls, deep, rfl, hd2, hdn, hd7, hF, hrm, ask, hpre, q⟩ := h
  have hu := hu_of hr
  have hr1 : Room 1 _ := hr.mono (by omega)
  have hr2 : Room 2 _ := hr.mono (by omega)
  have hr3 : Room 3 _ := hr.mono (by omega)
  have hrg : Room (k + 3) _ := hr.mono (by omega)
  refine ⟨_, pss_cons (ps_set (i := 4) scLCall.nd rfl (.inl rfl) (pe_callTy call_list_of (by rfl) ml PyProof.Rows.boot_list (pa_cons (pe_dget hu (pv 1) pe_str (fun _ _ => rfl)) pa_nil)))
    (pss_cons (ps_setLc (i := 5) (own := [("_law_one", 11)]) (g := gName 11) (by rfl) scLCall.nd rfl rfl (sw_true rfl rfl rfl (by decide +kernel)) (pi_list (pv 2))
        (blkOk_by (own := [("_law_one", 11)]) (N := ["_law_box_here", "_law_world", "_law_scope", "_law_deep", "_law_some", "_law_pieces", "_law_said", "_law_many", "_law_given", "_law_piece", "_law_x", "_law_one", "_law_k"]) (sc := defScope sLCall) (by decide +kernel))
        (fun _ _ _ _ _ => pg_name (i := 11) scLCall.nd rfl (Or.inl rfl)) (fun _ _ _ _ _ => pts_one (pt_cmpR op_eq (pe_ix (ix_tupK (K := K) rfl) (pv 11) pe_int (fun _ _ => rfl)) pe_str (nomark _)))
        (fun _ _ _ _ _ => pe_tup (pa_cons pe_str (pa_cons (pe_ix (ix_tupK (K := K) rfl) (pv 11) pe_int (fun _ _ => rfl)) pa_nil))))
    (pss_cons (ps_set (i := 5) scLCall.nd rfl (.inl rfl) (pe_op op_cat (pv 5) (pe_lc (own := [("_law_one", 11)]) (g := gName 11) (by rfl) scLCall.nd (pi_list (pv 2))
        (blkOk_by (own := [("_law_one", 11)]) (N := ["_law_box_here", "_law_world", "_law_scope", "_law_deep", "_law_some", "_law_pieces", "_law_said", "_law_many", "_law_given", "_law_piece", "_law_x", "_law_one", "_law_k"]) (sc := defScope sLCall) (by decide +kernel))
        (fun _ _ _ _ _ => pg_name (i := 11) scLCall.nd rfl (Or.inl rfl)) (fun _ _ _ _ _ => pts_one (pt_cmpR op_ne (pe_ix (ix_tupK (K := K) rfl) (pv 11) pe_int (fun _ _ => rfl)) pe_str (nomark _)))
        (fun _ _ _ _ _ => pe_tup (pa_cons pe_str (pa_cons (pe_tup (pa_cons pe_str (pa_cons (pe_ix (ix_tupK (K := K) rfl) (pv 11) pe_int (fun _ _ => rfl)) pa_nil))) (pa_cons (pe_call T.ok hr1 (by rfl) T.mg T.kp T.bd .nil pass0 (pa_cons (pv 0) (pa_cons pe_int pa_nil))) pa_nil)))))))
    (pss_cons (ps_set (i := 5) scLCall.nd rfl (.inl rfl) (pe_op op_cat (pv 5) (pe_lc (own := [("_law_one", 11)]) (g := gName 11) (by rfl) scLCall.nd (pi_list (pv 2))
        (blkOk_by (own := [("_law_one", 11)]) (N := ["_law_box_here", "_law_world", "_law_scope", "_law_deep", "_law_some", "_law_pieces", "_law_said", "_law_many", "_law_given", "_law_piece", "_law_x", "_law_one", "_law_k"]) (sc := defScope sLCall) (by decide +kernel))
        (fun _ _ _ _ _ => pg_name (i := 11) scLCall.nd rfl (Or.inl rfl)) (fun _ _ _ _ _ => pts_one (pt_cmpR op_ne (pe_ix (ix_tupK (K := K) rfl) (pv 11) pe_int (fun _ _ => rfl)) pe_str (nomark _)))
        (fun _ _ _ _ _ => pe_tup (pa_cons pe_str (pa_cons (pe_tup (pa_cons pe_str (pa_cons (pe_tup (pa_cons pe_str (pa_cons (pe_ix (ix_tupK (K := K) rfl) (pv 11) pe_int (fun _ _ => rfl)) pa_nil))) (pa_cons pe_int pa_nil)))) (pa_cons pe_int pa_nil)))))))
    (C8.pss_cut (ps_if (PW.pt (pw_and (pt_cmpR op_notN (pe_dget hu (pv 1) pe_str (fun _ _ => rfl)) pe_non rfl) (pw_and1 (pt_cmpR (op_neNil hr.units) (pv 5) (pe_lst pa_nil) (nomark _)))))
      (pss_one (ps_expr (pe_bm PySem.F.plainAttrs_list PySem.F.slot_list_append PySem.F.type_list_append mt_append (pv 4) (pa_cons (pe_tup (pa_cons (pe_dget hu (pv 1) pe_str (fun _ _ => rfl)) (pa_cons (pe_dget hu (pv 1) pe_str (fun _ _ => rfl)) pa_nil))) pa_nil)))) pss_nil)
    (pss_cons (ps_if (pt_cmpR (op_eqNil hr.units) (pv 4) (pe_lst pa_nil) (nomark _)) (pss_one (ps_ret (pe_call GL.ok hr3 (by rfl) GL.mg GL.kp GL.bd .nil pass0 (pa_cons (pv 0) (pa_cons (pv 1) (pa_cons (pv 2) pa_nil)))))) pss_nil)
    (pss_cons (ps_asg (pe_ix ix_list (pv 4) (pe_op op_sub (pe_op op_sub (pe_callB call_len_seq (by rfl) mn PySem.boot_len (pa_cons (pv 4) pa_nil)) pe_int) (pe_op op_fdiv (pe_call T.ok hr1 (by rfl) T.mg T.kp T.bd .nil pass0 (pa_cons (pv 0) (pa_cons (pe_callB call_len_seq (by rfl) mn PySem.boot_len (pa_cons (pv 4) pa_nil)) pa_nil))) pe_int)) (fun _ _ => rfl))
        (pg_tup rfl (pgs_cons (pg_name (i := 6) scLCall.nd rfl (.inl rfl)) (pgs_cons (pg_name (i := 7) scLCall.nd rfl (.inl rfl)) pgs_nil))))
    (pss_cons (ps_setLc (i := 8) (own := [("_law_k", 12)]) (g := gName 12) (by rfl) scLCall.nd rfl rfl (sw_true rfl rfl rfl (by decide +kernel)) (pi_range1 (by rfl) mr (pa_cons (pv 7) pa_nil))
        (blkOk_by (own := [("_law_k", 12)]) (N := ["_law_box_here", "_law_world", "_law_scope", "_law_deep", "_law_some", "_law_pieces", "_law_said", "_law_many", "_law_given", "_law_piece", "_law_x", "_law_one", "_law_k"]) (sc := defScope sLCall) (by decide +kernel))
        (fun _ _ _ _ _ => pg_name (i := 12) scLCall.nd rfl (Or.inl rfl)) (fun _ _ _ _ _ => pts_nil)
        (fun _ _ _ _ _ => pe_call GG.ok hrg (by rfl) GG.mg GG.kp GG.bd .nil pass0 (pa_cons (pv 0) (pa_cons (pv 1) (pa_cons pe_str (pa_cons (pv 2) (pa_cons (pe_op op_sub (pv 3) pe_int) pa_nil)))))))
    (pss_cons (ps_if (pt_cmpR op_eq (pv 6) (pe_dget hu (pv 1) pe_str (fun _ _ => rfl)) (nomark _))
      (pss_cons (ps_set (i := 9) scLCall.nd rfl (.inl rfl) (pe_call GP.ok hr2 (by rfl) GP.mg GP.kp GP.bd .nil pass0 (pa_cons (pv 0) (pa_cons (pv 5) pa_nil))))
      (C8.pss_cut (ps_if (PW.pt (pw_and (pt_cmpR op_eq (pe_call T.ok hr1 (by rfl) T.mg T.kp T.bd .nil pass0 (pa_cons (pv 0) (pa_cons pe_int pa_nil))) pe_int (nomark _)) (pw_and1 (pt_cmpR op_gt (pe_callB call_len_seq (by rfl) mn PySem.boot_len (pa_cons (pe_dget hu (pv 1) pe_str (fun _ _ => rfl)) pa_nil)) pe_int (nomark _)))))
        (pss_cons (ps_set (i := 10) scLCall.nd rfl (.inl rfl) (pe_bm0 PySem.F.plainAttrs_list PySem.F.slot_list_pop PySem.F.type_list_pop mt_pop (pe_dget hu (pv 1) pe_str (fun _ _ => rfl))))
        (pss_one (ps_set (i := 9) scLCall.nd rfl (.inl rfl) (pe_tup (pa_cons pe_str (pa_cons (pv 10) (pa_cons (pv 9) (pa_cons (pe_call GP.ok hr2 (by rfl) GP.mg GP.kp GP.bd .nil pass0 (pa_cons (pv 0) (pa_cons (pe_lst (pa_cons (pe_tup (pa_cons pe_str (pa_cons (pv 10) pa_nil))) (pa_cons (pe_tup (pa_cons pe_str (pa_cons (pe_tup (pa_cons pe_str (pa_cons (pv 10) pa_nil))) (pa_cons pe_int pa_nil)))) pa_nil))) pa_nil))) pa_nil)))))))) pss_nil)
      (pss_one (ps_asg (pv 9) (pg_sub (pv 8) (pe_dget hu (pv 1) pe_str (fun _ _ => rfl)) set_list))))) pss_nil)
    (pss_one (ps_ret (pe_tup (pa_cons pe_str (pa_cons (pv 6) (pa_cons (pe_callTy call_tuple_of (by rfl) mt b_tup (pa_cons (pv 8) pa_nil)) pa_nil)))))))))))))), ?_⟩
  have ask0 := ask
  obtain ⟨hbox, hwo, hla, hcw, hnm, hfm, hnd, hsw, _, hrm40, hll, hap1, hap2, hap3, hap4⟩ := ask
  obtain ⟨pe, hel, hpe⟩ := hwo.el
  obtain ⟨ps, hla1, hla2⟩ := hla
  have ll := LsA.len hla2
  have lsnd : (ls.map (·.1)).Nodup := (List.nodup_append.mp hnd).2.1
  refine ⟨_, rfl, wd, .ref el, rfl, hwo.at.2.2.1, el, pe.map V.ref, rfl, .inl (SqL.of hel), fun E4 hE4 => ?_⟩
  have s1 : Same H (upd H E4 (.lst (pe.map V.ref))) := same_new hE4 _
  have hE41 : (upd H E4 (.lst (pe.map V.ref))) E4 = some (.lst (pe.map V.ref)) := upd_same
  generalize upd H E4 (.lst (pe.map V.ref)) = H1 at s1 hE41
  refine ⟨_, rfl, a, rfl, ⟨_, SqL.of (s1 _ _ hla1)⟩, fun D hD => ?_⟩
  have fo_pcs : ∀ {kv : Str × Str}, kv ∈ ls → PcN cl ls 1 3 kv.2 (.tuple [.str "name", .str kv.1]) := fun {kv} hkv => pcn_name (hnm kv hkv).1 (hnm kv hkv).2 (scL_mem lsnd hkv)
  refine lc_list (K := K) (a := a) (xs := ps.map V.ref) (fun i H2 => ∃ xs, H2 D = some (.lst xs) ∧ xs.length ≤ i ∧ (∀ x ∈ xs, PcV K cl ls H2 x) ∧ Same H1 H2) ⟨[], upd_same, Nat.le_refl _, (fun _ z => nomatch z), same_new hD _⟩ ?_ ?_ ?_
  · rintro i H2 hi ⟨xs, g1, g2, g3, g4⟩
    exact SqL.of (g4 _ _ (s1 _ _ hla1))
  · rintro i y H2 hy ⟨xs, g1, g2, g3, g4⟩
    rw [List.getElem?_map] at hy
    obtain ⟨t, et, rfl⟩ := Option.map_eq_some_iff.mp hy
    obtain ⟨kv, ek, hkv⟩ := paired_get hla2 et
    have li := (List.getElem?_eq_some_iff.mp ek).1
    have hkv2 := seqT_up (s1.trans g4) hkv
    refine ⟨rfl, _, rfl, t, _, 1, _, rfl, rfl, hkv2, atI_nat (j := 1) rfl, rfl, _, rfl, ?_⟩
    by_cases e : kv.2 = "piece"
    · refine ieT e ⟨_, rfl, t, _, 0, _, rfl, rfl, hkv2, atI_nat (j := 0) rfl, few (by simp), fun T1 hT1 => ?_⟩
      have s5 := same_new (o := .tup [.str "name", .str kv.1]) hT1
      refine ⟨xs, s5 _ _ g1, few (by omega), xs ++ [.ref T1], upd_same, by rw [List.length_append, List.length_singleton]; omega, fun x hx => ?_, ?_⟩
      · have ntD : NT [D] (upd H2 T1 (.tup [.str "name", .str kv.1])) := .cons (nt_lst (s5 _ _ g1)) .nil
        have oD : Off [D] (upd H2 T1 (.tup [.str "name", .str kv.1])) (upd (upd H2 T1 (.tup [.str "name", .str kv.1])) D (.lst (xs ++ [.ref T1]))) := Off.put (by simp)
        rcases List.mem_append.mp hx with hx | hx
        · exact ((g3 x hx).off (l := []) (fun _ z => nomatch z) (Off.of s5)).off ntD oD
        · rw [List.mem_singleton.mp hx]
          have pc := fo_pcs (List.mem_of_getElem? ek)
          rw [e] at pc
          refine PcV.off ⟨_, .tup (.inl (.inl upd_same)) (.cons (.str _) (.cons (.str _) .nil)), pc.mono (by omega) (by omega)⟩ ntD oD
      · exact same_off (g4.trans s5) (l := [D]) (fun b hb => by rw [List.mem_singleton.mp hb]; exact hD) (Off.put (by simp))
    · exact ieF e ⟨xs, g1, by omega, g3, g4⟩
  rintro H2 ⟨xs1, g1, g2, g3, g4⟩
  rw [List.length_map] at g2
  have s12 : Same H H2 := s1.trans g4
  have b2 := hbox.same s12
  have tr2 : ∀ {HX : Hp} {D : Addr}, Box HX p g → HX D = none → D ∉ [p, g] := fun bx hx z => by
    obtain ⟨_, _, _, _, y1, y2, _⟩ := bx.ex
    simp only [List.mem_cons, List.not_mem_nil, or_false] at z
    rcases z with z | z
    · rw [z, y1] at hx; cases hx
    · rw [z, y2] at hx; cases hx
  have napg : a ∉ [p, g] := fun z => hap1 (by simp only [List.mem_cons, List.not_mem_nil, or_false] at z ⊢; rcases z with z | z; exact .inl z; exact .inr (.inl z))
  have nDpg : D ∉ [p, g] := tr2 (hbox.same s1) hD
  refine ⟨_, rfl, _, rfl, a, rfl, ⟨_, SqL.of (s12 _ _ hla1)⟩, fun D2 hD2 => ?_⟩
  have nD2 : D2 ∉ [p, g] := tr2 b2 hD2
  refine lc_list (K := K) (a := a) (xs := ps.map V.ref) (fun i H3 => ∃ xs, H3 D2 = some (.lst xs) ∧ xs.length ≤ i ∧ (∀ x ∈ xs, PcV K cl ls H3 x) ∧ Box H3 p g ∧ Off [p, g] H2 H3) ⟨[], upd_same, Nat.le_refl _, (fun _ z => nomatch z), b2.same (same_new hD2 _), Off.of (same_new hD2 _)⟩ ?_ ?_ ?_
  · rintro i H3 hi ⟨xs, k1, k2, k3, k4, k5⟩
    exact SqL.of (k5.get (s12 _ _ hla1) napg)
  · rintro i y H3 hy ⟨xs, k1, k2, k3, k4, k5⟩
    rw [List.getElem?_map] at hy
    obtain ⟨t, et, rfl⟩ := Option.map_eq_some_iff.mp hy
    obtain ⟨kv, ek, hkv⟩ := paired_get hla2 et
    have li := (List.getElem?_eq_some_iff.mp ek).1
    have hkv2 := seqT_off b2.nt k5 (seqT_up s12 hkv)
    refine ⟨rfl, _, rfl, t, _, 1, _, rfl, rfl, hkv2, atI_nat (j := 1) rfl, rfl, _, rfl, ?_⟩
    by_cases e : kv.2 = ""
    · exact ieM e ⟨xs, k1, by omega, k3, k4, k5⟩
    · refine ieN e ⟨_, rfl, t, _, 0, _, rfl, rfl, hkv2, atI_nat (j := 0) rfl, few (by simp), fun T1 hT1 => ?_⟩
      have s5 := same_new (o := .tup [.str "name", .str kv.1]) hT1
      have hT1p : T1 ∉ [p, g] := tr2 k4 hT1
      refine ⟨_, rfl, p, g, 3, rfl, k4.same s5, by decide, by decide, fun r5 H5 r50 r53 b5 o5 => ⟨few (by simp), fun T2 hT2 => ?_⟩⟩
      have h51 : H5 T1 = some (.tup [.str "name", .str kv.1]) := o5.get upd_same hT1p
      have o35 : Off [p, g] H3 H5 := (Off.of s5).trans o5
      have s6 := same_new (o := .tup [.str "part", .ref T1, .int r5]) hT2
      have hDx := s6 _ _ (o35.get k1 nD2)
      have ntD : NT [D2] (upd H5 T2 (.tup [.str "part", .ref T1, .int r5])) := .cons (nt_lst hDx) .nil
      have oD : Off [D2] (upd H5 T2 (.tup [.str "part", .ref T1, .int r5])) (upd (upd H5 T2 (.tup [.str "part", .ref T1, .int r5])) D2 (.lst (xs ++ [.ref T2]))) := Off.put (by simp)
      refine ⟨xs, hDx, few (by omega), xs ++ [.ref T2], upd_same, by rw [List.length_append, List.length_singleton]; omega, fun x hx => ?_, (b5.same s6).put nD2, ?_⟩
      · rcases List.mem_append.mp hx with hx | hx
        · exact (((k3 x hx).off k4.nt o35).off (l := []) (fun _ z => nomatch z) (Off.of s6)).off ntD oD
        · rw [List.mem_singleton.mp hx]
          have pc := fo_pcs (List.mem_of_getElem? ek)
          refine PcV.off ⟨_, .tup (.inl (.inl upd_same)) (.cons (.str _) (.cons (.tup (.inl (.inl (s6 _ _ h51))) (.cons (.str _) (.cons (.str _) .nil))) (.cons (.int _) .nil))), (pcn_part pc e ⟨r50, by omega⟩ (by omega)).mono (by omega) (by omega)⟩ ntD oD
      · exact off_new ((k5.trans o35).trans (Off.of s6)) nD2 hD2
  rintro H3 ⟨xs2, k1, k2, k3, k4, k5⟩
  rw [List.length_map] at k2
  have nDD2 : D ≠ D2 := fun e => by
    rw [← e, g1] at hD2
    cases hD2
  refine ⟨D, D2, xs1, xs2, rfl, rfl, k5.get g1 nDpg, k1, few (by omega), fun b3 hb3 => ?_⟩
  have s34 := same_new (o := .lst (xs1 ++ xs2)) hb3
  have nb3 : b3 ∉ [p, g] := tr2 k4 hb3
  have k4' := k4.same s34
  have o24 : Off [p, g] H2 (upd H3 b3 (.lst (xs1 ++ xs2))) := k5.trans (Off.of s34)
  have hb34 : (upd H3 b3 (.lst (xs1 ++ xs2))) b3 = some (.lst (xs1 ++ xs2)) := upd_same
  have pcs4 : ∀ x ∈ xs1 ++ xs2, PcV K cl ls (upd H3 b3 (.lst (xs1 ++ xs2))) x := fun x hx => by
    rcases List.mem_append.mp hx with hx | hx
    · exact (g3 x hx).off b2.nt o24
    · exact (k3 x hx).off (l := []) (fun _ z => nomatch z) (Off.of s34)
  generalize upd H3 b3 (.lst (xs1 ++ xs2)) = H4 at s34 k4' o24 hb34 pcs4
  have o04 : Off [p, g] H H4 := (Off.of s12).trans o24
  have hla4 := o04.get hla1 napg
  refine ⟨_, rfl, _, rfl, a, rfl, ⟨_, SqL.of hla4⟩, fun D3 hD3 => ?_⟩
  refine lc_list (K := K) (a := a) (xs := ps.map V.ref) (fun i H5 => ∃ xs, H5 D3 = some (.lst xs) ∧ xs.length ≤ i ∧ (∀ x ∈ xs, PcV K cl ls H5 x) ∧ Same H4 H5) ⟨[], upd_same, Nat.le_refl _, (fun _ z => nomatch z), same_new hD3 _⟩ ?_ ?_ ?_
  · rintro i H5 hi ⟨xs, m1, m2, m3, m4⟩
    exact SqL.of (m4 _ _ hla4)
  · rintro i y H5 hy ⟨xs, m1, m2, m3, m4⟩
    rw [List.getElem?_map] at hy
    obtain ⟨t, et, rfl⟩ := Option.map_eq_some_iff.mp hy
    obtain ⟨kv, ek, hkv⟩ := paired_get hla2 et
    have li := (List.getElem?_eq_some_iff.mp ek).1
    have hkv2 := seqT_up m4 (seqT_off hbox.nt o04 hkv)
    refine ⟨rfl, _, rfl, t, _, 1, _, rfl, rfl, hkv2, atI_nat (j := 1) rfl, rfl, _, rfl, ?_⟩
    by_cases e : kv.2 = ""
    · exact ieM e ⟨xs, m1, by omega, m3, m4⟩
    · refine ieN e ⟨_, rfl, t, _, 0, _, rfl, rfl, hkv2, atI_nat (j := 0) rfl, few (by simp), fun T1 hT1 => ⟨few (by simp), fun T2 hT2 => ⟨few (by simp), fun T3 hT3 => ?_⟩⟩⟩
      have s5 := same_new (o := .tup [.str "name", .str kv.1]) hT1
      have s6 := same_new (o := .tup [.str "part", .ref T1, .int 1]) hT2
      have s7 := same_new (o := .tup [.str "part", .ref T2, .int 0]) hT3
      have x1 := s7 _ _ (s6 _ _ (show (upd H5 T1 (.tup [.str "name", .str kv.1])) T1 = some (.tup [.str "name", .str kv.1]) from upd_same))
      have x2 := s7 _ _ (show (upd (upd H5 T1 (.tup [.str "name", .str kv.1])) T2 (.tup [.str "part", .ref T1, .int 1])) T2 = some (.tup [.str "part", .ref T1, .int 1]) from upd_same)
      have x3 : (upd (upd (upd H5 T1 (.tup [.str "name", .str kv.1])) T2 (.tup [.str "part", .ref T1, .int 1])) T3 (.tup [.str "part", .ref T2, .int 0])) T3 = some (.tup [.str "part", .ref T2, .int 0]) := upd_same
      have s57 := s5.trans (s6.trans s7)
      generalize upd (upd (upd H5 T1 (.tup [.str "name", .str kv.1])) T2 (.tup [.str "part", .ref T1, .int 1])) T3 (.tup [.str "part", .ref T2, .int 0]) = H8 at s57 x1 x2 x3
      have hDx := s57 _ _ m1
      have ntD : NT [D3] H8 := .cons (nt_lst hDx) .nil
      have oD : Off [D3] H8 (upd H8 D3 (.lst (xs ++ [.ref T3]))) := Off.put (by simp)
      refine ⟨xs, hDx, few (by omega), xs ++ [.ref T3], upd_same, by rw [List.length_append, List.length_singleton]; omega, fun x hx => ?_, ?_⟩
      · rcases List.mem_append.mp hx with hx | hx
        · exact ((m3 x hx).off (l := []) (fun _ z => nomatch z) (Off.of s57)).off ntD oD
        · rw [List.mem_singleton.mp hx]
          have pc := fo_pcs (List.mem_of_getElem? ek)
          have pc2 := pcn_part (i := 0) (pcn_part (i := 1) pc e (by decide) (by omega)) (by decide +kernel) (by decide) (by omega)
          exact PcV.off ⟨_, .tup (.inl (.inl x3)) (.cons (.str _) (.cons (.tup (.inl (.inl x2)) (.cons (.str _) (.cons (.tup (.inl (.inl x1)) (.cons (.str _) (.cons (.str _) .nil))) (.cons (.int _) .nil)))) (.cons (.int _) .nil))), pc2.mono (by omega) (by omega)⟩ ntD oD
      · exact same_off (m4.trans s57) (l := [D3]) (fun b hb => by rw [List.mem_singleton.mp hb]; exact hD3) (Off.put (by simp))
  rintro H5 ⟨xs3, m1, m2, m3, m4⟩
  rw [List.length_map] at m2
  refine ⟨b3, D3, xs1 ++ xs2, xs3, rfl, rfl, m4 _ _ hb34, m1, few (by rw [List.length_append]; omega), fun b6 hb6 => ?_⟩
  have s56 := same_new (o := .lst (xs1 ++ xs2 ++ xs3)) hb6
  have hb66 : (upd H5 b6 (.lst (xs1 ++ xs2 ++ xs3))) b6 = some (.lst (xs1 ++ xs2 ++ xs3)) := upd_same
  have s46 := m4.trans s56
  have o06 : Off [p, g] H (upd H5 b6 (.lst (xs1 ++ xs2 ++ xs3))) := o04.trans (Off.of s46)
  have pcs6 : ∀ x ∈ xs1 ++ xs2 ++ xs3, PcV K cl ls (upd H5 b6 (.lst (xs1 ++ xs2 ++ xs3))) x := fun x hx => by
    rcases List.mem_append.mp hx with hx | hx
    · exact (pcs4 x hx).off (l := []) (fun _ z => nomatch z) (Off.of s46)
    · exact (m3 x hx).off (l := []) (fun _ z => nomatch z) (Off.of s56)
  have lp : (xs1 ++ xs2 ++ xs3).length ≤ 3 * ls.length := by
    rw [List.length_append, List.length_append]
    omega
  have b06 := (k4'.same m4).same s56
  have nE4 : E4 ∉ [p, g] := tr2 hbox hE4
  have hE46 : (upd H5 b6 (.lst (xs1 ++ xs2 ++ xs3))) E4 = some (.lst (pe.map V.ref)) := s46 _ _ (o24.get (g4 _ _ hE41) nE4)
  have hbn : H b6 = none := o04.free (m4.free hb6) (tr2 (k4'.same m4) hb6)
  have nE4b : E4 ≠ b6 := fun e => by
    rw [← e, m4 _ _ (o24.get (g4 _ _ hE41) nE4)] at hb6
    cases hb6
  generalize upd H5 b6 (.lst (xs1 ++ xs2 ++ xs3)) = H6 at hb66 o06 pcs6 b06 hE46
  generalize xs1 ++ xs2 ++ xs3 = pcs at hb66 pcs6 lp
  have hpe6 : Paired (fun p (kv : Str × Nat) => SqT K H6 p [.str kv.1, .int kv.2]) pe w0.elder := paired_mono (fun _ _ z => seqT_off hbox.nt o06 z) hpe
  have nel : el ∉ [p, g] := fun z => hap4 (by simp only [List.mem_cons, List.not_mem_nil, or_false] at z ⊢; rcases z with z | z; exact .inl z; exact .inr (.inl z))
  have hwo6 : WdA K H6 wd el fr w0 F0 r := hwo.off hbox.nt hap2 hap3 nel o06
  have lpe : pe.length = w0.elder.length := paired_len hpe
  have lel := hcw.len
  refine ⟨LcW K cl H p g wd a E4 b6 deep w0 ls pcs, ?_, ?_⟩
  · have base0 : ∀ H7, Same H6 H7 → LcW K cl H p g wd a E4 b6 deep w0 ls pcs [some (.ref p), some (.ref wd), some (.ref a), some (.int deep), some (.ref E4), some (.ref b6), none, none, none, none, none, none, none] H7 := fun H7 s7 =>
        ⟨pe, w0.elder, rfl, s7 _ _ hE46, paired_mono (fun _ _ z => seqT_up s7 z) hpe6, by omega, .inl rfl, b06.same s7, o06.trans (Off.of s7), s7 _ _ hb66, fun x hx => (pcs6 x hx).off (l := []) (fun _ z => nomatch z) (Off.of s7)⟩
    refine ⟨_, rfl, wd, _, rfl, hwo6.at.2.1, rfl, _, rfl, ?_⟩
    refine and_same (fun e1 G => ?_) ?_
    · refine ⟨_, rfl, by decide, fun E0 hE0 => ⟨b6, E0, _, rfl, rfl, SqL.of (same_new hE0 _ _ _ hb66), SqL.of upd_same, _, rfl, ?_⟩⟩
      have s7 := same_new (o := .lst []) hE0
      by_cases ep : pcs = []
      · rw [ep]
        rw [ep] at base0
        exact base0 _ s7
      · have e2 : (!pcs.isEmpty) = true := by
          cases pcs with
          | nil => exact absurd rfl ep
          | cons _ _ => rfl
        rw [e2]
        have hwo7 := hwo6.up s7
        have hE47 := s7 _ _ hE46
        refine iteT ⟨_, rfl, .inl ⟨rfl, _, SqL.of hE47⟩, _, rfl, wd, _, rfl, hwo7.at.2.2.2.1, _, rfl, wd, _, rfl, hwo7.at.2.2.2.2.1, few (by simp), fun T1 hT1 => ?_⟩
        have s8 := same_new (o := .tup [.str w0.nm, .int w0.many]) hT1
        have hE48 := s8 _ _ hE47
        refine ⟨E4, _, _, rfl, rfl, hE48, few (by rw [List.length_map]; omega), ?_⟩
        have s78 := s7.trans s8
        have hT18 : (upd (upd H6 E0 (.lst [])) T1 (.tup [.str w0.nm, .int w0.many])) T1 = some (.tup [.str w0.nm, .int w0.many]) := upd_same
        generalize upd (upd H6 E0 (.lst [])) T1 (.tup [.str w0.nm, .int w0.many]) = H8 at s78 hE48 hT18
        have ntE : NT [E4] H8 := .cons (nt_lst hE48) .nil
        have oE : Off [E4] H8 (upd H8 E4 (.lst (pe.map V.ref ++ [.ref T1]))) := Off.put (by simp)
        have fl : ∃ j, w0.fl = some j := by
          cases h : w0.fl with
          | none =>
            rw [h] at e1
            cases e1
          | some j => exact ⟨j, rfl⟩
        refine ⟨pe ++ [T1], w0.elder ++ [(w0.nm, w0.many)], rfl, by rw [upd_same, List.map_append]; rfl, paired_app (paired_mono (fun _ _ z => seqT_off ntE oE (seqT_up s78 z)) hpe6) (.cons (seqT_off ntE oE (.inl (.inl hT18))) .nil), by rw [List.length_append, List.length_singleton]; omega, .inr ⟨fl, ep, rfl⟩, (b06.same s78).put nE4, ?_, ?_, fun x hx => ((pcs6 x hx).off (l := []) (fun _ z => nomatch z) (Off.of s78)).off ntE oE⟩
        · exact off_new (o06.trans (Off.of s78)) nE4 hE4
        · rw [upd_ne nE4b.symm]
          exact s78 _ _ hb66
    · exact base0 _ (Same.refl H6)
  rintro σ H7 ⟨pe7, el7, rfl, c1, c2, c3, c4, c5, c6, c7, c8⟩
  have lc2 := paired_len c2
  have hwo7 : WdA K H7 wd el fr w0 F0 r := hwo.off hbox.nt hap2 hap3 nel c6
  have hla7 : LsA K H7 a ls := LsA.off ⟨ps, hla1, hla2⟩ hbox.nt napg c6
  refine ⟨_, rfl, by decide, fun E0 hE0 => ⟨E4, E0, _, rfl, rfl, SqL.of (same_new hE0 _ _ _ c1), SqL.of upd_same, _, rfl, ?_⟩⟩
  have s8 := same_new (o := .lst []) hE0
  have c1' := s8 _ _ c1
  have c2' := paired_mono (fun _ _ z => seqT_up s8 z) c2
  have c5' := c5.same s8
  have c6' := c6.trans (Off.of s8)
  have c7' := s8 _ _ c7
  have c8' : ∀ x ∈ pcs, PcV K cl ls (upd H7 E0 (.lst [])) x := fun x hx => (c8 x hx).off (l := []) (fun _ z => nomatch z) (Off.of s8)
  have hwo8 := hwo7.up s8
  have hla8 := hla7.up s8
  generalize upd H7 E0 (.lst []) = H8 at c1' c2' c5' c6' c7' c8' hwo8 hla8
  have sub4 : ∀ b ∈ [p, g], b ∈ [p, g, wd, fr] := fun b hb => by
    simp only [List.mem_cons, List.not_mem_nil, or_false] at hb ⊢
    rcases hb with h | h
    · exact .inl h
    · exact .inr (.inl h)
  by_cases e0 : el7 = []
  · have e1 : (pe7.map V.ref).isEmpty = true := by
      rw [e0] at lc2
      cases pe7 with
      | nil => rfl
      | cons _ _ => cases lc2
    rw [e1]
    refine iteT ⟨_, rfl, _, rfl, _, rfl, p, g, .ref wd, a, ls, rfl, c5', hla8, napg, hnm, by omega, fun v d H9 b9 o9 dd9 D => ?_⟩
    refine q v d [] 1 F0 r H9 b9 ((c6'.trans o9).mono sub4) (hwo8.off c5'.nt hap2 hap3 nel o9) dd9 ?_
    have z := told_leaf (cl := cl) (F := F0) (r := r + 1) D (show 1 ≤ deep by omega)
    rw [show r + 1 - 1 = r by omega] at z
    exact z
  have e1 : (pe7.map V.ref).isEmpty = false := by
    cases pe7 with
    | nil => exact absurd (List.length_eq_zero_iff.mp lc2.symm) e0
    | cons _ _ => rfl
  rw [e1]
  refine iteF ?_
  have lpos : 0 < (pe7.map V.ref).length := by
    rw [List.length_map, lc2]
    exact List.length_pos_iff.mpr e0
  have lle : (pe7.map V.ref).length ≤ 11 := by
    rw [List.length_map, lc2]
    exact c3
  refine ⟨_, rfl, _, rfl, E4, _, rfl, .inl (SqL.of c1'), _, _, rfl, rfl, ?_⟩
  refine ⟨_, rfl, _, rfl, E4, _, rfl, .inl (SqL.of c1'), p, g, _, rfl, c5', by omega, ?_, fun t H9 t0 tN b9 o9 => ⟨_, _, rfl, rfl, ⟨by decide, by decide⟩, _, _, rfl, rfl, ?_⟩⟩
  · show (pe7.map V.ref).length < 2 ^ 200
    exact Nat.lt_of_le_of_lt lle (by decide)
  obtain ⟨j, hj, ej⟩ : ∃ j : Nat, j < pe7.length ∧ ((pe7.map V.ref).length : Int) - 1 - t / 2 = (j : Int) := by
    rw [List.length_map] at lpos tN ⊢
    exact ⟨((pe7.length : Int) - 1 - t / 2).toNat, by omega, by omega⟩
  have hjt : pe7[j]? = some pe7[j] := List.getElem?_eq_getElem hj
  obtain ⟨kv, ekv, hkv⟩ := paired_get c2' hjt
  have hjm : (pe7.map V.ref)[j]? = some (V.ref pe7[j]) := by rw [List.getElem?_map, hjt]; rfl
  have c19 := o9.get c1' nE4
  have hkv9 := seqT_off c5'.nt o9 hkv
  refine ⟨E4, _, _, _, rfl, rfl, SqL.of c19, by rw [ej]; exact atI_nat hjm, ?_⟩
  refine ⟨_, _, rfl, hkv9, rfl, _, _, rfl, _, _, rfl, rfl, ?_⟩
  have hkvm : kv ∈ el7 := List.mem_of_getElem? ekv
  have kvc : (kv ∈ w0.elder ∧ kv.1 ≠ w0.nm) ∨ (∃ j, w0.fl = some j ∧ pcs ≠ [] ∧ kv = (w0.nm, w0.many)) := by
    have old : kv ∈ w0.elder → kv ∈ w0.elder ∧ kv.1 ≠ w0.nm := fun z => ⟨z, (hcw.elder kv z).2.2.1⟩
    rcases c4 with e | ⟨⟨j, e1⟩, e2, e⟩
    · rw [e] at hkvm
      exact .inl (old hkvm)
    · rw [e] at hkvm
      rcases List.mem_append.mp hkvm with z | z
      · exact .inl (old z)
      · exact .inr ⟨j, e1, e2, List.mem_singleton.mp z⟩
  have k24 : kv.2 ≤ 4 := by
    rcases kvc with ⟨z, _⟩ | ⟨j, e1, _, e2⟩
    · exact (hcw.elder kv z).2.2.2.2.2
    · rw [e2]
      exact (hcw.own j e1).2.2.2.2.1
  have kvn : isNm kv.1 = true ∧ gd (.str kv.1) = true := by
    rcases kvc with ⟨z, _⟩ | ⟨j, e1, _, e2⟩
    · exact ⟨(hcw.elder kv z).2.2.2.1, (hcw.elder kv z).2.2.2.2.1⟩
    · rw [e2]
      exact ⟨(hcw.own j e1).2.2.2.2.2.1, (hcw.own j e1).2.2.2.2.2.2⟩
  have hwo9 := hwo8.off c5'.nt hap2 hap3 nel o9
  have hla9 := hla8.off c5'.nt napg o9
  have c79 := o9.get c7' (tr2 hbox hbn)
  have c89 : ∀ x ∈ pcs, PcV K cl ls H9 x := fun x hx => (c8' x hx).off c5'.nt o9
  have o09 : Off [p, g] H H9 := c6'.trans o9
  have nFd : F0.Nodup := hnd.sublist (List.sublist_append_left _ _)
  refine ⟨_, rfl, (kv.2 : Int), rfl, by omega, by omega, fun D4 hD4 => ?_⟩
  have nD4 := fresh4 b9 hwo9 hD4
  have b10 := b9.same (same_new (o := .lst []) hD4)
  have M0 := mid_start (l := (F0.length : Int)) (r := r + 1) (d := deep) (p := 0) (by omega) (by omega) (by omega) (by omega)
  rw [show (F0.length : Int) - 0 = F0.length by omega, show r + 1 - 1 = r by omega] at M0
  refine lc_range (lo := 0) (n := kv.2) (fun i H10 => ∃ vs es rows Fj rj, vs.length = i ∧ es.length = i ∧ H10 D4 = some (.lst vs) ∧ DpAll K H10 vs es ∧ Kids cl ls (deep - 1 + 4) F0 Fj r rj es rows ∧ Box H10 p g ∧ WdA K H10 wd el fr w0 Fj rj ∧ Off [p, g, wd, fr] H9 H10 ∧ Mid F0.length Fj.length (r + 1) rj deep 0 0 i)
    ⟨[], [], [], F0, r, rfl, rfl, upd_same, .nil, Kids.nil, b10, hwo9.up (same_new hD4 _), Off.of (same_new hD4 _), M0⟩ ?_ ?_
  · rintro i H10 hi ⟨vs, es, rows, Fj, rj, l1, l2, k1, k2, k3, k4, k5, k6, k7⟩
    have P1 := k7.pre hpre (by omega) (by omega)
    rw [show (deep : Int) - 1 = ((deep - 1 : Nat) : Int) by omega] at P1
    have la10 := hla9.off (nt4 b9 hwo9) hap1 k6
    have rj1 := k7.rr
    refine ⟨rfl, _, rfl, _, rfl, _, rfl, _, rfl, _, _, rfl, rfl, p, g, wd, el, fr, a, w0, Fj, rj, ls, deep - 1, 101, ?_, .inl rfl, by omega, by omega, by omega, ask0.kid k4 k5 la10 k3.tk P1 (by omega) (by omega), fun v d bs z Fk rk H11 b11 o11 wo11 dd11 T1 => ?_⟩
    · rw [show ((deep - 1 : Nat) : Int) = (deep : Int) - 1 by omega]
      rfl
    have hF := o11.get k1 nD4
    have ntF : NT [D4] H11 := .cons (nt_lst hF) .nil
    have pF : Off [D4] H11 (upd H11 D4 (.lst (vs ++ [v]))) := Off.put (by simp)
    have M1 := k7.kid (by have z := T1.po; rw [show ((deep - 1 : Nat) : Int) = (deep : Int) - 1 by omega] at z; exact z) (by omega) (by omega)
    have k3' := k3.snoc nFd T1
    refine ⟨vs, hF, few (by omega), vs ++ [v], es ++ [d], rows ++ [(bs, z)], Fk, rk, by rw [List.length_append, l1]; rfl, by rw [List.length_append, l2]; rfl, upd_same, DpAll.app (DpAll.off (DpAll.off k2 (nt4 k4 k5) k3.nl o11) ntF k3.nl pF) (.cons (Dp.off dd11 ntF T1.nl pF) .nil), k3', ?_, ?_, off_new (k6.trans o11) nD4 hD4, M1⟩
    · exact b11.put (fun z => nD4 (sub4 _ z))
    · refine wo11.off ntF (fun z => nD4 ?_) (fun z => nD4 ?_) (fun z => ?_) pF
      · rw [← List.mem_singleton.mp z]; simp
      · rw [← List.mem_singleton.mp z]; simp
      · obtain ⟨pz, ez, _⟩ := hwo9.el
        rw [← List.mem_singleton.mp z, ez] at hD4
        cases hD4
  · rintro H10 ⟨vs, es, rows, Fj, rj, l1, l2, k1, k2, k3, k4, k5, k6, k7⟩
    have o010 : Off [p, g, wd, fr] H H10 := (o09.mono sub4).trans k6
    have fin : ∀ (H11 : Hp) (vs2 : List V) (es2 : List PyData) (rows2 : List (List Str × Nat)) (F1 : List Str), DpAll K H11 vs2 es2 → CallOk 12 cl (scL ls) kv.1 es2 → Paired (fun (r : List Str × Nat) (d : PyData) => Wt 12 cl (deep - 1 + 4) (scL ls) 101 d r.1 r.2) rows2 es2 → Tak F0 F1 (rows2.flatMap (·.1)) → (nods es2 : Int) + capN rj ≤ 27 + capN r →
        PyData.depthAll es2 ≤ 2 * (deep - 1 + 4) → gds es2 = true → nls es2 = true → Box H11 p g → WdA K H11 wd el fr w0 F1 rj → Off [p, g, wd, fr] H H11 → Post F0.length F1.length (r + 1) rj deep → ∀ t, H11 t = none → ∀ T, (upd H11 t (.tup vs2)) T = none → Q (.ref T) (upd (upd H11 t (.tup vs2)) T (.tup [.str "call", .str kv.1, .ref t])) := by
      intro H11 vs2 es2 rows2 F1 f1 f2 f3 f4 f5 f6 f7 f8 f9 f10 f11 f12 t ht T hT
      have s1 := same_new (o := .tup vs2) ht
      have s2 := same_new (o := .tup [.str "call", .str kv.1, .ref t]) hT
      have s3 := s1.trans s2
      refine q _ (.tuple [.str "call", .str kv.1, .tuple es2]) (rows2.flatMap (·.1)) (1 + (rows2.map (·.2)).sum) F1 rj _ (f9.same s3) (f11.trans (Off.of s3)) (f10.up s3) ?_ ?_
      · exact .tup (.inl (.inl upd_same)) (.cons (.str _) (.cons (.str _) (.cons (.tup (.inl (.inl (s2 _ _ upd_same))) (DpAll.off f1 (l := []) (fun _ z => nomatch z) f8 (Off.of s3))) .nil)))
      · exact told_call hd2 hrm hrm40 kvn.1 kvn.2 f2 f3 f4 f5 f6 f7 f8 f12
    have d10 := k5.at
    refine ⟨_, rfl, _, rfl, wd, _, rfl, d10.2.2.2.1, rfl, _, rfl, ?_⟩
    rcases kvc with ⟨kvm, kvx⟩ | ⟨j0, ej0, epc, ekvn⟩
    · refine ieF kvx ?_
      obtain ⟨ck1, ck2, _⟩ := hcw.elder kv kvm
      refine ⟨_, rfl, _, rfl, D4, vs, rfl, .inl ⟨SqL.of k1, fun t ht => ⟨few (by simp), fun T6 hT6 => ?_⟩⟩⟩
      have kn := k3.nd
      refine fin H10 vs es rows Fj k2 ⟨by rw [ck1, l2], fun z => absurd z ck2⟩ k3.wt k3.tk (by rw [l2] at kn; omega) k3.dp k3.gd k3.nl k4 k5 o010 ?_ t ht T6 hT6
      exact k7.post (by omega) (by omega) (by omega) (by omega) (by omega) (by omega)
    · refine ieT (by rw [ekvn]) ?_
      obtain ⟨ow1, ow2, ow3, ow4, ow5, _⟩ := hcw.own j0 ej0
      have kv2 : kv.2 = w0.many := by rw [ekvn]
      have kv1 : kv.1 = w0.nm := by rw [ekvn]
      have nb6 := fresh4 hbox hwo hbn
      have nt9 := nt4 b9 hwo9
      have c710 := k6.get c79 nb6
      have lpc : 0 < pcs.length := List.length_pos_iff.mpr epc
      refine ⟨_, rfl, _, rfl, p, g, b6, pcs, rfl, k4, c710, fun z => nb6 (sub4 _ z), lpc, by omega, fun x hx H11 b11 o11 => ?_⟩
      obtain ⟨dp, hdp, pcn⟩ := (c89 x hx).off nt9 k6
      have nel10 : el ∉ [p, g] := nel
      have wo11 : WdA K H11 wd el fr w0 Fj rj := k5.off k4.nt hap2 hap3 nel o11
      have dp11 := Dp.off hdp k4.nt pcn.nl o11
      have nD4pg : D4 ∉ [p, g] := fun z => nD4 (sub4 _ z)
      have k111 := o11.get k1 nD4pg
      have k211 : DpAll K H11 vs es := DpAll.off k2 k4.nt k3.nl o11
      refine ⟨fun σ H12 => ∃ v d bs z F2 o10 pp qq, σ = [some (.ref p), some (.ref wd), some (.ref a), some (.int deep), some (.ref E4), some (.ref b6), some (.str kv.1), some (.int kv.2), some (.ref D4), some v, o10, none, none] ∧ Dp K H12 v d ∧ PcD cl ls 18 d bs z ∧ Tak Fj F2 bs ∧ WdA K H12 wd el fr w0 F2 rj ∧
          Mid F0.length F2.length (r + 1) rj deep pp qq kv.2 ∧ pp ≤ 1 ∧ qq ≤ 1 ∧ H12 D4 = some (.lst vs) ∧ DpAll K H12 vs es ∧ Box H12 p g ∧ Off [p, g, wd, fr] H H12, ?_, ?_⟩
      · have old : ∀ H12 o10, Box H12 p g → Off [p, g] H11 H12 → ∃ v d bs z F2 o10' pp qq, [some (V.ref p), some (.ref wd), some (.ref a), some (.int deep), some (.ref E4), some (.ref b6), some (.str kv.1), some (.int kv.2), some (.ref D4), some x, o10, none, none] = [some (V.ref p), some (.ref wd), some (.ref a), some (.int deep), some (.ref E4), some (.ref b6), some (.str kv.1), some (.int kv.2), some (.ref D4), some v, o10', none, none] ∧ Dp K H12 v d ∧ PcD cl ls 18 d bs z ∧ Tak Fj F2 bs ∧ WdA K H12 wd el fr w0 F2 rj ∧
          Mid F0.length F2.length (r + 1) rj deep pp qq kv.2 ∧ pp ≤ 1 ∧ qq ≤ 1 ∧ H12 D4 = some (.lst vs) ∧ DpAll K H12 vs es ∧ Box H12 p g ∧ Off [p, g, wd, fr] H H12 := fun H12 o10 b12 o12 => by
          obtain ⟨z, pd⟩ := pcn.pcd (k := 18) (by omega) (by omega)
          exact ⟨x, dp, [], z, Fj, o10, 0, 0, rfl, Dp.off dp11 b11.nt pcn.nl o12, pd, Tak.refl Fj, wo11.off b11.nt hap2 hap3 nel o12, k7, by omega, by omega, o12.get k111 nD4pg, DpAll.off k211 b11.nt k3.nl o12, b12, (o010.trans (o11.mono sub4)).trans (o12.mono sub4)⟩
        refine ⟨_, rfl, p, g, 4, rfl, b11, by decide, by decide, fun r5 H12 r50 r54 b12 o12 => ?_⟩
        refine ⟨rfl, _, rfl, and_same (fun e1 G => ?_) (old H12 none b12 o12)⟩
        have o012 : Off [p, g, wd, fr] H H12 := (o010.trans (o11.mono sub4)).trans (o12.mono sub4)
        have wo12 : WdA K H12 wd el fr w0 Fj rj := wo11.off b11.nt hap2 hap3 nel o12
        refine ⟨_, rfl, wd, _, rfl, wo12.at.1, fr, _, rfl, .inl (SqL.of wo12.fr), _, _, rfl, rfl, _, rfl, and_same (fun e2 G2 => ?_) (old H12 none b12 o12)⟩
        have l4 : 4 < Fj.length := by
          have z := of_decide_eq_true e2
          rw [List.length_map] at z
          omega
        obtain ⟨F2, y, rfl⟩ : ∃ F2 y, Fj = F2 ++ [y] := by
          rcases List.eq_nil_or_concat Fj with e | ⟨l, b, e⟩
          · rw [e] at l4
            exact absurd l4 (by simp)
          · exact ⟨l, b, by rw [e, List.concat_eq_append]⟩
        have hfr12 := wo12.fr
        rw [List.map_append, show [y].map V.str = [V.str y] from rfl] at hfr12
        refine ⟨_, rfl, wd, .ref fr, rfl, wo12.at.1, .inl ⟨rfl, _, SqL.of hfr12⟩, fr, _, _, rfl, rfl, hfr12, last_at _ _, ?_⟩
        rw [drop_last]
        have wne := hwo.ne
        have hap4' : el ≠ p ∧ el ≠ g ∧ el ≠ fr := by simpa using hap4
        have o13f : Off [fr] H12 (upd H12 fr (.lst (F2.map V.str))) := Off.put (by simp)
        have ntf : NT [fr] H12 := .cons (nt_lst hfr12) .nil
        have o13 : Off [p, g, wd, fr] H12 (upd H12 fr (.lst (F2.map V.str))) := Off.put (by simp)
        have b13 : Box (upd H12 fr (.lst (F2.map V.str))) p g := b12.put hap3
        have wo13 : WdA K (upd H12 fr (.lst (F2.map V.str))) wd el fr w0 F2 rj := by
          obtain ⟨ps, e1, e2⟩ := wo12.el
          exact ⟨by rw [upd_ne wne.2]; exact wo12.wd, upd_same, ps, by rw [upd_ne hap4'.2.2]; exact e1, paired_mono (fun _ _ z => seqT_off ntf o13f z) e2⟩
        have nt12 := nt4 b12 wo12
        have o1112 : Off [p, g, wd, fr] H11 H12 := o12.mono sub4
        have dp13 := Dp.off (Dp.off dp11 b11.nt pcn.nl o12) nt12 pcn.nl o13
        have k112 := o12.get k111 nD4pg
        have k113 := o13.get k112 nD4
        have k213 := DpAll.off (DpAll.off k211 b11.nt k3.nl o12) nt12 k3.nl o13
        generalize upd H12 fr (.lst (F2.map V.str)) = H13 at o13 b13 wo13 dp13 k113 k213
        have hyy : isNm y = true ∧ gd (.str y) = true := by
          obtain ⟨tk, ek, _⟩ := k3.tk
          exact hfm y (by rw [ek]; simp)
        have yls : y ∉ ls.map (·.1) := fun z => by
          obtain ⟨tk, ek, _⟩ := k3.tk
          exact (List.nodup_append.mp hnd).2.2 y (by rw [ek]; simp) y z rfl
        refine ⟨_, rfl, _, rfl, _, rfl, _, rfl, few (by simp), fun T1 hT1 => ⟨_, rfl, few (by simp), fun T2 hT2 => ⟨few (by simp), fun T3 hT3 => ⟨few (by simp), fun L hL => ?_⟩⟩⟩⟩
        have s5 := same_new (o := .tup [.str "name", .str y]) hT1
        have s6 := same_new (o := .tup [.str "name", .str y]) hT2
        have s7 := same_new (o := .tup [.str "part", .ref T2, .int 2]) hT3
        have s8 := same_new (o := .lst [.ref T1, .ref T3]) hL
        have x1 := s8 _ _ (s7 _ _ (s6 _ _ (show (upd H13 T1 (.tup [.str "name", .str y])) T1 = some (.tup [.str "name", .str y]) from upd_same)))
        have x2 := s8 _ _ (s7 _ _ (show (upd (upd H13 T1 (.tup [.str "name", .str y])) T2 (.tup [.str "name", .str y])) T2 = some (.tup [.str "name", .str y]) from upd_same))
        have x3 := s8 _ _ (show (upd (upd (upd H13 T1 (.tup [.str "name", .str y])) T2 (.tup [.str "name", .str y])) T3 (.tup [.str "part", .ref T2, .int 2])) T3 = some (.tup [.str "part", .ref T2, .int 2]) from upd_same)
        have x4 : (upd (upd (upd (upd H13 T1 (.tup [.str "name", .str y])) T2 (.tup [.str "name", .str y])) T3 (.tup [.str "part", .ref T2, .int 2])) L (.lst [.ref T1, .ref T3])) L = some (.lst [.ref T1, .ref T3]) := upd_same
        have s58 := s5.trans (s6.trans (s7.trans s8))
        have nL : H13 L = none := (s5.trans (s6.trans s7)).free hL
        generalize upd (upd (upd (upd H13 T1 (.tup [.str "name", .str y])) T2 (.tup [.str "name", .str y])) T3 (.tup [.str "part", .ref T2, .int 2])) L (.lst [.ref T1, .ref T3]) = H14 at s58 x1 x2 x3 x4
        have nLpg : L ∉ [p, g] := tr2 b13 nL
        have b14 := b13.same s58
        refine ⟨p, g, L, _, rfl, b14, x4, nLpg, by simp, by simp, fun u hu2 H15 b15 o15 => ⟨few (by simp), fun T4 hT4 => ?_⟩⟩
        have pn0 : PcN cl (ls ++ [(y, ("piece" : Str))]) 1 3 "piece" (.tuple [.str "name", .str y]) := pcn_name hyy.1 hyy.2 (by rw [scL_snoc]; unfold updS; rw [if_pos rfl])
        have pu : ∃ du, Dp K H14 u du ∧ PcN cl (ls ++ [(y, ("piece" : Str))]) 2 6 "piece" du := by
          simp only [List.mem_cons, List.not_mem_nil, or_false] at hu2
          rcases hu2 with e | e
          · rw [e]
            exact ⟨_, .tup (.inl (.inl x1)) (.cons (.str _) (.cons (.str _) .nil)), pn0.mono (by omega) (by omega)⟩
          · rw [e]
            exact ⟨_, .tup (.inl (.inl x3)) (.cons (.str _) (.cons (.tup (.inl (.inl x2)) (.cons (.str _) (.cons (.str _) .nil))) (.cons (.int _) .nil))), (pcn_part (i := 2) pn0 (by decide +kernel) (by decide) (by omega)).mono (by omega) (by omega)⟩
        obtain ⟨du, hdu, pnu⟩ := pu
        have s9 := same_new (o := .tup [.str "let", .str y, x, u]) hT4
        obtain ⟨z, pd⟩ := pcd_let hyy.1 hyy.2 pcn pnu
        have o1314 : Off [p, g, wd, fr] H13 H15 := (Off.of s58).trans (o15.mono sub4)
        have nt13 := nt4 b13 wo13
        have dp15 := Dp.up s9 _ _ (Dp.off dp13 nt13 pcn.nl o1314)
        have du15 := Dp.up s9 _ _ (Dp.off hdu b14.nt pnu.nl o15)
        have k115 := s9 _ _ (o15.get (s58 _ _ k113) nD4pg)
        have k215 := DpAll.off (DpAll.off k213 nt13 k3.nl o1314) (l := []) (fun _ z => nomatch z) k3.nl (Off.of s9)
        refine ⟨_, .tuple [.str "let", .str y, dp, du], [y], z, F2, some (.str y), 1, 1, rfl, .tup (.inl (.inl upd_same)) (.cons (.str _) (.cons (.str _) (.cons dp15 (.cons du15 .nil)))), pd, Tak.one F2 y, (((wo13.up s58).off b14.nt hap2 hap3 nel o15).up s9), ?_, by omega, by omega, k115, k215, b15.same s9, ((o012.trans o13).trans o1314).trans (Off.of s9)⟩
        have z := k7.pop (by rw [List.length_append, List.length_singleton]; omega)
        rw [List.length_append, List.length_singleton] at z
        rw [show ((F2.length + 1 : Nat) : Int) - 1 = F2.length by omega] at z
        simpa using z
      · rintro σ H12 ⟨v, d, bs, z, F2, o10, pp, qq, rfl, m1, m2, m3, m4, m5, m6, m7, m8, m9, m10, m11⟩
        refine ⟨_, rfl, _, rfl, _, rfl, wd, _, rfl, m4.at.2.1, ?_⟩
        have jl : j0 < vs.length := by
          rw [l1, kv2]
          exact ow4
        have dfl : fallV w0.fl = .int j0 := by
          rw [ej0]
          rfl
        rw [dfl]
        refine ⟨D4, vs, j0, j0, rfl, rfl, m8, ixN_nat jl, ?_⟩
        have ntD : NT [D4] H12 := .cons (nt_lst m8) .nil
        have oD : Off [D4] H12 (upd H12 D4 (.lst (vs.set j0 v))) := Off.put (by simp)
        obtain ⟨rows2, u1, u2, u3, u4, u5, u6⟩ := kids_set nFd (by omega) k3 (by rw [l2, kv2]; exact ow4) (by rw [l2]; exact k24) m2 m3
        have k13 : DpAll K (upd H12 D4 (.lst (vs.set j0 v))) (vs.set j0 v) (es.set j0 d) := DpAll.off (DpAll.put j0 m9 m1) ntD u6 oD
        have hD13 : (upd H12 D4 (.lst (vs.set j0 v))) D4 = some (.lst (vs.set j0 v)) := upd_same
        have b13 := m10.put (o := .lst (vs.set j0 v)) (fun z => nD4 (sub4 _ z))
        have hD4H : H D4 = none := o09.free hD4 (fun z => nD4 (sub4 _ z))
        have o13 : Off [p, g, wd, fr] H (upd H12 D4 (.lst (vs.set j0 v))) := off_new m11 nD4 hD4H
        have wo13 : WdA K (upd H12 D4 (.lst (vs.set j0 v))) wd el fr w0 F2 rj := by
          refine m4.off ntD (fun z => nD4 ?_) (fun z => nD4 ?_) (fun z => ?_) oD
          · rw [← List.mem_singleton.mp z]; simp
          · rw [← List.mem_singleton.mp z]; simp
          · obtain ⟨pz, ez, _⟩ := hwo9.el
            rw [← List.mem_singleton.mp z, ez] at hD4
            cases hD4
        generalize upd H12 D4 (.lst (vs.set j0 v)) = H13 at k13 hD13 b13 o13 wo13
        refine ⟨_, rfl, _, rfl, D4, _, rfl, .inl ⟨SqL.of hD13, fun t ht => ⟨few (by simp), fun T6 hT6 => ?_⟩⟩⟩
        refine fin H13 (vs.set j0 v) (es.set j0 d) rows2 F2 k13 ⟨?_, fun _ => ⟨j0, d, ow3, ?_, m2.st.mono (by omega)⟩⟩ u1 u2 u3 u4 u5 u6 b13 wo13 o13 ?_ t ht T6 hT6
        · rw [List.length_set, l2, kv1, ow1, kv2]
        · rw [List.getElem?_set_self (by rw [l2, kv2]; exact ow4)]
        · exact m5.post (by omega) (by omega) (by omega) (by omega) (by omega) (by omega)
end
/-! trees that bind nothing, slot by slot -/
def cstq (c : Nat) : Nat := if c = 115 then 10 else if c = 101 then 3 else if c = 116 then 6 else 1
def cstqL (cs : List Nat) : Nat := (cs.map cstq).sum
theorem cstqL_snoc (cs : List Nat) (c : Nat) : cstqL (cs ++ [c]) = cstqL cs + cstq c := by
  unfold cstqL
  rw [List.map_append, List.sum_append]
  simp
theorem gd_heads : ∀ p ∈ allL, gd (.str p.1) = true := by decide +kernel
theorem cstq_all : ∀ p ∈ allL, cstqL p.2.cps.toList ≤ 20 ∧ p.2.cps.toList.length ≤ 10 := by decide +kernel
structure Slo (cl : Cl) (ls : List (Str × Str)) (f : Nat) (F Fj : List Str) (r rj : Int) (cs : List Nat) (args : List PyData) (rows : List (List Str × Nat)) : Prop where
  acc : Acc 12 cl f (scL ls) cs args rows
  tk : Tak F Fj (rows.flatMap (·.1))
  nd : (nods args : Int) + capN rj ≤ (cstqL cs : Int) + capN r
  dp : PyData.depthAll args ≤ 2 * f + 1
  gd : gds args = true
  nl : nls args = true
  st : ∀ cs2, cs = 101 :: cs2 → ∃ a as s, args = a :: as ∧ St f (scL ls) a s
theorem Slo.nil {cl : Cl} {ls : List (Str × Str)} {f : Nat} {F : List Str} {r : Int} : Slo cl ls f F F r r [] [] [] := ⟨Acc.nil, Tak.refl F, by simp [nods, cstqL], by simp [PyData.depthAll], by simp [gds], by simp [nls], fun _ e => nomatch e⟩
theorem st_snoc {ls : List (Str × Str)} {f c : Nat} {cs : List Nat} {args : List PyData} {d : PyData} (hl : cs.length = args.length) (h : ∀ cs2, cs = 101 :: cs2 → ∃ a as s, args = a :: as ∧ St f (scL ls) a s) (hd : c = 101 → ∃ s, St f (scL ls) d s) : ∀ cs2, cs ++ [c] = 101 :: cs2 → ∃ a as s, args ++ [d] = a :: as ∧ St f (scL ls) a s := by
  intro cs2 e
  cases cs with
  | nil =>
    cases args with
    | cons _ _ => simp at hl
    | nil =>
      have ec : c = 101 := by simpa using (List.cons.inj e).1
      obtain ⟨s, hs⟩ := hd ec
      exact ⟨d, [], s, rfl, hs⟩
  | cons c0 cs =>
    have ec : c0 = 101 := (List.cons.inj e).1
    subst ec
    obtain ⟨a, as, s, e1, hs⟩ := h cs rfl
    exact ⟨a, as ++ [d], s, by rw [e1]; rfl, hs⟩
theorem Slo.leaf {cl : Cl} {ls : List (Str × Str)} {f : Nat} {F Fj : List Str} {r rj : Int} {cs : List Nat} {args : List PyData} {rows : List (List Str × Nat)} (A : Slo cl ls f F Fj r rj cs args rows) {c : Nat} {d : PyData} (hf : FitS c d) (h1 : c ≠ 101) (h2 : c ≠ 116) (h3 : c ≠ 115)
    (hn : nod d = 1) (hd : d.depth = 0) (hg : Rl.gd d = true) (hl : Rl.nl d = true) : Slo cl ls f F Fj r rj (cs ++ [c]) (args ++ [d]) rows := by
  have a1 := A.nd
  have a2 := A.dp
  refine ⟨A.acc.leaf hf h1 h2 h3, A.tk, ?_, ?_, ?_, ?_, st_snoc A.acc.fm.len A.st (fun z => absurd z h1)⟩
  · have e : cstq c = 1 := by
      unfold cstq
      rw [if_neg h3, if_neg h1, if_neg h2]
    rw [nods_app, cstqL_snoc, e]
    simp only [nods]
    omega
  · rw [depthAll_app]
    simp only [PyData.depthAll]
    omega
  · rw [gds_app, A.gd]
    simp only [gds, hg, Bool.and_self]
  · rw [nls_app, A.nl]
    simp only [nls, hl, Bool.and_self]
theorem Slo.tree {cl : Cl} {ls : List (Str × Str)} {f : Nat} {F Fj Fk : List Str} {r rj rk deep : Int} {cs : List Nat} {args : List PyData} {rows : List (List Str × Nat)} (nF : F.Nodup) (A : Slo cl ls f F Fj r rj cs args rows) {c : Nat} {d : PyData} {bs : List Str} {z : Nat} (hc : c = 101 ∨ c = 116)
    (T : Told cl Fj Fk rj rk ls deep f c d bs z) : Slo cl ls f F Fk r rk (cs ++ [c]) (args ++ [d]) (rows ++ [(bs, z)]) := by
  have a1 := A.nd
  have a2 := A.dp
  have a3 := T.nd
  have a4 := T.dp
  refine ⟨A.acc.tree hc T.wt, ?_, ?_, ?_, ?_, ?_, st_snoc A.acc.fm.len A.st T.st⟩
  · rw [List.flatMap_append]
    refine Tak.app nF A.tk ?_
    have e : [(bs, z)].flatMap (·.1) = bs := by simp
    rw [e]
    exact T.tk
  · have e : (cstq c : Int) = limC c := by rcases hc with e | e <;> subst e <;> rfl
    rw [nods_app, cstqL_snoc]
    simp only [nods]
    omega
  · rw [depthAll_app]
    simp only [PyData.depthAll]
    omega
  · rw [gds_app, A.gd]
    simp only [gds, T.gd, Bool.and_self]
  · rw [nls_app, A.nl]
    simp only [nls, T.nl, Bool.and_self]
theorem Slo.trees {cl : Cl} {ls : List (Str × Str)} {f : Nat} {F Fj Fk : List Str} {r rj r2 rk : Int} {cs : List Nat} {args es : List PyData} {rows rows2 : List (List Str × Nat)} (nF : F.Nodup) (A : Slo cl ls f F Fj r rj cs args rows) (k : Kids cl ls f Fj Fk r2 rk es rows2)
    (h : (es.length ≤ 3 ∧ r2 = rj) ∨ (es.length ≤ 12 ∧ r2 = 14 ∧ 14 < rj)) : Slo cl ls f F Fk r rk (cs ++ [115]) (args ++ [.tuple es]) (rows ++ rows2) := by
  have a1 := A.nd
  have a2 := A.dp
  have a3 := k.nd
  have a4 := k.dp
  refine ⟨A.acc.trees k.wt, ?_, ?_, ?_, ?_, ?_, st_snoc A.acc.fm.len A.st (fun z => absurd z (by decide))⟩
  · rw [List.flatMap_append]
    exact Tak.app nF A.tk k.tk
  · have e : cstq 115 = 10 := by decide
    rw [nods_app, cstqL_snoc, e]
    simp only [nods, nod]
    rcases h with ⟨h1, h2⟩ | ⟨h1, h2, h3⟩
    · rw [h2] at a3
      omega
    · have h5 : capN 14 = 392 := by decide
      have h4 : capN 14 + 40 ≤ capN rj := by
        rw [h5]
        unfold capN
        rw [if_pos h3]
        omega
      rw [h2] at a3
      omega
  · rw [depthAll_app]
    simp only [PyData.depthAll, PyData.depth]
    omega
  · rw [gds_app, A.gd]
    simp only [gds, Rl.gd, k.gd, Bool.and_self]
  · rw [nls_app, A.nl]
    simp only [nls, Rl.nl, k.nl, Bool.and_self]
theorem told_slots {cl : Cl} {ls : List (Str × Str)} {F F1 : List Str} {r r1 : Int} {deep c : Nat} {h sl : Str} {args : List PyData} {rows : List (List Str × Nat)} (hd : 2 ≤ deep) (hr : 2 ≤ r) (hr30 : r ≤ 31) (ce : c = 101 ∨ c = 116) (m : (h, sl) ∈ tblC c)
    (hn : h ≠ "int" ∧ h ≠ "name" ∧ h ≠ "call" ∧ h ≠ "let" ∧ h ≠ "each" ∧ h ≠ "pick" ∧ h ≠ "fold") (A : Slo cl ls (deep - 1 + 4) F F1 (r - 1) r1 sl.cps.toList args rows) (po : Post F.length F1.length r r1 deep) :
    Told cl F F1 r r1 ls deep (deep + 4) c (.tuple (.str h :: args)) (rows.flatMap (·.1)) (1 + (rows.map (·.2)).sum) := by
  obtain ⟨e, rfl⟩ : ∃ e, deep = e + 1 := ⟨deep - 1, by omega⟩
  rw [Nat.add_sub_cancel] at A
  obtain ⟨n0, n1, n2, n3, n4, n5, n6⟩ := hn
  have a1 := A.nd
  have a2 := A.dp
  have cq := (cstq_all _ (tblC_all _ m)).1
  simp only at cq
  have cm : capN (r - 1) ≤ capN 30 := cap_mono (by omega)
  have cl1 : capN (r - 1) + 28 ≤ capN r := cap_less hr
  have c30 : capN 30 = 852 := by decide
  have c3 := cap_nn r1
  have lc := limC_le c
  have na : nods args ≤ 900 := by omega
  have w2 : Wt 12 cl (e + 4 + 1) (scL ls) c (.tuple (.str h :: args)) (rows.flatMap (·.1)) (1 + (rows.map (·.2)).sum) := A.acc.done ce m na ⟨fun z => absurd z n1, fun z => absurd z n2⟩ (bnd_none n6 n3 n4 n5)
  have gh : gd (.str h) = true := gd_heads _ (tblC_all _ m)
  refine ⟨A.tk, w2, fun c1 => ?_, ?_, ?_, ?_, ?_, ni_head n0, po⟩
  · subst c1
    have fo : FoD 101 (.tuple (.str h :: args)) h sl args := ⟨rfl, .inl rfl, m, A.acc.fm, na⟩
    by_cases hp : h = "part"
    · have es := ex_part _ m hp
      simp only at es
      rw [es, show ("ei" : Str).cps.toList = [101, 105] by decide +kernel] at A
      obtain ⟨a, as, s, e1, hs⟩ := A.st _ rfl
      have l := A.acc.fm.len
      rw [e1] at l
      match as, l with
      | [i], _ =>
        subst e1
        subst hp
        exact ⟨_, .part fo (show St (e + 1 + 4) _ a s from hs.mono (by omega))⟩
    · exact ⟨"", .other fo n1 hp n3⟩
  · simp only [nod, nods]
    omega
  · simp only [PyData.depth, PyData.depthAll]
    omega
  · have g := A.gd
    simp only [gd, gds, Bool.and_eq_true] at gh ⊢
    exact ⟨gh, g⟩
  · simp only [nl, nls, A.nl, Bool.and_self]
/-- is, of a leaf -/
theorem told_is {cl : Cl} {ls : List (Str × Str)} {d : PyData} {F : List Str} {r : Int} {deep : Nat} {x : Str} (D : ∀ n cl, Drw n cl 1 (scL ls) 101 d [] 1 3) (hd : 1 ≤ deep) (hx : x = "integer" ∨ x = "atom" ∨ x = "tuple") : Told cl F F r (r - 1) ls deep (deep + 4) 116 (.tuple [.str "is", .str x, d]) [] 2 := by
  have w := D 12 cl
  have h1 := w.nd
  have h2 := w.dp
  have h3 : capN (r - 1) ≤ capN r := cap_mono (by omega)
  have l1 : limC 116 = 6 := rfl
  have gx : gd (.str x) = true := by rcases hx with e | e | e <;> rw [e] <;> decide +kernel
  have fit : FitS 119 (.str x) := by
    unfold FitS
    rw [if_neg (by decide), if_neg (by decide), if_neg (by decide), if_pos rfl]
    rcases hx with e | e | e <;> rw [e]
    · exact .inl rfl
    · exact .inr (.inl rfl)
    · exact .inr (.inr rfl)
  have A : Acc 12 cl 1 (scL ls) ("we" : Str).cps.toList ([PyData.str x] ++ [d]) ([] ++ [([], 1)]) := by
    rw [show ("we" : Str).cps.toList = [119] ++ [101] by decide +kernel]
    exact Acc.tree (Acc.leaf (cs := []) (args := []) Acc.nil (c := 119) fit (by decide) (by decide) (by decide)) (c := 101) (.inl rfl) w.wt
  have w2 := A.done (h := "is") (c := 116) (.inr rfl) (by decide +kernel : (("is" : Str), ("we" : Str)) ∈ teL) (by simp only [List.cons_append, List.nil_append, nods, nod]; omega) ⟨fun e => absurd e (by decide +kernel), fun e => absurd e (by decide +kernel)⟩ (bnd_none (by decide +kernel) (by decide +kernel) (by decide +kernel) (by decide +kernel))
  have w3 : Wt 12 cl 2 (scL ls) 116 (.tuple [.str "is", .str x, d]) [] 2 := by simpa using w2
  refine ⟨Tak.refl F, w3.mono (by omega), fun z => absurd z (by decide), by simp only [nod, nods]; omega, by simp only [PyData.depth, PyData.depthAll]; omega, ?_, by simp only [nl, nls, w.nl, Bool.and_self], ni_head (by decide +kernel), post_leaf (by omega) (by omega)⟩
  have gi : gd (.str "is") = true := by decide +kernel
  have gd1 := w.gd
  simp only [gd, gds, Bool.and_eq_true] at gi gx ⊢
  exact ⟨gi, gx, gd1, trivial⟩
/-! grown -/
def keysV (l : List (Str × Str)) : List V := l.map fun p => V.str p.1
abbrev threeV : List V := [.str "int", .str "atom", .str "name"]
theorem op_notInK {X : Cx} {K : PySem.W.Frag} (h : X.K = K) : OpR X (compareOp .NotIn) (rIn K true) := by
  subst h
  exact op_notIn_seq
theorem op_inK {X : Cx} {K : PySem.W.Frag} (h : X.K = K) : OpR X (compareOp .In) (rIn K false) := by
  subst h
  exact op_in_seq
theorem put_room (w : Wor) (el fr : Addr) (r y : Int) : putK (wkv w el fr r) (Sum.inr "room" : Key) (.int y) = wkv w el fr y := by
  have n1 : ¬ (("name" : Str) = "room") := by decide +kernel
  have n2 : ¬ (("many" : Str) = "room") := by decide +kernel
  have n3 : ¬ (("falls" : Str) = "room") := by decide +kernel
  have n4 : ¬ (("elder" : Str) = "room") := by decide +kernel
  have n5 : ¬ (("fresh" : Str) = "room") := by decide +kernel
  unfold wkv putK
  simp [n1, n2, n3, n4, n5]
theorem WdA.room {K : PySem.W.Frag} {H : Hp} {wd el fr : Addr} {w : Wor} {F : List Str} {r : Int} (h : WdA K H wd el fr w F r) (y : Int) : DPut H wd (.str "room") (.int y) (upd H wd (.dK (wkv w el fr y))) := by
  have q := DPut.k (k := (Sum.inr "room" : Key)) (v := .int y) h.wd (by show 6 < sizeLine; decide)
  rw [put_room] at q
  exact q
theorem WdA.setr {K : PySem.W.Frag} {H : Hp} {wd el fr : Addr} {w : Wor} {F : List Str} {r : Int} (h : WdA K H wd el fr w F r) (y : Int) : WdA K (upd H wd (.dK (wkv w el fr y))) wd el fr w F y := by
  obtain ⟨ps, e1, e2⟩ := h.el
  have ne := h.ne
  have nt : NT [wd] H := .cons (nt_dk h.wd) .nil
  have o : Off [wd] H (upd H wd (.dK (wkv w el fr y))) := Off.put (by simp)
  exact ⟨upd_same, by rw [upd_ne ne.2.symm]; exact h.fr, ps, by rw [upd_ne ne.1.symm]; exact e1, paired_mono (fun _ _ z => seqT_off nt o z) e2⟩
theorem sortC_t {c : Nat} (hc : c = 101 ∨ c = 116) : (if sortC c = "t" then teL else exL) = tblC c := by
  rcases hc with e | e <;> subst e <;> rfl
theorem lock_off {H2 H3 : Hp} {d : Addr} {u x : HO} {l : List Addr} (h : H2 d = some u) (o : Off l (upd H2 d x) H3) : Off l H2 (upd H3 d u) := fun b v z => by
  obtain ⟨z1, z2⟩ := cut_some z
  rw [cut_out z1]
  by_cases e : b = d
  · rw [e, upd_same]
    rw [e, h] at z2
    exact z2
  · rw [upd_ne e]
    exact o.get (by rw [upd_ne e]; exact z2) z1
theorem heads3 {c : Nat} (hc : c = 101 ∨ c = 116) : (keysV (tblC c)).length ≤ 16 ∧ 0 < ((keysV (tblC c)).filter fun x => !inV x threeV).length := by
  rcases hc with e | e <;> subst e
  · exact ⟨by decide +kernel, by decide +kernel⟩
  · exact ⟨by decide +kernel, by decide +kernel⟩
theorem Pre.less {l r d s : Int} (h : Pre l r d) (hs : s ≤ r) : Pre l s d := by
  obtain ⟨h1, h2⟩ := h
  exact ⟨h1, by omega⟩
theorem inV4 (s : Str) : inV (.str s) [.str "let", .str "each", .str "pick", .str "fold"] = true ↔ s ∈ [("let" : Str), "each", "pick", "fold"] := by
  simp only [inV, List.any_cons, List.any_nil, eqV, Bool.or_false, Bool.or_eq_true, beq_iff_eq, List.mem_cons, List.not_mem_nil, or_false]
  exact ⟨fun h => h.imp Eq.symm (Or.imp Eq.symm (Or.imp Eq.symm Eq.symm)), fun h => h.imp Eq.symm (Or.imp Eq.symm (Or.imp Eq.symm Eq.symm))⟩
theorem nm3 : ∀ p ∈ allL, inV (.str p.1) threeV = false → p.1 ≠ "name" ∧ p.1 ≠ "int" := by decide +kernel
theorem sg_one (c k : Nat) : ((⟨#[c]⟩ : Str) = ⟨#[k]⟩) ↔ c = k := by
  refine ⟨fun h => ?_, fun h => by rw [h]⟩
  have h2 := congrArg (fun z : Str => z.cps.toList) h
  simpa using h2
theorem sg_s (c : Nat) : (V.str ⟨#[c]⟩ = V.str "s") ↔ c = 115 := by
  rw [V.str.injEq]
  exact sg_one c 115
theorem sg_e : ("e" : Str) = ⟨#[101]⟩ := by decide +kernel
theorem sg_t : ("t" : Str) = ⟨#[116]⟩ := by decide +kernel
theorem inV_et (c : Nat) : inV (.str ⟨#[c]⟩) [.str "e", .str "t"] = true ↔ c = 101 ∨ c = 116 := by
  simp only [inV, List.any_cons, List.any_nil, eqV, Bool.or_false, Bool.or_eq_true, beq_iff_eq]
  rw [sg_e, sg_t, sg_one, sg_one]
  exact ⟨fun h => h.imp Eq.symm Eq.symm, fun h => h.imp Eq.symm Eq.symm⟩
theorem val_te : ∀ p ∈ teL, valV (kvL teL) (Sum.inr p.1 : Key) = some (.str p.2) := by decide +kernel
theorem val_ex : ∀ p ∈ exL, valV (kvL exL) (Sum.inr p.1 : Key) = some (.str p.2) := by decide +kernel
theorem val_tbl {c : Nat} : ∀ p ∈ tblC c, valV (kvL (tblC c)) (Sum.inr p.1 : Key) = some (.str p.2) := fun p h => by
  unfold tblC at h ⊢
  split at h
  · rename_i c
    rw [if_pos c]
    exact val_te p h
  · rename_i c
    rw [if_neg c]
    exact val_ex p h
theorem slot_all : ∀ p ∈ allL, ∀ c ∈ p.2.cps.toList, c ∈ [101, 116, 115, 107, 105, 110, 119] := by decide +kernel
def gnV (c : Nat) (r : Int) : PyData := if c = 110 then .str "x" else if c = 119 then .str "tuple" else .int r
theorem gnV_fit {c : Nat} {r : Int} (hc : c ∈ [101, 116, 115, 107, 105, 110, 119]) (h1 : c ≠ 101) (h2 : c ≠ 116) (h3 : c ≠ 115) (r0 : 0 ≤ r) (r1 : r < 100) : FitS c (gnV c r) ∧ nod (gnV c r) = 1 ∧ (gnV c r).depth = 0 ∧ gd (gnV c r) = true ∧ nl (gnV c r) = true := by
  have gi : gd (.int r) = true := gd_int (Nat.lt_of_lt_of_le (by omega : r.natAbs < 2 ^ 20) (Nat.pow_le_pow_right (by decide) (by decide)))
  simp only [List.mem_cons, List.not_mem_nil, or_false] at hc
  rcases hc with e | e | e | e | e | e | e
  · exact absurd e h1
  · exact absurd e h2
  · exact absurd e h3
  · subst e
    exact ⟨⟨r, rfl⟩, rfl, rfl, gi, rfl⟩
  · subst e
    exact ⟨⟨r, rfl, r0⟩, rfl, rfl, gi, rfl⟩
  · subst e
    exact ⟨⟨"x", rfl, by decide +kernel, by decide +kernel⟩, rfl, rfl, (by decide +kernel : gd (.str "x") = true), rfl⟩
  · subst e
    exact ⟨.inr (.inr rfl), rfl, rfl, (by decide +kernel : gd (.str "tuple") = true), rfl⟩
theorem gn_get {c : Nat} {r : Int} (K : PySem.W.Frag) (H : Hp) : Dp K H ((valV [((Sum.inr ("n" : Str) : Key), V.str "x"), (Sum.inr ("w" : Str), V.str "tuple")] (Sum.inr (⟨#[c]⟩ : Str) : Key)).getD (.int r)) (gnV c r) := by
  have en : ("n" : Str) = ⟨#[110]⟩ := by decide +kernel
  have ew : ("w" : Str) = ⟨#[119]⟩ := by decide +kernel
  have x1 : ((⟨#[110]⟩ : Str) = ⟨#[c]⟩) ↔ 110 = c := sg_one 110 c
  have x2 : ((⟨#[119]⟩ : Str) = ⟨#[c]⟩) ↔ 119 = c := sg_one 119 c
  by_cases h1 : c = 110
  · subst h1
    exact .str _
  · by_cases h2 : c = 119
    · subst h2
      exact .str _
    · have e : valV [((Sum.inr ("n" : Str) : Key), V.str "x"), (Sum.inr ("w" : Str), V.str "tuple")] (Sum.inr (⟨#[c]⟩ : Str) : Key) = none := by
        rw [en, ew]
        simp [valV, x1, x2, Ne.symm h1, Ne.symm h2]
      rw [e]
      unfold gnV
      rw [if_neg h1, if_neg h2]
      exact .int _
section
variable {P : Program} {w : World} {K : PySem.W.Frag} {mg : Str → Option Value} {base : Heap} {f fF fT fP fL fB fC : Addr} {fd dF dT dP dL dB dC : FuncData}
theorem ok_grown {k n : Nat} {cl : Cl} (F : Fun K "_law_grown" "_law_grown" sGrown f fd) (mt : mg "tuple" = none) (mn : mg "len" = none) (mr : mg "range" = none) (T : Tk P w K mg base fT dT) (GF : Dn P w K mg base 1 "_law_forms" ["_law_sort"] spForms fF dF)
    (GP : Dn P w K mg base 2 "_law_pick" ["_law_box_here", "_law_items"] spPick fP dP) (GL : Dn P w K mg base 3 "_law_leaf" ["_law_box_here", "_law_world", "_law_scope"] (spLeaf K) fL dL)
    (GB : Dn P w K mg base (k + 4) "_law_binder" ["_law_box_here", "_law_world", "_law_head", "_law_scope", "_law_deep"] (spBinder K cl n) fB dB)
    (GC : Dn P w K mg base (k + 4) "_law_call" ["_law_box_here", "_law_world", "_law_scope", "_law_deep"] (spLCall K cl n) fC dC)
    (G : FnOk P w K mg base CX0 (k + 3) f fd ["_law_box_here", "_law_world", "_law_sort", "_law_scope", "_law_deep"] (spGrown K cl n)) (bV : Binds K fd ["_law_box_here", "_law_world", "_law_sort", "_law_scope", "_law_deep"] []) (mV : mg "_law_grown" = some (.ref f)) :
    FnOk P w K mg base CX0 (k + 5) f fd ["_law_box_here", "_law_world", "_law_sort", "_law_scope", "_law_deep"] (spGrown K cl (n + 1)) := by
  refine F.ok scGrown (fun vs H Q E h => ?_) (fun cdv A outer s H vs Q E hr h => ?_)
  · obtain ⟨p, g, wd, el, fr, a, w0, F0, r, ls, deep, c, rfl, _⟩ := h
    rfl
  obtain ⟨p, g, wd, el, fr, a, w0, F0, r, ls, deep, c, rfl, hc, hd1, hdn, hd7, ask, q⟩ := h
  have hu := hu_of hr
  have hr1 : Room 1 _ := hr.mono (by omega)
  have hr2 : Room 2 _ := hr.mono (by omega)
  have hr3 : Room 3 _ := hr.mono (by omega)
  have hrg : Room (k + 3) _ := hr.mono (by omega)
  refine ⟨_, pss_cons (ps_dput hu (pv 1) pe_str (pe_op op_sub (pe_dget hu (pv 1) pe_str (fun _ _ => rfl)) pe_int) rfl)
    (pss_cons (ps_set (i := 5) scGrown.nd rfl (.inl rfl) (pe_call GF.ok hr1 (by rfl) GF.mg GF.kp GF.bd .nil pass0 (pa_cons (pv 2) pa_nil)))
    (C8.pss_cut (ps_set (i := 6) scGrown.nd rfl (.inl rfl) (pe_or (pe_cmpR op_lt (pv 4) pe_int (nomark _)) (pe_or (pe_cmpR op_lt (pe_dget hu (pv 1) pe_str (fun _ _ => rfl)) pe_int (nomark _)) (pe_one (pe_cmpR op_lt (pe_callB call_len_seq (by rfl) mn PySem.boot_len (pa_cons (pe_dget hu (pv 1) pe_str (fun _ _ => rfl)) pa_nil)) pe_int (nomark _))))))
    (C8.pss_cut (ps_if (PW.pt (pw_and (pt_cmpR op_eq (pv 2) pe_str (nomark _)) (pw_and1 (PW.pt (pw_or (pt_val (pv 6)) (pw_or1 (pt_cmpR op_eq (pe_call T.ok hr1 (by rfl) T.mg T.kp T.bd .nil pass0 (pa_cons (pv 0) (pa_cons pe_int pa_nil))) pe_int (nomark _))))))))
      (pss_one (ps_ret (pe_call GL.ok hr3 (by rfl) GL.mg GL.kp GL.bd .nil pass0 (pa_cons (pv 0) (pa_cons (pv 1) (pa_cons (pv 3) pa_nil)))))) pss_nil)
    (pss_cons (ps_if (pt_val (pv 6)) (pss_one (ps_ret (pe_tup (pa_cons pe_str (pa_cons (pe_call GP.ok hr2 (by rfl) GP.mg GP.kp GP.bd .nil pass0 (pa_cons (pv 0) (pa_cons (pe_lst (pa_cons pe_str (pa_cons pe_str (pa_cons pe_str pa_nil)))) pa_nil)))
        (pa_cons (pe_call GL.ok hr3 (by rfl) GL.mg GL.kp GL.bd .nil pass0 (pa_cons (pv 0) (pa_cons (pv 1) (pa_cons (pv 3) pa_nil)))) pa_nil)))))) pss_nil)
    (pss_cons (ps_lock (ps_set (i := 7) scGrown.nd rfl (.inl rfl) (pe_call GP.ok hr2 (by rfl) GP.mg GP.kp GP.bd .nil pass0 (pa_cons (pv 0) (pa_cons (pe_lc (own := [("_law_one", 12)]) (g := gName 12) (by rfl) scGrown.nd (pi_keys (pv 5))
        (blkOk_by (own := [("_law_one", 12)]) (N := ["_law_box_here", "_law_world", "_law_sort", "_law_scope", "_law_deep", "_law_forms_here", "_law_is_small", "_law_head", "_law_found", "_law_slot", "_law_many", "_law_number", "_law_one", "_law_k"]) (sc := defScope sGrown) (by decide +kernel))
        (fun _ _ _ _ _ => pg_name (i := 12) scGrown.nd rfl (Or.inl rfl)) (fun _ _ _ _ _ => pts_one (pt_cmpR (op_notInK (K := K) rfl) (pv 12) (pe_tup (pa_cons pe_str (pa_cons pe_str (pa_cons pe_str pa_nil)))) rfl)) (fun _ _ _ _ _ => pv 12)) pa_nil)))))
    (pss_cons (ps_if (pt_cmpR op_in_seq (pv 7) (pe_tup (pa_cons pe_str (pa_cons pe_str (pa_cons pe_str (pa_cons pe_str pa_nil))))) rfl) (pss_one (ps_ret (pe_call GB.ok (hr.mono (by omega)) (by rfl) GB.mg GB.kp GB.bd .nil pass0 (pa_cons (pv 0) (pa_cons (pv 1) (pa_cons (pv 7) (pa_cons (pv 3) (pa_cons (pv 4) pa_nil)))))))) pss_nil)
    (pss_cons (ps_if (pt_cmpR op_eq (pv 7) pe_str (nomark _)) (pss_one (ps_ret (pe_call GC.ok (hr.mono (by omega)) (by rfl) GC.mg GC.kp GC.bd .nil pass0 (pa_cons (pv 0) (pa_cons (pv 1) (pa_cons (pv 3) (pa_cons (pv 4) pa_nil))))))) pss_nil)
    (pss_cons (ps_set (i := 8) scGrown.nd rfl (.inl rfl) (pe_lst pa_nil))
    (pss_cons (ps_for PassesOwn.never rfl (pi_str (pe_dget hu (pv 5) (pv 7) (fun _ _ => rfl))) (pg_name (i := 9) scGrown.nd rfl (Or.inl rfl))
      (pss_one (ps_if (pt_cmpR op_eq (pv 9) pe_str (nomark _))
        (pss_cons (ps_set (i := 10) scGrown.nd rfl (.inl rfl) (pe_call T.ok hr1 (by rfl) T.mg T.kp T.bd .nil pass0 (pa_cons (pv 0) (pa_cons pe_int pa_nil))))
        (C8.pss_cut (ps_if (PW.pt (pw_and (pt_cmpR op_gt (pe_dget hu (pv 1) pe_str (fun _ _ => rfl)) pe_int (nomark _)) (pw_and1 (pt_cmpR op_eq (pe_call T.ok hr1 (by rfl) T.mg T.kp T.bd .nil pass0 (pa_cons (pv 0) (pa_cons pe_int pa_nil))) pe_int (nomark _)))))
          (pss_one (ps_asg (pe_tup (pa_cons (pe_op op_add pe_int (pe_call T.ok hr1 (by rfl) T.mg T.kp T.bd .nil pass0 (pa_cons (pv 0) (pa_cons pe_int pa_nil)))) (pa_cons pe_int pa_nil))) (pg_tup rfl (pgs_cons (pg_name (i := 10) scGrown.nd rfl (.inl rfl)) (pgs_cons (pg_sub (pv 1) pe_str (set_dict hu)) pgs_nil))))) pss_nil)
        (pss_one (ps_expr (pe_bm PySem.F.plainAttrs_list PySem.F.slot_list_append PySem.F.type_list_append mt_append (pv 8) (pa_cons (pe_callTy call_tuple_of (by rfl) mt b_tup (pa_cons (pe_lc (own := [("_law_k", 13)]) (g := gName 13) (by rfl) scGrown.nd (pi_range1 (by rfl) mr (pa_cons (pv 10) pa_nil))
          (blkOk_by (own := [("_law_k", 13)]) (N := ["_law_box_here", "_law_world", "_law_sort", "_law_scope", "_law_deep", "_law_forms_here", "_law_is_small", "_law_head", "_law_found", "_law_slot", "_law_many", "_law_number", "_law_one", "_law_k"]) (sc := defScope sGrown) (by decide +kernel))
          (fun _ _ _ _ _ => pg_name (i := 13) scGrown.nd rfl (Or.inl rfl)) (fun _ _ _ _ _ => pts_nil)
          (fun _ _ _ _ _ => pe_call G hrg (by rfl) mV F.kp bV .nil pass0 (pa_cons (pv 0) (pa_cons (pv 1) (pa_cons pe_str (pa_cons (pv 3) (pa_cons (pe_op op_sub (pv 4) pe_int) pa_nil))))))) pa_nil)) pa_nil))))))
        (pss_one (ps_if (pt_cmpR op_in_seq (pv 9) (pe_tup (pa_cons pe_str (pa_cons pe_str pa_nil))) rfl)
          (pss_one (ps_expr (pe_bm PySem.F.plainAttrs_list PySem.F.slot_list_append PySem.F.type_list_append mt_append (pv 8) (pa_cons (pe_call G hrg (by rfl) mV F.kp bV .nil pass0 (pa_cons (pv 0) (pa_cons (pv 1) (pa_cons (pv 9) (pa_cons (pv 3) (pa_cons (pe_op op_sub (pv 4) pe_int) pa_nil)))))) pa_nil))))
          (pss_cons (ps_set (i := 11) scGrown.nd rfl (.inl rfl) (pe_ix ix_list (pe_lst (pa_cons (pe_call T.ok hr1 (by rfl) T.mg T.kp T.bd .nil pass0 (pa_cons (pv 0) (pa_cons pe_int pa_nil))) (pa_cons (pe_call T.ok hr1 (by rfl) T.mg T.kp T.bd .nil pass0 (pa_cons (pv 0) (pa_cons pe_int pa_nil))) pa_nil)))
              (pe_op op_fdiv (pe_call T.ok hr1 (by rfl) T.mg T.kp T.bd .nil pass0 (pa_cons (pv 0) (pa_cons pe_int pa_nil))) pe_int) (fun _ _ => rfl)))
          (pss_one (ps_expr (pe_bm PySem.F.plainAttrs_list PySem.F.slot_list_append PySem.F.type_list_append mt_append (pv 8) (pa_cons (pe_dget2 hu (pe_disp (pps_cons pe_str pe_str (pps_cons pe_str pe_str pps_nil)) (by rfl) (by rfl) (fun z => by cases z) (by decide)) (pv 9) (pv 11) ⟨rfl, rfl, rfl, rfl⟩) pa_nil))))))))))
    (pss_one (ps_ret (pe_op op_catT (pe_tup (pa_cons (pv 7) pa_nil)) (pe_callTy call_tuple_of (by rfl) mt b_tup (pa_cons (pv 8) pa_nil)))))))))))))), ?_⟩
  have ask0 := ask
  obtain ⟨hbox, hwo, hla, hcw, hnm, hfm, hnd, hsw, hpre, hrm30, hll, hap1, hap2, hap3, hap4⟩ := ask
  refine ⟨_, rfl, wd, _, rfl, hwo.at.2.2.2.2.2, _, _, rfl, rfl, _, rfl, wd, _, rfl, hwo.room _, ?_⟩
  have wo1 := hwo.setr (r - 1)
  have wne := hwo.ne
  have o1 : Off [p, g, wd, fr] H (upd H wd (.dK (wkv w0 el fr (r - 1)))) := Off.put (by simp)
  have b1 : Box (upd H wd (.dK (wkv w0 el fr (r - 1)))) p g := hbox.put hap2
  have la1 : LsA K (upd H wd (.dK (wkv w0 el fr (r - 1)))) a ls := hla.off (nt4 hbox hwo) hap1 o1
  generalize upd H wd (.dK (wkv w0 el fr (r - 1))) = H1 at wo1 o1 b1 la1
  refine ⟨_, rfl, sortC c, rfl, fun pf H2 s2 hpf e2 => ?_⟩
  rw [sortC_t hc] at e2
  have s2 : Same H1 H2 := s2
  have wo2 := wo1.up s2
  have o2 := o1.trans (Off.of s2)
  have b2 := b1.same s2
  have la2 := la1.up s2
  have npf := fresh4 b1 wo1 hpf
  have sub4 : ∀ b ∈ [p, g], b ∈ [p, g, wd, fr] := fun b hb => by
    simp only [List.mem_cons, List.not_mem_nil, or_false] at hb ⊢
    rcases hb with h | h
    · exact .inl h
    · exact .inr (.inl h)
  have nel : el ∉ [p, g] := fun z => hap4 (by simp only [List.mem_cons, List.not_mem_nil, or_false] at z ⊢; rcases z with z | z; exact .inl z; exact .inr (.inl z))
  have napg : a ∉ [p, g] := fun z => hap1 (sub4 _ z)
  refine ⟨fun σ H3 => ∃ b : Bool, σ = [some (.ref p), some (.ref wd), some (.str (sortC c)), some (.ref a), some (.int deep), some (.ref pf), some (.bl b), none, none, none, none, none, none, none] ∧ H3 = H2 ∧ (b = false → 2 ≤ deep ∧ 2 ≤ r ∧ 4 ≤ F0.length), ?_, ?_⟩
  · refine ⟨_, rfl, _, _, rfl, rfl, _, rfl, ite2 (fun c1 => ⟨true, rfl, rfl, fun z => nomatch z⟩) (fun c1 => ⟨_, rfl, wd, _, rfl, wo2.at.2.2.2.2.2, _, _, rfl, rfl, _, rfl, ite2 (fun c2 => ⟨true, rfl, rfl, fun z => nomatch z⟩) (fun c2 => ⟨_, rfl, wd, _, rfl, wo2.at.1, fr, _, rfl, .inl (SqL.of wo2.fr), _, _, rfl, rfl, _, rfl, rfl, fun c3 => ?_⟩)⟩)⟩
    have c1 := of_decide_eq_false (Bool.eq_false_iff.mpr c1)
    have c2 := of_decide_eq_false (Bool.eq_false_iff.mpr c2)
    have c3 := of_decide_eq_false c3
    rw [List.length_map] at c3
    omega
  rintro σ H3 ⟨b, rfl, rfl, hb⟩
  refine ⟨fun σ H4 => σ = [some (.ref p), some (.ref wd), some (.str (sortC c)), some (.ref a), some (.int deep), some (.ref pf), some (.bl b), none, none, none, none, none, none, none] ∧ Box H4 p g ∧ Off [p, g] H3 H4 ∧ (c = 101 → b = false), ?_, ?_⟩
  · have toleaf : ∀ H4, Box H4 p g → Off [p, g] H3 H4 → c = 101 → ∃ (p' g' : Addr) (wv : V) (a' : Addr) (ls' : List (Str × Str)), [V.ref p, .ref wd, .ref a] = [.ref p', wv, .ref a'] ∧ Box H4 p' g' ∧ LsA K H4 a' ls' ∧ a' ∉ [p', g'] ∧ NmOk ls' ∧ ls'.length ≤ 900 ∧
        ∀ v d H', Box H' p' g' → Off [p', g'] H4 H' → Dp K H' v d → (∀ n cl, Drw n cl 1 (scL ls') 101 d [] 1 3) → Q v H' := fun H4 b4 o4 ec => by
      refine ⟨p, g, .ref wd, a, ls, rfl, b4, la2.off b2.nt napg o4, napg, hnm, by omega, fun v d H5 b5 o5 dd D => ?_⟩
      subst ec
      exact q v d [] 1 F0 (r - 1) H5 b5 (o2.trans ((o4.trans o5).mono sub4)) ((wo2.off b2.nt hap2 hap3 nel o4).off b4.nt hap2 hap3 nel o5) dd (told_leaf D hd1)
    refine ⟨_, rfl, rfl, _, rfl, ?_⟩
    rcases hc with e | e
    · subst e
      refine ieT (by decide +kernel) ?_
      refine ⟨_, rfl, b, rfl, ?_⟩
      cases b with
      | true => exact ⟨_, rfl, _, rfl, _, rfl, toleaf H3 b2 (Off.refl _ _) rfl⟩
      | false =>
        refine ⟨_, rfl, p, g, 5, rfl, b2, by decide, by decide, fun r5 H4 r50 r55 b4 o4 => ⟨rfl, _, rfl, ite2 (fun c1 => ⟨_, rfl, _, rfl, _, rfl, toleaf H4 b4 o4 rfl⟩) (fun c1 => ⟨rfl, b4, o4, fun _ => rfl⟩)⟩⟩
    · subst e
      exact ieF (by decide +kernel) ⟨rfl, b2, Off.refl _ _, fun z => absurd z (by decide)⟩
  rintro σ H4 ⟨rfl, b4, o4, hcb⟩
  have wo4 := wo2.off b2.nt hap2 hap3 nel o4
  have la4 := la2.off b2.nt napg o4
  have o04 : Off [p, g, wd, fr] H H4 := o2.trans (o4.mono sub4)
  have e24 := o4.get e2 (fun z => npf (sub4 _ z))
  refine ⟨_, rfl, b, rfl, ?_⟩
  cases b with
  | true =>
    have c116 : c = 116 := by
      rcases hc with e | e
      · exact absurd (hcb e) (by decide)
      · exact e
    subst c116
    refine ⟨_, rfl, few (by simp), fun L hL => ?_⟩
    have s5 := same_new (o := .lst [.str "integer", .str "atom", .str "tuple"]) hL
    have b5 := b4.same s5
    have nL : L ∉ [p, g] := fun z => fresh4 b4 wo4 hL (sub4 _ z)
    refine ⟨p, g, L, _, rfl, b5, upd_same, nL, by decide, by decide, fun x hx H6 b6 o6 => ?_⟩
    have wo6 := (wo4.up s5).off b5.nt hap2 hap3 nel o6
    refine ⟨_, rfl, _, rfl, _, rfl, p, g, .ref wd, a, ls, rfl, b6, (la4.up s5).off b5.nt napg o6, napg, hnm, by omega, fun v d H7 b7 o7 dd D => ⟨few (by simp), fun T8 hT8 => ?_⟩⟩
    have s8 := same_new (o := .tup [.str "is", x, v]) hT8
    obtain ⟨y, rfl, hy⟩ : ∃ y : Str, x = .str y ∧ (y = "integer" ∨ y = "atom" ∨ y = "tuple") := by
      simp only [List.mem_cons, List.not_mem_nil, or_false] at hx
      rcases hx with e | e | e
      · exact ⟨_, e, .inl rfl⟩
      · exact ⟨_, e, .inr (.inl rfl)⟩
      · exact ⟨_, e, .inr (.inr rfl)⟩
    refine q _ (.tuple [.str "is", .str y, d]) [] 2 F0 (r - 1) _ (b7.same s8) ((o04.trans ((((Off.of s5).trans o6).trans o7).mono sub4)).trans (Off.of s8)) ((wo6.off b6.nt hap2 hap3 nel o7).up s8) (.tup (.inl (.inl upd_same)) (.cons (.str _) (.cons (.str _) (.cons (Dp.up s8 _ _ dd) .nil)))) ?_
    exact told_is D hd1 hy
  | false =>
    obtain ⟨hd2, hr2', hF4⟩ := hb rfl
    refine ⟨pf, .dK (kvL (tblC c)), e24, trivial, fun od => ?_⟩
    refine ⟨_, rfl, _, rfl, pf, od, rfl, .inl ⟨kvL (tblC c), upd_same, fun D hD => ?_⟩⟩
    have npf2 : pf ∉ [p, g] := fun z => npf (sub4 _ z)
    have b4f : Box (upd H4 pf (.frz od (.dK (kvL (tblC c))))) p g := b4.put npf2
    have nDF : D ∉ [p, g] := fun z => by
      obtain ⟨_, _, _, _, y1, y2, _⟩ := b4f.ex
      simp only [List.mem_cons, List.not_mem_nil, or_false] at z
      rcases z with z | z
      · rw [z, y1] at hD; cases hD
      · rw [z, y2] at hD; cases hD
    refine lc_it walk_keys (fun i H5 => H5 D = some (.lst (((keysV (tblC c)).take i).filter fun x => !inV x threeV)) ∧ Same (upd H4 pf (.frz od (.dK (kvL (tblC c))))) (cut [D] H5)) ⟨upd_same, ?_⟩ ?_ ?_ ?_
    · intro b u z
      rw [cut_out (by simp only [List.mem_singleton]; exact ne_of_none z hD), upd_ne (ne_of_none z hD)]
      exact z
    · rintro i H5 hi ⟨g1, g2⟩
      exact cut_same _ _ _ _ (g2 _ _ upd_same)
    · rintro i y H5 H5' hi ⟨g1, g2⟩ ⟨rfl, kk, vv, hk, rfl⟩
      unfold kvL at hk
      rw [List.getElem?_map] at hk
      obtain ⟨⟨hd, sl⟩, hp, ep⟩ := Option.map_eq_some_iff.mp hk
      cases ep
      have tk : (keysV (tblC c)).take (i + 1) = (keysV (tblC c)).take i ++ [V.str hd] := get_take (by unfold keysV; rw [List.getElem?_map, hp]; rfl)
      refine ⟨rfl, _, rfl, few (by simp), fun T1 hT1 => ⟨T1, _, rfl, .inr (.inl (.inl upd_same)), rfl, rfl, _, rfl, ite2 (fun c1 => ?_) (fun c1 => ?_)⟩⟩
      · have c2 : (!inV (V.str hd) threeV) = true := c1
        have q1 : Same H5' (upd H5' T1 (.tup threeV)) := same_new hT1 _
        refine ⟨_, rfl, _, q1 _ _ g1, ?_, ?_, ?_⟩
        · have l1 := List.length_filter_le (fun x => !inV x threeV) ((keysV (tblC c)).take i)
          rw [List.length_take] at l1
          have l2 := (heads3 hc).1
          exact small1000 (by omega)
        · rw [upd_same, tk, List.filter_append]
          simp only [List.filter_cons, c2, if_true, List.filter_nil]
          rfl
        · exact g2.trans ((Off.of q1).trans (Off.put (by simp)))
      · have c2 : (!inV (V.str hd) threeV) = false := Bool.eq_false_iff.mpr c1
        have q1 : Same H5' (upd H5' T1 (.tup threeV)) := same_new hT1 _
        refine ⟨?_, g2.trans (Off.of q1)⟩
        rw [q1 _ _ g1, tk, List.filter_append]
        simp only [List.filter_cons, c2, Bool.false_eq_true, if_false, List.filter_nil, List.append_nil]
    rintro H5 ⟨g1, g2⟩
    rw [List.take_of_length_le (by simp [kvL, keysV])] at g1
    have s45 : Same (upd H4 pf (.frz od (.dK (kvL (tblC c))))) H5 := g2.trans (cut_same _ _)
    have b5 := b4f.same s45
    have hp5 := s45 _ _ (show (upd H4 pf (.frz od (.dK (kvL (tblC c))))) pf = some (.frz od (.dK (kvL (tblC c)))) from upd_same)
    have lh := (heads3 hc).1
    refine ⟨p, g, D, _, rfl, b5, g1, nDF, (heads3 hc).2, ?_, fun x hx H6 b6 o6 => ?_⟩
    · have := List.length_filter_le (fun x => !inV x threeV) (keysV (tblC c))
      omega
    have hp6 := o6.get hp5 npf2
    refine ⟨hp6, ?_⟩
    obtain ⟨mx, mx2⟩ := List.mem_filter.mp hx
    obtain ⟨⟨h, sl⟩, mh, rfl⟩ := List.mem_map.mp mx
    have mx3 : inV (.str h) threeV = false := by
      cases z : inV (.str h) threeV with
      | false => rfl
      | true =>
        simp only [z] at mx2
        cases mx2
    have hnn : h ≠ "name" := (nm3 _ (tblC_all _ mh) mx3).1
    have hni : h ≠ "int" := (nm3 _ (tblC_all _ mh) mx3).2
    have o47 : Off [p, g] H4 (upd H6 pf (.dK (kvL (tblC c)))) := lock_off e24 ((Off.of s45).trans o6)
    have b7 : Box (upd H6 pf (.dK (kvL (tblC c)))) p g := b6.put npf2
    have e27 : (upd H6 pf (.dK (kvL (tblC c)))) pf = some (.dK (kvL (tblC c))) := upd_same
    generalize upd H6 pf (.dK (kvL (tblC c))) = H7 at o47 b7 e27
    have wo7 := wo4.off b4.nt hap2 hap3 nel o47
    have la7 := la4.off b4.nt napg o47
    have o07 : Off [p, g, wd, fr] H H7 := o04.trans (o47.mono sub4)
    have pre7 : Pre F0.length (r - 1) deep := hpre.less (by omega)
    refine ⟨_, rfl, few (by simp), fun T8 hT8 => ⟨T8, _, rfl, .inr (.inl (.inl upd_same)), rfl, rfl, _, rfl, ?_⟩⟩
    have s8 := same_new (o := .tup [.str "let", .str "each", .str "pick", .str "fold"]) hT8
    have b8 := b7.same s8
    have wo8 := wo7.up s8
    have la8 := la7.up s8
    have e28 := s8 _ _ e27
    have o08 := o07.trans (Off.of s8)
    generalize upd H7 T8 (.tup [.str "let", .str "each", .str "pick", .str "fold"]) = H8 at s8 b8 wo8 la8 e28 o08
    have ask8 : Ask K cl H8 p g wd el fr a w0 F0 (r - 1) ls deep := ask0.kid b8 wo8 la8 (Tak.refl F0) pre7 (by omega) (by omega)
    have hpr : Pre F0.length (r - 1 + 1) deep := by rw [show r - 1 + 1 = r by omega]; exact hpre
    have tq : ∀ v d bs z F1 r1 H', Box H' p g → Off [p, g, wd, fr] H8 H' → WdA K H' wd el fr w0 F1 r1 → Dp K H' v d → c = 101 → Told cl F0 F1 (r - 1 + 1) r1 ls deep (deep + 4) 101 d bs z → Q v H' := fun v d bs z F1 r1 H9 b9 o9 wo9 dd9 ec T => by
      rw [show r - 1 + 1 = r by omega] at T
      subst ec
      exact q v d bs z F1 r1 H9 b9 (o08.trans o9) wo9 dd9 T
    refine ite2 (fun c1 => ?_) (fun c1 => ?_)
    · have c2 : inV (.str h) [.str "let", .str "each", .str "pick", .str "fold"] = true := c1
      have hm := (inV4 h).mp c2
      have ec : c = 101 := by
        rcases hc with e | e
        · exact e
        · subst e
          have mh2 : (h, sl) ∈ teL := mh
          have z : ∀ p ∈ teL, p.1 ∉ [("let" : Str), "each", "pick", "fold"] := by decide +kernel
          exact absurd hm (z _ mh2)
      exact ⟨_, rfl, _, rfl, _, rfl, _, rfl, _, rfl, p, g, wd, el, fr, a, w0, F0, r - 1, ls, deep, h, rfl, hm, hd2, by omega, hd7, hF4, by omega, ask8, hpr, fun v d bs z F1 r1 H9 b9 o9 wo9 dd9 T => tq v d bs z F1 r1 H9 b9 o9 wo9 dd9 ec T⟩
    have hnb : h ≠ "let" ∧ h ≠ "each" ∧ h ≠ "pick" ∧ h ≠ "fold" := by
      have c2 : ¬ h ∈ [("let" : Str), "each", "pick", "fold"] := fun z => c1 ((inV4 h).mpr z)
      simp only [List.mem_cons, List.not_mem_nil, or_false, not_or] at c2
      exact c2
    refine ⟨_, rfl, rfl, _, rfl, ?_⟩
    by_cases hcall : h = "call"
    · have ec : c = 101 := by
        rcases hc with e | e
        · exact e
        · subst e
          have mh2 : (h, sl) ∈ teL := mh
          have z : ∀ p ∈ teL, p.1 ≠ "call" := by decide +kernel
          exact absurd hcall (z _ mh2)
      refine ieT hcall ⟨_, rfl, _, rfl, _, rfl, _, rfl, p, g, wd, el, fr, a, w0, F0, r - 1, ls, deep, rfl, hd2, by omega, hd7, hF4, by omega, ask8, hpr, fun v d bs z F1 r1 H9 b9 o9 wo9 dd9 T => tq v d bs z F1 r1 H9 b9 o9 wo9 dd9 ec T⟩
    refine ieF hcall ⟨by decide, fun fl hfl => ?_⟩
    have s9 := same_new (o := .lst []) hfl
    have b9 := b8.same s9
    have wo9 := wo8.up s9
    have la9 := la8.up s9
    have e29 := s9 _ _ e28
    have o09 := o08.trans (Off.of s9)
    have nfl := fresh4 b8 wo8 hfl
    have l9 : (upd H8 fl (.lst [])) fl = some (.lst []) := upd_same
    have hfl0 : H fl = none := o08.free hfl nfl
    have nfla : fl ≠ a := fun e => by
      obtain ⟨pz, ez, _⟩ := la8
      rw [e, ez] at hfl
      cases hfl
    have nflel : fl ≠ el := fun e => by
      obtain ⟨pz, ez, _⟩ := wo8.el
      rw [e, ez] at hfl
      cases hfl
    generalize upd H8 fl (.lst []) = H9 at s9 b9 wo9 la9 e29 o09 l9
    have dg := DGet.k (k := (Sum.inr h : Key)) e29
    rw [val_tbl _ mh] at dg
    have M0 := mid_start (l := (F0.length : Int)) (r := r) (d := deep) (p := 0) (by omega) (by omega) hr2' (by omega)
    rw [show (F0.length : Int) - 0 = F0.length by omega] at M0
    have nFd : F0.Nodup := hnd.sublist (List.sublist_append_left _ _)
    refine ⟨_, rfl, _, rfl, pf, _, rfl, dg, sl, rfl, ?_⟩
    refine for_it walk_str (fun i σ H10 => ∃ o9 o10 o11 xs args rows Fj rj, ∃ m : Nat, σ = [some (.ref p), some (.ref wd), some (.str (sortC c)), some (.ref a), some (.int deep), some (.ref pf), some (.bl false), some (.str h), some (.ref fl), o9, o10, o11, none, none] ∧ xs.length = i ∧ H10 fl = some (.lst xs) ∧ DpAll K H10 xs args ∧
        Slo cl ls (deep - 1 + 4) F0 Fj (r - 1) rj (sl.cps.toList.take i) args rows ∧ Box H10 p g ∧ WdA K H10 wd el fr w0 Fj rj ∧ LsA K H10 a ls ∧ Off [p, g, wd, fr] H H10 ∧ Mid F0.length Fj.length r rj deep 0 0 m)
      ⟨none, none, none, [], [], [], F0, r - 1, 0, rfl, rfl, l9, .nil, Slo.nil, b9, wo9, la9, o09, M0⟩ (fun _ _ _ _ _ => trivial) ?_ ?_
    · rintro i y σ H10 H10' hi ⟨q9, q10, q11, xs, args, rows, Fj, rj, m, rfl, lx, hx, dx, S, b10, wo10, la10, o10, M⟩ ⟨rfl, cc, hcc, rfl⟩
      have hc2 : sl.cps.toList[i]? = some cc := by simpa using hcc
      have tk := get_take hc2
      have li := (List.getElem?_eq_some_iff.mp hc2).1
      have lsl := (cstq_all _ (tblC_all _ mh)).2
      simp only at lsl
      have cmem := slot_all _ (tblC_all _ mh) cc (List.mem_of_getElem? hc2)
      have nt10 := nt4 b10 wo10
      -- one more argument
      have more : ∀ (v : V) (d : PyData) (rows2 : List (List Str × Nat)) (Fk : List Str) (rk : Int) (m2 : Nat) (H11 : Hp) (z10 z11 : Option V), H11 fl = some (.lst xs) → DpAll K H11 xs args → Dp K H11 v d → nl d = true → Slo cl ls (deep - 1 + 4) F0 Fk (r - 1) rk (sl.cps.toList.take i ++ [cc]) (args ++ [d]) rows2 → Box H11 p g → WdA K H11 wd el fr w0 Fk rk → LsA K H11 a ls → Off [p, g, wd, fr] H H11 → Mid F0.length Fk.length r rk deep 0 0 m2 →
          ∃ o9 o10 o11 xs2 args2 rows2 Fj rj, ∃ m : Nat, [some (V.ref p), some (.ref wd), some (.str (sortC c)), some (.ref a), some (.int deep), some (.ref pf), some (.bl false), some (.str h), some (.ref fl), some (V.str ⟨#[cc]⟩), z10, z11, none, none] = [some (V.ref p), some (.ref wd), some (.str (sortC c)), some (.ref a), some (.int deep), some (.ref pf), some (.bl false), some (.str h), some (.ref fl), o9, o10, o11, none, none] ∧ xs2.length = i + 1 ∧ (upd H11 fl (.lst (xs ++ [v]))) fl = some (.lst xs2) ∧ DpAll K (upd H11 fl (.lst (xs ++ [v]))) xs2 args2 ∧
        Slo cl ls (deep - 1 + 4) F0 Fj (r - 1) rj (sl.cps.toList.take (i + 1)) args2 rows2 ∧ Box (upd H11 fl (.lst (xs ++ [v]))) p g ∧ WdA K (upd H11 fl (.lst (xs ++ [v]))) wd el fr w0 Fj rj ∧ LsA K (upd H11 fl (.lst (xs ++ [v]))) a ls ∧ Off [p, g, wd, fr] H (upd H11 fl (.lst (xs ++ [v]))) ∧ Mid F0.length Fj.length r rj deep 0 0 m := by
        intro v d rows2 Fk rk m2 H11 z10 z11 a1 a2 a3 a4 a5 a6 a7 a8 a9 a10
        have ntF : NT [fl] H11 := .cons (nt_lst a1) .nil
        have pF : Off [fl] H11 (upd H11 fl (.lst (xs ++ [v]))) := Off.put (by simp)
        refine ⟨_, _, _, xs ++ [v], args ++ [d], rows2, Fk, rk, m2, rfl, by rw [List.length_append, lx]; rfl, upd_same, DpAll.app (DpAll.off a2 ntF S.nl pF) (.cons (Dp.off a3 ntF a4 pF) .nil), by rw [tk]; exact a5, a6.put (fun z => nfl (sub4 _ z)), ?_, ?_, off_new a9 nfl hfl0, a10⟩
        · refine a7.off ntF (fun z => nfl ?_) (fun z => nfl ?_) (fun z => nflel (List.mem_singleton.mp z).symm) pF
          · rw [← List.mem_singleton.mp z]; simp
          · rw [← List.mem_singleton.mp z]; simp
        · exact a8.off ntF (fun z => nfla (List.mem_singleton.mp z).symm) pF
      refine ⟨_, rfl, rfl, _, rfl, ite2 (fun c1 => ?_) (fun c1 => ?_)⟩
      · have c115 : cc = 115 := (sg_s cc).mp (of_decide_eq_true c1)
        subst c115
        refine ⟨_, rfl, p, g, 4, rfl, b10, by decide, by decide, fun m1 H11 m10 m14 b11 o11 => ?_⟩
        have wo11 := wo10.off b10.nt hap2 hap3 nel o11
        have o1011 : Off [p, g, wd, fr] H10' H11 := o11.mono sub4
        refine ⟨fun σ H12 => ∃ (mm : Int) (r2 : Int), σ = [some (.ref p), some (.ref wd), some (.str (sortC c)), some (.ref a), some (.int deep), some (.ref pf), some (.bl false), some (.str h), some (.ref fl), some (.str ⟨#[115]⟩), some (.int mm), q11, none, none] ∧ 0 ≤ mm ∧ ((mm ≤ 3 ∧ r2 = rj) ∨ (mm ≤ 12 ∧ r2 = 14 ∧ 14 < rj)) ∧
            Box H12 p g ∧ WdA K H12 wd el fr w0 Fj r2 ∧ Off [p, g, wd, fr] H10' H12, ?_, ?_⟩
        · have old : ∀ H12, Box H12 p g → Off [p, g] H11 H12 → ∃ (mm : Int) (r2 : Int), [some (V.ref p), some (.ref wd), some (.str (sortC c)), some (.ref a), some (.int deep), some (.ref pf), some (.bl false), some (.str h), some (.ref fl), some (.str ⟨#[115]⟩), some (.int m1), q11, none, none] = [some (V.ref p), some (.ref wd), some (.str (sortC c)), some (.ref a), some (.int deep), some (.ref pf), some (.bl false), some (.str h), some (.ref fl), some (.str ⟨#[115]⟩), some (.int mm), q11, none, none] ∧ 0 ≤ mm ∧ ((mm ≤ 3 ∧ r2 = rj) ∨ (mm ≤ 12 ∧ r2 = 14 ∧ 14 < rj)) ∧
            Box H12 p g ∧ WdA K H12 wd el fr w0 Fj r2 ∧ Off [p, g, wd, fr] H10' H12 := fun H12 b12 o12 => ⟨m1, rj, rfl, m10, .inl ⟨by omega, rfl⟩, b12, wo11.off b11.nt hap2 hap3 nel o12, o1011.trans (o12.mono sub4)⟩
          refine ⟨_, rfl, wd, _, rfl, wo11.at.2.2.2.2.2, _, _, rfl, rfl, _, rfl, and_same (fun e1 G => ?_) (old H11 b11 (Off.refl _ _))⟩
          refine ⟨_, rfl, p, g, 6, rfl, b11, by decide, by decide, fun u1 H12 u10 u16 b12 o12 => ⟨rfl, _, rfl, and_same (fun e2 G => ?_) (old H12 b12 o12)⟩⟩
          refine ⟨_, rfl, p, g, 4, rfl, b12, by decide, by decide, fun u2 H13 u20 u24 b13 o13 => ⟨_, _, rfl, rfl, few (by simp), fun T hT => ?_⟩⟩
          have wo13 := ((wo11.off b11.nt hap2 hap3 nel o12).off b12.nt hap2 hap3 nel o13)
          have s14 := same_new (o := .tup [.int (9 + u2), .int 14]) hT
          have wo14 := wo13.up s14
          have b14 := b13.same s14
          refine ⟨T, _, rfl, .inl (.inl upd_same), rfl, _, _, rfl, _, _, rfl, _, rfl, wd, _, rfl, wo14.room 14, rfl, ?_⟩
          have r14 := of_decide_eq_true e1
          exact ⟨9 + u2, 14, rfl, by omega, .inr ⟨by omega, rfl, r14⟩, b14.put hap2, wo14.setr 14, (o1011.trans ((o12.trans o13).mono sub4)).trans ((Off.of s14).trans (Off.put (by simp)))⟩
        rintro σ H12 ⟨mm, r2, rfl, mm0, mmc, b12, wo12, o12⟩
        have hx12 := o12.get hx nfl
        refine ⟨_, rfl, .inl ⟨rfl, _, SqL.of hx12⟩, _, rfl, mm, rfl, by omega, by omega, fun D2 hD2 => ?_⟩
        have nD2 := fresh4 b12 wo12 hD2
        have s13 := same_new (o := .lst []) hD2
        have nt12 := nt4 b12 wo12
        have la12 := la10.off nt10 hap1 o12
        have M2 := M.drop (r' := r2) (by rcases mmc with ⟨_, e⟩ | ⟨_, e, e3⟩ <;> omega)
        have nDel : D2 ≠ el := fun e => by
          obtain ⟨pz, ez, _⟩ := wo12.el
          rw [e, ez] at hD2
          cases hD2
        refine lc_range (lo := 0) (n := mm.toNat) (fun j H13 => ∃ vs es rows2 Fk rk, vs.length = j ∧ es.length = j ∧ H13 D2 = some (.lst vs) ∧ DpAll K H13 vs es ∧ Kids cl ls (deep - 1 + 4) Fj Fk r2 rk es rows2 ∧ Box H13 p g ∧ WdA K H13 wd el fr w0 Fk rk ∧ Off [p, g, wd, fr] H12 H13 ∧ Mid F0.length Fk.length r rk deep 0 0 ((m : Int) + j))
          ⟨[], [], [], Fj, r2, rfl, rfl, upd_same, .nil, Kids.nil, b12.same s13, wo12.up s13, Off.of s13, by simpa using M2⟩ ?_ ?_
        · rintro j H13 hj ⟨vs, es, rows2, Fk, rk, l1, l2, k1, k2, k3, k4, k5, k6, k7⟩
          have P1 := k7.pre hpre hr2' (by omega)
          rw [show (deep : Int) - 1 = ((deep - 1 : Nat) : Int) by omega] at P1
          have la13 := la12.off nt12 hap1 k6
          have rk1 := k7.rr
          refine ⟨rfl, _, rfl, _, rfl, _, rfl, _, rfl, _, _, rfl, rfl, p, g, wd, el, fr, a, w0, Fk, rk, ls, deep - 1, 101, ?_, .inl rfl, by omega, by omega, by omega, ask0.kid k4 k5 la13 (Tak.app nFd S.tk k3.tk) P1 (by omega) (by omega), fun v d bs z Fn rn H14 b14 o14 wo14 dd14 T1 => ?_⟩
          · rw [show ((deep - 1 : Nat) : Int) = (deep : Int) - 1 by omega]
            rfl
          have hF := o14.get k1 nD2
          have ntF : NT [D2] H14 := .cons (nt_lst hF) .nil
          have pF : Off [D2] H14 (upd H14 D2 (.lst (vs ++ [v]))) := Off.put (by simp)
          have M3 := k7.kid (by have z := T1.po; rw [show ((deep - 1 : Nat) : Int) = (deep : Int) - 1 by omega] at z; exact z) (by omega) (by omega)
          refine ⟨vs, hF, few (by omega), vs ++ [v], es ++ [d], rows2 ++ [(bs, z)], Fn, rn, by rw [List.length_append, l1]; rfl, by rw [List.length_append, l2]; rfl, upd_same, DpAll.app (DpAll.off (DpAll.off k2 (nt4 k4 k5) k3.nl o14) ntF k3.nl pF) (.cons (Dp.off dd14 ntF T1.nl pF) .nil), k3.snoc (S.tk.nd nFd) T1, b14.put (fun z => nD2 (sub4 _ z)), ?_, off_new (k6.trans o14) nD2 hD2, by rw [show (m : Int) + ((j + 1 : Nat) : Int) = (m : Int) + j + 1 by omega]; exact M3⟩
          refine wo14.off ntF (fun z => nD2 ?_) (fun z => nD2 ?_) (fun z => nDel (List.mem_singleton.mp z).symm) pF
          · rw [← List.mem_singleton.mp z]; simp
          · rw [← List.mem_singleton.mp z]; simp
        · rintro H13 ⟨vs, es, rows2, Fk, rk, l1, l2, k1, k2, k3, k4, k5, k6, k7⟩
          refine ⟨D2, vs, rfl, .inl ⟨SqL.of k1, fun t ht => ?_⟩⟩
          have r1 := same_new (o := .tup vs) ht
          have hx13 := r1 _ _ (k6.get hx12 nfl)
          have om : Off [p, g, wd, fr] H10' (upd H13 t (.tup vs)) := (o12.trans k6).trans (Off.of r1)
          have eml : es.length ≤ 12 := by rcases mmc with ⟨_, e⟩ | ⟨_, e, e3⟩ <;> omega
          refine ⟨fl, xs, .ref t, rfl, rfl, hx13, few (by omega), more _ (.tuple es) (rows ++ rows2) Fk rk (m + mm.toNat) _ _ _ hx13 (DpAll.off dx nt10 S.nl om) (.tup (.inl (.inl upd_same)) (DpAll.off k2 (l := []) (fun _ z => nomatch z) k3.nl (Off.of r1))) (by simp only [nl, k3.nl]) (S.trees nFd k3 ?_) (k4.same r1) (k5.up r1) (la10.off nt10 hap1 om) (o10.trans om) (by rw [show ((m + mm.toNat : Nat) : Int) = (m : Int) + (mm.toNat : Nat) by omega]; exact k7)⟩
          rcases mmc with ⟨e1, e2⟩ | ⟨e1, e2, e3⟩
          · exact .inl ⟨by omega, e2⟩
          · exact .inr ⟨by omega, e2, e3⟩
      · have n115 : ¬ cc = 115 := fun z => c1 (decide_eq_true ((sg_s cc).mpr z))
        refine ⟨_, rfl, few (by simp), fun T1 hT1 => ⟨T1, _, rfl, .inr (.inl (.inl upd_same)), rfl, rfl, _, rfl, ?_⟩⟩
        have s11 : Same H10' (upd H10' T1 (.tup [.str "e", .str "t"])) := same_new hT1 _
        have b11 := b10.same s11
        have wo11 := wo10.up s11
        have la11 := la10.up s11
        have hx11 := s11 _ _ hx
        have o11 := o10.trans (Off.of s11)
        have dx11 := DpAll.off dx (l := []) (fun _ z => nomatch z) S.nl (Off.of s11)
        generalize upd H10' T1 (.tup [.str "e", .str "t"]) = H11 at s11 b11 wo11 la11 hx11 o11 dx11
        have nt11 := nt4 b11 wo11
        refine ite2 (fun c2 => ?_) (fun c2 => ?_)
        · have c3 : cc = 101 ∨ cc = 116 := (inV_et cc).mp c2
          have esc : (⟨#[cc]⟩ : Str) = sortC cc := by rcases c3 with e | e <;> subst e <;> decide +kernel
          have P1 := M.pre hpre hr2' (by omega)
          rw [show (deep : Int) - 1 = ((deep - 1 : Nat) : Int) by omega] at P1
          have rj1 := M.rr
          refine ⟨_, rfl, .inl ⟨rfl, _, SqL.of hx11⟩, _, rfl, _, rfl, _, rfl, _, rfl, _, rfl, _, _, rfl, rfl, p, g, wd, el, fr, a, w0, Fj, rj, ls, deep - 1, cc, ?_, c3, by omega, by omega, by omega, ask0.kid b11 wo11 la11 S.tk P1 (by omega) (by omega), fun v d bs z Fk rk H12 b12 o12 wo12 dd12 T1 => ?_⟩
          · rw [show ((deep - 1 : Nat) : Int) = (deep : Int) - 1 by omega, ← esc]
            rfl
          have hx12 := o12.get hx11 nfl
          have M1 := M.kid (by have z := T1.po; rw [show ((deep - 1 : Nat) : Int) = (deep : Int) - 1 by omega] at z; exact z) (by omega) (by omega)
          exact ⟨fl, xs, v, rfl, rfl, hx12, few (by omega), more v d (rows ++ [(bs, z)]) Fk rk (m + 1) H12 _ _ hx12 (DpAll.off dx11 nt11 S.nl o12) dd12 T1.nl (S.tree nFd c3 T1) b12 wo12 (la11.off nt11 hap1 o12) (o11.trans o12) M1⟩
        · have c3 : ¬ (cc = 101 ∨ cc = 116) := fun z => c2 ((inV_et cc).mpr z)
          refine ⟨_, rfl, p, g, 4, rfl, b11, by decide, by decide, fun u1 H12 u10 u11 b12 o12 => ⟨_, rfl, p, g, 21, rfl, b12, by decide, by decide, fun u2 H13 u20 u21 b13 o13 => ⟨few (by simp), fun L hL => ?_⟩⟩⟩
          have s14 := same_new (o := .lst [.int u1, .int u2]) hL
          have b14 := b13.same s14
          have nLpg : L ∉ [p, g] := fun z => by
            obtain ⟨_, _, _, _, y1, y2, _⟩ := b13.ex
            simp only [List.mem_cons, List.not_mem_nil, or_false] at z
            rcases z with z | z
            · rw [z, y1] at hL; cases hL
            · rw [z, y2] at hL; cases hL
          have hL14 : (upd H13 L (.lst [.int u1, .int u2])) L = some (.lst [.int u1, .int u2]) := upd_same
          have o1114 : Off [p, g] H11 (upd H13 L (.lst [.int u1, .int u2])) := (o12.trans o13).trans (Off.of s14)
          generalize upd H13 L (.lst [.int u1, .int u2]) = H14 at s14 b14 hL14 o1114
          refine ⟨_, rfl, p, g, 3, rfl, b14, by decide, by decide, fun u3 H15 u30 u31 b15 o15 => ⟨_, _, rfl, rfl, ⟨by decide, by decide⟩, ?_⟩⟩
          obtain ⟨x, hx1, mx, _⟩ := atI_ok (xs := [V.int u1, V.int u2]) (r := u3 / 2) (by omega) (by simp only [List.length_cons, List.length_nil]; omega)
          obtain ⟨mm, rfl, m0, m12⟩ : ∃ mm : Int, x = .int mm ∧ 0 ≤ mm ∧ mm < 100 := by
            simp only [List.mem_cons, List.not_mem_nil, or_false] at mx
            rcases mx with z | z
            · exact ⟨_, z, by omega, by omega⟩
            · exact ⟨_, z, by omega, by omega⟩
          refine ⟨L, _, _, .int mm, rfl, rfl, SqL.of (o15.get hL14 nLpg), hx1, ?_⟩
          have o1115 := o1114.trans o15
          have hx15 := o1115.get hx11 (fun z => nfl (sub4 _ z))
          refine ⟨_, rfl, .inl ⟨rfl, _, SqL.of hx15⟩, fun D hD => ?_⟩
          have nm2 : mergeK [] (kvL [(("n" : Str), ("x" : Str)), ("w", "tuple")]) = kvL [(("n" : Str), ("x" : Str)), ("w", "tuple")] := merge_kvL (by decide +kernel)
          refine ⟨upd_same, kvL [(("n" : Str), ("x" : Str)), ("w", "tuple")], rfl, by decide, ?_⟩
          rw [nm2]
          have s16 : Same H15 (upd (upd H15 D (.dK [])) D (.dK (kvL [(("n" : Str), ("x" : Str)), ("w", "tuple")]))) := fun b u z => by
            rw [upd_ne (ne_of_none z hD), upd_ne (ne_of_none z hD)]
            exact z
          have hD16 : (upd (upd H15 D (.dK [])) D (.dK (kvL [(("n" : Str), ("x" : Str)), ("w", "tuple")]))) D = some (.dK (kvL [(("n" : Str), ("x" : Str)), ("w", "tuple")])) := upd_same
          generalize upd (upd H15 D (.dK [])) D (.dK (kvL [(("n" : Str), ("x" : Str)), ("w", "tuple")])) = H16 at s16 hD16
          have hx16 := s16 _ _ hx15
          have o1116 : Off [p, g] H11 H16 := o1115.trans (Off.of s16)
          have o16m : Off [p, g, wd, fr] H11 H16 := o1116.mono sub4
          obtain ⟨q1, q2, q3, q4, q5⟩ := gnV_fit cmem (fun z => c3 (.inl z)) (fun z => c3 (.inr z)) n115 m0 m12
          exact ⟨D, rfl, isd_k hD16, _, rfl, _, rfl, _, DGet.k (k := Sum.inr (⟨#[cc]⟩ : Str)) hD16, fl, xs, _, rfl, rfl, hx16, few (by omega), more _ (gnV cc mm) rows Fj rj m H16 _ _ hx16 (DpAll.off dx11 nt11 S.nl o16m) (gn_get K H16) q5 (S.leaf q1 (fun z => c3 (.inl z)) (fun z => c3 (.inr z)) n115 q2 q3 q4 q5)
            (b15.same s16) (wo11.off b11.nt hap2 hap3 nel o1116) (la11.off nt11 hap1 o16m) (o11.trans o16m) M⟩
    · rintro σ H10 ⟨q9, q10, q11, xs, args, rows, Fj, rj, m, rfl, lx, hx, dx, S, b10, wo10, la10, o10, M⟩
      have ez : sl.cps.toList.take sl.cps.size = sl.cps.toList := List.take_of_length_le (by simp)
      rw [ez] at S
      have lsl := (cstq_all _ (tblC_all _ mh)).2
      simp only at lsl
      have lxs : xs.length = sl.cps.toList.length := by rw [lx]; simp
      have xne : xs ≠ [] := fun z => slc_ne _ (tblC_all _ mh) (List.length_eq_zero_iff.mp (by rw [← lxs, z]; rfl))
      refine ⟨_, rfl, few (by simp), fun t1 ht1 => ⟨_, rfl, fl, xs, rfl, .inl ⟨SqL.of ((same_new ht1 _) _ _ hx), fun t2 ht2 => ?_⟩⟩⟩
      have r1 : Same H10 (upd H10 t1 (.tup [.str h])) := same_new ht1 _
      have r2 := r1.trans (same_new (o := .tup xs) ht2)
      have n12 : t1 ≠ t2 := ne_of_none upd_same ht2
      refine ⟨t1, t2, [.str h], xs, rfl, rfl, .inl (.inl (by rw [upd_ne n12]; exact upd_same)), .inl (.inl upd_same), by simp, few (by simp only [List.length_cons, List.length_nil]; omega), fun z => absurd z xne, fun _ t3 ht3 => ?_⟩
      have r3 := r2.trans (same_new (o := .tup ([V.str h] ++ xs)) ht3)
      have dT := DpAll.off dx (l := []) (fun _ z => nomatch z) S.nl (Off.of r3)
      refine q (.ref t3) (.tuple (.str h :: args)) (rows.flatMap (·.1)) (1 + (rows.map (·.2)).sum) Fj rj _ (b10.same r3) (o10.trans (Off.of r3)) (wo10.up r3) (.tup (.inl (.inl upd_same)) (.cons (.str h) dT)) ?_
      exact told_slots hd2 hr2' (by omega) hc mh ⟨hni, hnn, hcall, hnb⟩ S (M.post (by omega) (by omega) (by omega) (by omega) (by omega) (by omega))
end
/-! trees drawn: levels; definitions -/
theorem inSlot_nod (k c : Nat) (d : PyData) : ((inSlot k c d).map fun p => nod p.2).sum ≤ nod d := by
  unfold inSlot
  split
  · cases d with
    | tuple es =>
      have key : ∀ (es : List PyData) (j : Nat), ((((es.zipIdx j).map fun p => ([(k : Int), (p.2 : Int)], p.1)).map fun p => nod p.2).sum) = nods es := fun es => by
        induction es with
        | nil => exact fun j => rfl
        | cons e es ih =>
          intro j
          simp only [List.zipIdx_cons, List.map_cons, List.sum_cons, nods]
          rw [ih (j + 1)]
      show ((((es.zipIdx).map fun p => ([(k : Int), (p.2 : Int)], p.1)).map fun p => nod p.2).sum) ≤ _
      rw [key es 0]
      simp only [nod]
      omega
    | _ => simp
  · split
    · simp
    · simp
theorem in3Slot_nod (k c : Nat) (d : PyData) : ((in3Slot k c d).map fun p => nod p.2.1).sum ≤ nod d := by
  unfold in3Slot
  rw [List.map_map]
  exact inSlot_nod k c d
theorem in3_nod : ∀ (k : Nat) (cs : List Nat) (ds : List PyData), ((in3 k cs ds).map fun p => nod p.2.1).sum ≤ nods ds
  | k, c :: cs, d :: ds => by
    have h1 := in3Slot_nod k c d
    have h2 := in3_nod (k + 1) cs ds
    simp only [in3, List.map_append, List.sum_append, nods]
    omega
  | _, [], _ => by simp [in3]
  | _, _ :: _, [] => by simp [in3]
theorem Wt.zn {n : Nat} {cl : Cl} : ∀ {f : Nat} {sc : Scp} {c : Nat} {d : PyData} {bs : List Str} {z : Nat}, Wt n cl f sc c d bs z → z ≤ nod d
  | 0, _, _, _, _, _, h => h.elim
  | f + 1, sc, c, d, bs, z, h => by
    obtain ⟨h0, sl, args, rows, fo, wd, pr, e1, e2⟩ := h
    have key : ∀ {rows : List (List Str × Nat)} {ks : List (List Int × PyData × Nat)}, Paired (fun (r : List Str × Nat) (p : List Int × PyData × Nat) => ∃ sc', ScIn n sc h0 args p.1 sc' ∧ Wt n cl f sc' p.2.2 p.2.1 r.1 r.2) rows ks → (rows.map (·.2)).sum ≤ (ks.map fun p => nod p.2.1).sum := fun {rows ks} hp => by
      induction hp with
      | nil => exact Nat.le_refl _
      | cons hh _ ih =>
        obtain ⟨_, _, w⟩ := hh
        have := w.zn
        simp only [List.map_cons, List.sum_cons]
        omega
    have k1 := key pr
    have k2 := in3_nod 1 sl.cps.toList args
    rw [e2, fo.e]
    simp only [nod, nods]
    omega
def lsOf : List Str → Nat → Option Nat → List (Str × Str)
  | [], _, _ => []
  | x :: xs, i, fl => (x, ownW fl i) :: lsOf xs (i + 1) fl
theorem lsOf_fst : ∀ (xs : List Str) (i : Nat) (fl : Option Nat), (lsOf xs i fl).map (·.1) = xs
  | [], _, _ => rfl
  | x :: xs, i, fl => by rw [lsOf, List.map_cons, lsOf_fst xs (i + 1) fl]
theorem lsOf_len (xs : List Str) (i : Nat) (fl : Option Nat) : (lsOf xs i fl).length = xs.length := by
  rw [← List.length_map (f := (·.1)), lsOf_fst]
theorem lsOf_snoc : ∀ (xs : List Str) (i : Nat) (fl : Option Nat) (x : Str), lsOf (xs ++ [x]) i fl = lsOf xs i fl ++ [(x, ownW fl (i + xs.length))]
  | [], i, fl, x => by simp [lsOf]
  | y :: xs, i, fl, x => by
    rw [List.cons_append, lsOf, lsOf_snoc xs (i + 1) fl x, lsOf, List.cons_append, List.length_cons, show i + 1 + xs.length = i + (xs.length + 1) by omega]
theorem lsOf_sc : ∀ (xs : List Str) (i : Nat) (fl : Option Nat) (sc : Scp) (y : Str), xs.Nodup → (lsOf xs i fl).foldl (fun sc p => updS sc p.1 p.2) sc y = (match scF xs i fl y with | some s => some s | none => sc y)
  | [], _, _, _, _, _ => rfl
  | x :: xs, i, fl, sc, y, nd => by
    rw [List.nodup_cons] at nd
    show (lsOf xs (i + 1) fl).foldl (fun sc p => updS sc p.1 p.2) (updS sc x (ownW fl i)) y = _
    rw [lsOf_sc xs (i + 1) fl _ y nd.2]
    by_cases e : y = x
    · rw [e]
      have z : scF xs (i + 1) fl x = none := scF_none nd.1
      have z0 : scF (x :: xs) i fl x = some (ownW fl i) := by
        show (if x = x then _ else _) = _
        rw [if_pos rfl]
      rw [z, z0]
      unfold updS
      rw [if_pos rfl]
    · have z : scF (x :: xs) i fl y = scF xs (i + 1) fl y := by
        show (if y = x then _ else _) = _
        rw [if_neg e]
      rw [z]
      unfold updS
      rw [if_neg e]
theorem scL_of {xs : List Str} {fl : Option Nat} (nd : xs.Nodup) : scL (lsOf xs 0 fl) = scF xs 0 fl := by
  funext y
  unfold scL
  rw [lsOf_sc xs 0 fl _ y nd]
  cases scF xs 0 fl y <;> rfl
theorem ownW_w (fl : Option Nat) (i : Nat) : StW (ownW fl i) := by
  unfold ownW
  split
  · exact .inr (.inl rfl)
  · exact .inl rfl
/-- a drawn definition, behind others -/
structure DfD (prev : List Df) (d : Df) : Prop where
  ok : DfOk 12 prev d
  nd : nod d.body ≤ 640
  gd : gd d.body = true
  dp : d.body.depth ≤ 30
  lp : d.ps.length ≤ 4
  ni : PyData.eqv d.body d77 = false
theorem dfd_of {prev : List Df} {d : Df} {F bs : List Str} {f z : Nat} (hnm : isNm d.nm = true ∧ gd (.str d.nm) = true) (hnew : ∀ e ∈ prev, e.nm ≠ d.nm) (hps : ∀ y ∈ d.ps, isNm y = true ∧ gd (.str y) = true) (hfl : ∀ j, d.falls = some j → j < d.ps.length) (hl : d.ps.length ≤ 4)
    (nd : (F ++ d.ps).Nodup) (wt : Wt 12 (clOf prev d) f (scL (lsOf d.ps 0 d.falls)) 101 d.body bs z) (hf : f ≤ 12) (tk : ∃ F1, Tak F F1 bs) (nn : nod d.body ≤ 640) (g : gd d.body = true) (l : nl d.body = true) (dp : d.body.depth ≤ 30) (ni : PyData.eqv d.body d77 = false) : DfD prev d := by
  have nps := (List.nodup_append.mp nd).2.1
  rw [scL_of nps] at wt
  obtain ⟨F1, tk, eF, nb, sb⟩ := tk
  have zn := wt.zn
  refine ⟨⟨hnm, hnew, hps, nps, by omega, hfl, l, f, bs, z, wt, by omega, by omega, by omega, nb, fun x hx hp => ?_⟩, nn, g, dp, hl, ni⟩
  exact (List.nodup_append.mp nd).2.2 x (by rw [eF]; exact List.mem_append_right _ (sb x hx)) x hp rfl
def eldOf (prev : List Df) : List (Str × Nat) := prev.map fun d => (d.nm, d.ps.length)
theorem find_df {prev : List Df} (nd : (prev.map (·.nm)).Nodup) {d : Df} (h : d ∈ prev) : prev.find? (fun e => decide (e.nm = d.nm)) = some d := by
  induction prev with
  | nil => cases h
  | cons e prev ih =>
    rw [List.map_cons, List.nodup_cons] at nd
    rw [List.find?_cons]
    by_cases z : e.nm = d.nm
    · rw [decide_eq_true z]
      rcases List.mem_cons.mp h with h | h
      · rw [h]
      · exact absurd (List.mem_map.mpr ⟨d, h, z.symm⟩) nd.1
    · rw [decide_eq_false z]
      rcases List.mem_cons.mp h with h | h
      · exact absurd (by rw [h]) z
      · exact ih nd.2 h
/-- drawn definitions -/
structure DfsD (dfs : List Df) : Prop where
  at_ : ∀ (i : Nat) (d : Df), dfs[i]? = some d → DfD (dfs.take i) d
  le : dfs.length ≤ 6
theorem DfsD.ok {dfs : List Df} (h : DfsD dfs) : DfsOk 12 dfs := ⟨by have := h.le; omega, fun i d e => (h.at_ i d e).ok⟩
theorem DfsD.nd {dfs : List Df} (h : DfsD dfs) : (dfs.map (·.nm)).Nodup := names_nodup h.ok.ok
theorem DfsD.mem {dfs : List Df} (h : DfsD dfs) {d : Df} (hd : d ∈ dfs) : isNm d.nm = true ∧ Rl.gd (.str d.nm) = true ∧ d.ps.length ≤ 4 := by
  obtain ⟨i, hi⟩ := List.mem_iff_getElem?.mp hd
  have z := h.at_ i d hi
  exact ⟨z.ok.nm.1, z.ok.nm.2, z.lp⟩
theorem DfsD.snoc {dfs : List Df} {d : Df} (h : DfsD dfs) (hd : DfD dfs d) (hl : dfs.length < 6) : DfsD (dfs ++ [d]) := by
  refine ⟨fun i e he => ?_, by rw [List.length_append, List.length_singleton]; omega⟩
  by_cases z : i < dfs.length
  · rw [List.getElem?_append_left z] at he
    rw [List.take_append_of_le_length (Nat.le_of_lt z)]
    exact h.at_ i e he
  · rw [List.getElem?_append_right (by omega)] at he
    have z2 : i - dfs.length = 0 := by
      have := (List.getElem?_eq_some_iff.mp he).1
      simp only [List.length_singleton] at this
      omega
    rw [z2] at he
    simp only [List.getElem?_cons_zero, Option.some.injEq] at he
    subst he
    have e2 : i = dfs.length := by omega
    subst e2
    rw [List.take_left]
    exact hd
theorem DfsD.less {dfs : List Df} (h : DfsD dfs) (k : Nat) : DfsD (dfs.take k) := by
  refine ⟨fun i d e => ?_, by have := h.le; rw [List.length_take]; omega⟩
  have hi := (List.getElem?_eq_some_iff.mp e).1
  rw [List.length_take] at hi
  rw [List.getElem?_take, if_pos (by omega)] at e
  rw [List.take_take, Nat.min_eq_left (by omega)]
  exact h.at_ i d e
/-- the calls of the body of a definition -/
theorem clw_def {prev : List Df} {d : Df} (h : DfsD prev) (hnm : isNm d.nm = true ∧ gd (.str d.nm) = true) (hnew : ∀ e ∈ prev, e.nm ≠ d.nm) (hfl : ∀ j, d.falls = some j → j < d.ps.length) (hl : d.ps.length ≤ 4) : ClW (clOf prev d) ⟨d.nm, d.ps.length, d.falls, eldOf prev⟩ := by
  refine ⟨?_, fun p hp => ?_, fun j hj => ⟨?_, rfl, hj, hfl j hj, hl, hnm.1, hnm.2⟩⟩
  · have := h.le
    show (eldOf prev).length ≤ 10
    unfold eldOf
    rw [List.length_map]
    omega
  · obtain ⟨e, he, rfl⟩ := List.mem_map.mp hp
    have z := h.mem he
    have ne := hnew e he
    refine ⟨?_, fun q => ne (Option.some.inj q).symm, ne, z.1, z.2.1, z.2.2⟩
    show cnF prev d e.nm = some e.ps.length
    unfold cnF
    rw [if_neg (fun q => ne q.2), find_df h.nd he]
    rfl
  · show cnF prev d d.nm = some d.ps.length
    have hj : d.falls = some j := hj
    unfold cnF
    rw [if_pos ⟨by rw [hj]; rfl, rfl⟩]
/-- the calls of the body of a cell -/
theorem clw_body {dfs : List Df} (h : DfsD dfs) : ClW (clB dfs) ⟨"", 0, none, eldOf dfs⟩ := by
  refine ⟨?_, fun p hp => ?_, fun j hj => nomatch hj⟩
  · have := h.le
    show (eldOf dfs).length ≤ 10
    unfold eldOf
    rw [List.length_map]
    omega
  · obtain ⟨e, he, rfl⟩ := List.mem_map.mp hp
    have z := h.mem he
    refine ⟨?_, (fun q => nomatch q), fun q => ?_, z.1, z.2.1, z.2.2⟩
    · show cnB dfs e.nm = some e.ps.length
      unfold cnB
      rw [find_df h.nd he]
      rfl
    · have z2 := z.1
      have q : e.nm = "" := q
      rw [q] at z2
      exact absurd z2 (by decide +kernel)
section
variable {P : Program} {w : World} {K : PySem.W.Frag} {mg : Str → Option Value} {base : Heap} {f fF fT fP fL fB fC fS : Addr} {fd dF dT dP dL dB dC dS : FuncData}
theorem grown_all {cl : Cl} (F : Fun K "_law_grown" "_law_grown" sGrown f fd) (FB : Fun K "_law_binder" "_law_binder" sBinder fB dB) (FC : Fun K "_law_call" "_law_call" sLCall fC dC) (ml : mg "list" = none) (mt : mg "tuple" = none) (mn : mg "len" = none) (mr : mg "range" = none) (T : Tk P w K mg base fT dT)
    (GF : Dn P w K mg base 1 "_law_forms" ["_law_sort"] spForms fF dF) (GP : Dn P w K mg base 2 "_law_pick" ["_law_box_here", "_law_items"] spPick fP dP) (GL : Dn P w K mg base 3 "_law_leaf" ["_law_box_here", "_law_world", "_law_scope"] (spLeaf K) fL dL)
    (GS : Dn P w K mg base 43 "_law_standing" ["_law_tree", "_law_scope"] (spLStand K 40) fS dS)
    (kB : PySem.W.keepIn K (.ref fB) = true) (bB : Binds K dB ["_law_box_here", "_law_world", "_law_head", "_law_scope", "_law_deep"] []) (mB : mg "_law_binder" = some (.ref fB)) (kC : PySem.W.keepIn K (.ref fC) = true) (bC : Binds K dC ["_law_box_here", "_law_world", "_law_scope", "_law_deep"] []) (mC : mg "_law_call" = some (.ref fC))
    (kG : PySem.W.keepIn K (.ref f) = true) (bG : Binds K fd ["_law_box_here", "_law_world", "_law_sort", "_law_scope", "_law_deep"] []) (mG : mg "_law_grown" = some (.ref f)) : ∀ n : Nat, FnOk P w K mg base CX0 (2 * n + 43) f fd ["_law_box_here", "_law_world", "_law_sort", "_law_scope", "_law_deep"] (spGrown K cl n)
  | 0 => by
    have no : ∀ vs H Q E, ¬ spGrown K cl 0 vs H Q E := fun vs H Q E h => by
      obtain ⟨p, g, wd, el, fr, a, w, F, r, ls, deep, c, _, _, _, h1, _⟩ := h
      omega
    exact ⟨fun vs H Q E h => absurd h (no vs H Q E), fun A outer s H args us vs Q E _ _ _ _ h => absurd h (no vs H Q E)⟩
  | n + 1 => by
    have ih := grown_all (cl := cl) F FB FC ml mt mn mr T GF GP GL GS kB bB mB kC bC mC kG bG mG n
    have GG : Dn P w K mg base (2 * n + 43) "_law_grown" ["_law_box_here", "_law_world", "_law_sort", "_law_scope", "_law_deep"] (spGrown K cl n) f fd := ⟨ih, kG, bG, mG⟩
    have GS2 : Dn P w K mg base (2 * n + 43) "_law_standing" ["_law_tree", "_law_scope"] (spLStand K 40) fS dS := ⟨GS.ok.mono (by omega), GS.kp, GS.bd, GS.mg⟩
    have B : Dn P w K mg base (2 * n + 44) "_law_binder" ["_law_box_here", "_law_world", "_law_head", "_law_scope", "_law_deep"] (spBinder K cl n) fB dB := ⟨ok_binder FB GG GS2, kB, bB, mB⟩
    have C : Dn P w K mg base (2 * n + 44) "_law_call" ["_law_box_here", "_law_world", "_law_scope", "_law_deep"] (spLCall K cl n) fC dC := ⟨ok_lcall (k := 2 * n + 40) FC ml mt mn mr T GP GL GG, kC, bC, mC⟩
    exact ok_grown (k := 2 * n + 40) F mt mn mr T GF GP GL B C ih bG mG
end
/-! definitions, drawn -/
abbrev sBinderOf : Stmt := topS 44
abbrev sDefs : Stmt := topS 43
theorem scBinderOf : FnScope ["_law_box_here", "_law_world", "_law_falling", "_law_scope", "_law_x"] ["_law_box_here", "_law_world", "_law_falling", "_law_scope"] (defScope sBinderOf) := ⟨rfl, rfl, rfl, by decide +kernel, rfl, by decide +kernel, by decide +kernel⟩
theorem scDefs : FnScope ["_law_box_here", "_law_most", "_law_found", "_law_elder", "_law_k", "_law_said", "_law_many", "_law_fresh", "_law_given", "_law_falls", "_law_world", "_law_scope", "_law_body", "_law_j", "_law_one"] ["_law_box_here", "_law_most"] (defScope sDefs) := ⟨rfl, rfl, rfl, by decide +kernel, rfl, by decide +kernel, by decide +kernel⟩
/-- a drawn body -/
structure BdD (cl : Cl) (ls : List (Str × Str)) (F : List Str) (d : PyData) : Prop where
  wt : ∃ f bs z, Wt 12 cl f (scL ls) 101 d bs z ∧ f ≤ 12 ∧ ∃ F1, Tak F F1 bs
  nd : nod d ≤ 640
  gd : gd d = true
  nl : nl d = true
  dp : d.depth ≤ 30
  ni : PyData.eqv d d77 = false
def spBinderOf (K : PySem.W.Frag) (cl : Cl) : Sp := fun vs H Q _ => ∃ (p g wd el fr a : Addr) (w : Wor) (F : List Str) (r : Int) (ls : List (Str × Str)) (y : Str), vs = [.ref p, .ref wd, .str y, .ref a] ∧ Ask K cl H p g wd el fr a w F r ls 4 ∧ 8 < F.length ∧ ls.length ≤ 50 ∧ (y, ("own" : Str)) ∈ ls ∧
  ∀ v d H', Box H' p g → Off [p, g, wd, fr] H H' → Dp K H' v d → BdD cl ls F d → Q v H'
section
variable {P : Program} {w : World} {K : PySem.W.Frag} {mg : Str → Option Value} {base : Heap} {f fG : Addr} {fd dG : FuncData}
theorem ok_binderOf {k : Nat} {cl : Cl} (F : Fun K "_law_binder_of" "_law_binder_of" sBinderOf f fd) (GG : Dn P w K mg base k "_law_grown" ["_law_box_here", "_law_world", "_law_sort", "_law_scope", "_law_deep"] (spGrown K cl 8) fG dG) : FnOk P w K mg base CX0 (k + 1) f fd ["_law_box_here", "_law_world", "_law_falling", "_law_scope"] (spBinderOf K cl) := by
  refine F.ok scBinderOf (fun vs H Q E h => ?_) (fun cdv A outer s H vs Q E hr h => ?_)
  · obtain ⟨p, g, wd, el, fr, a, w0, F0, r, ls, y, rfl, _⟩ := h
    rfl
  obtain ⟨p, g, wd, el, fr, a, w0, F0, r, ls, y, rfl, ask, hF, hls, hy, q⟩ := h
  have hu := hu_of hr
  refine ⟨_, pss_cons (ps_asg (pe_tup (pa_cons (pe_bm0 PySem.F.plainAttrs_list PySem.F.slot_list_pop PySem.F.type_list_pop mt_pop (pe_dget hu (pv 1) pe_str (fun _ _ => rfl))) (pa_cons pe_int pa_nil))) (pg_tup rfl (pgs_cons (pg_name (i := 4) scBinderOf.nd rfl (.inl rfl)) (pgs_cons (pg_sub (pv 1) pe_str (set_dict hu)) pgs_nil))))
    (pss_one (ps_ret (pe_tup (pa_cons pe_str (pa_cons (pv 4) (pa_cons (pe_tup (pa_cons pe_str (pa_cons (pv 2) pa_nil))) (pa_cons (pe_call GG.ok hr (by rfl) GG.mg GG.kp GG.bd .nil pass0 (pa_cons (pv 0) (pa_cons (pv 1) (pa_cons pe_str
      (pa_cons (pe_op op_cat (pv 3) (pe_lst (pa_cons (pe_tup (pa_cons (pv 4) (pa_cons pe_str pa_nil))) pa_nil))) (pa_cons pe_int pa_nil)))))) pa_nil))))))), ?_⟩
  have ask0 := ask
  obtain ⟨hbox, hwo, hla, hcw, hnm, hfm, hnd, hsw, hpre, hrm30, hll, hap1, hap2, hap3, hap4⟩ := ask
  obtain ⟨F1, x, rfl⟩ : ∃ F1 x, F0 = F1 ++ [x] := by
    rcases List.eq_nil_or_concat F0 with e | ⟨l, b, e⟩
    · rw [e] at hF
      exact absurd hF (by simp)
    · exact ⟨l, b, by rw [e, List.concat_eq_append]⟩
  have hfr := hwo.fr
  rw [List.map_append, show [x].map V.str = [V.str x] from rfl] at hfr
  refine ⟨_, rfl, wd, .ref fr, rfl, hwo.at.1, .inl ⟨rfl, _, SqL.of hfr⟩, fr, _, _, rfl, rfl, hfr, last_at _ _, ?_⟩
  rw [drop_last]
  have wne := hwo.ne
  have hap4' : el ≠ p ∧ el ≠ g ∧ el ≠ fr := by simpa using hap4
  have o1f : Off [fr] H (upd H fr (.lst (F1.map V.str))) := Off.put (by simp)
  have o1 : Off [p, g, wd, fr] H (upd H fr (.lst (F1.map V.str))) := Off.put (by simp)
  have ntf : NT [fr] H := .cons (nt_lst hfr) .nil
  have wo1 : WdA K (upd H fr (.lst (F1.map V.str))) wd el fr w0 F1 r := by
    obtain ⟨ps, e1, e2⟩ := hwo.el
    exact ⟨by rw [upd_ne wne.2]; exact hwo.wd, upd_same, ps, by rw [upd_ne hap4'.2.2]; exact e1, paired_mono (fun _ _ z => seqT_off ntf o1f z) e2⟩
  have b1 : Box (upd H fr (.lst (F1.map V.str))) p g := hbox.put hap3
  have la1 := hla.off (nt4 hbox hwo) hap1 o1
  generalize upd H fr (.lst (F1.map V.str)) = H1 at wo1 b1 la1 o1
  refine ⟨few (by simp), fun T hT => ?_⟩
  have s2 := same_new (o := .tup [.str x, .int 16]) hT
  have wo2 := wo1.up s2
  have b2 := b1.same s2
  have la2 := la1.up s2
  refine ⟨T, _, rfl, .inl (.inl upd_same), rfl, _, _, rfl, _, _, rfl, _, rfl, wd, _, rfl, wo2.room 16, rfl, ?_⟩
  have o3 : Off [p, g, wd, fr] H (upd (upd H1 T (.tup [.str x, .int 16])) wd (.dK (wkv w0 el fr 16))) := (o1.trans (Off.of s2)).trans (Off.put (by simp))
  have wo3 := wo2.setr 16
  have b3 : Box (upd (upd H1 T (.tup [.str x, .int 16])) wd (.dK (wkv w0 el fr 16))) p g := b2.put hap2
  have la3 : LsA K (upd (upd H1 T (.tup [.str x, .int 16])) wd (.dK (wkv w0 el fr 16))) a ls := la2.off (nt4 b2 wo2) hap1 (Off.put (by simp))
  generalize upd (upd H1 T (.tup [.str x, .int 16])) wd (.dK (wkv w0 el fr 16)) = H3 at o3 wo3 b3 la3
  obtain ⟨psx, la3a, la3b⟩ := la3
  have llx := LsA.len la3b
  refine ⟨_, rfl, _, rfl, few (by simp), fun T4 hT4 => ?_⟩
  have s4 := same_new (o := .tup [.str "name", .str y]) hT4
  have hT44 : (upd H3 T4 (.tup [.str "name", .str y])) T4 = some (.tup [.str "name", .str y]) := upd_same
  have la4a := s4 _ _ la3a
  refine ⟨_, rfl, _, rfl, _, rfl, _, rfl, few (by simp), fun T5 hT5 => ⟨few (by simp), fun B hB => ⟨a, B, psx.map V.ref, [.ref T5], rfl, rfl, ?_, upd_same, few (by rw [List.length_map]; simp only [List.length_cons, List.length_nil]; omega), fun c hc => ?_⟩⟩⟩
  · exact (same_new hB _) _ _ ((same_new hT5 _) _ _ la4a)
  have e5 := (same_new (o := .tup [.str x, .str "piece"]) hT5).trans (same_new (o := .lst [.ref T5]) hB)
  have hT55 : (upd (upd (upd H3 T4 (.tup [.str "name", .str y])) T5 (.tup [.str x, .str "piece"])) B (.lst [.ref T5])) T5 = some (.tup [.str x, .str "piece"]) := same_new hB _ _ _ upd_same
  have s6 := same_new (o := .lst (psx.map V.ref ++ [.ref T5])) hc
  have s36 := s4.trans (e5.trans s6)
  have hT56 := s6 _ _ hT55
  have hT46 := (e5.trans s6) _ _ hT44
  have la6 : LsA K (upd (upd (upd (upd H3 T4 (.tup [.str "name", .str y])) T5 (.tup [.str x, .str "piece"])) B (.lst [.ref T5])) c (.lst (psx.map V.ref ++ [.ref T5]))) c (ls ++ [(x, ("piece" : Str))]) :=
    ⟨psx ++ [T5], by rw [upd_same, List.map_append]; rfl, paired_app (paired_mono (fun _ _ z => seqT_up s36 z) la3b) (.cons (.inl (.inl hT56)) .nil)⟩
  have hc3 : H3 c = none := (s4.trans e5).free hc
  generalize upd (upd (upd (upd H3 T4 (.tup [.str "name", .str y])) T5 (.tup [.str x, .str "piece"])) B (.lst [.ref T5])) c (.lst (psx.map V.ref ++ [.ref T5])) = H6 at s36 la6 hT46
  have ncc := fresh4 b3 wo3 hc3
  have b6 := b3.same s36
  have wo6 := wo3.up s36
  have hxx := hfm x (by simp)
  have hF1 : 8 ≤ F1.length := by
    rw [List.length_append, List.length_singleton] at hF
    omega
  have ask6 : Ask K cl H6 p g wd el fr c w0 F1 16 (ls ++ [(x, ("piece" : Str))]) ((4 : Nat) : Int) := by
    refine ⟨b6, wo6, la6, hcw, fun z hz => ?_, fun z hz => hfm z (List.mem_append_left _ hz), ?_, by rw [scL_snoc]; exact hsw.upd (.inr (.inr rfl)), ⟨by omega, .inr (.inr (by decide))⟩, by omega, ?_, ncc, hap2, hap3, hap4⟩
    · rcases List.mem_append.mp hz with hz | hz
      · exact hnm z hz
      · rw [List.mem_singleton.mp hz]
        exact hxx
    · rw [List.map_append, show [(x, ("piece" : Str))].map (·.1) = [x] from rfl]
      have pm : (F1 ++ (ls.map (·.1) ++ [x])).Perm (F1 ++ ([x] ++ ls.map (·.1))) := List.Perm.append_left _ List.perm_append_comm
      rw [pm.nodup_iff, ← List.append_assoc]
      exact hnd
    · rw [List.length_append, List.length_singleton]
      omega
  refine ⟨p, g, wd, el, fr, c, w0, F1, 16, ls ++ [(x, ("piece" : Str))], 4, 101, rfl, .inl rfl, by omega, by omega, by omega, ask6, fun v2 d2 bs2 z2 F2 r3 H7 b7 o7 wo7 dd7 T2 => ⟨few (by simp), fun T8 hT8 => ?_⟩⟩
  have s8 := same_new (o := .tup [.str "each", .str x, .ref T4, v2]) hT8
  have lsnd : (ls.map (·.1)).Nodup := (List.nodup_append.mp hnd).2.1
  have hyy := hnm _ hy
  have pn : PcN cl ls 1 3 "own" (.tuple [.str "name", .str y]) := pcn_name hyy.1 hyy.2 (scL_mem lsnd hy)
  obtain ⟨zp, wp⟩ := pn.wt
  have n2 := T2.nd
  have d2' := T2.dp
  have c3 := cap_nn r3
  have c16 : capN 16 = 460 := by decide
  have l1 : limC 101 = 3 := rfl
  have w2 := T2.wt
  rw [scL_snoc] at w2
  have na : nods [PyData.str x, .tuple [.str "name", .str y], d2] ≤ 900 := by
    simp only [nods, nod]
    omega
  have wt := wt_bind (n := 12) (cl := cl) (f := 8) (sc := scL ls) (h := "each") (sl := "nee") (x := x) (s := "own") (a := .tuple [.str "name", .str y]) (b := d2) (c2 := 101) (by decide +kernel) (by decide +kernel) (.inl rfl) hxx.1 hxx.2 na (.inr (.inl rfl)) (wp.mono (by omega)) (pn.st 12) (by rw [if_neg (by decide +kernel)]; exact w2)
  have nFx : (F1 ++ [x]).Nodup := hnd.sublist (List.sublist_append_left _ _)
  have dT := Dp.up s8 _ _ dd7
  have x4 : Dp K (upd H7 T8 (.tup [.str "each", .str x, .ref T4, v2])) (.ref T4) (.tuple [.str "name", .str y]) := Dp.up s8 _ _ (Dp.off (d := .tuple [.str "name", .str y]) (.tup (.inl (.inl hT46)) (.cons (.str _) (.cons (.str _) .nil))) (nt4 b6 wo6) (by simp only [nl, nls, Bool.and_self]) o7)
  refine q _ (.tuple [.str "each", .str x, .tuple [.str "name", .str y], d2]) _ (b7.same s8) (((o3.trans (Off.of s36)).trans o7).trans (Off.of s8)) (.tup (.inl (.inl upd_same)) (.cons (.str _) (.cons (.str _) (.cons x4 (.cons dT .nil))))) ⟨⟨9, _, _, wt, by omega, F2, ?_⟩, ?_, ?_, ?_, ?_, ni_head (by decide +kernel)⟩
  · exact Tak.app (b1 := [x]) nFx (Tak.one F1 x) (Tak.app ((Tak.one F1 x).nd nFx) (Tak.refl F1) T2.tk)
  · simp only [nod, nods]
    omega
  · have g2 := T2.gd
    have gl : gd (.str "each") = true := by decide +kernel
    have gn : gd (.str "name") = true := by decide +kernel
    have gy := hyy.2
    have gx := hxx.2
    simp only [gd, gds, Bool.and_eq_true] at gx gl gn gy ⊢
    exact ⟨gl, gx, ⟨gn, gy, trivial⟩, g2, trivial⟩
  · simp only [nl, nls, T2.nl, Bool.and_self]
  · simp only [PyData.depth, PyData.depthAll]
    omega
end
/-! the list of definitions -/
def iEnumL (K : PySem.W.Frag) (ta : TA) : TI := fun σ H R => ta σ H fun vs H1 => ∃ a xs, vs = [.ref a] ∧ SqL K H1 a xs ∧ R (ItC (fun H ys => SqL K H a ys) 0) H1
section
variable {X : Cx} {e : Expr} {ta : TA} {p pos tpos : Pos} {elts : List Expr} {kk : Nat}
theorem pi_enumL (hg : Gl X "enumerate") (hm : X.mg "enumerate" = none) (ha : PA X [e] ta) (hs : starEach [e] X.env = [(false, eval e X.env)] := by rfl) :
    PI X (.Tuple elts kk tpos) (.Call (.Name "enumerate" p) [e] [] pos) (iEnumL X.K ta) := by
  refine ⟨fun pins s σ H R I h => ?_⟩
  refine Call_ (ld_blt I hg hm boot_enumerate (PyProof.Rows.callWith_type1 (thn (ha.run pos pins s σ H _ I h) fun us s1 ⟨vs, H1, I1, r1, q1⟩ => ?_) hs rfl))
  obtain ⟨a, xs, rfl, hx, q⟩ := q1
  obtain ⟨u, rfl, ru⟩ := r1.one
  cases ru
  obtain ⟨its, rv, tp, hz⟩ := I1.list hx
  exact enum_made (begins_list a its.toArray) tp.isList fun h' ee hi kp => pie_enum I1 (goer_lst a _) ee ⟨_, hi, rfl, rfl⟩ kp q
end
section
variable {X : Cx} {o : Expr} {to : TE} {name : Str} {apos cpos : Pos} {T id : String} {r : V → List V → Hp → VK → Prop}
theorem pe_bm0F {K : PySem.W.Frag} (hK : X.K = K) (pa : PlainAttrs T) (slot : Slot T name id) (hty : typeOf (.builtin id) = pure (.type "method_descriptor")) (hm : MtR X id r) (ho : PE X o to)
    (hbase : attributeBase o name X.env (eval o X.env) = eval o X.env := by rfl) (hline : (apos.endLine == cpos.line) = true := by rfl) : PE X (.Call (.Attribute o name apos) [] [] cpos) (tBM0 K T r to) := by
  subst hK
  exact pe_bm0 pa slot hty hm ho hbase hline
end
def names6 : List Str := ["turn", "x", "call", "b", "deepdeep", "if"]
theorem names6_nm : ∀ x ∈ names6, isNm x = true ∧ gd (.str x) = true := by decide +kernel
theorem names6_nd : names6.Nodup := by decide +kernel
theorem names48_gd : ∀ x ∈ names48, gd (.str x) = true := by decide +kernel
theorem merge_wkv (w : Wor) (el fr : Addr) (r : Int) : mergeK [] (wkv w el fr r) = wkv w el fr r := mergeK_new _ _ (by
  show ([Sum.inr "name", Sum.inr "many", Sum.inr "falls", Sum.inr "elder", Sum.inr "fresh", Sum.inr "room"] : List Key).Nodup
  decide +kernel)
/-- names by pairs -/
def ElA (K : PySem.W.Frag) (H : Hp) (a : Addr) (es : List (Str × Nat)) : Prop := ∃ ps : List Addr, H a = some (.lst (ps.map V.ref)) ∧ Paired (fun p (kv : Str × Nat) => SqT K H p [.str kv.1, .int kv.2]) ps es
theorem fallV_dp {K : PySem.W.Frag} {H : Hp} (fl : Option Nat) : Dp K H (fallV fl) (fallD fl) := by
  cases fl with
  | none => exact .non
  | some j => exact .int _
theorem own_if (fl : Option Nat) (j : Nat) : (if decide (V.int (0 + (j : Nat)) = fallV fl) = true then V.str "own" else V.str "") = V.str (ownW fl j) := by
  unfold ownW
  cases fl with
  | none =>
    rw [if_neg (by simp [fallV])]
    rfl
  | some k =>
    by_cases e : k = j
    · subst e
      show (if decide (V.int (0 + (k : Nat)) = V.int k) = true then _ else _) = _
      rw [if_pos (decide_eq_true (congrArg V.int (by omega))), if_pos rfl]
    · show (if decide (V.int (0 + (j : Nat)) = V.int k) = true then _ else _) = _
      rw [if_neg (fun z => e (by have z2 := V.int.inj (of_decide_eq_true z); omega)), if_neg (fun z => e (Option.some.inj z))]
theorem strs_dp {K : PySem.W.Frag} {H : Hp} : ∀ xs : List Str, DpAll K H (xs.map V.str) (xs.map PyData.str)
  | [] => .nil
  | x :: xs => .cons (.str x) (strs_dp xs)
theorem lsOf_own : ∀ {xs : List Str} {i j : Nat} {y : Str}, xs[j]? = some y → (y, ("own" : Str)) ∈ lsOf xs i (some (i + j))
  | [], _, _, _, h => by simp at h
  | x :: xs, i, 0, y, h => by
    have h : some x = some y := by simpa using h
    cases h
    rw [lsOf]
    unfold ownW
    rw [Nat.add_zero, if_pos rfl]
    exact List.mem_cons_self
  | x :: xs, i, j + 1, y, h => by
    rw [lsOf]
    have z := lsOf_own (xs := xs) (i := i + 1) (j := j) (y := y) (by simpa using h)
    rw [show i + 1 + j = i + (j + 1) by omega] at z
    exact List.mem_cons_of_mem _ z
theorem told_bd {cl : Cl} {F F1 : List Str} {r r1 : Int} {ls : List (Str × Str)} {deep : Int} {f : Nat} {d : PyData} {bs : List Str} {z : Nat} (T : Told cl F F1 r r1 ls deep f 101 d bs z) (hf : f ≤ 12) (hr : r ≤ 22) : BdD cl ls F d := by
  have n1 := T.nd
  have l1 : limC 101 = 3 := rfl
  have cm : capN r ≤ capN 22 := cap_mono hr
  have c22 : capN 22 = 628 := by decide
  have c3 := cap_nn r1
  have d1 := T.dp
  exact ⟨⟨f, bs, z, T.wt, hf, F1, T.tk⟩, by omega, T.gd, T.nl, by omega, T.ni⟩
def spDefs (K : PySem.W.Frag) : Sp := fun vs H Q _ => ∃ (p g : Addr), vs = [.ref p, .int 6] ∧ Box H p g ∧ ∀ (L : Addr) (xs : List V) (dfs : List Df) (H' : Hp), Box H' p g → Off [p, g] H H' → H L = none → H' L = some (.lst xs) → DpAll K H' xs (dfs.map Df.data) → DfsD dfs → 0 < dfs.length → (∀ d ∈ dfs, d.nm ∈ names6) → Q (.ref L) H'
theorem fnOk_any {α : Type} {P : Program} {w : World} {K : PySem.W.Frag} {mg : Str → Option Value} {base : Heap} {CX : CXT} {k : Nat} {f : Addr} {fd : FuncData} {ps : List Str} {sp : α → Sp} (F : ∀ x, FnOk P w K mg base CX k f fd ps (sp x)) : FnOk P w K mg base CX k f fd ps (fun vs H Q E => ∃ x, sp x vs H Q E) :=
  ⟨fun vs H Q E ⟨x, h⟩ => (F x).1 vs H Q E h, fun A outer s H args us vs Q E a b c d ⟨x, h⟩ => (F x).2 A outer s H args us vs Q E a b c d h⟩
section
variable {P : Program} {w : World} {K : PySem.W.Frag} {mg : Str → Option Value} {base : Heap} {f fG fT fL fB : Addr} {fd dG dT dL dB : FuncData}
theorem ok_defs {k : Nat} (F : Fun K "_law_definitions" "_law_definitions" sDefs f fd) (mt : mg "tuple" = none) (mn : mg "len" = none) (mr : mg "range" = none) (me : mg "enumerate" = none) (T : Tk P w K mg base fT dT) (GL : Dn P w K mg base 3 "_law_locals" ["_law_box_here"] spLocals fL dL)
    (GG : Dn P w K mg base (k + 3) "_law_grown" ["_law_box_here", "_law_world", "_law_sort", "_law_scope", "_law_deep"] (fun vs H Q E => ∃ cl, spGrown K cl 8 vs H Q E) fG dG)
    (GB : Dn P w K mg base (k + 4) "_law_binder_of" ["_law_box_here", "_law_world", "_law_falling", "_law_scope"] (fun vs H Q E => ∃ cl, spBinderOf K cl vs H Q E) fB dB) : FnOk P w K mg base CX0 (k + 5) f fd ["_law_box_here", "_law_most"] (spDefs K) := by
  refine F.ok scDefs (fun vs H Q E h => ?_) (fun cdv A outer s H vs Q E hr h => ?_)
  · obtain ⟨p, g, rfl, _⟩ := h
    rfl
  obtain ⟨p, g, rfl, hb, q⟩ := h
  have hu := hu_of hr
  have hr1 : Room 1 _ := hr.mono (by omega)
  have hr3 : Room 3 _ := hr.mono (by omega)
  have hrg : Room (k + 3) _ := hr.mono (by omega)
  have hrb : Room (k + 4) _ := hr.mono (by omega)
  refine ⟨_, pss_cons (ps_par (i := 2) (j := 3) (by rfl) scDefs.nd rfl rfl (by decide) rfl rfl (pa_cons (pe_lst pa_nil) (pa_cons (pe_lst pa_nil) pa_nil)) (by rfl))
    (pss_cons (ps_for PassesOwn.never rfl (pi_range1 (by rfl) mr (pa_cons (pe_op op_add pe_int (pe_call T.ok hr1 (by rfl) T.mg T.kp T.bd .nil pass0 (pa_cons (pv 0) (pa_cons (pv 1) pa_nil)))) pa_nil)) (pg_name (i := 4) scDefs.nd rfl (.inl rfl))
      (pss_cons (ps_par (i := 5) (j := 6) (by rfl) scDefs.nd rfl rfl (by decide) rfl rfl (pa_cons (pe_ix ix_list (pe_lst (pa_cons pe_str (pa_cons pe_str (pa_cons pe_str (pa_cons pe_str (pa_cons pe_str (pa_cons pe_str pa_nil))))))) (pv 4) (fun _ _ => rfl)) (pa_cons (pe_call T.ok hr1 (by rfl) T.mg T.kp T.bd .nil pass0 (pa_cons (pv 0) (pa_cons pe_int pa_nil))) pa_nil)) (by rfl))
      (pss_cons (ps_set (i := 7) scDefs.nd rfl (.inr rfl) (pe_call GL.ok hr3 (by rfl) GL.mg GL.kp GL.bd .nil pass0 (pa_cons (pv 0) pa_nil)))
      (pss_cons (ps_setLc (i := 8) (own := [("_law_j", 13)]) (g := gName 13) (by rfl) scDefs.nd rfl rfl (sw_true rfl rfl rfl (by decide +kernel)) (pi_range1 (by rfl) mr (pa_cons (pv 6) pa_nil))
        (blkOk_by (own := [("_law_j", 13)]) (N := ["_law_box_here", "_law_most", "_law_found", "_law_elder", "_law_k", "_law_said", "_law_many", "_law_fresh", "_law_given", "_law_falls", "_law_world", "_law_scope", "_law_body", "_law_j", "_law_one"]) (sc := defScope sDefs) (by decide +kernel))
        (fun _ _ _ _ _ => pg_name (i := 13) scDefs.nd rfl (Or.inl rfl)) (fun _ _ _ _ _ => pts_nil) (fun _ _ _ _ _ => pe_bm0F (K := K) rfl PySem.F.plainAttrs_list PySem.F.slot_list_pop PySem.F.type_list_pop mt_pop (pv 7)))
      (C8.pss_cut (ps_set (i := 9) scDefs.nd rfl (.inr rfl) (pe_ifExp (PW.pt (pw_and (pt_cmpR op_gt (pv 6) pe_int (nomark _)) (pw_and1 (pt_cmpR op_gt (pe_call T.ok hr1 (by rfl) T.mg T.kp T.bd .nil pass0 (pa_cons (pv 0) (pa_cons pe_int pa_nil))) pe_int (nomark _))))) (pe_call T.ok hr1 (by rfl) T.mg T.kp T.bd .nil pass0 (pa_cons (pv 0) (pa_cons (pv 6) pa_nil))) pe_non))
      (pss_cons (ps_set (i := 10) scDefs.nd rfl (.inl rfl) (pe_disp (pps_cons pe_str (pv 5) (pps_cons pe_str (pv 6) (pps_cons pe_str (pv 9) (pps_cons pe_str (pv 3) (pps_cons pe_str (pv 7) (pps_cons pe_str pe_int pps_nil)))))) (by rfl) (by rfl) (fun z => by cases z) (by decide)))
      (pss_cons (ps_setLc (i := 11) (own := [("_law_j", 13), ("_law_one", 14)]) (g := gTup K 2 (gCons (gName 13) (gCons (gName 14) gNil))) (by rfl) scDefs.nd rfl rfl (sw_true rfl rfl rfl (by decide +kernel)) (pi_enumL (by rfl) me (pa_cons (pv 8) pa_nil))
        (blkOk_by (own := [("_law_j", 13), ("_law_one", 14)]) (N := ["_law_box_here", "_law_most", "_law_found", "_law_elder", "_law_k", "_law_said", "_law_many", "_law_fresh", "_law_given", "_law_falls", "_law_world", "_law_scope", "_law_body", "_law_j", "_law_one"]) (sc := defScope sDefs) (by decide +kernel))
        (fun _ _ _ _ _ => pg_tup rfl (pgs_cons (pg_name (i := 13) scDefs.nd rfl (Or.inl rfl)) (pgs_cons (pg_name (i := 14) scDefs.nd rfl (Or.inl rfl)) pgs_nil))) (fun _ _ _ _ _ => pts_nil)
        (fun _ _ _ _ _ => pe_tup (pa_cons (pv 14) (pa_cons (pe_ifExp (pt_cmpR op_eq (pv 13) (pv 9) (nomark _)) pe_str pe_str) pa_nil))))
      (pss_cons (ps_set (i := 12) scDefs.nd rfl (.inl rfl) (pe_call GG.ok hrg (by rfl) GG.mg GG.kp GG.bd .nil pass0 (pa_cons (pv 0) (pa_cons (pv 10) (pa_cons pe_str (pa_cons (pv 11) (pa_cons (pe_op op_add pe_int (pe_call T.ok hr1 (by rfl) T.mg T.kp T.bd .nil pass0 (pa_cons (pv 0) (pa_cons pe_int pa_nil)))) pa_nil)))))))
      (C8.pss_cut (ps_if (PW.pt (pw_and (pt_cmpR op_notN (pv 9) pe_non rfl) (pw_and (pt_cmpR op_eq (pe_call T.ok hr1 (by rfl) T.mg T.kp T.bd .nil pass0 (pa_cons (pv 0) (pa_cons pe_int pa_nil))) pe_int (nomark _)) (pw_and1 (pt_cmpR op_gt (pe_callB call_len_seq (by rfl) mn PySem.boot_len (pa_cons (pe_dget hu (pv 10) pe_str (fun _ _ => rfl)) pa_nil)) pe_int (nomark _))))))
        (pss_one (ps_set (i := 12) scDefs.nd rfl (.inl rfl) (pe_call GB.ok hrb (by rfl) GB.mg GB.kp GB.bd .nil pass0 (pa_cons (pv 0) (pa_cons (pv 10) (pa_cons (pe_ix ix_list (pv 8) (pv 9) (fun _ _ => rfl)) (pa_cons (pv 11) pa_nil))))))) pss_nil)
      (pss_cons (ps_expr (pe_bm PySem.F.plainAttrs_list PySem.F.slot_list_append PySem.F.type_list_append mt_append (pv 2) (pa_cons (pe_tup (pa_cons (pv 5) (pa_cons (pe_callTy call_tuple_of (by rfl) mt b_tup (pa_cons (pv 8) pa_nil)) (pa_cons (pv 9) (pa_cons (pv 12) pa_nil))))) pa_nil)))
      (pss_one (ps_set (i := 3) scDefs.nd rfl (.inl rfl) (pe_op op_cat (pv 3) (pe_lst (pa_cons (pe_tup (pa_cons (pv 5) (pa_cons (pv 6) pa_nil))) pa_nil)))))))))))))))
    (pss_one (ps_ret (pv 2)))), ?_⟩
  refine ⟨by decide, fun L hL => ⟨by decide, fun E0 hE0 => ⟨_, _, rfl, ?_⟩⟩⟩
  obtain ⟨_, _, _, _, e1, e2, _⟩ := hb.ex
  have nL : L ∉ [p, g] := fun z => by
    simp only [List.mem_cons, List.not_mem_nil, or_false] at z
    rcases z with z | z
    · rw [z, e1] at hL; cases hL
    · rw [z, e2] at hL; cases hL
  have s1 : Same H (upd (upd H L (.lst [])) E0 (.lst [])) := (same_new hL _).trans (same_new hE0 _)
  have hL1 : (upd (upd H L (.lst [])) E0 (.lst [])) L = some (.lst []) := same_new hE0 _ _ _ upd_same
  have hE1 : (upd (upd H L (.lst [])) E0 (.lst [])) E0 = some (.lst []) := upd_same
  generalize upd (upd H L (.lst [])) E0 (.lst []) = H1 at s1 hL1 hE1
  have b1 := hb.same s1
  refine ⟨_, rfl, _, rfl, p, g, 6, rfl, b1, by decide, by decide, fun t H2 t0 t6 b2 o2 => ⟨_, _, rfl, rfl, _, rfl, by omega, by omega, ?_⟩⟩
  have nE0 : E0 ∉ [p, g] ∧ E0 ≠ L := by
    refine ⟨fun z => ?_, fun z => ?_⟩
    · have y1 := (same_new (o := .lst []) hL) _ _ e1
      have y2 := (same_new (o := .lst []) hL) _ _ e2
      simp only [List.mem_cons, List.not_mem_nil, or_false] at z
      rcases z with z | z
      · rw [z, y1] at hE0; cases hE0
      · rw [z, y2] at hE0; cases hE0
    · rw [z, upd_same] at hE0
      cases hE0
  have o02 : Off [p, g] H H2 := (Off.of s1).trans o2
  refine for_range (lo := 0) (n := (1 + t).toNat) (fun i σ H3 => ∃ o4 o5 o6 o7 o8 o9 o10 o11 o12 xs dfs e3, σ = [some (.ref p), some (.int 6), some (.ref L), some (.ref e3), o4, o5, o6, o7, o8, o9, o10, o11, o12, none, none] ∧ H3 L = some (.lst xs) ∧ DpAll K H3 xs (dfs.map Df.data) ∧ DfsD dfs ∧ dfs.length = i ∧ dfs.map (·.nm) = names6.take i ∧
      ElA K H3 e3 (eldOf dfs) ∧ e3 ∉ [p, g, L] ∧ Box H3 p g ∧ Off [p, g] H H3)
    ⟨none, none, none, none, none, none, none, none, none, [], [], E0, rfl, o2.get hL1 nL, .nil, ⟨fun i d e => by simp at e, by simp⟩, rfl, rfl, ⟨[], o2.get hE1 nE0.1, .nil⟩, ?_, b2, o02⟩ ?_ ?_
  · simp only [List.mem_cons, List.not_mem_nil, or_false, not_or] at nE0 ⊢
    exact ⟨nE0.1.1, nE0.1.2, nE0.2⟩
  · rintro i σ H3 hi ⟨o4, o5, o6, o7, o8, o9, o10, o11, o12, xs, dfs, e3, rfl, h1, h2, h3, h4, h5, h6, h7, h8, h9⟩
    have hi6 : i < 6 := by omega
    obtain ⟨nm, hnm6⟩ : ∃ nm, names6[i]? = some nm := ⟨names6[i]'(by show i < 6; exact hi6), List.getElem?_eq_getElem (by show i < 6; exact hi6)⟩
    have tr0 : ∀ {HX : Hp} {D : Addr}, Box HX p g → HX D = none → D ∉ [p, g] := fun bx hx z => by
      obtain ⟨_, _, _, _, y1, y2, _⟩ := bx.ex
      simp only [List.mem_cons, List.not_mem_nil, or_false] at z
      rcases z with z | z
      · rw [z, y1] at hx; cases hx
      · rw [z, y2] at hx; cases hx
    refine ⟨few (by simp), fun N6 hN6 => ⟨_, rfl, N6, names6.map V.str, _, .str nm, rfl, rfl, SqL.of upd_same, by rw [Int.zero_add]; exact atI_nat (j := i) (by rw [List.getElem?_map, hnm6]; rfl), ?_⟩⟩
    have s4 := same_new (o := .lst (names6.map V.str)) hN6
    refine ⟨_, rfl, p, g, 5, rfl, h8.same s4, by decide, by decide, fun m1 H5 m10 m15 b5 o5 => ⟨_, _, rfl, ?_⟩⟩
    have o35 : Off [p, g] H3 H5 := (Off.of s4).trans o5
    refine ⟨_, rfl, p, g, rfl, b5, fun fr ys H6 b6 o6 hfr h6f pm => ?_⟩
    have o36 : Off [p, g] H3 H6 := o35.trans o6
    obtain ⟨many, rfl⟩ : ∃ many : Nat, m1 = many := ⟨m1.toNat, by omega⟩
    have lys : ys.length = 48 := by rw [pm.length_eq, names48_len]
    have nys : ys.Nodup := pm.nodup_iff.mpr names48_nd
    refine ⟨_, rfl, (many : Int), rfl, by omega, by omega, fun D hD => ?_⟩
    have nfr : fr ∉ [p, g] := tr0 b5 hfr
    have nD : D ∉ [p, g] := tr0 b6 hD
    have nDfr : D ≠ fr := fun e => by
      rw [e, h6f] at hD
      cases hD
    have hfr3 : H3 fr = none := o35.free hfr nfr
    refine lc_range (lo := 0) (n := many) (fun j H7 => H7 D = some (.lst ((ys.reverse.take j).map V.str)) ∧ H7 fr = some (.lst ((ys.reverse.drop j).reverse.map V.str)) ∧ Off [fr] H6 H7)
      ⟨upd_same, by rw [upd_ne nDfr.symm, List.drop_zero, List.reverse_reverse]; exact h6f, Off.of (same_new hD _)⟩ ?_ ?_
    · rintro j H7 hj ⟨g1, g2, g3⟩
      have ljr : j < ys.reverse.length := by rw [List.length_reverse]; omega
      have eq1 : (ys.reverse.drop j).reverse = (ys.reverse.drop (j + 1)).reverse ++ [ys.reverse[j]] := by
        rw [List.drop_eq_getElem_cons ljr, List.reverse_cons]
      rw [eq1, List.map_append, show [ys.reverse[j]].map V.str = [V.str ys.reverse[j]] from rfl] at g2
      refine ⟨rfl, _, rfl, .inl ⟨rfl, _, SqL.of g2⟩, fr, _, _, rfl, rfl, g2, last_at _ _, ?_⟩
      rw [drop_last]
      have g1' : (upd H7 fr (.lst ((ys.reverse.drop (j + 1)).reverse.map V.str))) D = some (.lst ((ys.reverse.take j).map V.str)) := by
        rw [upd_ne nDfr]
        exact g1
      refine ⟨_, g1', few (by rw [List.length_map, List.length_take]; omega), ?_, ?_, ?_⟩
      · rw [upd_same, get_take (List.getElem?_eq_getElem ljr), List.map_append]
        rfl
      · rw [upd_ne nDfr.symm]
        exact upd_same
      · exact off_new (g3.trans (Off.put (by simp))) (by simp [nDfr]) hD
    rintro H7 ⟨g1, g2, g3⟩
    have hpl : (ys.reverse.take many).length = many := by
      rw [List.length_take, List.length_reverse]
      omega
    have hFl : (ys.reverse.drop many).reverse.length = 48 - many := by
      rw [List.length_reverse, List.length_drop, List.length_reverse]
      omega
    have nFp : ((ys.reverse.drop many).reverse ++ ys.reverse.take many).Nodup := by
      have pm2 : ((ys.reverse.drop many).reverse ++ ys.reverse.take many).Perm ys.reverse := by
        refine List.Perm.trans (List.Perm.append_right _ (List.reverse_perm _)) ?_
        refine List.Perm.trans List.perm_append_comm ?_
        rw [List.take_append_drop]
      rw [pm2.nodup_iff, (List.reverse_perm ys).nodup_iff]
      exact nys
    have inN : (∀ x ∈ (ys.reverse.drop many).reverse, isNm x = true ∧ gd (.str x) = true) ∧ ∀ x ∈ ys.reverse.take many, isNm x = true ∧ gd (.str x) = true := by
      have key : ∀ x ∈ ys, isNm x = true ∧ gd (.str x) = true := fun x hx => ⟨names48_nm x (pm.mem_iff.mp hx), names48_gd x (pm.mem_iff.mp hx)⟩
      exact ⟨fun x hx => key x (List.mem_reverse.mp (List.mem_of_mem_drop (List.mem_reverse.mp hx))), fun x hx => key x (List.mem_reverse.mp (List.mem_of_mem_take hx))⟩
    generalize ys.reverse.take many = ps at *
    generalize (ys.reverse.drop many).reverse = FF at *
    subst hpl
    have npf2 : fr ∉ [p, g] ∧ D ∉ [p, g] := ⟨nfr, nD⟩
    have o37 : Off [p, g] H3 H7 := by
      refine off_fresh (m := [p, g, fr]) o36 (fun b hb => by simp only [List.mem_cons, List.not_mem_nil, or_false] at hb ⊢; rcases hb with e | e; exact .inl e; exact .inr (.inl e)) (fun b hb nb => ?_) (g3.mono fun b hb => by rw [List.mem_singleton.mp hb]; simp)
      simp only [List.mem_cons, List.not_mem_nil, or_false, not_or] at hb nb
      rcases hb with e | e | e
      · exact absurd e nb.1
      · exact absurd e nb.2
      · rw [e]; exact hfr3
    have b7 : Box H7 p g := b6.off g3 (fun z => nfr (by rw [← List.mem_singleton.mp z]; simp)) (fun z => nfr (by rw [← List.mem_singleton.mp z]; simp))
    have hD3 : H3 D = none := o36.free hD nD
    refine ⟨fun σ H8 => ∃ fl : Option Nat, σ = [some (.ref p), some (.int 6), some (.ref L), some (.ref e3), some (.int (0 + (i : Nat))), some (.str nm), some (.int ps.length), some (.ref fr), some (.ref D), some (fallV fl), o10, o11, o12, none, none] ∧ Box H8 p g ∧ Off [p, g] H7 H8 ∧ ∀ j, fl = some j → j < ps.length, ?_, ?_⟩
    · refine ⟨_, rfl, _, _, rfl, rfl, _, rfl, ite2 (fun c1 => ?_) (fun c1 => ⟨none, rfl, b7, Off.refl _ _, fun j e => nomatch e⟩)⟩
      have c1 := of_decide_eq_true c1
      refine ⟨_, rfl, p, g, 3, rfl, b7, by decide, by decide, fun t1 H8 t10 t13 b8 o8 => ⟨_, _, rfl, rfl, _, rfl, ite2 (fun c2 => ?_) (fun c2 => ⟨none, rfl, b8, o8, fun j e => nomatch e⟩)⟩⟩
      refine ⟨_, rfl, _, rfl, p, g, _, rfl, b8, c1, ?_, fun t2 H9 t20 t2m b9 o9 => ?_⟩
      · show ps.length < 2 ^ 200
        exact Nat.lt_of_le_of_lt (show ps.length ≤ 5 by omega) (by decide)
      obtain ⟨j, rfl⟩ : ∃ j : Nat, t2 = j := ⟨t2.toNat, by omega⟩
      exact ⟨some j, rfl, b9, o8.trans o9, fun k e => by cases e; omega⟩
    rintro σ H8 ⟨fl, rfl, b8, o8, hfl⟩
    have o38 : Off [p, g] H3 H8 := o37.trans o8
    have g18 := o8.get g1 nD
    have g28 := o8.get g2 nfr
    have he3 : e3 ∉ [p, g] := fun z => h7 (by simp only [List.mem_cons, List.not_mem_nil, or_false] at z ⊢; rcases z with z | z; exact .inl z; exact .inr (.inl z))
    have hel8 : ElA K H8 e3 (eldOf dfs) := by
      obtain ⟨pz, z1, z2⟩ := h6
      exact ⟨pz, o38.get z1 he3, paired_mono (fun _ _ z => seqT_off h8.nt o38 z) z2⟩
    refine fun WD hWD => ⟨_, rfl, _, rfl, _, rfl, _, rfl, _, rfl, upd_same, wkv ⟨nm, ps.length, fl, eldOf dfs⟩ e3 fr 22, rfl, (by show 6 ≤ 15; decide), ?_⟩
    rw [merge_wkv]
    have s9 : Same H8 (upd (upd H8 WD (.dK [])) WD (.dK (wkv ⟨nm, ps.length, fl, eldOf dfs⟩ e3 fr 22))) := fun b u z => by
      rw [upd_ne (ne_of_none z hWD), upd_ne (ne_of_none z hWD)]
      exact z
    have hWD9 : (upd (upd H8 WD (.dK [])) WD (.dK (wkv ⟨nm, ps.length, fl, eldOf dfs⟩ e3 fr 22))) WD = some (.dK (wkv ⟨nm, ps.length, fl, eldOf dfs⟩ e3 fr 22)) := upd_same
    generalize upd (upd H8 WD (.dK [])) WD (.dK (wkv ⟨nm, ps.length, fl, eldOf dfs⟩ e3 fr 22)) = H9 at s9 hWD9
    have nWD : WD ∉ [p, g] := tr0 b8 hWD
    have b9 := b8.same s9
    refine ⟨_, rfl, D, _, rfl, SqL.of (s9 _ _ g18), fun SC hSC => ?_⟩
    have nSCpg : SC ∉ [p, g] := tr0 b9 hSC
    refine lc_it (walk_C (Its := fun H ys => SqL K H D ys) (xs := ps.map V.str) (k0 := 0)) (fun j H10 => ∃ pa : List Addr, H10 SC = some (.lst (pa.map V.ref)) ∧ Paired (fun p (kv : Str × Str) => SqT K H10 p [.str kv.1, .str kv.2]) pa (lsOf (ps.take j) 0 fl) ∧ Same H9 H10)
      ⟨[], upd_same, .nil, same_new hSC _⟩ ?_ ?_ ?_
    · rintro j H10 hj ⟨pa, k1, k2, k3⟩
      exact SqL.of (k3 _ _ (s9 _ _ g18))
    · rintro j y H10 H11 hj ⟨pa, k1, k2, k3⟩ ⟨T2, y2, rfl, hT2, rfl, hy⟩
      rw [List.getElem?_map] at hy
      obtain ⟨y, ey, rfl⟩ := Option.map_eq_some_iff.mp hy
      have lj := (List.getElem?_eq_some_iff.mp ey).1
      have s11 := same_new (o := .tup [.int (0 + (j : Nat)), .str y]) hT2
      refine ⟨T2, _, rfl, .inl (.inl upd_same), rfl, _, _, rfl, _, _, rfl, rfl, rfl, ?_⟩
      refine ⟨_, rfl, _, rfl, _, rfl, ?_, _, rfl, tif_same (own_if fl j) ⟨few (by simp), fun T6 hT6 => ?_⟩⟩
      · cases fl <;> rfl
      have s12 := s11.trans (same_new (o := .tup [.str y, .str (ownW fl j)]) hT6)
      have hT66 : (upd (upd H10 T2 (.tup [.int (0 + (j : Nat)), .str y])) T6 (.tup [.str y, .str (ownW fl j)])) T6 = some (.tup [.str y, .str (ownW fl j)]) := upd_same
      have k1' := s12 _ _ k1
      generalize upd (upd H10 T2 (.tup [.int (0 + (j : Nat)), .str y])) T6 (.tup [.str y, .str (ownW fl j)]) = H12 at s12 hT66 k1'
      have lpa := paired_len k2
      rw [lsOf_len, List.length_take] at lpa
      have ntS : NT [SC] H12 := .cons (nt_lst k1') .nil
      have oS : Off [SC] H12 (upd H12 SC (.lst (pa.map V.ref ++ [.ref T6]))) := Off.put (by simp)
      refine ⟨_, k1', few (by rw [List.length_map]; omega), pa ++ [T6], by rw [upd_same, List.map_append]; rfl, ?_, ?_⟩
      · rw [get_take ey, lsOf_snoc, List.length_take, Nat.min_eq_left (Nat.le_of_lt lj), Nat.zero_add]
        exact paired_app (paired_mono (fun _ _ z => seqT_off ntS oS (seqT_up s12 z)) k2) (.cons (seqT_off ntS oS (.inl (.inl hT66))) .nil)
      · exact same_off (k3.trans s12) (l := [SC]) (fun b hb => by rw [List.mem_singleton.mp hb]; exact hSC) (Off.put (by simp))
    rintro H10 ⟨pa, k1, k2, k3⟩
    rw [List.length_map, List.take_length] at k2
    have b10 := b9.same k3
    refine ⟨_, rfl, _, rfl, _, rfl, _, rfl, p, g, 6, rfl, b10, by decide, by decide, fun t5 H11 t50 t56 b11 o11 => ⟨_, _, rfl, rfl, ?_⟩⟩
    obtain ⟨deep, hdeep⟩ : ∃ deep : Nat, 2 + t5 = deep := ⟨(2 + t5).toNat, by omega⟩
    have s810 := s9.trans k3
    have o811 : Off [p, g] H8 H11 := (Off.of s810).trans o11
    have hWD11 := o11.get (k3 _ _ hWD9) nWD
    have hfr11 := o811.get g28 nfr
    have hel11 : ElA K H11 e3 (eldOf dfs) := by
      obtain ⟨pz, z1, z2⟩ := hel8
      exact ⟨pz, o811.get z1 he3, paired_mono (fun _ _ z => seqT_off b8.nt o811 z) z2⟩
    have nd0 := h4.symm ▸ hi6
    let d0 : Df := ⟨nm, ps, fl, .none⟩
    have hnm : isNm nm = true ∧ gd (.str nm) = true := names6_nm nm (List.mem_of_getElem? hnm6)
    have hnew : ∀ e ∈ dfs, e.nm ≠ nm := fun e he z => by
      have m1 : e.nm ∈ names6.take i := by rw [← h5]; exact List.mem_map.mpr ⟨e, he, rfl⟩
      rw [z] at m1
      obtain ⟨k, hk, ek⟩ := List.mem_iff_getElem.mp m1
      rw [List.length_take] at hk
      rw [List.getElem_take] at ek
      have e2 := (List.getElem?_eq_some_iff.mp hnm6).2
      have z3 := (List.getElem_inj names6_nd).mp (ek.trans e2.symm)
      omega
    have cw : ClW (clOf dfs d0) ⟨nm, ps.length, fl, eldOf dfs⟩ := clw_def (d := d0) h3 hnm hnew hfl (by show ps.length ≤ 4; omega)
    have wo11 : WdA K H11 WD e3 fr ⟨nm, ps.length, fl, eldOf dfs⟩ FF 22 := ⟨hWD11, hfr11, hel11⟩
    have la11 : LsA K H11 SC (lsOf ps 0 fl) := ⟨pa, o11.get k1 nSCpg, paired_mono (fun _ _ z => seqT_off b10.nt o11 z) k2⟩
    have npsd : ps.Nodup := (List.nodup_append.mp nFp).2.1
    have nSW : SC ≠ WD := fun e => by
      rw [e, hWD9] at hSC
      cases hSC
    have nSf : SC ≠ fr := fun e => by
      rw [e, s9 _ _ g28] at hSC
      cases hSC
    have nWf : WD ≠ fr := fun e => by
      rw [e, g28] at hWD
      cases hWD
    have ne3f : e3 ≠ fr := fun e => by
      obtain ⟨pz, z1, _⟩ := h6
      rw [e, hfr3] at z1
      cases z1
    have he3L : e3 ≠ L := fun z => h7 (by rw [z]; simp)
    have ask11 : Ask K (clOf dfs d0) H11 p g WD e3 fr SC ⟨nm, ps.length, fl, eldOf dfs⟩ FF 22 (lsOf ps 0 fl) deep := by
      refine ⟨b11, wo11, la11, cw, fun q hq => ?_, inN.1, by rw [lsOf_fst]; exact nFp, by rw [scL_of npsd]; exact scF_w ps 0 fl, ⟨by omega, .inr (.inl (by omega))⟩, by omega, by rw [lsOf_len]; omega, ?_, nWD, nfr, ?_⟩
      · have : q.1 ∈ ps := by
          rw [← lsOf_fst ps 0 fl]
          exact List.mem_map.mpr ⟨q, hq, rfl⟩
        exact inN.2 _ this
      · simp only [List.mem_cons, List.not_mem_nil, or_false, not_or] at nSCpg ⊢
        exact ⟨nSCpg.1, nSCpg.2, nSW, nSf⟩
      · simp only [List.mem_cons, List.not_mem_nil, or_false, not_or] at he3 ⊢
        exact ⟨he3.1, he3.2, ne3f⟩
    refine ⟨clOf dfs d0, p, g, WD, e3, fr, SC, ⟨nm, ps.length, fl, eldOf dfs⟩, FF, 22, lsOf ps 0 fl, deep, 101, ?_, .inl rfl, by omega, by omega, by omega, ask11, fun v d bs z F1 r1 H12 b12 o12 wo12 dd12 T1 => ?_⟩
    · rw [← hdeep]
      rfl
    have bd12 := told_bd T1 (by omega) (by omega)
    have hWf11 : ∀ b ∈ [p, g, WD, fr], b ∉ [p, g] → H3 b = none := fun b hb nb => by
      simp only [List.mem_cons, List.not_mem_nil, or_false, not_or] at hb nb
      rcases hb with e | e | e | e
      · exact absurd e nb.1
      · exact absurd e nb.2
      · rw [e]; exact o38.free hWD nWD
      · rw [e]; exact hfr3
    have sub4 : ∀ b ∈ [p, g], b ∈ [p, g, WD, fr] := fun b hb => by
      simp only [List.mem_cons, List.not_mem_nil, or_false] at hb ⊢
      rcases hb with h | h
      · exact .inl h
      · exact .inr (.inl h)
    have nD4 : D ∉ [p, g, WD, fr] := by
      have nDW : D ≠ WD := fun e => by
        rw [e, hWD] at g18
        cases g18
      simp only [List.mem_cons, List.not_mem_nil, or_false, not_or] at nD ⊢
      exact ⟨nD.1, nD.2, nDW, nDfr⟩
    have g112 := o12.get (o11.get (s810 _ _ g18) nD) nD4
    have nt11 := nt4 b11 wo11
    refine ⟨fun σ H13 => ∃ v d, σ = [some (.ref p), some (.int 6), some (.ref L), some (.ref e3), some (.int (0 + (i : Nat))), some (.str nm), some (.int ps.length), some (.ref fr), some (.ref D), some (fallV fl), some (.ref WD), some (.ref SC), some v, none, none] ∧ Dp K H13 v d ∧ BdD (clOf dfs d0) (lsOf ps 0 fl) FF d ∧ Box H13 p g ∧ Off [p, g, WD, fr] H11 H13, ?_, ?_⟩
    · have old : ∀ H13, Box H13 p g → Off [p, g] H12 H13 → ∃ v' d', [some (V.ref p), some (.int 6), some (.ref L), some (.ref e3), some (.int (0 + (i : Nat))), some (.str nm), some (.int ps.length), some (.ref fr), some (.ref D), some (fallV fl), some (.ref WD), some (.ref SC), some v, none, none] = [some (.ref p), some (.int 6), some (.ref L), some (.ref e3), some (.int (0 + (i : Nat))), some (.str nm), some (.int ps.length), some (.ref fr), some (.ref D), some (fallV fl), some (.ref WD), some (.ref SC), some v', none, none] ∧ Dp K H13 v' d' ∧ BdD (clOf dfs d0) (lsOf ps 0 fl) FF d' ∧ Box H13 p g ∧ Off [p, g, WD, fr] H11 H13 :=
        fun H13 b13 o13 => ⟨v, d, rfl, Dp.off dd12 b12.nt T1.nl o13, bd12, b13, o12.trans (o13.mono sub4)⟩
      refine ⟨_, rfl, rfl, _, rfl, and_same (fun e1 G => ?_) (old H12 b12 (Off.refl _ _))⟩
      refine ⟨_, rfl, p, g, 2, rfl, b12, by decide, by decide, fun u1 H13 u10 u12 b13 o13 => ⟨rfl, _, rfl, and_same (fun e2 G2 => ?_) (old H13 b13 o13)⟩⟩
      have wo13 := wo12.off b12.nt nWD nfr he3 o13
      refine ⟨_, rfl, WD, _, rfl, wo13.at.1, fr, _, rfl, .inl (SqL.of wo13.fr), _, _, rfl, rfl, _, rfl, and_same (fun e3' G3 => ?_) (old H13 b13 o13)⟩
      obtain ⟨j, ej⟩ : ∃ j, fl = some j := by
        cases fl with
        | none => cases e1
        | some j => exact ⟨j, rfl⟩
      have hj := hfl j ej
      have l8 := of_decide_eq_true e3'
      rw [List.length_map] at l8
      have g113 := o13.get g112 nD
      have o1113 : Off [p, g, WD, fr] H11 H13 := o12.trans (o13.mono sub4)
      have la13 : LsA K H13 SC (lsOf ps 0 fl) := la11.off nt11 ask11.ap.1 o1113
      have ask13 : Ask K (clOf dfs d0) H13 p g WD e3 fr SC ⟨nm, ps.length, fl, eldOf dfs⟩ F1 r1 (lsOf ps 0 fl) 4 := by
        have rr := T1.po.rr
        obtain ⟨tk1, etk, _⟩ := T1.tk
        refine ⟨b13, wo13, la13, cw, ask11.nm, fun x hx => inN.1 x (by rw [etk]; exact List.mem_append_left _ hx), ask11.nd.sublist (by rw [etk]; exact List.Sublist.append (List.sublist_append_left _ _) (List.Sublist.refl _)), ask11.sw, ⟨by omega, .inr (.inr (by omega))⟩, by omega, by rw [lsOf_len]; omega, ask11.ap⟩
      have efl : fallV fl = .int j := by rw [ej]; rfl
      refine ⟨_, rfl, _, rfl, _, rfl, _, rfl, D, _, (j : Int), .str ps[j], rfl, efl, SqL.of g113, atI_nat (by rw [List.getElem?_map, List.getElem?_eq_getElem hj]; rfl), _, rfl, clOf dfs d0, p, g, WD, e3, fr, SC, ⟨nm, ps.length, fl, eldOf dfs⟩, F1, r1, lsOf ps 0 fl, ps[j], rfl, ask13, by omega, by rw [lsOf_len]; omega, ?_, fun v2 d2 H14 b14 o14 dd14 B2 => ?_⟩
      · have z := lsOf_own (xs := ps) (i := 0) (j := j) (List.getElem?_eq_getElem hj)
        rw [Nat.zero_add] at z
        rw [ej]
        exact z
      · obtain ⟨f2, bs2, z2, w2, hf2, F3, tk2⟩ := B2.wt
        refine ⟨v2, d2, rfl, dd14, ⟨⟨f2, bs2, z2, w2, hf2, ?_⟩, B2.nd, B2.gd, B2.nl, B2.dp, B2.ni⟩, b14, o1113.trans o14⟩
        obtain ⟨tk1, etk, _⟩ := T1.tk
        obtain ⟨tk3, etk3, n3, s3⟩ := tk2
        exact ⟨F3, tk3 ++ tk1, by rw [etk, etk3, List.append_assoc], n3, fun x hx => List.mem_append_left _ (s3 x hx)⟩
    · rintro σ H13 ⟨v, d, rfl, dd13, B, b13, o13⟩
      have o311 : Off [p, g] H3 H11 := o38.trans o811
      have hL11 := o311.get h1 nL
      have nLW : L ≠ WD := fun e => by
        have z := o38.get h1 nL
        rw [e, hWD] at z
        cases z
      have nLf : L ≠ fr := fun e => by
        rw [e, hfr3] at h1
        cases h1
      have nL4 : L ∉ [p, g, WD, fr] := by
        simp only [List.mem_cons, List.not_mem_nil, or_false, not_or] at nL ⊢
        exact ⟨nL.1, nL.2, nLW, nLf⟩
      have hL13 := o13.get hL11 nL4
      have nldf := h3.ok.nl
      simp only [Rl.nl] at nldf
      have dx13 : DpAll K H13 xs (dfs.map Df.data) := DpAll.off (DpAll.off h2 h8.nt nldf o311) nt11 nldf o13
      have g113 := o13.get (o11.get (s810 _ _ g18) nD) nD4
      have lxs : xs.length = i := by rw [DpAll.len h2, List.length_map, h4]
      refine ⟨_, rfl, .inl ⟨rfl, _, SqL.of hL13⟩, _, rfl, _, rfl, D, _, rfl, .inl ⟨SqL.of g113, fun t1 ht1 => ⟨_, rfl, _, rfl, few (by simp), fun T2 hT2 => ?_⟩⟩⟩
      have s14 := (same_new (o := .tup (ps.map V.str)) ht1).trans (same_new (o := .tup [.str nm, .ref t1, fallV fl, v]) hT2)
      have ht14 := (same_new (o := .tup [.str nm, .ref t1, fallV fl, v]) hT2) _ _ (show (upd H13 t1 (.tup (ps.map V.str))) t1 = some (.tup (ps.map V.str)) from upd_same)
      have hT14 : (upd (upd H13 t1 (.tup (ps.map V.str))) T2 (.tup [.str nm, .ref t1, fallV fl, v])) T2 = some (.tup [.str nm, .ref t1, fallV fl, v]) := upd_same
      generalize upd (upd H13 t1 (.tup (ps.map V.str))) T2 (.tup [.str nm, .ref t1, fallV fl, v]) = H14 at s14 ht14 hT14
      have hL14 := s14 _ _ hL13
      refine ⟨L, xs, .ref T2, rfl, rfl, hL14, few (by omega), ?_⟩
      have dnew : Dp K H14 (.ref T2) (Df.data (Df.mk nm ps fl d)) := .tup (.inl (.inl hT14)) (.cons (.str _) (.cons (.tup (.inl (.inl ht14)) (strs_dp ps)) (.cons (fallV_dp fl) (.cons (Dp.up s14 _ _ dd13) .nil))))
      have hdfd : DfD dfs (Df.mk nm ps fl d) := by
        obtain ⟨f2, bs2, z2, w2, hf2, tk2⟩ := B.wt
        exact dfd_of (prev := dfs) (d := ⟨nm, ps, fl, d⟩) hnm hnew inN.2 hfl (by show ps.length ≤ 4; omega) nFp w2 hf2 tk2 B.nd B.gd B.nl B.dp B.ni
      have hdfs := h3.snoc hdfd (by omega)
      have nl2 := hdfs.ok.nl
      simp only [Rl.nl] at nl2
      have dx14 : DpAll K H14 (xs ++ [.ref T2]) ((dfs ++ [Df.mk nm ps fl d]).map Df.data) := by
        rw [List.map_append]
        exact DpAll.app (DpAll.off dx13 (l := []) (fun _ z => nomatch z) nldf (Off.of s14)) (.cons dnew .nil)
      have ntL : NT [L] H14 := .cons (nt_lst hL14) .nil
      have oL : Off [L] H14 (upd H14 L (.lst (xs ++ [.ref T2]))) := Off.put (by simp)
      have dx15 := DpAll.off dx14 ntL nl2 oL
      have hL15 : (upd H14 L (.lst (xs ++ [.ref T2]))) L = some (.lst (xs ++ [.ref T2])) := upd_same
      have b15 := (b13.same s14).put (o := .lst (xs ++ [.ref T2])) nL
      have e3n4 : e3 ∉ [p, g, WD, fr] := by
        have ne3W : e3 ≠ WD := fun e => by
          obtain ⟨pz, z1, _⟩ := hel8
          rw [e, hWD] at z1
          cases z1
        simp only [List.mem_cons, List.not_mem_nil, or_false, not_or] at he3 ⊢
        exact ⟨he3.1, he3.2, ne3W, ne3f⟩
      have o013 : Off [p, g] H H13 := off_fresh (h9.trans o311) sub4 (fun b hb nb => h9.free (hWf11 b hb nb) nb) o13
      have o015 : Off [p, g] H (upd H14 L (.lst (xs ++ [.ref T2]))) := off_new (o013.trans (Off.of s14)) nL hL
      have hel15 : ElA K (upd H14 L (.lst (xs ++ [.ref T2]))) e3 (eldOf dfs) := by
        obtain ⟨pz, z1, z2⟩ := hel11
        have z3 := s14 _ _ (o13.get z1 e3n4)
        refine ⟨pz, by rw [upd_ne he3L]; exact z3, paired_mono (fun _ _ z => seqT_off ntL oL (seqT_up s14 (seqT_off nt11 o13 z))) z2⟩
      generalize upd H14 L (.lst (xs ++ [.ref T2])) = H15 at oL dx15 hL15 b15 o015 hel15
      obtain ⟨pz, z1, z2⟩ := hel15
      have lpz := paired_len z2
      unfold eldOf at lpz
      rw [List.length_map] at lpz
      refine ⟨_, rfl, _, rfl, _, rfl, few (by simp), fun T6 hT6 => ⟨few (by simp), fun B6 hB6 => ⟨e3, B6, pz.map V.ref, [.ref T6], rfl, rfl, ?_, upd_same, few (by rw [List.length_map]; simp only [List.length_cons, List.length_nil]; omega), fun c hc => ?_⟩⟩⟩
      · exact (same_new hB6 _) _ _ ((same_new hT6 _) _ _ z1)
      have e17 := (same_new (o := .tup [.str nm, .int ps.length]) hT6).trans (same_new (o := .lst [.ref T6]) hB6)
      have hT67 : (upd (upd H15 T6 (.tup [.str nm, .int ps.length])) B6 (.lst [.ref T6])) T6 = some (.tup [.str nm, .int ps.length]) := same_new hB6 _ _ _ upd_same
      have s18 := same_new (o := .lst (pz.map V.ref ++ [.ref T6])) hc
      have s1518 := e17.trans s18
      have hT68 := s18 _ _ hT67
      have hc15 : H15 c = none := e17.free hc
      have hc18 : (upd (upd (upd H15 T6 (.tup [.str nm, .int ps.length])) B6 (.lst [.ref T6])) c (.lst (pz.map V.ref ++ [.ref T6]))) c = some (.lst (pz.map V.ref ++ [.ref T6])) := upd_same
      generalize upd (upd (upd H15 T6 (.tup [.str nm, .int ps.length])) B6 (.lst [.ref T6])) c (.lst (pz.map V.ref ++ [.ref T6])) = H18 at s1518 hT68 hc18
      refine ⟨_, _, _, _, _, _, _, _, _, xs ++ [.ref T2], dfs ++ [Df.mk nm ps fl d], c, rfl, s1518 _ _ hL15, DpAll.off dx15 (l := []) (fun _ z => nomatch z) nl2 (Off.of s1518), hdfs, by rw [List.length_append, h4]; rfl, ?_, ⟨pz ++ [T6], by rw [hc18, List.map_append]; rfl, ?_⟩, ?_, b15.same s1518, o015.trans (Off.of s1518)⟩
      · rw [List.map_append, h5, get_take hnm6]
        rfl
      · unfold eldOf
        rw [List.map_append]
        exact paired_app (paired_mono (fun _ _ z => seqT_up s1518 z) z2) (.cons (.inl (.inl hT68)) .nil)
      · intro z
        simp only [List.mem_cons, List.not_mem_nil, or_false] at z
        rcases z with z | z | z
        · exact tr0 b15 hc15 (by rw [z]; simp)
        · exact tr0 b15 hc15 (by rw [z]; simp)
        · rw [z, hL15] at hc15
          cases hc15
  · rintro σ H3 ⟨o4, o5, o6, o7, o8, o9, o10, o11, o12, xs, dfs, e3, rfl, h1, h2, h3, h4, h5, h6, h7, h8, h9⟩
    exact ⟨_, rfl, q L xs dfs H3 h8 h9 hL h1 h2 h3 (by omega) fun d hd => List.mem_of_mem_take (by rw [← h5]; exact List.mem_map.mpr ⟨d, hd, rfl⟩)⟩
end
/-- isinstance(e, c) of a caught error with attributes -/
def rIsED (K : PySem.W.Frag) (D a : Addr) (cls : Value) (d : Option Addr) : List V → Hp → VK → Prop := fun xs H Q => ∃ (dd : Addr) (fs : List (Str × V)) (b : Bool), cls = .ref D ∧ d = some dd ∧ H dd = some (.xd fs) ∧
  ((∃ (c : V) (cv : Value), xs = [.ref a, c] ∧ (∀ u, RelV c u → u = cv) ∧ PySem.W.kitOne K (.ref D) cv = some b) ∨ ∃ (tp : Addr) (cs : List Addr), xs = [.ref a, .ref tp] ∧ H tp = some (.tup (cs.map V.ref)) ∧ PySem.W.kitAny K (.ref D) (cs.map Value.ref) = some b) ∧ Q (.bl b) H
theorem call_isED {X : Cx} {a D : Addr} {oe : Obj} {cls : Value} {d : Option Addr} {pn : List (Addr × Obj)} (C : ExcC X.K D) (hz : Zc cls d oe) (hf : ∃ vs, oe.data = .fields vs) : CallR (X.suite a ((a, oe) :: pn)) (.builtin "isinstance") (rIsED X.K D a cls d) := by
  intro pins s σ H xs us Q I r h
  obtain ⟨dd, fs, b, rfl, rfl, ea, hx, q⟩ := h
  obtain ⟨ha, _⟩ := I.pin (a, oe) (List.mem_append_left _ List.mem_cons_self)
  obtain ⟨vs, hd⟩ := hf
  have hxo : ObjOk X.prog X.w H s.heap dd (.xd fs) := I.hok dd _ ea
  obtain ⟨mA, hns, hr⟩ := hxo
  obtain ⟨od, ho, hl⟩ := lookIn_ns hns
  have J : PySem.W.InstAt s.heap a oe D (some od) := ⟨ha, hz.1, by unfold PySem.W.notCls; rw [hd] <;> rfl, by rw [hz.2]; exact ho⟩
  rcases hx with ⟨c, cv, rfl, hcv, e⟩ | ⟨tp, cs, rfl, ht, e⟩
  · cases r with
    | cons rx rr =>
      cases rr with
      | cons rt rr =>
        cases rr
        cases rx
        have ec := hcv _ rt
        subst ec
        exact PySem.W.kia_one (PySem.W.kitx_exc (hasD_cls C.hd) C.hg C.hk C.hs C.ha C.hn C.ht C.hm) I.kIn J e (fun z => nomatch z) fun tk => ⟨.bl b, H, I.kept (t' := tk) fun _ _ z => z, rfl, q⟩
  · cases r with
    | cons rx rr =>
      cases rr with
      | cons rt rr =>
        cases rr
        cases rx
        cases rt
        obtain ⟨its, r2, ⟨o, ho2, hc, n, hd2⟩, hl2⟩ := I.tuple (.inl (.inl ht) : SqT X.K H tp (cs.map V.ref))
        have ei := vals_refs r2
        subst ei
        obtain ⟨oc, od0, oda, osl⟩ := o
        cases hc
        cases hd2
        exact PySem.W.kia_tup (PySem.W.kitx_exc (hasD_cls C.hd) C.hg C.hk C.hs C.ha C.hn C.ht C.hm) I.kIn J ho2 e (fun z => nomatch z) fun tk => ⟨.bl b, H, I.kept (t' := tk) fun _ _ z => z, rfl, q⟩
/-! a name that a book lacks -/
abbrev sLacks : Stmt := topS 45
theorem scLacks : FnScope ["_law_book", "_law_lost", "_law_found", "e"] ["_law_book", "_law_lost"] (defScope sLacks) := ⟨rfl, rfl, rfl, by decide +kernel, rfl, by decide +kernel, by decide +kernel⟩
structure Er9 (P : Program) (w : World) (K : PySem.W.Frag) (mg : Str → Option Value) (base : Heap) (L CE : Addr) (fI : Addr) (dI : FuncData) : Prop where
  c : EC P w K mg base "NoCell" ["name"] ["name"] CE fI dI
  mL : mg "LoreError" = some (.ref L)
  mK : mg "KeyError" = none
  ex : PySem.W.exmOne K (.ref CE) (.ref CE) = some true
  kL : PySem.W.kitOne K (.ref CE) (.ref L) = some false
  kK : PySem.W.kitOne K (.ref CE) (.type "KeyError") = some true
/-- x[k] of books -/
structure GetB (P : Program) (w : World) (K : PySem.W.Frag) (mg : Str → Option Value) (base : Heap) (C CE fG : Addr) (dG : FuncData) : Prop where
  nq : PySem.W.noSeq K C = true
  m : Meth K C "__getitem__" fG
  fn : PySem.W.fnIn K fG = true
  ok : FnOk P w K mg base (L2.CX P w) 3 fG dG ["self", "name"] (spGetBk K C CE)
  bd : Binds K dG ["self", "name"] []
def spLacks (K : PySem.W.Frag) (C : Addr) : Sp := fun vs H Q _ => ∃ (a : Addr) (x : Str) (dfs : List Df), vs = [.ref a, .str x] ∧ BookAt K C H a dfs ∧ dfs.length ≤ 100 ∧ (dfs.find? fun d => decide (d.nm = x)) = none ∧ gd (.str x) = true ∧ ∀ H', Same H H' → Q (.bl true) H'
section
variable {P : Program} {w : World} {K : PySem.W.Frag} {mg : Str → Option Value} {base : Heap} {f C CE L eI fG : Addr} {fd xI dG : FuncData}
theorem ok_lacks {k : Nat} (F : Fun K "_law_lacks" "_law_lacks" sLacks f fd) (B : Bi mg) (E9 : Er9 P w K mg base L CE eI xI) (GB : GetB P w K mg base C CE fG dG) : FnG P w K mg base CX0 (k + 5) f fd ["_law_book", "_law_lost"] (spLacks K C) := by
  refine okG F scLacks (fun vs H Q E h => ?_) (fun cdv A outer s H vs Q E hgd hr h => ?_)
  · obtain ⟨a, x, dfs, rfl, _⟩ := h
    rfl
  obtain ⟨a, x, dfs, rfl, hbk, hl, hno, hgx, q⟩ := h
  have hr4 : Room 4 _ := hr.mono (by omega)
  have c4 := E9.c
  refine ⟨_, pss_cons (ps_set (i := 2) scLacks.nd rfl (.inl rfl) pe_non)
    (pss_cons (ps_try_as (c := .ref CE) (i := 3) rfl rfl scLacks.nd rfl rfl ⟨by rfl, by decide, .inl c4.mg⟩ takes0
      (fun W pn xe tk _ => pss_one (ps_expr (pe_ixO GB.nq GB.m GB.fn GB.ok GB.bd hr4 (fun σ => passAt tk σ) (pv 0) (pv 1) (fun _ _ => rfl))))
      (fun a oe cls d pn hz hf => pss_one (ps_set (i := 2) scLacks.nd rfl (.inl rfl) (pe_tup (pa_cons (pe_xf c4.X (c4.no "name" (by simp)) hz hf (pv 3))
        (pa_cons (pe_callB (call_isED c4.E hz hf) (by rfl) B.ii b_ii (pa_cons (pv 3) (pa_cons (pe_bltn (by rfl) E9.mK (by decide +kernel) (v := .ty "KeyError") rfl) pa_nil)))
        (pa_cons (pe_callB (call_isED c4.E hz hf) (by rfl) B.ii b_ii (pa_cons (pv 3) (pa_cons (pe_glob (by rfl) E9.mL (v := .ref L) rfl) pa_nil))) pa_nil)))))))
    (pss_one (ps_ret (pe_cmpR op_eq (pe_callB (call_rep hgd hr.units) (by rfl) B.rep b_rep (pa_cons (pv 2) pa_nil)) (pe_callB (call_rep hgd hr.units) (by rfl) B.rep b_rep (pa_cons (pe_tup (pa_cons (pv 1) (pa_cons pe_bl (pa_cons pe_bl pa_nil)))) pa_nil)) (nomark _))))), ?_⟩
  obtain ⟨dx, t, h1, h2⟩ := hbk
  refine ⟨_, rfl, _, rfl, a, dx, _, rfl, h1, a, x, dfs, rfl, ⟨dx, t, h1, h2⟩, hl, fun _ d2 H1 s1 hd0 hd2 => ?_, fun d hd => ?_⟩
  · refine ⟨true, E9.ex, fun _ ae hae => ?_, fun z => nomatch z⟩
    refine ⟨_, rfl, rfl, rfl, d2, _, _, rfl, hd2, lk1, _, rfl, d2, _, true, rfl, rfl, hd2, .inl ⟨.ty "KeyError", .type "KeyError", rfl, fun u hu => hu, E9.kK⟩, _, rfl, d2, _, false, rfl, rfl, hd2, .inl ⟨.ref L, .ref L, rfl, fun u hu => hu, E9.kL⟩, few (by simp), fun t1 ht1 => ?_⟩
    have s2 := same_new (o := .tup [.str x, .bl true, .bl false]) ht1
    have prn : Prn (.tuple [.str x, .bool true, .bool false]) := prn_of (by simp only [gd, gds, Bool.and_eq_true] at hgx ⊢; exact ⟨hgx, trivial, trivial, trivial⟩) (by simp only [nod, nods]; omega) (by simp only [PyData.depth, PyData.depthAll]; omega)
    refine ⟨_, rfl, .ref t1, .tuple [.str x, .bool true, .bool false], rfl, .tup (.inl (.inl upd_same)) (.cons (.str _) (.cons (.bl _) (.cons (.bl _) .nil))), prn, _, rfl, few (by simp), fun t3 ht3 => ?_⟩
    have s3 := same_new (o := .tup [.str x, .bl true, .bl false]) ht3
    refine ⟨.ref t3, .tuple [.str x, .bool true, .bool false], rfl, .tup (.inl (.inl upd_same)) (.cons (.str _) (.cons (.bl _) (.cons (.bl _) .nil))), prn, rfl, ?_⟩
    rw [decide_eq_true rfl]
    exact q _ (s1.trans (s2.trans s3))
  · rw [hno] at hd
    cases hd
end
/-! what is asked of a book -/
abbrev sRight : Stmt := topS 46
theorem scRight : FnScope ["_law_box_here", "_law_some", "_law_handed", "_law_book", "_law_other", "_law_less", "_law_at", "_law_bent", "_law_one", "_law_lost"] ["_law_box_here", "_law_some"] (defScope sRight) := ⟨rfl, rfl, rfl, by decide +kernel, rfl, by decide +kernel, by decide +kernel⟩
theorem passV {X : Cx} {σ : L2.St} : PassesAt (L2.CX X.prog X.w) X σ L2.E0 := fun _ _ _ _ _ _ ⟨_, _, _, _, _, _, _, _, _, _, _, _, h⟩ => h.elim
/-- how a book is made -/
structure MkBk (P : Program) (w : World) (K : PySem.W.Frag) (mg : Str → Option Value) (base : Heap) (lv : Nat) (C fI : Addr) (dI : FuncData) : Prop where
  mkr : Mk K C fI
  ok : FnOk P w K mg base CX0 lv fI dI ["self", "definitions"] (spIniBk K C 12)
  bd : Binds K dI ["self", "definitions"] []
/-- what books answer -/
structure BkF (P : Program) (w : World) (K : PySem.W.Frag) (mg : Str → Option Value) (base : Heap) (C CE fE fL fG : Addr) (dE dL dG : FuncData) : Prop where
  t : BkC K mg C fE
  lm : Meth K C "__len__" fL
  lo : FnOk P w K mg base CX0 3 fL dL ["self"] (spLenBk K C)
  lb : Binds K dL ["self"] []
  g : GetB P w K mg base C CE fG dG
  eo : FnOk P w K mg base CX0 3 fE dE ["self", "other"] (spEqBk K C)
  eb : Binds K dE ["self", "other"] []
theorem eqvAll_len : ∀ {ds es : List PyData}, ds.length ≠ es.length → PyData.eqvAll ds es = false
  | [], [], h => absurd rfl h
  | [], _ :: _, _ => by simp [PyData.eqvAll]
  | _ :: _, [], _ => by simp [PyData.eqvAll]
  | d :: ds, e :: es, h => by
    simp only [PyData.eqvAll, eqvAll_len (ds := ds) (es := es) (by simpa using h), Bool.and_false]
theorem eqvAll_at : ∀ {ds es : List PyData} {i : Nat} {d e : PyData}, ds[i]? = some d → es[i]? = some e → PyData.eqv d e = false → PyData.eqvAll ds es = false
  | [], _, _, _, _, h, _, _ => by simp at h
  | _ :: _, [], _, _, _, _, h, _ => by simp at h
  | d :: ds, e :: es, 0, d2, e2, h1, h2, h3 => by
    have h1 : some d = some d2 := by simpa using h1
    have h2 : some e = some e2 := by simpa using h2
    cases h1
    cases h2
    simp only [PyData.eqvAll, h3, Bool.false_and]
  | d :: ds, e :: es, i + 1, d2, e2, h1, h2, h3 => by
    simp only [PyData.eqvAll, eqvAll_at (i := i) (by simpa using h1) (by simpa using h2) h3, Bool.and_false]
theorem strs_g : ∀ {xs : List Str}, (∀ x ∈ xs, gd (.str x) = true) → gds (xs.map PyData.str) = true ∧ nls (xs.map PyData.str) = true ∧ nods (xs.map PyData.str) = xs.length ∧ PyData.depthAll (xs.map PyData.str) = 0
  | [], _ => ⟨by simp only [List.map_nil, gds], by simp only [List.map_nil, nls], by simp only [List.map_nil, nods, List.length_nil], by simp only [List.map_nil, PyData.depthAll]⟩
  | x :: xs, h => by
    obtain ⟨h1, h2, h3, h4⟩ := strs_g fun y hy => h y (List.mem_cons_of_mem _ hy)
    have hx := h x List.mem_cons_self
    refine ⟨?_, ?_, ?_, ?_⟩
    · simp only [List.map_cons, gds, hx, h1, Bool.and_self]
    · simp only [List.map_cons, nls, nl, h2, Bool.and_self]
    · simp only [List.map_cons, nods, nod, h3, List.length_cons]
      omega
    · simp only [List.map_cons, PyData.depthAll, PyData.depth, h4]
      omega
theorem DfD.data {prev : List Df} {d : Df} (h : DfD prev d) : Rl.gd d.data = true ∧ nod d.data ≤ 660 ∧ d.data.depth ≤ 33 := by
  obtain ⟨g1, g2, g3, g4⟩ := strs_g fun y hy => (h.ok.ps y hy).2
  have hn := h.ok.nm.2
  have hb := h.gd
  have hd := h.dp
  have hm := h.nd
  have hl := h.lp
  have hj := h.ok.fl
  have ff : Rl.gd (fallD d.falls) = true ∧ nod (fallD d.falls) = 1 ∧ (fallD d.falls).depth = 0 := by
    cases e : d.falls with
    | none => exact ⟨rfl, rfl, rfl⟩
    | some j =>
      have := hj j e
      exact ⟨gd_int (Nat.lt_of_lt_of_le (by omega : (j : Int).natAbs < 2 ^ 20) (Nat.pow_le_pow_right (by decide) (by decide))), rfl, rfl⟩
  refine ⟨?_, ?_, ?_⟩
  · simp only [Df.data, Rl.gd, gds, Bool.and_eq_true] at hn ⊢
    exact ⟨hn, g1, ff.1, hb, trivial⟩
  · simp only [Df.data, nod, nods, g3, ff.2.1]
    omega
  · simp only [Df.data, PyData.depth, PyData.depthAll, g4, ff.2.2]
    omega
theorem DfsD.data {dfs : List Df} (h : DfsD dfs) : gds (dfs.map Df.data) = true ∧ nods (dfs.map Df.data) ≤ 660 * dfs.length ∧ PyData.depthAll (dfs.map Df.data) ≤ 33 := by
  have key : ∀ ds : List Df, (∀ d ∈ ds, Rl.gd d.data = true ∧ nod d.data ≤ 660 ∧ d.data.depth ≤ 33) → gds (ds.map Df.data) = true ∧ nods (ds.map Df.data) ≤ 660 * ds.length ∧ PyData.depthAll (ds.map Df.data) ≤ 33 := fun ds => by
    induction ds with
    | nil => exact fun _ => ⟨by simp only [List.map_nil, gds], by simp only [List.map_nil, nods]; omega, by simp only [List.map_nil, PyData.depthAll]; omega⟩
    | cons d ds ih =>
      intro g
      obtain ⟨a1, a2, a3⟩ := g d List.mem_cons_self
      obtain ⟨b1, b2, b3⟩ := ih fun x hx => g x (List.mem_cons_of_mem _ hx)
      refine ⟨?_, ?_, ?_⟩
      · simp only [List.map_cons, gds, a1, b1, Bool.and_self]
      · simp only [List.map_cons, nods, List.length_cons]
        omega
      · simp only [List.map_cons, PyData.depthAll]
        omega
  refine key _ fun d hd => ?_
  obtain ⟨i, hi⟩ := List.mem_iff_getElem?.mp hd
  exact (h.at_ i d hi).data
theorem DfsD.prn {dfs : List Df} (h : DfsD dfs) : Prn (.tuple (dfs.map Df.data)) ∧ Prn (.list (dfs.map Df.data)) ∧ SeqAt.shaped (.tuple (dfs.map Df.data)) = true := by
  obtain ⟨a1, a2, a3⟩ := h.data
  have := h.le
  refine ⟨prn_of (by simpa only [Rl.gd] using a1) (by simp only [nod]; omega) (by simp only [PyData.depth]; omega), prn_of (by simpa only [Rl.gd] using a1) (by simp only [nod]; omega) (by simp only [PyData.depth]; omega), shaped_of (by simpa only [Rl.gd] using a1) (by simp only [PyData.depth]; omega)⟩
theorem DfsD.self {dfs : List Df} (h : DfsD dfs) : PyData.eqv (.tuple (dfs.map Df.data)) (.tuple (dfs.map Df.data)) = true := SeqAt.eqv_refl _ (SeqAt.canLay_of_shaped h.prn.2.2)
/-- the calls of a body depend on names and numbers alone -/
theorem cnF_eld {p q : List Df} (h : eldOf p = eldOf q) (d : Df) : cnF p d = cnF q d := by
  have key : ∀ (p : List Df) (x : Str), (p.find? fun e => decide (e.nm = x)).map (·.ps.length) = ((eldOf p).find? fun e => decide (e.1 = x)).map (·.2) := fun p x => by
    induction p with
    | nil => rfl
    | cons e p ih =>
      unfold eldOf at ih ⊢
      rw [List.map_cons, List.find?_cons, List.find?_cons]
      by_cases z : e.nm = x
      · rw [decide_eq_true z]
        rfl
      · rw [decide_eq_false z]
        exact ih
  funext x
  unfold cnF
  rw [key, key, h]
theorem DfD.eld {p q : List Df} (h : eldOf p = eldOf q) {d : Df} (hd : DfD p d) : DfD q d := by
  have e : clOf p d = clOf q d := by
    unfold clOf
    rw [cnF_eld h]
  have ok := hd.ok
  obtain ⟨f, bs, z, w, r⟩ := ok.wt
  rw [e] at w
  refine ⟨⟨ok.nm, fun e he => ?_, ok.ps, ok.nd, ok.lp, ok.fl, ok.nl, f, bs, z, w, r⟩, hd.nd, hd.gd, hd.dp, hd.lp, hd.ni⟩
  have m : (e.nm, e.ps.length) ∈ eldOf p := by
    rw [h]
    exact List.mem_map.mpr ⟨e, he, rfl⟩
  obtain ⟨e2, he2, ee⟩ := List.mem_map.mp m
  have z := ok.new e2 he2
  rw [(Prod.mk.inj ee).1] at z
  exact z
def bentD (d : Df) : Df := ⟨d.nm, d.ps, none, d77⟩
theorem bent_ok {prev : List Df} {d : Df} (h : DfD prev d) : DfOk 12 prev (bentD d) ∧ Rl.gd (bentD d).data = true := by
  have ok := h.ok
  have gi : gd (.int 77) = true := by decide +kernel
  have w : Drw 12 (clOf prev (bentD d)) 1 (scF d.ps 0 none) 101 d77 [] 1 3 → True := fun _ => trivial
  have w1 := wt_leaf (n := 12) (cl := clOf prev (bentD d)) (sc := scF d.ps 0 none) (h := "int") (sl := "k") (x := .int 77) (by simp) (fm_k 77) (fun z => absurd z (by decide +kernel)) rfl
  refine ⟨⟨ok.nm, ok.new, ok.ps, ok.nd, ok.lp, (fun j e => nomatch e), rfl, 1, [], 1, w1, by omega, by omega, ?_, List.nodup_nil, fun x hx => nomatch hx⟩, ?_⟩
  · have := h.lp
    show d.ps.length + 2 * 1 + nod d77 ≤ 890
    unfold d77
    simp only [nod, nods]
    omega
  · obtain ⟨g1, _⟩ := strs_g fun y hy => (ok.ps y hy).2
    have hn := ok.nm.2
    have gs : gd (.str "int") = true := by decide +kernel
    simp only [Df.data, bentD, fallD, d77, Rl.gd, gds, Bool.and_eq_true] at hn gs gi ⊢
    exact ⟨hn, g1, trivial, ⟨gs, gi, trivial⟩, trivial⟩
theorem eld_set {dfs : List Df} {k : Nat} {d : Df} (h : dfs[k]? = some d) (i : Nat) : eldOf (dfs.take i) = eldOf ((dfs.set k (bentD d)).take i) := by
  unfold eldOf
  rw [List.map_take, List.map_take, List.map_set]
  obtain ⟨hk, e⟩ := List.getElem?_eq_some_iff.mp h
  have e2 : ((bentD d).nm, (bentD d).ps.length) = (dfs.map fun d => (d.nm, d.ps.length))[k]'(by rw [List.length_map]; exact hk) := by
    rw [List.getElem_map, e]
    rfl
  rw [e2, List.set_getElem_self]
/-- one definition is bent -/
theorem bents {dfs : List Df} {k : Nat} {d : Df} (h : DfsD dfs) (hk : dfs[k]? = some d) : DfsOk 12 (dfs.set k (bentD d)) ∧ SeqAt.shaped (.tuple ((dfs.set k (bentD d)).map Df.data)) = true ∧ PyData.eqv (.tuple (dfs.map Df.data)) (.tuple ((dfs.set k (bentD d)).map Df.data)) = false := by
  obtain ⟨lk, ek⟩ := List.getElem?_eq_some_iff.mp hk
  have hd := h.at_ k d hk
  have le := h.le
  refine ⟨⟨by rw [List.length_set]; omega, fun i e he => ?_⟩, ?_, ?_⟩
  · have z := eld_set hk i
    rw [List.getElem?_set] at he
    by_cases q : k = i
    · subst q
      rw [if_pos rfl, if_pos lk] at he
      cases he
      exact (bent_ok (hd.eld z)).1
    · rw [if_neg q] at he
      exact ((h.at_ i e he).eld z).ok
  · have g : ∀ e ∈ dfs.set k (bentD d), Rl.gd e.data = true ∧ e.data.depth ≤ 33 := fun e he => by
      rcases List.mem_or_eq_of_mem_set he with m | m
      · obtain ⟨i, hi⟩ := List.mem_iff_getElem?.mp m
        have z := (h.at_ i e hi).data
        exact ⟨z.1, z.2.2⟩
      · subst m
        refine ⟨(bent_ok hd).2, ?_⟩
        obtain ⟨g1, g2, g3, g4⟩ := strs_g fun y hy => (hd.ok.ps y hy).2
        simp only [Df.data, bentD, fallD, d77, PyData.depth, PyData.depthAll, g4]
        omega
    have key : ∀ ds : List Df, (∀ e ∈ ds, Rl.gd e.data = true ∧ e.data.depth ≤ 33) → gds (ds.map Df.data) = true ∧ PyData.depthAll (ds.map Df.data) ≤ 33 := fun ds => by
      induction ds with
      | nil => exact fun _ => ⟨by simp only [List.map_nil, gds], by simp only [List.map_nil, PyData.depthAll]; omega⟩
      | cons d ds ih =>
        intro g
        obtain ⟨a1, a3⟩ := g d List.mem_cons_self
        obtain ⟨b1, b3⟩ := ih fun x hx => g x (List.mem_cons_of_mem _ hx)
        refine ⟨?_, ?_⟩
        · simp only [List.map_cons, gds, a1, b1, Bool.and_self]
        · simp only [List.map_cons, PyData.depthAll]
          omega
    obtain ⟨k1, k2⟩ := key _ g
    exact shaped_of (by simpa only [Rl.gd] using k1) (by simp only [PyData.depth]; omega)
  · rw [PyData.eqv]
    refine eqvAll_at (i := k) (d := d.data) (e := (bentD d).data) (by rw [List.getElem?_map, hk]; rfl) (by rw [List.getElem?_map, List.getElem?_set_self lk]; rfl) ?_
    unfold Df.data
    rw [PyData.eqv]
    exact eqvAll_at (i := 3) (d := d.body) (e := d77) rfl rfl hd.ni
theorem BookAt.off {K : PySem.W.Frag} {C : Addr} {H H' : Hp} {a : Addr} {dfs : List Df} {l : List Addr} (h : BookAt K C H a dfs) (nt : NT l H) (na : a ∉ l) (hn : nl (.tuple (dfs.map Df.data)) = true) (o : Off l H H') : BookAt K C H' a dfs := by
  obtain ⟨dx, t, h1, h2⟩ := h
  exact ⟨dx, t, o.get h1 na, Dp.off h2 nt hn o⟩
theorem int_prn {n : Nat} (h : n ≤ 5000) : Prn (.int n) := prn_of (gd_int (Nat.lt_of_lt_of_le (by omega : (n : Int).natAbs < 2 ^ 20) (Nat.pow_le_pow_right (by decide) (by decide)))) (by simp only [nod]; omega) (by simp only [PyData.depth]; omega)
theorem same_mk {H : Hp} {x d C : Addr} (hx : H x = none) (hd : H d = none) : Same H (upd (upd H d (.own x)) x (.ins C d [])) := fun b u z => by
  rw [upd_ne (ne_of_none z hx), upd_ne (ne_of_none z hd)]
  exact z
def lost4 : List Str := ["y", "", "turns", "abcdefgh"]
theorem lost4_ok : ∀ x ∈ lost4, gd (.str x) = true ∧ ∀ y ∈ names6, y ≠ x := by decide +kernel
theorem lost_none {dfs : List Df} (h : ∀ d ∈ dfs, d.nm ∈ names6) {x : Str} (hx : x ∈ lost4) : (dfs.find? fun d => decide (d.nm = x)) = none := by
  rw [List.find?_eq_none]
  intro d hd
  have z := (lost4_ok x hx).2 _ (h d hd)
  simp [z]
def spRight (K : PySem.W.Frag) : Sp := fun vs H Q _ => ∃ (p g a : Addr) (xs : List V) (dfs : List Df), vs = [.ref p, .ref a] ∧ Box H p g ∧ H a = some (.lst xs) ∧ a ∉ [p, g] ∧ DpAll K H xs (dfs.map Df.data) ∧ DfsD dfs ∧ 0 < dfs.length ∧ (∀ d ∈ dfs, d.nm ∈ names6) ∧ ∀ H', Box H' p g → Off [p, g] H H' → Q (.bl true) H'
section
variable {P : Program} {w : World} {K : PySem.W.Frag} {mg : Str → Option Value} {base : Heap} {f fT fK C CE fE fL fG fI : Addr} {fd dT dK dE dL dG dI : FuncData}
theorem ok_right {k : Nat} (F : Fun K "_law_right" "_law_right" sRight f fd) (B : Bi mg) (ml : mg "list" = none) (T : Tk P w K mg base fT dT) (BF : BkF P w K mg base C CE fE fL fG dE dL dG) (MB : MkBk P w K mg base (k + 6) C fI dI)
    (GK : FnG P w K mg base CX0 (k + 6) fK dK ["_law_book", "_law_lost"] (spLacks K C)) (kK : PySem.W.keepIn K (.ref fK) = true) (bK : Binds K dK ["_law_book", "_law_lost"] []) (mK : mg "_law_lacks" = some (.ref fK)) : FnG P w K mg base CX0 (k + 8) f fd ["_law_box_here", "_law_some"] (spRight K) := by
  refine okG F scRight (fun vs H Q E h => ?_) (fun cdv A outer s H vs Q E hgd hr h => ?_)
  · obtain ⟨p, g, a, xs, dfs, rfl, _⟩ := h
    rfl
  obtain ⟨p, g, a, xs, dfs, rfl, hb, ha, na, dx, hD, hpos, hn6, q⟩ := h
  have hr1 : Room 1 _ := hr.mono (by omega)
  have hr3 : Room 3 _ := hr.mono (by omega)
  have hr4 : Room (3 + 1) _ := hr.mono (by omega)
  have hr6 : Room (k + 6) _ := hr.mono (by omega)
  have hr7 : Room (k + 6 + 1) _ := hr.mono (by omega)
  refine ⟨_, pss_cons (ps_set (i := 2) scRight.nd rfl (.inl rfl) (pe_callTy call_list_of (by rfl) ml PyProof.Rows.boot_list (pa_cons (pv 1) pa_nil)))
    (pss_cons (ps_asg (pe_tup (pa_cons (pe_make MB.mkr MB.ok hr7 (by rfl) BF.t.mg MB.bd .nil pass0 (pa_cons (pv 2) pa_nil)) (pa_cons (pe_make MB.mkr MB.ok hr7 (by rfl) BF.t.mg MB.bd .nil pass0 (pa_cons (pe_callTy call_tuple_of (by rfl) B.tup b_tup (pa_cons (pv 1) pa_nil)) pa_nil)) pa_nil)))
        (pg_tup rfl (pgs_cons (pg_name (i := 3) scRight.nd rfl (.inr rfl)) (pgs_cons (pg_name (i := 4) scRight.nd rfl (.inl rfl)) pgs_nil))))
    (pss_cons (ps_expr (pe_bm0 PySem.F.plainAttrs_list PySem.F.slot_list_clear PySem.F.type_list_clear mt_clear (pv 2)))
    (pss_cons (ps_if (PW.pt (pw_or (pt_cmpR op_ne (pe_callB (call_rep hgd hr.units) (by rfl) B.rep b_rep (pa_cons (pe_fld (pv 3) rfl) pa_nil)) (pe_callB (call_rep hgd hr.units) (by rfl) B.rep b_rep (pa_cons (pe_callTy call_tuple_of (by rfl) B.tup b_tup (pa_cons (pv 1) pa_nil)) pa_nil)) (nomark _))
        (pw_or1 (pt_cmpR op_ne (pe_callB (call_rep hgd hr.units) (by rfl) B.rep b_rep (pa_cons (pe_callB (call_lenO BF.lm BF.lo BF.lb hr4) (by rfl) B.len PySem.boot_len (pa_cons (pv 3) pa_nil)) pa_nil)) (pe_callB (call_rep hgd hr.units) (by rfl) B.rep b_rep (pa_cons (pe_callB call_len_seq (by rfl) B.len PySem.boot_len (pa_cons (pv 1) pa_nil)) pa_nil)) (nomark _)))))
      (pss_one (ps_ret pe_bl)) pss_nil)
    (pss_cons (ps_if (pt_cmpR op_ne (pe_callB (call_rep hgd hr.units) (by rfl) B.rep b_rep (pa_cons (pe_lc (own := [("_law_one", 8)]) (g := gName 8) (by rfl) scRight.nd (pi_list (pv 1))
          (blkOk_by (own := [("_law_one", 8)]) (N := ["_law_box_here", "_law_some", "_law_handed", "_law_book", "_law_other", "_law_less", "_law_at", "_law_bent", "_law_one", "_law_lost"]) (sc := defScope sRight) (by decide +kernel))
          (fun _ _ _ _ _ => pg_name (i := 8) scRight.nd rfl (Or.inl rfl)) (fun _ _ _ _ _ => pts_nil)
          (fun _ _ _ _ _ => pe_ixO (E := fun _ => L2.E0) BF.g.nq BF.g.m BF.g.fn BF.g.ok BF.g.bd hr4 (fun _ => passV) (pv 3) (pe_ix (ix_tupK (K := K) rfl) (pv 8) pe_int (fun _ _ => rfl)) (fun _ _ => rfl))) pa_nil))
        (pe_callB (call_rep hgd hr.units) (by rfl) B.rep b_rep (pa_cons (pv 1) pa_nil)) (nomark _)) (pss_one (ps_ret pe_bl)) pss_nil)
    (pss_cons (ps_if (pt_not (pt_val (pe_callB (cr_all rfl) (by rfl) B.all (by decide +kernel) (pa_cons (pe_lc (own := [("_law_lost", 9)]) (g := gName 9) (by rfl) scRight.nd (pi_tup (pe_tup (pa_cons pe_str (pa_cons pe_str (pa_cons pe_str (pa_cons pe_str pa_nil))))))
          (blkOk_by (own := [("_law_lost", 9)]) (N := ["_law_box_here", "_law_some", "_law_handed", "_law_book", "_law_other", "_law_less", "_law_at", "_law_bent", "_law_one", "_law_lost"]) (sc := defScope sRight) (by decide +kernel))
          (fun _ _ _ _ _ => pg_name (i := 9) scRight.nd rfl (Or.inl rfl)) (fun _ _ _ _ _ => pts_nil)
          (fun _ _ _ _ _ => pe_callG GK hgd hr6 (by rfl) mK kK bK .nil pass0 (pa_cons (pv 3) (pa_cons (pv 9) pa_nil)))) pa_nil)))) (pss_one (ps_ret pe_bl)) pss_nil)
    (pss_cons (ps_set (i := 5) scRight.nd rfl (.inl rfl) (pe_make MB.mkr MB.ok hr7 (by rfl) BF.t.mg MB.bd .nil pass0 (pa_cons (pe_slice sl_list (pv 1) po_none (po_some (pe_op op_sub (pe_callB call_len_seq (by rfl) B.len PySem.boot_len (pa_cons (pv 1) pa_nil)) pe_int))) pa_nil)))
    (pss_cons (ps_set (i := 6) scRight.nd rfl (.inl rfl) (pe_call T.ok hr1 (by rfl) T.mg T.kp T.bd .nil pass0 (pa_cons (pv 0) (pa_cons (pe_callB call_len_seq (by rfl) B.len PySem.boot_len (pa_cons (pv 1) pa_nil)) pa_nil))))
    (pss_cons (ps_set (i := 7) scRight.nd rfl (.inl rfl) (pe_make MB.mkr MB.ok hr7 (by rfl) BF.t.mg MB.bd .nil pass0 (pa_cons (pe_op op_cat (pe_op op_cat (pe_slice sl_list (pv 1) po_none (po_some (pv 6)))
        (pe_lst (pa_cons (pe_op op_catT (pe_slice sl_tup (pe_ix ix_list (pv 1) (pv 6) (fun _ _ => rfl)) po_none (po_some pe_int)) (pe_tup (pa_cons pe_non (pa_cons (pe_tup (pa_cons pe_str (pa_cons pe_int pa_nil))) pa_nil)))) pa_nil)))
        (pe_slice sl_list (pv 1) (po_some (pe_op op_add (pv 6) pe_int)) po_none)) pa_nil)))
    (pss_one (ps_ret (pe_cmpR (op_eqD hr.units) (pe_lst (pa_cons (pe_cmpR (op_eqL BF.t.o BF.eo BF.eb hr3) (pv 3) (pv 4) (nomark _)) (pa_cons (pe_cmpR (op_neL BF.t.o BF.eo BF.eb hr4) (pv 3) (pv 4) (nomark _)) (pa_cons (pe_cmpR (op_eqL BF.t.o BF.eo BF.eb hr3) (pv 3) (pv 5) (nomark _)) (pa_cons (pe_cmpR (op_eqL BF.t.o BF.eo BF.eb hr3) (pv 3) (pv 7) (nomark _)) pa_nil)))))
        (pe_lst (pa_cons pe_bl (pa_cons pe_bl (pa_cons pe_bl (pa_cons pe_bl pa_nil))))) (nomark _)))))))))))), ?_⟩
  have nldf := hD.ok.nl
  have nls0 := nldf
  simp only [Rl.nl] at nls0
  have lxs := DpAll.len dx
  rw [List.length_map] at lxs
  have hle := hD.le
  obtain ⟨prT, prL, shT⟩ := hD.prn
  refine ⟨_, rfl, a, xs, rfl, .inl (SqL.of ha), fun h0 hh0 => ?_⟩
  have s1 := same_new (o := .lst xs) hh0
  have h01 : (upd H h0 (.lst xs)) h0 = some (.lst xs) := upd_same
  generalize upd H h0 (.lst xs) = H1 at s1 h01
  refine ⟨_, rfl, fun x1 d1 hx1 hd1 ne1 => ⟨x1, d1, h0, xs, dfs, rfl, upd_same, .inl (SqL.of (same_mk hx1 hd1 _ _ h01)), ne_of_none h01 hx1, DpAll.off dx (l := []) (fun _ z => nomatch z) nls0 (Off.of (s1.trans (same_mk hx1 hd1))), hD.ok, fun H2 o2 bk2 => ⟨rfl, ?_⟩⟩⟩
  have s2 : Same H1 H2 := same_off (same_mk hx1 hd1) (l := [x1]) (fun b hb => by rw [List.mem_singleton.mp hb]; exact hx1) o2
  have ha2 := s2 _ _ (s1 _ _ ha)
  refine ⟨_, rfl, a, xs, rfl, .inl ⟨SqL.of ha2, fun t1 ht1 => ?_⟩⟩
  have s3 := same_new (o := .tup xs) ht1
  have ht11 : (upd H2 t1 (.tup xs)) t1 = some (.tup xs) := upd_same
  generalize upd H2 t1 (.tup xs) = H3 at s3 ht11
  refine fun x2 d2 hx2 hd2 ne2 => ⟨x2, d2, t1, xs, dfs, rfl, upd_same, .inr (.inl (.inl (same_mk hx2 hd2 _ _ ht11))), ne_of_none ht11 hx2, DpAll.off dx (l := []) (fun _ z => nomatch z) nls0 (Off.of (s1.trans (s2.trans (s3.trans (same_mk hx2 hd2))))), hD.ok, fun H4 o4 bk4 => ⟨rfl, few (by simp), fun T5 hT5 => ?_⟩⟩
  have s4 : Same H3 H4 := same_off (same_mk hx2 hd2) (l := [x2]) (fun b hb => by rw [List.mem_singleton.mp hb]; exact hx2) o4
  have s5 := same_new (o := .tup [.ref x1, .ref x2]) hT5
  have s25 := s3.trans (s4.trans s5)
  refine ⟨T5, _, rfl, .inl (.inl upd_same), rfl, _, _, rfl, _, _, rfl, rfl, ?_⟩
  have bkA := bk2.up s25
  have bkB := bk4.up s5
  have h05 := (s2.trans s25) _ _ h01
  have s05 := s1.trans (s2.trans s25)
  generalize upd H4 T5 (.tup [.ref x1, .ref x2]) = H5 at s5 s25 bkA bkB h05 s05
  refine ⟨_, rfl, .inl ⟨rfl, _, SqL.of h05⟩, h0, xs, rfl, rfl, h05, ?_⟩
  have nt5 : NT [h0] H5 := .cons (nt_lst h05) .nil
  have o6 : Off [h0] H5 (upd H5 h0 (.lst [])) := Off.put (by simp)
  have nx1 : x1 ≠ h0 := (ne_of_none h01 hx1).symm
  have nx2 : x2 ≠ h0 := (ne_of_none ((s2.trans s3) _ _ h01) hx2).symm
  have bk1 := bkA.off nt5 (by simp [nx1]) nldf o6
  have bk2' := bkB.off nt5 (by simp [nx2]) nldf o6
  have s06 : Same H (upd H5 h0 (.lst [])) := same_off s05 (l := [h0]) (fun b hb => by rw [List.mem_singleton.mp hb]; exact hh0) o6
  generalize upd H5 h0 (.lst []) = H6 at bk1 bk2' s06
  have ha6 := s06 _ _ ha
  have dx6 := DpAll.off dx (l := []) (fun _ z => nomatch z) nls0 (Off.of s06)
  have bk1o := bk1
  obtain ⟨e1, t6, i1, i2⟩ := bk1
  have cl := BF.t.o.c.cl
  refine ⟨_, rfl, x1, C, e1, _, .ref t6, rfl, i1, cl, BF.t.nd, bkf_d _, .ref t6, .tuple (dfs.map Df.data), rfl, i2, prT, _, rfl, a, xs, rfl, .inl ⟨SqL.of ha6, fun t7 ht7 => ?_⟩⟩
  have s7 := same_new (o := .tup xs) ht7
  have bk17 := bk1o.up s7
  refine ⟨.ref t7, .tuple (dfs.map Df.data), rfl, .tup (.inl (.inl upd_same)) (DpAll.off dx6 (l := []) (fun _ z => nomatch z) nls0 (Off.of s7)), prT, rfl, _, rfl, ?_⟩
  rw [decide_eq_true rfl]
  refine iteF ?_
  have ha7 := s7 _ _ ha6
  generalize upd H6 t7 (.tup xs) = H7 at s7 bk17 ha7
  have bk17o := bk17
  obtain ⟨e7, t7', j1, j2⟩ := bk17
  refine ⟨_, rfl, x1, e7, _, rfl, j1, x1, dfs, rfl, bk17o, fun H8 s8 => ⟨dfs.length, rfl, Nat.lt_of_le_of_lt hle (by decide), .int dfs.length, .int dfs.length, rfl, .int _, int_prn (by omega), _, rfl, a, xs, rfl, .inl (SqL.of (s8 _ _ ha7)), .int xs.length, .int xs.length, rfl, .int _, int_prn (by omega), rfl, _, rfl, ?_⟩⟩
  rw [lxs, decide_eq_true rfl]
  refine iteF ?_
  have s08 := s06.trans (s7.trans s8)
  have bk8 := bk17o.up s8
  have bk28 := bk2'.up (s7.trans s8)
  have ha8 := s08 _ _ ha
  have dx8 := DpAll.off dx (l := []) (fun _ z => nomatch z) nls0 (Off.of s08)
  refine ⟨_, rfl, a, rfl, ⟨_, SqL.of ha8⟩, fun D hD0 => ?_⟩
  refine lc_list (K := K) (a := a) (xs := xs) (fun i H9 => ∃ vs, H9 D = some (.lst vs) ∧ vs.length = i ∧ DpAll K H9 vs ((dfs.take i).map Df.data) ∧ Same H8 H9) ⟨[], upd_same, rfl, .nil, same_new hD0 _⟩ ?_ ?_ ?_
  · rintro i H9 hi ⟨vs, g1, g2, g3, g4⟩
    exact SqL.of (g4 _ _ ha8)
  · rintro i y H9 hy ⟨vs, g1, g2, g3, g4⟩
    obtain ⟨d0, ed0, dy⟩ := DpAll.get dx8 hy
    rw [List.getElem?_map] at ed0
    obtain ⟨df, edf, rfl⟩ := Option.map_eq_some_iff.mp ed0
    obtain ⟨b, ws, eds, rfl, e2, hb2, dw⟩ := tup_of (Dp.off dy (l := []) (fun _ z => nomatch z) (nls_mem nls0 (List.mem_map.mpr ⟨df, List.mem_of_getElem? edf, rfl⟩)) (Off.of g4)) rfl
    cases e2
    obtain ⟨v0, ws, rfl, _, e0, dw⟩ := dpall_cons dw
    cases e0
    have bk9 := bk8.up g4
    have bk9o := bk9
    obtain ⟨e9, t9, k1, k2⟩ := bk9
    have lv := (List.getElem?_eq_some_iff.mp edf).1
    refine ⟨rfl, _, rfl, _, rfl, b, _, 0, _, rfl, rfl, hb2, atI_nat (j := 0) rfl, x1, e9, _, rfl, k1, x1, df.nm, dfs, rfl, bk9o, by omega, fun z => ?_, fun d hd v H10 s10 dv => ?_⟩
    · rw [find_df hD.nd (List.mem_of_getElem? edf)] at z
      cases z
    · rw [find_df hD.nd (List.mem_of_getElem? edf)] at hd
      cases hd
      have hD10 := s10 _ _ g1
      have ntD : NT [D] H10 := .cons (nt_lst hD10) .nil
      have oD : Off [D] H10 (upd H10 D (.lst (vs ++ [v]))) := Off.put (by simp)
      have nlt : nls ((dfs.take i).map Df.data) = true := by
        have z := (hD.less i).ok.nl
        simpa only [Rl.nl] using z
      have nl1 := nls_mem nls0 (List.mem_map.mpr ⟨df, List.mem_of_getElem? edf, rfl⟩)
      refine ⟨vs, hD10, few (by omega), vs ++ [v], upd_same, by rw [List.length_append, g2]; rfl, ?_, same_off (g4.trans s10) (l := [D]) (fun b hb => by rw [List.mem_singleton.mp hb]; exact hD0) oD⟩
      rw [get_take edf, List.map_append]
      exact DpAll.app (DpAll.off (DpAll.off g3 (l := []) (fun _ z => nomatch z) nlt (Off.of s10)) ntD nlt oD) (.cons (Dp.off dv ntD nl1 oD) .nil)
  rintro H9 ⟨vs, g1, g2, g3, g4⟩
  rw [lxs, List.take_length] at g3
  have dx9 := DpAll.off dx8 (l := []) (fun _ z => nomatch z) nls0 (Off.of g4)
  refine ⟨.ref D, .list (dfs.map Df.data), rfl, .lst (SqL.of g1) g3, prL, _, rfl, .ref a, .list (dfs.map Df.data), rfl, .lst (SqL.of (g4 _ _ ha8)) dx9, prL, rfl, _, rfl, ?_⟩
  rw [decide_eq_true rfl]
  refine iteF ?_
  have s09 := s08.trans g4
  have bk19 := bk8.up g4
  have bk29 := bk28.up g4
  refine ⟨few (by simp), fun TT hTT => ⟨TT, rfl, ⟨_, .inl (.inl upd_same)⟩, fun D2 hD2 => ?_⟩⟩
  have s10 := same_new (o := .tup [.str "y", .str "", .str "turns", .str "abcdefgh"]) hTT
  have hTT1 : (upd H9 TT (.tup [.str "y", .str "", .str "turns", .str "abcdefgh"])) TT = some (.tup (lost4.map V.str)) := upd_same
  generalize upd H9 TT (.tup [.str "y", .str "", .str "turns", .str "abcdefgh"]) = H10 at s10 hTT1 hD2
  refine lc_it (walk_tup (K := K) (a := TT) (xs := lost4.map V.str)) (fun i H11 => H11 D2 = some (.lst ((List.replicate i true).map V.bl)) ∧ Same H10 H11) ⟨upd_same, same_new hD2 _⟩ ?_ ?_ ?_
  · rintro i H11 hi ⟨m1, m2⟩
    exact .inl (.inl (m2 _ _ hTT1))
  · rintro i y H11 H12 hi ⟨m1, m2⟩ ⟨rfl, hy⟩
    rw [List.getElem?_map] at hy
    obtain ⟨x, ex, rfl⟩ := Option.map_eq_some_iff.mp hy
    have mx := List.mem_of_getElem? ex
    have li := (List.getElem?_eq_some_iff.mp ex).1
    refine ⟨rfl, _, rfl, _, rfl, x1, x, dfs, rfl, (bk19.up s10).up m2, by omega, lost_none hn6 mx, (lost4_ok x mx).1, fun H13 s13 => ?_⟩
    have hD13 := s13 _ _ m1
    refine ⟨_, hD13, few (by rw [List.length_map, List.length_replicate]; have li4 : i < 4 := li; omega), ?_, same_off (m2.trans s13) (l := [D2]) (fun b hb => by rw [List.mem_singleton.mp hb]; exact hD2) (Off.put (by simp))⟩
    rw [upd_same, List.replicate_succ', List.map_append]
    rfl
  rintro H11 ⟨m1, m2⟩
  refine ⟨D2, List.replicate 4 true, rfl, SqL.of m1, _, rfl, ?_⟩
  rw [show (List.replicate 4 true).all id = true from rfl]
  refine iteF ?_
  have s011 := s09.trans (s10.trans m2)
  have bk111 := (bk19.up s10).up m2
  have bk211 := (bk29.up s10).up m2
  have ha11 := s011 _ _ ha
  refine ⟨_, rfl, _, rfl, a, xs, rfl, .inl (SqL.of ha11), _, _, rfl, rfl, _, rfl, a, xs, rfl, SqL.of ha11, fun q1 hq1 => ?_⟩
  rw [cutV_take xs (by omega) (by omega)]
  have s12 := same_new (o := .lst (xs.take ((xs.length : Int) - 1).toNat)) hq1
  have hq12 : (upd H11 q1 (.lst (xs.take ((xs.length : Int) - 1).toNat))) q1 = some (.lst (xs.take ((xs.length : Int) - 1).toNat)) := upd_same
  generalize upd H11 q1 (.lst (xs.take ((xs.length : Int) - 1).toNat)) = H12 at s12 hq12
  have dx12 := DpAll.off dx (l := []) (fun _ z => nomatch z) nls0 (Off.of (s011.trans s12))
  have dls : DpAll K H12 (xs.take ((xs.length : Int) - 1).toNat) ((dfs.take ((xs.length : Int) - 1).toNat).map Df.data) := by
    rw [List.map_take]
    exact (DpAll.parts dx12 _).1
  have hless := hD.less ((xs.length : Int) - 1).toNat
  have llt : (dfs.take ((xs.length : Int) - 1).toNat).length = dfs.length - 1 := by
    rw [List.length_take]
    omega
  generalize dfs.take ((xs.length : Int) - 1).toNat = dls0 at dls hless llt
  generalize xs.take ((xs.length : Int) - 1).toNat = xls at dls hq12
  have nlsL := hless.ok.nl
  simp only [Rl.nl] at nlsL
  refine fun x3 d3 hx3 hd3 ne3 => ⟨x3, d3, q1, xls, dls0, rfl, upd_same, .inl (SqL.of (same_mk hx3 hd3 _ _ hq12)), ne_of_none hq12 hx3, DpAll.off dls (l := []) (fun _ z => nomatch z) nlsL (Off.of (same_mk hx3 hd3)), hless.ok, fun H13 o13 bk3 => ⟨rfl, ?_⟩⟩
  have s13 : Same H12 H13 := same_off (same_mk hx3 hd3) (l := [x3]) (fun b hb => by rw [List.mem_singleton.mp hb]; exact hx3) o13
  have s013 := s011.trans (s12.trans s13)
  have ha13 := s013 _ _ ha
  have b13 := hb.same s013
  refine ⟨_, rfl, _, rfl, a, xs, rfl, .inl (SqL.of ha13), p, g, _, rfl, b13, by omega, ?_, fun r H14 r0 rN b14 o14 => ?_⟩
  · show xs.length < 2 ^ 200
    exact Nat.lt_of_le_of_lt (show xs.length ≤ 6 by omega) (by decide)
  obtain ⟨j, rfl⟩ : ∃ j : Nat, r = j := ⟨r.toNat, by omega⟩
  have hj : j < dfs.length := by omega
  have nt13 := b13.nt
  have ha14 := o14.get ha13 na
  have inpg : ∀ {HX : Hp} {z dz : Addr} {fz : List (Str × V)}, Box HX p g → HX z = some (.ins C dz fz) → z ∉ [p, g] := fun bx hz zz => by
    obtain ⟨_, _, _, _, y1, y2, _⟩ := bx.ex
    simp only [List.mem_cons, List.not_mem_nil, or_false] at zz
    rcases zz with e | e
    · rw [e, y1] at hz; cases hz
    · rw [e, y2] at hz; cases hz
  have bkO : ∀ {z : Addr} {es : List Df}, BookAt K C H13 z es → nl (.tuple (es.map Df.data)) = true → BookAt K C H14 z es := fun hz hn => by
    have hz2 := hz
    obtain ⟨dz, tz, z1, z2⟩ := hz
    exact hz2.off nt13 (inpg b13 z1) hn o14
  have bk114 := bkO ((bk111.up s12).up s13) nldf
  have bk214 := bkO ((bk211.up s12).up s13) nldf
  have bk314 := bkO bk3 hless.ok.nl
  have o014 : Off [p, g] H H14 := (Off.of s013).trans o14
  have dx14 := DpAll.off dx hb.nt nls0 o014
  have ej : dfs[j]? = some dfs[j] := List.getElem?_eq_getElem hj
  generalize dfs[j] = df at ej
  obtain ⟨xj, exj⟩ : ∃ xj, xs[j]? = some xj := ⟨xs[j]'(by omega), List.getElem?_eq_getElem (by omega)⟩
  obtain ⟨bo, bs, be⟩ := bents hD ej
  have hdj := hD.at_ j df ej
  refine ⟨_, rfl, _, rfl, (j : Int), rfl, a, xs, rfl, SqL.of ha14, fun q2 hq2 => ?_⟩
  rw [cutV_take xs (by omega) (by omega), Int.toNat_natCast]
  have s15 := same_new (o := .lst (xs.take j)) hq2
  have hq15 : (upd H14 q2 (.lst (xs.take j))) q2 = some (.lst (xs.take j)) := upd_same
  have ha15 := s15 _ _ ha14
  have dx15 := DpAll.off dx14 (l := []) (fun _ z => nomatch z) nls0 (Off.of s15)
  generalize upd H14 q2 (.lst (xs.take j)) = H15 at s15 hq15 ha15 dx15
  obtain ⟨d0, ed0, dy⟩ := DpAll.get dx15 exj
  rw [List.getElem?_map, ej] at ed0
  cases ed0
  obtain ⟨tb, ws, eds, rfl, e2, htb, dw⟩ := tup_of dy rfl
  cases e2
  obtain ⟨v0, ws, rfl, dw0, e0, dw⟩ := dpall_cons dw
  obtain ⟨v1, ws, rfl, dw1, e1', dw⟩ := dpall_cons dw
  obtain ⟨v2, ws, rfl, dw2, e2', dw⟩ := dpall_cons dw
  obtain ⟨v3, ws, rfl, dw3, e3', dw⟩ := dpall_cons dw
  cases dw
  refine ⟨_, rfl, _, rfl, a, xs, (j : Int), .ref tb, rfl, rfl, SqL.of ha15, atI_nat exj, 2, rfl, tb, _, rfl, htb, ?_, fun q3 hq3 => ?_⟩
  · rintro ⟨_, e⟩
    rw [show (2 : Int) = ((2 : Nat) : Int) from rfl, HT.sIx_nat] at e
    simp only [List.length_cons, List.length_nil] at e
    omega
  rw [cutV_take _ (by decide) (by simp only [List.length_cons, List.length_nil]; omega), show (2 : Int).toNat = 2 from rfl, show [v0, v1, v2, v3].take 2 = [v0, v1] from rfl]
  have s16 := same_new (o := .tup [v0, v1]) hq3
  have hq16 : (upd H15 q3 (.tup [v0, v1])) q3 = some (.tup [v0, v1]) := upd_same
  generalize upd H15 q3 (.tup [v0, v1]) = H16 at s16 hq16
  refine ⟨few (by simp), fun T7 hT7 => ⟨few (by simp), fun T8 hT8 => ?_⟩⟩
  have s17 := same_new (o := .tup [.str "int", .int 77]) hT7
  have s18 := same_new (o := .tup [.non, .ref T7]) hT8
  have hT78 := s18 _ _ (show (upd H16 T7 (.tup [.str "int", .int 77])) T7 = some (.tup [.str "int", .int 77]) from upd_same)
  have hT88 : (upd (upd H16 T7 (.tup [.str "int", .int 77])) T8 (.tup [.non, .ref T7])) T8 = some (.tup [.non, .ref T7]) := upd_same
  have hq18 := (s17.trans s18) _ _ hq16
  have s1618 := s17.trans s18
  generalize upd (upd H16 T7 (.tup [.str "int", .int 77])) T8 (.tup [.non, .ref T7]) = H18 at s1618 hT78 hT88 hq18
  refine ⟨q3, T8, [v0, v1], [.non, .ref T7], rfl, rfl, .inl (.inl hq18), .inl (.inl hT88), by simp, few (by simp), (fun z => nomatch z), fun _ q4 hq4 => ⟨few (by simp), fun LL hLL => ?_⟩⟩
  have s19 := same_new (o := .tup ([v0, v1] ++ [.non, .ref T7])) hq4
  have s20 := same_new (o := .lst [.ref q4]) hLL
  have hq420 := s20 _ _ (show (upd H18 q4 (.tup ([v0, v1] ++ [.non, .ref T7]))) q4 = some (.tup ([v0, v1] ++ [.non, .ref T7])) from upd_same)
  have hLL20 : (upd (upd H18 q4 (.tup ([v0, v1] ++ [.non, .ref T7]))) LL (.lst [.ref q4])) LL = some (.lst [.ref q4]) := upd_same
  have hT720 := (s19.trans s20) _ _ hT78
  have s1520 := s16.trans (s1618.trans (s19.trans s20))
  generalize upd (upd H18 q4 (.tup ([v0, v1] ++ [.non, .ref T7]))) LL (.lst [.ref q4]) = H20 at s1520 hq420 hLL20 hT720
  have hq220 := s1520 _ _ hq15
  refine ⟨q2, LL, xs.take j, [.ref q4], rfl, rfl, hq220, hLL20, few (by rw [List.length_take]; simp only [List.length_cons, List.length_nil]; omega), fun q5 hq5 => ?_⟩
  have s21 := same_new (o := .lst (xs.take j ++ [.ref q4])) hq5
  have hq521 : (upd H20 q5 (.lst (xs.take j ++ [.ref q4]))) q5 = some (.lst (xs.take j ++ [.ref q4])) := upd_same
  have hq421 := s21 _ _ hq420
  have hT721 := s21 _ _ hT720
  have ha21 := s21 _ _ (s1520 _ _ ha15)
  have s1521 := s1520.trans s21
  generalize upd H20 q5 (.lst (xs.take j ++ [.ref q4])) = H21 at s1521 hq521 hq421 hT721 ha21
  refine ⟨_, rfl, _, rfl, _, _, rfl, rfl, (j : Int) + 1, rfl, a, xs, rfl, SqL.of ha21, fun q6 hq6 => ?_⟩
  rw [cutV_drop xs (by omega) (by omega), show ((j : Int) + 1).toNat = j + 1 by omega]
  have s22 := same_new (o := .lst (xs.drop (j + 1))) hq6
  have hq622 : (upd H21 q6 (.lst (xs.drop (j + 1)))) q6 = some (.lst (xs.drop (j + 1))) := upd_same
  have hq522 := s22 _ _ hq521
  refine ⟨q5, q6, xs.take j ++ [.ref q4], xs.drop (j + 1), rfl, rfl, hq522, hq622, few (by rw [List.length_append, List.length_take, List.length_drop]; simp only [List.length_cons, List.length_nil]; omega), fun q7 hq7 => ?_⟩
  have s23 := s22.trans (same_new (o := .lst (xs.take j ++ [.ref q4] ++ xs.drop (j + 1))) hq7)
  have hq723 : (upd (upd H21 q6 (.lst (xs.drop (j + 1)))) q7 (.lst (xs.take j ++ [.ref q4] ++ xs.drop (j + 1)))) q7 = some (.lst (xs.take j ++ [.ref q4] ++ xs.drop (j + 1))) := upd_same
  have hq423 := s23 _ _ hq421
  have hT723 := s23 _ _ hT721
  have s1523 := s1521.trans s23
  generalize upd (upd H21 q6 (.lst (xs.drop (j + 1)))) q7 (.lst (xs.take j ++ [.ref q4] ++ xs.drop (j + 1))) = H23 at s1523 hq723 hq423 hT723
  have dx23 := DpAll.off dx15 (l := []) (fun _ z => nomatch z) nls0 (Off.of s1523)
  have edl : (dfs.set j (bentD df)).map Df.data = (dfs.map Df.data).take j ++ [(bentD df).data] ++ (dfs.map Df.data).drop (j + 1) := by
    rw [List.set_eq_take_append_cons_drop, if_pos hj, List.map_append, List.map_cons, List.map_take, List.map_drop]
    simp
  have dq4 : Dp K H23 (.ref q4) (bentD df).data := by
    have nl1 := nls_mem nls0 (List.mem_map.mpr ⟨df, List.mem_of_getElem? ej, rfl⟩)
    simp only [Df.data, Rl.nl, nls, Bool.and_eq_true] at nl1
    have a0 : Dp K H23 v0 (.str df.nm) := Dp.off e0 (l := []) (fun _ z => nomatch z) rfl (Off.of s1523)
    have a1 : Dp K H23 v1 (.tuple (df.ps.map PyData.str)) := Dp.off e1' (l := []) (fun _ z => nomatch z) (by simpa only [Rl.nl] using nl1.2.1) (Off.of s1523)
    exact .tup (.inl (.inl hq423)) (.cons a0 (.cons a1 (.cons .non (.cons (.tup (.inl (.inl hT723)) (.cons (.str _) (.cons (.int _) .nil))) .nil))))
  have dq7 : DpAll K H23 (xs.take j ++ [.ref q4] ++ xs.drop (j + 1)) ((dfs.set j (bentD df)).map Df.data) := by
    rw [edl]
    exact DpAll.app (DpAll.app (DpAll.parts dx23 j).1 (.cons dq4 .nil)) (DpAll.parts dx23 (j + 1)).2
  have nlb := bo.nl
  have nlb2 := nlb
  simp only [Rl.nl] at nlb2
  refine fun x4 d4 hx4 hd4 ne4 => ⟨x4, d4, q7, _, dfs.set j (bentD df), rfl, upd_same, .inl (SqL.of (same_mk hx4 hd4 _ _ hq723)), ne_of_none hq723 hx4, DpAll.off dq7 (l := []) (fun _ z => nomatch z) nlb2 (Off.of (same_mk hx4 hd4)), bo, fun H24 o24 bk4 => ⟨rfl, ?_⟩⟩
  have s24 : Same H23 H24 := same_off (same_mk hx4 hd4) (l := [x4]) (fun b hb => by rw [List.mem_singleton.mp hb]; exact hx4) o24
  have s1424 := s15.trans (s1523.trans s24)
  have o024 : Off [p, g] H H24 := o014.trans (Off.of s1424)
  have b24 := b14.same s1424
  have bkA24 := bk114.up s1424
  have bkB24 := bk214.up s1424
  have bkC24 := bk314.up s1424
  have ins : ∀ {H' : Hp} {z : Addr} {es : List Df}, BookAt K C H' z es → ∃ dz fz, H' z = some (.ins C dz fz) := fun ⟨dz, tz, z1, _⟩ => ⟨dz, _, z1⟩
  obtain ⟨dA, fA, hA⟩ := ins bkA24
  obtain ⟨dB, fB, hB⟩ := ins bkB24
  refine ⟨_, rfl, _, rfl, x1, dA, fA, rfl, hA, .inr ⟨x2, dB, fB, rfl, hB⟩, x1, x2, dfs, dfs, rfl, bkA24, bkB24, shT, shT, fun H25 s25 => ⟨_, rfl, ?_⟩⟩
  have bkA25 := bkA24.up s25
  have bkB25 := bkB24.up s25
  obtain ⟨dA2, fA2, hA2⟩ := ins bkA25
  obtain ⟨dB2, fB2, hB2⟩ := ins bkB25
  refine ⟨_, rfl, _, rfl, x1, dA2, fA2, rfl, hA2, .inr ⟨x2, dB2, fB2, rfl, hB2⟩, x1, x2, dfs, dfs, rfl, bkA25, bkB25, shT, shT, fun H26 s26 => ⟨_, rfl, ?_⟩⟩
  have bkA26 := bkA25.up s26
  have bkC26 := (bkC24.up s25).up s26
  obtain ⟨dA3, fA3, hA3⟩ := ins bkA26
  obtain ⟨dC3, fC3, hC3⟩ := ins bkC26
  refine ⟨_, rfl, _, rfl, x1, dA3, fA3, rfl, hA3, .inr ⟨x3, dC3, fC3, rfl, hC3⟩, x1, x3, dfs, dls0, rfl, bkA26, bkC26, shT, hless.prn.2.2, fun H27 s27 => ⟨_, rfl, ?_⟩⟩
  have bkA27 := bkA26.up s27
  have bkD27 := ((bk4.up s25).up s26).up s27
  obtain ⟨dA4, fA4, hA4⟩ := ins bkA27
  obtain ⟨dD4, fD4, hD4⟩ := ins bkD27
  refine ⟨_, rfl, _, rfl, x1, dA4, fA4, rfl, hA4, .inr ⟨x4, dD4, fD4, rfl, hD4⟩, x1, x4, dfs, dfs.set j (bentD df), rfl, bkA27, bkD27, shT, bs, fun H28 s28 => ⟨_, rfl, few (by simp), fun LA hLA => ⟨few (by simp), fun LB hLB => ?_⟩⟩⟩
  have eLess : PyData.eqv (.tuple (dfs.map Df.data)) (.tuple (dls0.map Df.data)) = false := by
    rw [PyData.eqv]
    exact eqvAll_len (by rw [List.length_map, List.length_map]; omega)
  rw [hD.self, eLess, be] at hLB ⊢
  have sA := same_new (o := .lst [.bl true, .bl (!true), .bl false, .bl false]) hLA
  have sB := same_new (o := .lst [.bl true, .bl false, .bl false, .bl false]) hLB
  have hA1 := sB _ _ (show (upd H28 LA (.lst [.bl true, .bl (!true), .bl false, .bl false])) LA = some (.lst [.bl true, .bl false, .bl false, .bl false]) from upd_same)
  have shB : SeqAt.shaped (.list [.bool true, .bool false, .bool false, .bool false]) = true := by decide +kernel
  refine ⟨.list [.bool true, .bool false, .bool false, .bool false], .list [.bool true, .bool false, .bool false, .bool false], .lst (SqL.of hA1) (.cons (.bl _) (.cons (.bl _) (.cons (.bl _) (.cons (.bl _) .nil)))), .lst (SqL.of upd_same) (.cons (.bl _) (.cons (.bl _) (.cons (.bl _) (.cons (.bl _) .nil)))), shB, shB, ?_⟩
  rw [show PyData.eqv (.list [.bool true, .bool false, .bool false, .bool false]) (.list [.bool true, .bool false, .bool false, .bool false]) = true by decide +kernel]
  have s2428 := s25.trans (s26.trans (s27.trans (s28.trans (sA.trans sB))))
  exact q _ (b24.same s2428) (o024.trans (Off.of s2428))
end
/-! the law -/
abbrev sLaw : Stmt := topS 47
theorem scLaw : FnScope ["_law_script", "_law_box_here", "_law_turn", "_law_some", "_law_one", "_law_book", "_law_elder", "_law_more", "_law_world", "_law_body", "_law_near", "_law_other"] ["_law_script"] (defScope sLaw) := ⟨rfl, rfl, rfl, by decide +kernel, rfl, by decide +kernel, by decide +kernel⟩
def spLaw (K : PySem.W.Frag) : Sp := fun vs H Q _ => ∃ (a : Addr) (ns : List Int), vs = [.ref a] ∧ SqL K H a (ns.map V.int) ∧ ns.length ≤ 63 ∧ ∀ H', Q (.bl true) H'
/-- look_body, with its name or without -/
structure LookF (P : Program) (w : World) (K : PySem.W.Frag) (mg : Str → Option Value) (base : Heap) (lv : Nat) (C fL : Addr) (dL : FuncData) : Prop where
  ok : FnOk P w K mg base CX0 lv fL dL ["book", "body", "name"] (spLookB K C 12)
  kp : PySem.W.keepIn K (.ref fL) = true
  mg : mg "look_body" = some (.ref fL)
  b1 : ∃ ds, Vals [.str ""] ds ∧ Binds K dL ["book", "body", "name"] ds
  b2 : KBn K dL ["book", "body", "name"] 2 ["name"] (fun us ws => us ++ ws) (fun vs zs => vs ++ zs)
def near3 : List Df := [⟨"f", ["x"], none, .tuple [.str "int", .int 1]⟩, ⟨"f", ["x", "y"], none, .tuple [.str "int", .int 1]⟩, ⟨"f", ["x"], some 0, .tuple [.str "int", .int 1]⟩]
theorem near3_ok : ∀ d ∈ near3, DfsOk 12 [d] ∧ SeqAt.shaped d.data = true ∧ SeqAt.shaped (.tuple [d.data]) = true ∧ nl d.data = true := by
  intro d hd
  have gi : gd (.int 1) = true := by decide +kernel
  have w1 : ∀ cl sc, Wt 12 cl 1 sc 101 (.tuple [.str "int", .int 1]) [] 1 := fun cl sc => wt_leaf (h := "int") (sl := "k") (x := .int 1) (by simp) (fm_k 1) (fun z => absurd z (by decide +kernel)) rfl
  have key : ∀ (ps : List Str) (fl : Option Nat), (∀ y ∈ ps, isNm y = true ∧ gd (.str y) = true) → ps.Nodup → ps.length ≤ 2 → (∀ j, fl = some j → j < ps.length) → DfsOk 12 [⟨"f", ps, fl, .tuple [.str "int", .int 1]⟩] := fun ps fl h1 h2 h3 h4 => by
    refine ⟨by simp, fun i e he => ?_⟩
    have li := (List.getElem?_eq_some_iff.mp he).1
    have i0 : i = 0 := by
      simp only [List.length_singleton] at li
      omega
    subst i0
    have he : some (Df.mk "f" ps fl (.tuple [.str "int", .int 1])) = some e := by simpa using he
    cases he
    refine ⟨(show isNm "f" = true ∧ gd (.str "f") = true from ⟨by decide +kernel, by decide +kernel⟩), (fun e he => nomatch he), h1, h2, by show ps.length ≤ 100; omega, h4, rfl, 1, [], 1, w1 _ _, by omega, by omega, ?_, List.nodup_nil, fun x hx => nomatch hx⟩
    show ps.length + 2 * 1 + nod (.tuple [.str "int", .int 1]) ≤ 890
    simp only [nod, nods]
    omega
  simp only [near3, List.mem_cons, List.not_mem_nil, or_false] at hd
  rcases hd with rfl | rfl | rfl
  · exact ⟨key _ _ (by decide +kernel) (by decide +kernel) (by decide) (fun j e => nomatch e), by decide +kernel, by decide +kernel, by decide +kernel⟩
  · exact ⟨key _ _ (by decide +kernel) (by decide +kernel) (by decide) (fun j e => nomatch e), by decide +kernel, by decide +kernel, by decide +kernel⟩
  · exact ⟨key _ _ (by decide +kernel) (by decide +kernel) (by decide) (fun j e => by cases e; decide), by decide +kernel, by decide +kernel, by decide +kernel⟩
theorem eqv_one (a b : PyData) : PyData.eqv (.tuple [a]) (.tuple [b]) = PyData.eqv a b := by simp [PyData.eqv, PyData.eqvAll]
theorem bools_dp {K : PySem.W.Frag} {H : Hp} : ∀ bs : List Bool, DpAll K H (bs.map V.bl) (bs.map PyData.bool)
  | [] => .nil
  | b :: bs => .cons (.bl b) (bools_dp bs)
theorem bools_gd : ∀ bs : List Bool, gds (bs.map PyData.bool) = true ∧ PyData.depthAll (bs.map PyData.bool) = 0
  | [] => ⟨by simp only [List.map_nil, gds], by simp only [List.map_nil, PyData.depthAll]⟩
  | b :: bs => by
    obtain ⟨h1, h2⟩ := bools_gd bs
    exact ⟨by simp only [List.map_cons, gds, gd, h1, Bool.and_self], by simp only [List.map_cons, PyData.depthAll, PyData.depth, h2]; omega⟩
theorem ok_nil : DfsOk 12 [] := ⟨by simp, fun i d e => by simp at e⟩
theorem op_eqDK {X : Cx} {K : PySem.W.Frag} (h : X.K = K) (hu : X.A.units + 64 < cLine) : OpR X (compareOp .Eq) (rEqD K) := by
  subst h
  exact op_eqD hu
theorem op_eqLK {X : Cx} {K : PySem.W.Frag} {C fE : Addr} {k : Nat} {fd : FuncData} {sp : Sp} (h : X.K = K) (O : OwnC X.K C fE) (F : FnOk X.prog X.w X.K X.mg X.base CX0 k fE fd ["self", "other"] sp) (hb : Binds X.K fd ["self", "other"] []) (hr : Room k X.A) : OpR X (compareOp .Eq) (rEqL C sp K) := by
  subst h
  exact op_eqL O F hb hr
section
variable {P : Program} {w : World} {K : PySem.W.Frag} {mg : Str → Option Value} {base : Heap} {f fB fT fD fL fG fR fK C CE fE fN fI fX : Addr} {fd dB dT dD dL dG dR dK dE dN dI dX : FuncData}
theorem ok_law {k : Nat} (F : Fun K "law" "law" sLaw f fd) (B : Bi mg) (GX : Dn P w K mg base 1 "_law_box" ["_law_script", "_law_base"] (spBox K) fB dB) (T : Tk P w K mg base fT dT) (GD : Dn P w K mg base (k + 6) "_law_definitions" ["_law_box_here", "_law_most"] (spDefs K) fD dD)
    (GL : Dn P w K mg base 3 "_law_locals" ["_law_box_here"] spLocals fL dL) (GG : Dn P w K mg base (k + 3) "_law_grown" ["_law_box_here", "_law_world", "_law_sort", "_law_scope", "_law_deep"] (fun vs H Q E => ∃ cl, spGrown K cl 8 vs H Q E) fG dG)
    (GR : FnG P w K mg base CX0 (k + 8) fR dR ["_law_box_here", "_law_some"] (spRight K)) (kR : PySem.W.keepIn K (.ref fR) = true) (bR : Binds K dR ["_law_box_here", "_law_some"] []) (mR : mg "_law_right" = some (.ref fR))
    (BF : BkF P w K mg base C CE fE fN fK dE dN dK) (MB : MkBk P w K mg base (k + 6) C fI dI) (LF : LookF P w K mg base (k + 7) C fX dX) : FnG P w K mg base CX0 (k + 9) f fd ["_law_script"] (spLaw K) := by
  refine okG F scLaw (fun vs H Q E h => ?_) (fun cdv A outer s H vs Q E hgd hr h => ?_)
  · obtain ⟨a, ns, rfl, _⟩ := h
    rfl
  obtain ⟨a, ns, rfl, hS, hlen, q⟩ := h
  have hr1 : Room 1 _ := hr.mono (by omega)
  have hr3 : Room 3 _ := hr.mono (by omega)
  have hr4 : Room (3 + 1) _ := hr.mono (by omega)
  have hrg : Room (k + 3) _ := hr.mono (by omega)
  have hr6 : Room (k + 6) _ := hr.mono (by omega)
  have hr7 : Room (k + 6 + 1) _ := hr.mono (by omega)
  have hr7' : Room (k + 7) _ := hr.mono (by omega)
  obtain ⟨dsl, vdl, bdl⟩ := LF.b1
  refine ⟨_, pss_cons (ps_set (i := 1) scLaw.nd rfl (.inl rfl) (pe_call GX.ok hr1 (by rfl) GX.mg GX.kp GX.bd .nil pass0 (pa_cons (pv 0) (pa_cons pe_int pa_nil))))
    (pss_cons (ps_for PassesOwn.never rfl (pi_range1 (by rfl) B.rng (pa_cons pe_int pa_nil)) (pg_name (i := 2) scLaw.nd rfl (.inl rfl))
      (pss_cons (ps_set (i := 3) scLaw.nd rfl (.inl rfl) (pe_call GD.ok hr6 (by rfl) GD.mg GD.kp GD.bd .nil pass0 (pa_cons (pv 1) (pa_cons pe_int pa_nil))))
      (pss_cons (ps_if (PW.pt (pw_or (pt_not (pt_val (pe_callG GR hgd hr (by rfl) mR kR bR .nil pass0 (pa_cons (pv 1) (pa_cons (pv 3) pa_nil))))) (pw_or1 (pt_not (pt_val (pe_callG GR hgd hr (by rfl) mR kR bR .nil pass0 (pa_cons (pv 1) (pa_cons (pe_slice sl_list (pv 3) po_none (po_some pe_int)) pa_nil)))))))) (pss_one (ps_ret pe_bl)) pss_nil)
      (pss_cons (ps_par (i := 5) (j := 6) (by rfl) scLaw.nd rfl rfl (by decide) rfl rfl (pa_cons (pe_make MB.mkr MB.ok hr7 (by rfl) BF.t.mg MB.bd .nil pass0 (pa_cons (pv 3) pa_nil)) (pa_cons (pe_lc (own := [("_law_one", 4)]) (g := gName 4) (by rfl) scLaw.nd (pi_list (pv 3))
          (blkOk_by (own := [("_law_one", 4)]) (N := ["_law_script", "_law_box_here", "_law_turn", "_law_some", "_law_one", "_law_book", "_law_elder", "_law_more", "_law_world", "_law_body", "_law_near", "_law_other"]) (sc := defScope sLaw) (by decide +kernel))
          (fun _ _ _ _ _ => pg_name (i := 4) scLaw.nd rfl (Or.inl rfl)) (fun _ _ _ _ _ => pts_nil)
          (fun _ _ _ _ _ => pe_tup (pa_cons (pe_ix (ix_tupK (K := K) rfl) (pv 4) pe_int (fun _ _ => rfl)) (pa_cons (pe_callB (call_lenK (K := K) rfl) (by rfl) B.len PySem.boot_len (pa_cons (pe_ix (ix_tupK (K := K) rfl) (pv 4) pe_int (fun _ _ => rfl)) pa_nil)) pa_nil)))) pa_nil)) (by rfl))
      (pss_one (ps_for PassesOwn.never rfl (pi_range1 (by rfl) B.rng (pa_cons pe_int pa_nil)) (pg_name (i := 7) scLaw.nd rfl (.inl rfl))
        (pss_cons (ps_set (i := 8) scLaw.nd rfl (.inl rfl) (pe_disp (pps_cons pe_str pe_str (pps_cons pe_str pe_int (pps_cons pe_str pe_non (pps_cons pe_str (pv 6) (pps_cons pe_str (pe_call GL.ok hr3 (by rfl) GL.mg GL.kp GL.bd .nil pass0 (pa_cons (pv 1) pa_nil)) (pps_cons pe_str pe_int pps_nil)))))) (by rfl) (by rfl) (fun z => by cases z) (by decide)))
        (pss_cons (ps_set (i := 9) scLaw.nd rfl (.inl rfl) (pe_call GG.ok hrg (by rfl) GG.mg GG.kp GG.bd .nil pass0 (pa_cons (pv 1) (pa_cons (pv 8) (pa_cons pe_str (pa_cons (pe_lst pa_nil) (pa_cons (pe_op op_add pe_int (pe_call T.ok hr1 (by rfl) T.mg T.kp T.bd .nil pass0 (pa_cons (pv 1) (pa_cons pe_int pa_nil)))) pa_nil)))))))
        (pss_one (ps_if (PW.pt (pw_or (pt_cmpR op_notBl (pe_call LF.ok hr7' (by rfl) LF.mg LF.kp bdl vdl pass0 (pa_cons (pv 5) (pa_cons (pv 9) pa_nil))) pe_bl rfl)
            (pw_or1 (pt_cmpR op_notBl (pe_callN LF.ok hr7' (by rfl) LF.mg LF.kp LF.b2 pass0 (pa_cons (pv 5) (pa_cons (pv 9) pa_nil)) (pk_cons pe_str pk_nil)) pe_bl rfl)))) (pss_one (ps_ret pe_bl)) pss_nil))))))))))
    (pss_cons (ps_set (i := 10) scLaw.nd rfl (.inl rfl) (pe_lst (pa_cons (pe_tup (pa_cons pe_str (pa_cons (pe_tup (pa_cons pe_str pa_nil)) (pa_cons pe_non (pa_cons (pe_tup (pa_cons pe_str (pa_cons pe_int pa_nil))) pa_nil)))))
        (pa_cons (pe_tup (pa_cons pe_str (pa_cons (pe_tup (pa_cons pe_str (pa_cons pe_str pa_nil))) (pa_cons pe_non (pa_cons (pe_tup (pa_cons pe_str (pa_cons pe_int pa_nil))) pa_nil)))))
        (pa_cons (pe_tup (pa_cons pe_str (pa_cons (pe_tup (pa_cons pe_str pa_nil)) (pa_cons pe_int (pa_cons (pe_tup (pa_cons pe_str (pa_cons pe_int pa_nil))) pa_nil))))) pa_nil)))))
    (pss_cons (ps_for PassesOwn.never rfl (pi_list (pv 10)) (pg_name (i := 4) scLaw.nd rfl (.inr rfl))
      (pss_one (ps_if (pt_cmpR (op_neD hr.units)
          (pe_lc (own := [("_law_other", 11)]) (g := gName 11) (by rfl) scLaw.nd (pi_list (pv 10))
            (blkOk_by (own := [("_law_other", 11)]) (N := ["_law_script", "_law_box_here", "_law_turn", "_law_some", "_law_one", "_law_book", "_law_elder", "_law_more", "_law_world", "_law_body", "_law_near", "_law_other"]) (sc := defScope sLaw) (by decide +kernel))
            (fun _ _ _ _ _ => pg_name (i := 11) scLaw.nd rfl (Or.inl rfl)) (fun _ _ _ _ _ => pts_nil)
            (fun _ _ _ _ _ => pe_cmpR (op_eqLK (K := K) rfl BF.t.o BF.eo BF.eb hr3) (pe_make MB.mkr MB.ok hr7 (by rfl) BF.t.mg MB.bd .nil pass0 (pa_cons (pe_tup (pa_cons (pv 4) pa_nil)) pa_nil)) (pe_make MB.mkr MB.ok hr7 (by rfl) BF.t.mg MB.bd .nil pass0 (pa_cons (pe_tup (pa_cons (pv 11) pa_nil)) pa_nil)) rfl))
          (pe_lc (own := [("_law_other", 11)]) (g := gName 11) (by rfl) scLaw.nd (pi_list (pv 10))
            (blkOk_by (own := [("_law_other", 11)]) (N := ["_law_script", "_law_box_here", "_law_turn", "_law_some", "_law_one", "_law_book", "_law_elder", "_law_more", "_law_world", "_law_body", "_law_near", "_law_other"]) (sc := defScope sLaw) (by decide +kernel))
            (fun _ _ _ _ _ => pg_name (i := 11) scLaw.nd rfl (Or.inl rfl)) (fun _ _ _ _ _ => pts_nil)
            (fun _ _ _ _ _ => pe_cmpR (op_eqDK (K := K) rfl hr.units) (pv 4) (pv 11) rfl)) rfl) (pss_one (ps_ret pe_bl)) pss_nil)))
    (pss_one (ps_ret (pe_and (pe_cmpR (op_eqL BF.t.o BF.eo BF.eb hr3) (pe_make MB.mkr MB.ok hr7 (by rfl) BF.t.mg MB.bd .nil pass0 (pa_cons (pe_tup pa_nil) pa_nil)) (pe_make MB.mkr MB.ok hr7 (by rfl) BF.t.mg MB.bd .nil pass0 (pa_cons (pe_lst pa_nil) pa_nil)) rfl)
      (pe_one (pe_cmpR op_eq (pe_callB (call_lenO BF.lm BF.lo BF.lb hr4) (by rfl) B.len PySem.boot_len (pa_cons (pe_make MB.mkr MB.ok hr7 (by rfl) BF.t.mg MB.bd .nil pass0 (pa_cons (pe_tup pa_nil) pa_nil)) pa_nil)) pe_int (nomark _))))))))), ?_⟩
  refine ⟨_, rfl, a, ns, 0, rfl, hS, hlen, Int.le_refl _, by decide, fun p g H1 b1 s1 np ng => ?_⟩
  refine ⟨3, rfl, by decide, by decide, for_range (n := 3) (fun i σ H2 => ∃ o2 o3 o4 o5 o6 o7 o8 o9, σ = [some (.ref a), some (.ref p), o2, o3, o4, o5, o6, o7, o8, o9, none, none] ∧ Box H2 p g) ⟨none, none, none, none, none, none, none, none, rfl, b1⟩ ?_ ?_⟩
  · rintro i σ H2 hi ⟨o2, o3, o4, o5, o6, o7, o8, o9, rfl, b2⟩
    refine ⟨_, rfl, p, g, rfl, b2, fun L xs dfs H3 b3 o3 hL h3 dx hD hpos hn6 => ?_⟩
    have tr0 : ∀ {HX : Hp} {D : Addr}, Box HX p g → HX D = none → D ∉ [p, g] := fun bx hx z => by
      obtain ⟨_, _, _, _, y1, y2, _⟩ := bx.ex
      simp only [List.mem_cons, List.not_mem_nil, or_false] at z
      rcases z with z | z
      · rw [z, y1] at hx; cases hx
      · rw [z, y2] at hx; cases hx
    have nL := tr0 b2 hL
    have nldf := hD.ok.nl
    have nls0 := nldf
    simp only [Rl.nl] at nls0
    have lxs := DpAll.len dx
    rw [List.length_map] at lxs
    have hle := hD.le
    refine ⟨_, rfl, _, rfl, p, g, L, xs, dfs, rfl, b3, h3, nL, dx, hD, hpos, hn6, fun H4 b4 o4 => ⟨_, rfl, iteF ?_⟩⟩
    have h4 := o4.get h3 nL
    have dx4 := DpAll.off dx b3.nt nls0 o4
    refine ⟨_, rfl, _, rfl, 1, rfl, L, xs, rfl, SqL.of h4, fun L1 hL1 => ?_⟩
    rw [cutV_take xs (by omega) (by omega), show (1 : Int).toNat = 1 from rfl]
    have s5 := same_new (o := .lst (xs.take 1)) hL1
    have b5 := b4.same s5
    have dl : DpAll K (upd H4 L1 (.lst (xs.take 1))) (xs.take 1) ((dfs.take 1).map Df.data) := by
      rw [List.map_take]
      exact (DpAll.parts (DpAll.off dx4 (l := []) (fun _ z => nomatch z) nls0 (Off.of s5)) 1).1
    refine ⟨p, g, L1, xs.take 1, dfs.take 1, rfl, b5, upd_same, tr0 b4 hL1, dl, hD.less 1, by rw [List.length_take]; omega, fun d hd => hn6 d (List.mem_of_mem_take hd), fun H6 b6 o6 => ⟨_, rfl, iteF ?_⟩⟩
    have o46 : Off [p, g] H4 H6 := (Off.of s5).trans o6
    have h6 := o46.get h4 nL
    have dx6 := DpAll.off dx4 b4.nt nls0 o46
    refine ⟨_, rfl, fun x1 d1 hx1 hd1 ne1 => ⟨x1, d1, L, xs, dfs, rfl, upd_same, .inl (SqL.of (same_mk hx1 hd1 _ _ h6)), ne_of_none h6 hx1, DpAll.off dx6 (l := []) (fun _ z => nomatch z) nls0 (Off.of (same_mk hx1 hd1)), hD.ok, fun H7 o7 bk7 => ⟨rfl, ?_⟩⟩⟩
    have s7 : Same H6 H7 := same_off (same_mk hx1 hd1) (l := [x1]) (fun b hb => by rw [List.mem_singleton.mp hb]; exact hx1) o7
    have h7 := s7 _ _ h6
    have dx7 := DpAll.off dx6 (l := []) (fun _ z => nomatch z) nls0 (Off.of s7)
    have b7 := b6.same s7
    refine ⟨_, rfl, L, rfl, ⟨_, SqL.of h7⟩, fun D hD0 => ?_⟩
    have lel : (eldOf dfs).length = dfs.length := by unfold eldOf; rw [List.length_map]
    refine lc_list (K := K) (a := L) (xs := xs) (fun j H8 => ∃ pa : List Addr, H8 D = some (.lst (pa.map V.ref)) ∧ Paired (fun p (kv : Str × Nat) => SqT K H8 p [.str kv.1, .int kv.2]) pa ((eldOf dfs).take j) ∧ Same H7 H8) ⟨[], upd_same, .nil, same_new hD0 _⟩ ?_ ?_ ?_
    · rintro j H8 hj ⟨pa, g1, g2, g3⟩
      exact SqL.of (g3 _ _ h7)
    · rintro j y H8 hy ⟨pa, g1, g2, g3⟩
      obtain ⟨d0, ed0, dy⟩ := DpAll.get dx7 hy
      rw [List.getElem?_map] at ed0
      obtain ⟨df, edf, rfl⟩ := Option.map_eq_some_iff.mp ed0
      have dy8 : Dp K H8 y df.data := Dp.off dy (l := []) (fun _ z => nomatch z) (nls_mem nls0 (List.mem_map.mpr ⟨df, List.mem_of_getElem? edf, rfl⟩)) (Off.of g3)
      obtain ⟨tb, ws, eds, rfl, e2, htb, dw⟩ := tup_of dy8 rfl
      cases e2
      obtain ⟨v0, ws, rfl, _, e0, dw⟩ := dpall_cons dw
      obtain ⟨v1, ws, rfl, _, e1', dw⟩ := dpall_cons dw
      cases e0
      obtain ⟨pb, us, eus, rfl, e3, hpb, dus⟩ := tup_of e1' rfl
      cases e3
      have lus := DpAll.len dus
      rw [List.length_map] at lus
      have lpa := paired_len g2
      rw [List.length_take, lel] at lpa
      refine ⟨rfl, _, rfl, tb, _, 0, _, rfl, rfl, htb, atI_nat (j := 0) rfl, _, rfl, tb, _, 1, _, rfl, rfl, htb, atI_nat (j := 1) rfl, pb, us, rfl, .inr hpb, few (by simp), fun T9 hT9 => ?_⟩
      have s9 := same_new (o := .tup [.str df.nm, .int us.length]) hT9
      have hD9 := s9 _ _ g1
      have ntD : NT [D] (upd H8 T9 (.tup [.str df.nm, .int us.length])) := .cons (nt_lst hD9) .nil
      have oD : Off [D] (upd H8 T9 (.tup [.str df.nm, .int us.length])) (upd (upd H8 T9 (.tup [.str df.nm, .int us.length])) D (.lst (pa.map V.ref ++ [.ref T9]))) := Off.put (by simp)
      have el9 : (eldOf dfs)[j]? = some (df.nm, df.ps.length) := by unfold eldOf; rw [List.getElem?_map, edf]; rfl
      refine ⟨_, hD9, few (by rw [List.length_map]; omega), pa ++ [T9], by rw [upd_same, List.map_append]; rfl, ?_, same_off (g3.trans s9) (l := [D]) (fun b hb => by rw [List.mem_singleton.mp hb]; exact hD0) oD⟩
      rw [get_take el9]
      refine paired_app (paired_mono (fun _ _ z => seqT_off ntD oD (seqT_up s9 z)) g2) (.cons (seqT_off ntD oD (.inl (.inl ?_))) .nil)
      rw [upd_same, lus]
    rintro H8 ⟨pa, g1, g2, g3⟩
    rw [lxs, ← lel, List.take_length] at g2
    refine ⟨_, _, rfl, ?_⟩
    have b8 := b7.same g3
    have bk8 := bk7.up g3
    have el8 : ElA K H8 D (eldOf dfs) := ⟨pa, g1, g2⟩
    have nD := tr0 b7 hD0
    refine ⟨3, rfl, by decide, by decide, for_range (n := 3) (fun j σ H9 => ∃ o4 o7 o8 o9, σ = [some (.ref a), some (.ref p), some (.int (0 + (i : Nat))), some (.ref L), o4, some (.ref x1), some (.ref D), o7, o8, o9, none, none] ∧ Box H9 p g ∧ BookAt K C H9 x1 dfs ∧ ElA K H9 D (eldOf dfs)) ⟨_, _, _, _, rfl, b8, bk8, el8⟩ ?_ ?_⟩
    · rintro j σ H9 hj ⟨q4, q7, q8, q9, rfl, b9, bk9, el9⟩
      have inpg : ∀ {HX : Hp} {z dz : Addr} {fz : List (Str × V)}, Box HX p g → HX z = some (.ins C dz fz) → z ∉ [p, g] := fun bx hz zz => by
        obtain ⟨_, _, _, _, y1, y2, _⟩ := bx.ex
        simp only [List.mem_cons, List.not_mem_nil, or_false] at zz
        rcases zz with e | e
        · rw [e, y1] at hz; cases hz
        · rw [e, y2] at hz; cases hz
      refine fun WD hWD => ⟨_, rfl, _, rfl, p, g, rfl, b9.same (same_new hWD _), fun fr ys H10 b10 o10 hfr h10 pm => ?_⟩
      have s10 := same_new (o := .dK []) hWD
      have nWD := tr0 b9 hWD
      have hWD10 := o10.get (show (upd H9 WD (.dK [])) WD = some (.dK []) from upd_same) nWD
      have nfr : fr ∉ [p, g] := tr0 (b9.same s10) hfr
      have nWf : WD ≠ fr := ne_of_none upd_same hfr
      refine ⟨hWD10, wkv ⟨"", 0, none, eldOf dfs⟩ D fr 30, rfl, (by show 6 ≤ 15; decide), ?_⟩
      rw [merge_wkv]
      have lys : ys.length = 48 := by rw [pm.length_eq, names48_len]
      have b11 : Box (upd H10 WD (.dK (wkv ⟨"", 0, none, eldOf dfs⟩ D fr 30))) p g := b10.put nWD
      have hWD11 : (upd H10 WD (.dK (wkv ⟨"", 0, none, eldOf dfs⟩ D fr 30))) WD = some (.dK (wkv ⟨"", 0, none, eldOf dfs⟩ D fr 30)) := upd_same
      have hfr11 : (upd H10 WD (.dK (wkv ⟨"", 0, none, eldOf dfs⟩ D fr 30))) fr = some (.lst (ys.map V.str)) := by rw [upd_ne nWf.symm]; exact h10
      have o911 : Off [p, g] H9 (upd H10 WD (.dK (wkv ⟨"", 0, none, eldOf dfs⟩ D fr 30))) := off_new ((Off.of s10).trans o10) nWD hWD
      generalize upd H10 WD (.dK (wkv ⟨"", 0, none, eldOf dfs⟩ D fr 30)) = H11 at b11 hWD11 hfr11 o911
      have el9o := el9
      obtain ⟨pz, z1, z2⟩ := el9
      have hD11 := o911.get z1 nD
      have nDf : D ≠ fr := fun e => by
        have z3 := s10 _ _ z1
        rw [e, hfr] at z3
        cases z3
      refine ⟨_, rfl, _, rfl, by decide, fun SC hSC => ?_⟩
      have s12 := same_new (o := .lst []) hSC
      have b12 := b11.same s12
      have nSC := tr0 b11 hSC
      refine ⟨_, rfl, p, g, 6, rfl, b12, by decide, by decide, fun t5 H13 t50 t56 b13 o13 => ⟨_, _, rfl, rfl, ?_⟩⟩
      obtain ⟨deep, hdeep⟩ : ∃ deep : Nat, 2 + t5 = deep := ⟨(2 + t5).toNat, by omega⟩
      have o1113 : Off [p, g] H11 H13 := (Off.of s12).trans o13
      have o913 := o911.trans o1113
      have wo13 : WdA K H13 WD D fr ⟨"", 0, none, eldOf dfs⟩ ys 30 := ⟨o1113.get hWD11 nWD, o1113.get hfr11 nfr, pz, o913.get z1 nD, paired_mono (fun _ _ z => seqT_off b9.nt o913 z) z2⟩
      have la13 : LsA K H13 SC [] := ⟨[], o13.get upd_same nSC, .nil⟩
      have nSW : SC ≠ WD := fun e => by
        rw [e, hWD11] at hSC
        cases hSC
      have nSf : SC ≠ fr := fun e => by
        rw [e, hfr11] at hSC
        cases hSC
      have ask13 : Ask K (clB dfs) H13 p g WD D fr SC ⟨"", 0, none, eldOf dfs⟩ ys 30 [] deep := by
        refine ⟨b13, wo13, la13, clw_body hD, (fun q hq => nomatch hq), fun x hx => ⟨names48_nm x (pm.mem_iff.mp hx), names48_gd x (pm.mem_iff.mp hx)⟩, ?_, (fun x s e => nomatch e), ⟨by omega, .inr (.inl (by omega))⟩, by omega, ?_, ?_, nWD, nfr, ?_⟩
        · rw [List.map_nil, List.append_nil]
          exact pm.nodup_iff.mpr names48_nd
        · show ((0 : Nat) : Int) + 2 * deep ≤ 100
          omega
        · simp only [List.mem_cons, List.not_mem_nil, or_false, not_or] at nSC ⊢
          exact ⟨nSC.1, nSC.2, nSW, nSf⟩
        · simp only [List.mem_cons, List.not_mem_nil, or_false, not_or] at nD ⊢
          exact ⟨nD.1, nD.2, nDf⟩
      refine ⟨clB dfs, p, g, WD, D, fr, SC, ⟨"", 0, none, eldOf dfs⟩, ys, 30, [], deep, 101, ?_, .inl rfl, by omega, by omega, by omega, ask13, fun v d bs z F1 r1 H14 b14 o14 wo14 dd14 T1 => ?_⟩
      · rw [← hdeep]
        rfl
      have bok : BodyOk 12 dfs d := by
        have n1 := T1.nd
        have l1 : limC 101 = 3 := rfl
        have c30 : capN 30 = 852 := by decide
        have c3 := cap_nn r1
        have zn := T1.wt.zn
        obtain ⟨tk, _, nb, _⟩ := T1.tk
        exact ⟨T1.nl, deep + 4, bs, z, T1.wt, by omega, by omega, by omega, nb⟩
      have bk13 : BookAt K C H13 x1 dfs := by
        obtain ⟨dz, tz, y1, y2⟩ := bk9
        exact BookAt.off ⟨dz, tz, y1, y2⟩ b9.nt (inpg b9 y1) nldf o913
      have nx14 : x1 ∉ [p, g, WD, fr] := by
        obtain ⟨dz, tz, y1, y2⟩ := bk13
        have n0 := inpg b13 y1
        simp only [List.mem_cons, List.not_mem_nil, or_false, not_or] at n0 ⊢
        refine ⟨n0.1, n0.2, fun e => ?_, fun e => ?_⟩
        · rw [e, wo13.wd] at y1
          cases y1
        · rw [e, wo13.fr] at y1
          cases y1
      have bk14 := bk13.off (nt4 b13 wo13) nx14 nldf o14
      have el14 : ElA K H14 D (eldOf dfs) := wo14.el
      refine ⟨_, rfl, _, rfl, x1, v, "", dfs, d, rfl, bk14, hD.nd, by omega, dd14, bok, fun H15 s15 => ⟨true, true, rfl, rfl, _, rfl, iteF ?_⟩⟩
      refine ⟨_, rfl, _, rfl, rfl, rfl, x1, v, "cell", dfs, d, rfl, bk14.up s15, hD.nd, by omega, Dp.up s15 _ _ dd14, bok, fun H16 s16 => ⟨true, true, rfl, rfl, _, rfl, iteF ?_⟩⟩
      have s1416 := s15.trans s16
      refine ⟨_, _, _, _, rfl, b14.same s1416, bk14.up s1416, ?_⟩
      obtain ⟨pq, w1, w2⟩ := el14
      exact ⟨pq, s1416 _ _ w1, paired_mono (fun _ _ z => seqT_up s1416 z) w2⟩
    · rintro σ H9 ⟨q4, q7, q8, q9, rfl, b9, bk9, el9⟩
      exact ⟨_, _, _, _, _, _, _, _, rfl, b9⟩
  · rintro σ H2 ⟨o2, o3, o4, o5, o6, o7, o8, o9, rfl, b2⟩
    have tr0 : ∀ {HX : Hp} {D : Addr}, Box HX p g → HX D = none → D ∉ [p, g] := fun bx hx z => by
      obtain ⟨_, _, _, _, y1, y2, _⟩ := bx.ex
      simp only [List.mem_cons, List.not_mem_nil, or_false] at z
      rcases z with z | z
      · rw [z, y1] at hx; cases hx
      · rw [z, y2] at hx; cases hx
    refine ⟨few (by simp), fun A1 hA1 => ⟨few (by simp), fun B1 hB1 => ⟨few (by simp), fun T1 hT1 => ⟨few (by simp), fun A2 hA2 => ⟨few (by simp), fun B2 hB2 => ⟨few (by simp), fun T2 hT2 => ⟨few (by simp), fun A3 hA3 => ⟨few (by simp), fun B3 hB3 => ⟨few (by simp), fun T3 hT3 => ⟨few (by simp), fun N hN => ?_⟩⟩⟩⟩⟩⟩⟩⟩⟩⟩
    have m1 := same_new (o := .tup [.str "x"]) hA1
    have m2 := same_new (o := .tup [.str "int", .int 1]) hB1
    have m3 := same_new (o := .tup [.str "f", .ref A1, .non, .ref B1]) hT1
    have m4 := same_new (o := .tup [.str "x", .str "y"]) hA2
    have m5 := same_new (o := .tup [.str "int", .int 1]) hB2
    have m6 := same_new (o := .tup [.str "f", .ref A2, .non, .ref B2]) hT2
    have m7 := same_new (o := .tup [.str "x"]) hA3
    have m8 := same_new (o := .tup [.str "int", .int 1]) hB3
    have m9 := same_new (o := .tup [.str "f", .ref A3, .int 0, .ref B3]) hT3
    have m10 := same_new (o := .lst [.ref T1, .ref T2, .ref T3]) hN
    have t9 := m10
    have t8 := m9.trans t9
    have t7 := m8.trans t8
    have t6 := m7.trans t7
    have t5 := m6.trans t6
    have t4 := m5.trans t5
    have t3 := m4.trans t4
    have t2 := m3.trans t3
    have t1 := m2.trans t2
    have t0 := m1.trans t1
    have x1 := t1 _ _ (upd_same (H := H2) (a := A1) (o := .tup [.str "x"]))
    have x2 := t2 _ _ (upd_same (H := upd H2 A1 (.tup [.str "x"])) (a := B1) (o := .tup [.str "int", .int 1]))
    have x3 := t3 _ _ (upd_same (a := T1) (o := .tup [.str "f", .ref A1, .non, .ref B1]))
    have x4 := t4 _ _ (upd_same (a := A2) (o := .tup [.str "x", .str "y"]))
    have x5 := t5 _ _ (upd_same (a := B2) (o := .tup [.str "int", .int 1]))
    have x6 := t6 _ _ (upd_same (a := T2) (o := .tup [.str "f", .ref A2, .non, .ref B2]))
    have x7 := t7 _ _ (upd_same (a := A3) (o := .tup [.str "x"]))
    have x8 := t8 _ _ (upd_same (a := B3) (o := .tup [.str "int", .int 1]))
    have x9 := t9 _ _ (upd_same (a := T3) (o := .tup [.str "f", .ref A3, .int 0, .ref B3]))
    clear m1 m2 m3 m4 m5 m6 m7 m8 m9 m10 t1 t2 t3 t4 t5 t6 t7 t8 t9
    generalize hH3 : upd _ N (HO.lst [V.ref T1, V.ref T2, V.ref T3]) = H3 at *
    have x10 : H3 N = some (.lst [.ref T1, .ref T2, .ref T3]) := by
      rw [← hH3]
      exact upd_same
    clear hH3 hA1 hB1 hT1 hA2 hB2 hT2 hA3 hB3 hT3 hN
    have dn : DpAll K H3 [.ref T1, .ref T2, .ref T3] (near3.map Df.data) := by
      refine .cons ?_ (.cons ?_ (.cons ?_ .nil))
      · exact .tup (.inl (.inl x3)) (.cons (.str _) (.cons (.tup (.inl (.inl x1)) (.cons (.str _) .nil)) (.cons .non (.cons (.tup (.inl (.inl x2)) (.cons (.str _) (.cons (.int _) .nil))) .nil))))
      · exact .tup (.inl (.inl x6)) (.cons (.str _) (.cons (.tup (.inl (.inl x4)) (.cons (.str _) (.cons (.str _) .nil))) (.cons .non (.cons (.tup (.inl (.inl x5)) (.cons (.str _) (.cons (.int _) .nil))) .nil))))
      · exact .tup (.inl (.inl x9)) (.cons (.str _) (.cons (.tup (.inl (.inl x7)) (.cons (.str _) .nil)) (.cons (.int _) (.cons (.tup (.inl (.inl x8)) (.cons (.str _) (.cons (.int _) .nil))) .nil))))
    have b3 := b2.same t0
    clear x1 x2 x3 x4 x5 x6 x7 x8 x9
    generalize hns : [V.ref T1, V.ref T2, V.ref T3] = nvs at x10 dn
    have lnv := DpAll.len dn
    have nln : nls (near3.map Df.data) = true := by decide +kernel
    refine ⟨_, rfl, N, rfl, ⟨_, SqL.of x10⟩, for_list (K := K) (a := N) (xs := nvs) (fun i σ H4 => ∃ o4, σ = [some (.ref a), some (.ref p), o2, o3, o4, o5, o6, o7, o8, o9, some (.ref N), none] ∧ Same H3 H4) ⟨_, rfl, Same.refl _⟩ (fun i σ H4 _ ⟨_, _, h⟩ => SqL.of (h _ _ x10)) ?_ ?_⟩
    · rintro i y σ H4 hy ⟨q4, rfl, s4⟩
      obtain ⟨d0, ed0, dy⟩ := DpAll.get dn hy
      rw [List.getElem?_map] at ed0
      obtain ⟨di, edi, rfl⟩ := Option.map_eq_some_iff.mp ed0
      obtain ⟨ok1, sh1, sh1', nl1⟩ := near3_ok di (List.mem_of_getElem? edi)
      have x4 := s4 _ _ x10
      have dn4 := DpAll.off dn (l := []) (fun _ z => nomatch z) nln (Off.of s4)
      have dy4 : Dp K H4 y di.data := Dp.off dy (l := []) (fun _ z => nomatch z) nl1 (Off.of s4)
      have nlo : ∀ e : Df, nl e.data = true → nls ([e].map Df.data) = true := fun e h => by simp only [List.map_cons, List.map_nil, nls, h, Bool.and_self]
      refine ⟨_, rfl, N, rfl, ⟨_, SqL.of x4⟩, fun D1 hD1 => ?_⟩
      refine lc_list (K := K) (a := N) (xs := nvs) (fun j H5 => H5 D1 = some (.lst (((near3.take j).map fun dj => PyData.eqv di.data dj.data).map V.bl)) ∧ Same H4 H5) ⟨upd_same, same_new hD1 _⟩ ?_ ?_ ?_
      · rintro j H5 hj ⟨g1, g2⟩
        exact SqL.of (g2 _ _ x4)
      · rintro j z H5 hz ⟨g1, g2⟩
        obtain ⟨d0, ed2, dz⟩ := DpAll.get dn4 hz
        rw [List.getElem?_map] at ed2
        obtain ⟨dj, edj, rfl⟩ := Option.map_eq_some_iff.mp ed2
        obtain ⟨ok2, sh2, sh2', nl2⟩ := near3_ok dj (List.mem_of_getElem? edj)
        have lj := (List.getElem?_eq_some_iff.mp edj).1
        refine ⟨rfl, _, rfl, few (by simp), fun TT hTT => ?_⟩
        have s6 := same_new (o := .tup [y]) hTT
        have hTT6 : (upd H5 TT (.tup [y])) TT = some (.tup [y]) := upd_same
        generalize upd H5 TT (.tup [y]) = H6 at s6 hTT6
        have s46 := g2.trans s6
        refine fun xa da hxa hda nea => ⟨xa, da, TT, [y], [di], rfl, upd_same, .inr (.inl (.inl (same_mk hxa hda _ _ hTT6))), ne_of_none hTT6 hxa, .cons (Dp.off dy4 (l := []) (fun _ z => nomatch z) nl1 (Off.of (s46.trans (same_mk hxa hda)))) .nil, ok1, fun H7 o7 bka => ⟨rfl, _, rfl, few (by simp), fun TU hTU => ?_⟩⟩
        have s7 : Same H6 H7 := same_off (same_mk hxa hda) (l := [xa]) (fun b hb => by rw [List.mem_singleton.mp hb]; exact hxa) o7
        have s8 := same_new (o := .tup [z]) hTU
        have hTU8 : (upd H7 TU (.tup [z])) TU = some (.tup [z]) := upd_same
        generalize upd H7 TU (.tup [z]) = H8 at s8 hTU8
        have s48 := s46.trans (s7.trans s8)
        refine fun xb db hxb hdb neb => ⟨xb, db, TU, [z], [dj], rfl, upd_same, .inr (.inl (.inl (same_mk hxb hdb _ _ hTU8))), ne_of_none hTU8 hxb, .cons (Dp.off dz (l := []) (fun _ z => nomatch z) nl2 (Off.of (s48.trans (same_mk hxb hdb)))) .nil, ok2, fun H9 o9 bkb => ⟨rfl, ?_⟩⟩
        have s9 : Same H8 H9 := same_off (same_mk hxb hdb) (l := [xb]) (fun b hb => by rw [List.mem_singleton.mp hb]; exact hxb) o9
        have bka9 := bka.up (s8.trans s9)
        have bka9o := bka9
        have bkbo := bkb
        obtain ⟨u1, u2, u3, u4⟩ := bka9
        obtain ⟨w1, w2, w3, w4⟩ := bkb
        refine ⟨xa, u1, _, rfl, u3, .inr ⟨xb, w1, _, rfl, w3⟩, xa, xb, [di], [dj], rfl, bka9o, bkbo, sh1', sh2', fun H10 s10 => ⟨_, rfl, ?_⟩⟩
        have s510 := s6.trans (s7.trans (s8.trans (s9.trans s10)))
        refine ⟨_, s510 _ _ g1, few (by rw [List.length_map, List.length_map, List.length_take]; have l3 : j < 3 := lj; omega), ?_, same_off (g2.trans s510) (l := [D1]) (fun b hb => by rw [List.mem_singleton.mp hb]; exact hD1) (Off.put (by simp))⟩
        have ee : PyData.eqv (.tuple ([di].map Df.data)) (.tuple ([dj].map Df.data)) = PyData.eqv di.data dj.data := eqv_one _ _
        rw [upd_same, get_take edj, List.map_append, List.map_append, ee]
        rfl
      rintro H5 ⟨g1, g2⟩
      have x5 := g2 _ _ x4
      refine ⟨_, rfl, N, rfl, ⟨_, SqL.of x5⟩, fun D2 hD2 => ?_⟩
      refine lc_list (K := K) (a := N) (xs := nvs) (fun j H6 => H6 D2 = some (.lst (((near3.take j).map fun dj => PyData.eqv di.data dj.data).map V.bl)) ∧ Same H5 H6) ⟨upd_same, same_new hD2 _⟩ ?_ ?_ ?_
      · rintro j H6 hj ⟨k1, k2⟩
        exact SqL.of (k2 _ _ x5)
      · rintro j z H6 hz ⟨k1, k2⟩
        obtain ⟨d0, ed2, dz⟩ := DpAll.get dn4 hz
        rw [List.getElem?_map] at ed2
        obtain ⟨dj, edj, rfl⟩ := Option.map_eq_some_iff.mp ed2
        obtain ⟨ok2, sh2, sh2', nl2⟩ := near3_ok dj (List.mem_of_getElem? edj)
        have lj := (List.getElem?_eq_some_iff.mp edj).1
        have s46 := g2.trans k2
        refine ⟨rfl, _, rfl, _, rfl, di.data, dj.data, Dp.off dy4 (l := []) (fun _ z => nomatch z) nl1 (Off.of s46), Dp.off dz (l := []) (fun _ z => nomatch z) nl2 (Off.of s46), sh1, sh2, _, k1, few (by rw [List.length_map, List.length_map, List.length_take]; have l3 : j < 3 := lj; omega), ?_, same_off k2 (l := [D2]) (fun b hb => by rw [List.mem_singleton.mp hb]; exact hD2) (Off.put (by simp))⟩
        rw [upd_same, get_take edj, List.map_append, List.map_append]
        rfl
      rintro H6 ⟨k1, k2⟩
      generalize hbs : (near3.take nvs.length).map (fun dj => PyData.eqv di.data dj.data) = bls at g1 k1
      have shb : SeqAt.shaped (.list (bls.map PyData.bool)) = true := shaped_of (by simpa only [gd] using (bools_gd bls).1) (by simp only [PyData.depth, (bools_gd bls).2]; omega)
      refine ⟨.list (bls.map PyData.bool), .list (bls.map PyData.bool), .lst (SqL.of (k2 _ _ g1)) (bools_dp bls), .lst (SqL.of k1) (bools_dp bls), shb, shb, _, rfl, ?_⟩
      rw [SeqAt.eqv_refl _ (SeqAt.canLay_of_shaped shb)]
      exact iteF ⟨_, rfl, s4.trans (g2.trans k2)⟩
    · rintro σ H4 ⟨q4, rfl, s4⟩
      refine ⟨by decide, fun TT hTT => ?_⟩
      have mk : ∀ {HX : Hp} {TX : Addr}, HX TX = some (.tup []) ∨ HX TX = some (.lst []) → ∀ xa da, HX xa = none → HX da = none → ∀ R : VK, (∀ H', Same HX H' → BookAt K C H' xa [] → R .non H') → spIniBk K C 12 [.ref xa, .ref TX] (upd (upd HX da (.own xa)) xa (.ins C da [])) R L2.E0 := by
        intro HX TX hTX xa da hxa hda R hq
        have sm := same_mk (C := C) hxa hda
        refine ⟨xa, da, TX, [], [], rfl, upd_same, ?_, ?_, .nil, ok_nil, fun H7 o7 bka => hq H7 ?_ bka⟩
        · rcases hTX with h | h
          · exact .inr (.inl (.inl (sm _ _ h)))
          · exact .inl (SqL.of (sm _ _ h))
        · rcases hTX with h | h
          · exact ne_of_none h hxa
          · exact ne_of_none h hxa
        · exact same_off sm (l := [xa]) (fun b hb => by rw [List.mem_singleton.mp hb]; exact hxa) o7
      have shn : SeqAt.shaped (.tuple (([] : List Df).map Df.data)) = true := by decide +kernel
      refine fun xa da hxa hda nea => mk (.inl upd_same) xa da hxa hda _ fun H7 s7 bka => ⟨rfl, by decide, fun TU hTU => ?_⟩
      have s8 := same_new (o := .lst []) hTU
      refine fun xb db hxb hdb neb => mk (.inr upd_same) xb db hxb hdb _ fun H9 s9 bkb => ⟨rfl, ?_⟩
      have bka9 := bka.up (s8.trans s9)
      have bka9o := bka9
      have bkbo := bkb
      obtain ⟨u1, u2, u3, u4⟩ := bka9
      obtain ⟨w1, w2, w3, w4⟩ := bkb
      refine ⟨xa, u1, _, rfl, u3, .inr ⟨xb, w1, _, rfl, w3⟩, xa, xb, [], [], rfl, bka9o, bkbo, shn, shn, fun H10 s10 => ⟨_, rfl, _, rfl, ?_⟩⟩
      rw [show PyData.eqv (.tuple (([] : List Df).map Df.data)) (.tuple (([] : List Df).map Df.data)) = true by decide +kernel]
      refine iteT ⟨by decide, fun TV hTV => ?_⟩
      refine fun xc dc hxc hdc nec => mk (.inl upd_same) xc dc hxc hdc _ fun H11 s11 bkc => ⟨rfl, ?_⟩
      have bkco := bkc
      obtain ⟨v1, v2, v3, v4⟩ := bkc
      refine ⟨xc, v1, _, rfl, v3, xc, [], rfl, bkco, fun H12 s12 => ⟨0, rfl, by decide, rfl, ?_⟩⟩
      exact q H12
end
theorem kit_me {K : PySem.W.Frag} {C : Addr} : PySem.W.kitOne K (.ref C) (.ref C) = some true := by
  unfold PySem.W.kitOne
  simp
theorem kit_own {K : PySem.W.Frag} {C : Addr} {T : String} (c : (PySem.W.clsIn K C).isSome = true) (t : PySem.W.typeIn K (.ref C) = some (.type "type")) (s : PySem.W.subIn K (.type T) (.ref C) = some false) : PySem.W.kitOne K (.type T) (.ref C) = some false := by
  unfold PySem.W.kitOne PySem.W.kitCls
  rw [if_neg (show ¬ (Value.type T == Value.ref C) = true from by intro z; cases z)]
  show (if ((PySem.W.clsIn K C).isSome && PySem.W.typeIn K (.ref C) == some (.type "type")) = true then PySem.W.subIn K (.type T) (.ref C) else none) = some false
  rw [c, t]
  simp only [beq_self_eq_true, Bool.and_self, if_true]
  exact s
theorem kit_ofC {K : PySem.W.Frag} {C : Addr} {T : String} (m : PySem.W.kitMeta T = true) (s : PySem.W.subIn K (.ref C) (.type T) = some false) : PySem.W.kitOne K (.ref C) (.type T) = some false := by
  unfold PySem.W.kitOne PySem.W.kitCls
  rw [if_neg (show ¬ (Value.ref C == Value.type T) = true from by intro z; cases z)]
  show (if PySem.W.kitMeta T = true then _ else _) = _
  rw [if_pos m]
  exact s
theorem kmt1 : PySem.W.kitMeta "NoneType" = true := by decide +kernel
theorem kmt2 : PySem.W.kitMeta "bool" = true := by decide +kernel
theorem kmt3 : PySem.W.kitMeta "int" = true := by decide +kernel
theorem kmt4 : PySem.W.kitMeta "str" = true := by decide +kernel
theorem kmt5 : PySem.W.kitMeta "list" = true := by decide +kernel
theorem kmt6 : PySem.W.kitMeta "tuple" = true := by decide +kernel
theorem all_mk {l : PySem.W.OpenLaw} {w : World} {K : PySem.W.Frag} {h : Heap} {mg : Str → Option Value} {fa f1 f2 f3 f4 f5 f6 f7 f8 f9 f10 f11 f12 f13 f14 f15 f16 f17 f18 f19 f20 f21 f22 f23 f24 f25 f26 f27 f28 f29 f30 f31 f32 f33 f34 f35 f36 : Addr} (X : K.In h) (G : h.Ns mainGlobals mg) (hfa : mg "law" = some (.ref fa))
    {aE aT : Addr} {esE esT : Array DictEntry} {nE nT : Nat} {uE0 uE1 uE2 uE3 uE4 uE5 uE6 uE7 uE8 uE9 uE10 uE11 uE12 uE13 uE14 uE15 uT0 uT1 uT2 uT3 uT4 uT5 uT6 : Addr} {vE0 vE1 vE2 vE3 vE4 vE5 vE6 vE7 vE8 vE9 vE10 vE11 vE12 vE13 vE14 vE15 vT0 vT1 vT2 vT3 vT4 vT5 vT6 : Option Addr} {sE0 sE1 sE2 sE3 sE4 sE5 sE6 sE7 sE8 sE9 sE10 sE11 sE12 sE13 sE14 sE15 sT0 sT1 sT2 sT3 sT4 sT5 sT6 : Array (Option Value)} {nE0 nE1 nE2 nE3 nE4 nE5 nE6 nE7 nE8 nE9 nE10 nE11 nE12 nE13 nE14 nE15 nT0 nT1 nT2 nT3 nT4 nT5 nT6 : Nat} {tE0_0 tE1_0 tE2_0 tE3_0 tE3_1 tE4_0 tE5_0 tE5_1 tE6_0 tE6_1 tE7_0 tE8_0 tE9_0 tE9_1 tE10_0 tE10_1 tE10_2 tE11_0 tE11_1 tE11_2 tE12_0 tE12_1 tE12_2 tE13_0 tE13_1 tE13_2 tE14_0 tE14_1 tE14_2 tE14_3 tE14_4 tE15_0 tT0_0 tT0_1 tT1_0 tT1_1 tT2_0 tT2_1 tT2_2 tT3_0 tT3_1 tT4_0 tT5_0 tT5_1 tT6_0 tT6_1 : Tok}
    {LL LE : Addr}
    {xqL xqE : Str} {xNL xNE : Addr} {xbL xbE : List Value} {xsL xsE : List Str} {xuL xuE : List Value} {xaL xaE : Bool} {xcL xcE : Option Bool} {xdL xdE : Option Addr}
    {xkL_0 xkL_1 xkL_2 xkL_3 xkL_5 xkE_0 xkE_1 xkE_2 xkE_3 xkE_5 : Option Value}
    {gEE : Addr} {odEE anEE : Option Addr} {slEE : Array (Option Value)} {ouEE kVEE dcEE pmEE cdEE ctEE : Value}
    {gB0 : Addr} {ouB0 kVB0' dcB0' pmB0' cdB0' ctB0' : Value} {odB0' anB0' : Option Addr} {slB0' : Array (Option Value)}
    {gB1 : Addr} {ouB1 kVB1' dcB1' pmB1' cdB1' ctB1' : Value} {odB1' anB1' : Option Addr} {slB1' : Array (Option Value)}
    {gB2 : Addr} {ouB2 kVB2' dcB2' pmB2' cdB2' ctB2' : Value} {odB2' anB2' : Option Addr} {slB2' : Array (Option Value)}
    {gB3 : Addr} {ouB3 kVB3' dcB3' pmB3' cdB3' ctB3' : Value} {odB3' anB3' : Option Addr} {slB3' : Array (Option Value)}
    {gA0 : Addr} {ouA0 kVA0' dcA0' pmA0' cdA0' ctA0' : Value} {odA0' anA0' : Option Addr} {slA0' : Array (Option Value)}
    {CB CA Dk : Addr} {cdB : ClassData} {tkD : Tok}
    {od1 an1 od2 an2 od3 an3 od4 an4 od5 an5 od6 an6 od7 an7 od8 an8 od9 an9 od10 an10 od11 an11 od12 an12 od13 an13 od14 an14 od15 an15 od16 an16 od17 an17 od18 an18 od19 an19 od20 an20 od21 an21 od22 an22 od23 an23 od24 an24 od25 an25 od26 an26 od27 an27 od28 an28 od29 an29 od30 an30 od31 an31 od32 an32 od33 an33 od34 an34 od35 an35 od36 an36 : Option Addr} {sl1 sl2 sl3 sl4 sl5 sl6 sl7 sl8 sl9 sl10 sl11 sl12 sl13 sl14 sl15 sl16 sl17 sl18 sl19 sl20 sl21 sl22 sl23 sl24 sl25 sl26 sl27 sl28 sl29 sl30 sl31 sl32 sl33 sl34 sl35 sl36 : Array (Option Value)} {oc1 kV1 dc1 pm1 cd1 ct1 oc2 kV2 dc2 pm2 cd2 ct2 oc3 kV3 dc3 pm3 cd3 ct3 oc4 kV4 dc4 pm4 cd4 ct4 oc5 kV5 dc5 pm5 cd5 ct5 oc6 kV6 dc6 pm6 cd6 ct6 oc7 kV7 dc7 pm7 cd7 ct7 oc8 kV8 dc8 pm8 cd8 ct8 oc9 kV9 dc9 pm9 cd9 ct9 oc10 kV10 dc10 pm10 cd10 ct10 oc11 kV11 dc11 pm11 cd11 ct11 oc12 kV12 dc12 pm12 cd12 ct12 oc13 kV13 dc13 pm13 cd13 ct13 oc14 kV14 dc14 pm14 cd14 ct14 oc15 kV15 dc15 pm15 cd15 ct15 oc16 kV16 dc16 pm16 cd16 ct16 oc17 kV17 dc17 pm17 cd17 ct17 oc18 kV18 dc18 pm18 cd18 ct18 oc19 kV19 dc19 pm19 cd19 ct19 oc20 kV20 dc20 pm20 cd20 ct20 oc21 kV21 dc21 pm21 cd21 ct21 oc22 kV22 dc22 pm22 cd22 ct22 oc23 kV23 dc23 pm23 cd23 ct23 oc24 kV24 dc24 pm24 cd24 ct24 oc25 kV25 dc25 pm25 cd25 ct25 oc26 kV26 dc26 pm26 cd26 ct26 oc27 kV27 dc27 pm27 cd27 ct27 oc28 kV28 dc28 pm28 cd28 ct28 oc29 kV29 dc29 pm29 cd29 ct29 oc30 kV30 dc30 pm30 cd30 ct30 oc31 kV31 dc31 pm31 cd31 ct31 oc32 kV32 dc32 pm32 cd32 ct32 oc33 kV33 dc33 pm33 cd33 ct33 oc34 kV34 dc34 pm34 cd34 ct34 oc35 kV35 dc35 pm35 cd35 ct35 oc36 kV36 dc36 pm36 cd36 ct36 : Value}
    (aaE : PySem.W.nsIn K mainGlobals "EXPRESSIONS" = some (some (.ref aE)))
    (llE : K.lookup aE = some ⟨.type "dict", none, .dict esE nE, #[]⟩)
    (kkE : PySem.W.KeysLit w.params esE.toList)
    (ooE : (aE == sysModules) = false)
    (aaT : PySem.W.nsIn K mainGlobals "TESTS" = some (some (.ref aT)))
    (llT : K.lookup aT = some ⟨.type "dict", none, .dict esT nT, #[]⟩)
    (kkT : PySem.W.KeysLit w.params esT.toList)
    (ooT : (aT == sysModules) = false)
    (gE0 : PySem.W.nsIn K aE "int" = some (some (.ref uE0)))
    (hE0 : K.lookup uE0 = some ⟨.type "tuple", vE0, .seq #[.str "integer" tE0_0] nE0, sE0⟩)
    (gE1 : PySem.W.nsIn K aE "atom" = some (some (.ref uE1)))
    (hE1 : K.lookup uE1 = some ⟨.type "tuple", vE1, .seq #[.str "name" tE1_0] nE1, sE1⟩)
    (gE2 : PySem.W.nsIn K aE "name" = some (some (.ref uE2)))
    (hE2 : K.lookup uE2 = some ⟨.type "tuple", vE2, .seq #[.str "name" tE2_0] nE2, sE2⟩)
    (gE3 : PySem.W.nsIn K aE "plus" = some (some (.ref uE3)))
    (hE3 : K.lookup uE3 = some ⟨.type "tuple", vE3, .seq #[.str "expression" tE3_0, .str "integer" tE3_1] nE3, sE3⟩)
    (gE4 : PySem.W.nsIn K aE "tuple" = some (some (.ref uE4)))
    (hE4 : K.lookup uE4 = some ⟨.type "tuple", vE4, .seq #[.str "expressions" tE4_0] nE4, sE4⟩)
    (gE5 : PySem.W.nsIn K aE "part" = some (some (.ref uE5)))
    (hE5 : K.lookup uE5 = some ⟨.type "tuple", vE5, .seq #[.str "expression" tE5_0, .str "index" tE5_1] nE5, sE5⟩)
    (gE6 : PySem.W.nsIn K aE "join" = some (some (.ref uE6)))
    (hE6 : K.lookup uE6 = some ⟨.type "tuple", vE6, .seq #[.str "expression" tE6_0, .str "expression" tE6_1] nE6, sE6⟩)
    (gE7 : PySem.W.nsIn K aE "read" = some (some (.ref uE7)))
    (hE7 : K.lookup uE7 = some ⟨.type "tuple", vE7, .seq #[.str "name" tE7_0] nE7, sE7⟩)
    (gE8 : PySem.W.nsIn K aE "reach" = some (some (.ref uE8)))
    (hE8 : K.lookup uE8 = some ⟨.type "tuple", vE8, .seq #[.str "expression" tE8_0] nE8, sE8⟩)
    (gE9 : PySem.W.nsIn K aE "call" = some (some (.ref uE9)))
    (hE9 : K.lookup uE9 = some ⟨.type "tuple", vE9, .seq #[.str "name" tE9_0, .str "expressions" tE9_1] nE9, sE9⟩)
    (gE10 : PySem.W.nsIn K aE "let" = some (some (.ref uE10)))
    (hE10 : K.lookup uE10 = some ⟨.type "tuple", vE10, .seq #[.str "name" tE10_0, .str "expression" tE10_1, .str "expression" tE10_2] nE10, sE10⟩)
    (gE11 : PySem.W.nsIn K aE "if" = some (some (.ref uE11)))
    (hE11 : K.lookup uE11 = some ⟨.type "tuple", vE11, .seq #[.str "test" tE11_0, .str "expression" tE11_1, .str "expression" tE11_2] nE11, sE11⟩)
    (gE12 : PySem.W.nsIn K aE "each" = some (some (.ref uE12)))
    (hE12 : K.lookup uE12 = some ⟨.type "tuple", vE12, .seq #[.str "name" tE12_0, .str "expression" tE12_1, .str "expression" tE12_2] nE12, sE12⟩)
    (gE13 : PySem.W.nsIn K aE "pick" = some (some (.ref uE13)))
    (hE13 : K.lookup uE13 = some ⟨.type "tuple", vE13, .seq #[.str "name" tE13_0, .str "expression" tE13_1, .str "test" tE13_2] nE13, sE13⟩)
    (gE14 : PySem.W.nsIn K aE "fold" = some (some (.ref uE14)))
    (hE14 : K.lookup uE14 = some ⟨.type "tuple", vE14, .seq #[.str "name" tE14_0, .str "expression" tE14_1, .str "name" tE14_2, .str "expression" tE14_3, .str "expression" tE14_4] nE14, sE14⟩)
    (gE15 : PySem.W.nsIn K aE "fail" = some (some (.ref uE15)))
    (hE15 : K.lookup uE15 = some ⟨.type "tuple", vE15, .seq #[.str "name" tE15_0] nE15, sE15⟩)
    (gT0 : PySem.W.nsIn K aT "is" = some (some (.ref uT0)))
    (hT0 : K.lookup uT0 = some ⟨.type "tuple", vT0, .seq #[.str "kind" tT0_0, .str "expression" tT0_1] nT0, sT0⟩)
    (gT1 : PySem.W.nsIn K aT "sized" = some (some (.ref uT1)))
    (hT1 : K.lookup uT1 = some ⟨.type "tuple", vT1, .seq #[.str "expression" tT1_0, .str "index" tT1_1] nT1, sT1⟩)
    (gT2 : PySem.W.nsIn K aT "most" = some (some (.ref uT2)))
    (hT2 : K.lookup uT2 = some ⟨.type "tuple", vT2, .seq #[.str "expression" tT2_0, .str "integer" tT2_1, .str "expression" tT2_2] nT2, sT2⟩)
    (gT3 : PySem.W.nsIn K aT "alike" = some (some (.ref uT3)))
    (hT3 : K.lookup uT3 = some ⟨.type "tuple", vT3, .seq #[.str "expression" tT3_0, .str "expression" tT3_1] nT3, sT3⟩)
    (gT4 : PySem.W.nsIn K aT "not" = some (some (.ref uT4)))
    (hT4 : K.lookup uT4 = some ⟨.type "tuple", vT4, .seq #[.str "test" tT4_0] nT4, sT4⟩)
    (gT5 : PySem.W.nsIn K aT "both" = some (some (.ref uT5)))
    (hT5 : K.lookup uT5 = some ⟨.type "tuple", vT5, .seq #[.str "test" tT5_0, .str "test" tT5_1] nT5, sT5⟩)
    (gT6 : PySem.W.nsIn K aT "either" = some (some (.ref uT6)))
    (hT6 : K.lookup uT6 = some ⟨.type "tuple", vT6, .seq #[.str "test" tT6_0, .str "test" tT6_1] nT6, sT6⟩)
    (w0 : PySem.W.nsIn K aT "int" = some none)
    (w1 : PySem.W.nsIn K aT "atom" = some none)
    (w2 : PySem.W.nsIn K aT "name" = some none)
    (w3 : PySem.W.nsIn K aT "plus" = some none)
    (w4 : PySem.W.nsIn K aT "tuple" = some none)
    (w5 : PySem.W.nsIn K aT "part" = some none)
    (w6 : PySem.W.nsIn K aT "join" = some none)
    (w7 : PySem.W.nsIn K aT "read" = some none)
    (w8 : PySem.W.nsIn K aT "reach" = some none)
    (w9 : PySem.W.nsIn K aT "call" = some none)
    (w10 : PySem.W.nsIn K aT "let" = some none)
    (w11 : PySem.W.nsIn K aT "if" = some none)
    (w12 : PySem.W.nsIn K aT "each" = some none)
    (w13 : PySem.W.nsIn K aT "pick" = some none)
    (w14 : PySem.W.nsIn K aT "fold" = some none)
    (w15 : PySem.W.nsIn K aT "fail" = some none)
    (aXL : PySem.W.nsIn K mainGlobals "LoreError" = some (some (.ref LL)))
    (lXL : K.lookup LL = some (excClassObj "LoreError" xqL LL xNL xbL veT true xsL xuL xaL xcL xdL xkL_0 xkL_1 xkL_2 xkL_3 xkL_5 "ValueError.__new__"))
    (aXE : PySem.W.nsIn K mainGlobals "NoCell" = some (some (.ref LE)))
    (lXE : K.lookup LE = some (excClassObj "NoCell" xqE LE xNE xbE keT true xsE xuE xaE xcE xdE xkE_0 xkE_1 xkE_2 xkE_3 xkE_5 "LookupError.__new__"))
    (gaEE : PySem.W.findIn K (.ref LE) "__getattribute__" = some (some (.builtin "BaseException.__getattribute__")))
    (ggEE : PySem.W.findIn K (.ref LE) "__getattr__" = some none)
    (haEE : PySem.W.findIn K (.ref LE) "__class__" = some (some (.builtin "object.__class__")))
    (saEE : PySem.W.findIn K (.ref LE) "__setattr__" = some (some (.builtin "object.__setattr__")))
    (kcEE : PySem.W.keepIn K (.ref LE) = true)
    (amEE : PySem.W.findIn K (.ref LE) "__init__" = some (some (.ref gEE)))
    (imEE : PySem.W.typeIn K (.ref gEE) = some (.type "function"))
    (lmEE : K.lookup gEE = some ⟨ouEE, odEE, .func (PySem.W.fnOf "__init__" "NoCell.__init__" (defArgs sI2) (defBody sI2) (defScope sI2) .none kVEE dcEE pmEE anEE cdEE ctEE), slEE⟩)
    (cmEE : PySem.W.codeIn K cdEE "NoCell.__init__" = true)
    (kmEE : PySem.W.keepIn K (.ref gEE) = true)
    (noEE : PySem.W.findIn K (.ref LE) "name" = some none)
    (hn : PySem.W.specialIn K (.builtin "object.__class__") "__get__" = some (some (.builtin "getset_descriptor.__get__")))
    (htk : PySem.W.takesIn K (.builtin "object.__class__") = some true)
    (aCB : PySem.W.nsIn K mainGlobals "Book" = some (some (.ref CB)))
    (aCA : PySem.W.nsIn K mainGlobals "Calls" = some (some (.ref CA)))
    (amB0 : PySem.W.findIn K (.ref CB) "__init__" = some (some (.ref gB0)))
    (imB0 : PySem.W.isFn K (.ref gB0) = true)
    (lmB0 : K.lookup gB0 = some ⟨ouB0, odB0', .func (PySem.W.fnOf "__init__" "Book.__init__" (defArgs sIniBk) (defBody sIniBk) (defScope sIniBk) .none kVB0' dcB0' pmB0' anB0' cdB0' ctB0'), slB0'⟩)
    (cmB0 : PySem.W.codeIn K cdB0' "Book.__init__" = true)
    (kmB0 : PySem.W.keepIn K (.ref gB0) = true)
    (amB1 : PySem.W.findIn K (.ref CB) "__len__" = some (some (.ref gB1)))
    (imB1 : PySem.W.isFn K (.ref gB1) = true)
    (lmB1 : K.lookup gB1 = some ⟨ouB1, odB1', .func (PySem.W.fnOf "__len__" "Book.__len__" (defArgs sLenBk) (defBody sLenBk) (defScope sLenBk) .none kVB1' dcB1' pmB1' anB1' cdB1' ctB1'), slB1'⟩)
    (cmB1 : PySem.W.codeIn K cdB1' "Book.__len__" = true)
    (kmB1 : PySem.W.keepIn K (.ref gB1) = true)
    (amB2 : PySem.W.findIn K (.ref CB) "__getitem__" = some (some (.ref gB2)))
    (imB2 : PySem.W.isFn K (.ref gB2) = true)
    (lmB2 : K.lookup gB2 = some ⟨ouB2, odB2', .func (PySem.W.fnOf "__getitem__" "Book.__getitem__" (defArgs sGetBk) (defBody sGetBk) (defScope sGetBk) .none kVB2' dcB2' pmB2' anB2' cdB2' ctB2'), slB2'⟩)
    (cmB2 : PySem.W.codeIn K cdB2' "Book.__getitem__" = true)
    (kmB2 : PySem.W.keepIn K (.ref gB2) = true)
    (amB3 : PySem.W.findIn K (.ref CB) "__eq__" = some (some (.ref gB3)))
    (imB3 : PySem.W.isFn K (.ref gB3) = true)
    (lmB3 : K.lookup gB3 = some ⟨ouB3, odB3', .func (PySem.W.fnOf "__eq__" "Book.__eq__" (defArgs sEqBk) (defBody sEqBk) (defScope sEqBk) .none kVB3' dcB3' pmB3' anB3' cdB3' ctB3'), slB3'⟩)
    (cmB3 : PySem.W.codeIn K cdB3' "Book.__eq__" = true)
    (kmB3 : PySem.W.keepIn K (.ref gB3) = true)
    (amA0 : PySem.W.findIn K (.ref CA) "__init__" = some (some (.ref gA0)))
    (imA0 : PySem.W.isFn K (.ref gA0) = true)
    (lmA0 : K.lookup gA0 = some ⟨ouA0, odA0', .func (PySem.W.fnOf "__init__" "Calls.__init__" (defArgs sIniCa) (defBody sIniCa) (defScope sIniCa) .none kVA0' dcA0' pmA0' anA0' cdA0' ctA0'), slA0'⟩)
    (cmA0 : PySem.W.codeIn K cdA0' "Calls.__init__" = true)
    (kmA0 : PySem.W.keepIn K (.ref gA0) = true)
    (pgB : PySem.W.plainGet K CB Str.empty = true)
    (hdB : PySem.W.hasDictIn K CB = true)
    (poB : PySem.W.plainOver K CB = true)
    (saB : PySem.W.findIn K (.ref CB) "__setattr__" = some (some (.builtin "object.__setattr__")))
    (mkB : PySem.W.makesIn K CB = true)
    (kcB : PySem.W.keepIn K (.ref CB) = true)
    (noB_definitions : PySem.W.findIn K (.ref CB) "definitions" = some none)
    (pgA : PySem.W.plainGet K CA Str.empty = true)
    (hdA : PySem.W.hasDictIn K CA = true)
    (poA : PySem.W.plainOver K CA = true)
    (saA : PySem.W.findIn K (.ref CA) "__setattr__" = some (some (.builtin "object.__setattr__")))
    (mkA : PySem.W.makesIn K CA = true)
    (kcA : PySem.W.keepIn K (.ref CA) = true)
    (noA_counts : PySem.W.findIn K (.ref CA) "counts" = some none)
    (noA_own : PySem.W.findIn K (.ref CA) "own" = some none)
    (noA_falls : PySem.W.findIn K (.ref CA) "falls" = some none)
    (haB : PySem.W.findIn K (.ref CB) "__class__" = some (some (.builtin "object.__class__")))
    (hmB : PySem.W.mroIn K CB (.type "object") = some true)
    (tCB : PySem.W.typeIn K (.ref CB) = some (.type "type"))
    (cCB : PySem.W.clsIn K CB = some cdB)
    (neB : PySem.W.findIn K (.ref CB) "__ne__" = some (some (.builtin "object.__ne__")))
    (nqB : PySem.W.noSeq K CB = true)
    (fnB : PySem.W.fnIn K gB2 = true)
    (kaB1 : PySem.W.subIn K (.type "NoneType") (.ref CB) = some false)
    (jaB1 : PySem.W.subIn K (.ref CB) (.type "NoneType") = some false)
    (kaB2 : PySem.W.subIn K (.type "bool") (.ref CB) = some false)
    (jaB2 : PySem.W.subIn K (.ref CB) (.type "bool") = some false)
    (kaB3 : PySem.W.subIn K (.type "int") (.ref CB) = some false)
    (jaB3 : PySem.W.subIn K (.ref CB) (.type "int") = some false)
    (kaB4 : PySem.W.subIn K (.type "str") (.ref CB) = some false)
    (jaB4 : PySem.W.subIn K (.ref CB) (.type "str") = some false)
    (kaB5 : PySem.W.subIn K (.type "list") (.ref CB) = some false)
    (jaB5 : PySem.W.subIn K (.ref CB) (.type "list") = some false)
    (kaB6 : PySem.W.subIn K (.type "tuple") (.ref CB) = some false)
    (jaB6 : PySem.W.subIn K (.ref CB) (.type "tuple") = some false)
    (a1 : PySem.W.nsIn K mainGlobals "is_name" = some (some (.ref f1)))
    (l1 : K.lookup f1 = some ⟨oc1, od1, .func (PySem.W.fnOf "is_name" "is_name" (defArgs sName) (defBody sName) (defScope sName) .none kV1 dc1 pm1 an1 cd1 ct1), sl1⟩)
    (c1 : PySem.W.codeIn K cd1 "is_name" = true) (k1 : PySem.W.keepIn K (.ref f1) = true)
    (a2 : PySem.W.nsIn K mainGlobals "is_integer" = some (some (.ref f2)))
    (l2 : K.lookup f2 = some ⟨oc2, od2, .func (PySem.W.fnOf "is_integer" "is_integer" (defArgs sInteger) (defBody sInteger) (defScope sInteger) .none kV2 dc2 pm2 an2 cd2 ct2), sl2⟩)
    (c2 : PySem.W.codeIn K cd2 "is_integer" = true) (k2 : PySem.W.keepIn K (.ref f2) = true)
    (a3 : PySem.W.nsIn K mainGlobals "sorts_behind" = some (some (.ref f3)))
    (l3 : K.lookup f3 = some ⟨oc3, od3, .func (PySem.W.fnOf "sorts_behind" "sorts_behind" (defArgs sSorts) (defBody sSorts) (defScope sSorts) .none kV3 dc3 pm3 an3 cd3 ct3), sl3⟩)
    (c3 : PySem.W.codeIn K cd3 "sorts_behind" = true) (k3 : PySem.W.keepIn K (.ref f3) = true)
    (a4 : PySem.W.nsIn K mainGlobals "has_sort" = some (some (.ref f4)))
    (l4 : K.lookup f4 = some ⟨oc4, od4, .func (PySem.W.fnOf "has_sort" "has_sort" (defArgs sHasSort) (defBody sHasSort) (defScope sHasSort) .none kV4 dc4 pm4 an4 cd4 ct4), sl4⟩)
    (c4 : PySem.W.codeIn K cd4 "has_sort" = true) (k4 : PySem.W.keepIn K (.ref f4) = true)
    (a5 : PySem.W.nsIn K mainGlobals "has_form" = some (some (.ref f5)))
    (l5 : K.lookup f5 = some ⟨oc5, od5, .func (PySem.W.fnOf "has_form" "has_form" (defArgs sHasForm) (defBody sHasForm) (defScope sHasForm) .none kV5 dc5 pm5 an5 cd5 ct5), sl5⟩)
    (c5 : PySem.W.codeIn K cd5 "has_form" = true) (k5 : PySem.W.keepIn K (.ref f5) = true)
    (a6 : PySem.W.nsIn K mainGlobals "sorted_items" = some (some (.ref f6)))
    (l6 : K.lookup f6 = some ⟨oc6, od6, .func (PySem.W.fnOf "sorted_items" "sorted_items" (defArgs sItems) (defBody sItems) (defScope sItems) .none kV6 dc6 pm6 an6 cd6 ct6), sl6⟩)
    (c6 : PySem.W.codeIn K cd6 "sorted_items" = true) (k6 : PySem.W.keepIn K (.ref f6) = true)
    (a7 : PySem.W.nsIn K mainGlobals "inner_trees" = some (some (.ref f7)))
    (l7 : K.lookup f7 = some ⟨oc7, od7, .func (PySem.W.fnOf "inner_trees" "inner_trees" (defArgs sInner) (defBody sInner) (defScope sInner) .none kV7 dc7 pm7 an7 cd7 ct7), sl7⟩)
    (c7 : PySem.W.codeIn K cd7 "inner_trees" = true) (k7 : PySem.W.keepIn K (.ref f7) = true)
    (a8 : PySem.W.nsIn K mainGlobals "names_bound" = some (some (.ref f8)))
    (l8 : K.lookup f8 = some ⟨oc8, od8, .func (PySem.W.fnOf "names_bound" "names_bound" (defArgs sBound) (defBody sBound) (defScope sBound) .none kV8 dc8 pm8 an8 cd8 ct8), sl8⟩)
    (c8 : PySem.W.codeIn K cd8 "names_bound" = true) (k8 : PySem.W.keepIn K (.ref f8) = true)
    (a9 : PySem.W.nsIn K mainGlobals "path_of_scope" = some (some (.ref f9)))
    (l9 : K.lookup f9 = some ⟨oc9, od9, .func (PySem.W.fnOf "path_of_scope" "path_of_scope" (defArgs sPScope) (defBody sPScope) (defScope sPScope) .none kV9 dc9 pm9 an9 cd9 ct9), sl9⟩)
    (c9 : PySem.W.codeIn K cd9 "path_of_scope" = true) (k9 : PySem.W.keepIn K (.ref f9) = true)
    (a10 : PySem.W.nsIn K mainGlobals "look_body" = some (some (.ref f10)))
    (l10 : K.lookup f10 = some ⟨oc10, od10, .func (PySem.W.fnOf "look_body" "look_body" (defArgs sLook) (defBody sLook) (defScope sLook) .none kV10 dc10 pm10 an10 cd10 ct10), sl10⟩)
    (c10 : PySem.W.codeIn K cd10 "look_body" = true) (k10 : PySem.W.keepIn K (.ref f10) = true)
    (a11 : PySem.W.nsIn K mainGlobals "counts_in" = some (some (.ref f11)))
    (l11 : K.lookup f11 = some ⟨oc11, od11, .func (PySem.W.fnOf "counts_in" "counts_in" (defArgs sCounts) (defBody sCounts) (defScope sCounts) .none kV11 dc11 pm11 an11 cd11 ct11), sl11⟩)
    (c11 : PySem.W.codeIn K cd11 "counts_in" = true) (k11 : PySem.W.keepIn K (.ref f11) = true)
    (a12 : PySem.W.nsIn K mainGlobals "check_definitions" = some (some (.ref f12)))
    (l12 : K.lookup f12 = some ⟨oc12, od12, .func (PySem.W.fnOf "check_definitions" "check_definitions" (defArgs sCheck) (defBody sCheck) (defScope sCheck) .none kV12 dc12 pm12 an12 cd12 ct12), sl12⟩)
    (c12 : PySem.W.codeIn K cd12 "check_definitions" = true) (k12 : PySem.W.keepIn K (.ref f12) = true)
    (a13 : PySem.W.nsIn K mainGlobals "wrong_head" = some (some (.ref f13)))
    (l13 : K.lookup f13 = some ⟨oc13, od13, .func (PySem.W.fnOf "wrong_head" "wrong_head" (defArgs sWHead) (defBody sWHead) (defScope sWHead) .none kV13 dc13 pm13 an13 cd13 ct13), sl13⟩)
    (c13 : PySem.W.codeIn K cd13 "wrong_head" = true) (k13 : PySem.W.keepIn K (.ref f13) = true)
    (a14 : PySem.W.nsIn K mainGlobals "first_wrong_tree" = some (some (.ref f14)))
    (l14 : K.lookup f14 = some ⟨oc14, od14, .func (PySem.W.fnOf "first_wrong_tree" "first_wrong_tree" (defArgs sFirst) (defBody sFirst) (defScope sFirst) .none kV14 dc14 pm14 an14 cd14 ct14), sl14⟩)
    (c14 : PySem.W.codeIn K cd14 "first_wrong_tree" = true) (k14 : PySem.W.keepIn K (.ref f14) = true)
    (a15 : PySem.W.nsIn K mainGlobals "wrong_word" = some (some (.ref f15)))
    (l15 : K.lookup f15 = some ⟨oc15, od15, .func (PySem.W.fnOf "wrong_word" "wrong_word" (defArgs sWWord) (defBody sWWord) (defScope sWWord) .none kV15 dc15 pm15 an15 cd15 ct15), sl15⟩)
    (c15 : PySem.W.codeIn K cd15 "wrong_word" = true) (k15 : PySem.W.keepIn K (.ref f15) = true)
    (a16 : PySem.W.nsIn K mainGlobals "wrong_call" = some (some (.ref f16)))
    (l16 : K.lookup f16 = some ⟨oc16, od16, .func (PySem.W.fnOf "wrong_call" "wrong_call" (defArgs sWCall) (defBody sWCall) (defScope sWCall) .none kV16 dc16 pm16 an16 cd16 ct16), sl16⟩)
    (c16 : PySem.W.codeIn K cd16 "wrong_call" = true) (k16 : PySem.W.keepIn K (.ref f16) = true)
    (a17 : PySem.W.nsIn K mainGlobals "inner_scope" = some (some (.ref f17)))
    (l17 : K.lookup f17 = some ⟨oc17, od17, .func (PySem.W.fnOf "inner_scope" "inner_scope" (defArgs sIScope) (defBody sIScope) (defScope sIScope) .none kV17 dc17 pm17 an17 cd17 ct17), sl17⟩)
    (c17 : PySem.W.codeIn K cd17 "inner_scope" = true) (k17 : PySem.W.keepIn K (.ref f17) = true)
    (a18 : PySem.W.nsIn K mainGlobals "scope_with" = some (some (.ref f18)))
    (l18 : K.lookup f18 = some ⟨oc18, od18, .func (PySem.W.fnOf "scope_with" "scope_with" (defArgs sSWith) (defBody sSWith) (defScope sSWith) .none kV18 dc18 pm18 an18 cd18 ct18), sl18⟩)
    (c18 : PySem.W.codeIn K cd18 "scope_with" = true) (k18 : PySem.W.keepIn K (.ref f18) = true)
    (a19 : PySem.W.nsIn K mainGlobals "part_standing" = some (some (.ref f19)))
    (l19 : K.lookup f19 = some ⟨oc19, od19, .func (PySem.W.fnOf "part_standing" "part_standing" (defArgs sPStand) (defBody sPStand) (defScope sPStand) .none kV19 dc19 pm19 an19 cd19 ct19), sl19⟩)
    (c19 : PySem.W.codeIn K cd19 "part_standing" = true) (k19 : PySem.W.keepIn K (.ref f19) = true)
    (a20 : PySem.W.nsIn K mainGlobals "standing" = some (some (.ref f20)))
    (l20 : K.lookup f20 = some ⟨oc20, od20, .func (PySem.W.fnOf "standing" "standing" (defArgs sStand) (defBody sStand) (defScope sStand) .none kV20 dc20 pm20 an20 cd20 ct20), sl20⟩)
    (c20 : PySem.W.codeIn K cd20 "standing" = true) (k20 : PySem.W.keepIn K (.ref f20) = true)
    (a21 : PySem.W.nsIn K mainGlobals "_law_box" = some (some (.ref f21)))
    (l21 : K.lookup f21 = some ⟨oc21, od21, .func (PySem.W.fnOf "_law_box" "_law_box" (defArgs sBox) (defBody sBox) (defScope sBox) .none kV21 dc21 pm21 an21 cd21 ct21), sl21⟩)
    (c21 : PySem.W.codeIn K cd21 "_law_box" = true) (k21 : PySem.W.keepIn K (.ref f21) = true)
    (a22 : PySem.W.nsIn K mainGlobals "_law_take" = some (some (.ref f22)))
    (l22 : K.lookup f22 = some ⟨oc22, od22, .func (PySem.W.fnOf "_law_take" "_law_take" (defArgs sTake) (defBody sTake) (defScope sTake) .none kV22 dc22 pm22 an22 cd22 ct22), sl22⟩)
    (c22 : PySem.W.codeIn K cd22 "_law_take" = true) (k22 : PySem.W.keepIn K (.ref f22) = true)
    (a23 : PySem.W.nsIn K mainGlobals "_law_pick" = some (some (.ref f23)))
    (l23 : K.lookup f23 = some ⟨oc23, od23, .func (PySem.W.fnOf "_law_pick" "_law_pick" (defArgs sPick) (defBody sPick) (defScope sPick) .none kV23 dc23 pm23 an23 cd23 ct23), sl23⟩)
    (c23 : PySem.W.codeIn K cd23 "_law_pick" = true) (k23 : PySem.W.keepIn K (.ref f23) = true)
    (a24 : PySem.W.nsIn K mainGlobals "_law_mixed" = some (some (.ref f24)))
    (l24 : K.lookup f24 = some ⟨oc24, od24, .func (PySem.W.fnOf "_law_mixed" "_law_mixed" (defArgs sMixed) (defBody sMixed) (defScope sMixed) .none kV24 dc24 pm24 an24 cd24 ct24), sl24⟩)
    (c24 : PySem.W.codeIn K cd24 "_law_mixed" = true) (k24 : PySem.W.keepIn K (.ref f24) = true)
    (a25 : PySem.W.nsIn K mainGlobals "_law_forms" = some (some (.ref f25)))
    (l25 : K.lookup f25 = some ⟨oc25, od25, .func (PySem.W.fnOf "_law_forms" "_law_forms" (defArgs sForms) (defBody sForms) (defScope sForms) .none kV25 dc25 pm25 an25 cd25 ct25), sl25⟩)
    (c25 : PySem.W.codeIn K cd25 "_law_forms" = true) (k25 : PySem.W.keepIn K (.ref f25) = true)
    (a26 : PySem.W.nsIn K mainGlobals "_law_standing" = some (some (.ref f26)))
    (l26 : K.lookup f26 = some ⟨oc26, od26, .func (PySem.W.fnOf "_law_standing" "_law_standing" (defArgs sLStand) (defBody sLStand) (defScope sLStand) .none kV26 dc26 pm26 an26 cd26 ct26), sl26⟩)
    (c26 : PySem.W.codeIn K cd26 "_law_standing" = true) (k26 : PySem.W.keepIn K (.ref f26) = true)
    (a27 : PySem.W.nsIn K mainGlobals "_law_leaf" = some (some (.ref f27)))
    (l27 : K.lookup f27 = some ⟨oc27, od27, .func (PySem.W.fnOf "_law_leaf" "_law_leaf" (defArgs sLeaf) (defBody sLeaf) (defScope sLeaf) .none kV27 dc27 pm27 an27 cd27 ct27), sl27⟩)
    (c27 : PySem.W.codeIn K cd27 "_law_leaf" = true) (k27 : PySem.W.keepIn K (.ref f27) = true)
    (a28 : PySem.W.nsIn K mainGlobals "_law_call" = some (some (.ref f28)))
    (l28 : K.lookup f28 = some ⟨oc28, od28, .func (PySem.W.fnOf "_law_call" "_law_call" (defArgs sLCall) (defBody sLCall) (defScope sLCall) .none kV28 dc28 pm28 an28 cd28 ct28), sl28⟩)
    (c28 : PySem.W.codeIn K cd28 "_law_call" = true) (k28 : PySem.W.keepIn K (.ref f28) = true)
    (a29 : PySem.W.nsIn K mainGlobals "_law_binder" = some (some (.ref f29)))
    (l29 : K.lookup f29 = some ⟨oc29, od29, .func (PySem.W.fnOf "_law_binder" "_law_binder" (defArgs sBinder) (defBody sBinder) (defScope sBinder) .none kV29 dc29 pm29 an29 cd29 ct29), sl29⟩)
    (c29 : PySem.W.codeIn K cd29 "_law_binder" = true) (k29 : PySem.W.keepIn K (.ref f29) = true)
    (a30 : PySem.W.nsIn K mainGlobals "_law_grown" = some (some (.ref f30)))
    (l30 : K.lookup f30 = some ⟨oc30, od30, .func (PySem.W.fnOf "_law_grown" "_law_grown" (defArgs sGrown) (defBody sGrown) (defScope sGrown) .none kV30 dc30 pm30 an30 cd30 ct30), sl30⟩)
    (c30 : PySem.W.codeIn K cd30 "_law_grown" = true) (k30 : PySem.W.keepIn K (.ref f30) = true)
    (a31 : PySem.W.nsIn K mainGlobals "_law_locals" = some (some (.ref f31)))
    (l31 : K.lookup f31 = some ⟨oc31, od31, .func (PySem.W.fnOf "_law_locals" "_law_locals" (defArgs sLocals) (defBody sLocals) (defScope sLocals) .none kV31 dc31 pm31 an31 cd31 ct31), sl31⟩)
    (c31 : PySem.W.codeIn K cd31 "_law_locals" = true) (k31 : PySem.W.keepIn K (.ref f31) = true)
    (a32 : PySem.W.nsIn K mainGlobals "_law_definitions" = some (some (.ref f32)))
    (l32 : K.lookup f32 = some ⟨oc32, od32, .func (PySem.W.fnOf "_law_definitions" "_law_definitions" (defArgs sDefs) (defBody sDefs) (defScope sDefs) .none kV32 dc32 pm32 an32 cd32 ct32), sl32⟩)
    (c32 : PySem.W.codeIn K cd32 "_law_definitions" = true) (k32 : PySem.W.keepIn K (.ref f32) = true)
    (a33 : PySem.W.nsIn K mainGlobals "_law_binder_of" = some (some (.ref f33)))
    (l33 : K.lookup f33 = some ⟨oc33, od33, .func (PySem.W.fnOf "_law_binder_of" "_law_binder_of" (defArgs sBinderOf) (defBody sBinderOf) (defScope sBinderOf) .none kV33 dc33 pm33 an33 cd33 ct33), sl33⟩)
    (c33 : PySem.W.codeIn K cd33 "_law_binder_of" = true) (k33 : PySem.W.keepIn K (.ref f33) = true)
    (a34 : PySem.W.nsIn K mainGlobals "_law_lacks" = some (some (.ref f34)))
    (l34 : K.lookup f34 = some ⟨oc34, od34, .func (PySem.W.fnOf "_law_lacks" "_law_lacks" (defArgs sLacks) (defBody sLacks) (defScope sLacks) .none kV34 dc34 pm34 an34 cd34 ct34), sl34⟩)
    (c34 : PySem.W.codeIn K cd34 "_law_lacks" = true) (k34 : PySem.W.keepIn K (.ref f34) = true)
    (a35 : PySem.W.nsIn K mainGlobals "_law_right" = some (some (.ref f35)))
    (l35 : K.lookup f35 = some ⟨oc35, od35, .func (PySem.W.fnOf "_law_right" "_law_right" (defArgs sRight) (defBody sRight) (defScope sRight) .none kV35 dc35 pm35 an35 cd35 ct35), sl35⟩)
    (c35 : PySem.W.codeIn K cd35 "_law_right" = true) (k35 : PySem.W.keepIn K (.ref f35) = true)
    (a36 : PySem.W.nsIn K mainGlobals "law" = some (some (.ref f36)))
    (l36 : K.lookup f36 = some ⟨oc36, od36, .func (PySem.W.fnOf "law" "law" (defArgs sLaw) (defBody sLaw) (defScope sLaw) .none kV36 dc36 pm36 an36 cd36 ct36), sl36⟩)
    (c36 : PySem.W.codeIn K cd36 "law" = true) (k36 : PySem.W.keepIn K (.ref f36) = true)
    (z1 : PySem.W.nsIn K mainGlobals "isinstance" = some none)
    (z2 : PySem.W.nsIn K mainGlobals "len" = some none)
    (z3 : PySem.W.nsIn K mainGlobals "all" = some none)
    (z4 : PySem.W.nsIn K mainGlobals "str" = some none)
    (z5 : PySem.W.nsIn K mainGlobals "tuple" = some none)
    (z6 : PySem.W.nsIn K mainGlobals "int" = some none)
    (z7 : PySem.W.nsIn K mainGlobals "bool" = some none)
    (z8 : PySem.W.nsIn K mainGlobals "range" = some none)
    (z9 : PySem.W.nsIn K mainGlobals "repr" = some none)
    (z10 : PySem.W.nsIn K mainGlobals "abs" = some none)
    (z11 : PySem.W.nsIn K mainGlobals "list" = some none)
    (z12 : PySem.W.nsIn K mainGlobals "zip" = some none)
    (z13 : PySem.W.nsIn K mainGlobals "enumerate" = some none)
    (z14 : PySem.W.nsIn K mainGlobals "any" = some none)
    (z15 : PySem.W.nsIn K mainGlobals "dict" = some none)
    (z16 : PySem.W.nsIn K mainGlobals "KeyError" = some none)
    (hkD : kV10 = .ref Dk)
    (hkN : PySem.W.nsIn K Dk "name" = some (some (.str "" tkD)))
    : ∃ fd : FuncData, (∀ (s : Shared) (v : Value), BindsTo s fd ⟨[v], []⟩ [("_law_script", v)]) ∧ ∀ base : Heap, K.In base → base.Ns mainGlobals mg → FnG l.prog w K mg base CX0 65 fa fd ["_law_script"] (spLaw K) := by
  have e := hfa.symm.trans (PySem.W.mg_of X G a36)
  cases e
  have F1 := fun_mk (st := sName) l1 c1 k1
  have b1 := F1.binds (ps := ["thing"]) fun _ _ _ _ _ _ us hl => match us, hl with | [_], _ => rfl
  have m1 := PySem.W.mg_of X G a1
  have F2 := fun_mk (st := sInteger) l2 c2 k2
  have b2 := F2.binds (ps := ["thing"]) fun _ _ _ _ _ _ us hl => match us, hl with | [_], _ => rfl
  have m2 := PySem.W.mg_of X G a2
  have F3 := fun_mk (st := sSorts) l3 c3 k3
  have b3 := F3.binds (ps := ["word", "wanted"]) fun _ _ _ _ _ _ us hl => match us, hl with | [_, _], _ => rfl
  have m3 := PySem.W.mg_of X G a3
  have F4 := fun_mk (st := sHasSort) l4 c4 k4
  have b4 := F4.binds (ps := ["item", "sort"]) fun _ _ _ _ _ _ us hl => match us, hl with | [_, _], _ => rfl
  have m4 := PySem.W.mg_of X G a4
  have F5 := fun_mk (st := sHasForm) l5 c5 k5
  have b5 := F5.binds (ps := ["tree", "wanted"]) fun _ _ _ _ _ _ us hl => match us, hl with | [_, _], _ => rfl
  have m5 := PySem.W.mg_of X G a5
  have F6 := fun_mk (st := sItems) l6 c6 k6
  have b6 := F6.binds (ps := ["tree"]) fun _ _ _ _ _ _ us hl => match us, hl with | [_], _ => rfl
  have m6 := PySem.W.mg_of X G a6
  have F7 := fun_mk (st := sInner) l7 c7 k7
  have b7 := F7.binds (ps := ["tree"]) fun _ _ _ _ _ _ us hl => match us, hl with | [_], _ => rfl
  have m7 := PySem.W.mg_of X G a7
  have F8 := fun_mk (st := sBound) l8 c8 k8
  have b8 := F8.binds (ps := ["tree"]) fun _ _ _ _ _ _ us hl => match us, hl with | [_], _ => rfl
  have m8 := PySem.W.mg_of X G a8
  have F9 := fun_mk (st := sPScope) l9 c9 k9
  have b9 := F9.binds (ps := ["tree"]) fun _ _ _ _ _ _ us hl => match us, hl with | [_], _ => rfl
  have m9 := PySem.W.mg_of X G a9
  have F10 := fun_mk (st := sLook) l10 c10 k10
  have F11 := fun_mk (st := sCounts) l11 c11 k11
  have b11 := F11.binds (ps := ["definitions"]) fun _ _ _ _ _ _ us hl => match us, hl with | [_], _ => rfl
  have m11 := PySem.W.mg_of X G a11
  have F12 := fun_mk (st := sCheck) l12 c12 k12
  have b12 := F12.binds (ps := ["definitions"]) fun _ _ _ _ _ _ us hl => match us, hl with | [_], _ => rfl
  have m12 := PySem.W.mg_of X G a12
  have F13 := fun_mk (st := sWHead) l13 c13 k13
  have b13 := F13.binds (ps := ["name", "parameters", "falls", "counts"]) fun _ _ _ _ _ _ us hl => match us, hl with | [_, _, _, _], _ => rfl
  have m13 := PySem.W.mg_of X G a13
  have F14 := fun_mk (st := sFirst) l14 c14 k14
  have b14 := F14.binds (ps := ["body", "parameters", "calls"]) fun _ _ _ _ _ _ us hl => match us, hl with | [_, _, _], _ => rfl
  have m14 := PySem.W.mg_of X G a14
  have F15 := fun_mk (st := sWWord) l15 c15 k15
  have b15 := F15.binds (ps := ["tree", "wanted", "scope", "taken", "calls"]) fun _ _ _ _ _ _ us hl => match us, hl with | [_, _, _, _, _], _ => rfl
  have m15 := PySem.W.mg_of X G a15
  have F16 := fun_mk (st := sWCall) l16 c16 k16
  have b16 := F16.binds (ps := ["name", "arguments", "scope", "calls"]) fun _ _ _ _ _ _ us hl => match us, hl with | [_, _, _, _], _ => rfl
  have m16 := PySem.W.mg_of X G a16
  have F17 := fun_mk (st := sIScope) l17 c17 k17
  have b17 := F17.binds (ps := ["tree", "step", "scope"]) fun _ _ _ _ _ _ us hl => match us, hl with | [_, _, _], _ => rfl
  have m17 := PySem.W.mg_of X G a17
  have F18 := fun_mk (st := sSWith) l18 c18 k18
  have b18 := F18.binds (ps := ["scope", "name", "what"]) fun _ _ _ _ _ _ us hl => match us, hl with | [_, _, _], _ => rfl
  have m18 := PySem.W.mg_of X G a18
  have F19 := fun_mk (st := sPStand) l19 c19 k19
  have b19 := F19.binds (ps := ["tree", "scope"]) fun _ _ _ _ _ _ us hl => match us, hl with | [_, _], _ => rfl
  have m19 := PySem.W.mg_of X G a19
  have F20 := fun_mk (st := sStand) l20 c20 k20
  have b20 := F20.binds (ps := ["tree", "scope"]) fun _ _ _ _ _ _ us hl => match us, hl with | [_, _], _ => rfl
  have m20 := PySem.W.mg_of X G a20
  have F21 := fun_mk (st := sBox) l21 c21 k21
  have b21 := F21.binds (ps := ["_law_script", "_law_base"]) fun _ _ _ _ _ _ us hl => match us, hl with | [_, _], _ => rfl
  have m21 := PySem.W.mg_of X G a21
  have F22 := fun_mk (st := sTake) l22 c22 k22
  have b22 := F22.binds (ps := ["_law_box_here", "_law_many"]) fun _ _ _ _ _ _ us hl => match us, hl with | [_, _], _ => rfl
  have m22 := PySem.W.mg_of X G a22
  have F23 := fun_mk (st := sPick) l23 c23 k23
  have b23 := F23.binds (ps := ["_law_box_here", "_law_items"]) fun _ _ _ _ _ _ us hl => match us, hl with | [_, _], _ => rfl
  have m23 := PySem.W.mg_of X G a23
  have F24 := fun_mk (st := sMixed) l24 c24 k24
  have b24 := F24.binds (ps := ["_law_box_here", "_law_items"]) fun _ _ _ _ _ _ us hl => match us, hl with | [_, _], _ => rfl
  have m24 := PySem.W.mg_of X G a24
  have F25 := fun_mk (st := sForms) l25 c25 k25
  have b25 := F25.binds (ps := ["_law_sort"]) fun _ _ _ _ _ _ us hl => match us, hl with | [_], _ => rfl
  have m25 := PySem.W.mg_of X G a25
  have F26 := fun_mk (st := sLStand) l26 c26 k26
  have b26 := F26.binds (ps := ["_law_tree", "_law_scope"]) fun _ _ _ _ _ _ us hl => match us, hl with | [_, _], _ => rfl
  have m26 := PySem.W.mg_of X G a26
  have F27 := fun_mk (st := sLeaf) l27 c27 k27
  have b27 := F27.binds (ps := ["_law_box_here", "_law_world", "_law_scope"]) fun _ _ _ _ _ _ us hl => match us, hl with | [_, _, _], _ => rfl
  have m27 := PySem.W.mg_of X G a27
  have F28 := fun_mk (st := sLCall) l28 c28 k28
  have b28 := F28.binds (ps := ["_law_box_here", "_law_world", "_law_scope", "_law_deep"]) fun _ _ _ _ _ _ us hl => match us, hl with | [_, _, _, _], _ => rfl
  have m28 := PySem.W.mg_of X G a28
  have F29 := fun_mk (st := sBinder) l29 c29 k29
  have b29 := F29.binds (ps := ["_law_box_here", "_law_world", "_law_head", "_law_scope", "_law_deep"]) fun _ _ _ _ _ _ us hl => match us, hl with | [_, _, _, _, _], _ => rfl
  have m29 := PySem.W.mg_of X G a29
  have F30 := fun_mk (st := sGrown) l30 c30 k30
  have b30 := F30.binds (ps := ["_law_box_here", "_law_world", "_law_sort", "_law_scope", "_law_deep"]) fun _ _ _ _ _ _ us hl => match us, hl with | [_, _, _, _, _], _ => rfl
  have m30 := PySem.W.mg_of X G a30
  have F31 := fun_mk (st := sLocals) l31 c31 k31
  have b31 := F31.binds (ps := ["_law_box_here"]) fun _ _ _ _ _ _ us hl => match us, hl with | [_], _ => rfl
  have m31 := PySem.W.mg_of X G a31
  have F32 := fun_mk (st := sDefs) l32 c32 k32
  have b32 := F32.binds (ps := ["_law_box_here", "_law_most"]) fun _ _ _ _ _ _ us hl => match us, hl with | [_, _], _ => rfl
  have m32 := PySem.W.mg_of X G a32
  have F33 := fun_mk (st := sBinderOf) l33 c33 k33
  have b33 := F33.binds (ps := ["_law_box_here", "_law_world", "_law_falling", "_law_scope"]) fun _ _ _ _ _ _ us hl => match us, hl with | [_, _, _, _], _ => rfl
  have m33 := PySem.W.mg_of X G a33
  have F34 := fun_mk (st := sLacks) l34 c34 k34
  have b34 := F34.binds (ps := ["_law_book", "_law_lost"]) fun _ _ _ _ _ _ us hl => match us, hl with | [_, _], _ => rfl
  have m34 := PySem.W.mg_of X G a34
  have F35 := fun_mk (st := sRight) l35 c35 k35
  have b35 := F35.binds (ps := ["_law_box_here", "_law_some"]) fun _ _ _ _ _ _ us hl => match us, hl with | [_, _], _ => rfl
  have m35 := PySem.W.mg_of X G a35
  have F36 := fun_mk (st := sLaw) l36 c36 k36
  have n_isinstance := PySem.W.mg_none_of X G z1
  have n_len := PySem.W.mg_none_of X G z2
  have n_all := PySem.W.mg_none_of X G z3
  have n_str := PySem.W.mg_none_of X G z4
  have n_tuple := PySem.W.mg_none_of X G z5
  have n_int := PySem.W.mg_none_of X G z6
  have n_bool := PySem.W.mg_none_of X G z7
  have n_range := PySem.W.mg_none_of X G z8
  have n_repr := PySem.W.mg_none_of X G z9
  have n_abs := PySem.W.mg_none_of X G z10
  have n_list := PySem.W.mg_none_of X G z11
  have n_zip := PySem.W.mg_none_of X G z12
  have n_enumerate := PySem.W.mg_none_of X G z13
  have n_any := PySem.W.mg_none_of X G z14
  have n_dict := PySem.W.mg_none_of X G z15
  have n_KeyError := PySem.W.mg_none_of X G z16
  refine ⟨PySem.W.fnOf "law" "law" (defArgs sLaw) (defBody sLaw) (defScope sLaw) .none kV36 dc36 pm36 an36 cd36 ct36, fun s v => .of_eq rfl, fun base _ _ => ?_⟩
  have TB : Tab K w mg aE esE nE aT esT nT := by
    refine ⟨PySem.W.mg_of X G aaE, PySem.W.mg_of X G aaT, ⟨llE, kkE, ooE⟩, ⟨llT, kkT, ooT⟩, ?e1, ?t1, ?e0⟩
    case e1 =>
      intro p hp
      simp only [exL, List.mem_cons, List.not_mem_nil, or_false] at hp
      rcases hp with rfl | rfl | rfl | rfl | rfl | rfl | rfl | rfl | rfl | rfl | rfl | rfl | rfl | rfl | rfl | rfl
      · exact ⟨uE0, gE0, fun H => by
            have e : sortsV "k" = [.str "integer"] := by decide +kernel
            rw [e]
            exact .inr ⟨_, _, _, hE0, rfl, rfl, (by show 1 ≤ sizeLine; decide), .cons ⟨_, rfl⟩ (.nil)⟩⟩
      · exact ⟨uE1, gE1, fun H => by
            have e : sortsV "n" = [.str "name"] := by decide +kernel
            rw [e]
            exact .inr ⟨_, _, _, hE1, rfl, rfl, (by show 1 ≤ sizeLine; decide), .cons ⟨_, rfl⟩ (.nil)⟩⟩
      · exact ⟨uE2, gE2, fun H => by
            have e : sortsV "n" = [.str "name"] := by decide +kernel
            rw [e]
            exact .inr ⟨_, _, _, hE2, rfl, rfl, (by show 1 ≤ sizeLine; decide), .cons ⟨_, rfl⟩ (.nil)⟩⟩
      · exact ⟨uE3, gE3, fun H => by
            have e : sortsV "ek" = [.str "expression", .str "integer"] := by decide +kernel
            rw [e]
            exact .inr ⟨_, _, _, hE3, rfl, rfl, (by show 2 ≤ sizeLine; decide), .cons ⟨_, rfl⟩ (.cons ⟨_, rfl⟩ (.nil))⟩⟩
      · exact ⟨uE4, gE4, fun H => by
            have e : sortsV "s" = [.str "expressions"] := by decide +kernel
            rw [e]
            exact .inr ⟨_, _, _, hE4, rfl, rfl, (by show 1 ≤ sizeLine; decide), .cons ⟨_, rfl⟩ (.nil)⟩⟩
      · exact ⟨uE5, gE5, fun H => by
            have e : sortsV "ei" = [.str "expression", .str "index"] := by decide +kernel
            rw [e]
            exact .inr ⟨_, _, _, hE5, rfl, rfl, (by show 2 ≤ sizeLine; decide), .cons ⟨_, rfl⟩ (.cons ⟨_, rfl⟩ (.nil))⟩⟩
      · exact ⟨uE6, gE6, fun H => by
            have e : sortsV "ee" = [.str "expression", .str "expression"] := by decide +kernel
            rw [e]
            exact .inr ⟨_, _, _, hE6, rfl, rfl, (by show 2 ≤ sizeLine; decide), .cons ⟨_, rfl⟩ (.cons ⟨_, rfl⟩ (.nil))⟩⟩
      · exact ⟨uE7, gE7, fun H => by
            have e : sortsV "n" = [.str "name"] := by decide +kernel
            rw [e]
            exact .inr ⟨_, _, _, hE7, rfl, rfl, (by show 1 ≤ sizeLine; decide), .cons ⟨_, rfl⟩ (.nil)⟩⟩
      · exact ⟨uE8, gE8, fun H => by
            have e : sortsV "e" = [.str "expression"] := by decide +kernel
            rw [e]
            exact .inr ⟨_, _, _, hE8, rfl, rfl, (by show 1 ≤ sizeLine; decide), .cons ⟨_, rfl⟩ (.nil)⟩⟩
      · exact ⟨uE9, gE9, fun H => by
            have e : sortsV "ns" = [.str "name", .str "expressions"] := by decide +kernel
            rw [e]
            exact .inr ⟨_, _, _, hE9, rfl, rfl, (by show 2 ≤ sizeLine; decide), .cons ⟨_, rfl⟩ (.cons ⟨_, rfl⟩ (.nil))⟩⟩
      · exact ⟨uE10, gE10, fun H => by
            have e : sortsV "nee" = [.str "name", .str "expression", .str "expression"] := by decide +kernel
            rw [e]
            exact .inr ⟨_, _, _, hE10, rfl, rfl, (by show 3 ≤ sizeLine; decide), .cons ⟨_, rfl⟩ (.cons ⟨_, rfl⟩ (.cons ⟨_, rfl⟩ (.nil)))⟩⟩
      · exact ⟨uE11, gE11, fun H => by
            have e : sortsV "tee" = [.str "test", .str "expression", .str "expression"] := by decide +kernel
            rw [e]
            exact .inr ⟨_, _, _, hE11, rfl, rfl, (by show 3 ≤ sizeLine; decide), .cons ⟨_, rfl⟩ (.cons ⟨_, rfl⟩ (.cons ⟨_, rfl⟩ (.nil)))⟩⟩
      · exact ⟨uE12, gE12, fun H => by
            have e : sortsV "nee" = [.str "name", .str "expression", .str "expression"] := by decide +kernel
            rw [e]
            exact .inr ⟨_, _, _, hE12, rfl, rfl, (by show 3 ≤ sizeLine; decide), .cons ⟨_, rfl⟩ (.cons ⟨_, rfl⟩ (.cons ⟨_, rfl⟩ (.nil)))⟩⟩
      · exact ⟨uE13, gE13, fun H => by
            have e : sortsV "net" = [.str "name", .str "expression", .str "test"] := by decide +kernel
            rw [e]
            exact .inr ⟨_, _, _, hE13, rfl, rfl, (by show 3 ≤ sizeLine; decide), .cons ⟨_, rfl⟩ (.cons ⟨_, rfl⟩ (.cons ⟨_, rfl⟩ (.nil)))⟩⟩
      · exact ⟨uE14, gE14, fun H => by
            have e : sortsV "nenee" = [.str "name", .str "expression", .str "name", .str "expression", .str "expression"] := by decide +kernel
            rw [e]
            exact .inr ⟨_, _, _, hE14, rfl, rfl, (by show 5 ≤ sizeLine; decide), .cons ⟨_, rfl⟩ (.cons ⟨_, rfl⟩ (.cons ⟨_, rfl⟩ (.cons ⟨_, rfl⟩ (.cons ⟨_, rfl⟩ (.nil)))))⟩⟩
      · exact ⟨uE15, gE15, fun H => by
            have e : sortsV "n" = [.str "name"] := by decide +kernel
            rw [e]
            exact .inr ⟨_, _, _, hE15, rfl, rfl, (by show 1 ≤ sizeLine; decide), .cons ⟨_, rfl⟩ (.nil)⟩⟩
    case t1 =>
      intro p hp
      simp only [teL, List.mem_cons, List.not_mem_nil, or_false] at hp
      rcases hp with rfl | rfl | rfl | rfl | rfl | rfl | rfl
      · exact ⟨uT0, gT0, fun H => by
            have e : sortsV "we" = [.str "kind", .str "expression"] := by decide +kernel
            rw [e]
            exact .inr ⟨_, _, _, hT0, rfl, rfl, (by show 2 ≤ sizeLine; decide), .cons ⟨_, rfl⟩ (.cons ⟨_, rfl⟩ (.nil))⟩⟩
      · exact ⟨uT1, gT1, fun H => by
            have e : sortsV "ei" = [.str "expression", .str "index"] := by decide +kernel
            rw [e]
            exact .inr ⟨_, _, _, hT1, rfl, rfl, (by show 2 ≤ sizeLine; decide), .cons ⟨_, rfl⟩ (.cons ⟨_, rfl⟩ (.nil))⟩⟩
      · exact ⟨uT2, gT2, fun H => by
            have e : sortsV "eke" = [.str "expression", .str "integer", .str "expression"] := by decide +kernel
            rw [e]
            exact .inr ⟨_, _, _, hT2, rfl, rfl, (by show 3 ≤ sizeLine; decide), .cons ⟨_, rfl⟩ (.cons ⟨_, rfl⟩ (.cons ⟨_, rfl⟩ (.nil)))⟩⟩
      · exact ⟨uT3, gT3, fun H => by
            have e : sortsV "ee" = [.str "expression", .str "expression"] := by decide +kernel
            rw [e]
            exact .inr ⟨_, _, _, hT3, rfl, rfl, (by show 2 ≤ sizeLine; decide), .cons ⟨_, rfl⟩ (.cons ⟨_, rfl⟩ (.nil))⟩⟩
      · exact ⟨uT4, gT4, fun H => by
            have e : sortsV "t" = [.str "test"] := by decide +kernel
            rw [e]
            exact .inr ⟨_, _, _, hT4, rfl, rfl, (by show 1 ≤ sizeLine; decide), .cons ⟨_, rfl⟩ (.nil)⟩⟩
      · exact ⟨uT5, gT5, fun H => by
            have e : sortsV "tt" = [.str "test", .str "test"] := by decide +kernel
            rw [e]
            exact .inr ⟨_, _, _, hT5, rfl, rfl, (by show 2 ≤ sizeLine; decide), .cons ⟨_, rfl⟩ (.cons ⟨_, rfl⟩ (.nil))⟩⟩
      · exact ⟨uT6, gT6, fun H => by
            have e : sortsV "tt" = [.str "test", .str "test"] := by decide +kernel
            rw [e]
            exact .inr ⟨_, _, _, hT6, rfl, rfl, (by show 2 ≤ sizeLine; decide), .cons ⟨_, rfl⟩ (.cons ⟨_, rfl⟩ (.nil))⟩⟩
    case e0 =>
      intro p hp
      simp only [exL, List.mem_cons, List.not_mem_nil, or_false] at hp
      rcases hp with rfl | rfl | rfl | rfl | rfl | rfl | rfl | rfl | rfl | rfl | rfl | rfl | rfl | rfl | rfl | rfl
      · exact w0
      · exact w1
      · exact w2
      · exact w3
      · exact w4
      · exact w5
      · exact w6
      · exact w7
      · exact w8
      · exact w9
      · exact w10
      · exact w11
      · exact w12
      · exact w13
      · exact w14
      · exact w15
  have B : Bi mg := ⟨n_isinstance, n_len, n_all, n_str, n_tuple, n_int, n_bool, n_range, n_repr, n_abs⟩
  have Tt : Tk l.prog w K mg base f22 _ := ⟨ok_take (k := 0) F22 n_len, k22, b22, m22⟩
  have HN : Hn K := ⟨hn, htk⟩
  have eL : EL K LL "LoreError" veT "ValueError.__new__" := ⟨⟨_, _, _, _, _, _, _, _, _, _, _, _, _, lXL⟩⟩
  have eE : EL K LE "NoCell" keT "LookupError.__new__" := ⟨⟨_, _, _, _, _, _, _, _, _, _, _, _, _, lXE⟩⟩
  have fEE : EF K LE := ⟨gaEE, ggEE, haEE, saEE, kcEE⟩
  have TEE : ExK K LE := eE.exk fEE eb_ke rfl rfl
  have IEE := fun_mk (st := sI2) lmEE cmEE kmEE
  have cEE : EC l.prog w K mg base "NoCell" ["name"] ["name"] LE gEE _ := ⟨TEE, eE.xf fEE rfl, eE.exc fEE HN rfl rfl, amEE, imEE, ok_I2 (k := 0) IEE TEE noEE, IEE.binds (ps := ["self", "name"]) fun _ _ _ _ _ _ us hl => (match us, hl with | [_, _], _ => rfl), PySem.W.mg_of X G aXE, fun f hf => by
    simp only [List.mem_cons, List.not_mem_nil, or_false] at hf
    subst hf
    exact noEE⟩
  have E9 : Er9 l.prog w K mg base LL LE gEE _ := ⟨cEE, PySem.W.mg_of X G aXL, n_KeyError, cEE.exm eE, by
      rw [eE.isK eL]
      have n1 : (Value.ref LL == Value.ref LE) = false := beq_eq_false_iff_ne.mpr fun z => eE.ne eL (by decide +kernel) (Value.ref.inj z).symm
      rw [List.contains_cons, n1]
      rfl, by
      rw [eE.isT (by decide +kernel)]
      rfl⟩
  have FB0 := fun_mk (st := sIniBk) lmB0 cmB0 kmB0
  have bB0 := FB0.binds (ps := ["self", "definitions"]) fun _ _ _ _ _ _ us hl => match us, hl with | [_, _], _ => rfl
  have FB1 := fun_mk (st := sLenBk) lmB1 cmB1 kmB1
  have bB1 := FB1.binds (ps := ["self"]) fun _ _ _ _ _ _ us hl => match us, hl with | [_], _ => rfl
  have FB2 := fun_mk (st := sGetBk) lmB2 cmB2 kmB2
  have bB2 := FB2.binds (ps := ["self", "name"]) fun _ _ _ _ _ _ us hl => match us, hl with | [_, _], _ => rfl
  have FB3 := fun_mk (st := sEqBk) lmB3 cmB3 kmB3
  have bB3 := FB3.binds (ps := ["self", "other"]) fun _ _ _ _ _ _ us hl => match us, hl with | [_, _], _ => rfl
  have FA0 := fun_mk (st := sIniCa) lmA0 cmA0 kmA0
  have bA0 := FA0.binds (ps := ["self", "counts", "own", "falls"]) fun _ _ _ _ _ _ us hl => match us, hl with | [_, _, _, _], _ => rfl
  have ko : ∀ {T : String}, PySem.W.subIn K (.type T) (.ref CB) = some false → PySem.W.kitOne K (.type T) (.ref CB) = some false := fun s => kit_own (by rw [cCB]; rfl) tCB s
  have OB : OwnC K CB gB3 := ⟨⟨⟨pgB, hdB, poB, saB⟩, haB, hn, htk, hmB, kit_me⟩, ⟨amB3, imB3, kmB3⟩, neB, ko kaB1, ko kaB2, ko kaB3, ko kaB4, ko kaB5, ko kaB6, kit_ofC kmt1 jaB1, kit_ofC kmt2 jaB2, kit_ofC kmt3 jaB3, kit_ofC kmt4 jaB4, kit_ofC kmt5 jaB5, kit_ofC kmt6 jaB6⟩
  have TBk : BkC K mg CB gB3 := ⟨OB, noB_definitions, PySem.W.mg_of X G aCB⟩
  have CC : CaC K CA := ⟨⟨pgA, hdA, poA, saA⟩, noA_counts, noA_own, noA_falls⟩
  have MK : MkCa l.prog w K mg base CA gA0 _ := ⟨⟨mkA, amA0, imA0, kcA⟩, ok_iniCa (k := 0) FA0 CC, bA0, PySem.W.mg_of X G aCA⟩
  have Gnm : Dn l.prog w K mg base 1 "is_name" ["thing"] (spLook K (fun d => gd d = true) fun d => .bl (nmD d)) f1 _ := ⟨ok_name (k := 0) F1 B, k1, b1, m1⟩
  have Gin : Dn l.prog w K mg base 1 "is_integer" ["thing"] (spLook K (fun _ => True) fun d => .bl (inD d)) f2 _ := ⟨ok_integer (k := 0) F2 B, k2, b2, m2⟩
  have Gso : Dn l.prog w K mg base 1 "sorts_behind" ["word", "wanted"] (spSorts K) f3 _ := ⟨ok_sorts (k := 0) F3 TB, k3, b3, m3⟩
  have Ghs : Dn l.prog w K mg base 2 "has_sort" ["item", "sort"] (spHasSort K) f4 _ := ⟨ok_hasSort (k := 0) F4 B Gnm Gin, k4, b4, m4⟩
  have Ghf : Dn l.prog w K mg base 3 "has_form" ["tree", "wanted"] (spHasForm K) f5 _ := ⟨ok_hasForm (k := 0) F5 B n_zip Gso Ghs, k5, b5, m5⟩
  have Git : Dn l.prog w K mg base 2 "sorted_items" ["tree"] (spItems K) f6 _ := ⟨ok_items (k := 0) F6 TB n_list n_zip Gso, k6, b6, m6⟩
  have Gtr : Dn l.prog w K mg base 3 "inner_trees" ["tree"] (spInner K) f7 _ := ⟨ok_inner (k := 0) F7 n_enumerate Git, k7, b7, m7⟩
  have Gbo : Dn l.prog w K mg base 1 "names_bound" ["tree"] (spBound K) f8 _ := ⟨ok_bound (k := 0) F8, k8, b8, m8⟩
  have Gps : Dn l.prog w K mg base 1 "path_of_scope" ["tree"] (spPScope K) f9 _ := ⟨ok_pscope (k := 0) F9 n_len, k9, b9, m9⟩
  have Gsw : Dn l.prog w K mg base 1 "scope_with" ["scope", "name", "what"] spSWith f18 _ := ⟨ok_swith (k := 0) F18, k18, b18, m18⟩
  have VS : ∀ n : Nat, FnOk l.prog w K mg base CX0 (n + 3) f20 _ ["tree", "scope"] (spStand K n) := fun n => by
    induction n with
    | zero =>
      have no : ∀ vs H Q E, ¬ spStand K 0 vs H Q E := fun vs H Q E h => by
        obtain ⟨v, a, d, sc, m, kvs, s, j, _, _, _, _, e, _⟩ := h
        omega
      exact ⟨fun vs H Q E h => absurd h (no vs H Q E), fun A outer s H args us vs Q E _ _ _ _ h => absurd h (no vs H Q E)⟩
    | succ n ih => exact ok_stand (k := n) F20 Ghf Gsw ih k20 b20 m20
  have Gst : Dn l.prog w K mg base 16 "standing" ["tree", "scope"] (spStand K 13) f20 _ := ⟨VS 13, k20, b20, m20⟩
  have Gpt : Dn l.prog w K mg base 17 "part_standing" ["tree", "scope"] (spPStand K 12) f19 _ := ⟨ok_pstand (k := 13) F19 Gst, k19, b19, m19⟩
  have Gis : Dn l.prog w K mg base 18 "inner_scope" ["tree", "step", "scope"] (spIScope K 12) f17 _ := ⟨ok_iscope (k := 13) F17 Gbo Gps Gsw Gst Gpt, k17, b17, m17⟩
  have Gwc : Dn l.prog w K mg base 17 "wrong_call" ["name", "arguments", "scope", "calls"] (spWCall K CA 12) f16 _ := ⟨ok_wcall (k := 13) F16 n_len CC Gst, k16, b16, m16⟩
  have Gww : Dn l.prog w K mg base 18 "wrong_word" ["tree", "wanted", "scope", "taken", "calls"] (spWWord K CA 12) f15 _ := ⟨ok_wword (k := 13) F15 n_len n_any Ghf Gbo Gwc, k15, b15, m15⟩
  have Gfi : Dn l.prog w K mg base 19 "first_wrong_tree" ["body", "parameters", "calls"] (spFirst K CA 12) f14 _ := ⟨ok_first (k := 13) F14 Gbo Gtr Gww Gis, k14, b14, m14⟩
  have Gco : Dn l.prog w K mg base 1 "counts_in" ["definitions"] (spCounts K) f11 _ := ⟨ok_counts (k := 0) F11 n_len, k11, b11, m11⟩
  have Gwh : Dn l.prog w K mg base 2 "wrong_head" ["name", "parameters", "falls", "counts"] (spWHead K) f13 _ := ⟨ok_whead (k := 0) F13 n_len n_enumerate Gnm Gin, k13, b13, m13⟩
  have Gck : Dn l.prog w K mg base 20 "check_definitions" ["definitions"] (spCheck K 12) f12 _ := ⟨ok_check (k := 13) F12 B n_enumerate CC MK Gco Gwh Gfi, k12, b12, m12⟩
  have okl := ok_look (P := l.prog) (w := w) (base := base) (k := 13) F10 TBk CC MK Gco Gfi
  have FDl : FunD K "look_body" "look_body" (defArgs sLook) (defBody sLook) (defScope sLook) [] [("name", .str "")] f10 _ := ⟨⟨_, _, _, _, _, _, _, _, _, _, rfl, l10, c10, .inl ⟨rfl, rfl⟩, .inr ⟨Dk, hkD, fun q hq => by
    rw [List.mem_singleton.mp hq]
    exact ⟨_, hkN, _, rfl⟩⟩⟩, k10⟩
  have lb1 := FDl.binds0 (ps := ["book", "body", "name"]) 2 (fun z => nomatch z) rfl fun D doc pm an cdv ct us ks h1 h2 => match us, ks, h1, h2 with | [_, _], [_], _, _ => ⟨_, _, _, _, _, _, rfl, rfl, rfl⟩
  obtain ⟨mvl, lb2⟩ := FDl.kbinds0 (ps := ["book", "body", "name"]) 2 ["name"] [] (fun vs mz zs => vs ++ zs) (fun z => nomatch z) (fun q hq => nomatch hq) (fun r1 r2 r3 => r1.append r3) fun D doc pm an cdv ct us mv ws h1 h2 h3 => match us, mv, ws, h1, h2, h3 with | [_, _], [], [_], _, _, _ => rfl
  have LF : LookF l.prog w K mg base 63 CB f10 _ := ⟨okl.mono (by decide), k10, PySem.W.mg_of X G a10, lb1, lb2⟩
  have MB : MkBk l.prog w K mg base 62 CB gB0 _ := ⟨⟨mkB, amB0, imB0, kcB⟩, (ok_iniBk (k := 13) FB0 B TBk Gck).mono (by decide), bB0⟩
  have GB : GetB l.prog w K mg base CB LE gB2 _ := ⟨nqB, ⟨amB2, imB2, kmB2⟩, fnB, ok_getBk (k := 0) FB2 TBk cEE, bB2⟩
  have BF : BkF l.prog w K mg base CB LE gB3 gB1 gB2 _ _ _ := ⟨TBk, ⟨amB1, imB1, kmB1⟩, (ok_lenBk (k := 0) FB1 n_len TBk).mono (by decide), bB1, GB, (ok_eqBk (k := 0) FB3 B TBk).mono (by decide), bB3⟩
  have Gpi : Dn l.prog w K mg base 2 "_law_pick" ["_law_box_here", "_law_items"] spPick f23 _ := ⟨ok_pick (k := 0) F23 n_len Tt, k23, b23, m23⟩
  have Gmi : Dn l.prog w K mg base 2 "_law_mixed" ["_law_box_here", "_law_items"] (spMixed K) f24 _ := ⟨ok_mixed (k := 0) F24 B n_list Tt, k24, b24, m24⟩
  have Gfo : Dn l.prog w K mg base 1 "_law_forms" ["_law_sort"] spForms f25 _ := ⟨ok_forms (k := 0) F25 n_dict n_list, k25, b25, m25⟩
  have Glo : Dn l.prog w K mg base 3 "_law_locals" ["_law_box_here"] spLocals f31 _ := ⟨ok_locals (k := 0) F31 n_list Gmi, k31, b31, m31⟩
  have Gle : Dn l.prog w K mg base 3 "_law_leaf" ["_law_box_here", "_law_world", "_law_scope"] (spLeaf K) f27 _ := ⟨ok_leaf (k := 0) F27 Tt Gpi, k27, b27, m27⟩
  have VL : ∀ n : Nat, FnOk l.prog w K mg base CX0 (n + 1) f26 _ ["_law_tree", "_law_scope"] (spLStand K n) := fun n => by
    induction n with
    | zero =>
      have no : ∀ vs H Q E, ¬ spLStand K 0 vs H Q E := fun vs H Q E h => by
        obtain ⟨v, a, d, ls, s, j, _, _, _, _, e, _⟩ := h
        omega
      exact ⟨fun vs H Q E h => absurd h (no vs H Q E), fun A outer s H args us vs Q E _ _ _ _ h => absurd h (no vs H Q E)⟩
    | succ n ih => exact ok_lstand (k := n + 1) F26 n_dict ih k26 b26 m26
  have Gls : Dn l.prog w K mg base 43 "_law_standing" ["_law_tree", "_law_scope"] (spLStand K 40) f26 _ := ⟨(VL 40).mono (by decide), k26, b26, m26⟩
  have VG : ∀ cl : Cl, FnOk l.prog w K mg base CX0 59 f30 _ ["_law_box_here", "_law_world", "_law_sort", "_law_scope", "_law_deep"] (spGrown K cl 8) := fun cl => grown_all (cl := cl) F30 F29 F28 n_list n_tuple n_len n_range Tt Gfo Gpi Gle Gls k29 b29 m29 k28 b28 m28 k30 b30 m30 8
  have Ggr : Dn l.prog w K mg base 59 "_law_grown" ["_law_box_here", "_law_world", "_law_sort", "_law_scope", "_law_deep"] (fun vs H Q E => ∃ cl, spGrown K cl 8 vs H Q E) f30 _ := ⟨fnOk_any VG, k30, b30, m30⟩
  have Gbf : Dn l.prog w K mg base 60 "_law_binder_of" ["_law_box_here", "_law_world", "_law_falling", "_law_scope"] (fun vs H Q E => ∃ cl, spBinderOf K cl vs H Q E) f33 _ := ⟨fnOk_any fun cl => ok_binderOf (k := 59) F33 ⟨VG cl, k30, b30, m30⟩, k33, b33, m33⟩
  have Gde : Dn l.prog w K mg base 62 "_law_definitions" ["_law_box_here", "_law_most"] (spDefs K) f32 _ := ⟨(ok_defs (k := 56) F32 n_tuple n_len n_range n_enumerate Tt Glo Ggr Gbf).mono (by decide), k32, b32, m32⟩
  have Gbx : Dn l.prog w K mg base 1 "_law_box" ["_law_script", "_law_base"] (spBox K) f21 _ := ⟨ok_box (k := 0) F21 n_abs, k21, b21, m21⟩
  have GK := ok_lacks (P := l.prog) (w := w) (base := base) (k := 57) F34 B E9 GB
  have GR := ok_right (P := l.prog) (w := w) (base := base) (k := 56) F35 B n_list Tt BF MB GK k34 b34 m34
  exact ok_law (k := 56) F36 B Gbx Tt Gde Glo Ggr GR k35 b35 m35 BF MB LF
end Rl
open PySem PySem.W PyProof.Rows in
set_option maxRecDepth 100000 in
set_option maxHeartbeats 0 in
theorem PySem.Challenge.cw_runlore_k09_books_holds : PySem.Challenge.rw_runlore_k09_books.Holds := by
  w_on; o_law; k_head; (case hw => w_witness2)
  k_fill
  refine Rl.walkG (l := PySem.Challenge.rw_runlore_k09_books) (n := 63) (k := 65) (x := "_law_script") (sp := Rl.spLaw) rfl (by decide) rfl ⟨rfl, by decide, by decide⟩ (fun w h Y => PySem.W.kIn_of Y) ?F (fun K H a ns hl _ hS => ⟨a, ns, rfl, hS, hl, fun _ => rfl⟩)
  case F =>
    intro w mg fa h KX G hmg
    refine' Rl.all_mk KX G hmg ?aaE ?llE ?kkE ?ooE ?aaT ?llT ?kkT ?ooT ?gE0 ?hE0 ?gE1 ?hE1 ?gE2 ?hE2 ?gE3 ?hE3 ?gE4 ?hE4 ?gE5 ?hE5 ?gE6 ?hE6 ?gE7 ?hE7 ?gE8 ?hE8 ?gE9 ?hE9 ?gE10 ?hE10 ?gE11 ?hE11 ?gE12 ?hE12 ?gE13 ?hE13 ?gE14 ?hE14 ?gE15 ?hE15 ?gT0 ?hT0 ?gT1 ?hT1 ?gT2 ?hT2 ?gT3 ?hT3 ?gT4 ?hT4 ?gT5 ?hT5 ?gT6 ?hT6 ?w0 ?w1 ?w2 ?w3 ?w4 ?w5 ?w6 ?w7 ?w8 ?w9 ?w10 ?w11 ?w12 ?w13 ?w14 ?w15 ?aXL ?lXL ?aXE ?lXE ?gaEE ?ggEE ?haEE ?saEE ?kcEE ?amEE ?imEE ?lmEE ?cmEE ?kmEE ?noEE ?hn ?htk ?aCB ?aCA ?amB0 ?imB0 ?lmB0 ?cmB0 ?kmB0 ?amB1 ?imB1 ?lmB1 ?cmB1 ?kmB1 ?amB2 ?imB2 ?lmB2 ?cmB2 ?kmB2 ?amB3 ?imB3 ?lmB3 ?cmB3 ?kmB3 ?amA0 ?imA0 ?lmA0 ?cmA0 ?kmA0 ?pgB ?hdB ?poB ?saB ?mkB ?kcB ?noB_definitions ?pgA ?hdA ?poA ?saA ?mkA ?kcA ?noA_counts ?noA_own ?noA_falls ?haB ?hmB ?tCB ?cCB ?neB ?nqB ?fnB ?kaB1 ?jaB1 ?kaB2 ?jaB2 ?kaB3 ?jaB3 ?kaB4 ?jaB4 ?kaB5 ?jaB5 ?kaB6 ?jaB6 ?a1 ?l1 ?c1 ?k1 ?a2 ?l2 ?c2 ?k2 ?a3 ?l3 ?c3 ?k3 ?a4 ?l4 ?c4 ?k4 ?a5 ?l5 ?c5 ?k5 ?a6 ?l6 ?c6 ?k6 ?a7 ?l7 ?c7 ?k7 ?a8 ?l8 ?c8 ?k8 ?a9 ?l9 ?c9 ?k9 ?a10 ?l10 ?c10 ?k10 ?a11 ?l11 ?c11 ?k11 ?a12 ?l12 ?c12 ?k12 ?a13 ?l13 ?c13 ?k13 ?a14 ?l14 ?c14 ?k14 ?a15 ?l15 ?c15 ?k15 ?a16 ?l16 ?c16 ?k16 ?a17 ?l17 ?c17 ?k17 ?a18 ?l18 ?c18 ?k18 ?a19 ?l19 ?c19 ?k19 ?a20 ?l20 ?c20 ?k20 ?a21 ?l21 ?c21 ?k21 ?a22 ?l22 ?c22 ?k22 ?a23 ?l23 ?c23 ?k23 ?a24 ?l24 ?c24 ?k24 ?a25 ?l25 ?c25 ?k25 ?a26 ?l26 ?c26 ?k26 ?a27 ?l27 ?c27 ?k27 ?a28 ?l28 ?c28 ?k28 ?a29 ?l29 ?c29 ?k29 ?a30 ?l30 ?c30 ?k30 ?a31 ?l31 ?c31 ?k31 ?a32 ?l32 ?c32 ?k32 ?a33 ?l33 ?c33 ?k33 ?a34 ?l34 ?c34 ?k34 ?a35 ?l35 ?c35 ?k35 ?a36 ?l36 ?c36 ?k36 ?z1 ?z2 ?z3 ?z4 ?z5 ?z6 ?z7 ?z8 ?z9 ?z10 ?z11 ?z12 ?z13 ?z14 ?z15 ?z16 ?hkD ?hkN
    (case aaE => k_is)
    (case llE => k_is)
    (case kkE => k_keys)
    (case ooE => decide)
    (case aaT => k_is)
    (case llT => k_is)
    (case kkT => k_keys)
    (case ooT => decide)
    (case gE0 => k_is)
    (case hE0 => k_is)
    (case gE1 => k_is)
    (case hE1 => k_is)
    (case gE2 => k_is)
    (case hE2 => k_is)
    (case gE3 => k_is)
    (case hE3 => k_is)
    (case gE4 => k_is)
    (case hE4 => k_is)
    (case gE5 => k_is)
    (case hE5 => k_is)
    (case gE6 => k_is)
    (case hE6 => k_is)
    (case gE7 => k_is)
    (case hE7 => k_is)
    (case gE8 => k_is)
    (case hE8 => k_is)
    (case gE9 => k_is)
    (case hE9 => k_is)
    (case gE10 => k_is)
    (case hE10 => k_is)
    (case gE11 => k_is)
    (case hE11 => k_is)
    (case gE12 => k_is)
    (case hE12 => k_is)
    (case gE13 => k_is)
    (case hE13 => k_is)
    (case gE14 => k_is)
    (case hE14 => k_is)
    (case gE15 => k_is)
    (case hE15 => k_is)
    (case gT0 => k_is)
    (case hT0 => k_is)
    (case gT1 => k_is)
    (case hT1 => k_is)
    (case gT2 => k_is)
    (case hT2 => k_is)
    (case gT3 => k_is)
    (case hT3 => k_is)
    (case gT4 => k_is)
    (case hT4 => k_is)
    (case gT5 => k_is)
    (case hT5 => k_is)
    (case gT6 => k_is)
    (case hT6 => k_is)
    (case w0 => k_is)
    (case w1 => k_is)
    (case w2 => k_is)
    (case w3 => k_is)
    (case w4 => k_is)
    (case w5 => k_is)
    (case w6 => k_is)
    (case w7 => k_is)
    (case w8 => k_is)
    (case w9 => k_is)
    (case w10 => k_is)
    (case w11 => k_is)
    (case w12 => k_is)
    (case w13 => k_is)
    (case w14 => k_is)
    (case w15 => k_is)
    (case aXL => k_is)
    (case lXL => k_is)
    (case aXE => k_is)
    (case lXE => k_is)
    (case gaEE => k_is)
    (case ggEE => k_is)
    (case haEE => k_is)
    (case saEE => k_is)
    (case kcEE => k_is)
    (case amEE => k_is)
    (case imEE => k_is)
    (case lmEE => k_is)
    (case cmEE => k_is)
    (case kmEE => k_is)
    (case noEE => k_is)
    (case hn => k_is)
    (case htk => k_is)
    (case aCB => k_is)
    (case aCA => k_is)
    (case amB0 => k_is)
    (case imB0 => k_is)
    (case lmB0 => k_is)
    (case cmB0 => k_is)
    (case kmB0 => k_is)
    (case amB1 => k_is)
    (case imB1 => k_is)
    (case lmB1 => k_is)
    (case cmB1 => k_is)
    (case kmB1 => k_is)
    (case amB2 => k_is)
    (case imB2 => k_is)
    (case lmB2 => k_is)
    (case cmB2 => k_is)
    (case kmB2 => k_is)
    (case amB3 => k_is)
    (case imB3 => k_is)
    (case lmB3 => k_is)
    (case cmB3 => k_is)
    (case kmB3 => k_is)
    (case amA0 => k_is)
    (case imA0 => k_is)
    (case lmA0 => k_is)
    (case cmA0 => k_is)
    (case kmA0 => k_is)
    (case pgB => k_is)
    (case hdB => k_is)
    (case poB => k_is)
    (case saB => k_is)
    (case mkB => k_is)
    (case kcB => k_is)
    (case noB_definitions => k_is)
    (case pgA => k_is)
    (case hdA => k_is)
    (case poA => k_is)
    (case saA => k_is)
    (case mkA => k_is)
    (case kcA => k_is)
    (case noA_counts => k_is)
    (case noA_own => k_is)
    (case noA_falls => k_is)
    (case haB => k_is)
    (case hmB => k_is)
    (case tCB => k_is)
    (case cCB => k_is)
    (case neB => k_is)
    (case nqB => k_is)
    (case fnB => k_is)
    (case kaB1 => k_is)
    (case jaB1 => k_is)
    (case kaB2 => k_is)
    (case jaB2 => k_is)
    (case kaB3 => k_is)
    (case jaB3 => k_is)
    (case kaB4 => k_is)
    (case jaB4 => k_is)
    (case kaB5 => k_is)
    (case jaB5 => k_is)
    (case kaB6 => k_is)
    (case jaB6 => k_is)
    (case a1 => k_is)
    (case l1 => k_is)
    (case c1 => k_is)
    (case k1 => k_is)
    (case a2 => k_is)
    (case l2 => k_is)
    (case c2 => k_is)
    (case k2 => k_is)
    (case a3 => k_is)
    (case l3 => k_is)
    (case c3 => k_is)
    (case k3 => k_is)
    (case a4 => k_is)
    (case l4 => k_is)
    (case c4 => k_is)
    (case k4 => k_is)
    (case a5 => k_is)
    (case l5 => k_is)
    (case c5 => k_is)
    (case k5 => k_is)
    (case a6 => k_is)
    (case l6 => k_is)
    (case c6 => k_is)
    (case k6 => k_is)
    (case a7 => k_is)
    (case l7 => k_is)
    (case c7 => k_is)
    (case k7 => k_is)
    (case a8 => k_is)
    (case l8 => k_is)
    (case c8 => k_is)
    (case k8 => k_is)
    (case a9 => k_is)
    (case l9 => k_is)
    (case c9 => k_is)
    (case k9 => k_is)
    (case a10 => k_is)
    (case l10 => k_is)
    (case c10 => k_is)
    (case k10 => k_is)
    (case a11 => k_is)
    (case l11 => k_is)
    (case c11 => k_is)
    (case k11 => k_is)
    (case a12 => k_is)
    (case l12 => k_is)
    (case c12 => k_is)
    (case k12 => k_is)
    (case a13 => k_is)
    (case l13 => k_is)
    (case c13 => k_is)
    (case k13 => k_is)
    (case a14 => k_is)
    (case l14 => k_is)
    (case c14 => k_is)
    (case k14 => k_is)
    (case a15 => k_is)
    (case l15 => k_is)
    (case c15 => k_is)
    (case k15 => k_is)
    (case a16 => k_is)
    (case l16 => k_is)
    (case c16 => k_is)
    (case k16 => k_is)
    (case a17 => k_is)
    (case l17 => k_is)
    (case c17 => k_is)
    (case k17 => k_is)
    (case a18 => k_is)
    (case l18 => k_is)
    (case c18 => k_is)
    (case k18 => k_is)
    (case a19 => k_is)
    (case l19 => k_is)
    (case c19 => k_is)
    (case k19 => k_is)
    (case a20 => k_is)
    (case l20 => k_is)
    (case c20 => k_is)
    (case k20 => k_is)
    (case a21 => k_is)
    (case l21 => k_is)
    (case c21 => k_is)
    (case k21 => k_is)
    (case a22 => k_is)
    (case l22 => k_is)
    (case c22 => k_is)
    (case k22 => k_is)
    (case a23 => k_is)
    (case l23 => k_is)
    (case c23 => k_is)
    (case k23 => k_is)
    (case a24 => k_is)
    (case l24 => k_is)
    (case c24 => k_is)
    (case k24 => k_is)
    (case a25 => k_is)
    (case l25 => k_is)
    (case c25 => k_is)
    (case k25 => k_is)
    (case a26 => k_is)
    (case l26 => k_is)
    (case c26 => k_is)
    (case k26 => k_is)
    (case a27 => k_is)
    (case l27 => k_is)
    (case c27 => k_is)
    (case k27 => k_is)
    (case a28 => k_is)
    (case l28 => k_is)
    (case c28 => k_is)
    (case k28 => k_is)
    (case a29 => k_is)
    (case l29 => k_is)
    (case c29 => k_is)
    (case k29 => k_is)
    (case a30 => k_is)
    (case l30 => k_is)
    (case c30 => k_is)
    (case k30 => k_is)
    (case a31 => k_is)
    (case l31 => k_is)
    (case c31 => k_is)
    (case k31 => k_is)
    (case a32 => k_is)
    (case l32 => k_is)
    (case c32 => k_is)
    (case k32 => k_is)
    (case a33 => k_is)
    (case l33 => k_is)
    (case c33 => k_is)
    (case k33 => k_is)
    (case a34 => k_is)
    (case l34 => k_is)
    (case c34 => k_is)
    (case k34 => k_is)
    (case a35 => k_is)
    (case l35 => k_is)
    (case c35 => k_is)
    (case k35 => k_is)
    (case a36 => k_is)
    (case l36 => k_is)
    (case c36 => k_is)
    (case k36 => k_is)
    (case z1 => k_is)
    (case z2 => k_is)
    (case z3 => k_is)
    (case z4 => k_is)
    (case z5 => k_is)
    (case z6 => k_is)
    (case z7 => k_is)
    (case z8 => k_is)
    (case z9 => k_is)
    (case z10 => k_is)
    (case z11 => k_is)
    (case z12 => k_is)
    (case z13 => k_is)
    (case z14 => k_is)
    (case z15 => k_is)
    (case z16 => k_is)
    (case hkD => rfl)
    (case hkN => k_is)

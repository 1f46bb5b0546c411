import PyProof.Rows.All
import Wide.All
import OpenK.AllK
import Wide.FinOn
import HandS.ListItems
import HandS.DictComp
import HandS.WordsExc
import HandS.RaiseMore
import HandS.ExcValue
import HandS.TryOnly
import HandS.Deep
import HandS.Star
import HandS.Conv
import HandS.More
import HandS.TryMany
import HandS.Codes
import HandS.OwnEq
import HandS.Base
import HandS.Call
import HandS.List
import HandS.Comp
import HandS.Ends
import HandS.Dict
import HandS.Iter
import HandS.Text
import PyProof.ReprRoads
import HandS.Words
import HandS.IsInst
import HandS.Wide
import HandS.Style
import HandS.Flow
import HandS.Walk
import HandS.WordsList
import HandS.WordsDict
import PyProof.StrLawsRepr
import PyProof.ReprLen
import PyProof.Rows.RegStrFacts
import HandS.TupAny
import PyProof.Rows.StrCase
import PyProof.Rows.ReprOcc
import HandS.Exc
import HandS.ExcOwn
import HandS.Defaults
import HandS.ExcInit
import HandS.ExcIs
import HandS.ExcField
import HandS.FStr
import HandS.MakeKw
import KE.KExcIs
import HandS.Small
import HandS.ClsMeth
import PyProof.ReprDict
import HandS.DeepEq
import PyProof.NeData
import HandS.SortRule
import KE.KSortTupAny
import KE.KRevSl
import PyProof.Rows.StrIntSpec
import PyProof.FString3
import HandS.TupMul
import KE.GoesEnum
import PySem.Challenge.RW_runlore_k07_whole_parts_replaced
set_option Elab.async false
set_option linter.all false
set_option maxRecDepth 100000
set_option exponentiation.threshold 2000
set_option maxHeartbeats 4000000
namespace Rl
open PySem PySem.Spec PyProof.Rows L2
/-- what can be printed: data of bounded depth whose text is short enough -/
structure Prn (d : PyData) : Prop where
  sh : d.showable = true
  nd : d.hasDict = false
  dp : d.depth ≤ 60
  sz : d.shown.length ≤ sizeLine
def rRep (K : PySem.W.Frag) : List V → Hp → VK → Prop := fun xs H Q =>
  ∃ v d, xs = [v] ∧ Dp K H v d ∧ Prn d ∧ Q (.str d.shown) H
theorem meets_extT (l b : Addr) (items items2 : Array Value) (n : Nat) (hlong : (!items.isEmpty && Builtin.List.listTooLong (items.size + items2.size)) = false) (h1 : items.size ≤ sizeLine) (h2 : items.size + items2.size ≤ sizeLine + 1) :
    Meets (Builtin.«list.extend» ⟨[.ref l, .ref b], []⟩) (fun _ R s => s.heap.get? l = some { cls := .type "list", data := .seq items n } ∧ IsTup s.heap b items2 ∧
      R (.ok (.ret .none)) { s with heap := s.heap.update l (Obj.mapSeq fun x => x ++ items2) }) := by
  intro prog w A R s ⟨hl, ⟨o, ho, hc, n2, hd⟩, hR⟩
  show wpAny _ A.in1 (Builtin.List.listExtendWith (.ref l) (.ref b) .none) _ _ s
  unfold Builtin.List.listExtendWith
  refine wpAny_bind (wpAny_typeOf ⟨o, ho, hc⟩ ?_)
  have e1 : (Builtin.List.listSameRef (.ref l) (.ref b) || Value.type "tuple" == Value.type "list" || Value.type "tuple" == Value.type "tuple") = true := by simp
  simp only [e1, if_true]
  refine wpAny_bind ?_
  unfold Builtin.List.listItems
  refine wpAny_bind (wpAny_seqItems ho hd (wpAny_pure ?_))
  refine wpAny_bind ?_
  refine wpAny_bind (wpAny_seqItems hl rfl (wpAny_pure ?_))
  rw [hlong]
  show wpAny _ A.in1 (updateSeq l (· ++ items2) >>= fun _ => ret .none) _ _ s
  have h3 : (items ++ items2).size ≤ sizeLine + 1 := by rw [Array.size_append]; exact h2
  refine wpAny_bind (wpAny_updateSeq hl rfl ?_ h1 h3)
  exact wpAny_pure hR
section
variable {X : Cx}
theorem call_rep (hg : X.A.guards = some []) (hu : X.A.units + 64 < cLine) : CallR X (.builtin "repr") (rRep X.K) := by
  intro pins s σ H xs us Q I r h
  obtain ⟨v, d, rfl, hd, ⟨hs, hnd, hdep, hsz⟩, q⟩ := h
  obtain ⟨u, rfl, ru⟩ := vals1 r
  obtain ⟨as, rd⟩ := Dp.reads I d v u hd ru
  cases hd with
  | non =>
    cases ru
    exact PySem.P.repr_of_none ⟨.str _, H, I.tok _, ⟨_, rfl⟩, q⟩
  | bl b =>
    cases ru
    refine PySem.P.repr_of_bool ⟨.str (if b then "True" else "False"), H, I.tok _, ⟨_, rfl⟩, ?_⟩
    cases b <;> exact q
  | int i =>
    obtain ⟨t, rfl⟩ := ru
    exact PySem.P.repr_of_int (of_decide_eq_true (by simpa only [PyData.showable] using hs)) ⟨.str _, H, I.tok _, ⟨_, rfl⟩, q⟩
  | str x =>
    obtain ⟨t, rfl⟩ := ru
    exact PySem.P.repr_of_str ⟨.str _, H, I.tok _, ⟨_, rfl⟩, q⟩ hsz
  | lst h1 h2 =>
    cases ru
    exact repr_of_reads' rd hs (PyData.noDict_hsm hnd) hg (by omega) (fun _ _ e => e) (fun h' u tk hk => ⟨.str _, H, I.kept hk, ⟨_, rfl⟩, q⟩) hsz
  | tup h1 h2 =>
    cases ru
    exact repr_of_reads' rd hs (PyData.noDict_hsm hnd) hg (by omega) (fun _ _ e => e) (fun h' u tk hk => ⟨.str _, H, I.kept hk, ⟨_, rfl⟩, q⟩) hsz
/-- xs.extend(t), t a tuple -/
def rExtT (K : PySem.W.Frag) : V → List V → Hp → VK → Prop := fun x vs H Q =>
  ∃ l b xs zs, x = .ref l ∧ vs = [.ref b] ∧ H l = some (.lst xs) ∧ SqT K H b zs ∧ xs.length + zs.length ≤ sizeLine ∧ Q .non (upd H l (.lst (xs ++ zs)))
theorem mt_extT : MtM X "list.extend" (rExtT X.K) := by
  intro pins s σ H x vs v us Q I rx rv h
  obtain ⟨l, b, xs, zs, rfl, rfl, hH, hB, hz, q⟩ := h
  cases rx
  obtain ⟨u, rfl, ru⟩ := rv.one
  cases ru
  obtain ⟨z, its, n, r, hl, e⟩ := I.lstM hH
  obtain ⟨its2, r2, tp, hl2⟩ := I.tuple hB
  have hl3 := r2.length
  have hl4 := r.length
  have hsz : its.toArray.size + its2.toArray.size ≤ sizeLine := by rw [List.size_toArray, List.size_toArray]; omega
  have hlong : (!its.toArray.isEmpty && Builtin.List.listTooLong (its.toArray.size + its2.toArray.size)) = false := by
    rw [notLongL hsz, Bool.and_false]
  refine call_meets F.slot_list_extend ⟨_, e, rfl⟩ F.entry_list_extend (F.args_list_extend_2 _ _)
    (meets_extT l b its.toArray its2.toArray n hlong (by omega) (by omega)) ⟨e, tp, ?_⟩
  refine ⟨.non, _, I.lset (its' := its ++ its2) hH e (by simp) (r.append r2) ?_, rfl, q⟩
  rw [List.length_append]
  omega
end
/-! a def that may print (repr): called where nothing is being printed -/
section
variable {P : Program} {w : World} {K : PySem.W.Frag} {mg : Str → Option Value} {base : Heap} {CX : CXT}
structure FnG (P : Program) (w : World) (K : PySem.W.Frag) (mg : Str → Option Value) (base : Heap)
    (CX : CXT) (k : Nat) (f : Addr) (fd : FuncData) (ps : List Str) (sp : Sp) : Prop where
  len : ∀ ws H Q E, sp ws H Q E → ws.length = ps.length
  go : ∀ (B : Around) (out : List Env) (t : Shared) (H : Hp) (as : Args) (us : List Value) (ws : List V) (Q : VK) (E : XK), B.guards = some [] → Room k B →
    Env0 P w K mg base B out t H → BindsTo t fd as (ps.zip us) → Vals ws us → sp ws H Q E →
    codeAny (model P w) B (.call (.ref f) as) (CR CX out P w H t Q E) t
theorem FnOk.toG {k : Nat} {f : Addr} {fd : FuncData} {ps : List Str} {sp : Sp} (F : FnOk P w K mg base CX k f fd ps sp) : FnG P w K mg base CX k f fd ps sp :=
  ⟨F.len, fun B out t H as us ws Q E _ => F.run B out t H as us ws Q E⟩
theorem FnG.mono {j k : Nat} {f : Addr} {fd : FuncData} {ps : List Str} {sp : Sp} (F : FnG P w K mg base CX j f fd ps sp) (h : j ≤ k) : FnG P w K mg base CX k f fd ps sp :=
  ⟨F.len, fun B out t H as us ws Q E g r => F.go B out t H as us ws Q E g (r.mono h)⟩
theorem fnG_of {k : Nat} {f : Addr} {name qual : Str} {params : Arguments} {body : List Stmt} {scope : Scope} {dV kV doc pm cdv ct oc : Value} {an od : Option Addr} {osl : Array (Option Value)} {N ps : List Str} {sp : Sp}
    (lk : K.lookup f = some ⟨oc, od, .func (PySem.W.fnOf name qual params body scope dV kV doc pm an cdv ct), osl⟩) (hcd : PySem.W.codeIn K cdv qual = true) (S : FnScope N ps scope)
    (len : ∀ ws H Q E, sp ws H Q E → ws.length = ps.length)
    (hb : ∀ (B : Around) (out : List Env) (t : Shared) (H : Hp) (ws : List V) (Q : VK) (E : XK), B.guards = some [] → Room k (B.deeper (envOfC qual scope t.heap.objs.size f cdv)) → sp ws H Q E →
      ∃ r, PSs (cxOf CX P w K mg base N qual scope f cdv B out t H E) body r ∧ r { nx := fun _ H' => Q .non H', rt := Q } (start N ws) H) :
    FnG P w K mg base CX (k + 1) f (PySem.W.fnOf name qual params body scope dV kV doc pm an cdv ct) ps sp := by
  refine ⟨len, ?_⟩
  intro B out t H as us ws Q E hg hr ee bb rr hsp
  have hl := len _ _ _ _ hsp
  have kx : K.In t.heap := ee.mod.kin.keeps fun b o z => (ee.bs b o z).1
  have lm : t.heap.NoLimit := ee.mod.nolimit.keeps fun b o z => (ee.bs b o z).1
  have kinds : ∀ y ∈ ps.zip us, scope.names.lookup y.1 = some .local ∨ (scope.names.lookup y.1 = some .cell ∧
      ((cellsFrom (t.heap.objs.size + 1) scope.names []).lookup y.1).isSome = true) := by
    rintro ⟨n, v⟩ hy
    rcases S.par n (List.of_mem_zip hy).1 with q | q
    · exact Or.inl q
    · exact Or.inr ⟨q, PySem.W.cellsFrom_some _ _ _ (Or.inl q)⟩
  refine codeAny_call_function hr.depth (kx _ _ lk) rfl S.co S.gen rfl (PySem.W.codeRec_of kx hcd) (bb _ _ _ _ ?_)
  refine wpAny_newFunctionEnv_cells S.kind kinds fun env he t1 x => ?_
  subst he
  refine ⟨lm.keeps x.toInCall.keep, codeAny_func ?_⟩
  obtain ⟨r, ht, hq⟩ := hb B out t H ws Q E hg (hr.deeper _) hsp
  have J := inv_start (CX := CX) (E := E) S hr.hd ee hl rr x
  refine wpAny_mono (ht.run [] t1 (start N ws) H _ J hq) (fun fl t' hs => ?_) (fun _ _ hs => hs)
  cases fl with
  | brk => exact hs.elim fun _ z => z.elim fun _ z => z.2.elim
  | cont => exact hs.elim fun _ z => z.elim fun _ z => z.2.elim
  | ret u =>
    obtain ⟨v, _, H', J', rv, q⟩ := hs
    exact ⟨v, H', J'.os, J'.bare, J'.base, J'.hok, rv, q⟩
  | next =>
    obtain ⟨_, H', J', q⟩ := hs
    exact ⟨.non, H', J'.os, J'.bare, J'.base, J'.hok, rfl, q⟩
end
section
variable {X : Cx} {CX : CXT} {k : Nat} {f : Addr} {fd : FuncData} {ps : List Str} {sp : Sp} {ds : List Value} {dvs : List V} {E : XK} {x : Str} {p pos : Pos} {e : Expr} {es : List Expr} {t : TA}
theorem pe_callG (F : FnG X.prog X.w X.K X.mg X.base CX k f fd ps sp) (gd : X.A.guards = some []) (hr : Room k X.A) (hg : Gl X x) (hm : X.mg x = some (.ref f)) (hk : PySem.W.keepIn X.K (.ref f) = true)
    (hb : Binds X.K fd ps ds) (hd : Vals dvs ds) (hx : Passes CX X E) (ha : PA X (e :: es) t) (hdb : (x == ("__debug__" : Str)) = false := by decide)
    (he : starEach (e :: es) X.env = (false, eval e X.env) :: starEach es X.env := by rfl) (hpl : (backTo pos (starEach es X.env)).any (·.1) = false := by rfl) :
    PE X (.Call (.Name x p) (e :: es) [] pos) (tCall sp dvs E t) := by
  refine ⟨fun pins s σ H Q I h => wpAny_Call_Name_kw (ld_glob I hg hm ?_ hdb)⟩
  refine PySem.W.callWith_K (h₀ := X.base) I.ok.mod.kin hk ?_ he hpl
  refine thn (ha.run pos pins s σ H _ I h) fun us t1 ⟨ws, H1, J, r, q⟩ => ⟨J.kIn, ?_⟩
  have r2 : Vals (ws ++ dvs) (us ++ ds) := r.append hd
  have hl : (us ++ ds).length = ps.length := r2.length.symm.trans (F.len _ _ _ _ q)
  refine wpAny_call (codeAny_mono (F.go X.A X.stack t1 H1 ⟨us, []⟩ (us ++ ds) (ws ++ dvs) Q E gd hr J.env0 (hb t1 us J.kIn hl) r2 q) ?_)
  intro r t' hq
  cases r with
  | error z => exact hx pins σ H1 t1 z t' J hq
  | ok fl =>
    cases fl with
    | ret u => exact J.after hq
    | next => exact False.elim hq
    | brk => exact False.elim hq
    | cont => exact False.elim hq
end
/-! the law's own call, where its def may print -/
abbrev Tru (s₁ : Shared) (r : Result) (t : Shared) : Prop := r = .ok (.ret (.bool true)) ∧ OldK s₁.heap t.heap ∧ t.os = s₁.os ∧ AllBare t.gens
theorem law_core {P : Program} {w : World} {K : PySem.W.Frag} {mg mb : Str → Option Value} {k : Nat} {fa a : Addr} {fd : FuncData} {x : Str} {sp : Sp} {s₁ : Shared} {vs : List Value} {ns : List Int}
    (kx : K.In s₁.heap) (n1 : s₁.heap.Ns mainGlobals mg) (n2 : s₁.heap.Ns builtinsNs mb) (n3 : ∀ x : Str, x ≠ "__name__" → mb x = bootBuiltins x) (n4 : s₁.heap.NoLimit) (g0 : s₁.gens = #[])
    (oa : s₁.heap.get? a = some { cls := .type "list", data := .seq vs.toArray }) (hr : Room k callerA)
    (F : ∀ base : Heap, K.In base → base.Ns mainGlobals mg → FnG P w K mg base CX0 k fa fd [x] sp) (bd : ∀ (s : Shared) (u : Value), BindsTo s fd ⟨[u], []⟩ [(x, u)])
    (hsp : ∀ H : Hp, Only H → SqL K H a (ns.map V.int) → sp [.ref a] H (fun v _ => v = .bl true) fun _ _ _ => False)
    (H : Hp) (hO : Only H) (hS : SqL K H a (ns.map V.int)) (ok : HOk P w H s₁.heap) (hA : ∀ b, H b ≠ none → b = a) (hK : H a ≠ none → K.lookup a = none) :
    codeAny (model P w) callerA (.call (.ref fa) ⟨[.ref a], []⟩) (Tru s₁) s₁ := by
  have out : ∀ {b : Addr} {o : Obj} {es : Array DictEntry} {ep : Nat}, s₁.heap.get? b = some o → o.data = .dict es ep → H b = none := by
    intro b o es ep e d
    by_cases q : H b = none
    · exact q
    · have z := hA b q
      subst z
      rw [oa] at e
      cases e
      exact nomatch d
  have nsK : ∀ {b : Addr} {m : Str → Option Value}, s₁.heap.Ns b m → (hidT s₁.heap H).Ns b m := by
    rintro b m ⟨o, es, ep, e, d, r⟩
    exact ⟨o, es, ep, hidT_get e (out e d), d, r⟩
  have kb : K.In (hidT s₁.heap H) := by
    intro b o e
    refine hidT_get (kx b o e) ?_
    by_cases q : H b = none
    · exact q
    · have z := hA b q
      subst z
      have y := hK q
      rw [y] at e
      cases e
  have lim : (hidT s₁.heap H).NoLimit := by
    obtain ⟨mc, h1, h2⟩ := n4
    exact ⟨mc, nsK h1, h2⟩
  have md : Mod K mg (hidT s₁.heap H) := ⟨kb, nsK n1, ⟨mb, nsK n2, n3⟩, lim⟩
  have ee : Env0 P w K mg (hidT s₁.heap H) callerA [] s₁ H := by
    refine ⟨rfl, md, fun b o e => of_hidT e, Nat.le_of_eq (hidT_size _ _), trivial, ?_, ok, .of_eq g0⟩
    intro b hb
    exact absurd (show b ∈ ([] : List Addr) from hb) (by simp)
  have run := (F _ kb (nsK n1)).go callerA [] s₁ H ⟨[.ref a], []⟩ [.ref a] [.ref a] _ _ rfl hr ee (bd s₁ (.ref a)) (.cons rfl .nil) (hsp H hO hS)
  refine codeAny_mono run ?_
  intro r t h
  cases r with
  | error e => exact False.elim h
  | ok fl =>
    cases fl with
    | brk => exact False.elim h
    | cont => exact False.elim h
    | next => exact False.elim h
    | ret u =>
      obtain ⟨v, H', os, bare, un, ok', rv, q⟩ := h
      have q' : v = .bl true := q
      subst q'
      obtain rfl : u = Value.bool true := rv
      refine ⟨rfl, OldK.of_keep ?_, os, bare⟩
      intro b o e
      rcases hO b with z | ⟨ob, xs, z⟩
      · exact un.keep b o e z (fun y => absurd (show b ∈ ([] : List Addr) from y) (by simp)) (by simp)
      · obtain ⟨e1, _⟩ := ok b _ z
        obtain ⟨e2, _⟩ := ok' b _ (un.frzs b ob _ z)
        rw [e] at e1
        cases e1
        exact e2
theorem law_callG {P : Program} {w : World} {K : PySem.W.Frag} {mg mb : Str → Option Value} {k : Nat} {fa a : Addr} {fd : FuncData} {x : Str} {sp : Sp} {s₁ : Shared} {vs : List Value} {ns : List Int}
    (kx : K.In s₁.heap) (n1 : s₁.heap.Ns mainGlobals mg) (n2 : s₁.heap.Ns builtinsNs mb) (n3 : ∀ x : Str, x ≠ "__name__" → mb x = bootBuiltins x) (n4 : s₁.heap.NoLimit) (g0 : s₁.gens = #[])
    (oa : s₁.heap.get? a = some { cls := .type "list", data := .seq vs.toArray }) (hi : IntsAre vs ns) (hl : ns.length ≤ sizeLine) (hr : Room k callerA)
    (F : ∀ base : Heap, K.In base → base.Ns mainGlobals mg → FnG P w K mg base CX0 k fa fd [x] sp) (bd : ∀ (s : Shared) (u : Value), BindsTo s fd ⟨[u], []⟩ [(x, u)])
    (hsp : ∀ H : Hp, Only H → SqL K H a (ns.map V.int) → sp [.ref a] H (fun v _ => v = .bl true) fun _ _ _ => False) :
    codeAny (model P w) callerA (.call (.ref fa) ⟨[.ref a], []⟩) (Tru s₁) s₁ := by
  have rv := vals_ints hi
  have lv := rv.length
  rw [List.length_map] at lv
  have go := law_core (ns := ns) kx n1 n2 n3 n4 g0 oa hr F bd hsp
  by_cases hk : K.lookup a = none
  · refine go (fun b => if b = a then some (.frz { cls := .type "list", data := .seq vs.toArray } (.lst (ns.map V.int))) else none) ?_ ?_ ?_ ?_ (fun _ => hk)
    · intro b
      by_cases hb : b = a
      · exact Or.inr ⟨_, _, if_pos hb⟩
      · exact Or.inl (if_neg hb)
    · exact .inl (.inr ⟨{ cls := .type "list", data := .seq vs.toArray }, if_pos rfl⟩)
    · intro b u z
      by_cases hb : b = a
      · cases (if_pos hb).symm.trans z
        subst hb
        exact ⟨oa, by rw [List.length_map]; exact hl, vs, _, rv, oa⟩
      · cases (if_neg hb).symm.trans z
    · intro b z
      by_cases hb : b = a
      · exact hb
      · exact absurd (if_neg hb) z
  · obtain ⟨o, hk⟩ := Option.ne_none_iff_exists'.mp hk
    have e := kx a o hk
    rw [oa] at e
    cases e
    refine go (fun _ => none) (fun _ => .inl rfl) ?_ ?_ (fun b z => absurd rfl z) (fun z => absurd rfl z)
    · exact .inr ⟨_, vs.toArray, _, hk, rfl, rfl, rfl, by rw [List.size_toArray, ← lv]; exact hl, by simpa using rv⟩
    · intro b u z
      exact nomatch (show (none : Option HO) = some u from z)
theorem walkG {l : PySem.W.OpenLaw} {n k : Nat} {q : Program} {loose : List Str} {XP : (Str → Option Value) → Heap → Prop} {YP : World → Heap → Prop} {d : DefRec} {K : Params → PySem.W.Frag} {sp : PySem.W.Frag → Sp} {x : Str}
    (hn : l.most = some n) (hn2 : n ≤ sizeLine) (hdf : d.params.defaults = []) (hr : Room k callerA) (hY : ∀ (w : World) (h : Heap), YP w h → (K w.params).In h)
    (F : ∀ (w : World) (mg : Str → Option Value) (fa : Addr) (h : Heap), (K w.params).In h → h.Ns mainGlobals mg → mg d.name = some (.ref fa) →
      ∃ fd : FuncData, (∀ (s : Shared) (u : Value), BindsTo s fd ⟨[u], []⟩ [(x, u)]) ∧ ∀ base : Heap, (K w.params).In base → base.Ns mainGlobals mg → FnG l.prog w (K w.params) mg base CX0 k fa fd [x] (sp (K w.params)))
    (hsp : ∀ (K : PySem.W.Frag) (H : Hp) (a : Addr) (ns : List Int), ns.length ≤ n → Only H → SqL K H a (ns.map V.int) → sp K [.ref a] H (fun v _ => v = .bl true) fun _ _ _ => False) :
    PySem.W.WalkO q loose XP YP l.row.toRowW d [] (fun f vs => PySem.call f vs) := by
  refine Att.attach_call hn hdf ?_
  intro w s₀ s₁ mg mb fa o pm cd doc a vs ns G Y ho hd hcd hmg hobj hints hlen hg
  obtain ⟨fd, hb, hF⟩ := F w mg fa _ (hY w _ Y) G.T.g hmg
  exact law_callG (hY w _ Y) G.T.g G.T.b G.T.builtins G.T.nolimit hg hobj hints (Nat.le_trans hlen hn2) hr hF hb (fun H hO hS => hsp (K w.params) H a ns hlen hO hS)
/-! heaps: what is kept, but for some addresses -/
def cut (l : List Addr) (H : Hp) : Hp := fun b => if b ∈ l then none else H b
def Off (l : List Addr) (H H' : Hp) : Prop := Same (cut l H) (cut l H')
theorem cut_out {l : List Addr} {H : Hp} {b : Addr} (h : b ∉ l) : cut l H b = H b := if_neg h
theorem cut_in {l : List Addr} {H : Hp} {b : Addr} (h : b ∈ l) : cut l H b = none := if_pos h
theorem cut_some {l : List Addr} {H : Hp} {b : Addr} {o : HO} (h : cut l H b = some o) : b ∉ l ∧ H b = some o := by
  by_cases e : b ∈ l
  · rw [cut_in e] at h
    cases h
  · rw [cut_out e] at h
    exact ⟨e, h⟩
theorem same_new {H : Hp} {p : Addr} (h : H p = none) (o : HO) : Same H (upd H p o) := fun b u q => by
  rw [upd_ne (ne_of_none q h)]
  exact q
theorem cut_same (l : List Addr) (H : Hp) : Same (cut l H) H := fun _ _ h => (cut_some h).2
theorem Off.refl (l : List Addr) (H : Hp) : Off l H H := Same.refl _
theorem Off.trans {l : List Addr} {H H1 H2 : Hp} (a : Off l H H1) (b : Off l H1 H2) : Off l H H2 := Same.trans a b
theorem Off.of {l : List Addr} {H H' : Hp} (s : Same H H') : Off l H H' := fun b o h => by
  obtain ⟨n, e⟩ := cut_some h
  rw [cut_out n]
  exact s b o e
theorem Off.get {l : List Addr} {H H' : Hp} (s : Off l H H') {b : Addr} {o : HO} (h : H b = some o) (n : b ∉ l) : H' b = some o := by
  have q := s b o (by rw [cut_out n]; exact h)
  exact (cut_some q).2
theorem Off.mono {l m : List Addr} {H H' : Hp} (s : Off l H H') (h : ∀ b ∈ l, b ∈ m) : Off m H H' := fun b o e => by
  obtain ⟨n, e⟩ := cut_some e
  rw [cut_out n]
  exact s.get e fun z => n (h b z)
/-- a change at an address that is not counted -/
theorem Off.put {l : List Addr} {H : Hp} {p : Addr} {o : HO} (h : p ∈ l) : Off l H (upd H p o) := fun b u e => by
  obtain ⟨n, e⟩ := cut_some e
  rw [cut_out n, upd_ne (fun z => n (by rw [z]; exact h))]
  exact e
/-- an address that was free then -/
theorem Off.free {l : List Addr} {H H' : Hp} (s : Off l H H') {b : Addr} (h : H' b = none) (n : b ∉ l) : H b = none := by
  cases q : H b with
  | none => rfl
  | some o =>
    rw [s.get q n] at h
    cases h
/-! data -/
theorem seqT_up {K : PySem.W.Frag} {H H' : Hp} {a : Addr} {xs : List V} (s : Same H H') (h : SqT K H a xs) : SqT K H' a xs := by
  rcases h with (h | ⟨o, h⟩) | h
  · exact .inl (.inl (s _ _ h))
  · exact .inl (.inr ⟨o, s _ _ h⟩)
  · exact .inr h
mutual
theorem Dp.up {K : PySem.W.Frag} {H H' : Hp} (s : Same H H') : ∀ (d : PyData) (v : V), Dp K H v d → Dp K H' v d
  | .none, _, h => by cases h; exact .non
  | .bool b, _, h => by cases h; exact .bl b
  | .int i, _, h => by cases h; exact .int i
  | .str x, _, h => by cases h; exact .str x
  | .list ds, _, h => by
    cases h with
    | lst h1 h2 => exact .lst (s.seq h1) (Dp.ups s ds _ h2)
  | .tuple ds, _, h => by
    cases h with
    | tup h1 h2 => exact .tup (seqT_up s h1) (Dp.ups s ds _ h2)
  | .dict _, _, h => by cases h
theorem Dp.ups {K : PySem.W.Frag} {H H' : Hp} (s : Same H H') : ∀ (ds : List PyData) (vs : List V), DpAll K H vs ds → DpAll K H' vs ds
  | [], _, h => by cases h; exact .nil
  | d :: ds, _, h => by
    cases h with
    | cons h1 h2 => exact .cons (Dp.up s d _ h1) (Dp.ups s ds _ h2)
end
theorem DpAll.len {K : PySem.W.Frag} {H : Hp} : ∀ {vs : List V} {ds : List PyData}, DpAll K H vs ds → vs.length = ds.length
  | _, _, .nil => rfl
  | _, _, .cons _ t => congrArg (· + 1) (DpAll.len t)
theorem DpAll.get {K : PySem.W.Frag} {H : Hp} : ∀ {vs : List V} {ds : List PyData} {i : Nat} {v : V}, DpAll K H vs ds → vs[i]? = some v → ∃ d, ds[i]? = some d ∧ Dp K H v d
  | _, _, _, _, .nil, e => by simp at e
  | _, _, 0, _, .cons h _, e => by simp at e; subst e; exact ⟨_, rfl, h⟩
  | _, _, i + 1, _, .cons _ t, e => by
    obtain ⟨d, a, b⟩ := DpAll.get (i := i) t (by simpa using e)
    exact ⟨d, by simpa using a, b⟩
theorem DpAll.app {K : PySem.W.Frag} {H : Hp} : ∀ {vs ws : List V} {ds es : List PyData}, DpAll K H vs ds → DpAll K H ws es → DpAll K H (vs ++ ws) (ds ++ es)
  | _, _, _, _, .nil, s => s
  | _, _, _, _, .cons r t, s => .cons r (DpAll.app t s)
/-- the name of a thing's type -/
def tyN : PyData → String
  | .none => "NoneType"
  | .bool _ => "bool"
  | .int _ => "int"
  | .str _ => "str"
  | .list _ => "list"
  | .tuple _ => "tuple"
  | .dict _ => "dict"
theorem tyD {K : PySem.W.Frag} {H : Hp} {v : V} {d : PyData} (h : Dp K H v d) : TyX K H v (.type (tyN d)) := by
  cases h with
  | non => exact .base .non
  | bl b => exact .base (.bl b)
  | int i => exact .base (.int i)
  | str x => exact .base (.str x)
  | lst h _ =>
    rcases h with (h | ⟨o, h⟩) | ⟨o, its, n, h, c, _⟩
    · exact .base (.lst h)
    · exact .base (.frz h)
    · exact .kList h c
  | tup h _ =>
    rcases h with (h | ⟨o, h⟩) | ⟨o, its, n, h, c, _⟩
    · exact .base (.tup h)
    · exact .fTuple h
    · exact .kTuple h c
/-- isinstance(x, T) of data -/
def rIsD (K : PySem.W.Frag) : List V → Hp → VK → Prop := fun xs H Q =>
  ∃ v d T b, xs = [v, .ty T] ∧ Dp K H v d ∧ kitB (tyN d) T = some b ∧ Q (.bl b) H
theorem call_isD {X : Cx} : CallR X (.builtin "isinstance") (rIsD X.K) := by
  intro pins s σ H xs us Q I r h
  obtain ⟨v, d, T, b, rfl, hd, hk, q⟩ := h
  exact call_isi pins s σ H _ us Q I r ⟨v, .ty T, _, _, b, rfl, .ty T, tyD hd, kit_ty hk, q⟩
/-! the box that a law draws from -/
def bx (g : Addr) (n s t : Int) : List (Key × V) := [(Sum.inr "great", .ref g), (Sum.inr "now", .int n), (Sum.inr "seed", .int s), (Sum.inr "turn", .int t)]
structure Box (H : Hp) (p g : Addr) : Prop where
  ex : ∃ n s t gs, H p = some (.dK (bx g n s t)) ∧ H g = some (.lst (List.map V.int gs)) ∧ gs.length ≤ 1000
theorem Box.ne {H : Hp} {p g : Addr} (b : Box H p g) : p ≠ g := by
  obtain ⟨n, s, t, gs, h1, h2, _⟩ := b.ex
  exact ne_of h1 h2 (by intro z; cases z)
theorem Box.off {H H' : Hp} {p g : Addr} {l : List Addr} (b : Box H p g) (h : Off l H H') (n1 : p ∉ l) (n2 : g ∉ l) : Box H' p g := by
  obtain ⟨n, s, t, gs, h1, h2, h3⟩ := b.ex
  exact ⟨n, s, t, gs, h.get h1 n1, h.get h2 n2, h3⟩
theorem Box.same {H H' : Hp} {p g : Addr} (b : Box H p g) (h : Same H H') : Box H' p g := by
  obtain ⟨n, s, t, gs, h1, h2, h3⟩ := b.ex
  exact ⟨n, s, t, gs, h _ _ h1, h _ _ h2, h3⟩
theorem kgn : ¬ ((Sum.inr "great" : Key) = (Sum.inr "now" : Key)) := by decide +kernel
theorem kgs : ¬ ((Sum.inr "great" : Key) = (Sum.inr "seed" : Key)) := by decide +kernel
theorem kgt : ¬ ((Sum.inr "great" : Key) = (Sum.inr "turn" : Key)) := by decide +kernel
theorem kns : ¬ ((Sum.inr "now" : Key) = (Sum.inr "seed" : Key)) := by decide +kernel
theorem knt : ¬ ((Sum.inr "now" : Key) = (Sum.inr "turn" : Key)) := by decide +kernel
theorem kst : ¬ ((Sum.inr "seed" : Key) = (Sum.inr "turn" : Key)) := by decide +kernel
theorem knf (a b : Key) (h : ¬ a = b) : ¬ b = a := fun z => h z.symm
section
variable (g : Addr) (n s t : Int)
theorem bx_great : valV (bx g n s t) (Sum.inr "great" : Key) = some (.ref g) := by
  simp [valV, bx]
theorem bx_now : valV (bx g n s t) (Sum.inr "now" : Key) = some (.int n) := by
  simp only [valV, bx, List.find?_cons, decide_eq_false kgn, decide_true, Option.map_some]
theorem bx_seed : valV (bx g n s t) (Sum.inr "seed" : Key) = some (.int s) := by
  simp only [valV, bx, List.find?_cons, decide_eq_false kgs, decide_eq_false kns, decide_true, Option.map_some]
theorem bx_turn : valV (bx g n s t) (Sum.inr "turn" : Key) = some (.int t) := by
  simp only [valV, bx, List.find?_cons, decide_eq_false kgt, decide_eq_false knt, decide_eq_false kst, decide_true, Option.map_some]
theorem put_now (y : Int) : putK (bx g n s t) (Sum.inr "now" : Key) (.int y) = bx g y s t := by
  simp only [putK, bx, List.any_cons, List.map_cons, List.map_nil, decide_true, Bool.true_or, Bool.or_true, if_true, if_neg kgn, if_neg (knf _ _ kns), if_neg (knf _ _ knt)]
theorem put_seed (y : Int) : putK (bx g n s t) (Sum.inr "seed" : Key) (.int y) = bx g n y t := by
  simp only [putK, bx, List.any_cons, List.map_cons, List.map_nil, decide_true, Bool.true_or, Bool.or_true, if_true, if_neg kgs, if_neg kns, if_neg (knf _ _ kst)]
theorem put_turn (y : Int) : putK (bx g n s t) (Sum.inr "turn" : Key) (.int y) = bx g n s y := by
  simp only [putK, bx, List.any_cons, List.map_cons, List.map_nil, decide_true, Bool.true_or, Bool.or_true, if_true, if_neg kgt, if_neg knt, if_neg kst]
theorem mer_box : mergeK [] (bx g n s t) = bx g n s t := by
  simp only [mergeK, bx, List.foldl_cons, List.foldl_nil, putK, List.any_nil, List.any_cons, List.nil_append, List.cons_append, decide_eq_false kgn, decide_eq_false kgs, decide_eq_false kgt, decide_eq_false kns, decide_eq_false knt, decide_eq_false kst, Bool.or_false, if_neg Bool.false_ne_true]
end
/-! data that can be printed: small ints, short texts, few nodes -/
mutual
def gd : PyData → Bool
  | .none => true
  | .bool _ => true
  | .int i => decide (i.natAbs.log2 < 1920)
  | .str x => decide (x.length ≤ 100) && x.cps.toList.all fun c => decide (c < 128)
  | .list ds => gds ds
  | .tuple ds => gds ds
  | .dict _ => false
def gds : List PyData → Bool
  | [] => true
  | d :: ds => gd d && gds ds
end
mutual
def nod : PyData → Nat
  | .list ds => 1 + nods ds
  | .tuple ds => 1 + nods ds
  | .none => 1
  | .bool _ => 1
  | .int _ => 1
  | .str _ => 1
  | .dict _ => 1
def nods : List PyData → Nat
  | [] => 0
  | d :: ds => nod d + nods ds
end
mutual
theorem gd_sh : ∀ d : PyData, gd d = true → d.showable = true ∧ d.hasDict = false
  | .none, _ => ⟨by simp only [PyData.showable], by simp only [PyData.hasDict]⟩
  | .bool _, _ => ⟨by simp only [PyData.showable], by simp only [PyData.hasDict]⟩
  | .int i, h => ⟨by simpa only [PyData.showable, gd] using h, by simp only [PyData.hasDict]⟩
  | .str _, _ => ⟨by simp only [PyData.showable], by simp only [PyData.hasDict]⟩
  | .list ds, h => by
    have q := gds_sh ds (by simpa only [gd] using h)
    exact ⟨by simpa only [PyData.showable] using q.1, by simpa only [PyData.hasDict] using q.2⟩
  | .tuple ds, h => by
    have q := gds_sh ds (by simpa only [gd] using h)
    exact ⟨by simpa only [PyData.showable] using q.1, by simpa only [PyData.hasDict] using q.2⟩
  | .dict _, h => by simp [gd] at h
theorem gds_sh : ∀ ds : List PyData, gds ds = true → PyData.showableAll ds = true ∧ PyData.hasDictAll ds = false
  | [], _ => ⟨by simp only [PyData.showableAll], by simp only [PyData.hasDictAll]⟩
  | d :: ds, h => by
    simp only [gds, Bool.and_eq_true] at h
    have q1 := gd_sh d h.1
    have q2 := gds_sh ds h.2
    exact ⟨by simp only [PyData.showableAll, q1.1, q2.1, Bool.and_self], by simp only [PyData.hasDictAll, q1.2, q2.2, Bool.or_self]⟩
end
mutual
theorem gd_sz : ∀ d : PyData, gd d = true → d.shown.length + 2 ≤ 2000 * nod d
  | .none, _ => by
    simp only [PyData.shown, nod]
    decide +kernel
  | .bool b, _ => by
    simp only [PyData.shown, nod]
    cases b <;> decide +kernel
  | .int i, h => by
    have h1 : i.natAbs.log2 < 1920 := by simpa only [gd, decide_eq_true_eq] using h
    have q := int_text_len_1921 h1
    simp only [PyData.shown, nod]
    show (Str.ofString (toString i)).length + 2 ≤ _
    omega
  | .str x, h => by
    simp only [gd, Bool.and_eq_true, decide_eq_true_eq, List.all_eq_true] at h
    have q := StrLaws.reprText_len x (fun c hc => Nat.lt_of_lt_of_le (h.2 c hc) (by decide))
    simp only [PyData.shown, nod]
    omega
  | .list ds, h => by
    have q := gds_sz ds (by simpa only [gd] using h)
    have q2 := listText_len_le (PyData.shownAll ds)
    simp only [PyData.shown, nod]
    omega
  | .tuple ds, h => by
    have q := gds_sz ds (by simpa only [gd] using h)
    have q2 := tupleText_len_le (PyData.shownAll ds)
    simp only [PyData.shown, nod]
    omega
  | .dict _, h => by simp [gd] at h
theorem gds_sz : ∀ ds : List PyData, gds ds = true → ((PyData.shownAll ds).map (·.length)).sum + 2 * (PyData.shownAll ds).length ≤ 2000 * nods ds
  | [], _ => by simp [PyData.shownAll, nods]
  | d :: ds, h => by
    simp only [gds, Bool.and_eq_true] at h
    have q1 := gd_sz d h.1
    have q2 := gds_sz ds h.2
    simp only [PyData.shownAll, nods, List.map_cons, List.sum_cons, List.length_cons]
    omega
end
theorem prn_of {d : PyData} (h : gd d = true) (hn : nod d ≤ 8000) (hd : d.depth ≤ 60) : Prn d :=
  ⟨(gd_sh d h).1, (gd_sh d h).2, hd, by
    have q := gd_sz d h
    have e : sizeLine = 16777216 := by decide
    omega⟩
theorem gds_app : ∀ ds es : List PyData, gds (ds ++ es) = (gds ds && gds es)
  | [], es => by simp [gds]
  | d :: ds, es => by simp only [List.cons_append, gds, gds_app ds es, Bool.and_assoc]
theorem nods_app : ∀ ds es : List PyData, nods (ds ++ es) = nods ds + nods es
  | [], es => by simp [nods]
  | d :: ds, es => by simp only [List.cons_append, nods, nods_app ds es, Nat.add_assoc]
theorem nod_pos : ∀ d : PyData, 1 ≤ nod d
  | .list _ => by simp only [nod]; omega
  | .tuple _ => by simp only [nod]; omega
  | .none => by simp only [nod]; omega
  | .bool _ => by simp only [nod]; omega
  | .int _ => by simp only [nod]; omega
  | .str _ => by simp only [nod]; omega
  | .dict _ => by simp only [nod]; omega
theorem nods_len : ∀ ds : List PyData, ds.length ≤ nods ds
  | [] => Nat.le_refl _
  | d :: ds => by
    have := nod_pos d
    have := nods_len ds
    simp only [nods, List.length_cons]
    omega
theorem gds_mem : ∀ {ds : List PyData} {d : PyData}, gds ds = true → d ∈ ds → gd d = true
  | _ :: _, _, h, m => by
    simp only [gds, Bool.and_eq_true] at h
    rcases List.mem_cons.mp m with e | e
    · rw [e]
      exact h.1
    · exact gds_mem h.2 e
theorem nods_mem : ∀ {ds : List PyData} {d : PyData}, d ∈ ds → nod d ≤ nods ds
  | _ :: _, _, m => by
    simp only [nods]
    rcases List.mem_cons.mp m with e | e
    · rw [e]
      omega
    · have := nods_mem e
      omega
theorem depth_mem : ∀ {ds : List PyData} {d : PyData}, d ∈ ds → d.depth ≤ PyData.depthAll ds
  | _ :: _, _, m => by
    simp only [PyData.depthAll]
    rcases List.mem_cons.mp m with e | e
    · rw [e]
      omega
    · have := depth_mem e
      omega
theorem depthAll_app : ∀ ds es : List PyData, PyData.depthAll (ds ++ es) = max (PyData.depthAll ds) (PyData.depthAll es)
  | [], es => by simp [PyData.depthAll]
  | d :: ds, es => by simp only [List.cons_append, PyData.depthAll, depthAll_app ds es, Nat.max_assoc]
/-- built-in names that the top leaves as they are -/
structure Bi (mg : Str → Option Value) : Prop where
  ii : mg "isinstance" = none
  len : mg "len" = none
  all : mg "all" = none
  str : mg "str" = none
  tup : mg "tuple" = none
  int : mg "int" = none
  bool : mg "bool" = none
  rng : mg "range" = none
  rep : mg "repr" = none
  abs : mg "abs" = none
/-! names -/
def lowOk (c : Nat) : Bool := decide (97 ≤ c) && decide (c ≤ 122)
def isNm (x : Str) : Bool := decide (1 ≤ x.length) && decide (x.length ≤ 8) && x.cps.toList.all lowOk
mutual
def isVal : PyData → Bool
  | .int _ => true
  | .str x => isNm x
  | .tuple ds => isVals ds
  | .none => false
  | .bool _ => false
  | .list _ => false
  | .dict _ => false
def isVals : List PyData → Bool
  | [] => true
  | d :: ds => isVal d && isVals ds
end
theorem isVals_app : ∀ ds es : List PyData, isVals (ds ++ es) = (isVals ds && isVals es)
  | [], es => by simp [isVals]
  | d :: ds, es => by simp only [List.cons_append, isVals, isVals_app ds es, Bool.and_assoc]
def isTup : PyData → Bool
  | .tuple _ => true
  | _ => false
def nmD : PyData → Bool
  | .str x => isNm x
  | _ => false
def inD : PyData → Bool
  | .int _ => true
  | _ => false
def isStr : PyData → Bool
  | .str _ => true
  | _ => false
def isIntB : PyData → Bool
  | .int _ => true
  | .bool _ => true
  | _ => false
def isBool : PyData → Bool
  | .bool _ => true
  | _ => false
theorem kit_tup : ∀ d : PyData, kitB (tyN d) "tuple" = some (isTup d)
  | .none => (by decide +kernel : kitB "NoneType" "tuple" = some false)
  | .bool _ => (by decide +kernel : kitB "bool" "tuple" = some false)
  | .int _ => (by decide +kernel : kitB "int" "tuple" = some false)
  | .str _ => (by decide +kernel : kitB "str" "tuple" = some false)
  | .list _ => (by decide +kernel : kitB "list" "tuple" = some false)
  | .tuple _ => (by decide +kernel : kitB "tuple" "tuple" = some true)
  | .dict _ => (by decide +kernel : kitB "dict" "tuple" = some false)
theorem kit_str : ∀ d : PyData, kitB (tyN d) "str" = some (isStr d)
  | .none => (by decide +kernel : kitB "NoneType" "str" = some false)
  | .bool _ => (by decide +kernel : kitB "bool" "str" = some false)
  | .int _ => (by decide +kernel : kitB "int" "str" = some false)
  | .str _ => (by decide +kernel : kitB "str" "str" = some true)
  | .list _ => (by decide +kernel : kitB "list" "str" = some false)
  | .tuple _ => (by decide +kernel : kitB "tuple" "str" = some false)
  | .dict _ => (by decide +kernel : kitB "dict" "str" = some false)
theorem kit_int : ∀ d : PyData, kitB (tyN d) "int" = some (isIntB d)
  | .none => (by decide +kernel : kitB "NoneType" "int" = some false)
  | .bool _ => (by decide +kernel : kitB "bool" "int" = some true)
  | .int _ => (by decide +kernel : kitB "int" "int" = some true)
  | .str _ => (by decide +kernel : kitB "str" "int" = some false)
  | .list _ => (by decide +kernel : kitB "list" "int" = some false)
  | .tuple _ => (by decide +kernel : kitB "tuple" "int" = some false)
  | .dict _ => (by decide +kernel : kitB "dict" "int" = some false)
theorem kit_bool : ∀ d : PyData, kitB (tyN d) "bool" = some (isBool d)
  | .none => (by decide +kernel : kitB "NoneType" "bool" = some false)
  | .bool _ => (by decide +kernel : kitB "bool" "bool" = some true)
  | .int _ => (by decide +kernel : kitB "int" "bool" = some false)
  | .str _ => (by decide +kernel : kitB "str" "bool" = some false)
  | .list _ => (by decide +kernel : kitB "list" "bool" = some false)
  | .tuple _ => (by decide +kernel : kitB "tuple" "bool" = some false)
  | .dict _ => (by decide +kernel : kitB "dict" "bool" = some false)
theorem one_lt (c d : Nat) : (([c] : List Nat) < [d]) ↔ c < d := by
  constructor
  · intro h
    cases h with
    | rel h => exact h
    | cons h => cases h
  · intro h
    exact .rel h
theorem cps_a : (("a" : Str)).cps.toList = [97] := by decide +kernel
theorem cps_z : (("z" : Str)).cps.toList = [122] := by decide +kernel
theorem ge_a (c : Nat) : (!decide ((⟨#[c]⟩ : Str).cps.toList < ("a" : Str).cps.toList)) = decide (97 ≤ c) := by
  rw [cps_a]
  by_cases h : 97 ≤ c
  · have : ¬ ((⟨#[c]⟩ : Str).cps.toList < [97]) := fun z => by
      have := (one_lt c 97).mp z
      omega
    rw [decide_eq_false this, decide_eq_true h]
    rfl
  · have : ((⟨#[c]⟩ : Str).cps.toList < [97]) := (one_lt c 97).mpr (by omega)
    rw [decide_eq_true this, decide_eq_false h]
    rfl
theorem le_z (c : Nat) : (!decide (("z" : Str).cps.toList < (⟨#[c]⟩ : Str).cps.toList)) = decide (c ≤ 122) := by
  rw [cps_z]
  by_cases h : c ≤ 122
  · have : ¬ (([122] : List Nat) < (⟨#[c]⟩ : Str).cps.toList) := fun z => by
      have := (one_lt 122 c).mp z
      omega
    rw [decide_eq_false this, decide_eq_true h]
    rfl
  · have : (([122] : List Nat) < (⟨#[c]⟩ : Str).cps.toList) := (one_lt 122 c).mpr (by omega)
    rw [decide_eq_true this, decide_eq_false h]
    rfl
theorem gd_str {x : Str} (h : gd (.str x) = true) : x.length ≤ 100 := by
  simp only [gd, Bool.and_eq_true, decide_eq_true_eq] at h
  exact h.1
theorem len_cps (x : Str) : x.length = x.cps.size := rfl
theorem cps_at {x : Str} {i c : Nat} (h : x.cps[i]? = some c) : x.cps.toList[i]? = some c := by simpa using h
/-- what is found going along a list -/
theorem take_snoc {α β : Type} (f : α → β) {l : List α} {i : Nat} {a : α} (h : l[i]? = some a) : (l.take (i + 1)).map f = (l.take i).map f ++ [f a] := by
  rw [List.take_add_one, h, List.map_append]
  rfl
theorem all_map {α : Type} (f : α → Bool) : ∀ l : List α, (l.map f).all id = l.all f
  | [] => rfl
  | a :: l => by simp only [List.map_cons, List.all_cons, all_map f l, id]
/-! promises of those that only look -/
def spLook (K : PySem.W.Frag) (ok : PyData → Prop) (g : PyData → V) : Sp := fun vs H Q _ => ∃ v d, vs = [v] ∧ Dp K H v d ∧ ok d ∧ ∀ H', Same H H' → Q (g d) H'
theorem DpAll.unapp {K : PySem.W.Frag} {H : Hp} : ∀ {xs ys : List V} {ds : List PyData}, DpAll K H (xs ++ ys) ds → ∃ d1 d2, ds = d1 ++ d2 ∧ DpAll K H xs d1 ∧ DpAll K H ys d2
  | [], _, ds, h => ⟨[], ds, rfl, .nil, h⟩
  | x :: xs, _, _, h => by
    cases h with
    | cons h1 h2 =>
      obtain ⟨d1, d2, e, a, b⟩ := DpAll.unapp (xs := xs) h2
      exact ⟨_ :: d1, d2, by rw [e]; rfl, .cons h1 a, b⟩
theorem DpAll.last {K : PySem.W.Frag} {H : Hp} {xs : List V} {ds : List PyData} (h : DpAll K H xs ds) (hx : xs ≠ []) : ∃ xs' v ds' d, xs = xs' ++ [v] ∧ ds = ds' ++ [d] ∧ DpAll K H xs' ds' ∧ Dp K H v d := by
  have e := (List.dropLast_concat_getLast hx).symm
  rw [e] at h
  obtain ⟨d1, d2, e2, a, b⟩ := DpAll.unapp h
  cases b with
  | cons b1 b2 =>
    cases b2
    exact ⟨_, _, d1, _, e, e2, a, b1⟩
theorem last_at (xs : List V) (v : V) : (xs ++ [v])[(xs ++ [v]).length - 1]? = some v := by simp
theorem drop_last (xs : List V) (v : V) : (xs ++ [v]).dropLast = xs := by simp
theorem tup_of {K : PySem.W.Frag} {H : Hp} {v : V} {d : PyData} (h : Dp K H v d) (ht : isTup d = true) : ∃ a xs ds, v = .ref a ∧ d = .tuple ds ∧ SqT K H a xs ∧ DpAll K H xs ds := by
  cases h with
  | tup h1 h2 => exact ⟨_, _, _, rfl, rfl, h1, h2⟩
  | non => cases ht
  | bl b => cases ht
  | int i => cases ht
  | str x => cases ht
  | lst h1 h2 => cases ht
theorem isVal_no {d : PyData} (h1 : isTup d = false) : isVal d = (inD d || nmD d) := by
  cases d with
  | tuple ds => exact absurd (show true = false from h1) (by decide)
  | str x => simp only [isVal, inD, nmD, Bool.false_or]
  | int i => simp only [isVal, inD, nmD, Bool.true_or]
  | none => simp only [isVal, inD, nmD, Bool.or_self]
  | bool b => simp only [isVal, inD, nmD, Bool.or_self]
  | list b => simp only [isVal, inD, nmD, Bool.or_self]
  | dict b => simp only [isVal, inD, nmD, Bool.or_self]
/-- going along anything: what one turn does is B -/
theorem along {J : It} {n : Nat} {G : Hp → Prop} {Y : Nat → Hp → V → Hp → Prop} (w : Walk J n G Y) {B : (Hp → Prop) → V → Hp → Prop} {H0 : Hp} {Qd : Hp → Prop} (Pv : Nat → Hp → Prop) (h0 : Pv 0 H0) (hG : ∀ i H, i ≤ n → Pv i H → G H)
    (hs : ∀ i x H H', i < n → Pv i H → Y i H x H' → B (Pv (i + 1)) x H') (hd : ∀ H, Pv n H → Qd H) :
    ∃ W : Nat → Nat → Hp → Prop, (∃ m, W 0 m H0) ∧ ∀ i m H, W i m H → (J.stop i H ∧ Qd H) ∨ (J.go i H ∧ ∃ Nx : Hp → Prop, (∀ H', Nx H' → ∃ m', m' < m ∧ W (i + 1) m' H') ∧ ∀ x H', J.yld i H x H' → B Nx x H') := by
  refine ⟨fun i m H => i ≤ n ∧ m + i = n ∧ Pv i H, ⟨n, Nat.zero_le _, rfl, h0⟩, ?_⟩
  rintro i m H ⟨hi, hm, p⟩
  have gg := hG i H hi p
  by_cases lt : i < n
  · refine Or.inr ⟨w.goes i H lt gg, Pv (i + 1), ?_, ?_⟩
    · intro H' p'
      exact ⟨m - 1, by omega, by omega, by omega, p'⟩
    · intro x H' y
      exact hs i x H H' lt p (w.yields i H x H' lt gg y)
  · have e : i = n := by omega
    subst e
    exact Or.inl ⟨w.stops H gg, hd H p⟩
mutual
def dep : PyData → Nat
  | .tuple ds => 1 + deps ds
  | .none => 0
  | .bool _ => 0
  | .int _ => 0
  | .str _ => 0
  | .list _ => 0
  | .dict _ => 0
def deps : List PyData → Nat
  | [] => 0
  | d :: ds => max (dep d) (deps ds)
end
def kids : PyData → List PyData
  | .tuple ds => ds
  | _ => []
theorem deps_app : ∀ ds es : List PyData, deps (ds ++ es) = max (deps ds) (deps es)
  | [], es => by simp [deps]
  | d :: ds, es => by simp only [List.cons_append, deps, deps_app ds es, Nat.max_assoc]
theorem dep_no {d : PyData} (h : isTup d = false) : dep d = 0 := by
  cases d with
  | tuple ds => exact absurd (show true = false from h) (by decide)
  | str x => simp only [dep]
  | int i => simp only [dep]
  | none => simp only [dep]
  | bool b => simp only [dep]
  | list b => simp only [dep]
  | dict b => simp only [dep]
theorem deps_filter : ∀ ds : List PyData, deps (ds.filter isTup) = deps ds
  | [] => rfl
  | d :: ds => by
    cases h : isTup d with
    | true => simp only [List.filter_cons, h, if_true, deps, deps_filter ds]
    | false => simp only [List.filter_cons, h, Bool.false_eq_true, if_false, deps, deps_filter ds, dep_no h, Nat.zero_max]
theorem deps_kids : ∀ ds : List PyData, (∀ d ∈ ds, isTup d = true) → ds ≠ [] → deps ds = 1 + deps (ds.flatMap kids)
  | [], _, h => absurd rfl h
  | d :: ds, h, _ => by
    have hd := h d List.mem_cons_self
    have e1 : dep d = 1 + deps (kids d) := by
      cases d with
      | tuple es => simp only [dep, kids]
      | _ => cases hd
    rw [List.flatMap_cons, deps_app]
    simp only [deps]
    by_cases e : ds = []
    · subst e
      simp only [deps, List.flatMap_nil, e1]
      omega
    · have ih := deps_kids ds (fun x hx => h x (List.mem_cons_of_mem _ hx)) e
      rw [ih, e1]
      omega
theorem nods_kids : ∀ ds : List PyData, nods (ds.flatMap kids) ≤ nods ds
  | [] => Nat.le_refl _
  | d :: ds => by
    rw [List.flatMap_cons, nods_app]
    have ih := nods_kids ds
    have e : nods (kids d) ≤ nod d := by
      cases d <;> simp only [kids, nods, nod] <;> omega
    simp only [nods]
    omega
theorem nods_filter (p : PyData → Bool) : ∀ ds : List PyData, nods (ds.filter p) ≤ nods ds
  | [] => Nat.le_refl _
  | d :: ds => by
    have ih := nods_filter p ds
    have := nod_pos d
    cases h : p d with
    | true =>
      simp only [List.filter_cons, h, if_true, nods]
      omega
    | false =>
      simp only [List.filter_cons, h, Bool.false_eq_true, if_false, nods]
      omega
theorem nods_take (ds : List PyData) (i : Nat) : nods (ds.take i) ≤ nods ds := by
  have e := congrArg nods (List.take_append_drop i ds)
  rw [nods_app] at e
  omega
theorem get_take {α : Type} {l : List α} {i : Nat} {a : α} (h : l[i]? = some a) : l.take (i + 1) = l.take i ++ [a] := by
  rw [List.take_add_one, h]
  rfl
theorem call_isK {X : Cx} {K : PySem.W.Frag} (h : X.K = K) : CallR X (.builtin "isinstance") (rIsD K) := by
  subst h
  exact call_isD
theorem pi_tupK {X : Cx} {K : PySem.W.Frag} {tg l : Expr} {tl : TE} (h : X.K = K) (hl : PE X l tl) : PI X tg l (iTup K tl) := by
  subst h
  exact pi_tup hl
theorem pi_listK {X : Cx} {K : PySem.W.Frag} {tg l : Expr} {tl : TE} (h : X.K = K) (hl : PE X l tl) : PI X tg l (iList K tl) := by
  subst h
  exact pi_list hl
theorem b_ii : bootBuiltins "isinstance" = some (.builtin "isinstance") := by decide +kernel
theorem b_tup : bootBuiltins "tuple" = some (.type "tuple") := by decide +kernel
theorem b_all : bootBuiltins "all" = some (.builtin "all") := by decide +kernel
theorem b_str : bootBuiltins "str" = some (.type "str") := by decide +kernel
theorem b_int : bootBuiltins "int" = some (.type "int") := by decide +kernel
theorem b_bool : bootBuiltins "bool" = some (.type "bool") := by decide +kernel
theorem b_abs : bootBuiltins "abs" = some (.builtin "abs") := by decide +kernel
theorem b_rep : bootBuiltins "repr" = some (.builtin "repr") := by decide +kernel
theorem b_max : bootBuiltins "max" = some (.builtin "max") := by decide +kernel
theorem b_list : bootBuiltins "list" = some (.type "list") := by decide +kernel
/-! short texts of plain signs -/
structure Sm (n : Nat) (x : Str) : Prop where
  le : x.length ≤ n
  lo : ∀ c ∈ x.cps.toList, c < 128
theorem Sm.gd {n : Nat} {x : Str} (h : Sm n x) (hn : n ≤ 100) : Rl.gd (.str x) = true := by
  have h1 := h.le
  have h3 : x.length ≤ 100 := by omega
  have h2 : (x.cps.toList.all fun c => decide (c < 128)) = true := List.all_eq_true.mpr fun c hc => decide_eq_true (h.lo c hc)
  simp only [Rl.gd, decide_eq_true h3, h2, Bool.and_self]
theorem Sm.mono {n m : Nat} {x : Str} (h : Sm n x) (hn : n ≤ m) : Sm m x := ⟨Nat.le_trans h.le hn, h.lo⟩
theorem Sm.fits {n : Nat} {x : Str} (h : Sm n x) (hn : n ≤ 1000) : x.length ≤ sizeLine := Nat.le_trans h.le (Nat.le_of_lt (small1000 hn))
theorem app_cps (x y : Str) : (x ++ y).cps.toList = x.cps.toList ++ y.cps.toList := by
  show (x.cps ++ y.cps).toList = _
  simp
theorem Sm.app {n m : Nat} {x y : Str} (h : Sm n x) (g : Sm m y) : Sm (n + m) (x ++ y) := by
  refine ⟨?_, fun c hc => ?_⟩
  · rw [Str.length_append]
    have := h.le
    have := g.le
    omega
  · rw [app_cps] at hc
    rcases List.mem_append.mp hc with z | z
    · exact h.lo c z
    · exact g.lo c z
theorem Sm.cut {n : Nat} {x : Str} (h : Sm n x) (lo hi : Option Int) : Sm n (cutS x lo hi) := by
  refine ⟨Nat.le_trans (cutS_length x lo hi) h.le, fun c hc => h.lo c ?_⟩
  unfold cutS at hc
  exact List.mem_of_mem_drop (List.mem_of_mem_take (by simpa using hc))
theorem Sm.up {n : Nat} {x : Str} (h : Sm n x) : Sm n (Txt.upper x) := by
  rw [upper_ascii h.lo]
  refine ⟨?_, fun c hc => ?_⟩
  · have := h.le
    show (x.cps.map up1).size ≤ n
    rw [Array.size_map]
    exact this
  · rw [Array.toList_map] at hc
    obtain ⟨b, hb, rfl⟩ := List.mem_map.mp hc
    have := h.lo b hb
    unfold up1
    split <;> omega
theorem Sm.of {x : Str} {n : Nat} (h : (decide (x.length ≤ n) && x.cps.toList.all fun c => decide (c < 128)) = true) : Sm n x := by
  rw [Bool.and_eq_true] at h
  exact ⟨of_decide_eq_true h.1, fun c hc => of_decide_eq_true (List.all_eq_true.mp h.2 c hc)⟩
theorem Sm.join : ∀ (ys : List Str), (∀ y ∈ ys, Sm 1 y) → Sm ys.length (Txt.join "" ys) := by
  intro ys h
  rw [show Txt.join "" ys = Str.join "" ys from StrLaws.glued_eq_join "" ys]
  refine ⟨?_, fun c hc => ?_⟩
  · have q := StrLaws.join_length_le "" ys
    have e0 : (("" : Str)).length = 0 := by decide +kernel
    have s : (ys.map (·.length)).sum ≤ ys.length := by
      clear q
      induction ys with
      | nil => exact Nat.le_refl _
      | cons y r ih =>
        have h1 := (h y List.mem_cons_self).le
        have h2 := ih fun z hz => h z (List.mem_cons_of_mem _ hz)
        simp only [List.map_cons, List.sum_cons, List.length_cons]
        omega
    rw [e0] at q
    exact Nat.le_trans q (by simpa using s)
  · have q := (mem_join "" c ys).mp hc
    rcases q with ⟨t, ht, hc⟩ | ⟨_, hc⟩
    · exact (h t ht).lo c hc
    · have e0 : (("" : Str)).cps.toList = [] := by decide +kernel
      rw [e0] at hc
      cases hc
mutual
theorem gd_lay : ∀ d : PyData, gd d = true → d.canLay0 = true
  | .none, _ => by simp only [PyData.canLay0]
  | .bool _, _ => by simp only [PyData.canLay0]
  | .int _, _ => by simp only [PyData.canLay0]
  | .str x, h => by
    simp only [gd, Bool.and_eq_true, List.all_eq_true, decide_eq_true_eq] at h
    simp only [PyData.canLay0, PyData.strOk, Array.all_eq_true]
    intro i hi
    exact decide_eq_true (Nat.lt_trans (h.2 _ (by simp)) (by decide))
  | .list ds, h => by
    simp only [PyData.canLay0]
    exact gds_lay ds (by simpa only [gd] using h)
  | .tuple ds, h => by
    simp only [PyData.canLay0]
    exact gds_lay ds (by simpa only [gd] using h)
  | .dict _, h => by simp [gd] at h
theorem gds_lay : ∀ ds : List PyData, gds ds = true → PyData.canLayAll0 ds = true
  | [], _ => by simp only [PyData.canLayAll0]
  | d :: ds, h => by
    simp only [gds, Bool.and_eq_true] at h
    simp only [PyData.canLayAll0, gd_lay d h.1, gds_lay ds h.2, Bool.and_self]
end
theorem shaped_of {d : PyData} (h : gd d = true) (hd : d.depth ≤ 64) : SeqAt.shaped d = true := by
  show (d.canLay0 && decide (d.depth ≤ 64)) = true
  rw [gd_lay d h, decide_eq_true hd]
  rfl
theorem Box.notin {H : Hp} {p g a : Addr} (b : Box H p g) (h : H a = none) : a ∉ [p, g] := by
  obtain ⟨n, s, t, gs, h1, h2, _⟩ := b.ex
  intro z
  rcases List.mem_cons.mp z with e | z
  · rw [e, h1] at h
    cases h
  · rcases List.mem_cons.mp z with e | z
    · rw [e, h2] at h
      cases h
    · cases z
/-- all of these are tracked -/
def Tr (l : List Addr) (H : Hp) : Prop := ∀ b ∈ l, H b ≠ none
theorem off_new {l : List Addr} {H H' : Hp} {a : Addr} {o : HO} (h : Off l H H') (n : a ∉ l) (hn : H a = none) : Off l H (upd H' a o) := by
  intro b u e
  obtain ⟨nb, e⟩ := cut_some e
  rw [cut_out nb, upd_ne (ne_of_none e hn)]
  exact h.get e nb
theorem Box.put {H : Hp} {p g a : Addr} {o : HO} (b : Box H p g) (n : a ∉ [p, g]) : Box (upd H a o) p g := by
  obtain ⟨x, s, t, gs, h1, h2, h3⟩ := b.ex
  exact ⟨x, s, t, gs, by rw [upd_ne (fun z => n (by simp [← z]))]; exact h1, by rw [upd_ne (fun z => n (by simp [← z]))]; exact h2, h3⟩
theorem few {n : Nat} (h : n ≤ 1000) : n ≤ sizeLine := Nat.le_of_lt (small1000 h)
theorem cut_new {l : List Addr} {H : Hp} {a : Addr} {o : HO} (h : H a = none) : Same (cut l H) (cut l (upd H a o)) := Off.of (same_new h o)
theorem Tr.go {l m : List Addr} {H H' : Hp} (t : Tr l H) (o : Off m H H') (hm : ∀ b ∈ m, H' b ≠ none) : Tr l H' := fun b hb => by
  by_cases e : b ∈ m
  · exact hm b e
  · intro z
    exact t b hb (o.free z e)
theorem Box.tr {H : Hp} {p g : Addr} (b : Box H p g) : H p ≠ none ∧ H g ≠ none := by
  obtain ⟨x, s, t, gs, h1, h2, _⟩ := b.ex
  constructor
  · rw [h1]
    exact fun z => nomatch z
  · rw [h2]
    exact fun z => nomatch z
theorem ne_mem {l : List Addr} {a b : Addr} (n : a ∉ l) (h : b ∈ l) : b ≠ a := fun e => n (by rw [← e]; exact h)
theorem few2 {n : Nat} (h : n ≤ 100000) : n ≤ sizeLine := Nat.le_trans h (by decide)
theorem Tr.out {l : List Addr} {H : Hp} (t : Tr l H) {a : Addr} (h : H a = none) : a ∉ l := fun z => t a z h
theorem Tr.same {l : List Addr} {H H' : Hp} (t : Tr l H) (s : Same H H') : Tr l H' := fun b hb z => by
  cases q : H b with
  | none => exact t b hb q
  | some o =>
    rw [s b o q] at z
    cases z
theorem seqT_cut {K : PySem.W.Frag} {l : List Addr} {H : Hp} {a : Addr} {xs : List V} (h : SqT K (cut l H) a xs) : SqT K H a xs := seqT_up (cut_same l H) h
theorem cutV_all (xs : List V) (lo hi : Option Int) (h : HT.sIx xs.length 0 lo = 0 ∧ HT.sIx xs.length xs.length hi = xs.length) : cutV xs lo hi = xs := by
  unfold cutV
  rw [h.1, h.2]
  simp
/-- t + u, what comes of it, apart from the addresses l -/
def rCatU (K : PySem.W.Frag) : R2 := fun x y H Q => ∃ a b xs ys l, x = .ref a ∧ y = .ref b ∧ SqT K (cut l H) a xs ∧ SqT K (cut l H) b ys ∧ Tr l H ∧ xs.length + ys.length ≤ sizeLine ∧
  ∀ c H', Same H H' → SqT K (cut l H') c (xs ++ ys) → Q (.ref c) H'
theorem op_catU {X : Cx} : OpR X (binaryOp .Add) (rCatU X.K) := by
  intro pins s σ H x y v u Q I rx ry h
  obtain ⟨a, b, xs, ys, l, rfl, rfl, ha, hb, tl, hz, q⟩ := h
  refine op_catA pins s σ H _ _ v u Q I rx ry ⟨a, b, xs, ys, rfl, rfl, seqT_cut ha, seqT_cut hb, hz, ?_, ?_, ?_⟩
  · intro e
    exact q b H (Same.refl H) (by rw [e]; exact hb)
  · intro _ e
    exact q a H (Same.refl H) (by rw [e, List.append_nil]; exact ha)
  · intro _ _ c hc
    exact q c _ (same_new hc _) (.inl (.inl (by rw [cut_out (tl.out hc)]; exact upd_same)))
def rSlU (K : PySem.W.Frag) : V → Option Int → Option Int → Hp → VK → Prop := fun x lo hi H Q => ∃ a xs l, x = .ref a ∧ SqT K (cut l H) a xs ∧ Tr l H ∧
  ∀ c H', Same H H' → SqT K (cut l H') c (cutV xs lo hi) → Q (.ref c) H'
theorem sl_tupU {X : Cx} : SlR X (rSlU X.K) := by
  intro pins s σ H x v vl vu lo hi sl Q I rx hs pl pu h
  obtain ⟨a, xs, l, rfl, ha, tl, q⟩ := h
  refine sl_tupA pins s σ H _ v vl vu lo hi sl Q I rx hs pl pu ⟨a, xs, rfl, seqT_cut ha, ?_, ?_⟩
  · intro e
    exact q a H (Same.refl H) (by rw [cutV_all xs lo hi e]; exact ha)
  · intro _ c hc
    exact q c _ (same_new hc _) (.inl (.inl (by rw [cut_out (tl.out hc)]; exact upd_same)))
theorem cutV_take (xs : List V) {r : Int} (h0 : 0 ≤ r) (h : r ≤ (xs.length : Int)) : cutV xs none (some r) = xs.take r.toNat := by
  obtain ⟨n, rfl⟩ := Int.eq_ofNat_of_zero_le h0
  unfold cutV
  rw [HT.sIx_none, HT.sIx_nat]
  have : min n xs.length = n := by omega
  rw [this]
  rfl
theorem cutV_drop (xs : List V) {r : Int} (h0 : 0 ≤ r) (h : r ≤ (xs.length : Int)) : cutV xs (some r) none = xs.drop r.toNat := by
  obtain ⟨n, rfl⟩ := Int.eq_ofNat_of_zero_le h0
  unfold cutV
  rw [HT.sIx_none, HT.sIx_nat]
  have : min n xs.length = n := by omega
  rw [this]
  exact List.take_of_length_le (by rw [List.length_drop]; exact Nat.le_refl _)
/-! errors under KeyError, too: what the base says -/
abbrev keT : List Value := [.type "KeyError", .type "LookupError", .type "Exception", .type "BaseException", .type "object"]
abbrev veT : List Value := [.type "ValueError", .type "Exception", .type "BaseException", .type "object"]
theorem ke_pass (self : Value) : refuseLoop self "__setattr__" keT = pure () := by kernel_rfl
theorem ve_pass (self : Value) : refuseLoop self "__setattr__" veT = pure () := by kernel_rfl
/-- own classes, then T -/
def tlB (T : List Value) : List Value → Bool
  | .ref _ :: r => tlB T r
  | l => l == T
theorem tl_cases (T : List Value) : ∀ l : List Value, tlB T l = true → (∃ c r, l = .ref c :: r ∧ tlB T r = true) ∨ l = T
  | [], e => .inr (beq_iff_eq.mp e)
  | .ref c :: r, e => .inl ⟨c, r, rfl, e⟩
  | .none :: _, e => .inr (beq_iff_eq.mp e)
  | .ellipsis :: _, e => .inr (beq_iff_eq.mp e)
  | .notImplemented :: _, e => .inr (beq_iff_eq.mp e)
  | .bool _ :: _, e => .inr (beq_iff_eq.mp e)
  | .int _ _ :: _, e => .inr (beq_iff_eq.mp e)
  | .float _ _ :: _, e => .inr (beq_iff_eq.mp e)
  | .str _ _ :: _, e => .inr (beq_iff_eq.mp e)
  | .bytes _ _ :: _, e => .inr (beq_iff_eq.mp e)
  | .type _ :: _, e => .inr (beq_iff_eq.mp e)
  | .builtin _ :: _, e => .inr (beq_iff_eq.mp e)
section
variable {T : List Value}
theorem tl_ind {P : List Value → Prop} (h0 : P T) (hs : ∀ c r, P r → P (.ref c :: r)) : ∀ l : List Value, tlB T l = true → P l := by
  intro l
  induction l with
  | nil =>
    intro e
    rcases tl_cases T [] e with ⟨c, r, q, _⟩ | q
    · cases q
    · rw [q]
      exact h0
  | cons a r ih =>
    intro e
    rcases tl_cases T (a :: r) e with ⟨c, r', q, h⟩ | q
    · obtain ⟨rfl, rfl⟩ := List.cons.inj q
      exact hs _ _ (ih h)
    · rw [q]
      exact h0
theorem tl_pass (self : Value) (h0 : refuseLoop self "__setattr__" T = pure ()) : ∀ l : List Value, tlB T l = true → refuseLoop self "__setattr__" l = pure () :=
  tl_ind h0 fun c r ih => by
    rw [refuseLoop_ref]
    exact ih
theorem tl_has (x : String) : ∀ l : List Value, tlB T l = true → l.contains (.type x) = T.contains (.type x) :=
  tl_ind rfl fun c r ih => by
    rw [List.contains_cons, ih]
    rfl
theorem tl_ne (h0 : T.isEmpty = false) : ∀ l : List Value, tlB T l = true → l.isEmpty = false := tl_ind h0 fun c r ih => rfl
end
/-- what is said of the two bases: the id that makes, its owner, the rest of the order of classes -/
structure EBase (B newId initId : String) (bmF T : List Value) : Prop where
  F : ExcBaseFacts B newId initId bmF
  hasB : T.contains (.type B) = true
  noA : T.contains (.type "AttributeError") = false
  noN : T.contains (.type "NameError") = false
  ob : T.contains (.type "object") = true
  ne : T.isEmpty = false
  pass : ∀ self, refuseLoop self "__setattr__" T = pure ()
theorem eb_ve : EBase "ValueError" "ValueError.__new__" "ValueError.__init__" veT veT := ⟨PySem.F.excBase_ValueError, by decide +kernel, by decide +kernel, by decide +kernel, by decide +kernel, rfl, ve_pass⟩
theorem eb_ke : EBase "LookupError" "LookupError.__new__" "LookupError.__init__" [.type "LookupError", .type "Exception", .type "BaseException", .type "object"] keT := ⟨PySem.F.excBase_LookupError, by decide +kernel, by decide +kernel, by decide +kernel, by decide +kernel, rfl, ke_pass⟩
section
variable {M : Model} {A : Around} {E : Value → Shared → Prop} {h : Heap} {g : Array GenState} {d : Drawn} {t : Nat} {os : OsState}
variable {nm q : Str} {C N : Addr} {bs bm bmF T : List Value} {hdct : Bool} {sn : List Str} {sub : List Value} {ab : Bool} {col : Option Bool} {dd : Option Addr} {k0 k1 k2 k3 k5 : Option Value} {B newId initId : String}
theorem e_check (F : EBase B newId initId bmF T) (ht : tlB T bm = true) {rest : List Value} {kw : List (Str × Value)} {Q : Unit → Shared → Prop}
    (hC : h.get? C = some (excClassObj nm q C N bs bm hdct sn sub ab col dd k0 k1 k2 k3 k5 newId)) (hq : Q () ⟨h, g, d, t, os⟩) : wpAny M A (checkBuiltinCall newId ⟨.ref C :: rest, kw⟩) Q E ⟨h, g, d, t, os⟩ := by
  have hcont : (Value.ref C :: bm).contains (.type B) = true := by rw [List.contains_cons, tl_has B bm ht, F.hasB, Bool.or_true]
  have hstar := F.F.noStar
  simp only [checkBuiltinCall, F.F.newKind, F.F.newSplit, F.F.newRow]
  repeat (first | refine wpAny_loadPart_at hC ?_ | (refine wpAny_isSubtype_exc hC ?_; rw [hcont]) | refine wpAny_staticBase_exc hC ?_ | (refine wpAny_madeBy_exc hC ?_) | simp only [bne_self_eq_false, Bool.false_eq_true, if_false] | wp_step)
  exact hq
theorem e_checkT {rest : List Value} {kw : List (Str × Value)} {Q : Unit → Shared → Prop} (hC : h.get? C = some (excClassObj nm q C N bs bm hdct sn sub ab col dd k0 k1 k2 k3 k5 newId))
    (hq : Q () ⟨h, g, d, t, os⟩) : wpAny M A (checkBuiltinCall "type.__call__" ⟨.ref C :: rest, kw⟩) Q E ⟨h, g, d, t, os⟩ := by
  have f3 := tc_sub
  have hT : (⟨h, g, d, t, os⟩ : Shared).TypeIs (.ref C) "type" := ⟨_, hC, rfl⟩
  simp only [checkBuiltinCall, tc_kind, tc_split]
  repeat (any_goals (first | (assumption) | with_reducible refine wpAny_loadPart_at hC ?_ | with_reducible refine wpAny_onRaise ?_ | with_reducible refine wpAny_map ?_ | wp_step))
end
section
variable {prog : Program} {w : World} {A : Around} {E : Value → Shared → Prop} {R : Result → Shared → Prop} {h : Heap} {g : Array GenState} {d : Drawn} {t : Nat} {os : OsState}
variable {nm q : Str} {C N : Addr} {bs bm bmF T : List Value} {hdct : Bool} {sn : List Str} {sub : List Value} {ab : Bool} {col : Option Bool} {dd : Option Addr} {k0 k1 k2 k3 k5 : Option Value} {B newId initId : String}
theorem e_new (F : EBase B newId initId bmF T) (ht : tlB T bm = true) {rest : List Value} {kw : List (Str × Value)}
    (hC : h.get? C = some (excClassObj nm q C N bs bm hdct sn sub ab col dd k0 k1 k2 k3 k5 newId))
    (hq : R (.ok (.ret (.ref (h.objs.size + 1)))) ⟨(h.push (W.kdv_tup rest)).push (HandSPX.excO C h.objs.size), g, d, t, os⟩) (hrest : rest.length ≤ sizeLine) :
    codeAny (model prog w) A (.builtin newId ⟨.ref C :: rest, kw⟩) R ⟨h, g, d, t, os⟩ := by
  have hends := F.F.ends
  have hcB : (Value.ref C :: bm).contains (.type B) = true := by rw [List.contains_cons, tl_has B bm ht, F.hasB, Bool.or_true]
  have hcA : (Value.ref C :: bm).contains (.type "AttributeError") = false := by rw [List.contains_cons, tl_has _ bm ht, F.noA]; rfl
  have hcN : (Value.ref C :: bm).contains (.type "NameError") = false := by rw [List.contains_cons, tl_has _ bm ht, F.noN]; rfl
  refine codeAny_builtinAt F.F.entry ?_
  unfold Builtin.«BaseException.__new__»
  refine PySem.wpAt_bind ?_
  show PySem.wpAt _ _ _ (stack >>= _) _ _ _
  refine PySem.wpAt_bind (PySem.wpAt_stack (fun p below => PySem.wpAt_of_wpAny ?_))
  wp_walk
  refine PySem.wpAt_of_wpAny ?_
  rw [F.F.owner]
  repeat (first | with_reducible refine wpAny_madeHere_exc F.F.canon hC ?_ | with_reducible refine wpAny_loadPart_at hC ?_ | (with_reducible refine wpAny_isSubtype_exc hC ?_; first | rw [hcB] | rw [hcA] | rw [hcN]) | wp_step)
  show R _ _
  rw [Heap.size_push]
  exact hq
theorem e_tcall (F : EBase B newId initId bmF T) (ht : tlB T bm = true) {rest : List Value} {kw : List (Str × Value)} {fI : Addr} {Q : Fin → Shared → Prop}
    (hC : h.get? C = some (excClassObj nm q C N bs bm hdct sn sub ab col dd k0 k1 k2 k3 k5 newId))
    (hi : W.Looks (model prog w) h (typeLookup (.ref C) "__init__") (some (.ref fI))) (hb : ∀ self, W.Looks (model prog w) h (bindSpecial (.ref fI) self) (.ref fI, [self])) (hrest : rest.length ≤ sizeLine)
    (hq : codeAny (model prog w) A (.call (.ref fI) ⟨.ref (h.objs.size + 1) :: rest, kw⟩)
      (fun r s' => match r with | .ok (.ret v) => v = .none ∧ Q (.done (.ret (.ref (h.objs.size + 1)))) s' | .ok _ => False | .error e => E e s')
      ⟨(h.push (W.kdv_tup rest)).push (HandSPX.excO C h.objs.size), g, d, t, os⟩) :
    wpAny (model prog w) A (Builtin.«type.__call__» ⟨.ref C :: rest, kw⟩) Q E ⟨h, g, d, t, os⟩ := by
  repeat (first | with_reducible refine wpAny_loadPart_at hC ?_ | with_reducible refine wpAny_madeBy_exc hC ?_ | wp_step)
  refine codeAny_call_builtin_code (Code.quiet_builtin _ F.F.quiet) (e_check F ht hC ?_)
  refine e_new F ht hC ?_ hrest
  show wpAny _ _ _ _ _ _
  have k : ∀ b o, h.get? b = some o → ((h.push (W.kdv_tup rest)).push (HandSPX.excO C h.objs.size)).get? b = some o := fun b o e => Heap.get?_push_of_some _ (Heap.get?_push_of_some _ e)
  have hC₁ := k _ _ hC
  have hget : ((h.push (W.kdv_tup rest)).push (HandSPX.excO C h.objs.size)).get? (h.objs.size + 1) = some (HandSPX.excO C h.objs.size) := by heap_get
  have hcC : (Value.ref C :: bm).contains (.ref C) = true := by simp
  have i1 := hi.keeps k
  have b1 := (hb (.ref (h.objs.size + 1))).keeps k
  unfold isInstance
  repeat (first | with_reducible refine wpAny_loadPart_at hget ?_ | (with_reducible refine wpAny_isSubtype_exc hC₁ ?_; (rw [hcC])) | wp_step)
  show wpAny _ _ (typeLookup (.ref C) _) _ _ _
  refine i1.at ?_
  refine wpAny_holding (wpAny_bind (b1.at ?_))
  refine wpAny_bind (wpAny_call (codeAny_mono hq (fun r s' z => ?_)))
  rcases r with e | (v | _ | _ | _) <;> first | exact z | exact z.elim | skip
  obtain ⟨rfl, z⟩ := z
  first
    | exact wpAny_pure (wpAny_pure z)
    | (wp_walk; exact z)
theorem e_call (F : EBase B newId initId bmF T) (ht : tlB T bm = true) {rest : List Value} {kw : List (Str × Value)} {fI : Addr}
    (hC : h.get? C = some (excClassObj nm q C N bs bm hdct sn sub ab col dd k0 k1 k2 k3 k5 newId))
    (hi : W.Looks (model prog w) h (typeLookup (.ref C) "__init__") (some (.ref fI))) (hb : ∀ self, W.Looks (model prog w) h (bindSpecial (.ref fI) self) (.ref fI, [self])) (hrest : rest.length ≤ sizeLine)
    (hq : codeAny (model prog w) (A.under (.builtin "type.__call__" ⟨.ref C :: rest, kw⟩)) (.call (.ref fI) ⟨.ref (h.objs.size + 1) :: rest, kw⟩) (W.InitBack (h.objs.size + 1) R)
      ⟨(h.push (W.kdv_tup rest)).push (HandSPX.excO C h.objs.size), g, d, t, os⟩) :
    codeAny (model prog w) A (.call (.ref C) ⟨rest, kw⟩) R ⟨h, g, d, t, os⟩ := by
  have f1 := tc_lookup
  have f2 := tc_bind (.ref C)
  have hTy : (⟨h, g, d, t, os⟩ : Shared).TypeIs (.ref C) "type" := ⟨_, hC, rfl⟩
  refine codeAny_of_tree ?_
  show wpAny _ _ (callAny (.ref C) _) _ _ _
  repeat (any_goals (first | assumption | with_reducible refine wpAny_loadPart_at hC ?_ | wp_step))
  refine ⟨rfl, ?_⟩
  refine codeAny_call_builtin_at (Code.quiet_builtin _ (by decide +kernel)) entry_typeCall (e_checkT hC (e_tcall F ht hC hi hb hrest ?_))
  refine codeAny_mono hq (fun r s' z => ?_)
  rcases r with e | (v | _ | _ | _) <;> exact z
end
/-! errors under ValueError or KeyError, with an __init__ of their own: made, kept as values, looked at -/
section
open PySem.W PySem.Calls
variable {prog : Program} {w : World} {A : Around} {E : Value → Shared → Prop} {R : Result → Shared → Prop} {hp : Heap} {g : Array GenState} {d : Drawn} {t : Nat} {os : OsState}
theorem e_osa {K : W.Frag} {name : Str} {tk : Tok} {v : Value} {x C : Addr} {fv : Array Value} {cd : ClassData} (X : K.In hp) (hx : hp.get? x = some { cls := .ref C, data := .fields fv }) (hcd : W.clsIn K C = some cd)
    (hps : ∀ self, refuseLoop self "__setattr__" cd.mro = pure ()) (ne : cd.mro.isEmpty = false) (hob : cd.mro.contains (.type "object") = true) (hh : cd.hasDict = true) (ha : W.findIn K (.ref C) name = some none)
    (hq : ∀ h' tk' dx, (∀ b o, b ≠ x → hp.get? b = some o → h'.get? b = some o) → hp.objs.size ≤ dx → dx ≠ x → h'.get? x = some { cls := .ref C, dict := some dx, data := .fields fv } →
      h'.Ns1 dx (fun y => if y = name then some v else none) → R (.ok (.ret .none)) ⟨h', g, d, tk', os⟩) :
    codeAny (model prog w) A (.call (.builtin "object.__setattr__") ⟨[.ref x, .str name tk, v], []⟩) R ⟨hp, g, d, t, os⟩ := by
  have I : W.InstAt hp x { cls := .ref C, data := .fields fv } C none := ⟨hx, rfl, rfl, trivial⟩
  have SF := F.store_object
  have hxs : x ≠ hp.objs.size := Nat.ne_of_lt (Heap.lt_size hx)
  have sub : W.Looks (model prog w) hp (isInstance (.ref x) (.type "object")) true := I.type.andThen (W.looks_mroIn X (by unfold W.mroIn; rw [hcd, Option.bind_some, if_neg (by rw [ne]; decide), hob]))
  refine codeAny_call_builtin SF.slot.plain SF.entry (@W.check_slot (model prog w) _ _ ⟨hp, g, d, t, os⟩ "object.__setattr__" "object" "__setattr__" (.ref x) [.str name tk, v] [] _ SF.kind SF.split sub (SF.args (.ref x) (.str name tk) v) ?_)
  have hmr : W.Looks (model prog w) hp (mroOf (.ref C)) cd.mro := (W.looks_clsIn X hcd).andThen .now
  have L3 : W.Looks (model prog w) hp (Builtin.ObjectAttr.storeTaker? none) none := .now
  have hcls : W.Looks (model prog w) hp (classData C) cd := W.looks_clsIn X hcd
  rw [W.osa_eq, refuse_eq]
  refine wpAny_bind (wpAny_bind (I.type.at (wpAny_bind (hmr.at ?_))))
  rw [hps]
  refine wpAny_pure (wpAny_bind (I.type.at (wpAny_bind ((W.looks_findIn X ha).at (wpAny_bind (L3.at ?_))))))
  show wpAny _ _ (Builtin.ObjectAttr.storeInOwnDict (.ref x) (.ref C) (.str name tk) name v false) _ _ _
  obtain ⟨nm, bs, mro, ns, qn, hd, sn, sb, ab, col, del⟩ := cd
  dsimp only at hh
  subst hh
  unfold Builtin.ObjectAttr.storeInOwnDict Builtin.ObjectAttr.ownDictForStores
  repeat (first | with_reducible refine HandSPX.store_in_new ?_ ?_ | with_reducible refine wpAny_loadPart_at hx ?_ | with_reducible refine hcls.at ?_ | wp_step)
  · exact ⟨_, #[], _, (Heap.get?_update_ne _ _ _ _ hxs.symm).trans (Heap.get?_push_at rfl rfl), rfl, (fun e he => absurd he (by simp)), fun _ => rfl⟩
  · intro h' tk' hn' hs
    have hx₁ : (hp.push { cls := .type "dict", data := .dict #[] }).get? x = some { cls := .ref C, data := .fields fv } := Heap.get?_push_of_some _ hx
    refine hq h' tk' hp.objs.size (fun b o hb ho => ?_) (Nat.le_refl _) hxs.symm ?_ hn'
    · exact (hs.2 b (Nat.ne_of_lt (Heap.lt_size ho))).trans ((Heap.get?_update_ne _ _ _ _ hb).trans (Heap.get?_push_of_some _ ho))
    · exact (hs.2 x hxs).trans (Heap.get?_update_self _ hx₁ rfl)
theorem e_osb {K : W.Frag} {name : Str} {tk : Tok} {v : Value} {x C dx : Addr} {fv : Array Value} {cd : ClassData} {m0 : Str → Option Value} {nl : List Str} (X : K.In hp) (hx : hp.get? x = some { cls := .ref C, dict := some dx, data := .fields fv })
    (hns : hp.Ns1 dx m0) (hw : Within m0 nl) (hz : nl.length ≤ 1000) (hcd : W.clsIn K C = some cd)
    (hps : ∀ self, refuseLoop self "__setattr__" cd.mro = pure ()) (ne : cd.mro.isEmpty = false) (hob : cd.mro.contains (.type "object") = true) (hh : cd.hasDict = true) (ha : W.findIn K (.ref C) name = some none)
    (hq : ∀ h' tk', (∀ b o, b ≠ dx → hp.get? b = some o → h'.get? b = some o) → h'.Ns1 dx (fun y => if y = name then some v else m0 y) → R (.ok (.ret .none)) ⟨h', g, d, tk', os⟩) :
    codeAny (model prog w) A (.call (.builtin "object.__setattr__") ⟨[.ref x, .str name tk, v], []⟩) R ⟨hp, g, d, t, os⟩ := by
  obtain ⟨oD, esD, epD, hoD, hdD, _⟩ := hns.count hw
  have I : W.InstAt hp x { cls := .ref C, dict := some dx, data := .fields fv } C (some oD) := ⟨hx, rfl, rfl, hoD⟩
  have SF := F.store_object
  have sub : W.Looks (model prog w) hp (isInstance (.ref x) (.type "object")) true := I.type.andThen (W.looks_mroIn X (by unfold W.mroIn; rw [hcd, Option.bind_some, if_neg (by rw [ne]; decide), hob]))
  refine codeAny_call_builtin SF.slot.plain SF.entry (@W.check_slot (model prog w) _ _ ⟨hp, g, d, t, os⟩ "object.__setattr__" "object" "__setattr__" (.ref x) [.str name tk, v] [] _ SF.kind SF.split sub (SF.args (.ref x) (.str name tk) v) ?_)
  have hmr : W.Looks (model prog w) hp (mroOf (.ref C)) cd.mro := (W.looks_clsIn X hcd).andThen .now
  have L3 : W.Looks (model prog w) hp (Builtin.ObjectAttr.storeTaker? none) none := .now
  have hcls : W.Looks (model prog w) hp (classData C) cd := W.looks_clsIn X hcd
  rw [W.osa_eq, refuse_eq]
  refine wpAny_bind (wpAny_bind (I.type.at (wpAny_bind (hmr.at ?_))))
  rw [hps]
  refine wpAny_pure (wpAny_bind (I.type.at (wpAny_bind ((W.looks_findIn X ha).at (wpAny_bind (L3.at ?_))))))
  show wpAny _ _ (Builtin.ObjectAttr.storeInOwnDict (.ref x) (.ref C) (.str name tk) name v false) _ _ _
  obtain ⟨nm, bs, mro, ns, qn, hd, sn, sb, ab, col, del⟩ := cd
  dsimp only at hh
  subst hh
  unfold Builtin.ObjectAttr.storeInOwnDict Builtin.ObjectAttr.ownDictForStores
  repeat (first | with_reducible refine OEX.store_in_old hns hw hz ?_ | with_reducible refine wpAny_loadPart_at hx ?_ | with_reducible refine hcls.at ?_ | wp_step)
  intro h' tk' hn' hs
  exact hq h' tk' (fun b o hb ho => (hs.2 b hb).trans ho) hn'
end
/-- what the written part says of an own error class that has an __init__ -/
structure ExK (K : PySem.W.Frag) (C : Addr) : Prop where
  cls : ∃ B newId initId bmF T nm q N bs bm sn sub ab col dd k0 k1 k2 k3 k5, EBase B newId initId bmF T ∧ K.lookup C = some (excClassObj nm q C N bs bm true sn sub ab col dd k0 k1 k2 k3 k5 newId) ∧ tlB T bm = true
  sa : PySem.W.findIn K (.ref C) "__setattr__" = some (some (.builtin "object.__setattr__"))
  exC : PySem.W.subIn K (.ref C) (.type "BaseException") = some true
  tyC : PySem.W.typeIn K (.ref C) = some (.type "type")
  kC : PySem.W.keepIn K (.ref C) = true
theorem ExK.cd {K : PySem.W.Frag} {C : Addr} (T : ExK K C) : ∃ cd, PySem.W.clsIn K C = some cd ∧ (∀ self, refuseLoop self "__setattr__" cd.mro = pure ()) ∧ cd.mro.isEmpty = false ∧ cd.mro.contains (.type "object") = true ∧ cd.hasDict = true := by
  obtain ⟨B, newId, initId, bmF, T0, nm, q, N, bs, bm, sn, sub, ab, col, dd, k0, k1, k2, k3, k5, F, hC, hbm⟩ := T.cls
  have h2 : tlB T0 (.ref C :: bm) = true := hbm
  exact ⟨{ name := nm, bases := bs, mro := .ref C :: bm, ns := N, qualname := q, hasDict := true, slotNames := sn, subclasses := sub, abstract := ab, collection := col, hasDel := false }, by (unfold PySem.W.clsIn; rw [hC] <;> rfl),
    fun self => tl_pass self (F.pass self) _ h2, rfl, (tl_has "object" _ h2).trans F.ob, rfl⟩
section
variable {X : Cx} {pins : List (Addr × Obj)} {σ : L2.St} {H : Hp} {s : Shared} {a C dx : Addr} {f : Str} {y : V} {u : Value} {fs : List (Str × V)} {Q : Unit → Shared → Prop} {E : Value → Shared → Prop} {A : Around}
/-- the first attribute -/
theorem e_st1 (T : ExK X.K C) (I : Inv X pins σ H s) (e : H a = some (exo a C none)) (hno : PySem.W.findIn X.K (.ref C) f = some none) (ry : RelV y u)
    (h : ∀ dx s', H dx = none → dx ≠ a → Inv X pins σ (upd (upd H dx (exd dx [(f, y)])) a (exo a C (some dx))) s' → Q () s') : wpAny (model X.prog X.w) A (setAttr (.ref a) f u) Q E s := by
  obtain ⟨cd, hcl, hp0, hne, hob, hdc⟩ := T.cd
  obtain ⟨t1, ho⟩ := exo_at I.hok e
  obtain ⟨hp, g, d, t, os⟩ := s
  refine PySem.W.set_plain I.kIn (ox := { cls := .ref C, dict := none, data := .fields #[.ref t1, .none, .none, .none, .bool false, .none] }) (od := none) ⟨ho, rfl, rfl, trivial⟩ T.sa ?_
  refine e_osa I.kIn ho hcl hp0 hne hob hdc hno (fun h' tk' dx k dn dne hx hn => ?_)
  have hnd : H dx = none := I.hok.fresh dn
  have nd : ∀ {b : Addr} {o : Obj}, hp.get? b = some o → b ≠ dx := fun {b o} q => Nat.ne_of_lt (Nat.lt_of_lt_of_le (Heap.lt_size q) dn)
  have na : ∀ {b : Addr}, H b = none → b ≠ a := fun {b} n z => by
    rw [z, e] at n
    cases n
  have Un1 : Un X.fs [] H (upd (upd H dx (exd dx [(f, y)])) a (exo a C (some dx))) hp h' := ⟨fun b o q n _ _ => k b o (na n) q, fun b o q n _ _ => ⟨o.slots, k b o (na n) q⟩,
    fun b o q n _ => by (rw [upd_ne (na n), upd_ne (nd q)]; exact n),
    fun b o q _ => by
      by_cases hb : b = a
      · exact ⟨_, by (rw [hb]; exact hx)⟩
      · exact ⟨o, k b o hb q⟩,
    fun b xs q => by (rw [upd_ne (at_ne e q exo_tup), upd_ne (ne_of_none q hnd)]; exact q),
    fun b o v q => by (rw [upd_ne (at_ne e q exo_frz), upd_ne (ne_of_none q hnd)]; exact q),
    fun b ps q => ⟨#[], by (rw [upd_ne (at_ne e q exo_tbl), upd_ne (ne_of_none q hnd), q]; simp)⟩⟩
  refine h dx _ hnd dne (I.un (t' := tk') Un1 (fun b o q => ?_))
  by_cases hb : b = a
  · subst hb
    rw [upd_same] at q
    cases q
    exact exo_ok hx
  · rw [upd_ne hb] at q
    by_cases hd : b = dx
    · subst hd
      rw [upd_same] at q
      cases q
      exact exd_ok hn (relO_put (fs := []) ry (fun g => True.intro))
    · rw [upd_ne hd] at q
      refine (I.hok b o q).stay (fun c v hc z => k c v ?_ z) (fun c hc => ?_) (fun c xs hc => ?_)
      · rcases hc with hc | hc
        · rw [hc]
          exact hb
        · exact at_ne e hc exo_own
      · rw [upd_ne (at_ne e hc exo_own), upd_ne (ne_of_none hc hnd)]
        exact hc
      · rw [upd_ne (at_ne e hc exo_tup), upd_ne (ne_of_none hc hnd)]
        exact hc
/-- a further attribute -/
theorem e_st2 (T : ExK X.K C) (I : Inv X pins σ H s) (e : H a = some (exo a C (some dx))) (ed : H dx = some (exd dx fs)) (hl : fs.length ≤ 900) (hno : PySem.W.findIn X.K (.ref C) f = some none) (ry : RelV y u)
    (h : ∀ s', Inv X pins σ (upd H dx (exd dx ((f, y) :: fs))) s' → Q () s') : wpAny (model X.prog X.w) A (setAttr (.ref a) f u) Q E s := by
  obtain ⟨cd, hcl, hp0, hne, hob, hdc⟩ := T.cd
  obtain ⟨t1, ho⟩ := exo_at I.hok e
  obtain ⟨mA, hns, rel⟩ := exd_at I.hok ed
  have hw := within_of rel
  obtain ⟨hp, g, d, t, os⟩ := s
  obtain ⟨oD, _, _, hoD, _, _⟩ := hns.count hw
  refine PySem.W.set_plain I.kIn (ox := { cls := .ref C, dict := some dx, data := .fields #[.ref t1, .none, .none, .none, .bool false, .none] }) (od := some oD) ⟨ho, rfl, rfl, hoD⟩ T.sa ?_
  refine e_osb I.kIn ho hns hw (by (rw [List.length_map]; omega)) hcl hp0 hne hob hdc hno (fun h' tk' k hn => ?_)
  have hd : ∃ o, h'.get? dx = some o := by
    obtain ⟨o, _, _, e', _⟩ := hn
    exact ⟨o, e'⟩
  exact h _ (I.write (t' := tk') (x := dx) (e := dx) (o := exd dx ((f, y) :: fs)) (by rw [ed]; exact True.intro) (.inl rfl) k hd (exd_ok hn (relO_put ry rel)))
end
/-- self.f = e -/
def tOsK (K : PySem.W.Frag) (f : Str) (to te : TE) : TS := fun D σ H => te σ H fun y H1 => to σ H1 fun x H2 => ∃ a C : Addr, x = .ref a ∧ ExK K C ∧ PySem.W.findIn K (.ref C) f = some none ∧
  ((H2 a = some (exo a C none) ∧ ∀ dx, H2 dx = none → dx ≠ a → D.nx σ (upd (upd H2 dx (exd dx [(f, y)])) a (exo a C (some dx)))) ∨
    ∃ (dx : Addr) (fs : List (Str × V)), H2 a = some (exo a C (some dx)) ∧ H2 dx = some (exd dx fs) ∧ fs.length ≤ 900 ∧ D.nx σ (upd H2 dx (exd dx ((f, y) :: fs))))
/-- C(e, ..), kept as a value -/
def tMkE (C : Addr) (sp : Sp) (ta : TA) : TE := fun σ H Q => ta σ H fun vs H1 => vs.length ≤ 900 ∧ ∀ a, H1 a = none → sp (.ref a :: vs) (upd H1 a (exo a C none)) (fun v H2 => v = .non ∧ Q (.ref a) H2) fun _ _ _ => False
/-- C(k = v, ..) -/
def tMkEK (C : Addr) (m : Nat) (sp : Sp) (gV : List V → List V → List V) (tk : TA) : TE := fun σ H Q => tk σ H fun zs H1 => zs.length = m ∧ ∀ a, H1 a = none → sp (gV [.ref a] zs) (upd H1 a (exo a C none)) (fun v H2 => v = .non ∧ Q (.ref a) H2) fun _ _ _ => False
section
variable {X : Cx} {CX : CXT} {k : Nat} {C fI : Addr} {fd : FuncData} {ps ks : List Str} {sp : Sp} {o e : Expr} {es : List Expr} {to te : TE} {ta tk : TA} {f x : Str} {p p' pos : Pos} {g : List Value → List Value → List Value} {gV : List V → List V → List V} {kws : List Keyword}
theorem ps_osK (ho : PE X o to) (he : PE X e te) (hs : swapsWith e (some (.Attribute o f p')) pos.line X.env = pure false := by rfl) : PS X (.Assign [.Attribute o f p'] e pos) (tOsK X.K f to te) := by
  refine ⟨fun pins s σ H D I h => ?_⟩
  refine plainObj_wpAny_Assign_Attribute (thn (he.run pins s σ H _ I h) fun v s1 ⟨y, H1, I1, r1, q1⟩ => thn (ho.run pins s1 σ H1 _ I1 q1) fun u s2 ⟨x, H2, I2, r2, a, C, ex, T, hno, q⟩ => ?_) hs
  subst ex
  obtain rfl : u = Value.ref a := r2
  rcases q with ⟨ea, q⟩ | ⟨dx, fs, ea, ed, hl, q⟩
  · exact e_st1 T I2 ea hno r1 (fun dx s' n ne J => ⟨σ, _, J, q dx n ne⟩)
  · exact e_st2 T I2 ea ed hl hno r1 (fun s' J => ⟨σ, _, J, q⟩)
/-- the class is called -/
theorem run_mkE {pins : List (Addr × Obj)} {σ : L2.St} {H : Hp} {s : Shared} {Q : VK} {us : List Value} {kw : List (Str × Value)} {xs : Addr → List Value} {vs : Addr → List V} (T : ExK X.K C) (iC : PySem.W.findIn X.K (.ref C) "__init__" = some (some (.ref fI)))
    (tI : PySem.W.typeIn X.K (.ref fI) = some (.type "function")) (F1 : FnOk X.prog X.w X.K X.mg X.base CX k fI fd ps sp) (hr : Room (k + 1) X.A) (hx : Passes CX X (fun _ _ _ => False)) (I : Inv X pins σ H s) (hus : us.length ≤ 900)
    (hb : ∀ (s' : Shared) a, X.K.In s'.heap → BindsTo s' fd ⟨.ref a :: us, kw⟩ (ps.zip (xs a))) (r : ∀ a, Vals (vs a) (xs a))
    (h : ∀ a, H a = none → sp (vs a) (upd H a (exo a C none)) (fun v H2 => v = .non ∧ Q (.ref a) H2) fun _ _ _ => False) : wpAny (model X.prog X.w) X.A (call (.ref C) us kw) (EP X pins σ Q) X.xe s := by
  obtain ⟨B, newId, initId, bmF, T0, nm, q, N, bs, bm, sn, sub, ab, col, dd, k0, k1, k2, k3, k5, F, hC, hbm⟩ := T.cls
  obtain ⟨hp, g, dr, tk, os⟩ := s
  have hsz : hp.objs.size ≤ hp.objs.size + 1 := Nat.le_succ _
  have hn : H (hp.objs.size + 1) = none := I.hok.fresh hsz
  have hq := h (hp.objs.size + 1) hn
  have kk : ∀ b o, hp.get? b = some o → ((hp.push (PySem.W.kdv_tup us)).push (PySem.HandSPX.excO C hp.objs.size)).get? b = some o := fun b o e => Heap.get?_push_of_some _ (Heap.get?_push_of_some _ e)
  have hget : ((hp.push (PySem.W.kdv_tup us)).push (PySem.HandSPX.excO C hp.objs.size)).get? (hp.objs.size + 1) = some (PySem.HandSPX.excO C hp.objs.size) := by heap_get
  have I2 : Inv X pins σ (upd H (hp.objs.size + 1) (exo (hp.objs.size + 1) C none)) ⟨(hp.push (PySem.W.kdv_tup us)).push (PySem.HandSPX.excO C hp.objs.size), g, dr, tk, os⟩ :=
    I.laid (t' := tk) (a := hp.objs.size + 1) (o := exo (hp.objs.size + 1) C none) (h' := (hp.push (PySem.W.kdv_tup us)).push (PySem.HandSPX.excO C hp.objs.size)) kk hsz (exo_ok hget)
  refine wpAny_call (e_call F hbm (I.kIn _ _ hC) (PySem.W.looks_findIn I.kIn iC) (fun self => PySem.W.bind_fn I.kIn self tI) (by (rw [sizeLine_eq]; omega))
    (codeAny_mono (F1.run _ X.stack _ _ ⟨Value.ref (hp.objs.size + 1) :: us, kw⟩ (xs (hp.objs.size + 1)) _ _ (fun _ _ _ => False) (hr.make C us kw) (I2.env0.make C us kw) (hb _ _ I2.kIn) (r _) hq) fun r s' hq' => ?_))
  cases r with
  | error er => exact hx pins σ _ _ er s' I2 hq'
  | ok fl =>
    cases fl with
    | ret u =>
      obtain ⟨v, H', I3, rv, ev, q3⟩ := I2.after hq'
      subst ev
      exact ⟨rv, ⟨V.ref (hp.objs.size + 1), H', I3, rfl, q3⟩⟩
    | next => exact False.elim hq'
    | brk => exact False.elim hq'
    | cont => exact False.elim hq'
theorem pe_mkE (T : ExK X.K C) (iC : PySem.W.findIn X.K (.ref C) "__init__" = some (some (.ref fI))) (tI : PySem.W.typeIn X.K (.ref fI) = some (.type "function")) (F1 : FnOk X.prog X.w X.K X.mg X.base CX k fI fd ps sp) (hr : Room (k + 1) X.A)
    (hb : Binds X.K fd ps []) (hx : Passes CX X (fun _ _ _ => False)) (hg : Gl X x) (hm : X.mg x = some (.ref C)) (ha : PA X (e :: es) ta)
    (hdb : (x == ("__debug__" : Str)) = false := by decide) (he : starEach (e :: es) X.env = (false, eval e X.env) :: starEach es X.env := by rfl) (hpl : (backTo pos (starEach es X.env)).any (·.1) = false := by rfl) :
    PE X (.Call (.Name x p) (e :: es) [] pos) (tMkE C sp ta) := by
  refine ⟨fun pins s σ H Q I h => ?_⟩
  refine wpAny_Call_Name_kw (ld_glob I hg hm ?_ hdb)
  refine PySem.W.callWith_K (h₀ := X.base) I.ok.mod.kin T.kC (thn (ha.run pos pins s σ H _ I h) fun us s1 ⟨vs, H1, I1, r1, hz, q1⟩ => ⟨I1.kIn, ?_⟩) he hpl
  show wpAny _ _ (call (.ref C) us) _ _ _
  have hl : us.length = vs.length := r1.length.symm
  refine run_mkE (xs := fun a => .ref a :: us) (vs := fun a => .ref a :: vs) T iC tI F1 hr hx I1 (by (rw [hl]; exact hz)) (fun s' a Y => ?_) (fun a => .cons rfl r1) q1
  have n1 : (Value.ref a :: us ++ []).length = ps.length := by
    have e := F1.len _ _ _ _ (q1 (s1.heap.objs.size + 1) (I1.hok.fresh (Nat.le_succ _)))
    rw [List.append_nil, List.length_cons, hl]
    exact e
  have z := hb s' (.ref a :: us) Y n1
  rw [List.append_nil] at z
  exact z
theorem pe_mkEK (T : ExK X.K C) (iC : PySem.W.findIn X.K (.ref C) "__init__" = some (some (.ref fI))) (tI : PySem.W.typeIn X.K (.ref fI) = some (.type "function")) (F1 : FnOk X.prog X.w X.K X.mg X.base CX k fI fd ps sp) (hr : Room (k + 1) X.A)
    (hb : KBn X.K fd ps 1 ks g gV) (hx : Passes CX X (fun _ _ _ => False)) (hg : Gl X x) (hm : X.mg x = some (.ref C)) (hkw : PK X kws tk)
    (hall : (backToKw pos (keywordEach kws X.env)).all (·.1.isSome) = true := by rfl) (hks : (backToKw pos (keywordEach kws X.env)).filterMap (·.1) = ks := by rfl) (hdb : (x == ("__debug__" : Str)) = false := by decide)
    (hpl : ((backTo pos (starEach [] X.env)).any (·.1) || (backToKw pos (keywordEach kws X.env)).any (·.1.isNone)) = false := by rfl) :
    PE X (.Call (.Name x p) [] kws pos) (tMkEK C ks.length sp gV tk) := by
  refine ⟨fun pins s σ H Q I h => ?_⟩
  refine wpAny_Call_Name_kw (ld_glob I hg hm ?_ hdb)
  refine PySem.W.callWith_KW0 (h₀ := X.base) I.ok.mod.kin T.kC hall ?_ hpl
  refine thn (hkw.run pos pins s σ H _ I h) fun ws s2 ⟨zs, H2, I2, rz, l2, q2⟩ => ⟨I2.kIn, ?_⟩
  rw [hks]
  exact run_mkE (xs := fun a => g [.ref a] ws) (vs := fun a => gV [.ref a] zs) T iC tI F1 hr hx I2 (Nat.zero_le _) (fun s' a Y => hb.to s' [.ref a] ws Y rfl (rz.length.symm.trans l2)) (fun a => hb.rel (.cons rfl .nil) rz) q2
/-- C(), without an __init__ of its own -/
theorem pe_mkE0 {bmB : List Value} {B newId initId : String} (F : ExcBaseFacts B newId initId bmB) (q : PySem.W.excIn X.K C bmB newId = true) (kC : PySem.W.keepIn X.K (.ref C) = true) (hg : Gl X x) (hm : X.mg x = some (.ref C)) (hdb : (x == ("__debug__" : Str)) = false := by decide) :
    PE X (.Call (.Name x p) [] [] pos) (fun σ H Q => ∀ a, H a = none → Q (.ref a) (upd H a (exo a C none))) := by
  refine ⟨fun pins s σ H Q I h => ?_⟩
  refine wpAny_Call_Name_kw (ld_glob I hg hm ?_ hdb)
  refine PySem.W.callWith_K0 I.kIn kC ?_
  show wpAny _ _ (call (.ref C) []) _ _ _
  obtain ⟨bm, N, nm, qn, bs, hdct, sn, sub, ab, col, dd, k0, k1, k2, k3, k5, mN, hC, hN, hni, T⟩ := exc_obj I.kIn q
  refine wpAny_call_exc_subT F T hC hN hni (fun h' a hm => ?_) (Nat.zero_le _)
  have hn : H a = none := I.hok.gone hm.new
  obtain ⟨t, ht, _, _⟩ := hm.there
  exact ⟨.ref a, upd H a (exo a C none), I.laidN hm.keeps hm.new hn (exo_ok ht), rfl, h a hn⟩
/-- raise C(e, ..) -/
theorem pmk_exK {ta : TA} (T : ExK X.K C) (iC : PySem.W.findIn X.K (.ref C) "__init__" = some (some (.ref fI))) (tI : PySem.W.typeIn X.K (.ref fI) = some (.type "function")) (F1 : FnOk X.prog X.w X.K X.mg X.base CX k fI fd ps sp) (hr : Room (k + 1) X.A)
    (hb : Binds X.K fd ps []) (hx : Passes CX X (fun _ _ _ => False)) (hg : Gl X x) (hm : X.mg x = some (.ref C)) (ha : PA X (e :: es) ta)
    (hdb : (x == ("__debug__" : Str)) = false := by decide) (he : starEach (e :: es) X.env = (false, eval e X.env) :: starEach es X.env := by rfl) (hpl : (backTo pos (starEach es X.env)).any (·.1) = false := by rfl) :
    PMk X (.Call (.Name x p) (e :: es) [] pos) (tMkO C sp [] ta) := by
  intro pins s σ H Q I h
  obtain ⟨B, newId, initId, bmF, T0, nm, q, N, bs, bm, sn, sub, ab, col, dd, k0, k1, k2, k3, k5, F, hC, hbm⟩ := T.cls
  refine wpAny_Call_Name_kw (ld_glob I hg hm ?_ hdb)
  refine PySem.W.callWith_K (h₀ := X.base) I.ok.mod.kin T.kC (thn (ha.run pos pins s σ H _ I h) fun us s1 ⟨vs, H1, I1, r1, hz, q1⟩ => ⟨I1.kIn, ?_⟩) he hpl
  show wpAny _ _ (call (.ref C) us) _ _ _
  obtain ⟨hp, g, dr, tk, os⟩ := s1
  have hsz : hp.objs.size ≤ hp.objs.size + 1 := Nat.le_succ _
  have hn : H1 (hp.objs.size + 1) = none := I1.hok.fresh hsz
  have hq := q1 (hp.objs.size + 1) hn
  rw [List.append_nil] at hq
  have kk : ∀ b o, hp.get? b = some o → ((hp.push (PySem.W.kdv_tup us)).push (PySem.HandSPX.excO C hp.objs.size)).get? b = some o := fun b o e => Heap.get?_push_of_some _ (Heap.get?_push_of_some _ e)
  have hget : ((hp.push (PySem.W.kdv_tup us)).push (PySem.HandSPX.excO C hp.objs.size)).get? (hp.objs.size + 1) = some (PySem.HandSPX.excO C hp.objs.size) := by heap_get
  have I2 : Inv X pins σ (upd H1 (hp.objs.size + 1) (exo (hp.objs.size + 1) C none)) ⟨(hp.push (PySem.W.kdv_tup us)).push (PySem.HandSPX.excO C hp.objs.size), g, dr, tk, os⟩ :=
    I1.laid (t' := tk) (a := hp.objs.size + 1) (o := exo (hp.objs.size + 1) C none) (h' := (hp.push (PySem.W.kdv_tup us)).push (PySem.HandSPX.excO C hp.objs.size)) kk hsz (exo_ok hget)
  have r2 : Vals (V.ref (hp.objs.size + 1) :: vs) (Value.ref (hp.objs.size + 1) :: us) := .cons rfl r1
  have hl : (Value.ref (hp.objs.size + 1) :: us ++ []).length = ps.length := by
    have e := r2.length
    rw [F1.len _ _ _ _ hq] at e
    rw [List.append_nil]
    exact e.symm
  have hus : us.length ≤ sizeLine := by
    rw [← Paired.length r1, sizeLine_eq]
    omega
  have bd := hb ⟨(hp.push (PySem.W.kdv_tup us)).push (PySem.HandSPX.excO C hp.objs.size), g, dr, tk, os⟩ (Value.ref (hp.objs.size + 1) :: us) I2.kIn hl
  rw [List.append_nil] at bd
  refine wpAny_call (e_call F hbm (I1.kIn _ _ hC) (PySem.W.looks_findIn I1.kIn iC) (fun self => PySem.W.bind_fn I1.kIn self tI) hus
    (codeAny_mono (F1.run _ X.stack _ _ ⟨Value.ref (hp.objs.size + 1) :: us, []⟩ (Value.ref (hp.objs.size + 1) :: us) _ _ (fun _ _ _ => False) (hr.make C us []) (I2.env0.make C us []) bd r2 hq) fun r s' hq' => ?_))
  cases r with
  | error er => exact hx pins σ _ _ er s' I2 hq'
  | ok fl =>
    cases fl with
    | ret u =>
      obtain ⟨v, H2, os2, bare2, un2, hok2, rv, ev, d, fs, ea, ed, hd1, q2⟩ := hq'
      subst ev
      obtain ⟨h2, g2, d2, t2, os'⟩ := s'
      exact ⟨rv, mk_end (raises_own T.exC T.tyC) I1 hsz kk un2 hok2 os2 bare2 ea ed hd1 q2⟩
    | next => exact False.elim hq'
    | brk => exact False.elim hq'
    | cont => exact False.elim hq'
end
/-! own classes: ==, !=, str, repr by the class's own defs -/
section
variable {X : Cx} {pins : List (Addr × Obj)} {σ : L2.St} {H : Hp} {s : Shared}
theorem run_at {A' : Around} {k : Nat} {f : Addr} {fd : FuncData} {ps : List Str} {sp : Sp} {us : List Value} {vs : List V} {Q : VK} {E' : Value → Shared → Prop}
    (F : FnOk X.prog X.w X.K X.mg X.base CX0 k f fd ps sp) (hr : Room k A') (ee : Env0 X.prog X.w X.K X.mg X.base A' X.stack s H) (hb : Binds X.K fd ps []) (I : Inv X pins σ H s) (r : Vals vs us) (h : sp vs H Q E0) :
    wpAny (model X.prog X.w) A' (call (.ref f) us) (EP X pins σ Q) E' s := by
  have hl : us.length = ps.length := r.length.symm.trans (F.len _ _ _ _ h)
  have bd := hb s us I.kIn (by rw [List.append_nil]; exact hl)
  rw [List.append_nil] at bd
  refine wpAny_call (codeAny_mono (F.run A' X.stack s H ⟨us, []⟩ us vs Q E0 hr ee bd r h) ?_)
  intro x t hq
  cases x with
  | error z => exact False.elim hq
  | ok fl =>
    cases fl with
    | ret u => exact I.after hq
    | next => exact False.elim hq
    | brk => exact False.elim hq
    | cont => exact False.elim hq
theorem dp_type {v : V} {d : PyData} {u : Value} (I : Inv X pins σ H s) (h : Dp X.K H v d) (r : RelV v u) : s.TypeIs u (tyN d) := by
  cases h with
  | non => cases r; rfl
  | bl b => cases r; rfl
  | int i => obtain ⟨t, rfl⟩ := r; rfl
  | str x => obtain ⟨t, rfl⟩ := r; rfl
  | lst h1 h2 =>
    cases r
    obtain ⟨its, _, ⟨o, n, ho, hc, _, _⟩, _⟩ := I.list h1
    exact ⟨o, ho, hc⟩
  | tup h1 h2 =>
    cases r
    obtain ⟨its, _, ⟨o, ho, hc, _⟩, _⟩ := I.tuple h1
    exact ⟨o, ho, hc⟩
theorem sub_looks {K : PySem.W.Frag} {h : Heap} {t c : Value} {b : Bool} (X : K.In h) (hk : PySem.W.kitOne K t c = some b) (hn : (t == c) = false) (M : Model) : PySem.W.Looks M h (isSubtype t c) b := by
  unfold PySem.W.kitOne at hk
  rw [hn] at hk
  exact (PySem.W.kit_cls X (by simpa using hk)).2.2
end
/-- what an own class says of its special names, and that built-in data are none of it -/
structure OwnC (K : PySem.W.Frag) (C fE : Addr) : Prop where
  c : C8.InsC K C
  eq : Meth K C "__eq__" fE
  ne : PySem.W.findIn K (.ref C) "__ne__" = some (some (.builtin "object.__ne__"))
  k1 : PySem.W.kitOne K (.type "NoneType") (.ref C) = some false
  k2 : PySem.W.kitOne K (.type "bool") (.ref C) = some false
  k3 : PySem.W.kitOne K (.type "int") (.ref C) = some false
  k4 : PySem.W.kitOne K (.type "str") (.ref C) = some false
  k5 : PySem.W.kitOne K (.type "list") (.ref C) = some false
  k6 : PySem.W.kitOne K (.type "tuple") (.ref C) = some false
  j1 : PySem.W.kitOne K (.ref C) (.type "NoneType") = some false
  j2 : PySem.W.kitOne K (.ref C) (.type "bool") = some false
  j3 : PySem.W.kitOne K (.ref C) (.type "int") = some false
  j4 : PySem.W.kitOne K (.ref C) (.type "str") = some false
  j5 : PySem.W.kitOne K (.ref C) (.type "list") = some false
  j6 : PySem.W.kitOne K (.ref C) (.type "tuple") = some false
theorem OwnC.of {K : PySem.W.Frag} {C fE : Addr} (o : OwnC K C fE) {H : Hp} {v : V} {d : PyData} (h : Dp K H v d) : PySem.W.kitOne K (.type (tyN d)) (.ref C) = some false ∧ PySem.W.kitOne K (.ref C) (.type (tyN d)) = some false := by
  cases h with
  | non => exact ⟨o.k1, o.j1⟩
  | bl b => exact ⟨o.k2, o.j2⟩
  | int i => exact ⟨o.k3, o.j3⟩
  | str x => exact ⟨o.k4, o.j4⟩
  | lst h1 h2 => exact ⟨o.k5, o.j5⟩
  | tup h1 h2 => exact ⟨o.k6, o.j6⟩
section
variable {X : Cx} {C fE : Addr} {k : Nat} {fd : FuncData} {sp : Sp}
theorem inst_at {pins : List (Addr × Obj)} {σ : L2.St} {H : Hp} {s : Shared} {a dx : Addr} {fs : List (Str × V)} (I : Inv X pins σ H s) (ha : H a = some (.ins C dx fs)) : ∃ ox od, PySem.W.InstAt s.heap a ox C od := by
  obtain ⟨mA, O, _⟩ := ins_get I.hok ha
  obtain ⟨od, J, _⟩ := O.look
  exact ⟨_, od, J⟩
/-- x == y, x of the class: its own __eq__ tells -/
def rEqL (C : Addr) (sp : Sp) (K : PySem.W.Frag) : R2 := fun x y H Q => ∃ a dx fs, x = .ref a ∧ H a = some (.ins C dx fs) ∧ ((∃ d, Dp K H y d) ∨ ∃ b dy gs, y = .ref b ∧ H b = some (.ins C dy gs)) ∧
  sp [x, y] H (fun v H' => ∃ b, v = .bl b ∧ Q (.bl b) H') E0
theorem op_eqL (O : OwnC X.K C fE) (F : FnOk X.prog X.w X.K X.mg X.base CX0 k fE fd ["self", "other"] sp) (hb : Binds X.K fd ["self", "other"] []) (hr : Room k X.A) : OpR X (compareOp .Eq) (rEqL C sp X.K) := by
  intro pins s σ H x y v u Q I rx ry h
  obtain ⟨a, dx, fs, rfl, ha, hy, q⟩ := h
  cases (show v = Value.ref a from rx)
  obtain ⟨ox, od, J⟩ := inst_at I ha
  have run := run_at (E' := X.xe) F hr I.env0 hb I (.cons rx (.cons ry .nil)) q
  have fin : wpAny (model X.prog X.w) X.A (tryCompare (.ref a) (Str.ofString "__eq__") u) (fun r t => ∃ b, r = some (Value.bool b) ∧ EP X pins σ Q (.bool b) t) X.xe s := by
    unfold tryCompare
    refine wpAny_bind (PySem.W.ifBound_K I.kIn J O.eq.at_ O.eq.fn (wpAny_mono run (fun r t hq => ?_) fun _ _ z => z))
    obtain ⟨v', H', I', rv, b, rfl, q'⟩ := hq
    cases (show r = Value.bool b from rv)
    exact wpAny_pure ⟨b, rfl, .bl b, H', I', rfl, q'⟩
  show wpAny _ _ (richCompare .Eq (.ref a) u) _ _ _
  unfold richCompare
  simp only [oneThing_ref]
  refine wpAny_holding ?_
  refine wpAny_bind (wpAny_cRoomFor hr.units0 ?_)
  refine wpAny_bind (J.type.here ?_)
  rcases hy with ⟨d, hd⟩ | ⟨b, dy, gs, rfl, hb2⟩
  · have ty := dp_type I hd ry
    have kk := O.of hd
    refine wpAny_bind (wpAny_typeOf ty ?_)
    have ne : (Value.ref C != Value.type (tyN d)) = true := rfl
    simp only [ne, if_true]
    refine wpAny_bind ((sub_looks I.kIn kk.1 rfl _).here ?_)
    simp only [Bool.false_eq_true, if_false]
    refine wpAny_bind (m := tryCompare (.ref a) (Str.ofString "__eq__") u) (wpAny_mono fin (fun r t hq => ?_) fun _ _ z => z)
    obtain ⟨b, rfl, hq⟩ := hq
    exact wpAny_pure hq
  · cases (show u = Value.ref b from ry)
    obtain ⟨oy, oe, J2⟩ := inst_at I hb2
    refine wpAny_bind (J2.type.here ?_)
    have ne : (Value.ref C != Value.ref C) = false := by simp
    simp only [ne, Bool.false_eq_true, if_false]
    refine wpAny_bind (wpAny_pure ?_)
    simp only [Bool.false_eq_true, if_false]
    refine wpAny_bind (m := tryCompare (.ref a) (Str.ofString "__eq__") (.ref b)) (wpAny_mono fin (fun r t hq => ?_) fun _ _ z => z)
    obtain ⟨b, rfl, hq⟩ := hq
    exact wpAny_pure hq
end
open AutoSeq1 (wpAny_loadPart')
/-! == of built-in data and an instance: the data decline -/
abbrev plainObj (C : Addr) (dd : Option Addr) (sl : Array (Option Value)) : Obj := { cls := .ref C, dict := dd, data := .plain, slots := sl }
theorem str_declines (b : Str) (u : Tok) (l C : Addr) (dd : Option Addr) (sl : Array (Option Value)) :
    Meets (Builtin.«str.__eq__» ⟨[.str b u, .ref l], []⟩) (fun _ R s => s.heap.get? l = some (plainObj C dd sl) ∧ R (.ok (.ret .notImplemented)) s) :=
  .of_wp fun prog w A R s h => by
    obtain ⟨hp, g, d, tk, os⟩ := s
    obtain ⟨hl, h⟩ := h
    wp_walk using wpAny_loadPart' hl, wpAny_load hl
    exact ⟨_, rfl, h⟩
theorem int_declines (b : Int) (u : Tok) (l C : Addr) (dd : Option Addr) (sl : Array (Option Value)) :
    Meets (Builtin.«int.__eq__» ⟨[.int b u, .ref l], []⟩) (fun _ R s => s.heap.get? l = some (plainObj C dd sl) ∧ R (.ok (.ret .notImplemented)) s) :=
  .of_wp fun prog w A R s h => by
    obtain ⟨hp, g, d, tk, os⟩ := s
    obtain ⟨hl, h⟩ := h
    wp_walk using wpAny_loadPart' hl, wpAny_load hl
    exact ⟨_, rfl, h⟩
theorem bool_declines (b : Bool) (l C : Addr) (dd : Option Addr) (sl : Array (Option Value)) :
    Meets (Builtin.«int.__eq__» ⟨[.bool b, .ref l], []⟩) (fun _ R s => s.heap.get? l = some (plainObj C dd sl) ∧ R (.ok (.ret .notImplemented)) s) :=
  .of_wp fun prog w A R s h => by
    obtain ⟨hp, g, d, tk, os⟩ := s
    obtain ⟨hl, h⟩ := h
    wp_walk using wpAny_loadPart' hl, wpAny_load hl
    exact ⟨_, rfl, h⟩
theorem sub_wp {M : Model} {A : Around} {E : Value → Shared → Prop} {s : Shared} {c t : Value} {b : Bool} {Q : Bool → Shared → Prop} (h : ∀ M, PySem.W.Looks M s.heap (isSubtype c t) b) (q : Q b s) : wpAny M A (isSubtype c t) Q E s := (h M).here q
theorem list_declines (a l C : Addr) (dd : Option Addr) (sl : Array (Option Value)) (o : Obj) :
    Meets (Builtin.«list.__eq__» ⟨[.ref a, .ref l], []⟩) (fun _ R s => s.heap.get? a = some o ∧ s.heap.get? l = some (plainObj C dd sl) ∧ (∀ M, PySem.W.Looks M s.heap (isSubtype (.ref C) (.type "list")) false) ∧ R (.ok (.ret .notImplemented)) s) :=
  .of_wp fun prog w A R s h => by
    obtain ⟨hp, g, d, tk, os⟩ := s
    obtain ⟨ha, hl, hs, h⟩ := h
    wp_walk using wpAny_loadPart' hl, wpAny_load hl, sub_wp hs
    exact ⟨_, rfl, h⟩
theorem tuple_declines (a l C : Addr) (dd : Option Addr) (sl : Array (Option Value)) (o : Obj) :
    Meets (Builtin.«tuple.__eq__» ⟨[.ref a, .ref l], []⟩) (fun _ R s => s.heap.get? a = some o ∧ s.heap.get? l = some (plainObj C dd sl) ∧ (∀ M, PySem.W.Looks M s.heap (isSubtype (.ref C) (.type "tuple")) false) ∧ R (.ok (.ret .notImplemented)) s) :=
  .of_wp fun prog w A R s h => by
    obtain ⟨hp, g, d, tk, os⟩ := s
    obtain ⟨ha, hl, hs, h⟩ := h
    wp_walk using wpAny_loadPart' hl, wpAny_load hl, sub_wp hs
    exact ⟨_, rfl, h⟩
section
variable {X : Cx} {C fE : Addr} {k : Nat} {fd : FuncData} {sp : Sp}
/-- the built-in type's own __eq__ declines -/
theorem data_declines {pins : List (Addr × Obj)} {σ : L2.St} {H : Hp} {s : Shared} {A : Around} {E : Value → Shared → Prop} {x : V} {d : PyData} {v : Value} {b dx : Addr} {fs : List (Str × V)} {Q : Option Value → Shared → Prop} (I : Inv X pins σ H s)
    (hs : ∀ M, PySem.W.Looks M s.heap (isSubtype (.ref C) (.type (tyN d))) false)
    (hd : Dp X.K H x d) (rx : RelV x v) (hb : H b = some (.ins C dx fs)) (q : Q none s) : wpAny (model X.prog X.w) A (tryCompare v (Str.ofString "__eq__") (.ref b)) Q E s := by
  obtain ⟨mA, O, _⟩ := ins_get I.hok hb
  have ob := O.obj
  cases hd with
  | non =>
    cases rx
    exact wpAny_tryCompare_declines (T := "NoneType") rfl F.slot_NoneType_eq (call_gives F.slot_NoneType_eq rfl F.entry_NoneType_eq (F.args_NoneType_eq_2 _ _) (SeqAt.NoneType___eq___none_ref_0 b) ⟨rfl, q⟩)
  | bl z =>
    cases rx
    exact wpAny_tryCompare_declines (T := "bool") rfl F.slot_bool_eq (call_meets F.slot_bool_eq rfl F.entry_int_eq (F.args_int_eq_2 _ _) (bool_declines z b C _ _) ⟨ob, ⟨rfl, q⟩⟩)
  | int i =>
    obtain ⟨t, rfl⟩ := rx
    exact wpAny_tryCompare_declines (T := "int") rfl F.slot_int_eq (call_meets F.slot_int_eq rfl F.entry_int_eq (F.args_int_eq_2 _ _) (int_declines i t b C _ _) ⟨ob, ⟨rfl, q⟩⟩)
  | str y =>
    obtain ⟨t, rfl⟩ := rx
    exact wpAny_tryCompare_declines (T := "str") rfl F.slot_str_eq (call_meets F.slot_str_eq rfl F.entry_str_eq (F.args_str_eq_2 _ _) (str_declines y t b C _ _) ⟨ob, ⟨rfl, q⟩⟩)
  | lst h1 h2 =>
    cases rx
    obtain ⟨its, _, ⟨o, n, ho, hc, _, _⟩, _⟩ := I.list h1
    exact wpAny_tryCompare_declines (T := "list") ⟨o, ho, hc⟩ F.slot_list_eq (call_meets F.slot_list_eq ⟨o, ho, hc⟩ F.entry_list_eq (F.args_list_eq_2 _ _) (list_declines _ b C _ _ o) ⟨ho, ob, hs, ⟨rfl, q⟩⟩)
  | tup h1 h2 =>
    cases rx
    obtain ⟨its, _, ⟨o, ho, hc, _⟩, _⟩ := I.tuple h1
    exact wpAny_tryCompare_declines (T := "tuple") ⟨o, ho, hc⟩ F.slot_tuple_eq (call_meets F.slot_tuple_eq ⟨o, ho, hc⟩ F.entry_tuple_eq (F.args_tuple_eq_2 _ _) (tuple_declines _ b C _ _ o) ⟨ho, ob, hs, ⟨rfl, q⟩⟩)
/-- x == y, y of the class, x built-in data: y's own __eq__ tells -/
def rEqR (C : Addr) (sp : Sp) (K : PySem.W.Frag) : R2 := fun x y H Q => ∃ b dy gs d, y = .ref b ∧ H b = some (.ins C dy gs) ∧ Dp K H x d ∧ sp [y, x] H (fun v H' => ∃ z, v = .bl z ∧ Q (.bl z) H') E0
theorem op_eqR (O : OwnC X.K C fE) (F : FnOk X.prog X.w X.K X.mg X.base CX0 k fE fd ["self", "other"] sp) (hb : Binds X.K fd ["self", "other"] []) (hr : Room k X.A) : OpR X (compareOp .Eq) (rEqR C sp X.K) := by
  intro pins s σ H x y v u Q I rx ry h
  obtain ⟨b, dy, gs, d, rfl, ha, hd, q⟩ := h
  cases (show u = Value.ref b from ry)
  obtain ⟨ox, od, J⟩ := inst_at I ha
  have run := run_at (E' := X.xe) F hr I.env0 hb I (.cons ry (.cons rx .nil)) q
  have ty := dp_type I hd rx
  have kk := O.of hd
  have sb := sub_looks I.kIn kk.2 rfl
  have fin : wpAny (model X.prog X.w) X.A (tryCompare (.ref b) (Str.ofString "__eq__") v) (fun r t => ∃ b, r = some (Value.bool b) ∧ EP X pins σ Q (.bool b) t) X.xe s := by
    unfold tryCompare
    refine wpAny_bind (PySem.W.ifBound_K I.kIn J O.eq.at_ O.eq.fn (wpAny_mono run (fun r t hq => ?_) fun _ _ z => z))
    obtain ⟨v', H', I', rv, b, rfl, q'⟩ := hq
    cases (show r = Value.bool b from rv)
    exact wpAny_pure ⟨b, rfl, .bl b, H', I', rfl, q'⟩
  show wpAny _ _ (richCompare .Eq v (.ref b)) _ _ _
  unfold richCompare
  simp only [ty.oneThing_none]
  refine wpAny_holding ?_
  refine wpAny_bind (wpAny_cRoomFor hr.units0 ?_)
  refine wpAny_bind (wpAny_typeOf ty ?_)
  refine wpAny_bind (J.type.here ?_)
  have ne : (Value.type (tyN d) != Value.ref C) = true := rfl
  simp only [ne, if_true]
  refine wpAny_bind ((sb _).here ?_)
  simp only [Bool.false_eq_true, if_false]
  refine wpAny_bind (m := tryCompare v (Str.ofString "__eq__") (.ref b)) (data_declines I sb hd rx ha ?_)
  simp only [Bool.not_false, if_true]
  refine wpAny_bind (m := tryCompare (.ref b) (Str.ofString "__eq__") v) (wpAny_mono fin (fun r t hq => ?_) fun _ _ z => z)
  obtain ⟨z, rfl, hq⟩ := hq
  exact wpAny_pure hq
theorem ifBound_b {M : Model} {A : Around} {E : Value → Shared → Prop} {s : Shared} {K : PySem.W.Frag} {x C : Addr} {ox : Obj} {od : Option Obj} {name : Str} {id : String} {args : List Value} {Q : Option Value → Shared → Prop} (X : K.In s.heap) (I : PySem.W.InstAt s.heap x ox C od)
    (hs : PySem.W.findIn K (.ref C) name = some (some (.builtin id))) (hb : ∀ self, bindSpecial (.builtin id) self = pure (.builtin id, [self])) (h : wpAny M A (call (.builtin id) (.ref x :: args)) (fun v => Q (some v)) E s) :
    wpAny M A (callSpecialIfBound? (.ref x) name args) Q E s := by
  simp only [callSpecialIfBound?, bindSpecialIfBound?]
  refine wpAny_holding (wpAny_bind (wpAny_bind (wpAny_bind (I.type.here ((PySem.W.looks_findIn X hs).here ?_)))))
  refine wpAny_bind (wpAny_askSetting (wpAny_ite ?_))
  have fin : wpAny M A (call (.builtin id) ([.ref x] ++ args) >>= fun v => pure (some v)) Q E s := wpAny_bind (wpAny_mono h (fun _ _ z => wpAny_pure z) fun _ _ z => z)
  split
  · exact wpAny_bind ((PySem.W.Looks.of_pure (hb _)).here (wpAny_pure (by exact fin)))
  · exact wpAny_tryCatch (wpAny_bind ((PySem.W.Looks.of_pure (hb _)).here (wpAny_pure (by exact fin))))
/-- x != y, x of the class (which has no own __ne__): not what its own __eq__ tells -/
def rNeL (C : Addr) (sp : Sp) (K : PySem.W.Frag) : R2 := fun x y H Q => ∃ a dx fs, x = .ref a ∧ H a = some (.ins C dx fs) ∧ ((∃ d, Dp K H y d) ∨ ∃ b dy gs, y = .ref b ∧ H b = some (.ins C dy gs)) ∧
  sp [x, y] H (fun v H' => ∃ b, v = .bl b ∧ Q (.bl (!b)) H') E0
theorem op_neL (O : OwnC X.K C fE) (F : FnOk X.prog X.w X.K X.mg X.base CX0 k fE fd ["self", "other"] sp) (hb : Binds X.K fd ["self", "other"] []) (hr : Room (k + 1) X.A) : OpR X (compareOp .NotEq) (rNeL C sp X.K) := by
  intro pins s σ H x y v u Q I rx ry h
  obtain ⟨a, dx, fs, rfl, ha, hy, q⟩ := h
  cases (show v = Value.ref a from rx)
  obtain ⟨ox, od, J⟩ := inst_at I ha
  have run := run_at (E' := X.xe) F hr.in1 I.env0.in1 hb I (.cons rx (.cons ry .nil)) q
  have body : wpAny (model X.prog X.w) X.A (call (.builtin "object.__ne__") [.ref a, u]) (fun v t => ∃ b, v = Value.bool b ∧ EP X pins σ Q (.bool b) t) X.xe s := by
    refine wpAny_call (codeAny_call_builtin PySem.F.slot_object_ne.plain PySem.F.entry_object_ne (PySem.W.check_slot (i := "object.__ne__") (owner := "object") (n := "__ne__") (by decide +kernel) (by decide +kernel) (J.type.andThen (PySem.W.looks_mroIn I.kIn O.c.hm)) (PySem.F.args_object_ne_2 _ _) ?_))
    unfold Builtin.«object.__ne__»
    refine wpAny_bind (m := slotArgs "__ne__" 1 _) (wpAny_pure ?_)
    refine wpAny_bind (m := cRoomFor _ _) (wpAny_cRoomFor (by have := hr.units; show X.A.units + 1 < cLine; omega) ?_)
    refine wpAny_bind (m := callSpecialIfBound? (.ref a) (Str.ofString "__eq__") [u]) (PySem.W.ifBound_K I.kIn J O.eq.at_ O.eq.fn (wpAny_mono run (fun r t hq => ?_) fun _ _ z => z))
    obtain ⟨v', H', I', rv, b, rfl, q'⟩ := hq
    cases (show r = Value.bool b from rv)
    refine wpAny_bind (m := truthy (.bool b)) (wpAny_truthy_bool ?_)
    exact wpAny_pure ⟨!b, rfl, .bl (!b), H', I', rfl, q'⟩
  have fin : wpAny (model X.prog X.w) X.A (tryCompare (.ref a) (Str.ofString "__ne__") u) (fun r t => ∃ b, r = some (Value.bool b) ∧ EP X pins σ Q (.bool b) t) X.xe s := by
    unfold tryCompare
    refine wpAny_bind (ifBound_b I.kIn J O.ne PySem.F.slot_object_ne.bind (wpAny_mono body (fun r t hq => ?_) fun _ _ z => z))
    obtain ⟨b, rfl, hq⟩ := hq
    exact wpAny_pure ⟨b, rfl, hq⟩
  show wpAny _ _ (richCompare .NotEq (.ref a) u) _ _ _
  unfold richCompare
  simp only [oneThing_ref]
  refine wpAny_holding ?_
  refine wpAny_bind (wpAny_cRoomFor hr.units0 ?_)
  refine wpAny_bind (J.type.here ?_)
  rcases hy with ⟨d, hd⟩ | ⟨b, dy, gs, rfl, hb2⟩
  · have ty := dp_type I hd ry
    have kk := O.of hd
    refine wpAny_bind (wpAny_typeOf ty ?_)
    have ne : (Value.ref C != Value.type (tyN d)) = true := rfl
    simp only [ne, if_true]
    refine wpAny_bind ((sub_looks I.kIn kk.1 rfl _).here ?_)
    simp only [Bool.false_eq_true, if_false]
    refine wpAny_bind (m := tryCompare (.ref a) (Str.ofString "__ne__") u) (wpAny_mono fin (fun r t hq => ?_) fun _ _ z => z)
    obtain ⟨b, rfl, hq⟩ := hq
    exact wpAny_pure hq
  · cases (show u = Value.ref b from ry)
    obtain ⟨oy, oe, J2⟩ := inst_at I hb2
    refine wpAny_bind (J2.type.here ?_)
    have ne : (Value.ref C != Value.ref C) = false := by simp
    simp only [ne, Bool.false_eq_true, if_false]
    refine wpAny_bind (wpAny_pure ?_)
    simp only [Bool.false_eq_true, if_false]
    refine wpAny_bind (m := tryCompare (.ref a) (Str.ofString "__ne__") (.ref b)) (wpAny_mono fin (fun r t hq => ?_) fun _ _ z => z)
    obtain ⟨b, rfl, hq⟩ := hq
    exact wpAny_pure hq
/-- repr(x), x of a class with its own __repr__ -/
def rRepO (C : Addr) (sp : Sp) : List V → Hp → VK → Prop := fun xs H Q => ∃ a dx fs, xs = [.ref a] ∧ H a = some (.ins C dx fs) ∧ sp [.ref a] H (fun v H' => ∃ y, v = .str y ∧ Q (.str y) H') E0
theorem call_repO {fR : Addr} (m : Meth X.K C "__repr__" fR) (F : FnOk X.prog X.w X.K X.mg X.base CX0 k fR fd ["self"] sp) (hb : Binds X.K fd ["self"] []) (hr : Room (k + 1) X.A) : CallR X (.builtin "repr") (rRepO C sp) := by
  intro pins s σ H xs us Q I r h
  obtain ⟨a, dx, fs, rfl, ha, q⟩ := h
  obtain ⟨u, rfl, ru⟩ := vals1 r
  cases (show u = Value.ref a from ru)
  obtain ⟨ox, od, J⟩ := inst_at I ha
  have run := run_at (E' := X.xe) F hr.in1 I.env0.in1 hb I (.cons ru .nil) q
  refine Calls.call_function_entry PySem.F.kind_repr PySem.F.plain_repr PySem.F.entry_repr (PySem.F.args_repr1 _) ?_
  unfold Builtin.«repr»
  refine wpAny_bind (m := oneArg "repr" _) (wpAny_pure ?_)
  refine wpAny_bind (wpAny_cRoomFor (by have := hr.units; show X.A.units + 1 < cLine; omega) ?_)
  refine wpAny_bind (m := specialOf (.ref a) (Str.ofString "__repr__")) (wpAny_bind (J.type.here ((PySem.W.looks_findIn I.kIn m.at_).here ?_)))
  show wpAny _ _ (if (some (Value.ref fR)).isNone = true then _ else _) _ _ _
  rw [if_neg (by simp)]
  refine wpAny_bind (m := callSpecialIfBound? (.ref a) (Str.ofString "__repr__") _) (PySem.W.ifBound_K I.kIn J m.at_ m.fn (wpAny_mono run (fun r t hq => ?_) fun _ _ z => z))
  obtain ⟨v', H', I', rv, y, rfl, q'⟩ := hq
  obtain ⟨tk, rfl⟩ := (show ∃ t, r = Value.str y t from rv)
  refine wpAny_bind (wpAny_isInstance (typeIs_str _ _ _) isSubtype_str_str ?_)
  have fin : EP X pins σ Q (.str y tk) t := ⟨.str y, H', I', ⟨tk, rfl⟩, q'⟩
  first
    | exact wpAny_pure ⟨_, rfl, fin⟩
    | (rw [if_pos rfl]; exact wpAny_pure ⟨_, rfl, fin⟩)
    | (simp only [if_true]; exact wpAny_pure ⟨_, rfl, fin⟩)
    | (simp only [if_true]; exact wpAny_pure fin)
/-- str(x), x of a class with its own __str__ -/
theorem call_strO {fS : Addr} (m : Meth X.K C "__str__" fS) (F : FnOk X.prog X.w X.K X.mg X.base CX0 k fS fd ["self"] sp) (hb : Binds X.K fd ["self"] []) (hr : Room (k + 2) X.A) : CallR X (.type "str") (rRepO C sp) := by
  intro pins s σ H xs us Q I r h
  obtain ⟨a, dx, fs, rfl, ha, q⟩ := h
  obtain ⟨u, rfl, ru⟩ := vals1 r
  cases (show u = Value.ref a from ru)
  obtain ⟨ox, od, J⟩ := inst_at I ha
  have run := run_at (A' := X.A.in1.in1) (E' := X.xe) F hr.in1.in1 I.env0.in1.in1 hb I (.cons ru .nil) q
  have un := hr.units
  refine callType_codes (T := "str") (Bi := Builtin.«object.__init__») (Q₁ := fun r s₁ => ∃ y u, r = .str y u ∧ EP X pins σ Q r s₁) PySem.F.called_str (PySem.F.typeCall_str_1 _) PySem.F.entry_object_init ?_ ?_
  · refine codeAny_of_tree ?_
    show wpAny _ X.A.in1.in1 (do checkBuiltinCall "str.__new__" ⟨[.type "str", .ref a], []⟩; again (.builtin "str.__new__" ⟨[.type "str", .ref a], []⟩)) _ _ s
    refine wpAny_bind (wpAny_of_eq (PySem.F.newCall_str_1 _) (wpAny_pure ⟨plainId_quiet (by decide +kernel) _, codeAny_builtin PySem.F.entry_str_new ?_⟩))
    rw [Around.under_plainId (by decide +kernel) _]
    rw [str_new_tree]
    refine wpAny_bind (wpAny_pure ?_)
    refine wpAny_bind (wpAny_of_eq isSubtype_str_str ?_)
    have key : wpAny (model X.prog X.w) X.A.in1.in1 (PySem.Builtin.Str.strOf (.ref a)) (fun r s₁ => ∃ y u, r = .str y u ∧ EP X pins σ Q r s₁) X.xe s := by
      unfold PySem.Builtin.Str.strOf
      rw [show Builtin.Str.isExactStr (.ref a) = false from rfl]
      refine wpAny_bind (m := cRoomFor _ _) (wpAny_cRoomFor (by show X.A.units + 1 + 1 < cLine; omega) ?_)
      refine wpAny_bind (m := callSpecial? (.ref a) (Str.ofString "__str__")) (PySem.W.special_fn I.kIn J m.at_ (beq_iff_eq.mp m.fn) (wpAny_mono run (fun r t hq => ?_) fun _ _ z => z))
      obtain ⟨v', H', I', rv, y, rfl, q'⟩ := hq
      obtain ⟨tk, rfl⟩ := (show ∃ t, r = Value.str y t from rv)
      exact wpAny_pure ⟨_, _, rfl, .str y, H', I', ⟨tk, rfl⟩, q'⟩
    exact wpAny_bind (wpAny_mono key (fun r s₁ hr => wpAny_pure hr) fun _ _ y => y)
  · rintro obj s₁ ⟨y, u, rfl, hq⟩
    exact ⟨typeIs_str _ _ _, PySem.F.args_object_init_2 _ _, object_init_meets PySem.F.called_str.init.lookup PySem.F.called_str.made (by decide) X.prog X.w X.A.in1 _ s₁ ⟨typeIs_str _ _ _, rfl, hq⟩⟩
end
/-! errors that are kept as values: attributes, isinstance -/
/-- e.f -/
def tXa (K : PySem.W.Frag) (f : Str) (te : TE) : TE := fun σ H Q => te σ H fun x H1 => ∃ (a C d : Addr) (fs : List (Str × V)) (v : V), x = .ref a ∧ XfC K C ∧ PySem.W.findIn K (.ref C) f = some none ∧ H1 a = some (exo a C (some d)) ∧ H1 d = some (exd d fs) ∧ fs.lookup f = some v ∧ Q v H1
section
variable {X : Cx} {e : Expr} {te : TE} {pos : Pos} {n : Str}
theorem pe_xa (he : PE X e te) (hb : attributeBase e n X.env (eval e X.env) = eval e X.env := by rfl) : PE X (.Attribute e n pos) (tXa X.K n te) := by
  refine ⟨fun pins s σ H Q I h => ?_⟩
  refine attr_of hb (thn (he.run pins s σ H _ I h) fun u s1 hh => ?_)
  obtain ⟨x, H1, I1, rx, a, C, d, fs, v, ex, T, hno, ea, ed, l, q⟩ := hh
  subst ex
  obtain rfl : u = Value.ref a := rx
  obtain ⟨t1, ha⟩ := exo_at I1.hok ea
  obtain ⟨mA, hns, hr⟩ := exd_at I1.hok ed
  obtain ⟨od, ho, hl⟩ := lookIn_ns hns
  obtain ⟨u, hu, ru⟩ := RelO.some_of (v := v) (o := mA n) (by rw [← l]; exact hr n)
  have J : PySem.W.InstAt s1.heap a { cls := .ref C, dict := some d, data := .fields #[.ref t1, .none, .none, .none, .bool false, .none] } C (some od) := ⟨ha, rfl, rfl, ho⟩
  exact HandSPX.exc_get I1.kIn J T.ga T.gg T.exC (PySem.W.findObj_own T.hdC hno rfl (by rw [hl, hu])) (handed_of ru) ⟨v, H1, I1.tok _, ru, q⟩
end
/-- an error of the class D stands at a -/
def ErrAt (H : Hp) (D a : Addr) : Prop := H a = some (exo a D none) ∨ ∃ d fs, H a = some (exo a D (some d)) ∧ H d = some (exd d fs)
theorem ErrAt.up {H H' : Hp} {D a : Addr} (s : Same H H') (h : ErrAt H D a) : ErrAt H' D a := by
  rcases h with h | ⟨d, fs, h1, h2⟩
  · exact .inl (s _ _ h)
  · exact .inr ⟨d, fs, s _ _ h1, s _ _ h2⟩
def rIsX (K : PySem.W.Frag) : List V → Hp → VK → Prop := fun xs H Q => ∃ (a D : Addr) (c : V) (cv : Value) (b : Bool), xs = [.ref a, c] ∧ ExcC K D ∧ ErrAt H D a ∧ (∀ u, RelV c u → u = cv) ∧ PySem.W.kitOne K (.ref D) cv = some b ∧ Q (.bl b) H
theorem hasD_cls {K : PySem.W.Frag} {D : Addr} (h : PySem.W.hasDictIn K D = true) : (PySem.W.clsIn K D).isSome = true := by
  unfold PySem.W.hasDictIn at h
  cases e : PySem.W.clsIn K D with
  | none =>
    rw [e] at h
    cases h
  | some c => rfl
theorem call_isX {X : Cx} : CallR X (.builtin "isinstance") (rIsX X.K) := by
  intro pins s σ H xs us Q I r h
  obtain ⟨a, D, c, cv, b, rfl, C, he, hcv, e, q⟩ := h
  cases r with
  | cons rx rr =>
    cases rr with
    | cons rt rr =>
      cases rr
      cases rx
      have ec := hcv _ rt
      subst ec
      have fin : ∀ {ox : Obj} {od : Option Obj}, PySem.W.InstAt s.heap a ox D od → wpAny (model X.prog X.w) X.A (call (.builtin "isinstance") [.ref a, _]) (EP X pins σ Q) X.xe s := fun {ox od} J =>
        PySem.W.kia_one (PySem.W.kitx_exc (hasD_cls C.hd) C.hg C.hk C.hs C.ha C.hn C.ht C.hm) I.kIn J e (fun z => nomatch z) fun tk => ⟨.bl b, H, I.kept (t' := tk) fun _ _ z => z, rfl, q⟩
      rcases he with ea | ⟨d, fs, ea, ed⟩
      · obtain ⟨t1, ha⟩ := exo_at I.hok ea
        exact fin (od := none) ⟨ha, rfl, rfl, trivial⟩
      · obtain ⟨t1, ha⟩ := exo_at I.hok ea
        obtain ⟨mA, ⟨o, es, ep, ho, hr⟩, _⟩ := exd_at I.hok ed
        exact fin (od := some o) ⟨ha, rfl, rfl, ho⟩
/-! own classes: &, |, -, in, bool by the class's own defs -/
section
variable {X : Cx} {C f : Addr} {k : Nat} {fd : FuncData} {ps : List Str} {sp : Sp} {nm : Str}
/-- x op y, both of the class -/
def rBinO (C : Addr) (sp : Sp) : R2 := fun x y H Q => ∃ a dx fs b dy gs, x = .ref a ∧ y = .ref b ∧ H a = some (.ins C dx fs) ∧ H b = some (.ins C dy gs) ∧ sp [x, y] H (fun v H' => (∃ c, v = .ref c) ∧ Q v H') E0
theorem op_binO {op : Operator} (hd : PySem.dunder op.info.2 = nm) (hc : PySem.W.selfFirst X.K C = true) (M : Meth X.K C nm f) (F : FnOk X.prog X.w X.K X.mg X.base CX0 k f fd ps sp) (hb : Binds X.K fd ps []) (hr : Room k X.A) : OpR X (binaryOp op) (rBinO C sp) := by
  intro pins s σ H x y v u Q I rx ry h
  obtain ⟨a, dx, fs, b, dy, gs, rfl, rfl, ha, hb2, q⟩ := h
  cases (show v = Value.ref a from rx)
  cases (show u = Value.ref b from ry)
  obtain ⟨ox, od, J⟩ := inst_at I ha
  obtain ⟨oy, oe, J2⟩ := inst_at I hb2
  obtain ⟨m, fr⟩ := I.fr
  refine PySem.W.binop_K fr I.ok.mod.kin J J2.type hc (by rw [hd]; exact M.at_) M.fn (wpAny_mono (run_at (E' := X.xe) F hr I.env0 hb I (.cons rx (.cons ry .nil)) q) (fun r t hq => ?_) fun _ _ z => z)
  obtain ⟨v', H', I', rv, ⟨c, rfl⟩, q'⟩ := hq
  cases (show r = Value.ref c from rv)
  exact ⟨.ref c, H', I', rfl, q'⟩
/-- x in y, y of the class -/
def rInO (C : Addr) (sp : Sp) : R2 := fun x y H Q => ∃ b dy gs, y = .ref b ∧ H b = some (.ins C dy gs) ∧ sp [y, x] H (fun v H' => ∃ c, v = .bl c ∧ Q (.bl c) H') E0
theorem op_inO (M : Meth X.K C "__contains__" f) (F : FnOk X.prog X.w X.K X.mg X.base CX0 k f fd ps sp) (hb : Binds X.K fd ps []) (hr : Room k X.A) : OpR X (compareOp .In) (rInO C sp) := by
  intro pins s σ H x y v u Q I rx ry h
  obtain ⟨b, dy, gs, rfl, hb2, q⟩ := h
  cases (show u = Value.ref b from ry)
  obtain ⟨oy, oe, J2⟩ := inst_at I hb2
  obtain ⟨m, fr⟩ := I.fr
  refine PySem.W.in_K fr I.ok.mod.kin J2 M.at_ M.fn (wpAny_mono (run_at (E' := X.xe) F hr I.env0 hb I (.cons ry (.cons rx .nil)) q) (fun r t hq => ?_) fun _ _ z => z)
  obtain ⟨v', H', I', rv, c, rfl, q'⟩ := hq
  cases (show r = Value.bool c from rv)
  exact wpAny_truthy_bool ⟨.bl c, H', I', rfl, q'⟩
theorem meets_boolT {prog : Program} {w : World} (x : Value) : MeetsIn prog w (Builtin.«bool.__new__» ⟨[.type "bool", x], []⟩)
    (fun A R s => wpAny (model prog w) A.in1 (truthy x) (fun b s' => ∀ tk, R (.ok (.ret (.bool b))) { s' with toks := tk }) (fun e s' => R (.error e) s') s) := fun A R s h => by
  have f1 := F.conv_sub_bool
  obtain ⟨hp, g, d, tk, os⟩ := s
  unfold Builtin.«bool.__new__»
  repeat (any_goals (first | assumption | wp_step))
  show wpAny _ _ (truthy x) _ _ _
  refine wpAny_mono h (fun b s' hq => ?_) fun _ _ z => z
  obtain ⟨hp', g', d', tk', os'⟩ := s'
  repeat (any_goals (first | assumption | wp_step))
  exact hq _
theorem call_boolT {x : Value} {prog : Program} {w : World} {A : Around} {E : Value → Shared → Prop} {s : Shared} {Q : Value → Shared → Prop} (h : wpAny (model prog w) A.in1.in1 (truthy x) (fun b s' => ∀ tk, Q (.bool b) { s' with toks := tk }) E s) : wpAny (model prog w) A (call (.type "bool") [x]) Q E s := by
  refine callType_newIn F.called_bool F.newNe_bool (F.typeCall_bool_1 x) (F.newCall_bool_1 x) (fun obj => F.args_object_init_2 obj x) F.entry_bool_new (meets_boolT x) ?_
  exact wpAny_mono h (fun b s' hq tk => ⟨rfl, hq tk⟩) fun _ _ z => z
/-- bool(x), x of the class -/
def rBoolO (C : Addr) (sp : Sp) : List V → Hp → VK → Prop := fun xs H Q => ∃ a dx fs, xs = [.ref a] ∧ H a = some (.ins C dx fs) ∧ sp [.ref a] H (fun v H' => ∃ c, v = .bl c ∧ Q (.bl c) H') E0
theorem call_boolO (M : Meth X.K C "__bool__" f) (F : FnOk X.prog X.w X.K X.mg X.base CX0 k f fd ps sp) (hb : Binds X.K fd ps []) (hr : Room (k + 2) X.A) : CallR X (.type "bool") (rBoolO C sp) := by
  intro pins s σ H xs us Q I r h
  obtain ⟨a, dx, fs, rfl, ha, q⟩ := h
  obtain rfl := Vals.ref1 r
  obtain ⟨ox, od, J⟩ := inst_at I ha
  obtain ⟨m, fr⟩ := I.fr
  refine call_boolT (PySem.W.truthy_K fr I.ok.mod.kin J M.at_ M.fn (wpAny_mono (run_at (E' := X.xe) F hr.in1.in1 I.env0.in1.in1 hb I r q) (fun r t hq => ?_) fun _ _ z => z))
  obtain ⟨v', H', I', rv, c, rfl, q'⟩ := hq
  cases (show r = Value.bool c from rv)
  exact fun tk => ⟨.bl c, H', I'.tok _, rfl, q'⟩
/-- bool(a tuple) -/
theorem call_boolTu : CallR X (.type "bool") (fun xs H Q => ∃ a zs, xs = [.ref a] ∧ SqT X.K H a zs ∧ Q (.bl (!zs.isEmpty)) H) := by
  intro pins s σ H xs us Q I r h
  obtain ⟨a, zs, rfl, hq, q⟩ := h
  obtain rfl := Vals.ref1 r
  obtain ⟨its, rv, pl, hz⟩ := I.tuple hq
  have hlen := rv.length
  have hl := line63
  exact call_boolT (truthy_tuple pl (by simp only [List.size_toArray]; omega) fun tk => ⟨.bl (!zs.isEmpty), H, I.tok _, by rw [isEmpty_of rv]; rfl, q⟩)
end
/-! a classmethod without arguments -/
section
variable {X : Cx} {CX : CXT} {k : Nat} {C p g : Addr} {mc : Value} {sp : Sp} {E : XK} {o : Expr} {m : Str} {pos apos : Pos} {ta : TE} {pl : Sem Bool}
theorem pe_cmeth0 (he : PE X o ta) (r : ClX.CRead X.K C mc) (c : ClX.CMet X.K C mc m p g) (F : FnR X.prog X.w X.K X.mg X.base CX k g sp) (hr : Room k X.A) (hx : Passes CX X E)
    (ht : eval (.Call (.Attribute o m apos) [] [] pos) X.env = (do
      let ov ← eval o X.env
      standAt apos.atName
      let (f, first) ← holding [ov] (getMethod ov m pl)
      callWith pos f first (backTo pos (starEach [] X.env)) (backToKw pos (keywordEach [] X.env))) := by rfl) : PE X (.Call (.Attribute o m apos) [] [] pos) (ClX.tCMeth C sp E ta tNil) := by
  refine ⟨fun pins s σ H Q I h => ?_⟩
  refine PySem.W.methodCall_KW (pl := pl) (thn (he.run pins s σ H _ I h) fun u s1 ⟨x, H1, I1, rx, ex, q⟩ => ?_) ht
  subst ex
  obtain rfl : u = Value.ref C := rx
  refine ClX.getmethcm_ok I1 r c fun s2 I2 => ?_
  refine PySem.W.callWith_M0 (K := X.K) ⟨ClX.pin_at I2, I2.kIn⟩ c.fi ?_
  exact ClX.run_cm F hr hx I2 .nil q
end
/-- d.get(key), d a dict of the program's top with texts for keys -/
def tKGet (K : PySem.W.Frag) (d : Addr) (td ty : TE) : TE := fun σ H Q => td σ H fun x H1 => x = .ref d ∧ ty σ H1 fun y H2 => ∃ z r v, y = .str z ∧ PySem.W.nsIn K d z = some r ∧ RelV v (r.getD .none) ∧ Q v H2
theorem pe_kget {X : Cx} {d : Addr} {es : Array DictEntry} {n : Nat} {o e : Expr} {apos cpos : Pos} {td ty : TE} (D : KDict X.K X.w d es n) (ho : PE X o td) (he : PE X e ty) (m : M1 X o "get" apos e cpos) :
    PE X (.Call (.Attribute o "get" apos) [e] [] cpos) (tKGet X.K d td ty) := by
  refine ⟨fun pins s σ H Q I h => ?_⟩
  refine wpAny_Call_method m.base m.few m.line PySem.F.plainAttrs_dict PySem.F.slot_dict_get PySem.F.type_dict_get (thn (ho.run pins s σ H _ I h) fun u s1 ⟨x, H1, I1, rx, ex, q1⟩ => ?_)
  subst ex
  cases rx
  refine ⟨kd_type D I1, fun b q => ?_, ?_⟩
  · cases q
    exact ⟨_, I1.kIn _ _ D.at_, rfl⟩
  rw [m.trees]
  refine Calls.callWith_builtin rfl (Calls.evalArgs_plain (Calls.spliced_cons (thn (he.run pins s1 σ H1 _ I1 q1) fun iv s2 ⟨y, H2, I2, ry, z, r, v, ey, en, rv, q2⟩ => Calls.spliced_nil ?_)))
  subst ey
  obtain ⟨t, rfl⟩ := ry
  refine call_meetsIn PySem.F.slot_dict_get (kd_type D I2) PySem.F.entry_dict_get (PySem.F.args_dict_get_2 _ _) (meets_dict_get (strKind X.prog X.w) d (strKind_is X.prog X.w z t) D.low) ⟨_, PySem.W.mapOf_K (prog := X.prog) I2.kIn D.at_ D.lit, ?_⟩
  rw [PySem.W.find_K D.at_ en]
  exact ⟨v, H2, I2.tok _, rv, q2⟩
/-! repr of a dict: its keys are texts, its values data, or instances of a class whose own __repr__ tells -/
theorem seqL_upP {K : PySem.W.Frag} {H H' : Hp} {a : Addr} {xs : List V} (s : ∀ b o, H b = some o → (∀ kvs, o ≠ .dK kvs) → H' b = some o) (h : SqL K H a xs) : SqL K H' a xs := by
  rcases h with (h | ⟨o, h⟩) | h
  · exact .inl (.inl (s _ _ h fun _ z => nomatch z))
  · exact .inl (.inr ⟨o, s _ _ h fun _ z => nomatch z⟩)
  · exact .inr h
theorem seqT_upP {K : PySem.W.Frag} {H H' : Hp} {a : Addr} {xs : List V} (s : ∀ b o, H b = some o → (∀ kvs, o ≠ .dK kvs) → H' b = some o) (h : SqT K H a xs) : SqT K H' a xs := by
  rcases h with (h | ⟨o, h⟩) | h
  · exact .inl (.inl (s _ _ h fun _ z => nomatch z))
  · exact .inl (.inr ⟨o, s _ _ h fun _ z => nomatch z⟩)
  · exact .inr h
mutual
theorem Dp.upP {K : PySem.W.Frag} {H H' : Hp} (s : ∀ b o, H b = some o → (∀ kvs, o ≠ .dK kvs) → H' b = some o) : ∀ (d : PyData) (v : V), Dp K H v d → Dp K H' v d
  | .none, _, h => by cases h; exact .non
  | .bool b, _, h => by cases h; exact .bl b
  | .int i, _, h => by cases h; exact .int i
  | .str x, _, h => by cases h; exact .str x
  | .list ds, _, h => by
    cases h with
    | lst h1 h2 => exact .lst (seqL_upP s h1) (Dp.upPs s ds _ h2)
  | .tuple ds, _, h => by
    cases h with
    | tup h1 h2 => exact .tup (seqT_upP s h1) (Dp.upPs s ds _ h2)
  | .dict _, _, h => by cases h
theorem Dp.upPs {K : PySem.W.Frag} {H H' : Hp} (s : ∀ b o, H b = some o → (∀ kvs, o ≠ .dK kvs) → H' b = some o) : ∀ (ds : List PyData) (vs : List V), DpAll K H vs ds → DpAll K H' vs ds
  | [], _, h => by cases h; exact .nil
  | d :: ds, _, h => by
    cases h with
    | cons h1 h2 => exact .cons (Dp.upP s d _ h1) (Dp.upPs s ds _ h2)
end
/-- a dict is locked: data do not see it -/
theorem Dp.locked {K : PySem.W.Frag} {H : Hp} {a : Addr} {kvs : List (Key × V)} {o : HO} {v : V} {d : PyData} (ha : H a = some (.dK kvs)) (h : Dp K H v d) : Dp K (upd H a o) v d :=
  Dp.upP (fun b u e n => by
    rw [upd_ne (fun z => n kvs (Option.some.inj (e.symm.trans (by rw [z]; exact ha))))]
    exact e) d v h
theorem reads_val {h : Heap} {u : Value} : ∀ {vs : List Value} {ds : List PyData} {as : List Addr}, ReadsAll h vs ds as → u ∈ vs → ∃ d, d ∈ ds ∧ ∃ bs, Reads h u d bs
  | _, _, _, .nil, m => nomatch m
  | _, _, _, .cons r rs, m => by
    rcases List.mem_cons.mp m with e | m
    · subst e
      exact ⟨_, List.mem_cons_self, _, r⟩
    · obtain ⟨d, m1, bs, r1⟩ := reads_val rs m
      exact ⟨d, List.mem_cons_of_mem _ m1, bs, r1⟩
section
variable {X : Cx} {pins : List (Addr × Obj)} {σ : L2.St} {H : Hp} {s : Shared}
theorem rep_data {a : Addr} {o : Obj} {es : Array DictEntry} {ep : Nat} {u : Value} {v : V} {d : PyData} {bs0 : Nat} {A' : Around} {id : String} {rest : List Value} {E : Value → Shared → Prop} {Q : Str → Shared → Prop} (I : Inv X pins σ H s) (ha : s.heap.get? a = some o) (hc : o.cls = .type "dict")
    (hd : o.data = .dict es ep) (hm : u ∈ es.toList.map (·.val)) (hdp : Dp X.K H v d) (hp : Prn d) (r : RelV v u) (hb : bs0 + d.shown.length ≤ sizeLine) (hg : A'.guards = some [.builtin id ⟨.ref a :: rest, []⟩]) (hu : A'.units + d.depth < cLine)
    (q : ∀ s', Inv X pins σ H s' → s'.heap.get? a = some o → Q d.shown s') : wpAny (model X.prog X.w) A' (pyReprUnder bs0 u) Q E s := by
  obtain ⟨as, rd⟩ := Dp.reads I d v u hdp r
  obtain ⟨bs, hbs, hk⟩ := ReprK.of_reads (prog := X.prog) (w := X.w) rd hp.sh (PyData.noDict_hsm hp.nd) hp.sz
  have na : a ∉ bs := by
    intro hm2
    obtain ⟨d', as', r', hd'⟩ := hbs a hm2
    cases r' with
    | list h1 h2 h3 h4 =>
      rw [ha] at h1
      cases h1
      rw [hc] at h2
      exact absurd h2 (by decide)
    | tuple h1 h2 h3 h4 =>
      rw [ha] at h1
      cases h1
      rw [hc] at h2
      exact absurd h2 (by decide)
    | dict h1 h2 h3 h4 h5 =>
      rename_i o' es' n' kvs' as1 bs1
      rw [ha] at h1
      cases h1
      rw [hd] at h3
      cases h3
      obtain ⟨d2, m2, bs2, r2⟩ := reads_val h5 hm
      obtain ⟨e, _⟩ := PyProof.Rows.reads_det (fun _ _ e _ => e) rd r2
      subst e
      have l1 := depth_mem m2
      have l2 := PyData.depthAll_vals_le kvs'
      simp only [PyData.depth] at hd'
      omega
  exact hk bs0 hb A' _ E s Q hg (fun b hb => (Clear.nil b).cons fun e => na (by rw [e]; exact hb)) hu (fun _ _ e => e) fun h' tk kp => q _ (I.kept kp) (kp _ _ ha)
theorem boundBy_fn {M : Model} {A : Around} {E : Value → Shared → Prop} {last : Value → List Value → Sem Value} {x C f : Addr} {ox : Obj} {od : Option Obj} {name : Str} {K : PySem.W.Frag} {Q : Option Value → Shared → Prop} (X : K.In s.heap) (I : PySem.W.InstAt s.heap x ox C od)
    (hs : PySem.W.findIn K (.ref C) name = some (some (.ref f))) (hf : PySem.W.isFn K (.ref f) = true) (h : wpAny M A (last (.ref f) [.ref x]) (fun v => Q (some v)) E s) : wpAny M A (callSpecialIfBoundBy? last (.ref x) name) Q E s := by
  simp only [callSpecialIfBoundBy?, bindSpecialIfBound?]
  refine wpAny_holding (wpAny_bind (wpAny_bind (wpAny_bind (I.type.here ((PySem.W.looks_findIn X hs).here ?_)))))
  refine wpAny_bind (wpAny_askSetting (wpAny_ite ?_))
  have fin : wpAny M A (do let v ← last (.ref f) [.ref x]; pure (some v)) Q E s := wpAny_bind (wpAny_mono h (fun _ _ z => wpAny_pure z) fun _ _ z => z)
  have bd := PySem.W.bind_fn (M := M) X (.ref x) (beq_iff_eq.mp hf)
  split
  · exact wpAny_bind (bd.here (wpAny_pure (by exact fin)))
  · exact wpAny_tryCatch (wpAny_bind (bd.here (wpAny_pure (by exact fin))))
theorem rep_own {C fR b dx : Addr} {fs : List (Str × V)} {k : Nat} {fd : FuncData} {sp : Sp} {bs0 : Nat} {t : Str} {A' : Around} {E : Value → Shared → Prop} {Q : Str → Shared → Prop} (m : Meth X.K C "__repr__" fR) (F : FnOk X.prog X.w X.K X.mg X.base CX0 k fR fd ["self"] sp) (hbd : Binds X.K fd ["self"] [])
    (I : Inv X pins σ H s) (hb : H b = some (.ins C dx fs)) (hr : Room k A') (hf : A'.frames = some X.stack) (h0 : bs0 ≤ sizeLine) (hsp : sp [.ref b] H (fun u H' => u = .str t ∧ H' = H) E0) (q : ∀ s', Inv X pins σ H s' → Q t s') :
    wpAny (model X.prog X.w) A' (pyReprUnder bs0 (.ref b)) Q E s := by
  obtain ⟨ox, od, J⟩ := inst_at I hb
  have e0 := I.env0
  have run := run_at (E' := E) (σ := σ) (pins := pins) F hr ⟨hf, e0.mod, e0.bs, e0.bsz, e0.funs, e0.frf, e0.hok, e0.bare⟩ hbd I (show Vals [V.ref b] [Value.ref b] from .cons rfl .nil) hsp
  refine wpAny_pyReprUnder_ref h0 ?_
  unfold pyReprObjUnder pyReprObjBy
  refine wpAny_bind (wpAny_cRoomFor (by have := hr.units; omega) ?_)
  refine wpAny_bind (m := specialOf (.ref b) (Str.ofString "__repr__")) (wpAny_bind (J.type.here ((PySem.W.looks_findIn I.kIn m.at_).here ?_)))
  show wpAny _ _ (if (some (Value.ref fR)).isNone = true then _ else _) _ _ _
  rw [if_neg (by simp)]
  refine wpAny_bind (m := callSpecialIfBoundBy? _ (.ref b) (Str.ofString "__repr__")) (boundBy_fn I.kIn J m.at_ m.fn (wpAny_mono run (fun r t' hq => ?_) fun _ _ z => z))
  obtain ⟨v', H', I', rv, rfl, rfl⟩ := hq
  obtain ⟨tk, rfl⟩ := (show ∃ tk, r = Value.str t tk from rv)
  refine wpAny_bind (wpAny_isInstance (typeIs_str _ _ _) isSubtype_str_str ?_)
  rw [if_pos rfl]
  exact wpAny_pure ⟨t, tk, rfl, q _ I'⟩
end
/-- how a value of a dict shows -/
def ShV (K : PySem.W.Frag) (C : Addr) (sp : Sp) (H : Hp) (v : V) (t : Str) : Prop :=
  (∃ d, Dp K H v d ∧ Prn d ∧ d.depth ≤ 40 ∧ t = d.shown) ∨ ∃ b dx fs, v = .ref b ∧ H b = some (.ins C dx fs) ∧ sp [.ref b] H (fun u H' => u = .str t ∧ H' = H) E0
def ShKV (K : PySem.W.Frag) (C : Addr) (sp : Sp) (H : Hp) (p : Key × V) (t : Str) : Prop := ∃ x y, p.1 = .inr x ∧ ShV K C sp H p.2 y ∧ t = reprText x ++ ": " ++ y
theorem ent_at {P : Program} {w : World} {K : PySem.W.Frag} {C : Addr} {sp : Sp} {H : Hp} {ks : List (Key × V)} {ts : List Str} (h : Paired (ShKV K C sp H) ks ts) : ∀ {vs : List (Key × Value)} {es : List DictEntry}, KV ks vs → Pairs (mixKind P w) es vs → ∀ (i : Nat) (e : DictEntry), es[i]? = some e →
    ∃ x y tk v, e.key = .str x tk ∧ RelV v e.val ∧ ShV K C sp H v y ∧ ts[i]? = some (reprText x ++ ": " ++ y) := by
  induction h with
  | nil =>
    intro vs es rk rp i e hi
    cases rk
    cases rp
    simp at hi
  | cons hp _ ih =>
    intro vs es rk rp i e hi
    cases rk with
    | cons r1 r2 =>
      cases rp with
      | cons p1 p2 p3 =>
        cases i with
        | zero =>
          obtain ⟨x, y, e1, e2, e3⟩ := hp
          simp only [List.getElem?_cons_zero, Option.some.injEq] at hi
          subst hi
          rw [← r1.1, e1] at p1
          obtain ⟨tk, e4⟩ := Value.isStrOf_shape p1
          exact ⟨x, y, tk, _, e4, by rw [p2]; exact r1.2, e2, by rw [e3]; rfl⟩
        | succ i =>
          obtain ⟨x, y, tk, v, q⟩ := ih r2 p3 i e (by simpa using hi)
          exact ⟨x, y, tk, v, by simpa using q⟩
theorem under_room {k : Nat} {A : Around} (r : Room (k + 1) A) (args : Args) : Room k (A.under (.builtin "dict.__repr__" args)) := by
  have e : (A.under (.builtin "dict.__repr__" args)).depth ≤ A.depth + 1 := by
    first
      | exact Nat.le_of_eq (by rfl)
      | (simp [Around.under, Code.weight, Code.isCreation, Code.isGuard, Code.isCaller, Code.frames, Code.isFrame, guardIds])
  exact ⟨r.hd, by have := r.dp; omega, by have := r.un; rw [units_under_dict_repr]; omega⟩
section
variable {X : Cx} {pins : List (Addr × Obj)} {σ : L2.St} {H : Hp} {s : Shared} {C fR : Addr} {k : Nat} {fd : FuncData} {sp : Sp}
theorem dict_rep {a : Addr} {o : Obj} {kvs : List (Key × V)} {ts : List Str} {A : Around} {E : Value → Shared → Prop} {Q : Value → Shared → Prop} (m : Meth X.K C "__repr__" fR) (F : FnOk X.prog X.w X.K X.mg X.base CX0 k fR fd ["self"] sp) (hbd : Binds X.K fd ["self"] [])
    (I : Inv X pins σ H s) (ha : H a = some (.frz o (.dK kvs))) (hp : Paired (ShKV X.K C sp H) kvs ts) (hz : (dictText ts).length ≤ sizeLine) (hr : Room (k + 1) A) (hf : A.frames = some X.stack) (hg : A.guards = some [])
    (q : ∀ u s', Inv X pins σ H s' → Q (.str (dictText ts) u) s') : wpAny (model X.prog X.w) A (call (.builtin "dict.__repr__") [.ref a]) Q E s := by
  obtain ⟨ho, hlen, hsys, vs, rk, ⟨o2, es, ep, ho2, hex, hd, hko, hpr, hnd⟩⟩ := I.hok a _ ha
  rw [ho] at ho2
  cases ho2
  have hun := hr.un
  have hts : ts.length = es.size := by
    have l1 := Paired.length hp
    have l2 := Paired.length rk
    have l3 := hpr.length
    rw [Array.length_toList] at l3
    omega
  have hpl := piled_le_dictText ts
  refine wpAny_call (codeAny_call_builtin_own (Code.quiet_builtin _ (by decide +kernel)) PySem.F.entry_dict_repr (PySem.F.slot_dict_repr.check _ _ _ _ _ _ _ _ ⟨o, ho, hex.1⟩ (PySem.F.args_dict_repr_1 _) ?_))
  show wpOwn _ A _ (Builtin.dictReprAt 0 ⟨[.ref a], []⟩) _ _ s
  unfold Builtin.dictReprAt
  refine wpOwn_bind (wpOwn_of_wpAny ?_)
  unfold Builtin.Dict.dictSlotNone
  refine wpAny_bind (wpAny_notOrdered_dict ⟨o, ho, hex.1⟩ ?_)
  show wpAny _ _ (pure (Value.ref a)) _ _ s
  refine wpAny_pure ?_
  rw [dictReprRunning_eq]
  refine wpOwn_bind (wpOwn_stackTailAny hg (dictGuardF_off _) (dictGuardF_pos _) ?_)
  refine wpOwn_of_wpAny ?_
  have hg1 := guards_under_guard (isGuard_dict_repr ⟨[.ref a], []⟩) hg
  have hr1 := under_room hr ⟨[.ref a], []⟩
  have hu1 : (A.under (.builtin "dict.__repr__" ⟨[.ref a], []⟩)).units = A.units + 1 := units_under_dict_repr _ _
  show wpAny _ _ (Builtin.Dict.addrOf (.ref a) >>= _) _ _ s
  refine wpAny_bind (wpAny_pure ?_)
  show wpAny _ _ (Builtin.Dict.showsAll a >>= _) _ _ s
  unfold Builtin.Dict.showsAll
  rw [if_neg (by rw [hsys]; simp)]
  refine wpAny_bind (wpAny_pure ?_)
  refine wpAny_bind (wpAny_dictEpoch ho hd ?_)
  refine wpAny_bind (wpAny_dictEntries ho hd ?_)
  refine wpAny_bind ?_
  rw [Std.Legacy.Range.forIn_eq_forIn_range']
  simp only [Std.Legacy.Range.size, Nat.sub_zero, Nat.add_sub_cancel, Nat.div_one]
  refine wpAny_forIn_list _ (fun l r s' => ∃ i, l = List.range' i (es.size - i) ∧ i ≤ es.size ∧ r = (⟨(ts.take i).toArray, piled (ts.take i)⟩ : (Array Str × Nat)) ∧ Inv X pins σ H s') _ ?_ ?_ _ _ ⟨0, by simp, Nat.zero_le _, by simp [piled], I⟩
  · rintro j l _ s1 ⟨i, el, hi, rfl, I1⟩
    have hlt : i < es.size := by
      rcases Nat.lt_or_ge i es.size with h | h
      · exact h
      · rw [Nat.sub_eq_zero_of_le h] at el
        simp at el
    have es1 : es.size - i = (es.size - (i + 1)) + 1 := by omega
    rw [es1, List.range'_succ] at el
    injection el with ej el
    subst ej
    obtain ⟨ho1, _⟩ := I1.hok a _ ha
    obtain ⟨x, y, tk, v, ek, rv, sv, et⟩ := ent_at hp rk hpr j es[j] (by simp [hlt])
    have lt3 : (reprText x ++ ": " ++ y).length = (reprText x).length + 2 + y.length := by
      rw [Str.length_append, Str.length_append]
      rfl
    have p1 := piled_take_succ et
    have p2 := piled_take_le ts (j + 1)
    rw [lt3] at p1
    refine wpAny_bind (wpAny_dictEntries ho1 hd ?_)
    rw [Array.getElem?_eq_getElem hlt]
    have fin : ∀ (E2 : Value → Shared → Prop) s2, Inv X pins σ H s2 → wpAny (model X.prog X.w) (A.under (.builtin "dict.__repr__" ⟨[.ref a], []⟩)) (pyReprUnder (piled (ts.take j) + ((reprText x).length + 3)) es[j].val) (fun z s3 => z = y ∧ Inv X pins σ H s3) E2 s2 := by
      intro E2 s2 I2
      rcases sv with ⟨d, h1, h2, h3, rfl⟩ | ⟨b, dx, fs, rfl, h1, h2⟩
      · obtain ⟨ho3, _⟩ := I2.hok a _ ha
        exact rep_data I2 ho3 hex.1 hd (List.mem_map_of_mem (by simp)) h1 h2 rv (by omega) hg1 (by rw [hu1]; omega) fun s3 I3 _ => ⟨rfl, I3⟩
      · rw [show es[j].val = Value.ref b from rv]
        exact rep_own m F hbd I2 h1 hr1 hf (by omega) h2 fun s3 I3 => ⟨rfl, I3⟩
    refine wpAny_bind (wpAny_holding (wpAny_bind ?_))
    rw [ek]
    refine ReprIs.str x tk (by omega) (piled (ts.take j) + 1) (by omega) _ _ _ _ fun tk2 => ?_
    refine wpAny_bind (wpAny_mono (fin _ _ (I1.tok tk2)) (fun z s3 hz3 => ?_) fun _ _ z => z)
    obtain ⟨rfl, I3⟩ := hz3
    refine wpAny_pure ?_
    obtain ⟨ho3, _⟩ := I3.hok a _ ha
    refine wpAny_bind (wpAny_dictEpoch ho3 hd ?_)
    rw [if_neg (by simp)]
    refine wpAny_pure ⟨j + 1, el, hlt, ?_, I3⟩
    have e1 : (ts.take j).toArray.push (reprText x ++ ": " ++ z) = (ts.take (j + 1)).toArray := by
      rw [List.take_add_one, et]
      simp
    have e2 : piled (ts.take j) + ((reprText x).length + z.length + 4) = piled (ts.take (j + 1)) := by omega
    rw [e1, e2]
  · rintro _ s1 ⟨i, el, hi, rfl, I1⟩
    have hin : i = es.size := by
      rcases Nat.lt_or_ge i es.size with h | h
      · have es1 : es.size - i = (es.size - (i + 1)) + 1 := by omega
        rw [es1, List.range'_succ] at el
        cases el
      · omega
    rw [hin, ← hts, List.take_length]
    refine wpAny_bind (wpAny_mkStr (wpAny_pure ?_) (by simpa [dictText] using hz))
    have fin := q s1.toks _ (I1.tok (s1.toks + 1))
    simpa [dictText] using fin
/-- repr(d): the dict's values are data, or instances of the class -/
def rRepDict (K : PySem.W.Frag) (C : Addr) (sp : Sp) : List V → Hp → VK → Prop := fun xs H Q => ∃ a kvs ts, xs = [.ref a] ∧ H a = some (.dK kvs) ∧ (∀ o, Paired (ShKV K C sp (upd H a (.frz o (.dK kvs)))) kvs ts) ∧ (dictText ts).length ≤ sizeLine ∧ Q (.str (dictText ts)) H
theorem upd_back {H : Hp} {a : Addr} {o u : HO} (h : H a = some u) : upd (upd H a o) a u = H := by
  funext b
  by_cases e : b = a
  · rw [e, upd_same, h]
  · rw [upd_ne e, upd_ne e]
theorem call_repDict (m : Meth X.K C "__repr__" fR) (F : FnOk X.prog X.w X.K X.mg X.base CX0 k fR fd ["self"] sp) (hbd : Binds X.K fd ["self"] []) (hr : Room (k + 2) X.A) (gd : X.A.guards = some []) : CallR X (.builtin "repr") (rRepDict X.K C sp) := by
  intro pins s σ H xs us Q I r h
  obtain ⟨a, kvs, ts, rfl, ha, hp, hz, q⟩ := h
  obtain ⟨u, rfl, ru⟩ := vals1 r
  cases (show u = Value.ref a from ru)
  have mu : Mut (some (.dK kvs)) := trivial
  obtain ⟨od, I1⟩ := I.lock ha mu
  obtain ⟨ho, _, _, _, _, ⟨o2, _, _, ho2, hex, _⟩⟩ := I1.hok a _ upd_same
  rw [ho] at ho2
  cases ho2
  have hun := hr.un
  refine call_repr_slot (idr := "dict.__repr__") (by omega) ⟨od, ho, hex.1⟩ PySem.F.slot_dict_repr ?_
  refine dict_rep m F hbd I1 upd_same (hp od) hz hr.in1 (by exact I.env0.frames) (by exact gd) fun u s' I2 => ⟨_, u, rfl, .str (dictText ts), H, ?_, ⟨u, rfl⟩, q⟩
  have I3 := I2.unlock upd_same (I.nofrz ha mu)
  rw [upd_back ha] at I3
  exact I3
end
open AutoSeq1 (wpAny_loadPart')
/-! ==, != of things that are equal: data, tuples, lists, dicts, one object; nested -/
def EqS (K : PySem.W.Frag) (H : Hp) (E : V → V → Prop) (x y : V) : Prop :=
  EqR K H E x y ∨ ∃ a b xs ys, x = .ref a ∧ y = .ref b ∧ SqT K H a xs ∧ SqT K H b ys ∧ Paired E xs ys
def EqW (K : PySem.W.Frag) (H : Hp) : Nat → V → V → Prop
  | 0 => fun _ _ => False
  | n + 1 => fun x y => (x = y ∧ flatB x = true) ∨ (∃ a, x = .ref a ∧ y = .ref a) ∨ (∃ d, Dp K H x d ∧ Dp K H y d ∧ SeqAt.shaped d = true) ∨ EqS K H (EqW K H n) x y
section
variable {prog : Program} {w : World} {A : Around} {R : Result → Shared → Prop}
theorem tup_ne_run (l b : Addr) (us vs : Array Value) (n m : Nat) (dd ee : Option Addr) (sl sm : Array (Option Value)) (hsz : us.size = vs.size) {s : Shared} (turn : ∀ i (h1 : i < us.size) (h2 : i < vs.size), SeqAt.EqP prog w A.in1 s us[i] vs[i] true)
    (fin : R (.ok (.ret (.bool false))) s) (hl : s.heap.get? l = some { cls := .type "tuple", dict := dd, data := .seq us n, slots := sl }) (hb : s.heap.get? b = some { cls := .type "tuple", dict := ee, data := .seq vs m, slots := sm }) :
    wpAny (model prog w) A.in1 (Builtin.«tuple.__ne__» ⟨[.ref l, .ref b], []⟩) (GQ.FinOf prog w A R) (fun e s' => R (.error e) s') s := by
  have f2 := AutoSeq1.sub_tuple_tuple
  have zl : (us.toList.zip vs.toList).length = us.size := by simp [hsz]
  obtain ⟨hp, g, d, tk, os⟩ := s
  wp_walk using wpAny_loadPart' hl, wpAny_loadPart' hb, wpAny_forIn_list _ (fun rest c s' => c.1 = none ∧ s' = ⟨hp, g, d, tk, os⟩ ∧ ∃ i, rest = (us.toList.zip vs.toList).drop i ∧ i ≤ us.size) _
  case turn =>
    rintro ⟨y, x⟩ rest c s' ⟨hc, rfl, i, hz, hi⟩
    have hlt : i < (us.toList.zip vs.toList).length := by
      rcases Nat.lt_or_ge i (us.toList.zip vs.toList).length with h | h
      · exact h
      · rw [List.drop_of_length_le h] at hz
        cases hz
    have h1 : i < us.size := zl ▸ hlt
    have h2 : i < vs.size := hsz ▸ h1
    rw [List.drop_eq_getElem_cons hlt] at hz
    injection hz with hyx hrest
    have ey : y = us[i] := by simpa using congrArg Prod.fst hyx
    have ex : x = vs[i] := by simpa using congrArg Prod.snd hyx
    subst ey ex
    refine wpAny_bind (turn i h1 h2 _ _ ?_)
    wp_walk
    exact ⟨rfl, rfl, i + 1, hrest, h1⟩
  case fin =>
    rintro ⟨c1, c2⟩ s' ⟨hc, rfl, i, hz, hi⟩
    simp only at hc
    subst hc
    wp_walk
    simpa [Builtin.Tuple.tupleCompareSizes, hsz, bne] using fin
  case h =>
    exact ⟨rfl, rfl, 0, rfl, Nat.zero_le _⟩
end
section
variable {X : Cx} {pins : List (Addr × Obj)} {σ : L2.St} {H : Hp} {s : Shared}
theorem eqS_run (I : Inv X pins σ H s) {A : Around} {F : V → V → Prop} (hu : A.units < cLine) (ih : ∀ x y v u, F x y → RelV x v → RelV y u → SeqAt.EqP X.prog X.w A.in1 s v u true) {x y : V} {v u : Value} (h : EqS X.K H F x y) (rx : RelV x v) (ry : RelV y u)
    (E Q : Value → Shared → Prop) (q : Q (.bool true) s) : wpAny (model X.prog X.w) A (richCompare .Eq v u) Q E s := by
  rcases h with h | ⟨a, b, xs, ys, rfl, rfl, ha, hb, hp⟩
  · exact eqR_run I hu ih h rx ry E Q q
  · cases (show v = Value.ref a from rx)
    cases (show u = Value.ref b from ry)
    obtain ⟨us, r1, p1, _⟩ := I.tuple ha
    obtain ⟨ws, r2, p2, _⟩ := I.tuple hb
    have hsz : us.toArray.size = ws.toArray.size := by
      rw [List.size_toArray, List.size_toArray, ← r1.length, ← r2.length]
      exact Paired.length hp
    refine GQ.rc_tupG hsz hu (fun _ s' => s' = s) p1 p2 (fun i h1 h2 s' e => ?_) (fun s' e => by rw [e]; exact q) rfl
    subst e
    have k := items_run ih hp r1 r2 i (by simpa using h1) (by simpa using h2)
    have k2 : SeqAt.EqP X.prog X.w A.in1 s' us.toArray[i] ws.toArray[i] true := by simpa using k
    exact k2 _ _ ⟨rfl, rfl⟩
theorem eqW_run (I : Inv X pins σ H s) : ∀ (n : Nat) (A : Around), A.units + n + 64 < cLine → ∀ (x y : V) (v u : Value), EqW X.K H n x y → RelV x v → RelV y u → SeqAt.EqP X.prog X.w A s v u true
  | 0, _, _, _, _, _, _, h, _, _ => (show False from h).elim
  | n + 1, A, hu, x, y, v, u, h, rx, ry => by
    rcases h with ⟨rfl, f⟩ | ⟨a, rfl, rfl⟩ | ⟨d, h1, h2, sd⟩ | h
    · exact (eqAt_same rx ry f).eqP
    · cases (show v = Value.ref a from rx)
      cases (show u = Value.ref a from ry)
      exact (SeqAt.EqAt.same _).eqP
    · obtain ⟨as, r1⟩ := Dp.reads I d x v h1 rx
      obtain ⟨bs, r2⟩ := Dp.reads I d y u h2 ry
      have k := SeqAt.eqAt_reads d d A s v u as bs r1 r2 (SeqAt.canLay_of_shaped sd) (SeqAt.canLay_of_shaped sd) (SeqAt.room_of_shaped sd (by omega))
      rw [SeqAt.eqv_refl d (SeqAt.canLay_of_shaped sd)] at k
      exact k.eqP
    · have step := eqS_run I (A := A) (by omega) (eqW_run I n A.in1 (by show A.units + 1 + n + 64 < cLine; omega)) h rx ry
      obtain ⟨a, b, rfl, rfl⟩ : ∃ a b, x = .ref a ∧ y = .ref b := by
        rcases h with (⟨a, b, _, _, e1, e2, _⟩ | ⟨a, b, _, _, e1, e2, _⟩) | ⟨a, b, _, _, e1, e2, _⟩
        · exact ⟨a, b, e1, e2⟩
        · exact ⟨a, b, e1, e2⟩
        · exact ⟨a, b, e1, e2⟩
      cases (show v = Value.ref a from rx)
      cases (show u = Value.ref b from ry)
      by_cases e : a = b
      · subst e
        exact (SeqAt.EqAt.same _).eqP
      · exact SeqAt.eqP_refs e step
end
section
variable {X : Cx}
/-- x == y, equal -/
def rEqS (K : PySem.W.Frag) : R2 := fun x y H Q => ∃ n, n ≤ 40 ∧ EqS K H (EqW K H n) x y ∧ Q (.bl true) H
theorem op_eqS (hu : X.A.units + 120 < cLine) : OpR X (compareOp .Eq) (rEqS X.K) := by
  intro pins s σ H x y v u Q I rx ry h
  obtain ⟨n, hn, h, q⟩ := h
  exact eqS_run I (A := X.A) (by omega) (eqW_run I n X.A.in1 (by show X.A.units + 1 + n + 64 < cLine; omega)) h rx ry _ _ ⟨.bl true, H, I, rfl, q⟩
/-- x != y, two tuples or two dicts that are equal -/
def rNeS (K : PySem.W.Frag) : R2 := fun x y H Q => ∃ n a b, n ≤ 40 ∧ x = .ref a ∧ y = .ref b ∧ ((∃ xs ys, SqT K H a xs ∧ SqT K H b ys ∧ Paired (EqW K H n) xs ys) ∨
  ∃ ks ls, H a = some (.dK ks) ∧ H b = some (.dK ls) ∧ ks.length = ls.length ∧ ∀ p ∈ ks, ∃ u, valV ls p.1 = some u ∧ EqW K H n p.2 u) ∧ Q (.bl false) H
theorem op_neS (hu : X.A.units + 120 < cLine) : OpR X (compareOp .NotEq) (rNeS X.K) := by
  intro pins s σ H x y v u Q I rx ry h
  obtain ⟨n, a, b, hn, rfl, rfl, h, q⟩ := h
  cases (show v = Value.ref a from rx)
  cases (show u = Value.ref b from ry)
  have ih := eqW_run I n X.A.in1 (by show X.A.units + 1 + n + 64 < cLine; omega)
  rcases h with ⟨xs, ys, ha, hb, hp⟩ | ⟨ks, ls, ha, hb, hl, hp⟩
  · obtain ⟨us, r1, p1, _⟩ := I.tuple ha
    obtain ⟨ws, r2, p2, _⟩ := I.tuple hb
    have hsz : us.toArray.size = ws.toArray.size := by
      rw [List.size_toArray, List.size_toArray, ← r1.length, ← r2.length]
      exact Paired.length hp
    obtain ⟨⟨c1, dd, da, sl⟩, ho, hc, m1, hd⟩ := p1
    obtain ⟨⟨c2, ee, db, sm⟩, ho2, hc2, m2, hd2⟩ := p2
    simp only at hc hd hc2 hd2
    subst hc hd hc2 hd2
    refine wpAny_richCompare_same_room (op := .NotEq) ⟨_, ho, rfl⟩ ⟨_, ho2, rfl⟩ F.slot_tuple_ne (GQ.call_here F.slot_tuple_ne ⟨_, ho, rfl⟩ F.entry_tuple_ne (F.args_tuple_ne_2 _ _) ?_) (by omega)
    refine tup_ne_run (R := wants (fun v s' => v ≠ .notImplemented ∧ EP X pins σ Q v s') X.xe) a b us.toArray ws.toArray m1 m2 dd ee sl sm hsz (fun i h1 h2 => ?_) (show _ ∧ _ from ⟨(fun z => nomatch z), (.bl false : V), H, I, rfl, q⟩) ho ho2
    have k := items_run ih hp r1 r2 i (by simpa using h1) (by simpa using h2)
    simpa using k
  · obtain ⟨_, ya, va, ra, da⟩ := (show ObjOk X.prog X.w H s.heap a (.dK ks) from I.hok a _ ha)
    obtain ⟨_, yb, vb, rb, db⟩ := (show ObjOk X.prog X.w H s.heap b (.dK ls) from I.hok b _ hb)
    have hl2 : va.length = vb.length := by rw [← ra.length, ← rb.length]; exact hl
    refine wpAny_richCompare_same_room (op := .NotEq) da.typeIs db.typeIs PySem.F.slot_dict_ne (wpAny_call_entry PySem.F.slot_dict_ne da.typeIs PySem.F.entry_dict_ne ?_ (PySem.F.args_dict_ne_2 _ _)) (by omega)
    show wpAny _ _ (Builtin.Dict.dictSlotArgs "__ne__" ⟨[.ref a, .ref b], []⟩ >>= _) _ _ s
    refine wpAny_bind ?_
    unfold Builtin.Dict.dictSlotArgs
    refine wpAny_bind (wpAny_notOrdered_dict da.typeIs (wpAny_pure ?_))
    refine wpAny_bind (wpAny_isInstance (T := "dict") db.typeIs PySem.F.sub_dict_dict ?_)
    simp only [Bool.not_true, Bool.false_eq_true, if_false]
    refine wpAny_bind (wpAny_pure (wpAny_bind (wpAny_pure ?_)))
    refine wpAny_bind (PySem.W.samePairsP (knd := mixKind X.prog X.w) (r := true) ya yb da db (fun _ => hits_run (A := X.A.in1) ih rb ra hp) ?_)
    refine wpAny_pure ⟨_, rfl, ?_, ?_⟩
    · exact fun x => nomatch x
    · have e : ((va.length == vb.length && true) == false) = false := by simp [hl2]
      rw [e]
      exact ⟨.bl false, H, I, rfl, q⟩
end
/-! sorted(l) of places: tuples of a text and whole numbers -/
abbrev Pl := Str × List Nat
def plW (p : Pl) : List V := .str p.1 :: p.2.map fun k : Nat => V.int k
def keyP (p : Pl) : List (Int ⊕ List Nat) := .inr p.1.cps.toList :: p.2.map fun k : Nat => .inl (k : Int)
def ltPl (p q : Pl) : Bool := lexLt itemOrd (keyP p) (keyP q)
theorem keyP_inj {p q : Pl} (h : keyP p = keyP q) : p = q := by
  obtain ⟨n, ks⟩ := p
  obtain ⟨m, ls⟩ := q
  unfold keyP at h
  have h1 := Sum.inr.inj (List.cons.inj h).1
  have h2 := (List.cons.inj h).2
  have e1 : n = m := by
    cases n
    cases m
    simp only at h1
    rw [Str.mk.injEq]
    exact Array.toList_inj.mp h1
  have e2 : ks = ls := by
    clear h h1 e1
    simp only at h2
    induction ks generalizing ls with
    | nil =>
      cases ls with
      | nil => rfl
      | cons l ls => cases h2
    | cons k ks ih =>
      cases ls with
      | nil => cases h2
      | cons l ls =>
        have a := (List.cons.inj h2).1
        have b := (List.cons.inj h2).2
        have : k = l := by have := Sum.inl.inj a; omega
        rw [this, ih _ b]
  rw [e1, e2]
theorem ltPl_total {p q : Pl} (h : ltPl p q = false) (k : ltPl q p = false) : p = q := keyP_inj (lex_total _ _ h k)
theorem ltPl_swo {α : Type} (k : α → Pl) : SrtO.Swo fun x y => ltPl (k x) (k y) := by
  refine ⟨fun x y h => ?_, fun x y z h1 h2 => ?_⟩
  · cases e : ltPl (k y) (k x) with
    | false => rfl
    | true =>
      have z := lex_trans _ _ _ h e
      rw [lex_irrefl] at z
      cases z
  · cases e : ltPl (k z) (k x) with
    | false => rfl
    | true =>
      rcases lex_negTrans _ (keyP (k y)) _ e with a | a
      · exact absurd a (by rw [show lexLt itemOrd (keyP (k z)) (keyP (k y)) = false from h2]; decide)
      · exact absurd a (by rw [show lexLt itemOrd (keyP (k y)) (keyP (k x)) = false from h1]; decide)
/-- two sorted lists of the same members are one -/
theorem srt_uniq : ∀ {ps qs : List Pl}, SrtO.Srtd ltPl ps → SrtO.Srtd ltPl qs → ps.Perm qs → ps = qs
  | [], qs, _, _, h => (List.Perm.eq_nil h.symm).symm
  | p :: ps, [], _, _, h => absurd h.length_eq (by simp)
  | p :: ps, q :: qs, h1, h2, h => by
    have e : p = q := by
      rcases List.mem_cons.mp (h.mem_iff.mp List.mem_cons_self) with a | a
      · exact a
      · rcases List.mem_cons.mp (h.mem_iff.mpr (List.mem_cons_self (a := q) (l := qs))) with b | b
        · exact b.symm
        · exact ltPl_total (SrtO.srtd_head h2 p a) (SrtO.srtd_head h1 q b)
    subst e
    rw [srt_uniq (List.pairwise_cons.mp h1).2 (List.pairwise_cons.mp h2).2 h.cons_inv]
def shp (i : Nat) : Bool := i == 0
def IsPl (h : Heap) (v : Value) (p : Pl) : Prop := ∃ a o its n x t, v = .ref a ∧ h.get? a = some o ∧ o.cls = .type "tuple" ∧ o.data = .seq its n ∧ tupItems shp 0 its.toList = some (keyP p) ∧ its[0]? = some (.str x t)
theorem items_nats : ∀ {ks : List Nat} {us : List Value} {i : Nat}, 0 < i → Vals (ks.map fun k : Nat => V.int k) us → tupItems shp i us = some (ks.map fun k : Nat => .inl (k : Int))
  | [], _, _, _, h => by cases h; rfl
  | k :: ks, _, i, hi, h => by
    cases h with
    | cons r t =>
      obtain ⟨tk, rfl⟩ := r
      have e : shp i = false := by
        unfold shp
        exact beq_eq_false_iff_ne.mpr (by omega)
      have ih := items_nats (i := i + 1) (by omega) t
      unfold tupItems
      rw [if_neg (by rw [e]; decide), ih]
      rfl
theorem isPl_of {h : Heap} {a : Addr} {o : Obj} {its : List Value} {n : Nat} {p : Pl} (ho : h.get? a = some o) (hc : o.cls = .type "tuple") (hd : o.data = .seq its.toArray n) (hv : Vals (plW p) its) : IsPl h (.ref a) p := by
  obtain ⟨x, ks⟩ := p
  cases hv with
  | cons r t =>
    obtain ⟨tk, rfl⟩ := r
    refine ⟨a, o, _, n, x, tk, rfl, ho, hc, hd, ?_, rfl⟩
    have ih := items_nats (i := 1) (by omega) t
    show tupItems shp 0 (Value.str x tk :: _) = _
    unfold tupItems
    rw [if_pos (by rfl), ih]
    rfl
section
open PySem.W
variable {prog : Program} {w : World} {A : Around} {s : Shared}
theorem pl_cmp {vs : List Value} {k : Value → Pl} (hp : ∀ v ∈ vs, IsPl s.heap v (k v)) : SrtO.Cmp prog w A s (tuples' true) (fun p => p.1 ∈ vs) (SrtO.lt2 fun v u => ltPl (k v) (k u)) := by
  intro p q hm hm'
  obtain ⟨a, o, its, n, x, t, e1, ho, hc, hd, hi, _⟩ := hp _ hm
  obtain ⟨b, o2, its2, n2, x2, t2, e2, ho2, hc2, hd2, hi2, _⟩ := hp _ hm'
  show wpAny (model prog w) A (keyLt' (tuples' true) p.1 q.1) (fun r s' => s' = s ∧ r = ltPl (k p.1) (k q.1)) (fun _ _ => False) s
  have e1 : p.1 = .ref a := e1
  have e2 : q.1 = .ref b := e2
  rw [e1] at hi ⊢
  rw [e2] at hi2 ⊢
  refine PySem.W.kat_lt ho hd ho2 hd2 ?_
  refine tup_lex _ _ 0 _ _ hi hi2 (by rw [Array.length_toList, Array.length_toList]) ⟨rfl, rfl⟩
theorem pl_firsts {h : Heap} : ∀ {vs : List Value} {k : Value → Pl}, (∀ v ∈ vs, IsPl h v (k v)) → ∃ fs, PySem.W.KatTups h vs fs ∧ fs.length = vs.length ∧ ∀ f ∈ fs, ∃ x t, f = .str x t
  | [], _, _ => ⟨[], trivial, rfl, fun _ z => nomatch z⟩
  | v :: vs, k, hp => by
    obtain ⟨fs, h1, h2, h3⟩ := pl_firsts (vs := vs) (k := k) fun u hu => hp u (List.mem_cons_of_mem _ hu)
    obtain ⟨a, o, its, n, x, t, e1, ho, hc, hd, hi, h0⟩ := hp v List.mem_cons_self
    refine ⟨.str x t :: fs, ⟨⟨a, o, its, n, e1, ho, hc, hd, h0⟩, h1⟩, by rw [List.length_cons, List.length_cons, h2], fun f hf => ?_⟩
    rcases List.mem_cons.mp hf with e | e
    · exact ⟨x, t, e⟩
    · exact h3 f e
theorem pl_sortable {a : Addr} {vs : List Value} {k : Value → Pl} (h0 : 0 < vs.length) (hp : ∀ v ∈ vs, IsPl s.heap v (k v)) (ha : ∀ o, s.heap.get? a = some o → o.cls ≠ .type "tuple") : SrtO.SortableO prog w A s a vs fun v u => ltPl (k v) (k u) := by
  intro h' keep
  have hp' : ∀ v ∈ vs, IsPl h' v (k v) := fun v hm => by
    obtain ⟨b, o, its, n, x, t, e1, ho, hc, hd, hi, hx⟩ := hp v hm
    exact ⟨b, o, its, n, x, t, e1, keep b o (fun z => by subst z; exact ha o ho hc) ho, hc, hd, hi, hx⟩
  obtain ⟨fs, h1, h2, h3⟩ := pl_firsts hp'
  refine ⟨tuples' true, fun Q E hq => ?_, pl_cmp hp'⟩
  refine PySem.W.kat_kind (T := .type "str") h1 (by omega) (fun f hm => ?_) (by rfl) ?_
  · obtain ⟨x, t, rfl⟩ := h3 f hm
    exact PySem.W.Looks.now
  · have e : (Value.type "str" != Value.type "tuple") = true := by first | decide +kernel | rfl | decide
    rw [e]
    exact hq
theorem sorted_pl {l : Addr} {vs : List Value} {k : Value → Pl} {Q E : Value → Shared → Prop} (hl : s.heap.IsList l vs.toArray) (hz : vs.length ≤ sizeLine) (hp : ∀ v ∈ vs, IsPl s.heap v (k v))
    (h : ∀ (h' : Heap) (d : Addr) (out : List Value), SrtO.Srtd (fun v u => ltPl (k v) (k u)) out → SrtO.Stb (fun v u => ltPl (k v) (k u)) out vs → (∀ b o, s.heap.get? b = some o → h'.get? b = some o) → s.heap.objs.size ≤ d → (∃ n, h'.get? d = some (seqObj "list" out.toArray n)) → Q (.ref d) { s with heap := h' }) :
    wpAny (model prog w) A (call (.builtin "sorted") [.ref l]) Q E s := by
  refine SrtO.sorted_ord (ltPl_swo k) hl hz (fun h2 h₁ a ha kk => ?_) fun out hs hb => ?_
  · refine pl_sortable (s := { s with heap := h₁ }) (by omega) (fun v hm => ?_) fun o e => ?_
    · obtain ⟨b, o, its, n, x, t, e1, ho, r⟩ := hp v hm
      exact ⟨b, o, its, n, x, t, e1, (kk b o ho).2, r⟩
    · have e' : some o = some (seqObj "list" vs.toArray 0) := e.symm.trans ha
      cases e'
      intro c
      exact absurd (Value.type.inj c) (by decide)
  · exact h _ _ out hs hb (fun b o e => sortedAll_old e) (Nat.le_succ _) (sortedAll_at s.heap vs out.toArray)
end
/-- the place that stands as a tuple -/
def decV : List V → Pl
  | .str n :: xs => (n, xs.map fun x => match x with
    | .int i => i.toNat
    | _ => 0)
  | _ => ((Str.empty : Str), [])
theorem dec_pl (p : Pl) : decV (plW p) = p := by
  obtain ⟨n, ks⟩ := p
  show (n, (ks.map fun k : Nat => V.int k).map _) = (n, ks)
  rw [List.map_map]
  congr 1
  induction ks with
  | nil => rfl
  | cons k ks ih => rw [List.map_cons, ih] <;> rfl
def decA (H : Hp) (a : Addr) : Pl := match H a with
  | some (.tup xs) => decV xs
  | _ => ((Str.empty : Str), [])
theorem decA_of {H : Hp} {a : Addr} {p : Pl} (h : H a = some (.tup (plW p))) : decA H a = p := by
  unfold decA
  rw [h]
  exact dec_pl p
def plK (H : Hp) : V → Pl
  | .ref a => decA H a
  | _ => ((Str.empty : Str), [])
/-- places as tuples at these addresses -/
def PlsA (H : Hp) (bs : List Addr) (ps : List Pl) : Prop := Paired (fun (b : Addr) (p : Pl) => H b = some (.tup (plW p))) bs ps
theorem PlsA.map {H : Hp} {bs : List Addr} {ps : List Pl} (h : PlsA H bs ps) : ps = bs.map (decA H) := by
  induction h with
  | nil => rfl
  | cons a _ ih => rw [List.map_cons, decA_of a, ← ih]
theorem PlsA.of_all {H : Hp} : ∀ {bs : List Addr}, (∀ b ∈ bs, ∃ p, H b = some (.tup (plW p))) → PlsA H bs (bs.map (decA H))
  | [], _ => .nil
  | b :: bs, h => by
    obtain ⟨p, hp⟩ := h b List.mem_cons_self
    refine .cons ?_ (PlsA.of_all fun c hc => h c (List.mem_cons_of_mem _ hc))
    rw [decA_of hp]
    exact hp
theorem PlsA.all {H : Hp} {bs : List Addr} {ps : List Pl} (h : PlsA H bs ps) : ∀ b ∈ bs, ∃ p, H b = some (.tup (plW p)) := by
  induction h with
  | nil => exact fun _ z => nomatch z
  | @cons c q _ _ a _ ih =>
    intro b m
    rcases List.mem_cons.mp m with e | m
    · exact ⟨q, by rw [e]; exact a⟩
    · exact ih b m
def rSortPl (K : PySem.W.Frag) : List V → Hp → VK → Prop := fun vs H Q => ∃ (a : Addr) (bs : List Addr) (ps : List Pl), vs = [V.ref a] ∧ SqL K H a (bs.map V.ref) ∧ PlsA H bs ps ∧
  ∀ cs qs p, PlsA H cs qs → qs.Perm ps → SrtO.Srtd ltPl qs → H p = none → Q (.ref p) (upd H p (.lst (cs.map V.ref)))
section
variable {X : Cx}
theorem cr_sortedPl : CallR X (.builtin "sorted") (rSortPl X.K) := by
  intro pins s σ H vs us Q I r h
  obtain ⟨a, bs, ps, rfl, hs, hx, q⟩ := h
  obtain ⟨its, rv, hl, hz⟩ := I.list hs
  obtain ⟨u, rfl, ru⟩ := vals1 r
  obtain rfl : u = Value.ref a := ru
  obtain ⟨e1, e2⟩ := refs_back rv fun x m => by
    obtain ⟨t, _, e⟩ := List.mem_map.mp m
    exact ⟨t, e.symm⟩
  have mem : ∀ t, Value.ref t ∈ its → t ∈ bs := fun t hv => by
    have : V.ref t ∈ bs.map V.ref := by rw [e1]; exact List.mem_map.mpr ⟨_, hv, rfl⟩
    obtain ⟨t2, m, e⟩ := List.mem_map.mp this
    cases e
    exact m
  refine sorted_pl (k := fun u => plK H (backV u)) hl.isList (by rw [← rv.length]; exact hz) (fun v hv => ?_) fun h' d out h1 h2 kp hd hn => ?_
  · obtain ⟨t, rfl⟩ := e2 v hv
    obtain ⟨p, ht⟩ := hx.all t (mem t hv)
    show IsPl s.heap (.ref t) (decA H t)
    rw [decA_of ht]
    obtain ⟨_, its2, r2, o, ho, hc, n, hd⟩ := I.hok _ _ ht
    exact isPl_of ho hc hd r2
  · have h3 : ∀ u ∈ out, ∃ a, u = Value.ref a := fun u hu => e2 u (h2.perm.mem_iff.mp hu)
    obtain ⟨n, hn⟩ := hn
    obtain ⟨cs, ecs⟩ : ∃ cs : List Addr, out.map backV = cs.map V.ref := by
      clear h1 h2 hn
      induction out with
      | nil => exact ⟨[], rfl⟩
      | cons u out ih =>
        obtain ⟨a, e⟩ := h3 u List.mem_cons_self
        obtain ⟨cs, e2⟩ := ih fun v hv => h3 v (List.mem_cons_of_mem _ hv)
        exact ⟨a :: cs, by rw [List.map_cons, List.map_cons, e2, e]; rfl⟩
    have hperm : (cs.map V.ref).Perm (bs.map V.ref) := by
      rw [← ecs, e1]
      exact h2.perm.map backV
    have hcb : ∀ c ∈ cs, c ∈ bs := fun c hc => by
      obtain ⟨c2, m, e⟩ := List.mem_map.mp (hperm.mem_iff.mp (List.mem_map.mpr ⟨c, hc, rfl⟩))
      cases e
      exact m
    have eqs : ∀ l : List Addr, l.map (decA H) = (l.map V.ref).map (plK H) := fun l => by
      rw [List.map_map]
      rfl
    have hsr : SrtO.Srtd ltPl (cs.map (decA H)) := by
      rw [eqs, ← ecs, List.map_map]
      exact SrtO.srtd_map (lt := ltPl) (f := fun u => plK H (backV u)) h1
    have hd0 := I.hok.fresh hd
    refine ⟨.ref d, upd H d (.lst (cs.map V.ref)), I.laid (t' := s.toks) kp hd ⟨?_, out, n, by rw [← ecs]; exact vals_back h3, hn⟩, rfl, q cs (cs.map (decA H)) d (PlsA.of_all fun c hc => hx.all c (hcb c hc)) ?_ hsr hd0⟩
    · rw [hperm.length_eq]
      exact hz
    · rw [hx.map, eqs, eqs]
      exact hperm.map _
end
/-! several own classes side by side: ==, !=, str and the call of an instance by its class's own defs -/
structure FamC (K : PySem.W.Frag) {ι : Type} (C fE : ι → Addr) : Prop where
  o : ∀ i, OwnC K (C i) (fE i)
  ap : ∀ i j, i ≠ j → PySem.W.kitOne K (.ref (C j)) (.ref (C i)) = some false
  ne : ∀ i j, i ≠ j → C i ≠ C j
section
variable {X : Cx} {ι : Type} {C fE : ι → Addr} {k : Nat} {fd : ι → FuncData} {sp : ι → Sp}
/-- y is built-in data or an instance of one of the classes -/
def OfFam (K : PySem.W.Frag) (C : ι → Addr) (H : Hp) (y : V) : Prop := (∃ d, Dp K H y d) ∨ ∃ j b dy gs, y = .ref b ∧ H b = some (.ins (C j) dy gs)
def rEqM (C : ι → Addr) (sp : ι → Sp) (K : PySem.W.Frag) : R2 := fun x y H Q => ∃ i a dx fs, x = .ref a ∧ H a = some (.ins (C i) dx fs) ∧ OfFam K C H y ∧ sp i [x, y] H (fun v H' => ∃ b, v = .bl b ∧ Q (.bl b) H') E0
def rNeM (C : ι → Addr) (sp : ι → Sp) (K : PySem.W.Frag) : R2 := fun x y H Q => ∃ i a dx fs, x = .ref a ∧ H a = some (.ins (C i) dx fs) ∧ OfFam K C H y ∧ sp i [x, y] H (fun v H' => ∃ b, v = .bl b ∧ Q (.bl (!b)) H') E0
open Classical in
theorem op_eqM (O : FamC X.K C fE) (F : ∀ i, FnOk X.prog X.w X.K X.mg X.base CX0 k (fE i) (fd i) ["self", "other"] (sp i)) (hb : ∀ i, Binds X.K (fd i) ["self", "other"] []) (hr : Room k X.A) : OpR X (compareOp .Eq) (rEqM C sp X.K) := by
  intro pins s σ H x y v u Q I rx ry h
  obtain ⟨i, a, dx, fs, rfl, ha, hy, q⟩ := h
  by_cases same : (∃ d, Dp X.K H y d) ∨ ∃ b dy gs, y = .ref b ∧ H b = some (.ins (C i) dy gs)
  · exact op_eqL (O.o i) (F i) (hb i) hr pins s σ H _ y v u Q I rx ry ⟨a, dx, fs, rfl, ha, same, q⟩
  obtain ⟨j, b, dy, gs, rfl, hb2⟩ : ∃ j b dy gs, y = .ref b ∧ H b = some (.ins (C j) dy gs) := hy.elim (fun z => absurd (.inl z) same) id
  have nij : i ≠ j := fun z => same (.inr ⟨b, dy, gs, rfl, by rw [z]; exact hb2⟩)
  cases (show v = Value.ref a from rx)
  cases (show u = Value.ref b from ry)
  obtain ⟨ox, od, J⟩ := inst_at I ha
  obtain ⟨oy, oe, J2⟩ := inst_at I hb2
  have run := run_at (E' := X.xe) (F i) hr I.env0 (hb i) I (.cons rx (.cons ry .nil)) q
  have fin : wpAny (model X.prog X.w) X.A (tryCompare (.ref a) (Str.ofString "__eq__") (.ref b)) (fun r t => ∃ b, r = some (Value.bool b) ∧ EP X pins σ Q (.bool b) t) X.xe s := by
    unfold tryCompare
    refine wpAny_bind (PySem.W.ifBound_K I.kIn J (O.o i).eq.at_ (O.o i).eq.fn (wpAny_mono run (fun r t hq => ?_) fun _ _ z => z))
    obtain ⟨v', H', I', rv, b, rfl, q'⟩ := hq
    cases (show r = Value.bool b from rv)
    exact wpAny_pure ⟨b, rfl, .bl b, H', I', rfl, q'⟩
  show wpAny _ _ (richCompare .Eq (.ref a) (.ref b)) _ _ _
  unfold richCompare
  simp only [oneThing_ref]
  refine wpAny_holding ?_
  refine wpAny_bind (wpAny_cRoomFor hr.units0 ?_)
  refine wpAny_bind (J.type.here ?_)
  refine wpAny_bind (J2.type.here ?_)
  have ne : (Value.ref (C i) != Value.ref (C j)) = true := bne_iff_ne.mpr fun z => O.ne i j nij (Value.ref.inj z)
  simp only [ne, if_true]
  refine wpAny_bind ((sub_looks I.kIn (O.ap i j nij) (beq_eq_false_iff_ne.mpr fun z => O.ne i j nij (Value.ref.inj z).symm) _).here ?_)
  simp only [Bool.false_eq_true, if_false]
  refine wpAny_bind (m := tryCompare (.ref a) (Str.ofString "__eq__") (.ref b)) (wpAny_mono fin (fun r t hq => ?_) fun _ _ z => z)
  obtain ⟨b, rfl, hq⟩ := hq
  exact wpAny_pure hq
open Classical in
theorem op_neM (O : FamC X.K C fE) (F : ∀ i, FnOk X.prog X.w X.K X.mg X.base CX0 k (fE i) (fd i) ["self", "other"] (sp i)) (hb : ∀ i, Binds X.K (fd i) ["self", "other"] []) (hr : Room (k + 1) X.A) : OpR X (compareOp .NotEq) (rNeM C sp X.K) := by
  intro pins s σ H x y v u Q I rx ry h
  obtain ⟨i, a, dx, fs, rfl, ha, hy, q⟩ := h
  by_cases same : (∃ d, Dp X.K H y d) ∨ ∃ b dy gs, y = .ref b ∧ H b = some (.ins (C i) dy gs)
  · exact op_neL (O.o i) (F i) (hb i) hr pins s σ H _ y v u Q I rx ry ⟨a, dx, fs, rfl, ha, same, q⟩
  obtain ⟨j, b, dy, gs, rfl, hb2⟩ : ∃ j b dy gs, y = .ref b ∧ H b = some (.ins (C j) dy gs) := hy.elim (fun z => absurd (.inl z) same) id
  have nij : i ≠ j := fun z => same (.inr ⟨b, dy, gs, rfl, by rw [z]; exact hb2⟩)
  cases (show v = Value.ref a from rx)
  cases (show u = Value.ref b from ry)
  obtain ⟨ox, od, J⟩ := inst_at I ha
  obtain ⟨oy, oe, J2⟩ := inst_at I hb2
  have run := run_at (E' := X.xe) (F i) hr.in1 I.env0.in1 (hb i) I (.cons rx (.cons ry .nil)) q
  have body : wpAny (model X.prog X.w) X.A (call (.builtin "object.__ne__") [.ref a, .ref b]) (fun v t => ∃ b, v = Value.bool b ∧ EP X pins σ Q (.bool b) t) X.xe s := by
    refine wpAny_call (codeAny_call_builtin PySem.F.slot_object_ne.plain PySem.F.entry_object_ne (PySem.W.check_slot (i := "object.__ne__") (owner := "object") (n := "__ne__") (by decide +kernel) (by decide +kernel) (J.type.andThen (PySem.W.looks_mroIn I.kIn (O.o i).c.hm)) (PySem.F.args_object_ne_2 _ _) ?_))
    unfold Builtin.«object.__ne__»
    refine wpAny_bind (m := slotArgs "__ne__" 1 _) (wpAny_pure ?_)
    refine wpAny_bind (m := cRoomFor _ _) (wpAny_cRoomFor (by have := hr.units; show X.A.units + 1 < cLine; omega) ?_)
    refine wpAny_bind (m := callSpecialIfBound? (.ref a) (Str.ofString "__eq__") [.ref b]) (PySem.W.ifBound_K I.kIn J (O.o i).eq.at_ (O.o i).eq.fn (wpAny_mono run (fun r t hq => ?_) fun _ _ z => z))
    obtain ⟨v', H', I', rv, b, rfl, q'⟩ := hq
    cases (show r = Value.bool b from rv)
    refine wpAny_bind (m := truthy (.bool b)) (wpAny_truthy_bool ?_)
    exact wpAny_pure ⟨!b, rfl, .bl (!b), H', I', rfl, q'⟩
  have fin : wpAny (model X.prog X.w) X.A (tryCompare (.ref a) (Str.ofString "__ne__") (.ref b)) (fun r t => ∃ b, r = some (Value.bool b) ∧ EP X pins σ Q (.bool b) t) X.xe s := by
    unfold tryCompare
    refine wpAny_bind (ifBound_b I.kIn J (O.o i).ne PySem.F.slot_object_ne.bind (wpAny_mono body (fun r t hq => ?_) fun _ _ z => z))
    obtain ⟨b, rfl, hq⟩ := hq
    exact wpAny_pure ⟨b, rfl, hq⟩
  show wpAny _ _ (richCompare .NotEq (.ref a) (.ref b)) _ _ _
  unfold richCompare
  simp only [oneThing_ref]
  refine wpAny_holding ?_
  refine wpAny_bind (wpAny_cRoomFor hr.units0 ?_)
  refine wpAny_bind (J.type.here ?_)
  refine wpAny_bind (J2.type.here ?_)
  have ne : (Value.ref (C i) != Value.ref (C j)) = true := bne_iff_ne.mpr fun z => O.ne i j nij (Value.ref.inj z)
  simp only [ne, if_true]
  refine wpAny_bind ((sub_looks I.kIn (O.ap i j nij) (beq_eq_false_iff_ne.mpr fun z => O.ne i j nij (Value.ref.inj z).symm) _).here ?_)
  simp only [Bool.false_eq_true, if_false]
  refine wpAny_bind (m := tryCompare (.ref a) (Str.ofString "__ne__") (.ref b)) (wpAny_mono fin (fun r t hq => ?_) fun _ _ z => z)
  obtain ⟨b, rfl, hq⟩ := hq
  exact wpAny_pure hq
/-- str(x), x of one of the classes -/
def rStrM (C : ι → Addr) (sp : ι → Sp) : List V → Hp → VK → Prop := fun xs H Q => ∃ i, rRepO (C i) (sp i) xs H Q
theorem call_strM {fS : ι → Addr} (m : ∀ i, Meth X.K (C i) "__str__" (fS i)) (F : ∀ i, FnOk X.prog X.w X.K X.mg X.base CX0 k (fS i) (fd i) ["self"] (sp i)) (hb : ∀ i, Binds X.K (fd i) ["self"] []) (hr : Room (k + 2) X.A) : CallR X (.type "str") (rStrM C sp) := by
  intro pins s σ H xs us Q I r h
  obtain ⟨i, h⟩ := h
  exact call_strO (m i) (F i) (hb i) hr pins s σ H xs us Q I r h
variable {CX : CXT} {E : XK}
/-- f(e, ..), f an expression that gives an instance of one of the classes -/
def tCallM (X : Cx) (C : ι → Addr) (sp : ι → Sp) (E : XK) (tf : TE) (t : TA) : TE := fun σ H Q => tf σ H fun y H1 => ∃ a, y = V.ref a ∧ t σ H1 fun vs H2 => ∃ i, StX.InsC X H2 a (C i) ∧ sp i (V.ref a :: vs) H2 Q E
theorem pe_callM {g : ι → Addr} {fe e : Expr} {es : List Expr} {tf : TE} {t : TA} {pos : Pos} (hf : PE X fe tf) (c : ∀ i, StX.CallO X.K (C i) (g i)) (F : ∀ i, FnR X.prog X.w X.K X.mg X.base CX k (g i) (sp i)) (hr : Room k X.A) (hx : Passes CX X E) (ha : PA X (e :: es) t)
    (ht : eval (.Call fe (e :: es) [] pos) X.env = (do callWith pos (← eval fe X.env) [] (backTo pos (starEach (e :: es) X.env)) (backToKw pos (keywordEach [] X.env))) := by rfl)
    (he : starEach (e :: es) X.env = (false, eval e X.env) :: starEach es X.env := by rfl) (hpl : (backTo pos (starEach es X.env)).any (·.1) = false := by rfl) : PE X (.Call fe (e :: es) [] pos) (tCallM X C sp E tf t) := by
  refine ⟨fun pins s σ H Q I h => ?_⟩
  refine Call_ (thn (hf.run pins s σ H _ I h) fun u s1 ⟨y, H1, I1, ry, a, ey, q⟩ => ?_) ht
  subst ey
  obtain rfl : u = Value.ref a := ry
  refine StX.callO_with (thn (ha.run pos pins s1 σ H1 _ I1 q) fun us s2 ⟨vs, H2, I2, r, i, hi, q2⟩ => ?_) he hpl
  obtain ⟨ox, od, J, hd⟩ := StX.insC_at I2 hi
  exact ⟨⟨C i, ox, od, J, hd⟩, StX.run_callO (c i) (F i) hr hx I2 hi r q2⟩
end
end Rl
namespace HT
open PySem PySem.Spec PyProof.Rows
section
variable {prog : Program} {w : World} {A : Around} {E : Value → Shared → Prop} {s : Shared}
theorem sliceApplied_rev {sl : Addr} {vl vu vs : Value} {n : Nat} {Q : Int × Int × Nat → Shared → Prop} (hs : s.heap.IsSliceOf sl vl vu vs) (pl : IsPart vl none) (pu : IsPart vu none) (ps : IsPart vs (some (-1)))
    (h : Q ((n : Int) - 1, -1, n) s) : wpAny (model prog w) A (Builtin.Slice.sliceApplied (.ref sl) (pure (n : Int))) Q E s := by
  obtain ⟨os, hos, hcs, hds⟩ := id hs
  unfold Builtin.Slice.sliceApplied Builtin.Slice.sliceFields
  refine wpAny_bind (wpAny_bind (wpAny_field hos hds (x := vl) rfl (wpAny_bind (wpAny_field hos hds (x := vu) rfl (wpAny_bind (wpAny_field hos hds (x := vs) rfl (wpAny_pure ?_)))))))
  refine wpAny_bind (slicePart_ ps ?_)
  show wpAny _ _ (if ((-1 : Int) == 0) = true then _ else _) _ _ s
  rw [if_neg (by decide)]
  refine wpAny_bind (slicePart_ pl (wpAny_bind (slicePart_ pu (wpAny_bind (wpAny_pure ?_)))))
  show wpAny _ _ (pure ((n : Int) - 1, (-1 : Int), Builtin.Slice.slicePlaces ((n : Int) - 1) (-1) (-1))) _ _ s
  have e : Builtin.Slice.slicePlaces ((n : Int) - 1) (-1) (-1) = n := by
    unfold Builtin.Slice.slicePlaces
    have h1 : ¬ ((-1 : Int) > 0) := by omega
    simp only [h1, if_false]
    have e2 : (-(-1) : Int) = 1 := by decide
    rw [e2, Int.ediv_one]
    split <;> omega
  rw [e]
  exact wpAny_pure h
theorem fm_congr {α β : Type} {f g : α → Option β} : ∀ {l : List α}, (∀ x ∈ l, f x = g x) → l.filterMap f = l.filterMap g
  | [], _ => rfl
  | x :: l, h => by rw [List.filterMap_cons, List.filterMap_cons, h x List.mem_cons_self, fm_congr fun y hy => h y (List.mem_cons_of_mem _ hy)]
theorem pick_rev (xs : Array Value) : ((List.range xs.size).filterMap fun (m : Nat) => xs[(((xs.size : Nat) : Int) - 1 + (m : Int) * (-1)).toNat]?).toArray = xs.toList.reverse.toArray := by
  have e : (List.range xs.size).filterMap (fun (m : Nat) => xs[(((xs.size : Nat) : Int) - 1 + (m : Int) * (-1)).toNat]?) = ((List.range xs.size).map fun k => xs.size - 1 - k).filterMap (xs[·]?) := by
    rw [List.filterMap_map]
    refine fm_congr fun m hm => ?_
    have := List.mem_range.mp hm
    show _ = xs[xs.size - 1 - m]?
    congr 1
    omega
  rw [e, PySem.W.krv_range, List.filterMap_reverse, PySem.W.krv_all]
theorem getItem_tuple_rev {t sl : Addr} {items : Array Value} {vl vu vs : Value} {Q : Value → Shared → Prop} (ht : IsTup s.heap t items) (hs : s.heap.IsSliceOf sl vl vu vs) (pl : IsPart vl none) (pu : IsPart vu none) (ps : IsPart vs (some (-1)))
    (h : Q (.ref s.heap.objs.size) { s with heap := s.heap.push { cls := .type "tuple", data := .seq items.toList.reverse.toArray } })
    (hsz : items.size ≤ sizeLine) : wpAny (model prog w) A (getItem (.ref t) (.ref sl)) Q E s := by
  have htake : sizeOk (.seq items.toList.reverse.toArray) := by
    show items.toList.reverse.toArray.size ≤ sizeLine
    rw [List.size_toArray, List.length_reverse, Array.length_toList]
    exact hsz
  obtain ⟨os, hos, hcs, hds⟩ := id hs
  have hTs : s.TypeIs (.ref sl) "slice" := ⟨os, hos, hcs⟩
  unfold getItem
  try with_reducible refine wpAny_holding ?_
  first | refine wpAny_bind (wpAny_pure ?_) | skip
  refine wpAny_bind (wpAny_sequenceKey ht.typeIs (by decide) ?_)
  refine wpAny_bind (wpAny_callSpecial?_slot (name := Str.ofString "__getitem__") ht.typeIs PyProof.Rows.slot_tuple_getitem
    (wpAny_call_entry PyProof.Rows.slot_tuple_getitem ht.typeIs entry_tuple_getitem ?_ (args_tuple_getitem _ _)))
  show wpAny _ _ (Builtin.Tuple.tupleItemsOf (.ref t) >>= _) _ _ s
  refine wpAny_bind (tupleItemsOf_ ht ?_)
  refine wpAny_bind (wpAny_typeOf hTs ?_)
  rw [if_pos (by decide)]
  refine wpAny_bind (sliceApplied_rev hs pl pu ps ?_)
  have hno : ¬ ((((items.size : Nat) : Int) - 1 == 0 && (-1 : Int) == 1 && items.size == items.size) = true) := by
    intro q
    rw [Bool.and_eq_true, Bool.and_eq_true] at q
    exact absurd q.1.2 (by decide)
  show wpAny _ _ (if (((items.size : Nat) : Int) - 1 == 0 && (-1 : Int) == 1 && items.size == items.size) = true then _ else _) _ _ s
  rw [if_neg hno, pick_rev]
  first
    | exact wpAny_bind (m := Builtin.Tuple.tupleExact _) (wpAny_newObj_type (wpAny_pure ⟨_, rfl, wpAny_pure h⟩) htake)
    | exact wpAny_bind (m := Builtin.Tuple.tupleExact _) (wpAny_newObj_type (wpAny_bind (wpAny_pure (wpAny_pure ⟨_, rfl, wpAny_pure h⟩))) htake)
    | exact wpAny_bind (wpAny_bind (m := Builtin.Tuple.tupleExact _) (wpAny_newObj_type (wpAny_pure (wpAny_pure ⟨_, rfl, wpAny_pure h⟩)) htake))
    | exact wpAny_bind (wpAny_bind (m := Builtin.Tuple.tupleExact _) (wpAny_newObj_type (wpAny_pure ⟨_, rfl, wpAny_pure h⟩) htake))
end
end HT
namespace Rl
open PySem PySem.Spec PyProof.Rows L2
/-! t[::-1] of a tuple -/
def tRevT (K : PySem.W.Frag) (te : TE) : TE := fun σ H Q => te σ H fun x H1 => ∃ a xs, x = .ref a ∧ SqT K H1 a xs ∧ ∀ p, H1 p = none → Q (.ref p) (upd H1 p (.tup xs.reverse))
theorem pe_revT {X : Cx} {e : Expr} {te : TE} {k : Nat} {p1 p2 p3 pos : Pos} (he : PE X e te) : PE X (.Subscript e (.Slice none none (some (.UnaryOp .USub (.Constant (.int 1) k p1) p2)) p3) pos) (tRevT X.K te) := by
  refine ⟨fun pins s σ H Q I h => ?_⟩
  refine Subscript_ (thn (he.run pins s σ H _ I h) fun v s1 ⟨x, H1, I1, r1, q1⟩ => ?_)
  obtain ⟨a, xs, ex, hx, q⟩ := q1
  subst ex
  cases r1
  have hst : PO X (some (.UnaryOp .USub (.Constant (.int 1) k p1) p2)) (tPart (tUn (rU fun i => .int (-i)) (tC (.int 1)))) := po_some (pe_un un_neg pe_int)
  refine wpAny_Slice (thn (po_none.run pins s1 σ H1 (fun o H2 => o = none ∧ H2 = H1) I1 ⟨rfl, rfl⟩) fun vl s2 ⟨l, H2, I2, pl, el, e2⟩ => ?_)
  subst el e2
  refine thn (po_none.run pins s2 σ H2 (fun o H3 => o = none ∧ H3 = H2) I2 ⟨rfl, rfl⟩) fun vu s3 ⟨u, H3, I3, pu, eu, e3⟩ => ?_
  subst eu e3
  refine thn (hst.run pins s3 σ H3 (fun o H4 => o = some (-1) ∧ H4 = H3) I3 ⟨1, rfl, -1, rfl, rfl, rfl⟩) fun vs s4 ⟨o, H4, I4, ps, eo, e4⟩ => ?_
  subst eo e4
  have I5 : Inv X pins σ H4 { s4 with heap := s4.heap.push { cls := .type "slice", data := .fields #[vl, vu, vs] } } := I4.kept (t' := s4.toks) fun b ob q => Heap.get?_push_of_some _ q
  obtain ⟨its, r, ht, hz⟩ := I5.tuple hx
  have hlen := r.length
  show wpAny (model X.prog X.w) X.A (subscriptTail e (.Slice none none (some (.UnaryOp .USub (.Constant (.int 1) k p1) p2)) p3) (.ref a) (.ref s4.heap.objs.size)) (EP X pins σ Q) X.xe { s4 with heap := s4.heap.push { cls := .type "slice", data := .fields #[vl, vu, vs] } }
  refine tail_any (ops := [.ref a, .ref s4.heap.objs.size]) ht.typeIs (PyProof.Rows.slot_tuple_getitem.lookup) ?_ (by with_unfolding_all rfl)
  refine HT.getItem_tuple_rev ht (Heap.IsSliceOf.new _ vl vu vs) pl pu ps ?_ (by rw [List.size_toArray]; omega)
  refine ⟨.ref _, _, I5.laid (t' := s4.toks) (o := .tup xs.reverse) (fun b ob q => Heap.get?_push_of_some _ q) (Nat.le_refl _) ?_, rfl, q _ (I5.hok.fresh (Nat.le_refl _))⟩
  exact ⟨by rw [List.length_reverse]; exact hz, _, r.reverse, IsTup.new _ _⟩
end Rl
namespace PyProof.Rows
open PySem Builtin Float
abbrev pdSpec : Str := ("+d" : Str)
abbrev pdF : FormatSpec := { align := 62, sign := some 43, type := some 100 }
theorem pd_parse : parseFormatSpec pdSpec.cps.toList "int" 62 = .ok pdF := by rfl
theorem pd_ne : (pdSpec.length == 0) = false := by decide +kernel
theorem pd_asc : ((pdSpec.cps.toList.drop 1).any (· ≥ 128) || (pdSpec.cps.getD 0 0 ≥ 128 && !([60, 62, 61, 94] : List Nat).contains (pdSpec.cps.getD 1 0))) = false := by decide +kernel
/-- a whole number with its sign -/
def plusT (a : Int) : Str := (if a < 0 then ("-" : Str) else ("+" : Str)) ++ Str.ofString (toString (a.natAbs : Int))
theorem pd_text (a : Int) : intSpecText pdF a = plusT a := by
  have e := text_ofNat a.natAbs
  have m : ((Nat.toDigits 10 a.natAbs).map fun c => (if (100 : Nat) == 88 then c.toUpper else c).toNat) = (Nat.toDigits 10 a.natAbs).map Char.toNat := by
    simp
  unfold plusT
  rw [show Str.ofString (toString (a.natAbs : Int)) = _ from e]
  unfold intSpecText
  rw [m]
  unfold intField'
  have ne : ((Nat.toDigits 10 a.natAbs).map Char.toNat).isEmpty = false := by
    cases h : (Nat.toDigits 10 a.natAbs).map Char.toNat with
    | nil =>
      have z := List.map_eq_nil_iff.mp h
      have l : 0 < (Nat.toDigits 10 a.natAbs).length := by
        have q := (Nat.length_repr_le_iff (n := a.natAbs) (k := 0))
        have r := Nat.toList_repr (n := a.natAbs)
        rw [← r, String.length_toList]
        exact Nat.length_repr_pos
      rw [z] at l
      exact absurd l (by simp)
    | cons => rfl
  generalize (Nat.toDigits 10 a.natAbs).map Char.toNat = ds at *
  have h1 : ((62 : Nat) == 60) = false := by decide
  have h2 : ((62 : Nat) == 94) = false := by decide
  have h3 : ((62 : Nat) == 61) = false := by decide
  have h4 : ((32 : Nat) == 48) = false := by decide
  by_cases hn : a < 0
  · have p : ∀ n : Nat, ((-1 : Int) - (((1 : Nat) : Int) + 0 + 0) - (n : Int)).toNat = 0 := fun n => by omega
    simp [ne, hn, h1, h2, h3, h4]
    rw [show Str.ofString "-" = (⟨#[45]⟩ : Str) by decide +kernel]
    show (⟨(45 :: ds).toArray⟩ : Str) = ⟨#[45] ++ ds.toArray⟩
    simp
  · simp [ne, hn, h1, h2, h3, h4]
    rw [show Str.ofString "+" = (⟨#[43]⟩ : Str) by decide +kernel]
    show (⟨(43 :: ds).toArray⟩ : Str) = ⟨#[43] ++ ds.toArray⟩
    simp
section
variable {prog : Program} {w : World} {A : Around} {E : Value → Shared → Prop} {s : Shared}
theorem field_f {a : Int} {t : Tok} {spec : Str} {f : FormatSpec} {Q : Value → Shared → Prop} (hp : parseFormatSpec spec.cps.toList "int" 62 = .ok f) (hne : (spec.length == 0) = false)
    (hasc : ((spec.cps.toList.drop 1).any (· ≥ 128) || (spec.cps.getD 0 0 ≥ 128 && !([60, 62, 61, 94] : List Nat).contains (spec.cps.getD 1 0))) = false)
    (hty : f.type.getD (if spec.cps.back? == some 0 then 0 else 100) = 100) (hpr : f.precision = none) (hz : f.noNeg0 = false) (hgr : f.grouping = none) (hal : f.alt = false) (hw : f.width.getD 0 ≤ 100000) (hsz : spec.length ≤ sizeLine)
    (hlt : a.natAbs.log2 < 1920) (hlen : (intSpecText f a).length ≤ sizeLine) (h : ∀ t' k, Q (.str (intSpecText f a) t') { s with toks := k }) :
    wpAny (model prog w) A (formatField (.int a t) spec) Q E s := by
  show wpAny _ _ (holding [.int a t] (pyFormat (.int a t) spec)) Q E s
  refine wpAny_holding ?_
  unfold pyFormat
  refine wpAny_bind (wpAny_mkStr ?_ hsz)
  refine wpAny_bind (m := callSpecial? (.int a t) (Str.ofString "__format__") [.str spec s.toks]) (wpAny_callSpecial?_slot (name := Str.ofString "__format__") (typeIs_int _ a t) slot_int_format ?_)
  refine wpAny_call (codeAny_call_builtin slot_int_format.plain entry_int_format (slot_int_format.check _ _ _ _ _ _ _ _ (typeIs_int _ a t) (args_int_format _ _) ?_))
  unfold Builtin.«int.__format__»
  simp only [selfAndOne, noKeywords, Int.intOfSelf, asInt?, asStr?, List.isEmpty_nil, if_true, pure_bind, bind_pure, bind_assoc, hne, hasc, Bool.false_eq_true, if_false,
    show (Value.str spec s.toks == Value.none) = false from rfl]
  refine wpAny_bind (wpAny_typeNameOf (T := "str") (typeIs_str _ _ _) (by decide) fun _ => ?_)
  first | refine wpAny_bind (wpAny_typeNameOfCut_int ?_) | refine wpAny_bind (wpAny_typeNameOf_int ?_)
  simp only [hp, hty]
  rw [if_pos (by decide)]
  show wpAny _ _ (if _ then _ else _) _ _ _
  rw [if_neg (by simp [hpr])]
  show wpAny _ _ (if _ then _ else _) _ _ _
  rw [if_neg (by simp [hz])]
  show wpAny _ _ (if _ then _ else _) _ _ _
  rw [if_neg (by decide)]
  show wpAny _ _ (do let r ← Builtin.overDigitLimit? a; _) _ _ _
  refine wpAny_bind (wpAny_of_eq (overDigitLimit_small hlt) ?_)
  show wpAny _ _ (if _ then _ else _) _ _ _
  have hw' : ¬ (f.width.getD 0 > 100000) := by omega
  rw [if_neg (by simpa using hw')]
  show wpAny _ _ (retStr _) _ _ _
  unfold retStr
  refine wpAny_bind (wpAny_mkStr (wpAny_pure ?_) ?hs2)
  case hs2 =>
    simp only [hal, Bool.false_eq_true, if_false, show ((10 : Nat) == 10) = true by decide, if_true]
    conv => lhs; arg 1; whnf
    simp only [intSpecText, intField', hgr, hal, Bool.false_eq_true, if_false, show ((10 : Nat) == 10) = true by decide, if_true] at hlen ⊢
    exact hlen
  dsimp only
  refine wpAny_bind (wpAny_isInstance (typeIs_str _ _ _) isSubtype_str_str (wpAny_pure ?_))
  simp only [hal, Bool.false_eq_true, if_false, show ((10 : Nat) == 10) = true by decide, if_true]
  conv => arg 1; arg 1; whnf
  simp only [intSpecText, intField', hgr, hal, Bool.false_eq_true, if_false, show ((10 : Nat) == 10) = true by decide, if_true] at h ⊢
  exact h _ _
theorem field_plus {a : Int} {t : Tok} {spec : Str} {Q : Value → Shared → Prop} (hX : spec = pdSpec) (hlt : a.natAbs.log2 < 1920) (hlen : (plusT a).length ≤ sizeLine) (h : ∀ t' k, Q (.str (plusT a) t') { s with toks := k }) :
    wpAny (model prog w) A (formatField (.int a t) spec) Q E s := by
  subst hX
  rw [← pd_text] at hlen h
  exact field_f pd_parse pd_ne pd_asc rfl rfl rfl rfl rfl (by decide) (by decide +kernel) hlt hlen h
end
end PyProof.Rows
namespace Rl
open PySem PySem.Spec PyProof.Rows L2
/-- {x:+d} -/
def tFmtP (te : TE) : TE := fun σ H Q => te σ H fun x H1 => ∃ i : Int, x = .int i ∧ i.natAbs.log2 < 1920 ∧ (plusT i).length ≤ sizeLine ∧ Q (.str (plusT i)) H1
theorem pe_fmtP {X : Cx} {e sp : Expr} {te ts : TE} {pos : Pos} (he : PE X e te) (hs : PE X sp ts) (h2 : ∀ (σ : L2.St) (H : Hp) (Q : VK), Q (.str pdSpec) H → ts σ H Q) : PE X (.FormattedValue e (-1) (some sp) pos) (tFmtP te) := by
  refine ⟨fun pins s σ H Q I h => ?_⟩
  refine wpAny_FormattedValue_spec (thn (he.run pins s σ H _ I h) fun v s1 hv => ?_)
  obtain ⟨x, H1, I1, r1, i, rfl, h1, hz, q⟩ := hv
  refine thn (hs.run pins s1 σ H1 (fun y H2 => y = .str pdSpec ∧ H2 = H1) I1 (h2 _ _ _ ⟨rfl, rfl⟩)) fun r s2 hr => ?_
  obtain ⟨y, H2, I2, r2, rfl, rfl⟩ := hr
  obtain ⟨t2, rfl⟩ := r2
  obtain ⟨t, rfl⟩ := r1
  exact ⟨_, _, rfl, field_plus rfl h1 hz fun t' k => ⟨.str (plusT i), _, I2.tok _, ⟨_, rfl⟩, q⟩⟩
end Rl
namespace HT
open PySem PySem.Spec PyProof.Rows
def selects' (start stop step : Int) (i : Nat) : Bool :=
  if step > 0 then start ≤ i && i < stop && (i - start) % step == 0
  else stop < i && i ≤ start && (start - i) % (-step) == 0
theorem sel_from (k n i : Nat) : selects' k n 1 i = (decide (k ≤ i) && decide (i < n)) := by
  unfold selects'
  have h1 : ((1 : Int) > 0) := by decide
  simp only [h1, if_true, Int.emod_one, beq_self_eq_true, Bool.and_true]
  congr 1 <;> simp
theorem keep_first {α : Type} (n k : Nat) : ∀ (xs : List α) (j : Nat), j + xs.length = n → (xs.zipIdx j).filterMap (fun (x : α × Nat) => if (decide (k ≤ x.2) && decide (x.2 < n)) = true then none else some x.1) = xs.take (k - j)
  | [], j, _ => by simp
  | x :: xs, j, h => by
    simp only [List.length_cons] at h
    have ih := keep_first n k xs (j + 1) (by omega)
    rw [List.zipIdx_cons, List.filterMap_cons, ih]
    have hj : decide (j < n) = true := decide_eq_true (by omega)
    by_cases c : k ≤ j
    · simp only [decide_eq_true c, hj, Bool.and_self, if_true]
      rw [show k - j = 0 by omega, show k - (j + 1) = 0 by omega]
      rfl
    · simp only [decide_eq_false c, Bool.false_and, Bool.false_eq_true, if_false]
      rw [show k - j = (k - (j + 1)) + 1 by omega, List.take_succ_cons]
section
variable {prog : Program} {w : World} {A : Around} {E : Value → Shared → Prop} {s : Shared}
theorem delItem_list_slice {l sl : Addr} {items : Array Value} {n : Nat} {vl vu : Value} {k : Nat} {Q : Unit → Shared → Prop} (hl : s.heap.get? l = some { cls := .type "list", dict := none, data := .seq items n, slots := #[] })
    (hs : s.heap.IsSliceOf sl vl vu .none) (pl : IsPart vl (some (k : Int))) (pu : IsPart vu none) (hk : k ≤ items.size) (hsz : items.size ≤ sizeLine)
    (h : ∀ f : Array Value → Array Value, f items = (items.toList.take k).toArray → Q () { s with heap := s.heap.update l (Obj.mapSeq f) }) : wpAny (model prog w) A (delItem (.ref l) (.ref sl)) Q E s := by
  obtain ⟨os, hos, hcs, hds⟩ := id hs
  have hTs : s.TypeIs (.ref sl) "slice" := ⟨os, hos, hcs⟩
  have hTl : s.TypeIs (.ref l) "list" := ⟨_, hl, rfl⟩
  refine PySem.wpAny_delItem_slot hTl (by decide) PySem.F.slot_list_delitem ?_
  refine wpAny_call_entry PySem.F.slot_list_delitem hTl PySem.F.entry_list_delitem ?_ (PySem.F.args_list_delitem_2 _ _)
  unfold Builtin.«list.__delitem__»
  refine wpAny_bind (m := slotArgs "__delitem__" 1 _) (wpAny_pure ?_)
  refine wpAny_bind (m := Builtin.List.listSubscript? (.ref sl)) ?_
  unfold Builtin.List.listSubscript?
  refine wpAny_bind (wpAny_specialOf hTs slice_no_index ?_)
  simp only [Option.isNone_none, if_true]
  refine wpAny_pure ?_
  show wpAny _ _ (typeOf (.ref sl) >>= _) _ _ s
  refine wpAny_bind (wpAny_typeOf hTs ?_)
  rw [if_neg (by decide)]
  rw [listSliceParts_eq]
  refine wpAny_bind (wpAny_bind (wpAny_field hos hds (x := .none) rfl (wpAny_bind (wpAny_listPart .none ?_))))
  rw [if_neg (by exact Bool.false_ne_true)]
  refine wpAny_bind (wpAny_field hos hds (x := vl) rfl (wpAny_bind (wpAny_listPart pl ?_)))
  refine wpAny_bind (wpAny_field hos hds (x := vu) rfl (wpAny_bind (wpAny_listPart pu (wpAny_pure ?_))))
  refine wpAny_bind (m := Builtin.List.listItems (.ref l)) ?_
  unfold Builtin.List.listItems
  refine wpAny_bind (wpAny_seqItems hl rfl (wpAny_pure ?_))
  refine wpAny_bind (wpAny_of_eq (sliceIndices_raw (some (k : Int)) none none items.size (by simp)) ?_)
  have hb : sliceBounds (some (k : Int)) none none items.size = ((k : Int), (items.size : Int), 1) := by
    unfold sliceBounds
    simp only [Option.getD_none]
    have h1 : ((1 : Int) > 0) := by decide
    simp only [h1, if_true]
    refine Prod.ext ?_ rfl
    show max 0 (min (if (k : Int) < 0 then (k : Int) + items.size else (k : Int)) (items.size : Int)) = (k : Int)
    rw [if_neg (by omega)]
    omega
  rw [hb]
  refine wpAny_bind (wpAny_rule ?_)
  have hf : (fun (xs : Array Value) => (xs.toList.zipIdx.filterMap fun (x : Value × Nat) => if selects' (k : Int) (items.size : Int) 1 x.2 = true then none else some x.1).toArray) items = (items.toList.take k).toArray := by
    have e := keep_first items.size k items.toList 0 (by rw [Nat.zero_add, Array.length_toList])
    rw [Nat.sub_zero] at e
    have g : (fun (x : Value × Nat) => if selects' (k : Int) (items.size : Int) 1 x.2 = true then none else some x.1) = fun (x : Value × Nat) => if (decide (k ≤ x.2) && decide (x.2 < items.size)) = true then none else some x.1 := by
      funext x
      rw [sel_from]
    show ((items.toList.zipIdx 0).filterMap _).toArray = _
    rw [g, e]
  refine wpAny_bind (m := Builtin.List.listUpdate (.ref l) _) ?_
  refine listUpdate_at hl rfl ?_ hsz ?_
  · refine wpAny_bind (wpAny_letGo ?_)
    exact wpAny_pure ⟨_, rfl, h _ hf⟩
  · have q := congrArg Array.size hf
    have z : (items.toList.take k).toArray.size ≤ sizeLine + 1 := by
      rw [List.size_toArray, List.length_take, Array.length_toList]
      omega
    exact Nat.le_trans (Nat.le_of_eq q) z
end
end HT
namespace Rl
open PySem PySem.Spec PyProof.Rows L2
/-! del xs[k:] -/
def tDelFrom (to tk : TE) : TS := fun D σ H => to σ H fun x H1 => tPart tk σ H1 fun y H2 => ∃ (l : Addr) (xs : List V) (k : Nat), x = .ref l ∧ y = some (k : Int) ∧ H2 l = some (.lst xs) ∧ k ≤ xs.length ∧ D.nx σ (upd H2 l (.lst (xs.take k)))
theorem ps_delFrom {X : Cx} {o i : Expr} {to tk : TE} {p tpos pos : Pos} (ho : PE X o to) (hi : PE X i tk) : PS X (.Delete [.Subscript o (.Slice (some i) none none p) tpos] pos) (tDelFrom to tk) := by
  refine ⟨fun pins s σ H D I h => ?_⟩
  refine wpAny_Delete (wpAny_deleteEach_cons (wpAny_delete_Subscript (thn (ho.run pins s σ H _ I h) fun u s1 ⟨x, H1, I1, rx, q1⟩ => ?_)))
  refine wpAny_Slice (thn ((po_some hi).run pins s1 σ H1 _ I1 q1) fun vl s2 ⟨lo, H2, I2, pl, l, xs, k, ex, el, hl, hk, q2⟩ => ?_)
  subst ex el
  cases (show u = Value.ref l from rx)
  refine thn (po_none.run pins s2 σ H2 (fun o H3 => o = none ∧ H3 = H2) I2 ⟨rfl, rfl⟩) fun vu s3 ⟨u, H3, I3, pu, eu, e3⟩ => ?_
  subst eu e3
  rw [evalPart_none]
  refine wpAny_pure ?_
  have I4 : Inv X pins σ H3 { s3 with heap := s3.heap.push { cls := .type "slice", data := .fields #[vl, vu, .none] } } := I3.kept (t' := s3.toks) fun b ob q => Heap.get?_push_of_some _ q
  obtain ⟨z, its, n, r, hlen, e⟩ := I4.lstM hl
  refine HT.delItem_list_slice e (Heap.IsSliceOf.new _ vl vu .none) pl pu (by rw [List.size_toArray]; omega) (by rw [List.size_toArray]; omega) fun f hf => ?_
  refine wpAny_deleteEach_nil ⟨σ, _, I4.lset (its' := its.take k) (t' := s3.toks) hl e (by rw [hf]) (r.take k) ?_, q2⟩
  rw [List.length_take]
  omega
section
variable {X : Cx} {ι : Type} {C fE : ι → Addr} {k : Nat} {fd : ι → FuncData} {sp : ι → Sp} {CX : CXT}
theorem run_codeS {k : Nat} {f : Addr} {fd : FuncData} {ps : List Str} {sp : Sp} {E : L2.St → XK} {pins : List (Addr × Obj)} {σ : L2.St} {H : Hp} {s : Shared} {Q : VK} {us : List Value} {vs : List V} (F : FnOk X.prog X.w X.K X.mg X.base CX k f fd ps sp) (hr : Room k X.A) (hb : Binds X.K fd ps []) (hx : L2.PassesAt CX X σ (E σ))
    (I : Inv X pins σ H s) (r : Vals vs us) (h : sp vs H Q (E σ)) : codeAny (model X.prog X.w) X.A (.call (.ref f) ⟨us, []⟩) (fun r s' => match r with | .ok (.ret v) => EP X pins σ Q v s' | .ok _ => False | .error e => X.xe e s') s := by
  have hl : us.length = ps.length := by rw [← r.length]; exact F.len _ _ _ _ h
  have bd := hb s us I.kIn (by rw [List.append_nil]; exact hl)
  rw [List.append_nil] at bd
  refine codeAny_mono (F.run X.A X.stack s H ⟨us, []⟩ us vs Q (E σ) hr I.env0 bd r h) ?_
  intro x t hq
  cases x with
  | error z => exact hx pins H s z t I hq
  | ok fl =>
    cases fl with
    | ret u => exact I.after hq
    | next => exact False.elim hq
    | brk => exact False.elim hq
    | cont => exact False.elim hq
/-- the call of an instance, where an error that leaves is caught at these slots -/
def tCallMS (C : ι → Addr) (sp : ι → Sp) (E : L2.St → XK) (tf : TE) (t : TA) : TE := fun σ H Q => tf σ H fun y H1 => ∃ a, y = V.ref a ∧ t σ H1 fun vs H2 => ∃ i, ((∃ dx vs, SlX.Slt H2 a (C i) dx vs) ∨ ∃ dx fs, H2 a = some (.ins (C i) dx fs)) ∧ sp i (V.ref a :: vs) H2 Q (E σ)
theorem pe_callMS {g : ι → Addr} {dg : ι → FuncData} {ps : List Str} {E : L2.St → XK} {fe e : Expr} {es : List Expr} {tf : TE} {t : TA} {pos : Pos} (hf : PE X fe tf) (c : ∀ i, StX.CallO X.K (C i) (g i)) (F : ∀ i, FnOk X.prog X.w X.K X.mg X.base CX k (g i) (dg i) ps (sp i)) (hb : ∀ i, Binds X.K (dg i) ps []) (hr : Room k X.A) (hx : ∀ σ, L2.PassesAt CX X σ (E σ)) (ha : PA X (e :: es) t)
    (ht : eval (.Call fe (e :: es) [] pos) X.env = (do callWith pos (← eval fe X.env) [] (backTo pos (starEach (e :: es) X.env)) (backToKw pos (keywordEach [] X.env))) := by rfl)
    (he : starEach (e :: es) X.env = (false, eval e X.env) :: starEach es X.env := by rfl) (hpl : (backTo pos (starEach es X.env)).any (·.1) = false := by rfl) : PE X (.Call fe (e :: es) [] pos) (tCallMS C sp E tf t) := by
  refine ⟨fun pins s σ H Q I h => ?_⟩
  refine Call_ (thn (hf.run pins s σ H _ I h) fun u s1 ⟨y, H1, I1, ry, a, ey, q⟩ => ?_) ht
  subst ey
  obtain rfl : u = Value.ref a := ry
  refine StX.callO_with (thn (ha.run pos pins s1 σ H1 _ I1 q) fun us s2 ⟨vs, H2, I2, r, i, hi, q2⟩ => ?_) he hpl
  obtain ⟨ox, od, J, hd⟩ := StX.insC_at I2 hi
  exact ⟨⟨C i, ox, od, J, hd⟩, wpAny_call (PySem.W.kco_code I2.kIn J hd (c i).at_ (c i).fn (c i).fi (run_codeS (us := .ref a :: us) (vs := .ref a :: vs) (F i) hr (hb i) (hx σ) I2 (.cons rfl r) q2))⟩
end
/-- t + u, t a tuple laid by the program and not empty: so is what comes of it -/
def rCatR (K : PySem.W.Frag) : R2 := fun x y H Q => ∃ a b xs ys l, x = .ref a ∧ y = .ref b ∧ xs ≠ [] ∧ cut l H a = some (.tup xs) ∧ SqT K (cut l H) b ys ∧ Tr l H ∧ xs.length + ys.length ≤ sizeLine ∧
  ∀ c H', Same H H' → cut l H' c = some (.tup (xs ++ ys)) → Q (.ref c) H'
theorem op_catR {X : Cx} : OpR X (binaryOp .Add) (rCatR X.K) := by
  intro pins s σ H x y v u Q I rx ry h
  obtain ⟨a, b, xs, ys, l, rfl, rfl, hx, ha, hb, tl, hz, q⟩ := h
  refine op_catA pins s σ H _ _ v u Q I rx ry ⟨a, b, xs, ys, rfl, rfl, seqT_cut (.inl (.inl ha)), seqT_cut hb, hz, fun e => absurd e hx, ?_, ?_⟩
  · intro _ e
    exact q a H (Same.refl H) (by rw [e, List.append_nil]; exact ha)
  · intro _ _ c hc
    exact q c _ (same_new hc _) (by rw [cut_out (tl.out hc)]; exact upd_same)
theorem op_catRK {X : Cx} {K : PySem.W.Frag} (h : X.K = K) : OpR X (binaryOp .Add) (rCatR K) := by
  subst h
  exact op_catR
open AutoSeq1 (wpAny_loadPart')
/-! a tuple, not empty, times 0 or 1 -/
theorem tuple_mul1 (l : Addr) (items : Array Value) (n : Nat) (dd : Option Addr) (sl : Array (Option Value)) (u : Tok) :
    Meets (Builtin.«tuple.__mul__» ⟨[.ref l, .int 1 u], []⟩) (fun _ R s => s.heap.get? l = some { cls := .type "tuple", dict := dd, data := .seq items n, slots := sl } ∧ R (.ok (.ret (.ref l))) s) :=
  .of_wp fun prog w A R s h => by
    obtain ⟨hp, g, d, tk, os⟩ := s
    obtain ⟨hl, h⟩ := h
    have f1 := AutoSeq1.idx_int
    wp_walk using wpAny_loadPart' hl
    exact ⟨_, rfl, h⟩
theorem tuple_mul0 (l : Addr) (items : Array Value) (n : Nat) (dd : Option Addr) (sl : Array (Option Value)) (u : Tok) (hi : items.isEmpty = false) :
    Meets (Builtin.«tuple.__mul__» ⟨[.ref l, .int 0 u], []⟩) (fun _ R s => s.heap.get? l = some { cls := .type "tuple", dict := dd, data := .seq items n, slots := sl } ∧
      R (.ok (.ret (Value.ref s.heap.objs.size))) { s with heap := s.heap.push { cls := Value.type "tuple", data := Data.seq #[] }, toks := s.toks }) :=
  .of_wp fun prog w A R s h => by
    obtain ⟨hp, g, d, tk, os⟩ := s
    obtain ⟨hl, h⟩ := h
    have f1 := AutoSeq1.idx_int
    wp_walk using wpAny_loadPart' hl
    exact ⟨_, rfl, h⟩
def rRep01 (K : PySem.W.Frag) : R2 := fun x y H Q => ∃ l k xs, x = .ref l ∧ y = .int k ∧ SqT K H l xs ∧ xs ≠ [] ∧ ((k = 1 ∧ Q (.ref l) H) ∨ (k = 0 ∧ ∀ p, H p = none → Q (.ref p) (upd H p (.tup []))))
theorem op_rep01 {X : Cx} : OpR X (binaryOp .Mult) (rRep01 X.K) := by
  intro pins s σ H x y v u Q I rx ry h
  obtain ⟨l, k, xs, rfl, rfl, hT, hne, q⟩ := h
  cases rx
  obtain ⟨t, rfl⟩ := ry
  obtain ⟨its, r, ⟨⟨cls, dd, data, sl⟩, ho, hc, n, hd⟩, hs⟩ := I.tuple hT
  simp only at hc hd
  subst hc hd
  have hi : its.toArray.isEmpty = false := by
    cases its with
    | nil =>
      have z := r.length
      exact absurd (List.eq_nil_of_length_eq_zero z) hne
    | cons a b => rfl
  rcases q with ⟨rfl, q⟩ | ⟨rfl, q⟩
  · exact wpAny_binaryOp_repeat_ref (T := "tuple") (U := "int") (by decide) ⟨_, ho, rfl⟩ (fun s' => typeIs_int s' 1 t) noFill_tuple_mul PySem.F.fills_int_mul PySem.F.slot_int_rmul repeat_tuple PySem.F.slot_int_index.lookup
      (call_meets PySem.F.slot_int_rmul (typeIs_int s 1 t) PySem.F.entry_int_rmul (PySem.F.args_int_rmul_2 _ _) (int_rmul_tuple 1 t l its.toArray n dd sl)
        ⟨ho, rfl, ⟨_, ho, rfl⟩, call_meets PySem.F.slot_tuple_mul ⟨_, ho, rfl⟩ PySem.F.entry_tuple_mul (PySem.F.args_tuple_mul_2 _ _) (tuple_mul1 l its.toArray n dd sl t) ⟨ho, .ref l, H, I, rfl, q⟩⟩)
  · refine wpAny_binaryOp_repeat_ref (T := "tuple") (U := "int") (by decide) ⟨_, ho, rfl⟩ (fun s' => typeIs_int s' 0 t) noFill_tuple_mul PySem.F.fills_int_mul PySem.F.slot_int_rmul repeat_tuple PySem.F.slot_int_index.lookup
      (call_meets PySem.F.slot_int_rmul (typeIs_int s 0 t) PySem.F.entry_int_rmul (PySem.F.args_int_rmul_2 _ _) (int_rmul_tuple 0 t l its.toArray n dd sl)
        ⟨ho, rfl, ⟨_, ho, rfl⟩, call_meets PySem.F.slot_tuple_mul ⟨_, ho, rfl⟩ PySem.F.entry_tuple_mul (PySem.F.args_tuple_mul_2 _ _) (tuple_mul0 l its.toArray n dd sl t hi) ⟨ho, ?_⟩⟩)
    refine ⟨.ref s.heap.objs.size, _, I.laid (t' := s.toks) (o := .tup []) (fun b ob q => Heap.get?_push_of_some _ q) (Nat.le_refl _) ?_, rfl, q _ (I.hok.fresh (Nat.le_refl _))⟩
    exact ⟨Nat.zero_le _, [], .nil, IsTup.new _ _⟩
/-! != of a list and an empty list: no element is compared -/
def rNeNil (K : PySem.W.Frag) : R2 := fun x y H Q => ∃ a b xs, x = .ref a ∧ y = .ref b ∧ SqL K H a xs ∧ SqL K H b [] ∧ Q (.bl (!xs.isEmpty)) H
theorem op_neNil {X : Cx} (hu : X.A.units + 64 < cLine) : OpR X (compareOp .NotEq) (rNeNil X.K) := by
  intro pins s σ H x y v u Q I rx ry h
  obtain ⟨a, b, xs, rfl, rfl, ha, hb, q⟩ := h
  cases (show v = Value.ref a from rx)
  cases (show u = Value.ref b from ry)
  obtain ⟨us, r1, p1, _⟩ := I.list ha
  obtain ⟨ws, r2, p2, _⟩ := I.list hb
  cases r2
  have hu2 : X.A.units < cLine := by omega
  cases xs with
  | nil =>
    cases r1
    exact SeqAt.RcNeAt.lists p1.isList p2.isList rfl hu2 (e := fun _ => true) (fun j h1 h2 => absurd h1 (Nat.not_lt_zero j)) X.prog X.w _ _ ⟨.bl false, H, I, rfl, q⟩
  | cons z zs =>
    cases r1
    exact SeqAt.RcNeAt.lists_lengths p1.isList p2.isList (by simp) hu2 X.prog X.w _ _ ⟨.bl true, H, I, rfl, q⟩
/-! y = {k: v for ..}; a dict comprehension over anything that is walked -/
theorem sw_dict {kx vx : Expr} {gs : List Comprehension} {scope : Scope} {pos py : Pos} {y : Str} {l : Nat} {env : Env} (hk : env.scope.kind = .function) (hy : env.scope.names.lookup y = some .local) (hl : (py.line == pos.line) = true)
    (ha : (scope.names.any fun (n, k) => n == y && (k == .local || k == .cell)) = false) : swapsWith (.DictComp kx vx gs scope pos) (some (.Name y py)) l env = pure true := by
  have e1 : env.kindOf y = some .local := hy
  have e2 : env.blockKind = .function := by
    unfold Env.blockKind
    rw [hk]
    rfl
  unfold swapsWith
  simp only [e2, e1, ha, Expr.pos, hl]
  rfl
theorem ps_setDc {X : Cx} {i : Nat} {y : Str} {py : Pos} {kx vx tg iter : Expr} {ifs : List Expr} {scope : Scope} {own : List (Str × Nat)} {pos spos : Pos} {wi : TI} {g : TG} {tt : TT} {tk tv : TE} (hc : X.calm = true) (hN : X.N.Nodup) (hy : X.N[i]? = some y) (hyl : X.env.scope.names.lookup y = some .local)
    (hsw : swapsWith (.DictComp kx vx [⟨tg, iter, ifs, 0⟩] scope pos) (some (.Name y py)) spos.line X.env = pure true) (hi : PI X tg iter wi) (ok : BlkOk X.N X.env.scope scope own)
    (hg : ∀ (s : Shared) (H : Hp) (C : Addr) (cl : List (Str × Addr)) (fp : List Addr), PG (X.blk s H scope (compEnvC scope cl C X.env) fp) tg g) (ht : ∀ (s : Shared) (H : Hp) (C : Addr) (cl : List (Str × Addr)) (fp : List Addr), PTs (X.blk s H scope (compEnvC scope cl C X.env) fp) ifs tt)
    (hk : ∀ (s : Shared) (H : Hp) (C : Addr) (cl : List (Str × Addr)) (fp : List Addr), PE (X.blk s H scope (compEnvC scope cl C X.env) fp) kx tk)
    (he : ∀ (s : Shared) (H : Hp) (C : Addr) (cl : List (Str × Addr)) (fp : List Addr), PE (X.blk s H scope (compEnvC scope cl C X.env) fp) vx tv) (hs : ∀ x, foldedSetIterable iter X.env x = pure x := by intro _; rfl) :
    PS X (.Assign [.Name y py] (.DictComp kx vx [⟨tg, iter, ifs, 0⟩] scope pos) spos) (tAsg (tDc wi g tt tk tv (own.map (·.2))) (gName i)) := by
  refine ⟨fun pins s σ H D I h => ?_⟩
  rw [exec_Assign_Name_used _ _ _ _ hsw]
  refine wpAny_bind (wpAny_standAt (wpAny_bind ?_))
  show wpAny _ X.A (do let _ ← comprehension (.DictComp kx vx [⟨tg, iter, ifs, 0⟩] scope pos) scope X.env (firstIterPos [⟨tg, iter, ifs, 0⟩] pos) newDict false (eval iter X.env) (some (assign (.Name y py) X.env))) _ _ s
  have h : tDc wi g tt tk tv (own.map (·.2)) σ H (fun x H1 => gName i x σ H1 D.nx) := h
  refine wpAny_bind (thn (dc_core (Qf := fun _ s' => SP X pins D .next s') hc hN I hi ok hg ht hk he hs h fun L C s' m H' I' q hn f => ?_) fun _ s' hq => wpAny_pure (wpAny_pure hq))
  show wpAny _ _ (assign (.Name y py) X.env (.ref L)) _ _ _
  obtain ⟨f0, f1, f2, f3, f4, f5⟩ := f
  refine wpAny_assign_Name (store_ok2 (v := V.ref L) I' hN hy (.inl hyl) rfl (fun s2 I2 ⟨a, sb, ha⟩ => ?_) (.inr hyl))
  have nCa : C ≠ a := by
    rcases ha with z | z
    · rw [z]
      exact f1
    · exact fun e => f4 y a z e.symm
  refine ⟨m, hn.sameBut sb nCa, fun h3 sb3 => ⟨_, H', I2.turned (t' := s2.toks) (fun b o hb e => (sb3.2 b hb).trans e) f0 f1 f3 f4 f5, q⟩⟩
theorem dc_it {J : It} {n : Nat} {G : Hp → Prop} {Y : Nat → Hp → V → Hp → Prop} (w : Walk J n G Y) {g : TG} {tt : TT} {tk tv : TE} {vs : List Nat} {σ : L2.St} {H1 : Hp} {D : Addr} {Qd : Hp → Prop} (Pv : Nat → Hp → Prop) (h0 : Pv 0 (upd H1 D (.dK []))) (hG : ∀ i H, i ≤ n → Pv i H → G H)
    (hs : ∀ i x H H', i < n → Pv i H → Y i H x H' → g x (wipe σ vs) H' fun σ2 H2 => wipe σ2 vs = wipe σ vs ∧ tt σ2 H2 fun b H3 =>
      if b = true then tk σ2 H3 fun y H4 => tv σ2 H4 fun z H5 => ∃ kvs k, y = kV k ∧ H5 D = some (.dK kvs) ∧ kvs.length < sizeLine ∧ Pv (i + 1) (upd H5 D (.dK (putK kvs k z))) else Pv (i + 1) H3) (hd : ∀ H, Pv n H → Qd H) :
    ∃ W : Nat → Nat → Hp → Prop, (∃ m, W 0 m (upd H1 D (.dK []))) ∧ ∀ i m H, W i m H → (J.stop i H ∧ Qd H) ∨ (J.go i H ∧ ∃ Nx : Hp → Prop, (∀ H', Nx H' → ∃ m', m' < m ∧ W (i + 1) m' H') ∧ ∀ x H', J.yld i H x H' → g x (wipe σ vs) H' fun σ2 H2 =>
      wipe σ2 vs = wipe σ vs ∧ tt σ2 H2 fun b H3 => if b = true then tk σ2 H3 fun y H4 => tv σ2 H4 fun z H5 => ∃ kvs k, y = kV k ∧ H5 D = some (.dK kvs) ∧ kvs.length < sizeLine ∧ Nx (upd H5 D (.dK (putK kvs k z))) else Nx H3) := by
  refine ⟨fun i m H => i ≤ n ∧ m + i = n ∧ Pv i H, ⟨n, Nat.zero_le _, rfl, h0⟩, ?_⟩
  rintro i m H ⟨hi, hm, p⟩
  have gg := hG i H hi p
  by_cases lt : i < n
  · exact Or.inr ⟨w.goes i H lt gg, Pv (i + 1), fun H' p' => ⟨m - 1, by omega, by omega, by omega, p'⟩, fun x H' y => hs i x H H' lt p (w.yields i H x H' lt gg y)⟩
  · have e : i = n := by omega
    subst e
    exact Or.inl ⟨w.stops H gg, hd H p⟩
/-! dicts by their keys -/
theorem putK_new {kvs : List (Key × V)} {k : Key} {v : V} (h : ∀ p ∈ kvs, p.1 ≠ k) : putK kvs k v = kvs ++ [(k, v)] := by
  unfold putK
  rw [if_neg]
  intro z
  obtain ⟨p, m, e⟩ := List.any_eq_true.mp z
  exact h p m (of_decide_eq_true e)
theorem valV_at : ∀ {kvs : List (Key × V)} {i : Nat} {p : Key × V}, (kvs.map (·.1)).Nodup → kvs[i]? = some p → valV kvs p.1 = some p.2
  | [], _, _, _, h => by simp at h
  | q :: kvs, 0, p, _, h => by
    have e : q = p := by simpa using h
    subst e
    unfold valV
    rw [List.find?_cons_of_pos (by simp)]
    rfl
  | q :: kvs, i + 1, p, nd, h => by
    have h : kvs[i]? = some p := by simpa using h
    rw [List.map_cons, List.nodup_cons] at nd
    have ne : ¬ q.1 = p.1 := fun z => nd.1 (by rw [z]; exact List.mem_map_of_mem (List.mem_of_getElem? h))
    have ih := valV_at nd.2 h
    unfold valV at ih ⊢
    rw [List.find?_cons_of_neg (by simpa using ne)]
    exact ih
theorem take_fresh : ∀ {kvs : List (Key × V)} {i : Nat} {p : Key × V}, (kvs.map (·.1)).Nodup → kvs[i]? = some p → ∀ q ∈ kvs.take i, q.1 ≠ p.1
  | [], _, _, _, h, _, _ => by simp at h
  | r :: kvs, 0, p, _, h, q, m => by simp at m
  | r :: kvs, i + 1, p, nd, h, q, m => by
    have h : kvs[i]? = some p := by simpa using h
    rw [List.map_cons, List.nodup_cons] at nd
    rw [List.take_succ_cons] at m
    rcases List.mem_cons.mp m with e | m
    · subst e
      exact fun z => nd.1 (by rw [z]; exact List.mem_map_of_mem (List.mem_of_getElem? h))
    · exact take_fresh nd.2 h q m
theorem nodup_inr : ∀ {xs : List Str}, xs.Nodup → (xs.map (Sum.inr : Str → Key)).Nodup
  | [], _ => .nil
  | x :: xs, h => by
    rw [List.nodup_cons] at h
    rw [List.map_cons, List.nodup_cons]
    refine ⟨fun z => ?_, nodup_inr h.2⟩
    obtain ⟨y, m, e⟩ := List.mem_map.mp z
    exact h.1 (by rw [← Sum.inr.inj e]; exact m)
/-! enumerate over a list, a tuple or a text, from any number on -/
/-- what stands in Its is gone along by the iterator at it -/
structure Goer (P : Program) (w : World) (K : PySem.W.Frag) (it : Addr) (Its : Hp → List V → Prop) (tn : Nat → Heap → Prop) : Prop where
  cell : ∀ i h, tn i h → ∃ o, h.get? it = some o ∧ ∀ v, o.data ≠ .cell v
  keep : ∀ i h h', tn i h → (∀ o, h.get? it = some o → h'.get? it = some o) → tn i h'
  uniq : ∀ (X : Cx) (pins : List (Addr × Obj)) (σ : L2.St) (H : Hp) (s : Shared) xs ys, X.K = K → Inv X pins σ H s → Its H xs → Its H ys → xs = ys
  drw : ∀ (X : Cx) (i0 : Nat) (pins : List (Addr × Obj)) (σ : L2.St) (H : Hp) (s : Shared) (e : Addr) (xs : List V), X.prog = P → X.w = w → X.K = K → X.calm = true → Inv X pins σ H s → tn i0 s.heap → e ≠ it → (∃ ob, s.heap.get? e = some ob ∧ ob.cls = .type "enumerate") → Its H xs →
    ∃ (Pq : Nat → Value → Prop) (Z : Nat → Heap → Prop) (fp : List Addr), Draws P w X.A.in1 it fp xs.length Pq Z ∧ (∀ i, tn i s.heap → Z i s.heap) ∧ (∀ i h, Z i h → tn i h) ∧ e ∉ fp ∧ ∀ i u, Pq i u → ∃ x, xs[i]? = some x ∧ RelV x u
def ItC (Its : Hp → List V → Prop) (k0 : Int) : It :=
  ⟨fun i H => ∃ (zs : List V) (z : V), Its H zs ∧ zs[i]? = some z,
   fun i H y H' => ∃ T z, y = .ref T ∧ H T = none ∧ H' = upd H T (.tup [.int (k0 + (i : Nat)), z]) ∧ ∀ zs, Its H zs → zs[i]? = some z,
   fun i H => ∃ zs : List V, Its H zs ∧ zs.length = i⟩
theorem turn_enumC {P : Program} {w : World} {K : PySem.W.Frag} {elts : List Expr} {kk : Nat} {tpos : Pos} {Its : Hp → List V → Prop} {tn : Nat → Heap → Prop} (k0 : Int) (e it : Addr) (G : Goer P w K it Its tn) :
    Turn P w K (.Tuple elts kk tpos) (ItC Its k0) [e, it] e (fun i h => (∃ old, IsEnum h e it (k0 + (i : Nat)) old) ∧ tn i h ∧ e ≠ it) where
  mem := List.mem_cons_self
  obj := fun i h st b hb => by
    obtain ⟨⟨old, ee⟩, ii, _⟩ := st
    rcases List.mem_cons.mp hb with z | hb
    · subst z
      exact ⟨_, ee, fun v q => nomatch q⟩
    · rw [List.mem_singleton.mp hb]
      exact G.cell i h ii
  keep := fun i h h' st k => by
    obtain ⟨⟨old, ee⟩, ii, ne⟩ := st
    exact ⟨⟨old, k e List.mem_cons_self _ ee⟩, G.keep i h h' ii (fun o q => k it (List.mem_cons_of_mem _ List.mem_cons_self) o q), ne⟩
  item := by
    intro X hP hw hK hc i pins s σ H E I fr st hg
    subst hP hw hK
    obtain ⟨⟨old, ee⟩, ii, ne⟩ := st
    obtain ⟨zs, z, hz, hi⟩ := hg
    obtain ⟨Pq, Z, fp, D, z1, z2, ef, pq⟩ := G.drw X i pins σ H s e zs rfl rfl rfl hc I ii ne ⟨_, ee, rfl⟩ hz
    have le : e < s.heap.objs.size := Heap.lt_size ee
    have li : it < s.heap.objs.size := by
      obtain ⟨o, q, _⟩ := G.cell i _ ii
      exact Heap.lt_size q
    refine wpAny_pyNext_enum_itemC D ee (z1 i ii) (List.getElem?_eq_some_iff.mp hi).1 ne ef fun x h1 tk px ho st1 hT hs kp => ?_
    obtain ⟨x', e', rx⟩ := pq i x px
    have ex := Option.some.inj (e'.symm.trans hi)
    subst ex
    refine ⟨_, rfl, wpAny_letOwnedTupleGo_enum (s := { s with heap := h1, toks := tk + 1 }) ho fun h2 e2 sb => ?_⟩
    have t2 : h2.get? s.heap.objs.size = some { cls := .type "tuple", data := .seq #[.int (k0 + (i : Nat)) tk, x] } := (sb.2 _ (Nat.ne_of_gt le)).trans hT
    have fresh : ObjOk X.prog X.w (upd H s.heap.objs.size (.tup [.int (k0 + (i : Nat)), x'])) h2 s.heap.objs.size (.tup [.int (k0 + (i : Nat)), x']) :=
      ⟨by show 2 ≤ sizeLine; decide, [.int (k0 + (i : Nat)) tk, x], .cons ⟨_, rfl⟩ (.cons rx .nil), ⟨_, t2, rfl, _, rfl⟩⟩
    have I1 : Inv X pins σ (upd H s.heap.objs.size (.tup [.int (k0 + (i : Nat)), x'])) { s with heap := h2, toks := tk + 1 } :=
      I.turnedNew (ch := [e, it]) (fun b o nb q => (sb.2 b (fun y => nb (by simp [y]))).trans (kp b o (fun y => nb (by simp [y])) (fun y => nb (by simp [y])) q)) fr (Nat.le_refl _) fresh
    refine ⟨.ref s.heap.objs.size, _, I1, rfl, ⟨_, x', rfl, I.hok.fresh (Nat.le_refl _), rfl, fun ys hy => by rw [G.uniq X pins σ H s ys zs rfl I hy hz]; exact hi⟩, ⟨⟨x, ?_⟩, ?_, ne⟩, fun b hb => ?_⟩
    · have a1 : k0 + ((i + 1 : Nat) : Int) = k0 + (i : Nat) + 1 := by omega
      rw [a1]
      exact e2
    · exact G.keep _ h1 h2 (z2 _ _ st1) fun o q => (sb.2 it (Ne.symm ne)).trans q
    · have lb : b < s.heap.objs.size := by
        rcases List.mem_cons.mp hb with y | hb
        · rw [y]; exact le
        · rw [List.mem_singleton.mp hb]; exact li
      rw [upd_ne (Nat.ne_of_lt lb)]
      exact (fr b hb).1
  done := by
    intro X hP hw hK hc i pins s σ H E I fr st hg
    subst hP hw hK
    obtain ⟨⟨old, ee⟩, ii, ne⟩ := st
    obtain ⟨zs, hz, hl⟩ := hg
    obtain ⟨Pq, Z, fp, D, z1, z2, ef, pq⟩ := G.drw X i pins σ H s e zs rfl rfl rfl hc I ii ne ⟨_, ee, rfl⟩ hz
    subst hl
    obtain ⟨f0, f1, f2, f3, f4, f5⟩ := fr it (List.mem_cons_of_mem _ List.mem_cons_self)
    exact wpAny_pyNext_enum_endD D ee (z1 _ ii) fun h1 eb => ⟨rfl, I.turned (t' := s.toks) (fun b o nb q => eb b o nb q) f0 f1 f3 f4 f5⟩
  self := fun A i s Q E st h => by
    obtain ⟨⟨_, ee⟩, _⟩ := st
    exact wpAny_pyIter_enum ee h
theorem vals_back : ∀ {xs : List V} {us : List Value} {i : Nat} {u : Value}, Vals xs us → us[i]? = some u → ∃ x, xs[i]? = some x ∧ RelV x u := by
  intro xs us i u r e
  have hi := (List.getElem?_eq_some_iff.mp e).1
  have l := r.length
  obtain ⟨u2, e2, r2⟩ := r.get (List.getElem?_eq_getElem (l := xs) (i := i) (by omega))
  have z := Option.some.inj (e2.symm.trans e)
  subst z
  exact ⟨_, List.getElem?_eq_getElem (by omega), r2⟩
section
variable {P : Program} {w : World} {K : PySem.W.Frag}
theorem goer_tup (a it : Addr) : Goer P w K it (fun H xs => SqT K H a xs) (fun i h => h.IsTupleIter it a i) where
  cell := fun i h st => by
    obtain ⟨o, q, _, r⟩ := st
    exact ⟨o, q, fun v y => by rw [r] at y; cases y⟩
  keep := fun i h h' st k => st.at fun o q => k o q
  uniq := fun X pins σ H s xs ys hK I hx hy => by
    subst hK
    exact I.tuple_inj hx hy
  drw := fun X i0 pins σ H s e xs hP hw hK hc I ti ne ⟨oe, oq, oc⟩ hx => by
    subst hP hw hK
    obtain ⟨its, rv, p, hz⟩ := I.tuple hx
    have p2 : s.heap.IsTuple a its.toArray := p
    obtain ⟨ot, t1, t2, _⟩ := p
    have nt : a ≠ it := by
      intro y
      obtain ⟨oi, q1, q2, _⟩ := ti
      rw [y, q1] at t1
      cases t1
      rw [q2] at t2
      exact absurd (Value.type.inj t2) (by decide)
    have net : e ≠ a := by
      intro y
      rw [y, t1] at oq
      cases oq
      rw [t2] at oc
      exact absurd (Value.type.inj oc) (by decide)
    have D := Draws.tuple (prog := X.prog) (w := X.w) (A := X.A.in1) (I.ok.hd hc) it a nt its.toArray
    rw [List.size_toArray, ← rv.length] at D
    refine ⟨_, _, _, D, fun i st => ⟨st, p2⟩, fun i h z => z.1, ?_, ?_⟩
    · simp only [List.mem_cons, List.not_mem_nil, or_false, not_or]
      exact ⟨ne, net⟩
    · intro i u q
      have q : its.toArray[i]? = some u := q
      rw [List.getElem?_toArray] at q
      exact vals_back rv q
theorem goer_lst (a it : Addr) : Goer P w K it (fun H xs => SqL K H a xs) (fun i h => h.IsListIter it a i) where
  cell := fun i h st => by
    obtain ⟨o, q, _, r⟩ := st
    exact ⟨o, q, fun v y => by rw [r] at y; cases y⟩
  keep := fun i h h' st k => st.at fun o q => k o q
  uniq := fun X pins σ H s xs ys hK I hx hy => by
    subst hK
    exact I.list_inj hx hy
  drw := fun X i0 pins σ H s e xs hP hw hK hc I ti ne ⟨oe, oq, oc⟩ hx => by
    subst hP hw hK
    obtain ⟨its, rv, p, hz⟩ := I.list hx
    have p2 : s.heap.IsList a its.toArray := p.isList
    obtain ⟨ot, t1, t2, _⟩ := id p2
    have nt : a ≠ it := by
      intro y
      obtain ⟨oi, q1, q2, _⟩ := ti
      rw [y, q1] at t1
      cases t1
      rw [q2] at t2
      exact absurd (Value.type.inj t2) (by decide)
    have net : e ≠ a := by
      intro y
      rw [y, t1] at oq
      cases oq
      rw [t2] at oc
      exact absurd (Value.type.inj oc) (by decide)
    have D := Draws.list (prog := X.prog) (w := X.w) (A := X.A.in1) (I.ok.hd hc) it a nt its.toArray
    rw [List.size_toArray, ← rv.length] at D
    refine ⟨_, _, _, D, fun i st => ⟨st, p2⟩, fun i h z => z.1, ?_, ?_⟩
    · simp only [List.mem_cons, List.not_mem_nil, or_false, not_or]
      exact ⟨ne, net⟩
    · intro i u q
      have q : its.toArray[i]? = some u := q
      rw [List.getElem?_toArray] at q
      exact vals_back rv q
/-- the signs of a text -/
def signs (z : Str) : List V := z.cps.toList.map fun c => V.str ⟨#[c]⟩
theorem goer_str (z : Str) (t : Tok) (it : Addr) : Goer P w K it (fun _ xs => xs = signs z) (fun i h => h.IsStrIter it (strIterType z) z t i) where
  cell := fun i h st => by
    obtain ⟨o, q, _, r⟩ := st
    exact ⟨o, q, fun v y => by rw [r] at y; cases y⟩
  keep := fun i h h' st k => by
    obtain ⟨o, q, r⟩ := st
    exact ⟨o, k o q, r⟩
  uniq := fun X pins σ H s xs ys hK I hx hy => hx.trans hy.symm
  drw := fun X i0 pins σ H s e xs hP hw hK hc I ti ne _ hx => by
    subst hP hw hK hx
    have D := Draws.text (prog := X.prog) (w := X.w) (A := X.A.in1) (I.ok.hd hc) it z t
    have ez : z.cps.size = (signs z).length := by simp [signs]
    rw [ez] at D
    refine ⟨_, _, _, D, fun i st => st, fun i h z => z, ?_, ?_⟩
    · simp only [List.mem_cons, List.not_mem_nil, or_false]
      exact ne
    · rintro i u ⟨c, u2, q, rfl⟩
      refine ⟨.str ⟨#[c]⟩, ?_, ⟨_, rfl⟩⟩
      unfold signs
      rw [List.getElem?_map]
      have q2 : z.cps.toList[i]? = some c := by simpa using q
      rw [q2]
      rfl
end
set_option maxHeartbeats 1000000 in
theorem meets_enum1 {v : Value} {ob : Obj} {Z : Heap → Prop} (B : Begins v ob Z) :
    Meets (Builtin.«enumerate.__new__» ⟨[.type "enumerate", v], []⟩) (fun _ R s => Z s.heap ∧
      R (.ok (.ret (.ref (s.heap.push ob).objs.size))) { s with heap := (s.heap.push ob).push { cls := .type "enumerate", data := .fields #[.none, .bool false, .ref s.heap.objs.size, rawInt 0, .none, .none] } }) :=
  .of_wp fun prog w A R s hh => by
    obtain ⟨hp, g, d, tk, os⟩ := s
    obtain ⟨hz, hh⟩ := hh
    have hsub := sub_enumerate
    have go : ∀ {A' : Around} {E : Value → Shared → Prop} {Q : Value → Shared → Prop}, Q (.ref hp.objs.size) ⟨hp.push ob, g, d, tk, os⟩ → wpAny (model prog w) A' (pyIter v) Q E ⟨hp, g, d, tk, os⟩ :=
      fun q => B.iter prog w _ _ ⟨hp, g, d, tk, os⟩ _ hz q
    wp_walk using go
    refine wpAny_stack_any fun st => wpAny_pure ?_
    split
    · rename_i c _ _ _ _ _
      cases (c == Value.type "enumerate") <;>
      · wp_walk using go
        exact ⟨_, rfl, hh⟩
    · wp_walk using go
      exact ⟨_, rfl, hh⟩
theorem enum_made {prog : Program} {w : World} {A : Around} {E : Value → Shared → Prop} {s : Shared} {v : Value} {ob : Obj} {Z : Heap → Prop} {Q : Value → Shared → Prop} (B : Begins v ob Z) (hz : Z s.heap)
    (h : ∀ h', IsEnum h' (s.heap.objs.size + 1) s.heap.objs.size 0 .none → h'.get? s.heap.objs.size = some ob → (∀ b o, s.heap.get? b = some o → h'.get? b = some o) → Q (.ref (s.heap.objs.size + 1)) { s with heap := h' }) :
    wpAny (model prog w) A (call (.type "enumerate") [v]) Q E s := by
  refine callType_new F.called_enumerate (by decide) (F.typeCall_enumerate_1 _) (F.newCall_enumerate_1 _) (fun obj => F.args_object_init_2 obj _) F.entry_enumerate_new (meets_enum1 B) ⟨hz, ?_⟩
  have sz : (s.heap.push ob).objs.size = s.heap.objs.size + 1 := Heap.size_push ..
  show _ ∧ _
  rw [sz]
  have ee := Heap.get?_push_size (s.heap.push ob) (o := { cls := .type "enumerate", data := .fields #[.none, .bool false, .ref s.heap.objs.size, rawInt 0, .none, .none] }) rfl
  rw [sz] at ee
  exact ⟨⟨_, ee, rfl⟩, h _ ee (Heap.get?_push_of_some _ (Heap.get?_push_size _ B.free)) fun b o x => Heap.get?_push_of_some _ (Heap.get?_push_of_some _ x)⟩
def iEnumA (K : PySem.W.Frag) (ta : TA) : TI := fun σ H R => ta σ H fun vs H1 =>
  (∃ a xs, vs = [.ref a] ∧ SqT K H1 a xs ∧ R (ItC (fun H ys => SqT K H a ys) 0) H1) ∨ ∃ z, vs = [.str z] ∧ R (ItC (fun _ ys => ys = signs z) 0) H1
def iEnumK (K : PySem.W.Frag) (ta : TA) : TI := fun σ H R => ta σ H fun vs H1 => ∃ a xs k, vs = [.ref a, .int k] ∧ SqL K H1 a xs ∧ -(2 ^ 63) ≤ k ∧ k < 2 ^ 63 ∧ R (ItC (fun H ys => SqL K H a ys) k) H1
section
variable {X : Cx} {e e2 : Expr} {ta : TA} {p pos tpos : Pos} {elts : List Expr} {kk : Nat}
theorem pie_enum {pins : List (Addr × Obj)} {σ : L2.St} {H : Hp} {s : Shared} {h' : Heap} {Its : Hp → List V → Prop} {tn : Nat → Heap → Prop} {R : It → Hp → Prop} {k : Int} (I : Inv X pins σ H s) (G : Goer X.prog X.w X.K s.heap.objs.size Its tn)
    (ee : IsEnum h' (s.heap.objs.size + 1) s.heap.objs.size k .none) (t0 : tn 0 h') (kp : ∀ b o, s.heap.get? b = some o → h'.get? b = some o) (q : R (ItC Its k) H) :
    wpAny (model X.prog X.w) X.A (pyIter (.ref (s.heap.objs.size + 1))) (PIE X pins σ (.Tuple elts kk tpos) R) X.xe { s with heap := h' } := by
  refine wpAny_pyIter_enum ee ?_
  refine ⟨s.heap.objs.size + 1, [s.heap.objs.size + 1, s.heap.objs.size], _, _, H, rfl, I.kept (t' := s.toks) kp, turn_enumC k (s.heap.objs.size + 1) s.heap.objs.size G, ⟨⟨.none, ?_⟩, t0, Nat.succ_ne_self _⟩, fun b hb => ?_, q⟩
  · have z : k + ((0 : Nat) : Int) = k := by omega
    rw [z]
    exact ee
  · have lb : s.heap.objs.size ≤ b := by
      rcases List.mem_cons.mp hb with y | hb
      · rw [y]; exact Nat.le_succ _
      · rw [List.mem_singleton.mp hb]; exact Nat.le_refl _
    exact I.fpOk lb (I.hok.fresh lb)
theorem pi_enumA (hg : Gl X "enumerate") (hm : X.mg "enumerate" = none) (ha : PA X [e] ta) (hs : starEach [e] X.env = [(false, eval e X.env)] := by rfl) :
    PI X (.Tuple elts kk tpos) (.Call (.Name "enumerate" p) [e] [] pos) (iEnumA X.K ta) := by
  refine ⟨fun pins s σ H R I h => ?_⟩
  refine Call_ (ld_blt I hg hm boot_enumerate (PyProof.Rows.callWith_type1 (thn (ha.run pos pins s σ H _ I h) fun us s1 ⟨vs, H1, I1, r1, q1⟩ => ?_) hs rfl))
  rcases q1 with ⟨a, xs, rfl, hx, q⟩ | ⟨z, rfl, q⟩
  · obtain ⟨u, rfl, ru⟩ := r1.one
    cases ru
    obtain ⟨its, rv, tp, hz⟩ := I1.tuple hx
    exact enum_made (begins_tuple a its.toArray) tp fun h' ee hi kp => pie_enum I1 (goer_tup a _) ee ⟨_, hi, rfl, rfl⟩ kp q
  · obtain ⟨u, rfl, ru⟩ := r1.one
    obtain ⟨t, rfl⟩ := ru
    exact enum_made (begins_text z t) trivial fun h' ee hi kp => pie_enum I1 (goer_str z t _) ee ⟨_, hi, rfl, rfl⟩ kp q
theorem pi_enumK (hg : Gl X "enumerate") (hm : X.mg "enumerate" = none) (ha : PA X [e, e2] ta) (hs : starEach [e, e2] X.env = (false, eval e X.env) :: starEach [e2] X.env := by rfl) (hpl : (backTo pos (starEach [e2] X.env)).any (·.1) = false := by rfl) :
    PI X (.Tuple elts kk tpos) (.Call (.Name "enumerate" p) [e, e2] [] pos) (iEnumK X.K ta) := by
  refine ⟨fun pins s σ H R I h => ?_⟩
  refine Call_ (ld_blt I hg hm boot_enumerate (PyProof.Rows.callWith_type1 (thn (ha.run pos pins s σ H _ I h) fun us s1 ⟨vs, H1, I1, r1, q1⟩ => ?_) hs hpl))
  obtain ⟨a, xs, k, rfl, hx, k0, k1, q⟩ := q1
  obtain ⟨u, v, rfl, ru, rv⟩ := r1.two
  cases ru
  obtain ⟨t, rfl⟩ := rv
  obtain ⟨its, rv, tp, hz⟩ := I1.list hx
  exact enum_begins (begins_list a its.toArray) tp.isList k0 k1 fun h' ee hi _ kp => pie_enum I1 (goer_lst a _) ee ⟨_, hi, rfl, rfl⟩ kp q
end
/-- going along what enumerate hands out -/
theorem walk_C {Its : Hp → List V → Prop} {xs : List V} {k0 : Int} : Walk (ItC Its k0) xs.length (fun H => Its H xs)
    (fun i H y H' => ∃ T z, y = .ref T ∧ H T = none ∧ H' = upd H T (.tup [.int (k0 + (i : Nat)), z]) ∧ xs[i]? = some z) := by
  refine ⟨fun i H hi g => ⟨xs, _, g, List.getElem?_eq_getElem hi⟩, ?_, ?_⟩
  · intro H g
    exact ⟨xs, g, rfl⟩
  · rintro i H y H' hi g ⟨T, z, e1, e2, e3, e4⟩
    exact ⟨T, z, e1, e2, e3, e4 xs g⟩
def topS (i : Nat) : Stmt := PySem.Challenge.pw_runlore_k07_whole_parts_replaced.main.body.getD i (.Pass ⟨0, 0, 0, 0⟩)
abbrev sInit : Stmt := inClass (topS 3) 0
abbrev sEq : Stmt := inClass (topS 3) 1
abbrev sStr : Stmt := inClass (topS 3) 2
abbrev sRep : Stmt := inClass (topS 3) 3
theorem scInit : FnScope ["self", "word", "rule", "path"] ["self", "word", "rule", "path"] (defScope sInit) := ⟨rfl, rfl, rfl, by decide +kernel, rfl, by decide +kernel, by decide +kernel⟩
theorem scEq : FnScope ["self", "other"] ["self", "other"] (defScope sEq) := ⟨rfl, rfl, rfl, by decide +kernel, rfl, by decide +kernel, by decide +kernel⟩
theorem scStr : FnScope ["self"] ["self"] (defScope sStr) := ⟨rfl, rfl, rfl, by decide +kernel, rfl, by decide +kernel, by decide +kernel⟩
theorem scRep : FnScope ["self"] ["self"] (defScope sRep) := ⟨rfl, rfl, rfl, by decide +kernel, rfl, by decide +kernel, by decide +kernel⟩
/-- the attributes of a fault -/
def fl (wd : Str) (r p : V) : List (Str × V) := putF "path" p (putF "rule" r (putF "word" (.str wd) []))
theorem kwr : ¬ (("word" : Str) = "rule") := by decide +kernel
theorem kwp : ¬ (("word" : Str) = "path") := by decide +kernel
theorem krp : ¬ (("rule" : Str) = "path") := by decide +kernel
theorem fl_word (wd : Str) (r p : V) : (fl wd r p).lookup ("word" : Str) = some (.str wd) := by
  unfold fl
  rw [lookup_putF, if_neg kwp, lookup_putF, if_neg kwr, lookup_putF, if_pos rfl]
theorem fl_rule (wd : Str) (r p : V) : (fl wd r p).lookup ("rule" : Str) = some r := by
  unfold fl
  rw [lookup_putF, if_neg krp, lookup_putF, if_pos rfl]
theorem fl_path (wd : Str) (r p : V) : (fl wd r p).lookup ("path" : Str) = some p := by
  unfold fl
  rw [lookup_putF, if_pos rfl]
/-- a fault stands at a -/
def FaultAt (C : Addr) (H : Hp) (a : Addr) (wd : Str) (r p : V) : Prop := ∃ dx, H a = some (.ins C dx (fl wd r p))
structure FaC (K : PySem.W.Frag) (mg : Str → Option Value) (C fE : Addr) : Prop where
  o : OwnC K C fE
  nw : NoAttr K C "word"
  nr : NoAttr K C "rule"
  np : NoAttr K C "path"
  mg : mg "Fault" = some (.ref C)
  kc : PySem.W.keepIn K (.ref C) = true
def spInitF (C : Addr) : Sp := fun vs H Q _ => ∃ (a dx : Addr) (wd : Str) (r p : V), vs = [.ref a, .str wd, r, p] ∧ H a = some (.ins C dx []) ∧ ∀ H', H' a = some (.ins C dx (fl wd r p)) → (∀ b, b ≠ a → H' b = H b) → Q .non H'
def spEqF (K : PySem.W.Frag) (C : Addr) : Sp := fun vs H Q _ => ∃ a wd r p y, vs = [.ref a, y] ∧ FaultAt C H a wd r p ∧
  ((∃ d, Dp K H y d ∧ Q (.bl false) H) ∨ ∃ b wd' r' p', y = .ref b ∧ FaultAt C H b wd' r' p' ∧ Q (.bl (decide (wd = wd'))) H)
def spStrF (C : Addr) : Sp := fun vs H Q _ => ∃ a wd r p, vs = [.ref a] ∧ FaultAt C H a wd r p ∧ Sm 20 wd ∧ Q (.str (Str.empty ++ ("fault " : Str) ++ wd)) H
def spRepF (C : Addr) : Sp := fun vs H Q _ => ∃ a wd r p, vs = [.ref a] ∧ FaultAt C H a wd r p ∧ Sm 20 wd ∧ Q (.str (Str.empty ++ ("Fault(" : Str) ++ reprText wd ++ (")" : Str))) H
theorem rep_len {n : Nat} {x : Str} (h : Sm n x) : (reprText x).length ≤ 10 * n + 2 := by
  have q := StrLaws.reprText_len x (fun c hc => Nat.lt_of_lt_of_le (h.lo c hc) (by decide))
  have := h.le
  omega
section
variable {P : Program} {w : World} {K : PySem.W.Frag} {mg : Str → Option Value} {base : Heap} {f C fE : Addr} {fd : FuncData}
theorem ok_initF {k : Nat} {dvs : List V} (F : FunD K "__init__" "Fault.__init__" (defArgs sInit) (defBody sInit) (defScope sInit) dvs [] f fd) (T : FaC K mg C fE) : FnOk P w K mg base CX0 (k + 1) f fd ["self", "word", "rule", "path"] (spInitF C) := by
  refine F.ok scInit (fun vs H Q E h => ?_) (fun cdv A outer s H vs Q E hr h => ?_)
  · obtain ⟨a, dx, wd, r, p, rfl, _⟩ := h
    rfl
  obtain ⟨a, dx, wd, r, p, rfl, ha, q⟩ := h
  refine ⟨_, pss_cons (ps_fld (pv 0) (pv 1) rfl) (pss_cons (ps_fld (pv 0) (pv 2) rfl) (pss_one (ps_fld (pv 0) (pv 3) rfl))), ?_⟩
  refine ⟨_, rfl, _, rfl, a, C, dx, [], rfl, ha, T.o.c.cl, T.nw, (by show 0 < 1000; decide), _, rfl, _, rfl, a, C, dx, _, rfl, upd_same, T.o.c.cl, T.nr, ?_, _, rfl, _, rfl, a, C, dx, _, rfl, upd_same, T.o.c.cl, T.np, ?_, q _ upd_same fun b hb => by rw [upd_ne hb, upd_ne hb, upd_ne hb]⟩
  · show 1 < 1000
    decide
  · have e : (putF "rule" r (putF "word" (.str wd) [])).length = 2 := by
      show (if ("word" : Str) = "rule" then _ else _ : List (Str × V)).length = 2
      rw [if_neg kwr]
      rfl
    rw [e]
    decide
theorem ok_eqF {k : Nat} (F : Fun K "__eq__" "Fault.__eq__" sEq f fd) (T : FaC K mg C fE) (B : Bi mg) : FnOk P w K mg base CX0 (k + 1) f fd ["self", "other"] (spEqF K C) := by
  refine F.ok scEq (fun vs H Q E h => ?_) (fun cdv A outer s H vs Q E hr h => ?_)
  · obtain ⟨a, wd, r, p, y, rfl, _⟩ := h
    rfl
  obtain ⟨a, wd, r, p, y, rfl, ⟨dx, ha⟩, q⟩ := h
  refine ⟨_, pss_one (ps_ret (pe_and (pe_callB call_isi (by rfl) B.ii b_ii (pa_cons (pv 1) (pa_cons (pe_glob (by rfl) T.mg (v := .ref C) rfl) pa_nil)))
    (pe_one (pe_cmpR op_eq (pe_fld (pv 0) rfl) (pe_fld (pv 1) rfl) (nomark _))))), ?_⟩
  rcases q with ⟨d, hd, q⟩ | ⟨b, wd', r', p', rfl, ⟨dy, hb⟩, q⟩
  · refine ⟨_, rfl, y, .ref C, _, _, false, rfl, .own C, tyD hd, (T.o.of hd).1, _, rfl, iteF q⟩
  · refine ⟨_, rfl, .ref b, .ref C, _, _, true, rfl, .own C, .base (.ins hb T.o.c.cl T.o.c.ha T.o.c.hn T.o.c.htk T.o.c.hm), T.o.c.me, _, rfl, iteT ?_⟩
    refine ⟨_, rfl, a, C, dx, _, _, rfl, ha, T.o.c.cl, T.nw, fl_word _ _ _, _, rfl, b, C, dy, _, _, rfl, hb, T.o.c.cl, T.nw, fl_word _ _ _, rfl, ?_⟩
    have e : decide (V.str wd = V.str wd') = decide (wd = wd') := by
      by_cases h : wd = wd'
      · rw [decide_eq_true h, decide_eq_true (congrArg V.str h)]
      · rw [decide_eq_false h, decide_eq_false fun z => h (V.str.inj z)]
    show Q (V.bl (decide (V.str wd = V.str wd'))) H
    rw [e]
    exact q
theorem ok_strF {k : Nat} (F : Fun K "__str__" "Fault.__str__" sStr f fd) (T : FaC K mg C fE) : FnOk P w K mg base CX0 (k + 1) f fd ["self"] (spStrF C) := by
  refine F.ok scStr (fun vs H Q E h => ?_) (fun cdv A outer s H vs Q E hr h => ?_)
  · obtain ⟨a, wd, r, p, rfl, _⟩ := h
    rfl
  obtain ⟨a, wd, r, p, rfl, ⟨dx, ha⟩, sw, q⟩ := h
  refine ⟨_, pss_one (ps_ret (pe_joined (.cons pe_str (.cons (pe_fmt (pe_fld (pv 0) rfl)) .nil)))), ?_⟩
  refine ⟨_, rfl, by decide +kernel, _, rfl, a, C, dx, _, _, rfl, ha, T.o.c.cl, T.nw, fl_word _ _ _, .inl ⟨wd, rfl, sw.fits (by decide), _, rfl, ?_, q⟩⟩
  have e : (Str.empty ++ ("fault " : Str)).length = 6 := by decide +kernel
  rw [Str.length_append, e]
  have := sw.le
  exact few (by omega)
theorem ok_repF {k : Nat} (F : Fun K "__repr__" "Fault.__repr__" sRep f fd) (T : FaC K mg C fE) : FnOk P w K mg base CX0 (k + 1) f fd ["self"] (spRepF C) := by
  refine F.ok scRep (fun vs H Q E h => ?_) (fun cdv A outer s H vs Q E hr h => ?_)
  · obtain ⟨a, wd, r, p, rfl, _⟩ := h
    rfl
  obtain ⟨a, wd, r, p, rfl, ⟨dx, ha⟩, sw, q⟩ := h
  refine ⟨_, pss_one (ps_ret (pe_joined (.cons pe_str (.cons (pe_fmtR (pe_fld (pv 0) rfl)) (.cons pe_str .nil))))), ?_⟩
  have rl := rep_len sw
  have e : (Str.empty ++ ("Fault(" : Str)).length = 6 := by decide +kernel
  have e2 : (")" : Str).length = 1 := by decide +kernel
  refine ⟨_, rfl, by decide +kernel, _, rfl, a, C, dx, _, _, rfl, ha, T.o.c.cl, T.nw, fl_word _ _ _, .inl ⟨wd, rfl, few (by omega), _, rfl, ?_, _, rfl, ?_, q⟩⟩
  · rw [Str.length_append, e]
    exact few (by omega)
  · rw [Str.length_append, Str.length_append, e, e2]
    exact few (by omega)
end
abbrev sBox : Stmt := topS 22
abbrev sTake : Stmt := topS 23
theorem c47 : (0 : Int) < 2147483647 := by decide
theorem c29 : (0 : Int) < 2147483629 := by decide
/-! _law_take: some number below many; the box stays a box -/
def spTake : Sp := fun vs H Q _ => ∃ (p g : Addr) (m : Int), vs = [.ref p, .int m] ∧ Box H p g ∧ 0 < m ∧ m.natAbs < 2 ^ 200 ∧
  ∀ (r : Int) (H' : Hp), 0 ≤ r → r < m → Box H' p g → Off [p, g] H H' → Q (.int r) H'
def spBox (K : PySem.W.Frag) : Sp := fun vs H Q _ => ∃ (a : Addr) (ns : List Int) (c : Int), vs = [.ref a, .int c] ∧ SqL K H a (ns.map V.int) ∧ ns.length ≤ 63 ∧ 0 ≤ c ∧ c < 1000 ∧
  ∀ (p g : Addr) (H' : Hp), Box H' p g → Same H H' → H p = none → H g = none → Q (.ref p) H'
theorem scTake : FnScope ["_law_box_here", "_law_many", "_law_digit", "_law_one"] ["_law_box_here", "_law_many"] (defScope sTake) :=
  ⟨rfl, rfl, rfl, by decide +kernel, rfl, by decide +kernel, by decide +kernel⟩
section
variable {P : Program} {w : World} {K : PySem.W.Frag} {mg : Str → Option Value} {base : Heap} {f : Addr} {fd : FuncData}
theorem get_now {H : Hp} {p g : Addr} {n s t : Int} (h : H p = some (.dK (bx g n s t))) : DGet H p (.str "now") (some (.int n)) := by
  have q := DGet.k (k := (Sum.inr "now" : Key)) h
  rw [bx_now] at q
  exact q
theorem get_great {H : Hp} {p g : Addr} {n s t : Int} (h : H p = some (.dK (bx g n s t))) : DGet H p (.str "great") (some (.ref g)) := by
  have q := DGet.k (k := (Sum.inr "great" : Key)) h
  rw [bx_great] at q
  exact q
theorem get_seed {H : Hp} {p g : Addr} {n s t : Int} (h : H p = some (.dK (bx g n s t))) : DGet H p (.str "seed") (some (.int s)) := by
  have q := DGet.k (k := (Sum.inr "seed" : Key)) h
  rw [bx_seed] at q
  exact q
theorem get_turn {H : Hp} {p g : Addr} {n s t : Int} (h : H p = some (.dK (bx g n s t))) : DGet H p (.str "turn") (some (.int t)) := by
  have q := DGet.k (k := (Sum.inr "turn" : Key)) h
  rw [bx_turn] at q
  exact q
theorem set_now {H : Hp} {p g : Addr} {n s t : Int} (y : Int) (h : H p = some (.dK (bx g n s t))) : DPut H p (.str "now") (.int y) (upd H p (.dK (bx g y s t))) := by
  have q := DPut.k (k := (Sum.inr "now" : Key)) (v := .int y) h (by show 4 < sizeLine; decide)
  rw [put_now] at q
  exact q
theorem set_seed {H : Hp} {p g : Addr} {n s t : Int} (y : Int) (h : H p = some (.dK (bx g n s t))) : DPut H p (.str "seed") (.int y) (upd H p (.dK (bx g n y t))) := by
  have q := DPut.k (k := (Sum.inr "seed" : Key)) (v := .int y) h (by show 4 < sizeLine; decide)
  rw [put_seed] at q
  exact q
theorem set_turn {H : Hp} {p g : Addr} {n s t : Int} (y : Int) (h : H p = some (.dK (bx g n s t))) : DPut H p (.str "turn") (.int y) (upd H p (.dK (bx g n s y))) := by
  have q := DPut.k (k := (Sum.inr "turn" : Key)) (v := .int y) h (by show 4 < sizeLine; decide)
  rw [put_turn] at q
  exact q
theorem ok_take {k : Nat} (F : Fun K "_law_take" "_law_take" sTake f fd) (ml : mg "len" = none) : FnOk P w K mg base CX0 (k + 1) f fd ["_law_box_here", "_law_many"] spTake := by
  refine F.ok scTake (fun vs H Q E h => ?_) (fun cdv A outer s H vs Q E hr h => ?_)
  · obtain ⟨p, g, m, rfl, _⟩ := h
    rfl
  obtain ⟨p, g, m, rfl, ⟨n, sd, t, gs, hp, hg, hl⟩, m0, m9, q⟩ := h
  have hu := hu_of hr
  have npg : p ≠ g := ne_of hp hg (by intro z; cases z)
  refine ⟨_, C8.pss_cut (ps_if (PW.pt (pw_and (pt_cmpR op_eq (pe_dget hu (pv 0) pe_str (fun _ _ => rfl)) pe_int (nomark _))
        (pw_and1 (pt_cmpR op_gt (pe_callB call_len_seq (by rfl) ml PySem.boot_len (pa_cons (pe_dget hu (pv 0) pe_str (fun _ _ => rfl)) pa_nil)) pe_int (nomark _)))))
        (pss_one (ps_dput hu (pv 0) pe_str (pe_bm0 PySem.F.plainAttrs_list PySem.F.slot_list_pop PySem.F.type_list_pop mt_pop (pe_dget hu (pv 0) pe_str (fun _ _ => rfl))) rfl)) pss_nil)
    (pss_cons (ps_if (pt_cmpR op_gt (pe_dget hu (pv 0) pe_str (fun _ _ => rfl)) pe_int (nomark _))
        (pss_cons (ps_set (i := 2) scTake.nd rfl (.inl rfl) (pe_op op_mod (pe_dget hu (pv 0) pe_str (fun _ _ => rfl)) (pv 1)))
        (pss_cons (ps_dput hu (pv 0) pe_str (pe_op op_fdivW (pe_dget hu (pv 0) pe_str (fun _ _ => rfl)) (pv 1)) rfl)
        (pss_one (ps_ret (pv 2))))) pss_nil)
    (pss_cons (ps_dput hu (pv 0) pe_str (pe_op op_add (pe_dget hu (pv 0) pe_str (fun _ _ => rfl)) pe_int) rfl)
    (pss_cons (ps_set (i := 3) scTake.nd rfl (.inl rfl) (pe_op op_mod (pe_op op_mul (pe_op op_mod (pe_op op_add (pe_dget hu (pv 0) pe_str (fun _ _ => rfl))
        (pe_op op_mul pe_int (pe_dget hu (pv 0) pe_str (fun _ _ => rfl)))) pe_int) pe_int) pe_int))
    (pss_cons (ps_dput hu (pv 0) pe_str (pe_op op_add (pe_op op_mod (pe_op op_add (pv 3) (pe_op op_mul pe_int (pe_dget hu (pv 0) pe_str (fun _ _ => rfl)))) pe_int) pe_int) rfl)
    (pss_one (ps_ret (pe_op op_mod (pe_op op_fdiv (pe_op op_add (pe_op op_mul (pv 3) pe_int) (pe_dget hu (pv 0) pe_str (fun _ _ => rfl))) pe_int) (pv 1)))))))), ?_⟩
  refine ⟨fun σ H1 => ∃ n1 gs1, σ = [some (.ref p), some (.int m), none, none] ∧ H1 p = some (.dK (bx g n1 sd t)) ∧ H1 g = some (.lst (List.map V.int gs1)) ∧ gs1.length ≤ 1000 ∧ Off [p, g] H H1, ?_, ?_⟩
  · refine ⟨_, rfl, p, _, rfl, get_now hp, rfl, _, rfl, ite2 (fun c => ?_) (fun c => iteF ⟨n, gs, rfl, hp, hg, hl, Off.refl _ _⟩)⟩
    refine ⟨_, rfl, p, _, rfl, get_great hp, g, _, rfl, .inl (SqL.of hg), _, _, rfl, rfl, _, rfl, ite2 (fun c2 => ?_) (fun c2 => ⟨n, gs, rfl, hp, hg, hl, Off.refl _ _⟩)⟩
    have c3 : (0 : Int) < (((List.map V.int gs).length : Nat) : Int) := of_decide_eq_true c2
    rw [List.length_map] at c3
    have hlast : (List.map V.int gs)[(List.map V.int gs).length - 1]? = some (V.int (gs[gs.length - 1]'(by omega))) := by
      rw [List.length_map, List.getElem?_map, List.getElem?_eq_getElem (by omega)]
      rfl
    have hp1 : (upd H g (.lst (List.map V.int gs).dropLast)) p = some (.dK (bx g n sd t)) := by rw [upd_ne npg]; exact hp
    refine ⟨_, rfl, p, _, rfl, get_great hp, .inl ⟨rfl, _, .inl (.inl hg)⟩, g, _, _, rfl, rfl, hg, hlast, _, rfl, p, _, rfl, set_now _ hp1, ?_⟩
    refine ⟨_, gs.dropLast, rfl, upd_same, ?_, ?_, ?_⟩
    · rw [upd_ne npg.symm, upd_same, List.map_dropLast]
    · rw [List.length_dropLast]
      omega
    · exact (Off.put (by simp)).trans (Off.put (by simp))
  · rintro σ H1 ⟨n1, gs1, rfl, hp1, hg1, hl1, of1⟩
    refine ⟨_, rfl, p, _, rfl, get_now hp1, _, _, rfl, rfl, _, rfl, ite2 (fun c => ?_) (fun c => ?_)⟩
    · refine ⟨_, rfl, p, _, rfl, get_now hp1, _, rfl, _, _, rfl, rfl, m0, ?_⟩
      refine ⟨_, rfl, p, _, rfl, get_now hp1, _, rfl, _, _, rfl, rfl, wide_div m0 m9 (by decide) (by decide), _, rfl, p, _, rfl, set_now _ hp1, ?_⟩
      refine ⟨_, rfl, q _ _ (Int.emod_nonneg _ (by omega)) (Int.emod_lt_of_pos _ m0) ⟨_, sd, t, gs1, upd_same, by rw [upd_ne npg.symm]; exact hg1, hl1⟩ (of1.trans (Off.put (by simp)))⟩
    · refine ⟨_, rfl, p, _, rfl, get_turn hp1, _, _, rfl, rfl, _, rfl, p, _, rfl, set_turn _ hp1, ?_⟩
      refine ⟨_, rfl, p, _, rfl, get_seed upd_same, _, rfl, p, _, rfl, get_turn upd_same, _, _, rfl, rfl, .inl ⟨by decide, by decide⟩, _, _, rfl, rfl, _, _, rfl, rfl, c47, _, _, rfl, rfl, .inr ⟨by decide, by decide⟩, _, _, rfl, rfl, c47, ?_⟩
      refine ⟨_, rfl, _, rfl, p, _, rfl, get_seed upd_same, _, _, rfl, rfl, .inl ⟨by decide, by decide⟩, _, _, rfl, rfl, _, _, rfl, rfl, c29, _, _, rfl, rfl, _, rfl, p, _, rfl, set_seed _ upd_same, ?_⟩
      refine ⟨_, rfl, _, _, rfl, rfl, .inr ⟨by decide, by decide⟩, _, rfl, p, _, rfl, get_seed upd_same, _, _, rfl, rfl, _, _, rfl, rfl, ⟨by decide, by decide⟩, _, rfl, _, _, rfl, rfl, m0, ?_⟩
      refine q _ _ (Int.emod_nonneg _ (by omega)) (Int.emod_lt_of_pos _ m0) ⟨n1, _, _, gs1, upd_same, ?_, hl1⟩ (of1.trans ((Off.put (by simp)).trans (Off.put (by simp))))
      rw [upd_ne npg.symm, upd_ne npg.symm]
      exact hg1
end
theorem cutV_ints (ns : List Int) (lo hi : Option Int) : ∃ ms : List Int, cutV (ns.map V.int) lo hi = ms.map V.int ∧ ms.length ≤ ns.length := by
  refine ⟨(ns.drop (HT.sIx ns.length 0 lo)).take (HT.sIx ns.length ns.length hi - HT.sIx ns.length 0 lo), ?_, ?_⟩
  · unfold cutV
    rw [List.length_map, List.map_take, List.map_drop]
  · rw [List.length_take, List.length_drop]
    omega
theorem int_at {ms : List Int} {i : Nat} {y : V} (h : (ms.map V.int)[i]? = some y) : ∃ z, y = V.int z := by
  rw [List.getElem?_map] at h
  cases e : ms[i]? with
  | none =>
    rw [e] at h
    cases h
  | some z =>
    rw [e] at h
    exact ⟨z, (Option.some.inj h).symm⟩
theorem scBox : FnScope ["_law_script", "_law_base", "_law_seed", "_law_cell", "_law_great"] ["_law_script", "_law_base"] (defScope sBox) :=
  ⟨rfl, rfl, rfl, by decide +kernel, rfl, by decide +kernel, by decide +kernel⟩
section
variable {P : Program} {w : World} {K : PySem.W.Frag} {mg : Str → Option Value} {base : Heap} {f : Addr} {fd : FuncData}
theorem ok_box {k : Nat} (F : Fun K "_law_box" "_law_box" sBox f fd) (mab : mg "abs" = none) : FnOk P w K mg base CX0 (k + 1) f fd ["_law_script", "_law_base"] (spBox K) := by
  refine F.ok scBox (fun vs H Q E h => ?_) (fun cdv A outer s H vs Q E hr h => ?_)
  · obtain ⟨a, ns, c, rfl, _⟩ := h
    rfl
  obtain ⟨a, ns, c, rfl, hS, hlen, c0, c9, q⟩ := h
  have hu := hu_of hr
  refine ⟨_, pss_cons (ps_set (i := 2) scBox.nd rfl (.inl rfl) (pe_op op_add pe_int (pe_op op_mul pe_int (pv 1))))
    (pss_cons (ps_for PassesOwn.never rfl (pi_list (pe_slice sl_list (pv 0) po_none (po_some pe_int))) (pg_name (i := 3) scBox.nd rfl (.inl rfl))
      (pss_one (ps_set (i := 2) scBox.nd rfl (.inl rfl) (pe_op op_mod (pe_op op_add (pe_op op_add (pe_op op_mul (pv 2) pe_int)
        (pe_op op_mod (pe_callB call_abs (by rfl) mab (by decide +kernel) (pa_cons (pv 3) pa_nil)) pe_int)) pe_int) pe_int))))
    (pss_cons (ps_setLc (i := 4) (own := [("_law_cell", 3)]) (g := gName 3) (by rfl) scBox.nd rfl rfl (sw_true rfl rfl rfl (by decide +kernel))
      (pi_list (pe_slice sl_list (pv 0) (po_some (pv 1)) (po_some pe_int)))
      (blkOk_by (own := [("_law_cell", 3)]) (N := ["_law_script", "_law_base", "_law_seed", "_law_cell", "_law_great"]) (sc := defScope sBox) (by decide +kernel))
      (fun _ _ _ _ _ => pg_name (i := 3) scBox.nd rfl (Or.inl rfl))
      (fun _ _ _ _ _ => pts_one (pt_cmpR op_ge (pe_callB call_abs (by rfl) mab (by decide +kernel) (pa_cons (pv 3) pa_nil)) (pe_op op_pow pe_int pe_int) (nomark _)))
      (fun _ _ _ _ _ => pe_callB call_abs (by rfl) mab (by decide +kernel) (pa_cons (pv 3) pa_nil)))
    (pss_one (ps_ret (pe_disp (pps_cons pe_str (pe_revL (pv 4)) (pps_cons pe_str pe_int (pps_cons pe_str (pe_op op_add (pv 2) pe_int) (pps_cons pe_str pe_int pps_nil))))
      (by rfl) (by rfl) (fun z => by cases z) (by decide)))))), ?_⟩
  refine ⟨_, rfl, _, _, rfl, rfl, .inl ⟨by decide, by decide⟩, _, _, rfl, rfl, ?_⟩
  refine ⟨_, rfl, 50, rfl, a, _, rfl, hS, fun q0 hq0 => ?_⟩
  obtain ⟨ms, em, lm⟩ := cutV_ints ns none (some 50)
  rw [em]
  have s1 : Same H (upd H q0 (.lst (ms.map V.int))) := same_new hq0 _
  refine ⟨q0, rfl, ⟨_, SqL.of upd_same⟩, for_list (K := K) (a := q0) (xs := ms.map V.int) (fun i σ H2 => ∃ (z : Int) (v : Option V), σ = [some (.ref a), some (.int c), some (.int z), v, none] ∧ -(2 ^ 40) < z ∧ z < 2 ^ 40 ∧ H2 = upd H q0 (.lst (ms.map V.int)))
    ⟨7001 + 211 * c, none, rfl, by omega, by omega, rfl⟩ (fun i σ H2 _ ⟨_, _, _, _, _, e⟩ => by rw [e]; exact SqL.of upd_same) ?_ ?_⟩
  · rintro i y σ H2 hi ⟨z, v, rfl, z0, z1, rfl⟩
    obtain ⟨x, rfl⟩ := int_at hi
    refine ⟨_, rfl, _, _, rfl, rfl, .inr ⟨by decide, by decide⟩, _, rfl, _, rfl, _, _, rfl, rfl, c29, _, _, rfl, rfl, _, _, rfl, rfl, _, _, rfl, rfl, c47, ?_⟩
    exact ⟨_, _, rfl, Int.lt_of_lt_of_le (by decide) (Int.emod_nonneg _ (by decide)), Int.lt_trans (Int.emod_lt_of_pos _ c47) (by decide), rfl⟩
  · rintro σ H2 ⟨z, v, rfl, z0, z1, rfl⟩
    refine ⟨_, rfl, _, rfl, c, rfl, 50, rfl, a, _, rfl, s1.seq hS, fun q1 hq1 => ?_⟩
    obtain ⟨ks, ek, lk⟩ := cutV_ints ns (some c) (some 50)
    rw [ek]
    have s2 := s1.trans (same_new hq1 (.lst (ks.map V.int)))
    refine ⟨q1, rfl, ⟨_, SqL.of upd_same⟩, fun D hD => lc_list (K := K) (a := q1) (xs := ks.map V.int) (fun i H3 => ∃ gs : List Int, gs.length ≤ i ∧ H3 D = some (.lst (gs.map V.int)) ∧ H3 q1 = some (.lst (ks.map V.int)) ∧ Same H H3)
      ⟨[], Nat.le_refl _, upd_same, by rw [upd_ne (ne_of_none upd_same hD), upd_same], s2.trans (same_new hD _)⟩ (fun i H3 _ ⟨_, _, _, h, _⟩ => SqL.of h) ?_ ?_⟩
    · rintro i y H3 hi ⟨gs, lg, h1, h2, h3⟩
      have hik := (List.getElem?_eq_some_iff.mp hi).1
      rw [List.length_map] at hik
      obtain ⟨x, rfl⟩ := int_at hi
      refine ⟨rfl, _, rfl, _, rfl, _, _, rfl, rfl, ⟨by decide, by decide, by decide⟩, _, _, rfl, rfl, _, rfl, ite2 (fun _ => ?_) (fun _ => ?_)⟩
      · refine ⟨_, rfl, _, rfl, _, h1, ?_, gs ++ [if x < 0 then -x else x], ?_, ?_, ?_, ?_⟩
        · rw [List.length_map]
          exact small1000 (by omega)
        · rw [List.length_append, List.length_singleton]
          omega
        · rw [upd_same, List.map_append]
          rfl
        · rw [upd_ne (ne_of_none upd_same hD)]
          exact h2
        · intro b o e
          rw [upd_ne (ne_of_none e (s2.free hD))]
          exact h3 b o e
      · exact ⟨gs, by omega, h1, h2, h3⟩
    · rintro H3 ⟨gs, lg, h1, h2, h3⟩
      rw [List.length_map] at lg
      refine fun p hp => ⟨_, rfl, D, _, rfl, SqL.of (by rw [upd_ne (ne_of_none h1 hp)]; exact h1), fun g hg => ?_⟩
      have ngp : g ≠ p := fun e => by
        rw [e, upd_same] at hg
        cases hg
      have hp2 : (upd (upd H3 p (.dK [])) g (.lst (gs.map V.int).reverse)) p = some (.dK []) := by rw [upd_ne ngp.symm, upd_same]
      refine ⟨_, rfl, _, _, rfl, rfl, hp2, bx g 0 (z + 1) 0, rfl, by show 4 ≤ 15; decide, ?_⟩
      rw [mer_box]
      have hg3 : H3 g = none := by
        rw [upd_ne ngp] at hg
        exact hg
      refine q p g _ ⟨0, z + 1, 0, gs.reverse, upd_same, ?_, ?_⟩ ?_ (h3.free hp) (h3.free hg3)
      · rw [upd_ne ngp, upd_same, List.map_reverse]
      · rw [List.length_reverse]
        omega
      · intro b o e
        have e3 := h3 b o e
        rw [upd_ne (ne_of_none e3 hp), upd_ne (ne_of_none e3 hg3), upd_ne (ne_of_none e3 hp)]
        exact e3
end
structure Tk (P : Program) (w : World) (K : PySem.W.Frag) (mg : Str → Option Value) (base : Heap) (f : Addr) (fd : FuncData) : Prop where
  ok : FnOk P w K mg base CX0 1 f fd ["_law_box_here", "_law_many"] spTake
  kp : PySem.W.keepIn K (.ref f) = true
  bd : Binds K fd ["_law_box_here", "_law_many"] []
  mg : mg "_law_take" = some (.ref f)
theorem atI_ok {α : Type} {xs : List α} {r : Int} (h0 : 0 ≤ r) (h : r < (xs.length : Int)) : ∃ x, atI xs r = some x ∧ x ∈ xs ∧ xs[r.toNat]? = some x := by
  have hr : r.toNat < xs.length := by omega
  have e : r = (r.toNat : Int) := by omega
  have q : atI xs ((r.toNat : Nat) : Int) = some xs[r.toNat] := atI_nat (List.getElem?_eq_getElem hr)
  rw [← e] at q
  exact ⟨xs[r.toNat], q, List.getElem_mem hr, List.getElem?_eq_getElem hr⟩
theorem okG {P : Program} {w : World} {K : PySem.W.Frag} {mg : Str → Option Value} {base : Heap} {x qual : Str} {st : Stmt} {f : Addr} {fd : FuncData} {N ps : List Str} {k : Nat} {sp : Sp} (F : Fun K x qual st f fd) (S : FnScope N ps (defScope st))
    (len : ∀ ws H Q E, sp ws H Q E → ws.length = ps.length)
    (hb : ∀ (cdv : Value) (A : Around) (outer : List Env) (s : Shared) (H : Hp) (vs : List V) (Q : VK) (E : XK), A.guards = some [] → Room k (A.deeper (envOfC qual (defScope st) s.heap.objs.size f cdv)) → sp vs H Q E →
      ∃ t, PSs (cxOf CX0 P w K mg base N qual (defScope st) f cdv A outer s H E).nox (defBody st) t ∧ t { nx := fun _ H' => Q .non H', rt := Q } (start N vs) H) : FnG P w K mg base CX0 (k + 1) f fd ps sp := by
  obtain ⟨oc, od, kV, doc, pm, an, cdv, ct, osl, rfl, lk, hcd⟩ := F.ex
  refine fnG_of lk hcd S len ?_
  intro A outer s H vs Q E hg hr hsp
  obtain ⟨t, h, q⟩ := hb cdv A outer s H vs Q E hg hr hsp
  exact ⟨t, h.nox, q⟩
theorem bool_prn (b : Bool) : Prn (.bool b) := prn_of (by simp only [gd]) (by simp only [nod]; omega) (by simp only [PyData.depth]; omega)
/-- a def of the top that keeps a promise -/
structure Dn (P : Program) (w : World) (K : PySem.W.Frag) (mg : Str → Option Value) (base : Heap) (lvl : Nat) (nm : Str) (ps : List Str) (sp : Sp) (f : Addr) (fd : FuncData) : Prop where
  ok : FnOk P w K mg base CX0 lvl f fd ps sp
  kp : PySem.W.keepIn K (.ref f) = true
  bd : Binds K fd ps []
  mg : mg nm = some (.ref f)
theorem cut_less {l m : List Addr} {H : Hp} (h : ∀ b ∈ m, b ∈ l) : Same (cut l H) (cut m H) := fun b o e => by
  obtain ⟨n, e⟩ := cut_some e
  rw [cut_out (fun z => n (h b z))]
  exact e
theorem cut_more {l : List Addr} {H : Hp} {a : Addr} {o : HO} (h : H a = none) : Same (cut l H) (cut (a :: l) (upd H a o)) := fun b u e => by
  obtain ⟨n, e⟩ := cut_some e
  have nb := ne_of_none e h
  rw [cut_out (fun z => (List.mem_cons.mp z).elim nb n), upd_ne nb]
  exact e
theorem dp_true {K : PySem.W.Frag} {H : Hp} {b : Bool} (h : b = true) : Dp K H (.bl b) (.bool true) := by
  rw [h]
  exact .bl true
theorem DpAll.parts {K : PySem.W.Frag} {H : Hp} {xs : List V} {ds : List PyData} (h : DpAll K H xs ds) (i : Nat) : DpAll K H (xs.take i) (ds.take i) ∧ DpAll K H (xs.drop i) (ds.drop i) := by
  have lx := DpAll.len h
  obtain ⟨d1, d2, e, a, b⟩ := DpAll.unapp (xs := xs.take i) (ys := xs.drop i) (by rw [List.take_append_drop]; exact h)
  have la := DpAll.len a
  have lb := DpAll.len b
  rw [List.length_take] at la
  rw [List.length_drop] at lb
  subst e
  by_cases hi : i ≤ xs.length
  · have l1 : d1.length = i := by omega
    have e1 : (d1 ++ d2).take i = d1 := by rw [← l1]; exact List.take_left
    have e2 : (d1 ++ d2).drop i = d2 := by rw [← l1]; exact List.drop_left
    rw [e1, e2]
    exact ⟨a, b⟩
  · have l2 : d2 = [] := List.length_eq_zero_iff.mp (by omega)
    subst l2
    rw [List.append_nil, List.take_of_length_le (l := d1) (by omega), List.drop_of_length_le (l := d1) (by omega)]
    exact ⟨a, b⟩
theorem cutV_dp {K : PySem.W.Frag} {H : Hp} {xs : List V} {ds : List PyData} (h : DpAll K H xs ds) (lo hi : Option Int) : ∃ es, DpAll K H (cutV xs lo hi) es ∧ ∀ e ∈ es, e ∈ ds := by
  unfold cutV
  exact ⟨_, (DpAll.parts (DpAll.parts h _).2 _).1, fun e he => List.mem_of_mem_drop (List.mem_of_mem_take he)⟩
theorem gd_int {i : Int} (h : i.natAbs < 2 ^ 1000) : gd (.int i) = true := by
  simp only [gd]
  exact decide_eq_true (Nat.lt_trans (PySem.Flt.log2_lt_of (by decide) h) (by decide))
theorem FaultAt.up {C : Addr} {H H' : Hp} {a : Addr} {wd : Str} {r p : V} (s : Same H H') (h : FaultAt C H a wd r p) : FaultAt C H' a wd r p := by
  obtain ⟨dx, h⟩ := h
  exact ⟨dx, s _ _ h⟩
/-- how a fault is made -/
structure MkF (P : Program) (w : World) (K : PySem.W.Frag) (mg : Str → Option Value) (base : Heap) (C fI : Addr) (dI : FuncData) (t0 : Addr) : Prop where
  mkr : Mk K C fI
  ok : FnOk P w K mg base CX0 1 fI dI ["self", "word", "rule", "path"] (spInitF C)
  b2 : ∃ ds, Vals [.str "", .ref t0] ds ∧ Binds K dI ["self", "word", "rule", "path"] ds
  b3 : ∃ ds, Vals [.ref t0] ds ∧ Binds K dI ["self", "word", "rule", "path"] ds
  b4 : ∃ ds, Vals [] ds ∧ Binds K dI ["self", "word", "rule", "path"] ds
  bk : ∃ its : List Value, KBn K dI ["self", "word", "rule", "path"] 1 ["path", "word"] (fun us ws => us ++ (ws.drop 1 ++ (its.take 1 ++ ws.take 1))) (fun vs zs => vs ++ (zs.drop 1 ++ ([V.str "", .ref t0].take 1 ++ zs.take 1)))
  z : ∀ H, SqT K H t0 []
theorem mem_words {n : Nat} : ∀ {xs : List Str}, (xs.all fun x => decide (x.length ≤ n) && x.cps.toList.all fun c => decide (c < 128)) = true → ∀ v ∈ xs.map V.str, ∃ x, v = .str x ∧ Sm n x := by
  intro xs h v hv
  obtain ⟨x, hx, rfl⟩ := List.mem_map.mp hv
  exact ⟨x, rfl, Sm.of (List.all_eq_true.mp h x hx)⟩
section
variable {K : PySem.W.Frag} {C : Addr}
theorem ints_dp {H : Hp} : ∀ ks : List Int, DpAll K H (ks.map V.int) (ks.map PyData.int)
  | [] => .nil
  | _ :: ks => .cons (.int _) (ints_dp ks)
theorem ints_gd : ∀ ks : List Int, (∀ z ∈ ks, z.natAbs < 2 ^ 10) → gds (ks.map PyData.int) = true ∧ nods (ks.map PyData.int) = ks.length ∧ PyData.depthAll (ks.map PyData.int) = 0
  | [], _ => ⟨by simp only [List.map_nil, gds], by simp only [List.map_nil, nods, List.length_nil], by simp only [List.map_nil, PyData.depthAll]⟩
  | k :: ks, h => by
    have ih := ints_gd ks fun z hz => h z (List.mem_cons_of_mem _ hz)
    have g := gd_int (i := k) (Nat.lt_of_lt_of_le (h k List.mem_cons_self) (Nat.pow_le_pow_right (by decide) (by decide)))
    exact ⟨by simp only [List.map_cons, gds, g, ih.1, Bool.and_self], by simp only [List.map_cons, nods, nod, ih.2.1, List.length_cons]; omega, by simp only [List.map_cons, PyData.depthAll, PyData.depth, ih.2.2, Nat.max_self]⟩
theorem made_same {H6 H7 : Hp} {a dx : Addr} {o1 o2 : HO} (ha : H6 a = none) (hdx : H6 dx = none) (e : ∀ b, b ≠ a → H7 b = upd (upd H6 dx o1) a o2 b) : Same H6 H7 := fun b o z => by
  rw [e b (ne_of_none z ha), upd_ne (ne_of_none z ha), upd_ne (ne_of_none z hdx)]
  exact z
end
/-! own errors -/
/-- an error of the class C with these attributes stands at a, its dict at d -/
def ErrD (H : Hp) (C a d : Addr) (fs : List (Str × V)) : Prop := H a = some (exo a C (some d)) ∧ H d = some (exd d fs)
theorem ErrD.up {H H' : Hp} {C a d : Addr} {fs : List (Str × V)} (s : Same H H') (h : ErrD H C a d fs) : ErrD H' C a d fs := ⟨s _ _ h.1, s _ _ h.2⟩
theorem ErrD.at {H : Hp} {C a d : Addr} {fs : List (Str × V)} (h : ErrD H C a d fs) : ErrAt H C a := .inr ⟨d, fs, h.1, h.2⟩
theorem few9 {n : Nat} (h : n ≤ 3) : n ≤ 900 := Nat.le_trans h (by decide)
/-- an __init__ that keeps its arguments in attributes of these names -/
def spIni (C : Addr) (ns : List Str) : Sp := fun vs H Q _ => ∃ (a : Addr) (ws : List V), vs = .ref a :: ws ∧ ws.length = ns.length ∧ H a = some (exo a C none) ∧
  ∀ d H', H d = none → d ≠ a → ErrD H' C a d (ns.zip ws).reverse → (∀ b o, b ≠ a → H b = some o → H' b = some o) → Q .non H'
/-- what is known of an error class with an __init__ of its own -/
structure EC (P : Program) (w : World) (K : PySem.W.Frag) (mg : Str → Option Value) (base : Heap) (nm : Str) (ns ks : List Str) (C fI : Addr) (fd : FuncData) : Prop where
  T : ExK K C
  X : XfC K C
  E : ExcC K C
  iC : PySem.W.findIn K (.ref C) "__init__" = some (some (.ref fI))
  tI : PySem.W.typeIn K (.ref fI) = some (.type "function")
  ok : FnOk P w K mg base CX0 1 fI fd ("self" :: ns) (spIni C ns)
  bd : Binds K fd ("self" :: ns) []
  mg : mg nm = some (.ref C)
  no : ∀ f ∈ ns, PySem.W.findIn K (.ref C) f = some none
section
variable {P : Program} {w : World} {K : PySem.W.Frag} {mg : Str → Option Value} {base : Heap} {C fI : Addr} {fd : FuncData}
abbrev sI2 : Stmt := inClass (topS 1) 0
theorem scI2 : FnScope ["self", "place"] ["self", "place"] (defScope sI2) := ⟨rfl, rfl, rfl, by decide +kernel, rfl, by decide +kernel, by decide +kernel⟩
theorem ok_I2 {k : Nat} (F : Fun K "__init__" "NoPlace.__init__" sI2 fI fd) (T : ExK K C) (no0 : PySem.W.findIn K (.ref C) "place" = some none) : FnOk P w K mg base CX0 (k + 1) fI fd ["self", "place"] (spIni C ["place"]) := by
  refine F.ok scI2 (fun vs H Q E h => ?_) (fun cdv A outer s H vs Q E hr h => ?_)
  · obtain ⟨a, ws, rfl, hl, _⟩ := h
    simp only [List.length_cons, hl]
  obtain ⟨a, ws, rfl, hl, ha, q⟩ := h
  match ws, hl with
  | [v0], _ =>
    refine ⟨_, pss_one (ps_osK (pv 0) (pv 1)), ?_⟩
    refine ⟨_, rfl, _, rfl, a, C, rfl, T, no0, .inl ⟨ha, fun dx n1 n2 => q dx _ n1 n2 ⟨upd_same, by (rw [upd_ne n2]; exact upd_same)⟩ fun b o nb hb => ?_⟩⟩
    rw [upd_ne nb, upd_ne (ne_of_none hb n1)]
    exact hb
end
/-- the error class named nm stands at C, the rest of its order of classes is bm -/
structure EL (K : PySem.W.Frag) (C : Addr) (nm : Str) (bm : List Value) (newId : String) : Prop where
  ex : ∃ q N bs sn sub ab col dd k0 k1 k2 k3 k5, K.lookup C = some (excClassObj nm q C N bs bm true sn sub ab col dd k0 k1 k2 k3 k5 newId)
section
variable {K : PySem.W.Frag} {C C' : Addr} {nm nm' : Str} {bm bm' : List Value} {newId newId' : String}
theorem EL.cd (e : EL K C nm bm newId) : ∃ cd, PySem.W.clsIn K C = some cd ∧ cd.mro = .ref C :: bm ∧ cd.name = nm ∧ cd.hasDict = true := by
  obtain ⟨q, N, bs, sn, sub, ab, col, dd, k0, k1, k2, k3, k5, h⟩ := e.ex
  exact ⟨{ name := nm, bases := bs, mro := .ref C :: bm, ns := N, qualname := q, hasDict := true, slotNames := sn, subclasses := sub, abstract := ab, collection := col, hasDel := false }, by (unfold PySem.W.clsIn; rw [h] <;> rfl), rfl, rfl, rfl⟩
theorem EL.ne (e : EL K C nm bm newId) (e' : EL K C' nm' bm' newId') (h : nm ≠ nm') : C ≠ C' := fun z => by
  obtain ⟨cd, h1, _, h2, _⟩ := e.cd
  obtain ⟨cd', h1', _, h2', _⟩ := e'.cd
  rw [z, h1'] at h1
  have q := Option.some.inj h1
  subst q
  exact h (h2.symm.trans h2')
theorem EL.ty (e : EL K C nm bm newId) : PySem.W.typeIn K (.ref C) = some (.type "type") := by
  obtain ⟨q, N, bs, sn, sub, ab, col, dd, k0, k1, k2, k3, k5, h⟩ := e.ex
  show (K.lookup C).map (·.cls) = _
  rw [h]
  rfl
theorem EL.sub (e : EL K C nm bm newId) (c : Value) : PySem.W.subIn K (.ref C) c = some ((Value.ref C :: bm).contains c) := by
  obtain ⟨cd, h1, h2, _⟩ := e.cd
  show PySem.W.mroIn K C c = _
  unfold PySem.W.mroIn
  rw [h1, Option.bind_some, h2]
  rfl
theorem EL.hd (e : EL K C nm bm newId) : PySem.W.hasDictIn K C = true := by
  obtain ⟨cd, h1, _, _, h3⟩ := e.cd
  unfold PySem.W.hasDictIn
  rw [h1]
  exact h3
theorem EL.isK (e : EL K C nm bm newId) (e' : EL K C' nm' bm' newId') : PySem.W.kitOne K (.ref C) (.ref C') = some ((Value.ref C :: bm).contains (.ref C')) := by
  unfold PySem.W.kitOne PySem.W.kitCls
  by_cases h : (Value.ref C == Value.ref C') = true
  · rw [if_pos h]
    have q := beq_iff_eq.mp h
    rw [← q]
    simp
  · rw [if_neg h]
    obtain ⟨cd, h1, _⟩ := e'.cd
    show (if ((PySem.W.clsIn K C').isSome && PySem.W.typeIn K (.ref C') == some (.type "type")) = true then PySem.W.subIn K (.ref C) (.ref C') else none) = _
    rw [h1, e'.ty, e.sub]
    simp only [Option.isSome_some, beq_self_eq_true, Bool.and_self, if_true]
theorem EL.isT (e : EL K C nm bm newId) {T : String} (m : PySem.W.kitMeta T = true) : PySem.W.kitOne K (.ref C) (.type T) = some ((Value.ref C :: bm).contains (.type T)) := by
  unfold PySem.W.kitOne PySem.W.kitCls
  rw [if_neg (fun z => nomatch (beq_iff_eq.mp z : Value.ref C = Value.type T))]
  show (if PySem.W.kitMeta T = true then _ else _) = _
  rw [if_pos m]
  exact e.sub _
/-- what is asked of the class by its names -/
structure EF (K : PySem.W.Frag) (C : Addr) : Prop where
  ga : PySem.W.findIn K (.ref C) "__getattribute__" = some (some (.builtin "BaseException.__getattribute__"))
  gg : PySem.W.findIn K (.ref C) "__getattr__" = some none
  ha : PySem.W.findIn K (.ref C) "__class__" = some (some (.builtin "object.__class__"))
  sa : PySem.W.findIn K (.ref C) "__setattr__" = some (some (.builtin "object.__setattr__"))
  kC : PySem.W.keepIn K (.ref C) = true
structure Hn (K : PySem.W.Frag) : Prop where
  hn : PySem.W.specialIn K (.builtin "object.__class__") "__get__" = some (some (.builtin "getset_descriptor.__get__"))
  ht : PySem.W.takesIn K (.builtin "object.__class__") = some true
theorem EL.exk {B initId : String} {bmF T : List Value} (e : EL K C nm bm newId) (f : EF K C) (F : EBase B newId initId bmF T) (ht : tlB T bm = true) (hb : bm.contains (.type "BaseException") = true) : ExK K C := by
  obtain ⟨q, N, bs, sn, sub, ab, col, dd, k0, k1, k2, k3, k5, h⟩ := e.ex
  exact ⟨⟨B, newId, initId, bmF, T, nm, q, N, bs, bm, sn, sub, ab, col, dd, k0, k1, k2, k3, k5, F, h, ht⟩, f.sa, by (rw [e.sub, List.contains_cons, hb, Bool.or_true]), e.ty, f.kC⟩
theorem EL.xf (e : EL K C nm bm newId) (f : EF K C) (hb : bm.contains (.type "BaseException") = true) : XfC K C := ⟨f.ga, f.gg, by (rw [e.sub, List.contains_cons, hb, Bool.or_true]), e.hd⟩
theorem EL.exc (e : EL K C nm bm newId) (f : EF K C) (n : Hn K) (hb : bm.contains (.type "BaseException") = true) (ho : bm.contains (.type "object") = true) : ExcC K C :=
  ⟨f.ga, f.gg, by (rw [e.sub, List.contains_cons, hb, Bool.or_true]), e.hd, f.ha, n.hn, n.ht, by (have z := e.sub (.type "object"); rw [List.contains_cons, ho, Bool.or_true] at z; exact z)⟩
end
theorem lk1 {f : Str} {y : V} {r : List (Str × V)} : ((f, y) :: r).lookup f = some y := by rw [L2.lookup_put, if_pos rfl]
theorem EC.exm {P : Program} {w : World} {K : PySem.W.Frag} {mg : Str → Option Value} {base : Heap} {nm : Str} {ns ks : List Str} {C fI : Addr} {fd : FuncData} (c : EC P w K mg base nm ns ks C fI fd) {nm' : Str} {bm : List Value} {newId : String} (e : EL K C nm' bm newId) :
    PySem.W.exmOne K (.ref C) (.ref C) = some true :=
  PySem.W.exm_ref c.T.exC e.hd c.T.tyC (by rw [e.sub, List.contains_cons, beq_self_eq_true, Bool.true_or])
theorem few1 {n : Nat} (h : n ≤ 1000) : n < sizeLine := small1000 h
/-- behind the making of an error that is raised -/
theorem flown {H1 H' : Hp} {a d : Addr} {o u : HO} (ha : H1 a = none) (hd : H1 d = none) (k : ∀ b v, b ≠ a → upd H1 a o b = some v → H' b = some v) : Same H1 (upd (L2.del H' a) d u) := fun b v z => by
  have na := ne_of_none z ha
  rw [upd_ne (ne_of_none z hd), L2.del_ne na]
  exact k b v na (by (rw [upd_ne na]; exact z))
/-- isinstance(e, (A, B)) -/
def rIsXT (K : PySem.W.Frag) : List V → Hp → VK → Prop := fun xs H Q => ∃ (a D tp : Addr) (cs : List Addr) (b : Bool), xs = [.ref a, .ref tp] ∧ ExcC K D ∧ ErrAt H D a ∧ H tp = some (.tup (cs.map V.ref)) ∧ PySem.W.kitAny K (.ref D) (cs.map Value.ref) = some b ∧ Q (.bl b) H
theorem vals_refs : ∀ {cs : List Addr} {us : List Value}, Vals (cs.map V.ref) us → us = cs.map Value.ref
  | [], _, h => by cases h; rfl
  | c :: cs, _, h => by
    cases h with
    | cons h1 h2 =>
      cases h1
      rw [vals_refs h2]
      rfl
theorem call_isXT {X : Cx} : CallR X (.builtin "isinstance") (rIsXT X.K) := by
  intro pins s σ H xs us Q I r h
  obtain ⟨a, D, tp, cs, b, rfl, C, he, ht, e, q⟩ := h
  cases r with
  | cons rx rr =>
    cases rr with
    | cons rt rr =>
      cases rr
      cases rx
      cases rt
      obtain ⟨its, r2, ⟨o, ho, hc, n, hd⟩, hl2⟩ := I.tuple (.inl (.inl ht) : SqT X.K H tp (cs.map V.ref))
      have ei := vals_refs r2
      subst ei
      obtain ⟨oc, od0, oda, osl⟩ := o
      cases hc
      cases hd
      have fin : ∀ {ox : Obj} {od : Option Obj}, PySem.W.InstAt s.heap a ox D od → wpAny (model X.prog X.w) X.A (call (.builtin "isinstance") [.ref a, .ref tp]) (EP X pins σ Q) X.xe s := fun {ox od} J =>
        PySem.W.kia_tup (PySem.W.kitx_exc (hasD_cls C.hd) C.hg C.hk C.hs C.ha C.hn C.ht C.hm) I.kIn J ho e (fun z => nomatch z) fun tk => ⟨.bl b, H, I.kept (t' := tk) fun _ _ z => z, rfl, q⟩
      rcases he with ea | ⟨d, fs, ea, ed⟩
      · obtain ⟨t1, ha⟩ := exo_at I.hok ea
        exact fin (od := none) ⟨ha, rfl, rfl, trivial⟩
      · obtain ⟨t1, ha⟩ := exo_at I.hok ea
        obtain ⟨mA, ⟨o, es, ep, ho2, hr⟩, _⟩ := exd_at I.hok ed
        exact fin (od := some o) ⟨ha, rfl, rfl, ho2⟩
/-! terms: what they are -/
inductive TI where
  | l | w | s | b
deriving DecidableEq
inductive Tm where
  | lit (d : PyData)
  | who (p : Pl)
  | shi (p : Pl) (b : Int)
  | bui (ts : List Tm)
mutual
def Tm.wt : Tm → Nat
  | .bui ts => 1 + Tm.wts ts
  | .lit _ => 1
  | .who _ => 1
  | .shi _ _ => 1
def Tm.wts : List Tm → Nat
  | [] => 0
  | t :: ts => t.wt + Tm.wts ts
end
mutual
/-- the places in it, in order -/
def Tm.pls : Tm → List Pl
  | .bui ts => Tm.plss ts
  | .lit _ => []
  | .who p => [p]
  | .shi p _ => [p]
def Tm.plss : List Tm → List Pl
  | [] => []
  | t :: ts => t.pls ++ Tm.plss ts
end
mutual
/-- the terms in it, in order -/
def Tm.fl : Tm → List Tm
  | .bui ts => .bui ts :: Tm.fls ts
  | .lit d => [.lit d]
  | .who p => [.who p]
  | .shi p b => [.shi p b]
def Tm.fls : List Tm → List Tm
  | [] => []
  | t :: ts => t.fl ++ Tm.fls ts
end
mutual
theorem Tm.fl_len : ∀ t : Tm, t.fl.length = t.wt
  | .bui ts => by simp only [Tm.fl, Tm.wt, List.length_cons, Tm.fls_len ts]; omega
  | .lit _ => rfl
  | .who _ => rfl
  | .shi _ _ => rfl
theorem Tm.fls_len : ∀ ts : List Tm, (Tm.fls ts).length = Tm.wts ts
  | [] => rfl
  | t :: ts => by simp only [Tm.fls, Tm.wts, List.length_append, Tm.fl_len t, Tm.fls_len ts]
end
def Tm.ix : Tm → TI
  | .lit _ => .l
  | .who _ => .w
  | .shi _ _ => .s
  | .bui _ => .b
theorem putF_le (k : Str) (v : V) : ∀ fs : List (Str × V), (putF k v fs).length ≤ fs.length + 1
  | [] => Nat.le_refl _
  | (x, y) :: r => by
    show (if x = k then (x, v) :: r else (x, y) :: putF k v r).length ≤ _
    have ih := putF_le k v r
    split
    · simp only [List.length_cons]; omega
    · simp only [List.length_cons]; omega
def flL (v e : V) : List (Str × V) := putF "weight" (.int 1) (putF "places" e (putF "value" v []))
def flW (q e : V) : List (Str × V) := putF "weight" (.int 1) (putF "places" e (putF "place" q []))
def flS (q b e : V) : List (Str × V) := putF "weight" (.int 1) (putF "places" e (putF "by" b (putF "place" q [])))
def flB (q e w : V) : List (Str × V) := putF "weight" w (putF "places" e (putF "parts" q []))
theorem ne1 : ¬ (("weight" : Str) = "value") := by decide +kernel
theorem ne2 : ¬ (("weight" : Str) = "places") := by decide +kernel
theorem ne3 : ¬ (("places" : Str) = "value") := by decide +kernel
theorem ne4 : ¬ (("weight" : Str) = "place") := by decide +kernel
theorem ne5 : ¬ (("places" : Str) = "place") := by decide +kernel
theorem ne6 : ¬ (("weight" : Str) = "by") := by decide +kernel
theorem ne7 : ¬ (("places" : Str) = "by") := by decide +kernel
theorem ne8 : ¬ (("by" : Str) = "place") := by decide +kernel
theorem ne9 : ¬ (("weight" : Str) = "parts") := by decide +kernel
theorem ne0 : ¬ (("places" : Str) = "parts") := by decide +kernel
theorem lt1 (n : Nat) {m : Nat} (h : m = n) (hn : n < 1000 := by decide) : m < 1000 := by omega
theorem lt2 (n : Nat) {m : Nat} (h : m ≤ n + 1) (hn : n < 900 := by decide) : m < 1000 := by omega
theorem sy {a b : Str} (h : ¬ a = b) : ¬ b = a := fun z => h z.symm
theorem flL_v (v e : V) : (flL v e).lookup ("value" : Str) = some v := by
  unfold flL
  rw [lookup_putF, if_neg (sy ne1), lookup_putF, if_neg (sy ne3), lookup_putF, if_pos rfl]
theorem flL_e (v e : V) : (flL v e).lookup ("places" : Str) = some e := by
  unfold flL
  rw [lookup_putF, if_neg (sy ne2), lookup_putF, if_pos rfl]
theorem flL_w (v e : V) : (flL v e).lookup ("weight" : Str) = some (.int 1) := by
  unfold flL
  rw [lookup_putF, if_pos rfl]
theorem flW_q (q e : V) : (flW q e).lookup ("place" : Str) = some q := by
  unfold flW
  rw [lookup_putF, if_neg (sy ne4), lookup_putF, if_neg (sy ne5), lookup_putF, if_pos rfl]
theorem flW_e (q e : V) : (flW q e).lookup ("places" : Str) = some e := by
  unfold flW
  rw [lookup_putF, if_neg (sy ne2), lookup_putF, if_pos rfl]
theorem flW_w (q e : V) : (flW q e).lookup ("weight" : Str) = some (.int 1) := by
  unfold flW
  rw [lookup_putF, if_pos rfl]
theorem flS_q (q b e : V) : (flS q b e).lookup ("place" : Str) = some q := by
  unfold flS
  rw [lookup_putF, if_neg (sy ne4), lookup_putF, if_neg (sy ne5), lookup_putF, if_neg (sy ne8), lookup_putF, if_pos rfl]
theorem flS_b (q b e : V) : (flS q b e).lookup ("by" : Str) = some b := by
  unfold flS
  rw [lookup_putF, if_neg (sy ne6), lookup_putF, if_neg (sy ne7), lookup_putF, if_pos rfl]
theorem flS_e (q b e : V) : (flS q b e).lookup ("places" : Str) = some e := by
  unfold flS
  rw [lookup_putF, if_neg (sy ne2), lookup_putF, if_pos rfl]
theorem flS_w (q b e : V) : (flS q b e).lookup ("weight" : Str) = some (.int 1) := by
  unfold flS
  rw [lookup_putF, if_pos rfl]
theorem flB_q (q e w : V) : (flB q e w).lookup ("parts" : Str) = some q := by
  unfold flB
  rw [lookup_putF, if_neg (sy ne9), lookup_putF, if_neg (sy ne0), lookup_putF, if_pos rfl]
theorem flB_e (q e w : V) : (flB q e w).lookup ("places" : Str) = some e := by
  unfold flB
  rw [lookup_putF, if_neg (sy ne2), lookup_putF, if_pos rfl]
theorem flB_w (q e w : V) : (flB q e w).lookup ("weight" : Str) = some w := by
  unfold flB
  rw [lookup_putF, if_pos rfl]
/-! terms on the heap -/
mutual
inductive TmA (K : PySem.W.Frag) (C : TI → Addr) (H : Hp) : V → Tm → Prop
  | lit {a dx e : Addr} {v : V} {d : PyData} : H a = some (.ins (C .l) dx (flL v (.ref e))) → Dp K H v d → H e = some (.tup []) → TmA K C H (.ref a) (.lit d)
  | who {a dx q e : Addr} {p : Pl} : H a = some (.ins (C .w) dx (flW (.ref q) (.ref e))) → H q = some (.tup (plW p)) → H e = some (.tup [.ref q]) → TmA K C H (.ref a) (.who p)
  | shi {a dx q e : Addr} {b : Int} {p : Pl} : H a = some (.ins (C .s) dx (flS (.ref q) (.int b) (.ref e))) → H q = some (.tup (plW p)) → H e = some (.tup [.ref q]) → TmA K C H (.ref a) (.shi p b)
  | bui {a dx q e : Addr} {vs : List V} {ts : List Tm} {bs : List Addr} {ps : List Pl} : H a = some (.ins (C .b) dx (flB (.ref q) (.ref e) (.int (1 + Tm.wts ts : Nat)))) → SqT K H q vs → TmsA K C H vs ts → H e = some (.tup (bs.map V.ref)) → PlsA H bs ps →
      SrtO.Srtd ltPl ps → ps.Nodup → (∀ x, x ∈ ps ↔ x ∈ Tm.plss ts) → TmA K C H (.ref a) (.bui ts)
inductive TmsA (K : PySem.W.Frag) (C : TI → Addr) (H : Hp) : List V → List Tm → Prop
  | nil : TmsA K C H [] []
  | cons {v : V} {t : Tm} {vs : List V} {ts : List Tm} : TmA K C H v t → TmsA K C H vs ts → TmsA K C H (v :: vs) (t :: ts)
end
theorem PlsA.up {H H' : Hp} (s : Same H H') {bs : List Addr} {ps : List Pl} (h : PlsA H bs ps) : PlsA H' bs ps := by
  induction h with
  | nil => exact .nil
  | cons a _ ih => exact .cons (s _ _ a) ih
theorem seqL_upS {K : PySem.W.Frag} {H H' : Hp} {a : Addr} {xs : List V} (s : Same H H') (h : SqL K H a xs) : SqL K H' a xs := seqL_upP (fun b o z _ => s b o z) h
theorem PlsA.upT {H H' : Hp} (s : ∀ b xs, H b = some (.tup xs) → H' b = some (.tup xs)) {bs : List Addr} {ps : List Pl} (h : PlsA H bs ps) : PlsA H' bs ps := by
  induction h with
  | nil => exact .nil
  | cons a _ ih => exact .cons (s _ _ a) ih
section
variable {K : PySem.W.Frag} {C : TI → Addr} {H H' : Hp}
mutual
theorem TmA.up (s : Same H H') : ∀ (t : Tm) (v : V), TmA K C H v t → TmA K C H' v t
  | .lit d, _, h => by
    cases h with
    | lit h1 h2 h3 => exact .lit (s _ _ h1) (Dp.up s _ _ h2) (s _ _ h3)
  | .who p, _, h => by
    cases h with
    | who h1 h2 h3 => exact .who (s _ _ h1) (s _ _ h2) (s _ _ h3)
  | .shi p b, _, h => by
    cases h with
    | shi h1 h2 h3 => exact .shi (s _ _ h1) (s _ _ h2) (s _ _ h3)
  | .bui ts, _, h => by
    cases h with
    | bui h1 h2 h3 h4 h5 h6 h7 h8 => exact .bui (s _ _ h1) (seqT_up s h2) (TmsA.up s ts _ h3) (s _ _ h4) (h5.up s) h6 h7 h8
theorem TmsA.up (s : Same H H') : ∀ (ts : List Tm) (vs : List V), TmsA K C H vs ts → TmsA K C H' vs ts
  | [], _, h => by cases h; exact .nil
  | t :: ts, _, h => by
    cases h with
    | cons h1 h2 => exact .cons (TmA.up s t _ h1) (TmsA.up s ts _ h2)
end
theorem TmsA.len : ∀ {vs : List V} {ts : List Tm}, TmsA K C H vs ts → vs.length = ts.length
  | _, _, .nil => rfl
  | _, _, .cons _ t => by rw [List.length_cons, List.length_cons, TmsA.len t]
theorem TmsA.app : ∀ {vs ws : List V} {ts us : List Tm}, TmsA K C H vs ts → TmsA K C H ws us → TmsA K C H (vs ++ ws) (ts ++ us)
  | _, _, _, _, .nil, h => h
  | _, _, _, _, .cons a t, h => .cons a (TmsA.app t h)
theorem TmsA.rev : ∀ {vs : List V} {ts : List Tm}, TmsA K C H vs ts → TmsA K C H vs.reverse ts.reverse
  | _, _, .nil => .nil
  | _, _, .cons a t => by
    rw [List.reverse_cons, List.reverse_cons]
    exact TmsA.app (TmsA.rev t) (.cons a .nil)
theorem TmsA.get : ∀ {vs : List V} {ts : List Tm} {i : Nat} {v : V}, TmsA K C H vs ts → vs[i]? = some v → ∃ t, ts[i]? = some t ∧ TmA K C H v t
  | _, _, _, _, .nil, z => nomatch z
  | _, _, 0, _, .cons a _, z => by cases z; exact ⟨_, rfl, a⟩
  | _, _, i + 1, _, .cons _ t, z => TmsA.get (i := i) t z
/-- each term is an instance of its class -/
theorem TmA.ins {v : V} {t : Tm} (h : TmA K C H v t) : ∃ a dx fs, v = .ref a ∧ H a = some (.ins (C t.ix) dx fs) := by
  cases h with
  | lit h1 _ _ => exact ⟨_, _, _, rfl, h1⟩
  | who h1 _ _ => exact ⟨_, _, _, rfl, h1⟩
  | shi h1 _ _ => exact ⟨_, _, _, rfl, h1⟩
  | bui h1 _ _ _ _ _ _ _ => exact ⟨_, _, _, rfl, h1⟩
/-- its places, as they are kept -/
theorem TmA.plsAt {v : V} {t : Tm} (h : TmA K C H v t) : ∃ a dx fs e bs ps, v = .ref a ∧ H a = some (.ins (C t.ix) dx fs) ∧ fs.lookup ("places" : Str) = some (.ref e) ∧ fs.lookup ("weight" : Str) = some (.int t.wt) ∧ H e = some (.tup (bs.map V.ref)) ∧ PlsA H bs ps ∧ SrtO.Srtd ltPl ps ∧ ps.Nodup ∧ ∀ x, x ∈ ps ↔ x ∈ t.pls := by
  cases h with
  | lit h1 h2 h3 => exact ⟨_, _, _, _, [], [], rfl, h1, flL_e _ _, flL_w _ _, h3, .nil, .nil, .nil, fun _ => Iff.rfl⟩
  | who h1 h2 h3 => exact ⟨_, _, _, _, [_], [_], rfl, h1, flW_e _ _, flW_w _ _, h3, .cons h2 .nil, SrtO.srtd_one _, by simp, fun _ => Iff.rfl⟩
  | shi h1 h2 h3 => exact ⟨_, _, _, _, [_], [_], rfl, h1, flS_e _ _ _, flS_w _ _ _, h3, .cons h2 .nil, SrtO.srtd_one _, by simp, fun _ => Iff.rfl⟩
  | bui h1 h2 h3 h4 h5 h6 h7 h8 => exact ⟨_, _, _, _, _, _, rfl, h1, flB_e _ _ _, flB_w _ _ _, h4, h5, h6, h7, h8⟩
end
/-- the attributes of each class -/
def attsT : TI → List Str
  | .l => ["value", "places", "weight"]
  | .w => ["place", "places", "weight"]
  | .s => ["place", "by", "places", "weight"]
  | .b => ["parts", "places", "weight"]
structure TmC (K : PySem.W.Frag) (mg : Str → Option Value) (C fE : TI → Addr) : Prop where
  fam : FamC K C fE
  na : ∀ i, ∀ f ∈ attsT i, NoAttr K (C i) f
  mL : mg "Literal" = some (.ref (C .l))
  mW : mg "Whole" = some (.ref (C .w))
  mS : mg "Shifted" = some (.ref (C .s))
  mB : mg "Built" = some (.ref (C .b))
  kc : ∀ i, PySem.W.keepIn K (.ref (C i)) = true
theorem pe_fldK {X : Cx} {K : PySem.W.Frag} {e : Expr} {ta : TE} {f : Str} {pos : Pos} (h : X.K = K) (he : PE X e ta) (hb : attributeBase e f X.env (eval e X.env) = eval e X.env) : PE X (.Attribute e f pos) (tFld K ta f) := by
  subst h
  exact pe_fld he hb
abbrev sIniL : Stmt := inClass (topS 11) 0
abbrev sIniW : Stmt := inClass (topS 12) 0
abbrev sIniS : Stmt := inClass (topS 13) 0
abbrev sIniB : Stmt := inClass (topS 14) 0
theorem scIniL : FnScope ["self", "value"] ["self", "value"] (defScope sIniL) := ⟨rfl, rfl, rfl, by decide +kernel, rfl, by decide +kernel, by decide +kernel⟩
theorem scIniW : FnScope ["self", "place"] ["self", "place"] (defScope sIniW) := ⟨rfl, rfl, rfl, by decide +kernel, rfl, by decide +kernel, by decide +kernel⟩
theorem scIniS : FnScope ["self", "place", "by"] ["self", "place", "by"] (defScope sIniS) := ⟨rfl, rfl, rfl, by decide +kernel, rfl, by decide +kernel, by decide +kernel⟩
def spIniT (C : TI → Addr) (i : TI) (vs0 : List V → Prop) (fs : List V → V → List (Str × V)) (tp : List V → List V) : Sp := fun vs H Q _ => ∃ (a dx : Addr) (ws : List V), vs = .ref a :: ws ∧ vs0 ws ∧ H a = some (.ins (C i) dx []) ∧
  ∀ e H', H e = none → H' a = some (.ins (C i) dx (fs ws (.ref e))) → H' e = some (.tup (tp ws)) → (∀ b o, b ≠ a → H b = some o → H' b = some o) → Q .non H'
def spIniL (C : TI → Addr) : Sp := spIniT C .l (fun ws => ∃ v, ws = [v]) (fun ws e => flL (ws.getD 0 .non) e) fun _ => []
def spIniW (C : TI → Addr) : Sp := spIniT C .w (fun ws => ∃ v, ws = [v]) (fun ws e => flW (ws.getD 0 .non) e) fun ws => [ws.getD 0 .non]
def spIniS (C : TI → Addr) : Sp := spIniT C .s (fun ws => ∃ v b, ws = [v, b]) (fun ws e => flS (ws.getD 0 .non) (ws.getD 1 .non) e) fun ws => [ws.getD 0 .non]
section
variable {P : Program} {w : World} {K : PySem.W.Frag} {mg : Str → Option Value} {base : Heap} {f : Addr} {fd : FuncData} {C fE : TI → Addr}
theorem ok_iniL {k : Nat} (F : Fun K "__init__" "Literal.__init__" sIniL f fd) (T : TmC K mg C fE) : FnOk P w K mg base CX0 (k + 1) f fd ["self", "value"] (spIniL C) := by
  refine F.ok scIniL (fun vs H Q E h => ?_) (fun cdv A outer s H vs Q E hr h => ?_)
  · obtain ⟨a, dx, ws, rfl, ⟨v, rfl⟩, _⟩ := h
    rfl
  obtain ⟨a, dx, ws, rfl, ⟨v, rfl⟩, ha, q⟩ := h
  have cl := (T.fam.o .l).c.cl
  refine ⟨_, pss_cons (ps_fld (pv 0) (pv 1) rfl) (pss_cons (ps_fld (pv 0) (pe_tup pa_nil) rfl) (pss_one (ps_fld (pv 0) pe_int rfl))), ?_⟩
  refine ⟨_, rfl, _, rfl, a, C .l, dx, [], rfl, ha, cl, T.na .l _ (by simp [attsT]), (by show 0 < 1000; decide), ?_⟩
  refine ⟨by decide, fun e he => ?_⟩
  have ne : e ≠ a := (ne_of_none upd_same he).symm
  have he0 : H e = none := by rw [upd_ne ne] at he; exact he
  refine ⟨_, rfl, a, C .l, dx, _, rfl, (by rw [upd_ne ne.symm]; exact upd_same), cl, T.na .l _ (by simp [attsT]), lt1 1 rfl, _, rfl, a, C .l, dx, _, rfl, upd_same, cl, T.na .l _ (by simp [attsT]), lt2 1 (putF_le _ _ _), ?_⟩
  refine q e _ he0 upd_same ?_ fun b o nb hb => ?_
  · rw [upd_ne ne, upd_ne ne, upd_same]
  · rw [upd_ne nb, upd_ne nb, upd_ne (ne_of_none hb he0), upd_ne nb]
    exact hb
theorem ok_iniW {k : Nat} (F : Fun K "__init__" "Whole.__init__" sIniW f fd) (T : TmC K mg C fE) : FnOk P w K mg base CX0 (k + 1) f fd ["self", "place"] (spIniW C) := by
  refine F.ok scIniW (fun vs H Q E h => ?_) (fun cdv A outer s H vs Q E hr h => ?_)
  · obtain ⟨a, dx, ws, rfl, ⟨v, rfl⟩, _⟩ := h
    rfl
  obtain ⟨a, dx, ws, rfl, ⟨v, rfl⟩, ha, q⟩ := h
  have cl := (T.fam.o .w).c.cl
  refine ⟨_, pss_cons (ps_fld (pv 0) (pv 1) rfl) (pss_cons (ps_fld (pv 0) (pe_tup (pa_cons (pv 1) pa_nil)) rfl) (pss_one (ps_fld (pv 0) pe_int rfl))), ?_⟩
  refine ⟨_, rfl, _, rfl, a, C .w, dx, [], rfl, ha, cl, T.na .w _ (by simp [attsT]), (by show 0 < 1000; decide), ?_⟩
  refine ⟨_, rfl, few (by simp), fun e he => ?_⟩
  have ne : e ≠ a := (ne_of_none upd_same he).symm
  have he0 : H e = none := by rw [upd_ne ne] at he; exact he
  refine ⟨_, rfl, a, C .w, dx, _, rfl, (by rw [upd_ne ne.symm]; exact upd_same), cl, T.na .w _ (by simp [attsT]), lt1 1 rfl, _, rfl, a, C .w, dx, _, rfl, upd_same, cl, T.na .w _ (by simp [attsT]), lt2 1 (putF_le _ _ _), ?_⟩
  refine q e _ he0 upd_same ?_ fun b o nb hb => ?_
  · rw [upd_ne ne, upd_ne ne, upd_same]
    rfl
  · rw [upd_ne nb, upd_ne nb, upd_ne (ne_of_none hb he0), upd_ne nb]
    exact hb
theorem ok_iniS {k : Nat} (F : Fun K "__init__" "Shifted.__init__" sIniS f fd) (T : TmC K mg C fE) : FnOk P w K mg base CX0 (k + 1) f fd ["self", "place", "by"] (spIniS C) := by
  refine F.ok scIniS (fun vs H Q E h => ?_) (fun cdv A outer s H vs Q E hr h => ?_)
  · obtain ⟨a, dx, ws, rfl, ⟨v, b, rfl⟩, _⟩ := h
    rfl
  obtain ⟨a, dx, ws, rfl, ⟨v, b, rfl⟩, ha, q⟩ := h
  have cl := (T.fam.o .s).c.cl
  refine ⟨_, pss_cons (ps_fld (pv 0) (pv 1) rfl) (pss_cons (ps_fld (pv 0) (pv 2) rfl) (pss_cons (ps_fld (pv 0) (pe_tup (pa_cons (pv 1) pa_nil)) rfl) (pss_one (ps_fld (pv 0) pe_int rfl)))), ?_⟩
  refine ⟨_, rfl, _, rfl, a, C .s, dx, [], rfl, ha, cl, T.na .s _ (by simp [attsT]), (by show 0 < 1000; decide), ?_⟩
  refine ⟨_, rfl, _, rfl, a, C .s, dx, _, rfl, upd_same, cl, T.na .s _ (by simp [attsT]), lt1 1 rfl, ?_⟩
  refine ⟨_, rfl, few (by simp), fun e he => ?_⟩
  have ne : e ≠ a := (ne_of_none upd_same he).symm
  have he0 : H e = none := by rw [upd_ne ne, upd_ne ne] at he; exact he
  refine ⟨_, rfl, a, C .s, dx, _, rfl, (by rw [upd_ne ne.symm]; exact upd_same), cl, T.na .s _ (by simp [attsT]), lt2 1 (putF_le _ _ _), _, rfl, a, C .s, dx, _, rfl, upd_same, cl, T.na .s _ (by simp [attsT]), lt2 2 (Nat.le_trans (putF_le _ _ _) (Nat.succ_le_succ (putF_le _ _ _))), ?_⟩
  refine q e _ he0 upd_same ?_ fun b o nb hb => ?_
  · rw [upd_ne ne, upd_ne ne, upd_same]
    rfl
  · rw [upd_ne nb, upd_ne nb, upd_ne (ne_of_none hb he0), upd_ne nb, upd_ne nb]
    exact hb
end
/-! the places of some terms -/
abbrev sPlin : Stmt := topS 16
theorem scPlin : FnScope ["terms", "found", "term", "place"] ["terms"] (defScope sPlin) := ⟨rfl, rfl, rfl, by decide +kernel, rfl, by decide +kernel, by decide +kernel⟩
def keyL (p : Pl) : List Key := .inr p.1 :: p.2.map fun k : Nat => .inl (k : Int)
theorem keyL_kV (p : Pl) : (keyL p).map kV = plW p := by
  unfold keyL plW
  rw [List.map_cons, List.map_map]
  rfl
theorem kV_inj {a b : Key} (h : kV a = kV b) : a = b := by
  cases a with
  | inl x => cases b with
    | inl y => cases h; rfl
    | inr y => cases h
  | inr x => cases b with
    | inl y => cases h
    | inr y => cases h; rfl
theorem map_inj {α β : Type} {f : α → β} (hf : ∀ a b, f a = f b → a = b) : ∀ {xs ys : List α}, xs.map f = ys.map f → xs = ys
  | [], [], _ => rfl
  | [], _ :: _, h => nomatch h
  | _ :: _, [], h => nomatch h
  | x :: xs, y :: ys, h => by rw [hf x y (List.cons.inj h).1, map_inj hf (List.cons.inj h).2]
theorem keyL_inj {p q : Pl} (h : keyL p = keyL q) : p = q := by
  have e : plW p = plW q := by rw [← keyL_kV, ← keyL_kV, h]
  rw [← dec_pl p, ← dec_pl q, e]
/-- a place more, where it is new -/
def insP (l : List Pl) (p : Pl) : List Pl := if p ∈ l then l else l ++ [p]
def kvP (v : V) (l : List Pl) : List (List Key × V) := l.map fun p => (keyL p, v)
theorem putK_P (v : V) (l : List Pl) (p : Pl) : putK (kvP v l) (keyL p) v = kvP v (insP l p) := by
  have any : ((kvP v l).any fun kv => decide (kv.1 = keyL p)) = decide (p ∈ l) := by
    unfold kvP
    induction l with
    | nil => rfl
    | cons q l ih =>
      rw [List.map_cons, List.any_cons, ih]
      by_cases e : q = p
      · subst e
        simp
      · have e2 : ¬ keyL q = keyL p := fun z => e (keyL_inj z)
        have e3 : ¬ p = q := fun z => e z.symm
        simp [e2, e3]
  unfold putK insP
  rw [any]
  by_cases m : p ∈ l
  · rw [if_pos (decide_eq_true m), if_pos m]
    unfold kvP
    rw [List.map_map]
    refine List.map_congr_left fun q _ => ?_
    show (if keyL q = keyL p then (keyL q, v) else (keyL q, v)) = _
    split <;> rfl
  · rw [if_neg (fun z => m (of_decide_eq_true z)), if_neg m]
    unfold kvP
    rw [List.map_append]
    rfl
theorem insP_mem {l : List Pl} {p x : Pl} : x ∈ insP l p ↔ x ∈ l ∨ x = p := by
  unfold insP
  split
  · rename_i h
    exact ⟨.inl, fun z => z.elim id fun e => by rw [e]; exact h⟩
  · simp
theorem insP_nd {l : List Pl} {p : Pl} (h : l.Nodup) : (insP l p).Nodup := by
  unfold insP
  split
  · exact h
  · rename_i n
    exact List.nodup_append.mpr ⟨h, by simp, fun a ha b hb => by
      rw [List.mem_singleton.mp hb]
      exact fun e => n (by rw [← e]; exact ha)⟩
theorem insP_len {l : List Pl} {p : Pl} : (insP l p).length ≤ l.length + 1 := by
  unfold insP
  split
  · omega
  · simp
mutual
theorem Tm.pls_len : ∀ t : Tm, t.pls.length ≤ t.wt
  | .bui ts => by have := Tm.plss_len ts; simp only [Tm.pls, Tm.wt]; omega
  | .lit _ => Nat.zero_le _
  | .who _ => Nat.le_refl _
  | .shi _ _ => Nat.le_refl _
theorem Tm.plss_len : ∀ ts : List Tm, (Tm.plss ts).length ≤ Tm.wts ts
  | [] => Nat.le_refl _
  | t :: ts => by have := Tm.pls_len t; have := Tm.plss_len ts; simp only [Tm.plss, Tm.wts, List.length_append]; omega
end
theorem Tm.plss_app : ∀ ts us : List Tm, Tm.plss (ts ++ us) = Tm.plss ts ++ Tm.plss us
  | [], _ => rfl
  | t :: ts, us => by rw [List.cons_append, Tm.plss, Tm.plss, Tm.plss_app ts us, List.append_assoc]
theorem Tm.wts_app : ∀ ts us : List Tm, Tm.wts (ts ++ us) = Tm.wts ts + Tm.wts us
  | [], us => by rw [List.nil_append, Tm.wts, Nat.zero_add]
  | t :: ts, us => by rw [List.cons_append, Tm.wts, Tm.wts, Tm.wts_app ts us, Nat.add_assoc]
theorem nodup_len {α : Type} [BEq α] [LawfulBEq α] : ∀ {xs ys : List α}, xs.Nodup → (∀ x ∈ xs, x ∈ ys) → xs.length ≤ ys.length
  | [], _, _, _ => Nat.zero_le _
  | x :: xs, ys, h, m => by
    have h2 := List.nodup_cons.mp h
    have hx := m x List.mem_cons_self
    have ih := nodup_len (xs := xs) (ys := ys.erase x) h2.2 fun y hy => (List.mem_erase_of_ne (fun e => h2.1 (by rw [← e]; exact hy))).mpr (m y (List.mem_cons_of_mem _ hy))
    rw [List.length_erase_of_mem hx] at ih
    have : 0 < ys.length := List.length_pos_of_mem hx
    simp only [List.length_cons]
    omega
theorem paired_at {α β : Type} {F : α → β → Prop} {xs : List α} {ys : List β} (h : Paired F xs ys) : ∀ {i : Nat} {x : α}, xs[i]? = some x → ∃ y, ys[i]? = some y ∧ F x y := by
  induction h with
  | nil => exact fun z => nomatch z
  | cons h _ ih =>
    intro i x z
    cases i with
    | zero =>
      cases z
      exact ⟨_, rfl, h⟩
    | succ i => exact ih (i := i) z
def spPlin (K : PySem.W.Frag) (C : TI → Addr) : Sp := fun vs H Q _ => ∃ q us ts, vs = [.ref q] ∧ SqT K H q us ∧ TmsA K C H us ts ∧ Tm.wts ts ≤ 900 ∧
  ∀ t cs qs H', Same H H' → H t = none → H' t = some (.tup (cs.map V.ref)) → PlsA H' cs qs → SrtO.Srtd ltPl qs → qs.Nodup → (∀ x, x ∈ qs ↔ x ∈ Tm.plss ts) → Q (.ref t) H'
theorem isKeys_pls {H : Hp} {v : V} : ∀ {l : List Pl} {bs : List Addr}, IsKeys H (kvP v l) bs → PlsA H bs l
  | [], bs, h => by
    cases h
    exact .nil
  | p :: l, bs, h => by
    cases h with
    | cons a t =>
      refine .cons ?_ (isKeys_pls t)
      rw [← keyL_kV]
      exact a
section
variable {P : Program} {w : World} {K : PySem.W.Frag} {mg : Str → Option Value} {base : Heap} {f : Addr} {fd : FuncData} {C fE : TI → Addr}
theorem ok_plin {k : Nat} (F : Fun K "places_in" "places_in" sPlin f fd) (T : TmC K mg C fE) (B : Bi mg) (ml : mg "list" = none) (ms : mg "sorted" = none) : FnOk P w K mg base CX0 (k + 1) f fd ["terms"] (spPlin K C) := by
  refine F.ok scPlin (fun vs H Q E h => ?_) (fun cdv A outer s H vs Q E hr h => ?_)
  · obtain ⟨q, us, ts, rfl, _⟩ := h
    rfl
  obtain ⟨q, us, ts, rfl, hq, hts, hw, fin⟩ := h
  have hu := hu_of hr
  refine ⟨_, pss_cons (ps_set (i := 1) scPlin.nd rfl (.inl rfl) pe_dnewT)
    (pss_cons (ps_for PassesOwn.never rfl (pi_tup (pv 0)) (pg_name (i := 2) scPlin.nd rfl (.inl rfl))
      (pss_one (ps_for PassesOwn.never rfl (pi_tup (pe_fld (pv 2) rfl)) (pg_name (i := 3) scPlin.nd rfl (.inl rfl))
        (pss_one (ps_dput hu (pv 1) (pv 3) pe_bl rfl)))))
    (pss_one (ps_ret (pe_callTy call_tuple_of (by rfl) B.tup (by decide +kernel) (pa_cons (pe_callB cr_sortedPl (by rfl) ms (by decide +kernel) (pa_cons (pe_callTy (call_list_dT rfl) (by rfl) ml b_list (pa_cons (pv 1) pa_nil)) pa_nil)) pa_nil))))), ?_⟩
  intro d hd
  have tl : ts.length = us.length := hts.len.symm
  have pb := Tm.plss_len ts
  refine ⟨_, rfl, q, rfl, ⟨_, seqT_up (same_new hd _) hq⟩, for_it (walk_tup (K := K) (a := q) (xs := us)) (fun i σ H1 => ∃ o2 o3 l, σ = [some (.ref q), some (.ref d), o2, o3] ∧ Same H H1 ∧ H1 d = some (.dT (kvP (.bl true) l)) ∧ l.Nodup ∧ ∀ x, x ∈ l ↔ x ∈ Tm.plss (ts.take i)) ⟨none, none, [], rfl, same_new hd _, upd_same, .nil, fun _ => Iff.rfl⟩ ?_ ?_ ?_⟩
  · rintro i σ H1 hi ⟨o2, o3, l, rfl, s1, h1, _, _⟩
    exact seqT_up s1 hq
  · rintro i y σ H1 H1' hi ⟨o2, o3, l, rfl, s1, h1, nd, mem⟩ ⟨rfl, hy⟩
    obtain ⟨t, ht, tA⟩ := hts.get hy
    have tA1 := TmA.up s1 t _ tA
    obtain ⟨a, dx, fs, e, bs, ps, rfl, ha, lp, lw, he, pA, _, _, pm⟩ := tA1.plsAt
    have hT : ts.take (i + 1) = ts.take i ++ [t] := get_take ht
    have pl1 : Tm.plss (ts.take (i + 1)) = Tm.plss (ts.take i) ++ t.pls := by
      rw [hT, Tm.plss_app]
      show _ ++ (t.pls ++ []) = _
      rw [List.append_nil]
    refine ⟨_, rfl, a, C t.ix, dx, fs, .ref e, rfl, ha, (T.fam.o t.ix).c.cl, T.na t.ix _ (by cases t.ix <;> simp [attsT]), lp, e, rfl, ⟨_, .inl (.inl he)⟩, for_it (walk_tup (K := K) (a := e) (xs := bs.map V.ref))
      (fun j σ H2 => ∃ o3 l, σ = [some (.ref q), some (.ref d), some (.ref a), o3] ∧ Same H H2 ∧ (∀ b, b ≠ d → H2 b = H1' b) ∧ H2 d = some (.dT (kvP (.bl true) l)) ∧ l.Nodup ∧ ∀ x, x ∈ l ↔ x ∈ Tm.plss (ts.take i) ∨ x ∈ ps.take j) ⟨_, l, rfl, s1, fun _ _ => rfl, h1, nd, fun x => by simp [mem]⟩ ?_ ?_ ?_⟩
    · rintro j σ H2 hj ⟨o3, l, rfl, s2, off, h2, _, _⟩
      exact .inl (.inl (by rw [off e (fun z => by rw [z, h1] at he; cases he)]; exact he))
    · rintro j y σ H2 H2' hj ⟨o3, l, rfl, s2, off, h2, nd, mem⟩ ⟨rfl, hy⟩
      rw [List.getElem?_map] at hy
      obtain ⟨b, hb, rfl⟩ := Option.map_eq_some_iff.mp hy
      obtain ⟨p, hp, hbp⟩ := paired_at pA hb
      have nbd : b ≠ d := fun z => by rw [z, h1] at hbp; cases hbp
      have hb2 : H2' b = some (.tup ((keyL p).map kV)) := by rw [off b nbd, keyL_kV]; exact hbp
      have ln : l.length ≤ Tm.wts ts := by
        have : l.length ≤ (Tm.plss ts).length := nodup_len nd fun x hx => by
          have sub : Tm.plss ts = Tm.plss (ts.take i) ++ Tm.plss (ts.drop i) := by rw [← Tm.plss_app, List.take_append_drop]
          rw [sub, List.mem_append]
          rcases (mem x).mp hx with z | z
          · exact .inl z
          · right
            have dr : ts.drop i = t :: ts.drop (i + 1) := by obtain ⟨hi2, e⟩ := List.getElem?_eq_some_iff.mp ht; rw [List.drop_eq_getElem_cons hi2, e]
            rw [dr, Tm.plss, List.mem_append]
            exact .inl ((pm x).mp (List.mem_of_mem_take z))
        omega
      refine ⟨_, rfl, _, rfl, d, _, rfl, .inr ⟨_, keyL p, b, h2, rfl, hb2, few1 (by unfold kvP; rw [List.length_map]; omega), rfl⟩, _, insP l p, rfl, ?_, ?_, ?_, insP_nd nd, fun x => ?_⟩
      · intro c o z
        rw [upd_ne (ne_of_none z hd)]
        exact s2 c o z
      · intro c nc
        rw [upd_ne nc]
        exact off c nc
      · rw [upd_same, putK_P]
      · rw [insP_mem, mem, get_take hp, List.mem_append, List.mem_singleton, or_assoc]
    · rintro σ H2 ⟨o3, l, rfl, s2, off, h2, nd, mem⟩
      refine ⟨_, _, l, rfl, s2, h2, nd, fun x => ?_⟩
      rw [mem, pl1, List.mem_append, ← pm x, List.length_map, show bs.length = ps.length from Paired.length pA, List.take_length]
  · rintro σ H1 ⟨o2, o3, l, rfl, s1, h1, nd, mem⟩
    rw [← tl, List.take_length] at mem
    refine ⟨_, rfl, d, _, rfl, .of h1, fun x bs hx hk => ?_⟩
    have pk := isKeys_pls hk
    have sx := same_new hx (.lst (bs.map V.ref))
    refine ⟨x, bs, l, rfl, SqL.of upd_same, pk.up sx, fun cs qs y pc perm srt hy => ?_⟩
    have sy1 := same_new hy (.lst (cs.map V.ref))
    refine ⟨y, _, rfl, .inl ⟨SqL.of upd_same, fun z hz => ?_⟩⟩
    have sz := same_new hz (.tup (cs.map V.ref))
    have s4 := s1.trans (sx.trans (sy1.trans sz))
    refine fin z cs qs _ s4 ?_ upd_same (pc.up (sy1.trans sz)) srt (perm.nodup_iff.mpr nd) fun v => ?_
    · exact (s1.trans (sx.trans sy1)).free hz
    · rw [perm.mem_iff, mem]
end
/-! built terms made -/
theorem scIniB : FnScope ["self", "parts", "part"] ["self", "parts"] (defScope sIniB) := ⟨rfl, rfl, rfl, by decide +kernel, rfl, by decide +kernel, by decide +kernel⟩
def spIniB (K : PySem.W.Frag) (C : TI → Addr) : Sp := fun vs H Q _ => ∃ a dx p us ts, vs = [.ref a, .ref p] ∧ H a = some (.ins (C .b) dx []) ∧ (SqL K (cut [a] H) p us ∨ SqT K (cut [a] H) p us) ∧ TmsA K C (cut [a] H) us ts ∧ Tm.wts ts ≤ 900 ∧
  ∀ H', Off [a] H H' → TmA K C H' (.ref a) (.bui ts) → Q .non H'
theorem Tm.wt_pos : ∀ t : Tm, 1 ≤ t.wt
  | .bui ts => by simp only [Tm.wt]; omega
  | .lit _ => Nat.le_refl _
  | .who _ => Nat.le_refl _
  | .shi _ _ => Nat.le_refl _
theorem Tm.len_wts : ∀ ts : List Tm, ts.length ≤ Tm.wts ts
  | [] => Nat.le_refl _
  | t :: ts => by have := Tm.wt_pos t; have := Tm.len_wts ts; simp only [Tm.wts, List.length_cons]; omega
theorem Tm.sum_wts : ∀ ts : List Tm, (ts.map fun t : Tm => (t.wt : Int)).sum = (Tm.wts ts : Int)
  | [] => rfl
  | t :: ts => by rw [List.map_cons, List.sum_cons, Tm.sum_wts ts, Tm.wts, Int.natCast_add]
section
variable {P : Program} {w : World} {K : PySem.W.Frag} {mg : Str → Option Value} {base : Heap} {f fP : Addr} {fd dP : FuncData} {C fE : TI → Addr}
theorem ok_iniB {k : Nat} (F : Fun K "__init__" "Built.__init__" sIniB f fd) (T : TmC K mg C fE) (B : Bi mg) (msu : mg "sum" = none) (GP : Dn P w K mg base 1 "places_in" ["terms"] (spPlin K C) fP dP) : FnOk P w K mg base CX0 (k + 2) f fd ["self", "parts"] (spIniB K C) := by
  refine F.ok scIniB (fun vs H Q E h => ?_) (fun cdv A outer s H vs Q E hr h => ?_)
  · obtain ⟨a, dx, p, us, ts, rfl, _⟩ := h
    rfl
  obtain ⟨a, dx, p, us, ts, rfl, ha, hp, hts, hw, q⟩ := h
  have hr1 : Room 1 _ := hr.mono (by omega)
  have cl := (T.fam.o .b).c.cl
  refine ⟨_, C8.pss_cut (ps_fld (pv 0) (pe_callTy call_tuple_of (by rfl) B.tup (by decide +kernel) (pa_cons (pv 1) pa_nil)) rfl)
    (pss_cons (ps_fld (pv 0) (pe_call GP.ok hr1 (by rfl) GP.mg GP.kp GP.bd .nil pass0 (pa_cons (pe_fld (pv 0) rfl) pa_nil)) rfl)
    (pss_one (ps_fld (pv 0) (pe_op op_add pe_int (pe_callB (cr_sum rfl) (by rfl) msu (by decide +kernel) (pa_cons (pe_lc (own := [("part", 2)]) (g := gName 2) (by rfl) scIniB.nd (pi_tup (pe_fld (pv 0) rfl))
      (blkOk_by (own := [("part", 2)]) (N := ["self", "parts", "part"]) (sc := defScope sIniB) (by decide +kernel))
      (fun _ _ _ _ _ => pg_name (i := 2) scIniB.nd rfl (Or.inl rfl)) (fun _ _ _ _ _ => pts_nil) (fun _ _ _ _ _ => pe_fldK (K := K) rfl (pv 2) rfl)) pa_nil))) rfl))), ?_⟩
  have na : ∀ {f}, f ∈ attsT .b → NoAttr K (C .b) f := fun m => T.na .b _ m
  refine ⟨fun σ H1 => ∃ t, σ = [some (.ref a), some (.ref p), none] ∧ Off [a] H H1 ∧ H1 a = some (.ins (C .b) dx (putF "parts" (.ref t) [])) ∧ SqT K (cut [a] H1) t us ∧ TmsA K C (cut [a] H1) us ts, ?_, ?_⟩
  · refine ⟨_, rfl, p, us, rfl, ?_⟩
    rcases hp with hp | hp
    · refine .inl ⟨seqL_upS (cut_same _ _) hp, fun t ht => ⟨_, rfl, a, C .b, dx, [], rfl, (same_new ht _) _ _ ha, cl, na (by simp [attsT]), (by show 0 < 1000; decide), t, rfl, ?_, upd_same, ?_, ?_⟩⟩
      · exact (Off.of (same_new ht _)).trans (Off.put (by simp))
      · refine .inl (.inl ?_)
        have nta : t ≠ a := (ne_of_none ha ht).symm
        rw [cut_out (by simp [nta]), upd_ne nta]
        exact upd_same
      · exact TmsA.up ((Off.of (l := [a]) (same_new ht _)).trans (Off.put (by simp))) _ _ hts
    · refine .inr ⟨seqT_cut hp, _, rfl, a, C .b, dx, [], rfl, ha, cl, na (by simp [attsT]), (by show 0 < 1000; decide), p, rfl, Off.put (by simp), upd_same, ?_, ?_⟩
      · exact seqT_up (Off.put (l := [a]) (by simp)) hp
      · exact TmsA.up (Off.put (l := [a]) (by simp)) _ _ hts
  rintro σ H1 ⟨t, rfl, o1, h1, ht, hts1⟩
  refine ⟨_, rfl, a, C .b, dx, _, .ref t, rfl, h1, cl, na (by simp [attsT]), rfl, t, us, ts, rfl, seqT_cut ht, TmsA.up (cut_same _ _) _ _ hts1, hw, fun e cs qs H2 s2 he0 he pA srt nd mem => ?_⟩
  have h2 := s2 _ _ h1
  refine ⟨_, rfl, a, C .b, dx, _, rfl, h2, cl, na (by simp [attsT]), lt1 1 rfl, ?_⟩
  have nae : a ≠ e := ne_of_none h1 he0
  have o23 : Off [a] H2 (upd H2 a (.ins (C .b) dx (putF "places" (.ref e) (putF "parts" (.ref t) [])))) := Off.put (by simp)
  have ht3 := seqT_up ((Off.of (l := [a]) s2).trans o23) ht
  have hts3 := TmsA.up ((Off.of (l := [a]) s2).trans o23) _ _ hts1
  have o3 : Off [a] H (upd H2 a (.ins (C .b) dx (putF "places" (.ref e) (putF "parts" (.ref t) [])))) := o1.trans ((Off.of s2).trans o23)
  have h3 : (upd H2 a (.ins (C .b) dx (putF "places" (.ref e) (putF "parts" (.ref t) [])))) a = some (.ins (C .b) dx (putF "places" (.ref e) (putF "parts" (.ref t) []))) := upd_same
  have he3 : (upd H2 a (.ins (C .b) dx (putF "places" (.ref e) (putF "parts" (.ref t) [])))) e = some (.tup (cs.map V.ref)) := by rw [upd_ne nae.symm]; exact he
  have pA3 : PlsA (upd H2 a (.ins (C .b) dx (putF "places" (.ref e) (putF "parts" (.ref t) [])))) cs qs := pA.upT fun b xs z => by
    rw [upd_ne (fun y => by rw [y, h2] at z; cases z)]
    exact z
  generalize upd H2 a (.ins (C .b) dx (putF "places" (.ref e) (putF "parts" (.ref t) []))) = H3 at *
  have lpar : (putF "places" (V.ref e) (putF "parts" (V.ref t) [])).lookup ("parts" : Str) = some (.ref t) := by
    rw [lookup_putF, if_neg (sy ne0), lookup_putF, if_pos rfl]
  have hts4 := TmsA.up (cut_same _ _) _ _ hts3
  refine ⟨_, rfl, a, C .b, dx, _, .ref t, rfl, h3, cl, na (by simp [attsT]), lpar, t, rfl, ⟨_, seqT_cut ht3⟩, fun D hD => lc_it (walk_tup (K := K) (a := t) (xs := us)) (fun j H4 => H4 D = some (.lst ((ts.take j).map fun t => V.int (t.wt : Int))) ∧ Same H3 H4) ⟨upd_same, same_new hD _⟩ ?_ ?_ ?_⟩
  · rintro j H4 hj ⟨g1, g2⟩
    exact seqT_up g2 (seqT_cut ht3)
  · rintro j y H4 H5 hj ⟨g1, g2⟩ ⟨rfl, hy⟩
    obtain ⟨u, hu, uA⟩ := hts4.get hy
    obtain ⟨b, dy, fs, _, _, _, rfl, hb, _, lw, _⟩ := (TmA.up g2 u _ uA).plsAt
    refine ⟨rfl, _, rfl, b, C u.ix, dy, fs, _, rfl, hb, (T.fam.o u.ix).c.cl, T.na u.ix _ (by cases u.ix <;> simp [attsT]), lw, _, g1, few1 ?_, ?_, ?_⟩
    · rw [List.length_map, List.length_take]
      have : ts.length ≤ Tm.wts ts := Tm.len_wts ts
      omega
    · rw [upd_same, get_take hu, List.map_append]
      rfl
    · intro c o z
      rw [upd_ne (ne_of_none z hD)]
      exact g2 c o z
  · rintro H4 ⟨g1, g2⟩
    rw [← hts4.len.symm, List.take_length] at g1
    have sumE := Tm.sum_wts ts
    refine ⟨D, ts.map fun t : Tm => (t.wt : Int), rfl, SqL.of (by rw [g1, List.map_map]; rfl), ?_⟩
    rw [sumE]
    refine ⟨1, (Tm.wts ts : Int), rfl, rfl, _, rfl, a, C .b, dx, _, rfl, g2 _ _ h3, cl, na (by simp [attsT]), lt2 1 (putF_le _ _ _), ?_⟩
    have o45 : Off [a] H3 (upd H4 a (.ins (C .b) dx (flB (.ref t) (.ref e) (.int (1 + Tm.wts ts : Nat))))) := (Off.of g2).trans (Off.put (by simp))
    refine q _ (o3.trans o45) (.bui (dx := dx) (q := t) (e := e) (vs := us) (bs := cs) (ps := qs) upd_same ?_ ?_ ?_ ?_ srt nd mem)
    · exact seqT_cut (seqT_up o45 ht3)
    · exact TmsA.up (cut_same _ _) _ _ (TmsA.up o45 _ _ hts3)
    · rw [upd_ne nae.symm]
      exact g2 _ _ he3
    · exact pA3.upT fun b xs z => by
        rw [upd_ne (fun y => by rw [y, h3] at z; cases z)]
        exact g2 _ _ z
end
/-! terms flat -/
abbrev sFlat : Stmt := topS 17
theorem scFlat : FnScope ["term", "found", "todo", "one"] ["term"] (defScope sFlat) := ⟨rfl, rfl, rfl, by decide +kernel, rfl, by decide +kernel, by decide +kernel⟩
theorem Tm.fls_app : ∀ ts us : List Tm, Tm.fls (ts ++ us) = Tm.fls ts ++ Tm.fls us
  | [], _ => rfl
  | t :: ts, us => by rw [List.cons_append, Tm.fls, Tm.fls, Tm.fls_app ts us, List.append_assoc]
def isBui : Tm → Bool
  | .bui _ => true
  | _ => false
def Tm.kids : Tm → List Tm
  | .bui ts => ts
  | _ => []
theorem Tm.fl_kids : ∀ t : Tm, t.fl = t :: Tm.fls t.kids
  | .bui ts => by rw [Tm.fl] <;> rfl
  | .lit _ => rfl
  | .who _ => rfl
  | .shi _ _ => rfl
theorem Tm.wt_kids : ∀ t : Tm, t.wt = 1 + Tm.wts t.kids
  | .bui ts => by rw [Tm.wt] <;> rfl
  | .lit _ => rfl
  | .who _ => rfl
  | .shi _ _ => rfl
/-- isinstance(t, Built) -/
theorem kit_fam {K : PySem.W.Frag} {C fE : TI → Addr} (F : FamC K C fE) (i j : TI) : PySem.W.kitOne K (.ref (C i)) (.ref (C j)) = some (decide (i = j)) := by
  by_cases e : i = j
  · subst e
    rw [decide_eq_true rfl]
    exact (F.o i).c.me
  · rw [decide_eq_false e]
    exact F.ap j i fun z => e z.symm
theorem ins_ty {K : PySem.W.Frag} {C fE : TI → Addr} {H : Hp} (F : FamC K C fE) {a dx : Addr} {fs : List (Str × V)} {i : TI} (h : H a = some (.ins (C i) dx fs)) : TyX K H (.ref a) (.ref (C i)) :=
  have o := (F.o i).c
  .base (.ins h o.cl o.ha o.hn o.htk o.hm)
theorem bui_ix : ∀ t : Tm, decide (t.ix = TI.b) = isBui t
  | .bui _ => rfl
  | .lit _ => rfl
  | .who _ => rfl
  | .shi _ _ => rfl
theorem TmsA.unapp {K : PySem.W.Frag} {C : TI → Addr} {H : Hp} : ∀ {xs ys : List V} {ts : List Tm}, TmsA K C H (xs ++ ys) ts → ∃ t1 t2, ts = t1 ++ t2 ∧ TmsA K C H xs t1 ∧ TmsA K C H ys t2
  | [], _, ts, h => ⟨[], ts, rfl, .nil, h⟩
  | x :: xs, ys, ts, h => by
    cases h with
    | cons a b =>
      obtain ⟨t1, t2, e, p, q⟩ := TmsA.unapp (xs := xs) b
      exact ⟨_ :: t1, t2, by rw [e] <;> rfl, .cons a p, q⟩
theorem TmsA.last {K : PySem.W.Frag} {C : TI → Addr} {H : Hp} {xs : List V} {ts : List Tm} (h : TmsA K C H xs ts) (hx : xs ≠ []) : ∃ xs' v ts' t, xs = xs' ++ [v] ∧ ts = ts' ++ [t] ∧ TmsA K C H xs' ts' ∧ TmA K C H v t := by
  have e := (List.dropLast_concat_getLast hx).symm
  rw [e] at h
  obtain ⟨d1, d2, e2, a, b⟩ := TmsA.unapp h
  cases b with
  | cons b1 b2 =>
    cases b2
    exact ⟨_, _, d1, _, e, e2, a, b1⟩
theorem Tm.wts_rev : ∀ ts : List Tm, Tm.wts ts.reverse = Tm.wts ts
  | [] => rfl
  | a :: ts => by rw [List.reverse_cons, Tm.wts_app, Tm.wts_rev ts, Tm.wts, Tm.wts, Tm.wts]; omega
def spFlat (K : PySem.W.Frag) (C : TI → Addr) : Sp := fun vs H Q _ => ∃ v t Hx, vs = [v] ∧ Same Hx H ∧ TmA K C Hx v t ∧ t.wt ≤ 900 ∧ ∀ p fs H', Same H H' → H p = none → H' p = some (.lst fs) → TmsA K C Hx fs t.fl → Q (.ref p) H'
section
variable {P : Program} {w : World} {K : PySem.W.Frag} {mg : Str → Option Value} {base : Heap} {f : Addr} {fd : FuncData} {C fE : TI → Addr}
theorem ok_flat {k : Nat} (F : Fun K "flat_terms" "flat_terms" sFlat f fd) (T : TmC K mg C fE) (B : Bi mg) (ml : mg "list" = none) : FnOk P w K mg base CX0 (k + 1) f fd ["term"] (spFlat K C) := by
  refine F.ok scFlat (fun vs H Q E h => ?_) (fun cdv A outer s H vs Q E hr h => ?_)
  · obtain ⟨v, t, Hx, rfl, _⟩ := h
    rfl
  obtain ⟨v, t, Hx, rfl, sx, ht, hw, q⟩ := h
  refine ⟨_, pss_cons (ps_set (i := 1) scFlat.nd rfl (.inl rfl) (pe_lst pa_nil)) (pss_cons (ps_set (i := 2) scFlat.nd rfl (.inl rfl) (pe_lst (pa_cons (pv 0) pa_nil)))
    (pss_cons (ps_while PassesOwn.never (pt_truth (pv 2) (by intro _; rfl))
      (pss_cons (ps_set (i := 3) scFlat.nd rfl (.inl rfl) (pe_bm0 PySem.F.plainAttrs_list PySem.F.slot_list_pop PySem.F.type_list_pop mt_pop (pv 2)))
      (pss_cons (ps_expr (pe_bm PySem.F.plainAttrs_list PySem.F.slot_list_append PySem.F.type_list_append mt_append (pv 1) (pa_cons (pv 3) pa_nil)))
      (pss_one (ps_if (pt_val (pe_callB call_isi (by rfl) B.ii b_ii (pa_cons (pv 3) (pa_cons (pe_glob (by rfl) T.mB (v := .ref (C .b)) rfl) pa_nil))))
        (pss_one (ps_expr (pe_bm PySem.F.plainAttrs_list PySem.F.slot_list_extend PySem.F.type_list_extend mt_extend (pv 2) (pa_cons (pe_callTy call_list_of (by rfl) ml b_list (pa_cons (pe_revT (pe_fld (pv 3) rfl)) pa_nil)) pa_nil)))) pss_nil)))))
    (pss_one (ps_ret (pv 1))))), ?_⟩
  refine ⟨by decide, fun L hL => ?_⟩
  refine ⟨_, rfl, few (by simp), fun M hM => ?_⟩
  have hL0 : (upd H L (.lst [])) L = some (.lst []) := upd_same
  have nLM : L ≠ M := ne_of_none hL0 hM
  have hM0 : H M = none := by rw [upd_ne nLM.symm] at hM; exact hM
  refine ⟨fun m σ H2 => ∃ fs ys done todo o, σ = [some v, some (.ref L), some (.ref M), o] ∧ H2 L = some (.lst fs) ∧ H2 M = some (.lst ys) ∧ Same H H2 ∧ TmsA K C Hx fs done ∧ TmsA K C Hx ys todo ∧ done ++ Tm.fls todo.reverse = t.fl ∧ m = Tm.wts todo,
    ⟨Tm.wts [t], [], [v], [], [t], none, rfl, ?_, upd_same, ?_, .nil, .cons ht .nil, ?_, rfl⟩, ?_⟩
  · rw [upd_ne nLM]
    exact upd_same
  · exact (same_new hL _).trans (same_new hM _)
  · show [] ++ (t.fl ++ []) = _
    rw [List.append_nil] <;> rfl
  rintro m σ H2 ⟨fs, ys, done, todo, o, rfl, h1, h2, s2, dA, tA, eq, rfl⟩
  have len : done.length + Tm.wts todo = t.wt := by
    have z := congrArg List.length eq
    rw [List.length_append, Tm.fls_len, Tm.fl_len] at z
    rw [Tm.wts_rev] at z
    exact z
  have lf := dA.len
  have ly := tA.len
  refine ⟨_, rfl, _, .inl ⟨ys, SqL.of h2, rfl⟩, ?_⟩
  by_cases ex : ys = []
  · subst ex
    refine iteF ?_
    cases tA
    have e : done = t.fl := by rw [← eq]; show done = done ++ []; rw [List.append_nil]
    rw [← e] at q
    exact ⟨_, rfl, q L fs H2 s2 hL h1 dA⟩
  · have e1 : (!ys.isEmpty) = true := by simp [ex]
    rw [e1]
    refine iteT ?_
    obtain ⟨ys', y, todo', u, rfl, rfl, tA', uA⟩ := tA.last ex
    rw [Tm.wts_app] at len ⊢
    have wu : Tm.wts [u] = u.wt := by rw [Tm.wts, Tm.wts, Nat.add_zero]
    rw [wu] at len ⊢
    have wk := Tm.wt_kids u
    have lk := Tm.len_wts u.kids
    have l9 := Tm.len_wts todo'
    have ly' := tA'.len
    rw [List.reverse_append] at eq
    have eq2 : done ++ [u] ++ Tm.fls (todo' ++ u.kids.reverse).reverse = t.fl := by
      rw [← eq, List.reverse_append, List.reverse_reverse, Tm.fls_app]
      show _ = done ++ (u.fl ++ Tm.fls todo'.reverse)
      rw [Tm.fl_kids u]
      simp only [List.append_assoc, List.cons_append, List.nil_append]
    refine ⟨fun σ' H3 => ∃ m', m' < Tm.wts todo' + u.wt ∧ ∃ fs ys done todo o, σ' = [some v, some (.ref L), some (.ref M), o] ∧ H3 L = some (.lst fs) ∧ H3 M = some (.lst ys) ∧ Same H H3 ∧ TmsA K C Hx fs done ∧ TmsA K C Hx ys todo ∧ done ++ Tm.fls todo.reverse = t.fl ∧ m' = Tm.wts todo, fun _ _ z => z, ?_⟩
    refine ⟨_, rfl, .inl ⟨rfl, _, SqL.of h2⟩, M, _, y, rfl, rfl, h2, last_at _ _, ?_⟩
    rw [drop_last]
    have g1 : (upd H2 M (.lst ys')) L = some (.lst fs) := by rw [upd_ne nLM]; exact h1
    have s3 : Same H (upd H2 M (.lst ys')) := fun c o z => by
      rw [upd_ne (ne_of_none z hM0)]
      exact s2 c o z
    have g2 : (upd H2 M (.lst ys')) M = some (.lst ys') := upd_same
    generalize upd H2 M (.lst ys') = H3 at *
    refine ⟨_, rfl, .inl ⟨rfl, _, SqL.of g1⟩, _, rfl, L, fs, y, rfl, rfl, g1, few1 (by omega), ?_⟩
    have k1 : (upd H3 L (.lst (fs ++ [y]))) L = some (.lst (fs ++ [y])) := upd_same
    have k2 : (upd H3 L (.lst (fs ++ [y]))) M = some (.lst ys') := by rw [upd_ne nLM.symm]; exact g2
    have s4 : Same H (upd H3 L (.lst (fs ++ [y]))) := fun c o z => by
      rw [upd_ne (ne_of_none z hL)]
      exact s3 c o z
    generalize upd H3 L (.lst (fs ++ [y])) = H4 at *
    have uA4 := TmA.up (sx.trans s4) u _ uA
    obtain ⟨a, dx, fds, rfl, ha⟩ := uA4.ins
    refine ⟨_, rfl, .ref a, .ref (C .b), _, _, _, rfl, .own _, ins_ty T.fam ha, kit_fam T.fam u.ix .b, _, rfl, ?_⟩
    rw [bui_ix]
    cases hb : isBui u with
    | false =>
      have e0 : u.kids = [] := by cases u <;> first | rfl | cases hb
      rw [e0, List.reverse_nil, List.append_nil] at eq2
      have := Tm.wt_pos u
      exact iteF ⟨Tm.wts todo', by omega, _, _, done ++ [u], todo', _, rfl, k1, k2, s4, TmsA.app dA (.cons uA .nil), tA', eq2, rfl⟩
    | true =>
      have uA0 := uA
      cases uA with
      | lit _ _ _ => cases hb
      | who _ _ _ => cases hb
      | shi _ _ _ => cases hb
      | @bui _ _ pq e vs ts bs ps x1 x2 x3 x4 x5 x6 x7 x8 =>
        have hcl := (T.fam.o .b).c.cl
        have x0 := (sx.trans s4) _ _ x1
        refine iteT ⟨_, rfl, .inl ⟨rfl, _, SqL.of k2⟩, _, rfl, a, C .b, _, _,   .ref pq, rfl, x0, hcl, T.na .b _ (by simp [attsT]), flB_q _ _ _, pq, vs, rfl, seqT_up (sx.trans s4) x2, fun r hr => ?_⟩
        have sr := same_new hr (.tup vs.reverse)
        refine ⟨r, vs.reverse, rfl, .inr (.inl (.inl upd_same)), fun z hz => ?_⟩
        have sz := same_new hz (.lst vs.reverse)
        have j1 := sz _ _ (sr _ _ k1)
        have j2 := sz _ _ (sr _ _ k2)
        have j3 : (upd (upd H4 r (.tup vs.reverse)) z (.lst vs.reverse)) z = some (.lst vs.reverse) := upd_same
        have s5 := s4.trans (sr.trans sz)
        have lvs := x3.len
        have nzM : M ≠ z := ne_of_none (sr _ _ k2) hz
        generalize upd (upd H4 r (.tup vs.reverse)) z (.lst vs.reverse) = H5 at *
        have wb : (Tm.bui ts).wt = 1 + Tm.wts ts := by rw [Tm.wt]
        have lt2 := Tm.len_wts ts
        refine ⟨M, z, ys', vs.reverse, rfl, rfl, j2, j3, Nat.le_of_lt (few1 (by rw [List.length_reverse]; omega)), ?_⟩
        have s6 : Same H (upd H5 M (.lst (ys' ++ vs.reverse))) := fun c o w => by
          rw [upd_ne (ne_of_none w hM0)]
          exact s5 c o w
        have uk : TmsA K C Hx vs.reverse ts.reverse := x3.rev
        refine ⟨Tm.wts (todo' ++ ts.reverse), ?_, _, _, done ++ [.bui ts], todo' ++ ts.reverse, _, rfl, ?_, upd_same, s6, TmsA.app dA (.cons uA0 .nil), TmsA.app tA' uk, eq2, rfl⟩
        · rw [Tm.wts_app, Tm.wts_rev]
          omega
        · rw [upd_ne nLM]
          exact j1
end
/-! terms as texts -/
abbrev sPText : Stmt := topS 15
abbrev sStrL : Stmt := inClass (topS 11) 3
abbrev sStrW : Stmt := inClass (topS 12) 3
abbrev sStrS : Stmt := inClass (topS 13) 3
abbrev sStrB : Stmt := inClass (topS 14) 3
theorem scPText : FnScope ["place", "step"] ["place"] (defScope sPText) := ⟨rfl, rfl, rfl, by decide +kernel, rfl, by decide +kernel, by decide +kernel⟩
theorem scStrL : FnScope ["self"] ["self"] (defScope sStrL) := ⟨rfl, rfl, rfl, by decide +kernel, rfl, by decide +kernel, by decide +kernel⟩
theorem scStrW : FnScope ["self"] ["self"] (defScope sStrW) := ⟨rfl, rfl, rfl, by decide +kernel, rfl, by decide +kernel, by decide +kernel⟩
theorem scStrS : FnScope ["self"] ["self"] (defScope sStrS) := ⟨rfl, rfl, rfl, by decide +kernel, rfl, by decide +kernel, by decide +kernel⟩
theorem scStrB : FnScope ["self"] ["self"] (defScope sStrB) := ⟨rfl, rfl, rfl, by decide +kernel, rfl, by decide +kernel, by decide +kernel⟩
theorem emp_app (x : Str) : Str.empty ++ x = x := by
  show (⟨#[] ++ x.cps⟩ : Str) = x
  rw [Array.empty_append]
def intT (i : Int) : Str := Str.ofString (toString i)
def stepsT (p : Pl) : List Str := p.1 :: p.2.map fun k : Nat => intT k
def plT (p : Pl) : Str := ("@" : Str) ++ Txt.join "." (stepsT p)
structure PlOk (p : Pl) : Prop where
  nm : Sm 8 p.1
  few : p.2.length ≤ 14
  sm : ∀ k ∈ p.2, k ≤ 5000
theorem intT_len {i : Int} (h : i.natAbs ≤ 10 ^ 9) : (intT i).length ≤ 11 := by
  unfold intT
  rw [ofString_len]
  exact int_text_length_le10 (k := 10) (by decide) (Nat.lt_of_le_of_lt h (by decide))
theorem int_log {i : Int} (h : i.natAbs ≤ 10 ^ 9) : i.natAbs.log2 < 1920 := by
  by_cases e : i.natAbs = 0
  · rw [e]
    decide
  · exact (Nat.log2_lt e).mpr (Nat.lt_of_le_of_lt h (Nat.lt_of_lt_of_le (by decide : 10 ^ 9 < 2 ^ 30) (Nat.pow_le_pow_right (by decide) (by decide))))
theorem sum_le {n : Nat} : ∀ {xs : List Str}, (∀ x ∈ xs, x.length ≤ n) → (xs.map (·.length)).sum ≤ xs.length * n
  | [], _ => Nat.zero_le _
  | x :: xs, h => by
    have h1 := h x List.mem_cons_self
    have h2 := sum_le fun y hy => h y (List.mem_cons_of_mem _ hy)
    simp only [List.map_cons, List.sum_cons, List.length_cons, Nat.add_mul, Nat.one_mul]
    omega
theorem steps_le {p : Pl} (h : PlOk p) : ∀ x ∈ stepsT p, x.length ≤ 11 := fun x m => by
  rcases List.mem_cons.mp m with e | m
  · rw [e]
    have := h.nm.le
    omega
  · obtain ⟨k, hk, rfl⟩ := List.mem_map.mp m
    have kb := h.sm k hk
    exact intT_len (Nat.le_trans (show ((k : Nat) : Int).natAbs ≤ 5000 from by omega) (by decide))
theorem join_fits {p : Pl} (h : PlOk p) : ((stepsT p).map (·.length)).sum + (stepsT p).length * (("." : Str)).length ≤ 190 := by
  have q := sum_le (steps_le h)
  have e : (("." : Str)).length = 1 := by decide +kernel
  have l : (stepsT p).length = p.2.length + 1 := by simp [stepsT]
  have f := h.few
  have : (stepsT p).length * 11 ≤ 15 * 11 := Nat.mul_le_mul_right _ (by omega)
  rw [e]
  omega
theorem join_le (sep : Str) (xs : List Str) : (Txt.join sep xs).length ≤ (xs.map (·.length)).sum + xs.length * sep.length := by
  rw [show Txt.join sep xs = Str.join sep xs from StrLaws.glued_eq_join sep xs]
  exact StrLaws.join_length_le sep xs
theorem plT_len {p : Pl} (h : PlOk p) : (plT p).length ≤ 200 := by
  unfold plT
  rw [Str.length_append]
  have e : (("@" : Str)).length = 1 := by decide +kernel
  have a := join_le "." (stepsT p)
  have b := join_fits h
  omega
def spPText (K : PySem.W.Frag) : Sp := fun vs H Q _ => ∃ q p, vs = [.ref q] ∧ SqT K H q (plW p) ∧ PlOk p ∧ ∀ H', Same H H' → Q (.str (plT p)) H'
section
variable {X : Cx}
theorem call_strU : CallR X (.type "str") (fun xs H Q => (∃ i, xs = [.int i] ∧ i.natAbs.log2 < 1920 ∧ Q (.str (toString i)) H) ∨ ∃ a, xs = [.str a] ∧ Q (.str a) H) := by
  intro pins s σ H xs us Q I rs h
  rcases h with h | h
  · exact call_str_int pins s σ H xs us Q I rs h
  · exact SkE.call_str_str pins s σ H xs us Q I rs h
end
section
variable {P : Program} {w : World} {K : PySem.W.Frag} {mg : Str → Option Value} {base : Heap} {f : Addr} {fd : FuncData} {C fE : TI → Addr}
theorem ok_ptext {k : Nat} (F : Fun K "place_text" "place_text" sPText f fd) (B : Bi mg) : FnOk P w K mg base CX0 (k + 1) f fd ["place"] (spPText K) := by
  refine F.ok scPText (fun vs H Q E h => ?_) (fun cdv A outer s H vs Q E hr h => ?_)
  · obtain ⟨q, p, rfl, _⟩ := h
    rfl
  obtain ⟨q, p, rfl, hq, hp, fin⟩ := h
  refine ⟨_, pss_one (ps_ret (pe_op op_add_str pe_str (pe_join pe_str (pe_lc (own := [("step", 1)]) (g := gName 1) (by rfl) scPText.nd (pi_tup (pv 0))
      (blkOk_by (own := [("step", 1)]) (N := ["place", "step"]) (sc := defScope sPText) (by decide +kernel))
      (fun _ _ _ _ _ => pg_name (i := 1) scPText.nd rfl (Or.inl rfl)) (fun _ _ _ _ _ => pts_nil)
      (fun _ _ _ _ _ => pe_callTy call_strU (by rfl) B.str (by decide +kernel) (pa_cons (pv 1) pa_nil)))))), ?_⟩
  have lst : (plW p).length = p.2.length + 1 := by simp [plW]
  have pf := hp.few
  refine ⟨⟨_, rfl⟩, _, rfl, q, rfl, ⟨_, hq⟩, fun D hD => lc_it (walk_tup (K := K) (a := q) (xs := plW p)) (fun i H2 => H2 D = some (.lst (((stepsT p).take i).map V.str)) ∧ Same H H2) ⟨upd_same, same_new hD _⟩ ?_ ?_ ?_⟩
  · rintro i H2 hi ⟨g1, g2⟩
    exact seqT_up g2 hq
  · rintro i y H2 H3 hi ⟨g1, g2⟩ ⟨rfl, hy⟩
    have fin2 : ∀ x, (stepsT p)[i]? = some x → ∃ acc, H3 D = some (.lst acc) ∧ acc.length < sizeLine ∧ (upd H3 D (.lst (acc ++ [V.str x]))) D = some (.lst (((stepsT p).take (i + 1)).map V.str)) ∧ Same H (upd H3 D (.lst (acc ++ [V.str x]))) := fun x hx => by
      refine ⟨_, g1, few1 ?_, ?_, ?_⟩
      · rw [List.length_map, List.length_take]
        have : (stepsT p).length = p.2.length + 1 := by simp [stepsT]
        omega
      · rw [upd_same, get_take hx, List.map_append]
        rfl
      · intro c o z
        rw [upd_ne (ne_of_none z hD)]
        exact g2 c o z
    refine ⟨rfl, _, rfl, ?_⟩
    cases i with
    | zero =>
      cases hy
      exact .inr ⟨p.1, rfl, fin2 _ rfl⟩
    | succ i =>
      have hy : (p.2.map fun k : Nat => V.int k)[i]? = some y := hy
      rw [List.getElem?_map] at hy
      obtain ⟨k, hk, rfl⟩ := Option.map_eq_some_iff.mp hy
      have kb := hp.sm k (List.mem_of_getElem? hk)
      refine .inl ⟨k, rfl, int_log (Nat.le_trans (show ((k : Nat) : Int).natAbs ≤ 5000 from by omega) (by decide)), fin2 (intT k) ?_⟩
      show (p.2.map fun k : Nat => intT k)[i]? = _
      rw [List.getElem?_map, hk] <;> rfl
  · rintro H2 ⟨g1, g2⟩
    have e : (stepsT p).take (plW p).length = stepsT p := by rw [lst, show p.2.length + 1 = (stepsT p).length by simp [stepsT], List.take_length]
    rw [e] at g1
    have l1 := join_fits hp
    refine ⟨_, D, stepsT p, rfl, rfl, .inl (SqL.of g1), Nat.le_trans l1 (by decide), ?_⟩
    refine ⟨_, _, rfl, rfl, ?_, fin H2 g2⟩
    have l2 := plT_len hp
    unfold plT at l2
    rw [Str.length_append] at l2
    exact few (by omega)
end
/-! the texts of terms -/
mutual
def Tm.ok : Tm → Prop
  | .lit d => (∃ i : Int, d = .int i ∧ i.natAbs ≤ 10 ^ 9) ∨ ∃ x : Str, d = .str x ∧ Sm 4 x
  | .who p => PlOk p
  | .shi p b => PlOk p ∧ b.natAbs ≤ 10 ^ 8
  | .bui ts => Tm.oks ts
def Tm.oks : List Tm → Prop
  | [] => True
  | t :: ts => t.ok ∧ Tm.oks ts
end
theorem Tm.oks_mem : ∀ {ts : List Tm}, Tm.oks ts → ∀ t ∈ ts, t.ok
  | [], _, _, m => nomatch m
  | t :: ts, h, u, m => by
    simp only [Tm.oks] at h
    rcases List.mem_cons.mp m with e | m
    · rw [e]; exact h.1
    · exact Tm.oks_mem h.2 u m
theorem Tm.oks_of : ∀ {ts : List Tm}, (∀ t ∈ ts, t.ok) → Tm.oks ts
  | [], _ => by simp only [Tm.oks]
  | t :: ts, h => by
    simp only [Tm.oks]
    exact ⟨h t List.mem_cons_self, Tm.oks_of fun u m => h u (List.mem_cons_of_mem _ m)⟩
theorem Tm.oks_app {ts us : List Tm} (h : Tm.oks ts) (g : Tm.oks us) : Tm.oks (ts ++ us) := Tm.oks_of fun t m => (List.mem_append.mp m).elim (Tm.oks_mem h t) (Tm.oks_mem g t)
/-- the text of a term that is not built -/
def leafT : Tm → Str
  | .lit (.str x) => ("'" : Str) ++ x
  | .lit (.int i) => intT i
  | .lit _ => Str.empty
  | .who p => plT p
  | .shi p b => plT p ++ plusT b
  | .bui _ => Str.empty
mutual
def Tm.wd : Tm → List Str
  | .bui ts => ("(" : Str) :: (Tm.wds ts ++ [(")" : Str)])
  | .lit d => [leafT (.lit d)]
  | .who p => [leafT (.who p)]
  | .shi p b => [leafT (.shi p b)]
def Tm.wds : List Tm → List Str
  | [] => []
  | t :: ts => t.wd ++ Tm.wds ts
end
def Tm.txt (t : Tm) : Str := Txt.join " " t.wd
theorem join_one (x : Str) : Txt.join " " [x] = x := by
  rw [show Txt.join " " [x] = Str.join " " [x] from StrLaws.glued_eq_join " " [x]]
  rfl
theorem leaf_txt {t : Tm} (h : isBui t = false) : t.wd = [leafT t] := by cases t <;> first | rfl | cases h
theorem leaf_len {t : Tm} (h : t.ok) (hb : isBui t = false) : (leafT t).length ≤ 220 := by
  cases t with
  | lit d =>
    simp only [Tm.ok] at h
    rcases h with ⟨i, rfl, hi⟩ | ⟨x, rfl, sx⟩
    · exact Nat.le_trans (intT_len hi) (by decide)
    · have e : (("'" : Str)).length = 1 := by decide +kernel
      show (("'" : Str) ++ x).length ≤ _
      rw [Str.length_append, e]
      have := sx.le
      omega
  | who p =>
    simp only [Tm.ok] at h
    exact Nat.le_trans (plT_len h) (by decide)
  | shi p b =>
    simp only [Tm.ok] at h
    have a := plT_len h.1
    have c : (plusT b).length ≤ 12 := by
      unfold plusT
      have e1 : (("-" : Str)).length = 1 := by decide +kernel
      have e2 : (("+" : Str)).length = 1 := by decide +kernel
      have e3 := intT_len (i := (b.natAbs : Int)) (by have := h.2; omega)
      unfold intT at e3
      split
      · rw [Str.length_append, e1]; omega
      · rw [Str.length_append, e2]; omega
    show (plT p ++ plusT b).length ≤ _
    rw [Str.length_append]
    omega
  | bui ts => cases hb
def spStrT (K : PySem.W.Frag) (C : TI → Addr) (ok : Tm → Prop) : Sp := fun vs H Q _ => ∃ v t, vs = [v] ∧ TmA K C H v t ∧ t.ok ∧ ok t ∧ ∀ H', Same H H' → Q (.str t.txt) H'
section
variable {P : Program} {w : World} {K : PySem.W.Frag} {mg : Str → Option Value} {base : Heap} {f fP : Addr} {fd dP : FuncData} {C fE : TI → Addr}
theorem ok_strL {k : Nat} (F : Fun K "__str__" "Literal.__str__" sStrL f fd) (T : TmC K mg C fE) (B : Bi mg) : FnOk P w K mg base CX0 (k + 1) f fd ["self"] (spStrT K C fun t => t.ix = .l) := by
  refine F.ok scStrL (fun vs H Q E h => ?_) (fun cdv A outer s H vs Q E hr h => ?_)
  · obtain ⟨v, t, rfl, _⟩ := h
    rfl
  obtain ⟨v, t, rfl, ht, ok, hix, q⟩ := h
  have cl := (T.fam.o .l).c.cl
  refine ⟨_, pss_cons (ps_if (pt_val (pe_callB call_isD (by rfl) B.ii (by decide +kernel) (pa_cons (pe_fld (pv 0) rfl) (pa_cons (pe_bltn (by rfl) B.str (by decide +kernel) (v := .ty "str") rfl) pa_nil))))
      (pss_one (ps_ret (pe_joined (.cons pe_str (.cons (pe_fmt (pe_fld (pv 0) rfl)) .nil))))) pss_nil)
    (pss_one (ps_ret (pe_callTy call_strU (by rfl) B.str (by decide +kernel) (pa_cons (pe_fld (pv 0) rfl) pa_nil)))), ?_⟩
  cases ht with
  | who _ _ _ => cases hix
  | shi _ _ _ => cases hix
  | bui _ _ _ _ _ _ _ _ => cases hix
  | @lit a dx e v d h1 h2 h3 =>
    have na := T.na .l "value" (by simp [attsT])
    have q := q H (Same.refl H)
    simp only [Tm.ok] at ok
    unfold Tm.txt at q
    rw [leaf_txt rfl, join_one] at q
    refine ⟨_, rfl, a, C .l, dx, _, v, rfl, h1, cl, na, flL_v _ _, v, d, "str", _, rfl, h2, kit_str d, _, rfl, ?_⟩
    rcases ok with ⟨i, rfl, hi⟩ | ⟨x, rfl, sx⟩
    · cases h2
      exact iteF ⟨_, rfl, a, C .l, dx, _, _, rfl, h1, cl, na, flL_v _ _, .inl ⟨i, rfl, int_log hi, q⟩⟩
    · cases h2
      refine iteT ⟨_, rfl, by decide +kernel, _, rfl, a, C .l, dx, _, _, rfl, h1, cl, na, flL_v _ _, .inl ⟨x, rfl, sx.fits (by decide), _, rfl, ?_, ?_⟩⟩
      · have e : (Str.empty ++ ("'" : Str)).length = 1 := by decide +kernel
        rw [Str.length_append, e]
        have := sx.le
        exact few (by omega)
      · rw [emp_app]
        exact q
theorem ok_strW {k : Nat} (F : Fun K "__str__" "Whole.__str__" sStrW f fd) (T : TmC K mg C fE) (B : Bi mg) (GP : Dn P w K mg base 1 "place_text" ["place"] (spPText K) fP dP) : FnOk P w K mg base CX0 (k + 2) f fd ["self"] (spStrT K C fun t => t.ix = .w) := by
  refine F.ok scStrW (fun vs H Q E h => ?_) (fun cdv A outer s H vs Q E hr h => ?_)
  · obtain ⟨v, t, rfl, _⟩ := h
    rfl
  obtain ⟨v, t, rfl, ht, ok, hi, q⟩ := h
  have cl := (T.fam.o .w).c.cl
  have hr1 : Room 1 _ := hr.mono (by omega)
  refine ⟨_, pss_one (ps_ret (pe_callTy call_strU (by rfl) B.str (by decide +kernel) (pa_cons (pe_call GP.ok hr1 (by rfl) GP.mg GP.kp GP.bd .nil pass0 (pa_cons (pe_fld (pv 0) rfl) pa_nil)) pa_nil))), ?_⟩
  cases ht with
  | lit _ _ _ => cases hi
  | shi _ _ _ => cases hi
  | bui _ _ _ _ _ _ _ _ => cases hi
  | @who a dx qq e p h1 h2 h3 =>
    simp only [Tm.ok] at ok
    unfold Tm.txt at q
    rw [leaf_txt rfl, join_one] at q
    exact ⟨_, rfl, a, C .w, dx, _, _, rfl, h1, cl, T.na .w "place" (by simp [attsT]), flW_q _ _, qq, p, rfl, .inl (.inl h2), ok, fun H' s => .inr ⟨_, rfl, q H' s⟩⟩
theorem ok_strS {k : Nat} (F : Fun K "__str__" "Shifted.__str__" sStrS f fd) (T : TmC K mg C fE) (B : Bi mg) (GP : Dn P w K mg base 1 "place_text" ["place"] (spPText K) fP dP) : FnOk P w K mg base CX0 (k + 2) f fd ["self"] (spStrT K C fun t => t.ix = .s) := by
  refine F.ok scStrS (fun vs H Q E h => ?_) (fun cdv A outer s H vs Q E hr h => ?_)
  · obtain ⟨v, t, rfl, _⟩ := h
    rfl
  obtain ⟨v, t, rfl, ht, ok, hi, q⟩ := h
  have cl := (T.fam.o .s).c.cl
  have hr1 : Room 1 _ := hr.mono (by omega)
  refine ⟨_, pss_one (ps_ret (pe_joined (.cons (pe_fmt (pe_call GP.ok hr1 (by rfl) GP.mg GP.kp GP.bd .nil pass0 (pa_cons (pe_fld (pv 0) rfl) pa_nil))) (.cons (pe_fmtP (pe_fld (pv 0) rfl) (pe_joined1 pe_str) (fun _ _ _ h => h)) .nil)))), ?_⟩
  cases ht with
  | lit _ _ _ => cases hi
  | who _ _ _ => cases hi
  | bui _ _ _ _ _ _ _ _ => cases hi
  | @shi a dx qq e b p h1 h2 h3 =>
    simp only [Tm.ok] at ok
    unfold Tm.txt at q
    have ll := leaf_len (t := .shi p b) (by simp only [Tm.ok]; exact ok) rfl
    rw [leaf_txt rfl, join_one] at q
    have l1 := plT_len ok.1
    have l2 : (plT p ++ plusT b).length ≤ 220 := ll
    rw [Str.length_append] at l2
    refine ⟨_, rfl, a, C .s, dx, _, _, rfl, h1, cl, T.na .s "place" (by simp [attsT]), flS_q _ _ _, qq, p, rfl, .inl (.inl h2), ok.1, fun H' s =>   .inl ⟨_, rfl, few (by omega), _, rfl, ?_, ?_⟩⟩
    · rw [Str.length_append, show Str.empty.length = 0 by decide +kernel]
      exact few (by omega)
    · refine ⟨_, rfl, a, C .s, dx, _, _, rfl, s _ _ h1, cl, T.na .s "by" (by simp [attsT]), flS_b _ _ _, b, rfl, int_log (Nat.le_trans ok.2 (by decide)), few (by omega), _, rfl, ?_, ?_⟩
      · rw [emp_app, Str.length_append]
        exact few (by omega)
      · rw [emp_app]
        exact q H' s
end
/-! the words of a built term -/
abbrev sWords : Stmt := topS 19
theorem scWords : FnScope ["term", "words", "todo", "one"] ["term"] (defScope sWords) := ⟨rfl, rfl, rfl, by decide +kernel, rfl, by decide +kernel, by decide +kernel⟩
/-- what waits: a term, or a bracket that closes -/
def itW : Option Tm → List Str
  | some t => t.wd
  | none => [(")" : Str)]
def itsW (its : List (Option Tm)) : List Str := its.flatMap itW
def itM : Option Tm → Nat
  | some t => 2 * t.wt
  | none => 1
def itsM : List (Option Tm) → Nat
  | [] => 0
  | i :: r => itM i + itsM r
theorem itsM_app : ∀ a b : List (Option Tm), itsM (a ++ b) = itsM a + itsM b
  | [], b => by rw [List.nil_append, itsM, Nat.zero_add]
  | i :: a, b => by rw [List.cons_append, itsM, itsM, itsM_app a b, Nat.add_assoc]
theorem itsM_len : ∀ a : List (Option Tm), a.length ≤ itsM a
  | [] => Nat.le_refl _
  | i :: a => by
    have h := itsM_len a
    have p : 1 ≤ itM i := by
      cases i with
      | none => exact Nat.le_refl _
      | some t => have := Tm.wt_pos t; show 1 ≤ 2 * t.wt; omega
    rw [itsM, List.length_cons]
    omega
theorem itsM_some : ∀ ts : List Tm, itsM (ts.map some) = 2 * Tm.wts ts
  | [] => rfl
  | t :: ts => by
    rw [List.map_cons, itsM, itsM_some ts, Tm.wts]
    show 2 * t.wt + _ = _
    omega
theorem itsW_some : ∀ ts : List Tm, itsW (ts.map some) = Tm.wds ts
  | [] => rfl
  | t :: ts => by
    have ih := itsW_some ts
    unfold itsW at ih ⊢
    rw [List.map_cons, List.flatMap_cons, ih, Tm.wds]
    rfl
mutual
theorem Tm.wd_len : ∀ t : Tm, t.wd.length ≤ 2 * t.wt
  | .bui ts => by
    have := Tm.wds_len ts
    simp only [Tm.wd, Tm.wt, List.length_cons, List.length_append, List.length_nil]
    omega
  | .lit _ => by simp [Tm.wd, Tm.wt]
  | .who _ => by simp [Tm.wd, Tm.wt]
  | .shi _ _ => by simp [Tm.wd, Tm.wt]
theorem Tm.wds_len : ∀ ts : List Tm, (Tm.wds ts).length ≤ 2 * Tm.wts ts
  | [] => Nat.le_refl _
  | t :: ts => by
    have := Tm.wd_len t
    have := Tm.wds_len ts
    simp only [Tm.wds, Tm.wts, List.length_append]
    omega
end
mutual
theorem Tm.wd_fit : ∀ t : Tm, t.ok → ∀ x ∈ t.wd, x.length ≤ 220
  | .bui ts, h, x, m => by
    have ho : Tm.oks ts := by simpa only [Tm.ok] using h
    simp only [Tm.wd, List.mem_cons, List.mem_append, List.not_mem_nil, or_false] at m
    rcases m with e | m | e
    · rw [e]; decide +kernel
    · exact Tm.wds_fit ts ho x m
    · rw [e]; decide +kernel
  | .lit d, h, x, m => by
    have e : x = leafT (.lit d) := by simpa [Tm.wd] using m
    rw [e]
    exact leaf_len h rfl
  | .who p, h, x, m => by
    have e : x = leafT (.who p) := by simpa [Tm.wd] using m
    rw [e]
    exact leaf_len h rfl
  | .shi p b, h, x, m => by
    have e : x = leafT (.shi p b) := by simpa [Tm.wd] using m
    rw [e]
    exact leaf_len h rfl
theorem Tm.wds_fit : ∀ ts : List Tm, Tm.oks ts → ∀ x ∈ Tm.wds ts, x.length ≤ 220
  | [], _, _, m => nomatch m
  | t :: ts, h, x, m => by
    have ho : t.ok ∧ Tm.oks ts := by simpa only [Tm.oks] using h
    simp only [Tm.wds, List.mem_append] at m
    rcases m with m | m
    · exact Tm.wd_fit t ho.1 x m
    · exact Tm.wds_fit ts ho.2 x m
end
def ItA (K : PySem.W.Frag) (C : TI → Addr) (H : Hp) (v : V) : Option Tm → Prop
  | some t => TmA K C H v t ∧ t.ok
  | none => v = .str ")"
theorem ItA.up {K : PySem.W.Frag} {C : TI → Addr} {H H' : Hp} {v : V} {i : Option Tm} (s : Same H H') (h : ItA K C H v i) : ItA K C H' v i := by
  cases i with
  | none => exact h
  | some t => exact ⟨TmA.up s t v h.1, h.2⟩
theorem paired_unapp {α β : Type} {F : α → β → Prop} : ∀ {xs ys : List α} {ts : List β}, Paired F (xs ++ ys) ts → ∃ t1 t2, ts = t1 ++ t2 ∧ Paired F xs t1 ∧ Paired F ys t2
  | [], _, ts, h => ⟨[], ts, rfl, .nil, h⟩
  | x :: xs, ys, ts, h => by
    cases h with
    | cons a b =>
      obtain ⟨t1, t2, e, p, q⟩ := paired_unapp (xs := xs) b
      exact ⟨_ :: t1, t2, by rw [e] <;> rfl, .cons a p, q⟩
theorem paired_last {α β : Type} {F : α → β → Prop} {xs : List α} {ts : List β} (h : Paired F xs ts) (hx : xs ≠ []) : ∃ xs' v ts' t, xs = xs' ++ [v] ∧ ts = ts' ++ [t] ∧ Paired F xs' ts' ∧ F v t := by
  have e := (List.dropLast_concat_getLast hx).symm
  rw [e] at h
  obtain ⟨d1, d2, e2, a, b⟩ := paired_unapp h
  cases b with
  | cons b1 b2 =>
    cases b2
    exact ⟨_, _, d1, _, e, e2, a, b1⟩
theorem paired_imp {α β : Type} {R S : α → β → Prop} (f : ∀ a b, R a b → S a b) : ∀ {xs : List α} {ys : List β}, Paired R xs ys → Paired S xs ys
  | _, _, .nil => .nil
  | _, _, .cons h t => .cons (f _ _ h) (paired_imp f t)
theorem paired_cat {α β : Type} {F : α → β → Prop} : ∀ {xs : List α} {ys : List β} {xs2 : List α} {ys2 : List β}, Paired F xs ys → Paired F xs2 ys2 → Paired F (xs ++ xs2) (ys ++ ys2)
  | _, _, _, _, .nil, h => h
  | _, _, _, _, .cons a t, h => .cons a (paired_cat t h)
theorem its_of {K : PySem.W.Frag} {C : TI → Addr} {H : Hp} : ∀ {vs : List V} {ts : List Tm}, TmsA K C H vs ts → Tm.oks ts → Paired (ItA K C H) vs (ts.map some)
  | _, _, .nil, _ => .nil
  | _, _, .cons a t, o => by
    simp only [Tm.oks] at o
    exact .cons ⟨a, o.1⟩ (its_of t o.2)
/-- str(x), x a term that is not built, or a text -/
def rStrU (C : TI → Addr) (sp : TI → Sp) : List V → Hp → VK → Prop := fun xs H Q => rStrM C sp xs H Q ∨ ∃ a, xs = [.str a] ∧ Q (.str a) H
theorem call_strMU {X : Cx} {k : Nat} {C fS : TI → Addr} {dS : TI → FuncData} {sp : TI → Sp} (m : ∀ i, Meth X.K (C i) "__str__" (fS i)) (F : ∀ i, FnOk X.prog X.w X.K X.mg X.base CX0 k (fS i) (dS i) ["self"] (sp i)) (hb : ∀ i, Binds X.K (dS i) ["self"] []) (hr : Room (k + 2) X.A) : CallR X (.type "str") (rStrU C sp) := by
  intro pins s σ H xs us Q I r h
  rcases h with h | h
  · exact call_strM m F hb hr pins s σ H xs us Q I r h
  · exact SkE.call_str_str pins s σ H xs us Q I r h
theorem fewM {n : Nat} (h : n ≤ 100000) : n < sizeLine := Nat.lt_of_le_of_lt h (by decide)
def spWords (K : PySem.W.Frag) (C : TI → Addr) : Sp := fun vs H Q _ => ∃ v t, vs = [v] ∧ TmA K C H v t ∧ t.ok ∧ t.wt ≤ 900 ∧ ∀ p H', Same H H' → H' p = some (.lst (t.wd.map V.str)) → Q (.ref p) H'
section
variable {P : Program} {w : World} {K : PySem.W.Frag} {mg : Str → Option Value} {base : Heap} {f fW : Addr} {fd dW : FuncData} {C fE fS : TI → Addr} {dS : TI → FuncData}
theorem ok_words {k : Nat} (F : Fun K "words_of" "words_of" sWords f fd) (T : TmC K mg C fE) (B : Bi mg) (ml : mg "list" = none) (mS : ∀ i, Meth K (C i) "__str__" (fS i)) (GS : ∀ i, FnOk P w K mg base CX0 2 (fS i) (dS i) ["self"] (spStrT K C fun t => t.ix = i ∧ isBui t = false))
    (bS : ∀ i, Binds K (dS i) ["self"] []) : FnOk P w K mg base CX0 (k + 5) f fd ["term"] (spWords K C) := by
  refine F.ok scWords (fun vs H Q E h => ?_) (fun cdv A outer s H vs Q E hr h => ?_)
  · obtain ⟨v, t, rfl, _⟩ := h
    rfl
  obtain ⟨v, t, rfl, ht, hok, hw, q⟩ := h
  have hr4 : Room 4 _ := hr.mono (by omega)
  refine ⟨_, pss_cons (ps_set (i := 1) scWords.nd rfl (.inl rfl) (pe_lst pa_nil)) (pss_cons (ps_set (i := 2) scWords.nd rfl (.inl rfl) (pe_lst (pa_cons (pv 0) pa_nil)))
    (pss_cons (ps_while PassesOwn.never (pt_truth (pv 2) (by intro _; rfl))
      (pss_cons (ps_set (i := 3) scWords.nd rfl (.inl rfl) (pe_bm0 PySem.F.plainAttrs_list PySem.F.slot_list_pop PySem.F.type_list_pop mt_pop (pv 2)))
      (pss_one (ps_if (pt_val (pe_callB call_isi (by rfl) B.ii b_ii (pa_cons (pv 3) (pa_cons (pe_glob (by rfl) T.mB (v := .ref (C .b)) rfl) pa_nil))))
        (pss_cons (ps_expr (pe_bm PySem.F.plainAttrs_list PySem.F.slot_list_append PySem.F.type_list_append mt_append (pv 1) (pa_cons pe_str pa_nil)))
        (pss_cons (ps_expr (pe_bm PySem.F.plainAttrs_list PySem.F.slot_list_append PySem.F.type_list_append mt_append (pv 2) (pa_cons pe_str pa_nil)))
        (pss_one (ps_expr (pe_bm PySem.F.plainAttrs_list PySem.F.slot_list_extend PySem.F.type_list_extend mt_extend (pv 2) (pa_cons (pe_callTy call_list_of (by rfl) ml b_list (pa_cons (pe_revT (pe_fld (pv 3) rfl)) pa_nil)) pa_nil))))))
        (pss_one (ps_expr (pe_bm PySem.F.plainAttrs_list PySem.F.slot_list_append PySem.F.type_list_append mt_append (pv 1) (pa_cons (pe_callTy (call_strMU mS GS bS hr4) (by rfl) B.str (by decide +kernel) (pa_cons (pv 3) pa_nil)) pa_nil))))))))
    (pss_one (ps_ret (pv 1))))), ?_⟩
  refine ⟨by decide, fun L hL => ?_⟩
  refine ⟨_, rfl, few (by simp), fun M hM => ?_⟩
  have hL0 : (upd H L (.lst [])) L = some (.lst []) := upd_same
  have nLM : L ≠ M := ne_of_none hL0 hM
  have hM0 : H M = none := by rw [upd_ne nLM.symm] at hM; exact hM
  refine ⟨fun m σ H2 => ∃ done ys todo o, σ = [some v, some (.ref L), some (.ref M), o] ∧ H2 L = some (.lst (done.map V.str)) ∧ H2 M = some (.lst ys) ∧ Same H H2 ∧ Paired (ItA K C H) ys todo ∧ done ++ itsW todo.reverse = t.wd ∧ m = itsM todo ∧ done.length + itsM todo ≤ 2 * t.wt,
    ⟨itsM [some t], [], [v], [some t], none, rfl, ?_, upd_same, ?_, .cons ⟨ht, hok⟩ .nil, ?_, rfl, (by show 0 + (2 * t.wt + 0) ≤ _; omega)⟩, ?_⟩
  · rw [upd_ne nLM]
    exact upd_same
  · exact (same_new hL _).trans (same_new hM _)
  · show [] ++ (t.wd ++ []) = _
    rw [List.append_nil] <;> rfl
  rintro m σ H2 ⟨done, ys, todo, o, rfl, h1, h2, s2, tA, eq, rfl, len⟩
  have ly := Paired.length tA
  refine ⟨_, rfl, _, .inl ⟨ys, SqL.of h2, rfl⟩, ?_⟩
  by_cases ex : ys = []
  · subst ex
    refine iteF ?_
    cases tA
    have e : done = t.wd := by rw [← eq]; show done = done ++ []; rw [List.append_nil]
    rw [e] at h1
    exact ⟨_, rfl, q L H2 s2 h1⟩
  · have e1 : (!ys.isEmpty) = true := by simp [ex]
    rw [e1]
    refine iteT ?_
    obtain ⟨ys', y, todo', u, rfl, rfl, tA', uA⟩ := paired_last tA ex
    rw [itsM_app] at len ⊢
    have wu : itsM [u] = itM u := by rw [itsM, itsM, Nat.add_zero]
    rw [wu] at len ⊢
    have l9 := itsM_len todo'
    have ly' := Paired.length tA'
    rw [List.reverse_append] at eq
    have eq1 : done ++ (itW u ++ itsW todo'.reverse) = t.wd := by
      rw [← eq]
      show _ = done ++ itsW (u :: todo'.reverse)
      unfold itsW
      rw [List.flatMap_cons]
    refine ⟨fun σ' H3 => ∃ m', m' < itsM todo' + itM u ∧ ∃ done ys todo o, σ' = [some v, some (.ref L), some (.ref M), o] ∧ H3 L = some (.lst (done.map V.str)) ∧ H3 M = some (.lst ys) ∧ Same H H3 ∧ Paired (ItA K C H) ys todo ∧ done ++ itsW todo.reverse = t.wd ∧ m' = itsM todo ∧ done.length + itsM todo ≤ 2 * t.wt, fun _ _ z => z, ?_⟩
    refine ⟨_, rfl, .inl ⟨rfl, _, SqL.of h2⟩, M, _, y, rfl, rfl, h2, last_at _ _, ?_⟩
    rw [drop_last]
    have g1 : (upd H2 M (.lst ys')) L = some (.lst (done.map V.str)) := by rw [upd_ne nLM]; exact h1
    have s3 : Same H (upd H2 M (.lst ys')) := fun c o z => by
      rw [upd_ne (ne_of_none z hM0)]
      exact s2 c o z
    have g2 : (upd H2 M (.lst ys')) M = some (.lst ys') := upd_same
    generalize upd H2 M (.lst ys') = H3 at *
    have ld : (done.map V.str).length < sizeLine := fewM (by rw [List.length_map]; omega)
    have up : ∀ {H4 : Hp} {xs : List V}, Same H H4 → Same H (upd H4 L (.lst xs)) := fun {H4 xs} z c o w => by
      rw [upd_ne (ne_of_none w hL)]
      exact z c o w
    have upM : ∀ {H4 : Hp} {xs : List V}, Same H H4 → Same H (upd H4 M (.lst xs)) := fun {H4 xs} z c o w => by
      rw [upd_ne (ne_of_none w hM0)]
      exact z c o w
    have put : ∀ x : Str, done.map V.str ++ [V.str x] = (done ++ [x]).map V.str := fun x => by rw [List.map_append] <;> rfl
    cases u with
    | none =>
      have ey : y = .str ")" := uA
      subst ey
      refine ⟨_, rfl, .str ")", .ref (C .b), _, _, false, rfl, .own _, tyD (K := K) (H := H3) (.str ")"), (T.fam.o .b).k4, _, rfl, iteF ?_⟩
      refine ⟨_, rfl, .inl ⟨rfl, _, SqL.of g1⟩, _, rfl, .inr ⟨_, rfl, L, _, _, rfl, rfl, g1, ld, ?_⟩⟩
      refine ⟨itsM todo', by show itsM todo' < itsM todo' + 1; omega, done ++ [(")" : Str)], ys', todo', _, rfl, by rw [upd_same, put], ?_, up s3, tA', ?_, rfl, ?_⟩
      · rw [upd_ne nLM.symm]
        exact g2
      · rw [← eq1, List.append_assoc]
        rfl
      · rw [List.length_append, List.length_singleton]
        have : itM none = 1 := rfl
        omega
    | some u =>
      have uA3 := TmA.up s3 u y uA.1
      obtain ⟨a, dx, fds, rfl, ha⟩ := uA3.ins
      refine ⟨_, rfl, .ref a, .ref (C .b), _, _, _, rfl, .own _, ins_ty T.fam ha, kit_fam T.fam u.ix .b, _, rfl, ?_⟩
      rw [bui_ix]
      have iu : itM (some u) = 2 * u.wt := rfl
      rw [iu] at len ⊢
      have up1 := Tm.wt_pos u
      cases hb : isBui u with
      | false =>
        refine iteF ⟨_, rfl, .inl ⟨rfl, _, SqL.of g1⟩, _, rfl, .inl ⟨u.ix, a, dx, fds, rfl, ha, .ref a, u, rfl, uA3, uA.2, ⟨rfl, hb⟩, fun H4 s4 => ⟨_, rfl, L, _, _, rfl, rfl, s4 _ _ g1, ld, ?_⟩⟩⟩
        refine ⟨itsM todo', by omega, done ++ [u.txt], ys', todo', _, rfl, by rw [upd_same, put], ?_, up (s3.trans s4), tA', ?_, rfl, ?_⟩
        · rw [upd_ne nLM.symm]
          exact s4 _ _ g2
        · rw [← eq1, List.append_assoc]
          have : itW (some u) = [u.txt] := by
            show u.wd = [Txt.join " " u.wd]
            rw [leaf_txt hb, join_one]
          rw [this]
        · rw [List.length_append, List.length_singleton]
          omega
      | true =>
        have uok := uA.2
        have uA0 := uA.1
        cases uA0 with
        | lit _ _ _ => cases hb
        | who _ _ _ => cases hb
        | shi _ _ _ => cases hb
        | @bui _ _ pq e vs ts bs ps x1 x2 x3 x4 x5 x6 x7 x8 =>
          have hcl := (T.fam.o .b).c.cl
          simp only [Tm.ok] at uok
          have wb : (Tm.bui ts).wt = 1 + Tm.wts ts := by rw [Tm.wt]
          have lt2 := Tm.len_wts ts
          have lvs := x3.len
          rw [wb] at len ⊢
          refine iteT ⟨_, rfl, .inl ⟨rfl, _, SqL.of g1⟩, L, _, _, rfl, rfl, g1, ld, ?_⟩
          have k1 : (upd H3 L (.lst (done.map V.str ++ [V.str "("]))) L = some (.lst ((done ++ [("(" : Str)]).map V.str)) := by rw [upd_same, put]
          have k2 : (upd H3 L (.lst (done.map V.str ++ [V.str "("]))) M = some (.lst ys') := by rw [upd_ne nLM.symm]; exact g2
          have s4 : Same H (upd H3 L (.lst (done.map V.str ++ [V.str "("]))) := up s3
          generalize upd H3 L (.lst (done.map V.str ++ [V.str "("])) = H4 at *
          refine ⟨_, rfl, .inl ⟨rfl, _, SqL.of k2⟩, M, _, _, rfl, rfl, k2, fewM (by omega), ?_⟩
          have k3 : (upd H4 M (.lst (ys' ++ [V.str ")"]))) L = some (.lst ((done ++ [("(" : Str)]).map V.str)) := by rw [upd_ne nLM]; exact k1
          have k4 : (upd H4 M (.lst (ys' ++ [V.str ")"]))) M = some (.lst (ys' ++ [V.str ")"])) := upd_same
          have s5 : Same H (upd H4 M (.lst (ys' ++ [V.str ")"]))) := upM s4
          generalize upd H4 M (.lst (ys' ++ [V.str ")"])) = H5 at *
          refine ⟨_, rfl, .inl ⟨rfl, _, SqL.of k4⟩, _, rfl, a, C .b, _, _, .ref pq, rfl, s5 _ _ x1, hcl, T.na .b _ (by simp [attsT]), flB_q _ _ _, pq, vs, rfl, seqT_up s5 x2, fun r hr => ?_⟩
          have sr := same_new hr (.tup vs.reverse)
          refine ⟨r, vs.reverse, rfl, .inr (.inl (.inl upd_same)), fun z hz => ?_⟩
          have sz := same_new hz (.lst vs.reverse)
          have j1 := sz _ _ (sr _ _ k3)
          have j2 := sz _ _ (sr _ _ k4)
          have j3 : (upd (upd H5 r (.tup vs.reverse)) z (.lst vs.reverse)) z = some (.lst vs.reverse) := upd_same
          have s6 := s5.trans (sr.trans sz)
          generalize upd (upd H5 r (.tup vs.reverse)) z (.lst vs.reverse) = H6 at *
          refine ⟨M, z, _, vs.reverse, rfl, rfl, j2, j3, Nat.le_of_lt (fewM (by rw [List.length_append, List.length_reverse, List.length_singleton]; omega)), ?_⟩
          have uk : Paired (ItA K C H) vs.reverse (ts.reverse.map some) := its_of x3.rev (Tm.oks_of fun t m => Tm.oks_mem uok t (List.mem_reverse.mp m))
          have mm : itsM (todo' ++ [none] ++ ts.reverse.map some) = itsM todo' + 1 + 2 * Tm.wts ts := by
            rw [itsM_app, itsM_app, itsM_some, Tm.wts_rev]
            rfl
          refine ⟨itsM (todo' ++ [none] ++ ts.reverse.map some), ?_, done ++ [("(" : Str)], ys' ++ [V.str ")"] ++ vs.reverse, todo' ++ [none] ++ ts.reverse.map some, _, rfl, ?_, upd_same, upM s6, paired_cat (paired_cat tA' (.cons rfl .nil)) uk, ?_, rfl, ?_⟩
          · rw [mm]
            omega
          · rw [upd_ne nLM]
            exact j1
          · rw [← eq1, List.reverse_append, List.reverse_append, ← List.map_reverse, List.reverse_reverse]
            unfold itsW
            rw [List.flatMap_append, List.flatMap_append]
            have := itsW_some ts
            unfold itsW at this
            rw [this]
            show _ = done ++ ((Tm.bui ts).wd ++ _)
            rw [Tm.wd]
            simp [itW]
          · rw [mm, List.length_append, List.length_singleton]
            omega
end
/-! rows nested -/
abbrev sNested : Stmt := topS 20
theorem scNested : FnScope ["rows", "as_term", "done", "size", "leaf", "first", "parts"] ["rows", "as_term"] (defScope sNested) := ⟨rfl, rfl, rfl, by decide +kernel, rfl, by decide +kernel, by decide +kernel⟩
/-- a row: the size of a tuple, or a value -/
abbrev Row := Nat ⊕ PyData
def RowA (K : PySem.W.Frag) (H : Hp) (v : V) : Row → Prop
  | .inl n => ∃ q, v = .ref q ∧ H q = some (.tup [.int (n : Int), .non])
  | .inr d => ∃ q x, v = .ref q ∧ H q = some (.tup [.non, x]) ∧ Dp K H x d
theorem RowA.up {K : PySem.W.Frag} {H H' : Hp} {v : V} {r : Row} (s : Same H H') (h : RowA K H v r) : RowA K H' v r := by
  cases r with
  | inl n =>
    obtain ⟨q, e, h⟩ := h
    exact ⟨q, e, s _ _ h⟩
  | inr d =>
    obtain ⟨q, x, e, h, hd⟩ := h
    exact ⟨q, x, e, s _ _ h, Dp.up s _ _ hd⟩
/-- one row taken, from behind -/
def nestS (S : List PyData) : Row → List PyData
  | .inr d => S ++ [d]
  | .inl n => S.take (S.length - n) ++ [.tuple (S.drop (S.length - n)).reverse]
def nestF : List PyData → List Row → List PyData
  | S, [] => S
  | S, r :: rs => nestF (nestS S r) rs
/-- no row takes more than there is -/
def nestOk : List PyData → List Row → Prop
  | _, [] => True
  | S, r :: rs => (∀ n, r = .inl n → n ≤ S.length) ∧ nestOk (nestS S r) rs
theorem nestF_app : ∀ (S : List PyData) (a b : List Row), nestF S (a ++ b) = nestF (nestF S a) b
  | _, [], _ => rfl
  | S, r :: a, b => nestF_app (nestS S r) a b
theorem nestOk_app : ∀ (S : List PyData) (a b : List Row), nestOk S a → nestOk (nestF S a) b → nestOk S (a ++ b)
  | _, [], _, _, h => h
  | S, r :: a, b, h, g => ⟨h.1, nestOk_app (nestS S r) a b h.2 g⟩
theorem nestOk_drop : ∀ (S : List PyData) (a b : List Row), nestOk S (a ++ b) → nestOk (nestF S a) b
  | _, [], _, h => h
  | S, r :: a, b, h => nestOk_drop (nestS S r) a b h.2
theorem nestS_len (S : List PyData) (r : Row) : (nestS S r).length ≤ S.length + 1 := by
  cases r with
  | inr d => simp [nestS]
  | inl n =>
    unfold nestS
    rw [List.length_append, List.length_take, List.length_singleton]
    omega
theorem nestF_len : ∀ (S : List PyData) (rs : List Row), (nestF S rs).length ≤ S.length + rs.length
  | _, [] => Nat.le_refl _
  | S, r :: rs => by
    have a := nestF_len (nestS S r) rs
    have b := nestS_len S r
    simp only [nestF, List.length_cons]
    omega
theorem pe_void {X : Cx} {e : Expr} : PE X e (fun _ _ _ => False) := ⟨fun _ _ _ _ _ _ h => h.elim⟩
theorem paired_rev {α β : Type} {F : α → β → Prop} {xs : List α} {ys : List β} (h : Paired F xs ys) : Paired F xs.reverse ys.reverse := by
  induction h with
  | nil => exact .nil
  | cons a _ ih =>
    rw [List.reverse_cons, List.reverse_cons]
    exact paired_cat ih (.cons a .nil)
theorem same_cut1 {H H' : Hp} {D : Addr} (s : Same H H') (h : H D = none) : Same H (cut [D] H') := fun b o z => by
  rw [cut_out (by simp only [List.mem_singleton]; exact fun e => by rw [e, h] at z; cases z)]
  exact s b o z
theorem dpAll_take {K : PySem.W.Frag} {H : Hp} {xs : List V} {ds : List PyData} (h : DpAll K H xs ds) (i : Nat) : DpAll K H (xs.take i) (ds.take i) ∧ DpAll K H (xs.drop i) (ds.drop i) := DpAll.parts h i
theorem dpAll_rev {K : PySem.W.Frag} {H : Hp} : ∀ {xs : List V} {ds : List PyData}, DpAll K H xs ds → DpAll K H xs.reverse ds.reverse
  | _, _, .nil => .nil
  | _, _, .cons a t => by
    rw [List.reverse_cons, List.reverse_cons]
    exact DpAll.app (dpAll_rev t) (.cons a .nil)
def spNested (K : PySem.W.Frag) : Sp := fun vs H Q _ => ∃ q us rs d, vs = [.ref q, .bl false] ∧ SqL K H q us ∧ Paired (RowA K H) us rs ∧ rs.length ≤ 5000 ∧ nestOk [] rs.reverse ∧ nestF [] rs.reverse = [d] ∧ ∀ v H', Same H H' → Dp K H' v d → Q v H'
section
variable {P : Program} {w : World} {K : PySem.W.Frag} {mg : Str → Option Value} {base : Heap} {f : Addr} {fd : FuncData}
theorem ok_nested {k : Nat} (F : Fun K "nested" "nested" sNested f fd) (B : Bi mg) : FnOk P w K mg base CX0 (k + 1) f fd ["rows", "as_term"] (spNested K) := by
  refine F.ok scNested (fun vs H Q E h => ?_) (fun cdv A outer s H vs Q E hr h => ?_)
  · obtain ⟨q, us, rs, d, rfl, _⟩ := h
    rfl
  obtain ⟨q, us, rs, d, rfl, hq, hA, hn, hok, hf, fin⟩ := h
  refine ⟨_, pss_cons (ps_set (i := 2) scNested.nd rfl (.inl rfl) (pe_lst pa_nil))
    (pss_cons (ps_for PassesOwn.never rfl (pi_list (pe_revL (pv 0))) (pg_tup (by rfl) (pgs_cons (pg_name (i := 3) scNested.nd rfl (.inl rfl)) (pgs_cons (pg_name (i := 4) scNested.nd rfl (.inl rfl)) pgs_nil)))
      (pss_one (ps_if (pt_cmp (pc_isN (pv 3)))
        (pss_one (ps_expr (pe_bm PySem.F.plainAttrs_list PySem.F.slot_list_append PySem.F.type_list_append mt_append (pv 2) (pa_cons (pv 4) pa_nil))))
        (pss_cons (ps_set (i := 5) scNested.nd rfl (.inl rfl) (pe_op op_sub (pe_callB call_len_seq (by rfl) B.len PySem.boot_len (pa_cons (pv 2) pa_nil)) (pv 3)))
        (pss_cons (ps_set (i := 6) scNested.nd rfl (.inl rfl) (pe_callTy call_tuple_of (by rfl) B.tup (by decide +kernel) (pa_cons (pe_revL (pe_slice sl_list (pv 2) (po_some (pv 5)) po_none)) pa_nil)))
        (pss_cons (ps_delFrom (pv 2) (pv 5))
        (pss_one (ps_expr (pe_bm PySem.F.plainAttrs_list PySem.F.slot_list_append PySem.F.type_list_append mt_append (pv 2) (pa_cons (pe_ifExp (pt_val (pv 1)) pe_void (pv 6)) pa_nil))))))))))
    (pss_one (ps_ret (pe_ix ix_list (pv 2) pe_int (fun _ _ => rfl))))), ?_⟩
  refine ⟨by decide, fun D hD => ?_⟩
  have sD := same_new hD (.lst [])
  refine ⟨_, rfl, q, us, rfl, seqL_upS sD hq, fun R hR => ?_⟩
  have hDD : (upd H D (.lst [])) D = some (.lst []) := upd_same
  have nDR : D ≠ R := ne_of_none hDD hR
  have sR := same_new hR (.lst us.reverse)
  have hRR : (upd (upd H D (.lst [])) R (.lst us.reverse)) R = some (.lst us.reverse) := upd_same
  have s0 := sD.trans sR
  have hD1 : (upd (upd H D (.lst [])) R (.lst us.reverse)) D = some (.lst []) := by rw [upd_ne nDR]; exact hDD
  have lA := Paired.length hA
  have rA : Paired (RowA K H) us.reverse rs.reverse := paired_rev hA
  generalize upd (upd H D (.lst [])) R (.lst us.reverse) = H1 at *
  refine ⟨R, rfl, ⟨_, SqL.of hRR⟩, for_list (K := K) (a := R) (xs := us.reverse) (fun i σ H2 => ∃ o3 o4 o5 o6 xs, σ = [some (.ref q), some (.bl false), some (.ref D), o3, o4, o5, o6] ∧ H2 R = some (.lst us.reverse) ∧ Same H H2 ∧ H2 D = some (.lst xs) ∧ DpAll K (cut [D] H2) xs (nestF [] (rs.reverse.take i)))
    ⟨none, none, none, none, [], rfl, hRR, s0, hD1, .nil⟩ (fun i σ H2 _ ⟨_, _, _, _, _, _, h, _⟩ => SqL.of h) ?_ ?_⟩
  · rintro i y σ H2 hy ⟨o3, o4, o5, o6, xs, rfl, hR2, s2, hD2, dA⟩
    obtain ⟨r, hr, rA2⟩ := paired_at rA hy
    have ti : rs.reverse.take (i + 1) = rs.reverse.take i ++ [r] := get_take hr
    have e1 : nestF [] (rs.reverse.take (i + 1)) = nestS (nestF [] (rs.reverse.take i)) r := by rw [ti, nestF_app] <;> rfl
    have okr : ∀ n, r = .inl n → n ≤ (nestF [] (rs.reverse.take i)).length := by
      have z := nestOk_drop [] (rs.reverse.take i) (rs.reverse.drop i) (by rw [List.take_append_drop]; exact hok)
      have dr : rs.reverse.drop i = r :: rs.reverse.drop (i + 1) := by
        obtain ⟨hi2, e⟩ := List.getElem?_eq_some_iff.mp hr
        rw [List.drop_eq_getElem_cons hi2, e]
      rw [dr] at z
      exact z.1
    have lS := nestF_len [] (rs.reverse.take i)
    have lx := DpAll.len dA
    have lt : (rs.reverse.take i).length ≤ rs.length := by rw [List.length_take, List.length_reverse]; omega
    simp only [List.length_nil, Nat.zero_add] at lS
    rw [e1]
    generalize nestF [] (rs.reverse.take i) = S at *
    have lD : xs.length ≤ 5000 := by omega
    have put : ∀ {H3 : Hp} {zs : List V}, Same H H3 → Same H (upd H3 D (.lst zs)) := fun {H3 zs} z c o w => by
      rw [upd_ne (ne_of_none w hD)]
      exact z c o w
    cases r with
    | inr d1 =>
      obtain ⟨p, x, rfl, hp, hd⟩ := rA2
      refine ⟨p, _, rfl, .inl (.inl (s2 _ _ hp)), rfl, _, _, rfl, _, _, rfl, rfl, ?_⟩
      refine ⟨_, rfl, true, (by rw [decide_eq_true rfl]), iteT ⟨_, rfl, .inl ⟨rfl, _, SqL.of hD2⟩, _, rfl, D, xs, x, rfl, rfl, hD2, fewM (by omega), ?_⟩⟩
      refine ⟨_, _, _, _, _, rfl, by rw [upd_ne nDR.symm]; exact hR2, put s2, upd_same, ?_⟩
      have o : Off [D] H2 (upd H2 D (.lst (xs ++ [x]))) := Off.put (by simp)
      exact DpAll.app (Dp.ups o _ _ dA) (.cons (Dp.up ((same_cut1 s2 hD).trans o) _ _ hd) .nil)
    | inl n =>
      obtain ⟨p, rfl, hp⟩ := rA2
      have hn2 := okr n rfl
      refine ⟨p, _, rfl, .inl (.inl (s2 _ _ hp)), rfl, _, _, rfl, _, _, rfl, rfl, ?_⟩
      refine ⟨_, rfl, false, (by rw [decide_eq_false (fun z => nomatch z)]), iteF ⟨_, rfl, D, xs, rfl, .inl (SqL.of hD2), _, rfl, (xs.length : Int), (n : Int), rfl, rfl, ?_⟩⟩
      have ek : ((xs.length : Int) - (n : Int)) = ((xs.length - n : Nat) : Int) := by omega
      have ct : cutV xs (some ((xs.length : Int) - (n : Int))) none = xs.drop (xs.length - n) := by
        rw [cutV_drop xs (by omega) (by omega)]
        congr 1
        omega
      refine ⟨_, rfl, _, rfl, _, rfl, D, xs, rfl, SqL.of hD2, fun c hc => ?_⟩
      rw [ct] at *
      have sc := same_new hc (.lst (xs.drop (xs.length - n)))
      refine ⟨c, _, rfl, SqL.of upd_same, fun r hr => ?_⟩
      have sr := same_new hr (.lst (xs.drop (xs.length - n)).reverse)
      refine ⟨r, _, rfl, .inl ⟨SqL.of upd_same, fun t ht => ?_⟩⟩
      have st := same_new ht (.tup (xs.drop (xs.length - n)).reverse)
      have s5 := s2.trans (sc.trans (sr.trans st))
      have s25 := sc.trans (sr.trans st)
      have hD5 := s25 _ _ hD2
      have hR5 := s25 _ _ hR2
      have tD : t ≠ D := (ne_of_none ((sc.trans sr) _ _ hD2) ht).symm
      have hT5 : (upd (upd (upd H2 c (.lst (xs.drop (xs.length - n)))) r (.lst (xs.drop (xs.length - n)).reverse)) t (.tup (xs.drop (xs.length - n)).reverse)) t = some (.tup (xs.drop (xs.length - n)).reverse) := upd_same
      have dA5 := Dp.ups (Off.of (l := [D]) s25) _ _ dA
      generalize upd (upd (upd H2 c (.lst (xs.drop (xs.length - n)))) r (.lst (xs.drop (xs.length - n)).reverse)) t (.tup (xs.drop (xs.length - n)).reverse) = H5 at *
      refine ⟨_, rfl, _, rfl, _, rfl, D, xs, xs.length - n, rfl, by rw [ek], hD5, by omega, ?_⟩
      refine ⟨_, rfl, .inl ⟨rfl, _, SqL.of upd_same⟩, _, rfl, false, rfl, iteF ⟨_, rfl, D, _, _, rfl, rfl, upd_same, fewM (by rw [List.length_take]; omega), ?_⟩⟩
      refine ⟨_, _, _, _, xs.take (xs.length - n) ++ [.ref t], rfl, by rw [upd_ne nDR.symm, upd_ne nDR.symm]; exact hR5, put (put s5), by rw [upd_same], ?_⟩
      have o : Off [D] H5 (upd (upd H5 D (.lst (xs.take (xs.length - n)))) D (.lst (xs.take (xs.length - n) ++ [.ref t]))) := (Off.put (by simp)).trans (Off.put (by simp))
      have dp := dpAll_take dA5 (xs.length - n)
      have hS : xs.length = S.length := lx
      refine DpAll.app ?_ (.cons (.tup (xs := (xs.drop (xs.length - n)).reverse) (.inl (.inl ?_)) ?_) .nil)
      · rw [← hS]
        exact Dp.ups o _ _ dp.1
      · rw [cut_out (by simp [tD]), upd_ne tD, upd_ne tD]
        exact hT5
      · rw [← hS]
        exact Dp.ups o _ _ (dpAll_rev dp.2)
  · rintro σ H2 ⟨o3, o4, o5, o6, xs, rfl, hR2, s2, hD2, dA⟩
    have e : rs.reverse.take us.reverse.length = rs.reverse := by rw [List.length_reverse, lA, ← List.length_reverse (as := rs), List.take_length]
    rw [e, hf] at dA
    cases dA with
    | cons dv dn =>
      cases dn
      exact ⟨_, rfl, D, _, 0, _, rfl, rfl, SqL.of hD2, rfl, fin _ H2 s2 (Dp.up (cut_same _ _) _ _ dv)⟩
end
abbrev sInteger : Stmt := topS 4
theorem scInteger : FnScope ["thing"] ["thing"] (defScope sInteger) := ⟨rfl, rfl, rfl, by decide +kernel, rfl, by decide +kernel, by decide +kernel⟩
section
variable {P : Program} {w : World} {K : PySem.W.Frag} {mg : Str → Option Value} {base : Heap} {f : Addr} {fd : FuncData}
theorem ok_integer {k : Nat} (F : Fun K "is_integer" "is_integer" sInteger f fd) (B : Bi mg) : FnOk P w K mg base CX0 (k + 1) f fd ["thing"] (spLook K (fun _ => True) fun d => .bl (inD d)) := by
  refine F.ok scInteger (fun vs H Q E h => ?_) (fun cdv A outer s H vs Q E hr h => ?_)
  · obtain ⟨v, d, rfl, _⟩ := h
    rfl
  obtain ⟨v, d, rfl, hd, _, q⟩ := h
  refine ⟨_, pss_one (ps_ret (pe_and (pe_callB call_isD (by rfl) B.ii (by decide +kernel) (pa_cons (pv 0) (pa_cons (pe_bltn (by rfl) B.int (by decide +kernel) (v := .ty "int") rfl) pa_nil)))
    (pe_one (pe_not (pe_callB call_isD (by rfl) B.ii (by decide +kernel) (pa_cons (pv 0) (pa_cons (pe_bltn (by rfl) B.bool (by decide +kernel) (v := .ty "bool") rfl) pa_nil))))))), ?_⟩
  refine ⟨_, rfl, v, d, "int", _, rfl, hd, kit_int d, _, rfl, ?_⟩
  have q : Q (.bl (inD d)) H := q H (Same.refl H)
  cases hs : isIntB d with
  | false =>
    refine iteF ?_
    have e : inD d = false := by cases d <;> first | rfl | cases hs
    rw [e] at q
    exact q
  | true =>
    refine iteT ?_
    refine ⟨_, rfl, v, d, "bool", _, rfl, hd, kit_bool d, _, rfl, ?_⟩
    have e : inD d = !isBool d := by cases d <;> first | rfl | cases hs
    rw [e] at q
    exact q
end
/-! inputs: a dict from names to data or faults -/
def VaAt (K : PySem.W.Frag) (C : Addr) (H : Hp) (v : V) : Option PyData → Prop
  | some d => Dp K H v d
  | none => ∃ a p, v = .ref a ∧ FaultAt C H a "read" (.str "c") (.ref p) ∧ SqT K H p [.int 1]
abbrev Ins := List (Str × Option PyData)
def InsV (K : PySem.W.Frag) (C : Addr) (H : Hp) (kvs : List (Key × V)) (gs : Ins) : Prop := Paired (fun (p : Key × V) (g : Str × Option PyData) => p.1 = Sum.inr g.1 ∧ VaAt K C H p.2 g.2) kvs gs
structure InAt (K : PySem.W.Frag) (C : Addr) (H : Hp) (a : Addr) (kvs : List (Key × V)) (gs : Ins) : Prop where
  at_ : H a = some (.dK kvs)
  vs : InsV K C H kvs gs
  nd : (gs.map (·.1)).Nodup
theorem VaAt.up {K : PySem.W.Frag} {C : Addr} {H H' : Hp} {v : V} {x : Option PyData} (s : Same H H') (h : VaAt K C H v x) : VaAt K C H' v x := by
  cases x with
  | some d => exact Dp.up s d v h
  | none =>
    obtain ⟨a, p, e, h, h2⟩ := h
    exact ⟨a, p, e, FaultAt.up s h, seqT_up s h2⟩
theorem Paired.imp {α β : Type} {R S : α → β → Prop} (f : ∀ a b, R a b → S a b) : ∀ {xs : List α} {ys : List β}, Paired R xs ys → Paired S xs ys
  | _, _, .nil => .nil
  | _, _, .cons h t => .cons (f _ _ h) (Paired.imp f t)
theorem InsV.up {K : PySem.W.Frag} {C : Addr} {H H' : Hp} {kvs : List (Key × V)} {gs : Ins} (s : Same H H') (h : InsV K C H kvs gs) : InsV K C H' kvs gs := Paired.imp (fun _ _ q => ⟨q.1, q.2.up s⟩) h
theorem InAt.up {K : PySem.W.Frag} {C : Addr} {H H' : Hp} {a : Addr} {kvs : List (Key × V)} {gs : Ins} (s : Same H H') (h : InAt K C H a kvs gs) : InAt K C H' a kvs gs := ⟨s _ _ h.at_, h.vs.up s, h.nd⟩
def getI (gs : Ins) (n : Str) : Option (Option PyData) := (gs.find? fun g => decide (g.1 = n)).map (·.2)
def putI (gs : Ins) (n : Str) (x : Option PyData) : Ins := if gs.any (fun g => decide (g.1 = n)) = true then gs.map (fun g => if g.1 = n then (g.1, x) else g) else gs ++ [(n, x)]
theorem InsV.get {K : PySem.W.Frag} {C : Addr} {H : Hp} {kvs : List (Key × V)} {gs : Ins} (h : InsV K C H kvs gs) (n : Str) : (valV kvs (.inr n) = none ∧ getI gs n = none) ∨ ∃ v x, valV kvs (.inr n) = some v ∧ getI gs n = some x ∧ VaAt K C H v x := by
  induction h with
  | nil => exact .inl ⟨rfl, rfl⟩
  | @cons p g ps gs h _ ih =>
    obtain ⟨e, hv⟩ := h
    obtain ⟨k, v⟩ := p
    have e : k = Sum.inr g.1 := e
    subst e
    by_cases hn : g.1 = n
    · refine .inr ⟨v, g.2, ?_, ?_, hv⟩
      · unfold valV
        rw [List.find?_cons_of_pos (by rw [hn]; simp)]
        rfl
      · unfold getI
        rw [List.find?_cons_of_pos (by simpa using hn)]
        rfl
    · have n1 : ¬ (Sum.inr g.1 : Key) = Sum.inr n := fun z => hn (Sum.inr.inj z)
      have e1 : valV ((Sum.inr g.1, v) :: ps) (Sum.inr n) = valV ps (.inr n) := by
        unfold valV
        rw [List.find?_cons_of_neg (by simpa using n1)]
      have e2 : getI (g :: gs) n = getI gs n := by
        unfold getI
        rw [List.find?_cons_of_neg (by simpa using hn)]
      rw [e1, e2]
      exact ih
/-- the layers along a place -/
def layM : PyData → List Nat → Option (List PyData)
  | d, [] => some [d]
  | .tuple ds, k :: ks => match ds[k]? with
    | some e => (layM e ks).map (PyData.tuple ds :: ·)
    | none => none
  | _, _ :: _ => none
theorem layM_no {d : PyData} {k : Nat} {ks : List Nat} (h : isTup d = false) : layM d (k :: ks) = none := by
  cases d with
  | tuple ds => cases h
  | none => rfl
  | bool b => rfl
  | int i => rfl
  | str x => rfl
  | list l => rfl
  | dict l => rfl
theorem layM_tup {ds : List PyData} {k : Nat} {ks : List Nat} {e : PyData} (h : ds[k]? = some e) : layM (.tuple ds) (k :: ks) = (layM e ks).map (PyData.tuple ds :: ·) := by
  show (match ds[k]? with
    | some e => (layM e ks).map (PyData.tuple ds :: ·)
    | none => none) = _
  rw [h]
/-- what is at a place -/
def atM : PyData → List Nat → Option PyData
  | d, [] => some d
  | .tuple ds, k :: ks => match ds[k]? with
    | some e => atM e ks
    | none => none
  | _, _ :: _ => none
theorem atM_lay : ∀ (ks : List Nat) (d : PyData), atM d ks = (layM d ks).bind List.getLast?
  | [], d => by cases d <;> rfl
  | k :: ks, d => by
    cases d with
    | tuple ds =>
      unfold atM layM
      cases h : ds[k]? with
      | none => rfl
      | some e =>
        simp only
        rw [atM_lay ks e]
        cases h2 : layM e ks with
        | none => rfl
        | some ls =>
          have ne : ls ≠ [] := by
            cases ks with
            | nil =>
              have : layM e [] = some [e] := by cases e <;> rfl
              rw [this] at h2
              cases h2
              exact fun z => nomatch z
            | cons k2 ks2 =>
              cases e with
              | tuple es =>
                unfold layM at h2
                cases h3 : es[k2]? with
                | none => rw [h3] at h2; cases h2
                | some e3 =>
                  rw [h3] at h2
                  simp only at h2
                  cases h4 : layM e3 ks2 with
                  | none => rw [h4] at h2; cases h2
                  | some l4 =>
                    rw [h4] at h2
                    cases h2
                    exact fun z => nomatch z
              | none => cases h2
              | bool b => cases h2
              | int i => cases h2
              | str x => cases h2
              | list l => cases h2
              | dict l => cases h2
          show _ = List.getLast? (PyData.tuple ds :: ls)
          rw [List.getLast?_cons_of_ne_nil ne] <;> rfl
    | none => rfl
    | bool b => rfl
    | int i => rfl
    | str x => rfl
    | list l => rfl
    | dict l => rfl
theorem layM_ne : ∀ {ks : List Nat} {d : PyData} {ls : List PyData}, layM d ks = some ls → ls ≠ []
  | [], d, ls, h => by
    have e : layM d [] = some [d] := by cases d <;> rfl
    rw [e] at h
    cases h
    exact fun z => nomatch z
  | k :: ks, d, ls, h => by
    cases ht : isTup d with
    | false =>
      rw [layM_no ht] at h
      cases h
    | true =>
      obtain ⟨ds, rfl⟩ : ∃ ds, d = .tuple ds := by
        cases d with
        | tuple ds => exact ⟨ds, rfl⟩
        | _ => cases ht
      cases h3 : ds[k]? with
      | none =>
        have e : layM (.tuple ds) (k :: ks) = none := by
          show (match ds[k]? with
            | some e => (layM e ks).map (PyData.tuple ds :: ·)
            | none => none) = _
          rw [h3]
        rw [e] at h
        cases h
      | some e3 =>
        rw [layM_tup h3] at h
        cases h4 : layM e3 ks with
        | none => rw [h4] at h; cases h
        | some l4 =>
          rw [h4] at h
          cases h
          exact fun z => nomatch z
def layI (gs : Ins) (n : Str) (ks : List Nat) : Option (List PyData) := match getI gs n with
  | some (some d) => layM d ks
  | _ => none
def atI2 (gs : Ins) (n : Str) (ks : List Nat) : Option PyData := match getI gs n with
  | some (some d) => atM d ks
  | _ => none
theorem atI2_lay (gs : Ins) (n : Str) (ks : List Nat) : atI2 gs n ks = (layI gs n ks).bind List.getLast? := by
  unfold atI2 layI
  cases getI gs n with
  | none => rfl
  | some x =>
    cases x with
    | none => rfl
    | some d => exact atM_lay ks d
/-- a place: a name, then indexes -/
def plV (n : Str) (ks : List Nat) : List V := V.str n :: ks.map fun k => V.int (k : Nat)
theorem cut_nil (H : Hp) : cut [] H = H := by
  funext b
  exact if_neg (by simp)
theorem tr_nil (H : Hp) : Tr [] H := fun b hb => (List.not_mem_nil hb).elim
abbrev sLayers : Stmt := topS 6
abbrev sValAt : Stmt := topS 7
theorem scLayers : FnScope ["inputs", "place", "layers", "index", "whole"] ["inputs", "place"] (defScope sLayers) := ⟨rfl, rfl, rfl, by decide +kernel, rfl, by decide +kernel, by decide +kernel⟩
theorem scValAt : FnScope ["inputs", "place"] ["inputs", "place"] (defScope sValAt) := ⟨rfl, rfl, rfl, by decide +kernel, rfl, by decide +kernel, by decide +kernel⟩
/-- how a call that may find no place leaves -/
def noPl (CE : Addr) (H : Hp) (b : Addr) (E : XK) : Prop := ∀ d H', Same H H' → H d = none → H' d = some (.xd [("place", .ref b)]) → E (.ref CE) (some d) H'
def spLayers (K : PySem.W.Frag) (C CE : Addr) : Sp := fun vs H Q E => ∃ a b kvs gs n ks, vs = [.ref a, .ref b] ∧ InAt K C H a kvs gs ∧ SqT K H b (plV n ks) ∧ ks.length ≤ 100 ∧
  (layI gs n ks = none → noPl CE H b E) ∧ (∀ ls, layI gs n ks = some ls → ∀ q vs H', Same H H' → H q = none → H' q = some (.lst vs) → DpAll K H' vs ls → Q (.ref q) H')
def spValAt (K : PySem.W.Frag) (C CE : Addr) : Sp := fun vs H Q E => ∃ a b kvs gs n ks, vs = [.ref a, .ref b] ∧ InAt K C H a kvs gs ∧ SqT K H b (plV n ks) ∧ ks.length ≤ 100 ∧
  (atI2 gs n ks = none → noPl CE H b E) ∧ (∀ d, atI2 gs n ks = some d → ∀ v H', Same H H' → Dp K H' v d → Q v H')
theorem cutV_tail (x : V) (xs : List V) : cutV (x :: xs) (some 1) none = xs := by
  rw [cutV_drop (x :: xs) (by decide) (by simp only [List.length_cons]; omega)]
  rfl
theorem seqT_putL {K : PySem.W.Frag} {H : Hp} {L c : Addr} {xs ys zs : List V} (hL : H L = some (.lst ys)) (h : SqT K H c xs) : SqT K (upd H L (.lst zs)) c xs := by
  rcases h with (h | ⟨o, h⟩) | h
  · exact .inl (.inl (by rw [upd_ne (ne_of h hL (by intro z; cases z))]; exact h))
  · exact .inl (.inr ⟨o, by rw [upd_ne (ne_of h hL (by intro z; cases z))]; exact h⟩)
  · exact .inr h
theorem upd_twice {H : Hp} {a : Addr} {o u : HO} : upd (upd H a o) a u = upd H a u := by
  funext b
  by_cases e : b = a
  · rw [e, upd_same, upd_same]
  · rw [upd_ne e, upd_ne e, upd_ne e]
theorem upd_back2 {H : Hp} {a : Addr} {u : HO} (h : H a = some u) : upd H a u = H := by
  funext b
  by_cases e : b = a
  · rw [e, upd_same, h]
  · rw [upd_ne e]
section
variable {P : Program} {w : World} {K : PySem.W.Frag} {mg : Str → Option Value} {base : Heap} {f C fE CE fI fL : Addr} {fd dI dL : FuncData}
theorem ok_layers {k : Nat} (F : Fun K "layers_at" "layers_at" sLayers f fd) (B : Bi mg) (T : FaC K mg C fE) (c4 : EC P w K mg base "NoPlace" ["place"] ["place"] CE fI dI) : FnOk P w K mg base (L2.CX P w) (k + 3) f fd ["inputs", "place"] (spLayers K C CE) := by
  refine F.okX scLayers (fun vs H Q E h => ?_) (fun cdv A outer s H vs Q E hr h => ?_)
  · obtain ⟨a, b, kvs, gs, n, ks, rfl, _⟩ := h
    rfl
  obtain ⟨a, b, kvs, gs, n, ks, rfl, hI, hb, hk, qN, qS⟩ := h
  have hr2 : Room 2 _ := hr.mono (by omega)
  have hu := hu_of hr
  refine ⟨_, pss_cons (ps_if (PW.pt (pw_or (pt_cmp (pc_dnotin hu (pe_ix ix_tup (pv 1) pe_int (fun _ _ => rfl)) (pv 0)))
        (pw_or1 (pt_val (pe_callB call_isi (by rfl) B.ii b_ii (pa_cons (pe_dget hu (pv 0) (pe_ix ix_tup (pv 1) pe_int (fun _ _ => rfl)) (fun _ _ => rfl)) (pa_cons (pe_glob (by rfl) T.mg (v := .ref C) rfl) pa_nil)))))))
      (pss_one (ps_raise rfl (takes_of rfl rfl rfl rfl) (pmk_exK c4.T c4.iC c4.tI c4.ok hr2 c4.bd pass0 (by rfl) c4.mg (pa_cons (pv 1) pa_nil)))) pss_nil)
    (pss_cons (ps_set (i := 2) scLayers.nd rfl (.inl rfl) (pe_lst (pa_cons (pe_dget hu (pv 0) (pe_ix ix_tup (pv 1) pe_int (fun _ _ => rfl)) (fun _ _ => rfl)) pa_nil)))
    (pss_cons (ps_for (passes_of rfl) rfl (pi_tup (pe_slice sl_tupU (pv 1) (po_some pe_int) po_none)) (pg_name (i := 3) scLayers.nd rfl (.inl rfl))
      (pss_cons (ps_set (i := 4) scLayers.nd rfl (.inl rfl) (pe_ix ix_list (pv 2) (pe_un un_neg pe_int) (fun _ _ => rfl)))
      (pss_cons (ps_if (PW.pt (pw_or (pt_not (pt_val (pe_callB call_isD (by rfl) B.ii b_ii (pa_cons (pv 4) (pa_cons (pe_bltn (by rfl) B.tup (by decide +kernel) (v := .ty "tuple") rfl) pa_nil)))))
          (pw_or1 (pt_cmpR op_ge (pv 3) (pe_callB call_len_seq (by rfl) B.len PySem.boot_len (pa_cons (pv 4) pa_nil)) (nomark _)))))
        (pss_one (ps_raise rfl (takes_of rfl rfl rfl rfl) (pmk_exK c4.T c4.iC c4.tI c4.ok hr2 c4.bd pass0 (by rfl) c4.mg (pa_cons (pv 1) pa_nil)))) pss_nil)
      (pss_one (ps_expr (pe_bm PySem.F.plainAttrs_list PySem.F.slot_list_append PySem.F.type_list_append mt_append (pv 2) (pa_cons (pe_ix ix_tup (pv 4) (pv 3) (fun _ _ => rfl)) pa_nil)))))))
    (pss_one (ps_ret (pv 2))))), ?_⟩
  -- an error leaves
  have out : layI gs n ks = none → ∀ (H3 : Hp) (a1 : Addr), Same H H3 → H3 a1 = none → ∀ (x1 : Addr) (H4 : Hp), H3 x1 = none → (∀ b v, b ≠ a1 → upd H3 a1 (exo a1 CE none) b = some v → H4 b = some v) →
      E (.ref CE) (some x1) (upd (L2.del H4 a1) x1 (.xd [("place", .ref b)])) := fun en H3 a1 s3 ha x1 H4 hx1 k4 =>
    qN en x1 _ (s3.trans (flown ha hx1 k4)) (s3.free hx1) upd_same
  have sl0 : atI (plV n ks) 0 = some (V.str n) := atI_nat (j := 0) rfl
  refine ⟨_, rfl, b, _, 0, _, rfl, rfl, hb, sl0, _, rfl, a, _, rfl, DGet.k (k := Sum.inr n) hI.at_, _, rfl, ?_⟩
  rcases hI.vs.get n with ⟨e1, e2⟩ | ⟨v0, x0, e1, e2, hv0⟩
  · rw [e1]
    refine iteT (iteT ?_)
    have en : layI gs n ks = none := by
      unfold layI
      rw [e2]
    refine ⟨_, rfl, by (show 1 ≤ 1000); decide, fun a1 h1 => ⟨a1, [.ref b], rfl, rfl, upd_same, fun x1 H5 n1 e1' E1 k1 => ⟨rfl, x1, [("place", .ref b)], E1.1, E1.2, by (rw [upd_ne e1'] at n1; exact n1), ?_⟩⟩⟩
    exact out en H a1 (Same.refl H) h1 x1 H5 (by rw [upd_ne e1'] at n1; exact n1) k1
  · rw [e1]
    refine iteF ?_
    -- an error, raised at a heap that has grown
    cases x0 with
    | none =>
      obtain ⟨af, fp, rfl, ⟨dx, hf⟩, hfp⟩ := hv0
      have en : layI gs n ks = none := by
        unfold layI
        rw [e2]
      refine ⟨_, rfl, _, rfl, b, _, 0, _, rfl, rfl, hb, sl0, a, .ref af, rfl, (by rw [← e1]; exact DGet.k (k := Sum.inr n) hI.at_), .ref af, .ref C, _, _, true, rfl, .own C, .base (.ins hf T.o.c.cl T.o.c.ha T.o.c.hn T.o.c.htk T.o.c.hm), T.o.c.me, _, rfl, iteT ?_⟩
      refine ⟨_, rfl, by (show 1 ≤ 1000); decide, fun a1 h1 => ⟨a1, [.ref b], rfl, rfl, upd_same, fun x1 H5 n1 e1' E1 k1 => ⟨rfl, x1, [("place", .ref b)], E1.1, E1.2, by (rw [upd_ne e1'] at n1; exact n1), ?_⟩⟩⟩
      exact out en H a1 (Same.refl H) h1 x1 H5 (by rw [upd_ne e1'] at n1; exact n1) k1
    | some d0 =>
      have eL : layI gs n ks = layM d0 ks := by
        unfold layI
        rw [e2]
      refine ⟨_, rfl, _, rfl, b, _, 0, _, rfl, rfl, hb, sl0, a, v0, rfl, (by rw [← e1]; exact DGet.k (k := Sum.inr n) hI.at_), v0, .ref C, _, _, false, rfl, .own C, tyD hv0, (T.o.of hv0).1, _, rfl, iteF ?_⟩
      refine ⟨_, rfl, _, rfl, b, _, 0, _, rfl, rfl, hb, sl0, a, v0, rfl, (by rw [← e1]; exact DGet.k (k := Sum.inr n) hI.at_), few (by simp), fun L hL => ?_⟩
      have s1 : Same H (upd H L (.lst [v0])) := same_new hL _
      refine ⟨_, rfl, 1, rfl, b, plV n ks, [], rfl, by (rw [cut_nil]; exact seqT_up s1 hb), tr_nil _, fun c H2 s2 hc => ?_⟩
      rw [cut_nil, show plV n ks = V.str n :: ks.map (fun k : Nat => V.int k) from rfl, cutV_tail] at hc
      have hL2 : H2 L = some (.lst [v0]) := s2 _ _ upd_same
      have s12 := s1.trans s2
      have sP : ∀ vs : List V, Same H (upd H2 L (.lst vs)) := fun vs b' o z => by
        rw [upd_ne (ne_of_none z hL)]
        exact s12 _ _ z
      refine ⟨c, rfl, ⟨_, hc⟩, for_it (walk_tup (K := K) (a := c) (xs := ks.map fun k : Nat => V.int k)) (fun i σ H3 => ∃ o3 o4 vs pre dc, σ = [some (.ref a), some (.ref b), some (.ref L), o3, o4] ∧ H3 = upd H2 L (.lst vs) ∧ DpAll K H vs (pre ++ [dc]) ∧ vs.length = i + 1 ∧
          layM d0 ks = (layM dc (ks.drop i)).map (pre ++ ·)) ⟨none, none, [v0], [], d0, rfl, (upd_back2 hL2).symm, .cons hv0 .nil, rfl, by simp⟩ ?_ ?_ ?_⟩
      · rintro i σ H3 hi ⟨o3, o4, vs, pre, dc, rfl, rfl, _⟩
        exact seqT_putL hL2 hc
      · rintro i y σ H3 H3' hi ⟨o3, o4, vs, pre, dc, rfl, rfl, g1, g2, g3⟩ ⟨rfl, hy⟩
        rw [List.length_map] at hi
        rw [List.getElem?_map, List.getElem?_eq_getElem hi, Option.map_some] at hy
        cases hy
        have dr : ks.drop i = ks[i] :: ks.drop (i + 1) := List.drop_eq_getElem_cons hi
        rw [dr] at g3
        obtain ⟨xs', vl, ds', dl, ev, ed, gA, gB⟩ := DpAll.last g1 (by intro z; rw [z] at g2; simp at g2)
        have ed := List.append_inj' ed rfl
        obtain ⟨e3, e4⟩ := ed
        cases e4
        subst e3 ev
        have hL3 : (upd H2 L (.lst (xs' ++ [vl]))) L = some (.lst (xs' ++ [vl])) := upd_same
        have gB3 := Dp.up (sP (xs' ++ [vl])) _ _ gB
        refine ⟨_, rfl, 1, rfl, L, _, -1, _, rfl, rfl, SqL.of hL3, atI_last _ _, _, rfl, vl, dc, "tuple", _, rfl, gB3, kit_tup dc, _, rfl, ?_⟩
        cases ht : isTup dc with
        | false =>
          have en : layI gs n ks = none := by
            rw [eL, g3, layM_no ht]
            rfl
          refine iteT (iteT ?_)
          refine ⟨_, rfl, by (show 1 ≤ 1000); decide, fun a1 h1 => ⟨a1, [.ref b], rfl, rfl, upd_same, fun x1 H5 n1 e1' E1 k1 => ⟨rfl, x1, [("place", .ref b)], E1.1, E1.2, by (rw [upd_ne e1'] at n1; exact n1), ?_⟩⟩⟩
          exact out en _ a1 (sP _) h1 x1 H5 (by rw [upd_ne e1'] at n1; exact n1) k1
        | true =>
          obtain ⟨wa, xs, ds, rfl, rfl, hw, gw⟩ := tup_of gB ht
          have lw := DpAll.len gw
          have hw3 := seqT_up (sP (xs' ++ [V.ref wa])) hw
          refine iteF ⟨_, rfl, _, rfl, wa, _, rfl, .inr hw3, _, _, rfl, rfl, _, rfl, ite2 (fun c1 => ?_) (fun c1 => ?_)⟩
          · have c1 : ((xs.length : Int) ≤ (ks[i] : Int)) := of_decide_eq_true c1
            have en : layI gs n ks = none := by
              rw [eL, g3]
              unfold layM
              rw [List.getElem?_eq_none (by omega)]
              rfl
            refine ⟨_, rfl, by (show 1 ≤ 1000); decide, fun a1 h1 => ⟨a1, [.ref b], rfl, rfl, upd_same, fun x1 H5 n1 e1' E1 k1 => ⟨rfl, x1, [("place", .ref b)], E1.1, E1.2, by (rw [upd_ne e1'] at n1; exact n1), ?_⟩⟩⟩
            exact out en _ a1 (sP _) h1 x1 H5 (by rw [upd_ne e1'] at n1; exact n1) k1
          · have c1 : ¬ ((xs.length : Int) ≤ (ks[i] : Int)) := of_decide_eq_false (Bool.eq_false_iff.mpr c1)
            have hlt : ks[i] < xs.length := by omega
            have hx : xs[ks[i]]? = some xs[ks[i]] := List.getElem?_eq_getElem hlt
            obtain ⟨e, he, hde⟩ := DpAll.get gw hx
            refine ⟨_, rfl, .inl ⟨rfl, _, SqL.of hL3⟩, _, rfl, _, rfl, wa, _, _, _, rfl, rfl, hw3, atI_nat hx, L, _, _, rfl, rfl, hL3, ?_, ?_⟩
            · exact few1 (by omega)
            refine ⟨_, _, xs' ++ [.ref wa] ++ [xs[ks[i]]], pre ++ [.tuple ds], e, rfl, by rw [upd_twice], DpAll.app g1 (.cons hde .nil), by (rw [List.length_append, g2]; rfl), ?_⟩
            rw [g3, layM_tup he]
            cases layM e (ks.drop (i + 1)) with
            | none => rfl
            | some l => simp
      · rintro σ H3 ⟨o3, o4, vs, pre, dc, rfl, rfl, g1, g2, g3⟩
        rw [List.length_map, List.drop_length] at g3
        have e5 : layM dc [] = some [dc] := by cases dc <;> rfl
        rw [e5] at g3
        exact ⟨_, rfl, qS _ (eL.trans g3) L vs _ (sP vs) hL upd_same (Dp.ups (sP vs) _ _ g1)⟩
theorem ok_valAt {k : Nat} (F : Fun K "value_at" "value_at" sValAt f fd) (GL : FnOk P w K mg base (L2.CX P w) 3 fL dL ["inputs", "place"] (spLayers K C CE)) (kL : PySem.W.keepIn K (.ref fL) = true) (bL : Binds K dL ["inputs", "place"] []) (mL : mg "layers_at" = some (.ref fL)) :
    FnOk P w K mg base (L2.CX P w) (k + 4) f fd ["inputs", "place"] (spValAt K C CE) := by
  refine F.okX scValAt (fun vs H Q E h => ?_) (fun cdv A outer s H vs Q E hr h => ?_)
  · obtain ⟨a, b, kvs, gs, n, ks, rfl, _⟩ := h
    rfl
  obtain ⟨a, b, kvs, gs, n, ks, rfl, hI, hb, hk, qN, qS⟩ := h
  have hr3 : Room 3 _ := hr.mono (by omega)
  have e0 := atI2_lay gs n ks
  refine ⟨_, pss_one (ps_ret (pe_ix ix_list (pe_callS GL hr3 (by rfl) mL kL bL (fun σ => passAt (takes_of rfl rfl rfl rfl) σ) (pa_cons (pv 0) (pa_cons (pv 1) pa_nil))) (pe_un un_neg pe_int) (fun _ _ => rfl))), ?_⟩
  refine ⟨_, rfl, _, rfl, a, b, kvs, gs, n, ks, rfl, hI, hb, hk, fun en => ?_, fun ls el q vs H1 s1 hq h1 hd => ?_⟩
  · intro d H1 s1 h1 h2
    exact qN (by rw [e0, en]; rfl) d H1 s1 h1 h2
  · rw [el] at e0
    have ne : vs ≠ [] := by
      intro z
      subst z
      cases hd
      unfold layI at el
      cases h2 : getI gs n with
      | none => rw [h2] at el; cases el
      | some x =>
        rw [h2] at el
        cases x with
        | none => cases el
        | some d =>
          have el : layM d ks = some [] := el
          have := layM_ne el
          exact this rfl
    obtain ⟨xs', vl, ds', dl, ev, ed, gA, gB⟩ := DpAll.last hd ne
    subst ev ed
    refine ⟨1, rfl, q, _, -1, vl, rfl, rfl, SqL.of h1, atI_last _ _, qS dl ?_ vl H1 s1 gB⟩
    rw [e0]
    simp
end
/-! terms called -/
abbrev sCallL : Stmt := inClass (topS 11) 1
abbrev sCallW : Stmt := inClass (topS 12) 1
abbrev sCallS : Stmt := inClass (topS 13) 1
abbrev sCallB : Stmt := inClass (topS 14) 1
theorem scCallL : FnScope ["self", "inputs"] ["self", "inputs"] (defScope sCallL) := ⟨rfl, rfl, rfl, by decide +kernel, rfl, by decide +kernel, by decide +kernel⟩
theorem scCallW : FnScope ["self", "inputs"] ["self", "inputs"] (defScope sCallW) := ⟨rfl, rfl, rfl, by decide +kernel, rfl, by decide +kernel, by decide +kernel⟩
theorem scCallS : FnScope ["self", "inputs", "value"] ["self", "inputs"] (defScope sCallS) := ⟨rfl, rfl, rfl, by decide +kernel, rfl, by decide +kernel, by decide +kernel⟩
theorem scCallB : FnScope ["self", "inputs", "rows", "one"] ["self", "inputs"] (defScope sCallB) := ⟨rfl, rfl, rfl, by decide +kernel, rfl, by decide +kernel, by decide +kernel⟩
/-- what a leaf tells, or the place that is not there -/
def lfE (gs : Ins) : Tm → Except Pl PyData
  | .lit d => .ok d
  | .who p => match atI2 gs p.1 p.2 with
    | some d => .ok d
    | none => .error p
  | .shi p b => match atI2 gs p.1 p.2 with
    | some (.int i) => .ok (.int (i + b))
    | _ => .error p
  | .bui _ => .ok .none
mutual
def evT (gs : Ins) : Tm → Except Pl PyData
  | .bui ts => match evTs gs ts with
    | .ok ds => .ok (.tuple ds)
    | .error p => .error p
  | .lit d => lfE gs (.lit d)
  | .who p => lfE gs (.who p)
  | .shi p b => lfE gs (.shi p b)
def evTs (gs : Ins) : List Tm → Except Pl (List PyData)
  | [] => .ok []
  | t :: ts => match evT gs t with
    | .error p => .error p
    | .ok d => match evTs gs ts with
      | .error p => .error p
      | .ok ds => .ok (d :: ds)
end
/-- the error leaves -/
def errC (CE : Addr) (p : Pl) (H : Hp) (E : XK) : Prop := ∀ b d H', Same H H' → H' b = some (.tup (plW p)) → H' d = some (.xd [("place", .ref b)]) → E (.ref CE) (some d) H'
mutual
/-- data as the law draws them -/
def vd : PyData → Bool
  | .int _ => true
  | .str _ => true
  | .tuple ds => vds ds
  | .none => false
  | .bool _ => false
  | .list _ => false
  | .dict _ => false
def vds : List PyData → Bool
  | [] => true
  | d :: ds => vd d && vds ds
end
theorem vds_mem : ∀ {ds : List PyData} {d : PyData}, vds ds = true → d ∈ ds → vd d = true
  | [], _, _, m => nomatch m
  | e :: ds, d, h, m => by
    simp only [vds, Bool.and_eq_true] at h
    rcases List.mem_cons.mp m with z | z
    · rw [z]; exact h.1
    · exact vds_mem h.2 z
theorem vd_at : ∀ (ks : List Nat) (d e : PyData), atM d ks = some e → vd d = true → vd e = true
  | [], d, e, h, hv => by
    have : d = e := by cases d <;> exact Option.some.inj h
    rw [← this]
    exact hv
  | k :: ks, d, e, h, hv => by
    cases d with
    | tuple ds =>
      unfold atM at h
      cases h3 : ds[k]? with
      | none => rw [h3] at h; cases h
      | some e3 =>
        rw [h3] at h
        exact vd_at ks e3 e h (vds_mem (by simpa only [vd] using hv) (List.mem_of_getElem? h3))
    | none => cases h
    | bool b => cases h
    | int i => cases h
    | str x => cases h
    | list l => cases h
    | dict l => cases h
def InsVd (gs : Ins) : Prop := ∀ g ∈ gs, ∀ d, g.2 = some d → vd d = true
theorem getI_mem {gs : Ins} {n : Str} {y : Option PyData} (e : getI gs n = some y) : ∃ g ∈ gs, g.2 = y := by
  unfold getI at e
  obtain ⟨g, hg, e2⟩ := Option.map_eq_some_iff.mp e
  exact ⟨g, List.mem_of_find?_eq_some hg, e2⟩
theorem at_vd {gs : Ins} {n : Str} {ks : List Nat} {d : PyData} (hO : InsVd gs) (h : atI2 gs n ks = some d) : vd d = true := by
  unfold atI2 at h
  cases e : getI gs n with
  | none => rw [e] at h; cases h
  | some y =>
    rw [e] at h
    cases y with
    | none => cases h
    | some d0 =>
      obtain ⟨g, mg, eg⟩ := getI_mem e
      exact vd_at ks d0 d h (hO g mg d0 eg)
def spCall (K : PySem.W.Frag) (C : TI → Addr) (CF CE : Addr) (ok : Tm → Prop) : Sp := fun vs H Q E => ∃ v t a kvs gs, vs = [v, .ref a] ∧ TmA K C H v t ∧ t.ok ∧ t.wt ≤ 900 ∧ ok t ∧ InAt K CF H a kvs gs ∧ InsVd gs ∧
  (∀ p, evT gs t = .error p → errC CE p H E) ∧ ∀ d, evT gs t = .ok d → ∀ u H', Same H H' → Dp K H' u d → Q u H'
section
variable {P : Program} {w : World} {K : PySem.W.Frag} {mg : Str → Option Value} {base : Heap} {f fV fI CF CE eI : Addr} {fd dV dI xI : FuncData} {C fE : TI → Addr}
theorem passD {N : List Str} {qual : Str} {sc : Scope} {f : Addr} {cdv : Value} {A : Around} {outer : List Env} {s : Shared} {H : Hp} {E : XK} : Passes (L2.CX P w) (cxOf (L2.CX P w) P w K mg base N qual sc f cdv A outer s H E) E :=
  passes_call (takes_of rfl rfl rfl rfl) fun _ _ _ _ h => h
theorem ok_callL {k : Nat} (F : Fun K "__call__" "Literal.__call__" sCallL f fd) (T : TmC K mg C fE) : FnOk P w K mg base (L2.CX P w) (k + 1) f fd ["self", "inputs"] (spCall K C CF CE fun t => t.ix = .l) := by
  refine F.okX scCallL (fun vs H Q E h => ?_) (fun cdv A outer s H vs Q E hr h => ?_)
  · obtain ⟨v, t, a, kvs, gs, rfl, _⟩ := h
    rfl
  obtain ⟨v, t, a, kvs, gs, rfl, ht, ok, hw, hi, hI, hO, qN, qS⟩ := h
  refine ⟨_, pss_one (ps_ret (pe_fld (pv 0) rfl)), ?_⟩
  cases ht with
  | who _ _ _ => cases hi
  | shi _ _ _ => cases hi
  | bui _ _ _ _ _ _ _ _ => cases hi
  | @lit b dx e v d h1 h2 h3 =>
    exact ⟨_, rfl, b, C .l, dx, _, v, rfl, h1, (T.fam.o .l).c.cl, T.na .l "value" (by simp [attsT]), flL_v _ _, qS d (by simp only [evT, lfE]) v H (Same.refl H) h2⟩
theorem ok_callW {k : Nat} (F : Fun K "__call__" "Whole.__call__" sCallW f fd) (T : TmC K mg C fE) (GV : FnOk P w K mg base (L2.CX P w) 4 fV dV ["inputs", "place"] (spValAt K CF CE)) (kV : PySem.W.keepIn K (.ref fV) = true) (bV : Binds K dV ["inputs", "place"] []) (mV : mg "value_at" = some (.ref fV)) :
    FnOk P w K mg base (L2.CX P w) (k + 5) f fd ["self", "inputs"] (spCall K C CF CE fun t => t.ix = .w) := by
  refine F.okX scCallW (fun vs H Q E h => ?_) (fun cdv A outer s H vs Q E hr h => ?_)
  · obtain ⟨v, t, a, kvs, gs, rfl, _⟩ := h
    rfl
  obtain ⟨v, t, a, kvs, gs, rfl, ht, ok, hw, hi, hI, hO, qN, qS⟩ := h
  have hr4 : Room 4 _ := hr.mono (by omega)
  refine ⟨_, pss_one (ps_ret (pe_call GV hr4 (by rfl) mV kV bV .nil passD (pa_cons (pv 1) (pa_cons (pe_fld (pv 0) rfl) pa_nil)))), ?_⟩
  cases ht with
  | lit _ _ _ => cases hi
  | shi _ _ _ => cases hi
  | bui _ _ _ _ _ _ _ _ => cases hi
  | @who b dx q e p h1 h2 h3 =>
    simp only [Tm.ok] at ok
    refine ⟨_, rfl, _, rfl, b, C .w, dx, _, _, rfl, h1, (T.fam.o .w).c.cl, T.na .w "place" (by simp [attsT]), flW_q _ _, a, q, kvs, gs, p.1, p.2, rfl, hI, .inl (.inl h2), by have := ok.few; omega, fun en => ?_, fun d ed v' H' s hv => qS d ?_ v' H' s hv⟩
    · intro x H' s hx hxd
      refine qN p ?_ q x H' s (s _ _ h2) hxd
      simp only [evT, lfE, en]
    · simp only [evT, lfE, ed]
theorem ok_callS {k : Nat} (F : Fun K "__call__" "Shifted.__call__" sCallS f fd) (T : TmC K mg C fE) (c4 : EC P w K mg base "NoPlace" ["place"] ["place"] CE eI xI) (GV : FnOk P w K mg base (L2.CX P w) 4 fV dV ["inputs", "place"] (spValAt K CF CE)) (kV : PySem.W.keepIn K (.ref fV) = true) (bV : Binds K dV ["inputs", "place"] []) (mV : mg "value_at" = some (.ref fV))
    (GI : Dn P w K mg base 1 "is_integer" ["thing"] (spLook K (fun _ => True) fun d => .bl (inD d)) fI dI) :
    FnOk P w K mg base (L2.CX P w) (k + 5) f fd ["self", "inputs"] (spCall K C CF CE fun t => t.ix = .s) := by
  refine F.okX scCallS (fun vs H Q E h => ?_) (fun cdv A outer s H vs Q E hr h => ?_)
  · obtain ⟨v, t, a, kvs, gs, rfl, _⟩ := h
    rfl
  obtain ⟨v, t, a, kvs, gs, rfl, ht, ok, hw, hi, hI, hO, qN, qS⟩ := h
  have hr1 : Room 1 _ := hr.mono (by omega)
  have hr2 : Room 2 _ := hr.mono (by omega)
  have hr4 : Room 4 _ := hr.mono (by omega)
  refine ⟨_, pss_cons (ps_set (i := 2) scCallS.nd rfl (.inl rfl) (pe_call GV hr4 (by rfl) mV kV bV .nil passD (pa_cons (pv 1) (pa_cons (pe_fld (pv 0) rfl) pa_nil))))
    (pss_cons (ps_if (pt_not (pt_val (pe_call GI.ok hr1 (by rfl) GI.mg GI.kp GI.bd .nil pass0 (pa_cons (pv 2) pa_nil))))
      (pss_one (ps_raise rfl (takes_of rfl rfl rfl rfl) (pmk_exK c4.T c4.iC c4.tI c4.ok hr2 c4.bd pass0 (by rfl) c4.mg (pa_cons (pe_fld (pv 0) rfl) pa_nil)))) pss_nil)
    (pss_one (ps_ret (pe_op op_add (pv 2) (pe_fld (pv 0) rfl))))), ?_⟩
  cases ht with
  | lit _ _ _ => cases hi
  | who _ _ _ => cases hi
  | bui _ _ _ _ _ _ _ _ => cases hi
  | @shi b dx q e by_ p h1 h2 h3 =>
    simp only [Tm.ok] at ok
    have cl := (T.fam.o .s).c.cl
    have na := T.na .s "place" (by simp [attsT])
    have nb := T.na .s "by" (by simp [attsT])
    refine ⟨_, rfl, _, rfl, b, C .s, dx, _, _, rfl, h1, cl, na, flS_q _ _ _, a, q, kvs, gs, p.1, p.2, rfl, hI, .inl (.inl h2), by have := ok.1.few; omega, fun en => ?_, fun d ed v' H1 s1 hv => ?_⟩
    · intro x H' s hx hxd
      refine qN p ?_ q x H' s (s _ _ h2) hxd
      simp only [evT, lfE, en]
    · refine ⟨_, rfl, v', d, rfl, hv, True.intro, fun H2 s2 => ⟨_, rfl, ?_⟩⟩
      have s12 := s1.trans s2
      have out : evT gs (.shi p by_) = .error p → ∀ (H3 : Hp) (a1 : Addr), Same H H3 → H3 a1 = none → ∀ (x1 : Addr) (H4 : Hp), H3 x1 = none → (∀ b v, b ≠ a1 → upd H3 a1 (exo a1 CE none) b = some v → H4 b = some v) →
          E (.ref CE) (some x1) (upd (L2.del H4 a1) x1 (.xd [("place", .ref q)])) := fun en H3 a1 s3 ha x1 H4 hx1 k4 =>
        qN p en q x1 _ (s3.trans (flown ha hx1 k4)) ((s3.trans (flown ha hx1 k4)) _ _ h2) upd_same
      have vdd := at_vd hO ed
      have bad : (∀ i, d ≠ .int i) → evT gs (.shi p by_) = .error p := fun ne => by
        simp only [evT, lfE, ed]
        cases d with
        | int i => exact absurd rfl (ne i)
        | _ => rfl
      cases d with
      | none => cases vdd
      | bool b => cases vdd
      | list l => cases vdd
      | dict l => cases vdd
      | int i =>
        cases hv
        refine iteF ⟨_, rfl, _, rfl, b, C .s, dx, _, _, rfl, s12 _ _ h1, cl, nb, flS_b _ _ _, i, by_, rfl, rfl, ?_⟩
        exact qS (.int (i + by_)) (by simp only [evT, lfE, ed]) _ H2 s12 (.int _)
      | str x =>
        refine iteT ⟨_, rfl, b, C .s, dx, _, _, rfl, s12 _ _ h1, cl, na, flS_q _ _ _, ?_⟩
        refine ⟨by (show 1 ≤ 1000); decide, fun a1 h1' => ⟨a1, [.ref q], rfl, rfl, upd_same, fun x1 H5 n1 e1' E1 k1 => ⟨rfl, x1, [("place", .ref q)], E1.1, E1.2, by (rw [upd_ne e1'] at n1; exact n1), ?_⟩⟩⟩
        exact out (bad fun i z => by cases z) H2 a1 s12 h1' x1 H5 (by rw [upd_ne e1'] at n1; exact n1) k1
      | tuple ds =>
        refine iteT ⟨_, rfl, b, C .s, dx, _, _, rfl, s12 _ _ h1, cl, na, flS_q _ _ _, ?_⟩
        refine ⟨by (show 1 ≤ 1000); decide, fun a1 h1' => ⟨a1, [.ref q], rfl, rfl, upd_same, fun x1 H5 n1 e1' E1 k1 => ⟨rfl, x1, [("place", .ref q)], E1.1, E1.2, by (rw [upd_ne e1'] at n1; exact n1), ?_⟩⟩⟩
        exact out (bad fun i z => by cases z) H2 a1 s12 h1' x1 H5 (by rw [upd_ne e1'] at n1; exact n1) k1
end
/-! built terms called -/
theorem fnR_of {P : Program} {w : World} {K : PySem.W.Frag} {mg : Str → Option Value} {base : Heap} {CX : CXT} {k : Nat} {f : Addr} {fd : FuncData} {ps : List Str} {sp : Sp} (F : FnOk P w K mg base CX k f fd ps sp) (hb : Binds K fd ps []) : FnR P w K mg base CX k f sp := by
  intro A outer s H us vs Q E hr ee r h
  have hl : us.length = ps.length := r.length.symm.trans (F.len _ _ _ _ h)
  have bd := hb s us (fun b o e => (ee.bs b o (ee.mod.kin b o e)).1) (by rw [List.append_nil]; exact hl)
  rw [List.append_nil] at bd
  exact F.run A outer s H ⟨us, []⟩ us vs Q E hr ee bd r h
def rowE (gs : Ins) : Tm → Except Pl Row
  | .bui ts => .ok (.inl ts.length)
  | t => match lfE gs t with
    | .ok d => .ok (.inr d)
    | .error p => .error p
def rowsE (gs : Ins) : List Tm → Except Pl (List Row)
  | [] => .ok []
  | t :: ts => match rowE gs t with
    | .error p => .error p
    | .ok r => match rowsE gs ts with
      | .error p => .error p
      | .ok rs => .ok (r :: rs)
theorem rowsE_ok {gs : Ins} : ∀ {a b : List Tm} {R R2 : List Row}, rowsE gs a = .ok R → rowsE gs b = .ok R2 → rowsE gs (a ++ b) = .ok (R ++ R2)
  | [], b, R, R2, h, g => by
    cases h
    exact g
  | t :: a, b, R, R2, h, g => by
    simp only [rowsE, List.cons_append] at h ⊢
    cases e1 : rowE gs t with
    | error p => rw [e1] at h; cases h
    | ok r =>
      rw [e1] at h
      simp only at h ⊢
      cases e2 : rowsE gs a with
      | error p => rw [e2] at h; cases h
      | ok rs =>
        rw [e2] at h
        cases h
        rw [rowsE_ok e2 g]
        rfl
theorem rowsE_err {gs : Ins} : ∀ {a b : List Tm} {p : Pl}, rowsE gs a = .error p → rowsE gs (a ++ b) = .error p
  | [], b, p, h => nomatch h
  | t :: a, b, p, h => by
    simp only [rowsE, List.cons_append] at h ⊢
    cases e1 : rowE gs t with
    | error p2 => rw [e1] at h; cases h; rfl
    | ok r =>
      rw [e1] at h
      simp only at h ⊢
      cases e2 : rowsE gs a with
      | error p2 =>
        rw [e2] at h
        cases h
        rw [rowsE_err e2]
      | ok rs => rw [e2] at h; cases h
theorem rowsE_err2 {gs : Ins} : ∀ {a b : List Tm} {R : List Row} {p : Pl}, rowsE gs a = .ok R → rowsE gs b = .error p → rowsE gs (a ++ b) = .error p
  | [], b, R, p, h, g => g
  | t :: a, b, R, p, h, g => by
    simp only [rowsE, List.cons_append] at h ⊢
    cases e1 : rowE gs t with
    | error p2 => rw [e1] at h; cases h
    | ok r =>
      rw [e1] at h
      simp only at h ⊢
      cases e2 : rowsE gs a with
      | error p2 => rw [e2] at h; cases h
      | ok rs => rw [rowsE_err2 e2 g]
theorem leaf_rows {gs : Ins} {t : Tm} (hb : isBui t = false) : (∀ p, lfE gs t = .error p → rowsE gs [t] = .error p) ∧ ∀ d, lfE gs t = .ok d → rowsE gs [t] = .ok [.inr d] := by
  constructor
  · intro p h
    cases t with
    | bui ts => cases hb
    | _ => simp only [rowsE, rowE, h]
  · intro d h
    cases t with
    | bui ts => cases hb
    | _ => simp only [rowsE, rowE, h]
theorem nest_one (S : List PyData) (d : PyData) : nestOk S [.inr d] ∧ nestF S [.inr d] = S ++ [d] := ⟨⟨(fun n z => by cases z), trivial⟩, rfl⟩
mutual
theorem ev_rows (gs : Ins) : ∀ t : Tm, (∀ p, evT gs t = .error p → rowsE gs t.fl = .error p) ∧ ∀ d, evT gs t = .ok d → ∃ R, rowsE gs t.fl = .ok R ∧ ∀ S, nestOk S R.reverse ∧ nestF S R.reverse = S ++ [d]
  | .lit d0 => ⟨fun p h => (leaf_rows (t := .lit d0) rfl).1 p (by simpa only [evT] using h), fun d h => ⟨[.inr d], (leaf_rows (t := .lit d0) rfl).2 d (by simpa only [evT] using h), fun S => nest_one S d⟩⟩
  | .who q => ⟨fun p h => (leaf_rows (t := .who q) rfl).1 p (by simpa only [evT] using h), fun d h => ⟨[.inr d], (leaf_rows (t := .who q) rfl).2 d (by simpa only [evT] using h), fun S => nest_one S d⟩⟩
  | .shi q b => ⟨fun p h => (leaf_rows (t := .shi q b) rfl).1 p (by simpa only [evT] using h), fun d h => ⟨[.inr d], (leaf_rows (t := .shi q b) rfl).2 d (by simpa only [evT] using h), fun S => nest_one S d⟩⟩
  | .bui ts => by
    have ih := evs_rows gs ts
    refine ⟨fun p h => ?_, fun d h => ?_⟩
    · simp only [evT] at h
      cases e : evTs gs ts with
      | ok ds => rw [e] at h; cases h
      | error p2 =>
        rw [e] at h
        cases h
        simp only [Tm.fl, rowsE, rowE, ih.1 p e]
    · simp only [evT] at h
      cases e : evTs gs ts with
      | error p2 => rw [e] at h; cases h
      | ok ds =>
        rw [e] at h
        cases h
        obtain ⟨R, hR, hS⟩ := ih.2 ds e
        refine ⟨.inl ts.length :: R, by simp only [Tm.fl, rowsE, rowE, hR], fun S => ?_⟩
        obtain ⟨a, b⟩ := hS S
        have ld := evs_len gs ts ds e
        rw [List.reverse_cons]
        refine ⟨nestOk_app _ _ _ a ?_, ?_⟩
        · rw [b]
          refine ⟨fun n z => ?_, trivial⟩
          cases z
          rw [List.length_append, List.length_reverse]
          omega
        · rw [nestF_app, b]
          show (S ++ ds.reverse).take ((S ++ ds.reverse).length - ts.length) ++ [.tuple ((S ++ ds.reverse).drop ((S ++ ds.reverse).length - ts.length)).reverse] = _
          have l : (S ++ ds.reverse).length - ts.length = S.length := by rw [List.length_append, List.length_reverse]; omega
          rw [l, List.take_left, List.drop_left, List.reverse_reverse]
theorem evs_rows (gs : Ins) : ∀ ts : List Tm, (∀ p, evTs gs ts = .error p → rowsE gs (Tm.fls ts) = .error p) ∧ ∀ ds, evTs gs ts = .ok ds → ∃ R, rowsE gs (Tm.fls ts) = .ok R ∧ ∀ S, nestOk S R.reverse ∧ nestF S R.reverse = S ++ ds.reverse
  | [] => ⟨(fun p h => nomatch h), fun ds h => by
    cases h
    exact ⟨[], rfl, fun S => ⟨trivial, by show S = S ++ []; rw [List.append_nil]⟩⟩⟩
  | t :: ts => by
    have h1 := ev_rows gs t
    have h2 := evs_rows gs ts
    refine ⟨fun p h => ?_, fun ds h => ?_⟩
    · simp only [evTs] at h
      cases e : evT gs t with
      | error p2 =>
        rw [e] at h
        cases h
        simp only [Tm.fls]
        exact rowsE_err (h1.1 p e)
      | ok d =>
        rw [e] at h
        simp only at h
        obtain ⟨R, hR, _⟩ := h1.2 d e
        cases e2 : evTs gs ts with
        | ok ds => rw [e2] at h; cases h
        | error p2 =>
          rw [e2] at h
          cases h
          simp only [Tm.fls]
          exact rowsE_err2 hR (h2.1 p e2)
    · simp only [evTs] at h
      cases e : evT gs t with
      | error p2 => rw [e] at h; cases h
      | ok d =>
        rw [e] at h
        simp only at h
        cases e2 : evTs gs ts with
        | error p2 => rw [e2] at h; cases h
        | ok es =>
          rw [e2] at h
          cases h
          obtain ⟨R, hR, hS⟩ := h1.2 d e
          obtain ⟨R2, hR2, hS2⟩ := h2.2 es e2
          refine ⟨R ++ R2, by simp only [Tm.fls]; exact rowsE_ok hR hR2, fun S => ?_⟩
          obtain ⟨a2, b2⟩ := hS2 S
          obtain ⟨a1, b1⟩ := hS (S ++ es.reverse)
          rw [List.reverse_append]
          refine ⟨nestOk_app _ _ _ a2 (by rw [b2]; exact a1), ?_⟩
          rw [nestF_app, b2, b1, List.reverse_cons, List.append_assoc]
theorem evs_len (gs : Ins) : ∀ (ts : List Tm) (ds : List PyData), evTs gs ts = .ok ds → ds.length = ts.length
  | [], ds, h => by cases h; rfl
  | t :: ts, ds, h => by
    simp only [evTs] at h
    cases e : evT gs t with
    | error p2 => rw [e] at h; cases h
    | ok d =>
      rw [e] at h
      simp only at h
      cases e2 : evTs gs ts with
      | error p2 => rw [e2] at h; cases h
      | ok es =>
        rw [e2] at h
        cases h
        rw [List.length_cons, List.length_cons, evs_len gs ts es e2]
end
theorem rowsE_len {gs : Ins} : ∀ {a : List Tm} {R : List Row}, rowsE gs a = .ok R → a.length = R.length
  | [], R, h => by cases h; rfl
  | t :: a, R, h => by
    simp only [rowsE] at h
    cases e1 : rowE gs t with
    | error p => rw [e1] at h; cases h
    | ok r =>
      rw [e1] at h
      simp only at h
      cases e2 : rowsE gs a with
      | error p => rw [e2] at h; cases h
      | ok rs =>
        rw [e2] at h
        cases h
        rw [List.length_cons, List.length_cons, rowsE_len e2]
mutual
theorem Tm.fl_ok : ∀ t : Tm, t.ok → ∀ u ∈ t.fl, u.ok
  | .bui ts, h, u, m => by
    have ho : Tm.oks ts := by simpa only [Tm.ok] using h
    simp only [Tm.fl, List.mem_cons] at m
    rcases m with e | m
    · rw [e]; exact h
    · exact Tm.fls_ok ts ho u m
  | .lit d, h, u, m => by
    have e : u = .lit d := by simpa [Tm.fl] using m
    rw [e]; exact h
  | .who p, h, u, m => by
    have e : u = .who p := by simpa [Tm.fl] using m
    rw [e]; exact h
  | .shi p b, h, u, m => by
    have e : u = .shi p b := by simpa [Tm.fl] using m
    rw [e]; exact h
theorem Tm.fls_ok : ∀ ts : List Tm, Tm.oks ts → ∀ u ∈ Tm.fls ts, u.ok
  | [], _, _, m => nomatch m
  | t :: ts, h, u, m => by
    have ho : t.ok ∧ Tm.oks ts := by simpa only [Tm.oks] using h
    simp only [Tm.fls, List.mem_append] at m
    rcases m with m | m
    · exact Tm.fl_ok t ho.1 u m
    · exact Tm.fls_ok ts ho.2 u m
end
theorem sqT_cutL {K : PySem.W.Frag} {H : Hp} {a D : Addr} {xs ys : List V} (hD : H D = some (.lst ys)) (h : SqT K H a xs) : SqT K (cut [D] H) a xs := by
  have ne : ∀ {o : HO}, H a = some o → (∀ zs, o ≠ .lst zs) → a ∉ [D] := fun {o} e n z => by
    rw [List.mem_singleton.mp z, hD] at e
    exact n ys (Option.some.inj e).symm
  rcases h with (h | ⟨o, h⟩) | h
  · exact .inl (.inl (by rw [cut_out (ne h fun _ z => nomatch z)]; exact h))
  · exact .inl (.inr ⟨o, by rw [cut_out (ne h fun _ z => nomatch z)]; exact h⟩)
  · exact .inr h
mutual
theorem vd_cut {K : PySem.W.Frag} {H : Hp} {D : Addr} {ys : List V} (hD : H D = some (.lst ys)) : ∀ (d : PyData) (v : V), vd d = true → Dp K H v d → Dp K (cut [D] H) v d
  | .int i, _, _, h => by cases h; exact .int i
  | .str x, _, _, h => by cases h; exact .str x
  | .tuple ds, _, hv, h => by
    cases h with
    | tup h1 h2 => exact .tup (sqT_cutL hD h1) (vds_cut hD ds _ (by simpa only [vd] using hv) h2)
  | .none, _, hv, _ => by simp [vd] at hv
  | .bool _, _, hv, _ => by simp [vd] at hv
  | .list _, _, hv, _ => by simp [vd] at hv
  | .dict _, _, hv, _ => by simp [vd] at hv
theorem vds_cut {K : PySem.W.Frag} {H : Hp} {D : Addr} {ys : List V} (hD : H D = some (.lst ys)) : ∀ (ds : List PyData) (vs : List V), vds ds = true → DpAll K H vs ds → DpAll K (cut [D] H) vs ds
  | [], _, _, h => by cases h; exact .nil
  | d :: ds, _, hv, h => by
    cases h with
    | cons h1 h2 =>
      have hv2 : vd d = true ∧ vds ds = true := by simpa only [vds, Bool.and_eq_true] using hv
      exact .cons (vd_cut hD d _ hv2.1 h1) (vds_cut hD ds _ hv2.2 h2)
end
theorem lf_vd {gs : Ins} {t : Tm} {d : PyData} (ok : t.ok) (hO : InsVd gs) (hb : isBui t = false) (h : lfE gs t = .ok d) : vd d = true := by
  cases t with
  | lit d0 =>
    simp only [lfE] at h
    cases h
    simp only [Tm.ok] at ok
    rcases ok with ⟨i, rfl, _⟩ | ⟨x, rfl, _⟩
    · simp only [vd]
    · simp only [vd]
  | who p =>
    simp only [lfE] at h
    cases e : atI2 gs p.1 p.2 with
    | none => rw [e] at h; cases h
    | some d1 =>
      rw [e] at h
      cases h
      exact at_vd hO e
  | shi p b =>
    simp only [lfE] at h
    cases e : atI2 gs p.1 p.2 with
    | none => rw [e] at h; cases h
    | some d1 =>
      rw [e] at h
      cases d1 with
      | int i => cases h; simp only [vd]
      | _ => cases h
  | bui ts => cases hb
section
variable {P : Program} {w : World} {K : PySem.W.Frag} {mg : Str → Option Value} {base : Heap} {f fL fN CF CE : Addr} {fd dL dN : FuncData} {C fE g : TI → Addr}
/-- the leaf calls, side by side -/
def spLf (K : PySem.W.Frag) (C : TI → Addr) (CF CE : Addr) (i : TI) : Sp := spCall K C CF CE fun t => t.ix = i ∧ isBui t = false
theorem ev_leaf (gs : Ins) {t : Tm} (hb : isBui t = false) : evT gs t = lfE gs t := by cases t <;> first | (simp only [evT]; done) | cases hb
theorem ok_callB {k : Nat} (F : Fun K "__call__" "Built.__call__" sCallB f fd) (T : TmC K mg C fE) (B : Bi mg) (GL : Dn P w K mg base 1 "flat_terms" ["term"] (spFlat K C) fL dL) (GN : Dn P w K mg base 1 "nested" ["rows", "as_term"] (spNested K) fN dN)
    (cO : ∀ i, StX.CallO K (C i) (g i)) (FG : ∀ i, FnR P w K mg base (L2.CX P w) 5 (g i) (spLf K C CF CE i)) :
    FnOk P w K mg base (L2.CX P w) (k + 6) f fd ["self", "inputs"] (spCall K C CF CE fun t => t.ix = .b) := by
  refine F.okX scCallB (fun vs H Q E h => ?_) (fun cdv A outer s H vs Q E hr h => ?_)
  · obtain ⟨v, t, a, kvs, gs, rfl, _⟩ := h
    rfl
  obtain ⟨v, t, a, kvs, gs, rfl, ht, ok, hw, hi, hI, hO, qN, qS⟩ := h
  have hr1 : Room 1 _ := hr.mono (by omega)
  have hr5 : Room 5 _ := hr.mono (by omega)
  refine ⟨_, pss_cons (ps_set (i := 2) scCallB.nd rfl (.inl rfl) (pe_lst pa_nil))
    (pss_cons (ps_for (passes_of rfl) rfl (pi_list (pe_call GL.ok hr1 (by rfl) GL.mg GL.kp GL.bd .nil pass0 (pa_cons (pv 0) pa_nil))) (pg_name (i := 3) scCallB.nd rfl (.inl rfl))
      (pss_one (ps_if (pt_val (pe_callB call_isi (by rfl) B.ii b_ii (pa_cons (pv 3) (pa_cons (pe_glob (by rfl) T.mB (v := .ref (C .b)) rfl) pa_nil))))
        (pss_one (ps_expr (pe_bm PySem.F.plainAttrs_list PySem.F.slot_list_append PySem.F.type_list_append mt_append (pv 2) (pa_cons (pe_tup (pa_cons (pe_callB call_len_seq (by rfl) B.len PySem.boot_len (pa_cons (pe_fld (pv 3) rfl) pa_nil)) (pa_cons pe_non pa_nil))) pa_nil))))
        (pss_one (ps_expr (pe_bm PySem.F.plainAttrs_list PySem.F.slot_list_append PySem.F.type_list_append mt_append (pv 2) (pa_cons (pe_tup (pa_cons pe_non (pa_cons (pe_callM (pv 3) cO FG hr5 passD (pa_cons (pv 1) pa_nil)) pa_nil))) pa_nil)))))))
    (pss_one (ps_ret (pe_call GN.ok hr1 (by rfl) GN.mg GN.kp GN.bd .nil pass0 (pa_cons (pv 2) (pa_cons pe_bl pa_nil)))))), ?_⟩
  refine ⟨by decide, fun D hD => ?_⟩
  have sD := same_new hD (.lst [])
  have hDD : (upd H D (.lst [])) D = some (.lst []) := upd_same
  refine ⟨_, rfl, v, t, H, rfl, sD, ht, hw, fun p fs H1 s1 hp hp1 fA => ?_⟩
  have s01 := sD.trans s1
  have hD1 := s1 _ _ hDD
  have npD : p ≠ D := (ne_of_none hDD hp).symm
  have lf := fA.len
  rw [Tm.fl_len] at lf
  have put : ∀ {H3 : Hp} {zs : List V}, Same H H3 → Same H (upd H3 D (.lst zs)) := fun {H3 zs} z c o x => by
    rw [upd_ne (ne_of_none x hD)]
    exact z c o x
  have okF := Tm.fl_ok t ok
  refine ⟨p, rfl, ⟨_, SqL.of hp1⟩, for_list (K := K) (a := p) (xs := fs) (fun i σ H2 => ∃ o3 us R, σ = [some v, some (.ref a), some (.ref D), o3] ∧ Same H H2 ∧ Same (cut [D] H1) (cut [D] H2) ∧ H2 D = some (.lst us) ∧ Paired (RowA K (cut [D] H2)) us R ∧ rowsE gs (t.fl.take i) = .ok R)
    ⟨none, [], [], rfl, s01, Same.refl _, hD1, .nil, rfl⟩ (fun i σ H2 _ ⟨_, _, _, _, _, o, _⟩ => SqL.of (Off.get (l := [D]) o hp1 (by simp [npD]))) ?_ ?_⟩
  · rintro i y σ H2 hy ⟨o3, us, R, rfl, s2, o12, hD2, rA, eR⟩
    obtain ⟨u, hu, uA⟩ := fA.get hy
    have tk : t.fl.take (i + 1) = t.fl.take i ++ [u] := get_take hu
    have lR := Paired.length rA
    have ill : i < t.wt := by
      have := (List.getElem?_eq_some_iff.mp hu).1
      rw [Tm.fl_len] at this
      exact this
    have uok : u.ok := okF u (List.mem_of_getElem? hu)
    have uA2 := TmA.up s2 u y uA
    obtain ⟨b, dx, fds, rfl, hb0⟩ := uA2.ins
    have lus : us.length ≤ 900 := by
      have : (t.fl.take i).length = R.length := rowsE_len eR
      rw [List.length_take] at this
      omega
    refine ⟨_, rfl, .ref b, .ref (C .b), _, _, _, rfl, .own _, ins_ty T.fam hb0, kit_fam T.fam u.ix .b, _, rfl, ?_⟩
    rw [bui_ix]
    cases hb : isBui u with
    | true =>
      cases uA with
      | lit _ _ _ => cases hb
      | who _ _ _ => cases hb
      | shi _ _ _ => cases hb
      | @bui _ _ pq e vs ts bs ps x1 x2 x3 x4 x5 x6 x7 x8 =>
        have lts := x3.len
        refine iteT ⟨_, rfl, .inl ⟨rfl, _, SqL.of hD2⟩, _, rfl, b, C .b, _, _, .ref pq, rfl, s2 _ _ x1, (T.fam.o .b).c.cl, T.na .b _ (by simp [attsT]), flB_q _ _ _, pq, vs, rfl, .inr (seqT_up s2 x2), few (by simp), fun r hr => ?_⟩
        have sr := same_new hr (.tup [.int (vs.length : Int), .non])
        have hD3 := sr _ _ hD2
        have nrD : r ≠ D := (ne_of_none hD2 hr).symm
        refine ⟨D, us, _, rfl, rfl, hD3, fewM (by omega), ?_⟩
        have o23 : Same (cut [D] H2) (cut [D] (upd (upd H2 r (.tup [.int (vs.length : Int), .non])) D (.lst (us ++ [.ref r])))) := (Off.of (l := [D]) sr).trans (Off.put (by simp))
        have hrow : RowA K (cut [D] (upd (upd H2 r (.tup [.int (vs.length : Int), .non])) D (.lst (us ++ [.ref r])))) (.ref r) (.inl ts.length) := ⟨r, rfl, by rw [cut_out (by simp [nrD]), upd_ne nrD, upd_same, lts]⟩
        refine ⟨_, us ++ [.ref r], R ++ [.inl ts.length], rfl, put (s2.trans sr), o12.trans o23, upd_same, paired_cat (paired_imp (fun _ _ z => z.up o23) rA) (.cons hrow .nil), ?_⟩
        · rw [tk]
          exact rowsE_ok eR (by simp only [rowsE, rowE])
    | false =>
      refine iteF ⟨_, rfl, .inl ⟨rfl, _, SqL.of hD2⟩, ?_⟩
      refine ⟨_, rfl, b, rfl, _, rfl, u.ix, .inr ⟨dx, fds, hb0⟩, .ref b, u, a, kvs, gs, rfl, uA2, uok, ?_, ⟨rfl, hb⟩, hI.up s2, hO, fun p0 hp0 => ?_, fun d hd x H3 s3 hx => ?_⟩
      · have z : u.wt = 1 := by cases u <;> first | rfl | cases hb
        omega
      · have er : rowsE gs t.fl = .error p0 := by
          have sp : t.fl = t.fl.take i ++ ([u] ++ t.fl.drop (i + 1)) := by
            rw [← List.append_assoc, ← tk, List.take_append_drop]
          rw [sp]
          rw [ev_leaf gs hb] at hp0
          exact rowsE_err2 eR (rowsE_err ((leaf_rows hb).1 p0 hp0))
        have ev : evT gs t = .error p0 := by
          cases z : evT gs t with
          | ok d =>
            obtain ⟨R2, hR2, _⟩ := (ev_rows gs t).2 d z
            rw [hR2] at er
            cases er
          | error p1 =>
            rw [(ev_rows gs t).1 p1 z] at er
            cases er
            rfl
        exact fun b2 d2 H4 s4 h4 h5 => qN p0 ev b2 d2 H4 (s2.trans s4) h4 h5
      · rw [ev_leaf gs hb] at hd
        refine ⟨few (by simp), fun r hr => ?_⟩
        have sr := same_new hr (.tup [.non, x])
        have s23 := s3.trans sr
        have hD3 := s23 _ _ hD2
        have nrD : r ≠ D := (ne_of_none (s3 _ _ hD2) hr).symm
        refine ⟨D, us, _, rfl, rfl, hD3, fewM (by omega), ?_⟩
        have o23 : Same (cut [D] H2) (cut [D] (upd (upd H3 r (.tup [.non, x])) D (.lst (us ++ [.ref r])))) := (Off.of (l := [D]) s23).trans (Off.put (by simp))
        have hx3 : Dp K (cut [D] H3) x d := vd_cut (s3 _ _ hD2) d x (lf_vd uok hO hb hd) hx
        have o33 : Same (cut [D] H3) (cut [D] (upd (upd H3 r (.tup [.non, x])) D (.lst (us ++ [.ref r])))) := (Off.of (l := [D]) sr).trans (Off.put (by simp))
        have hrow : RowA K (cut [D] (upd (upd H3 r (.tup [.non, x])) D (.lst (us ++ [.ref r])))) (.ref r) (.inr d) := ⟨r, x, rfl, by rw [cut_out (by simp [nrD]), upd_ne nrD, upd_same], Dp.up o33 _ _ hx3⟩
        refine ⟨_, us ++ [.ref r], R ++ [.inr d], rfl, put (s2.trans s23), o12.trans o23, upd_same, paired_cat (paired_imp (fun _ _ z => z.up o23) rA) (.cons hrow .nil), ?_⟩
        · rw [tk]
          exact rowsE_ok eR ((leaf_rows hb).2 d hd)
  · rintro σ H2 ⟨o3, us, R, rfl, s2, o12, hD2, rA, eR⟩
    have e : t.fl.take fs.length = t.fl := by rw [lf, ← Tm.fl_len, List.take_length]
    rw [e] at eR
    have er := ev_rows gs t
    cases h : evT gs t with
    | error p => rw [er.1 p h] at eR; cases eR
    | ok d =>
      obtain ⟨R', hR', hS⟩ := er.2 d h
      rw [hR'] at eR
      cases eR
      have lR := Paired.length rA
      have lR2 := rowsE_len hR'
      obtain ⟨n1, n2⟩ := hS []
      rw [Tm.fl_len] at lR2
      exact ⟨_, rfl, D, us, R, d, rfl, SqL.of hD2, paired_imp (fun _ _ z => z.up (cut_same _ _)) rA, by omega, n1, n2, fun u H3 s3 hu => qS d h u H3 (s2.trans s3) hu⟩
end
/-! terms compared -/
abbrev sEqL : Stmt := inClass (topS 11) 2
abbrev sEqW : Stmt := inClass (topS 12) 2
abbrev sEqS : Stmt := inClass (topS 13) 2
abbrev sEqB : Stmt := inClass (topS 14) 2
theorem scEqL : FnScope ["self", "other"] ["self", "other"] (defScope sEqL) := ⟨rfl, rfl, rfl, by decide +kernel, rfl, by decide +kernel, by decide +kernel⟩
theorem scEqW : FnScope ["self", "other"] ["self", "other"] (defScope sEqW) := ⟨rfl, rfl, rfl, by decide +kernel, rfl, by decide +kernel, by decide +kernel⟩
theorem scEqS : FnScope ["self", "other"] ["self", "other"] (defScope sEqS) := ⟨rfl, rfl, rfl, by decide +kernel, rfl, by decide +kernel, by decide +kernel⟩
theorem scEqB : FnScope ["self", "other"] ["self", "other"] (defScope sEqB) := ⟨rfl, rfl, rfl, by decide +kernel, rfl, by decide +kernel, by decide +kernel⟩
abbrev sSame : Stmt := topS 18
theorem scSame : FnScope ["one", "other", "first", "second"] ["one", "other"] (defScope sSame) := ⟨rfl, rfl, rfl, by decide +kernel, rfl, by decide +kernel, by decide +kernel⟩
theorem gd_tup (ds : List PyData) : gd (.tuple ds) = gds ds := by simp only [gd]
theorem gds_cons (d : PyData) (ds : List PyData) : gds (d :: ds) = (gd d && gds ds) := by simp only [gds]
def plE (p : Pl) : PyData := .tuple (.str p.1 :: p.2.map fun k : Nat => PyData.int k)
theorem plE_dp {K : PySem.W.Frag} {H : Hp} {q : Addr} {p : Pl} (h : SqT K H q (plW p)) : Dp K H (.ref q) (plE p) := .tup h (.cons (.str _) (by
  have : ∀ ks : List Nat, DpAll K H (ks.map fun k : Nat => V.int k) (ks.map fun k : Nat => PyData.int k) := fun ks => by
    induction ks with
    | nil => exact .nil
    | cons k ks ih => exact .cons (.int _) ih
  exact this p.2))
theorem plE_gd {p : Pl} (h : PlOk p) : gd (plE p) = true ∧ nod (plE p) ≤ 16 ∧ (plE p).depth ≤ 1 := by
  have : ∀ ks : List Nat, (∀ k ∈ ks, k ≤ 5000) → gds (ks.map fun k : Nat => PyData.int k) = true ∧ nods (ks.map fun k : Nat => PyData.int k) = ks.length ∧ PyData.depthAll (ks.map fun k : Nat => PyData.int k) = 0 := fun ks => by
    induction ks with
    | nil => exact fun _ => ⟨by simp only [List.map_nil, gds], by simp only [List.map_nil, nods, List.length_nil], by simp only [List.map_nil, PyData.depthAll]⟩
    | cons k ks ih =>
      intro h
      have i2 := ih fun z m => h z (List.mem_cons_of_mem _ m)
      have kb := h k List.mem_cons_self
      have g : gd (.int (k : Int)) = true := gd_int (Nat.lt_of_le_of_lt (show ((k : Nat) : Int).natAbs ≤ 5000 from by omega) (Nat.lt_of_lt_of_le (by decide : 5000 < 2 ^ 13) (Nat.pow_le_pow_right (by decide) (by decide))))
      exact ⟨by simp only [List.map_cons, gds, g, i2.1, Bool.and_self], by simp only [List.map_cons, nods, nod, i2.2.1, List.length_cons]; omega, by simp only [List.map_cons, PyData.depthAll, PyData.depth, i2.2.2, Nat.max_self]⟩
  have q := this p.2 h.sm
  have f := h.few
  have g0 := h.nm.gd (by decide)
  refine ⟨?_, by simp only [plE, nod, nods, q.2.1]; omega, by simp only [plE, PyData.depth, PyData.depthAll, q.2.2]; omega⟩
  have e : gd (plE p) = (gd (.str p.1) && gds (p.2.map fun k : Nat => PyData.int k)) := by
    show gd (.tuple (_ :: _)) = _
    rw [gd_tup, gds_cons]
  rw [e, g0, q.1]
  rfl
theorem plE_eqv (p q : Pl) : PyData.eqv (plE p) (plE q) = decide (p = q) := by
  obtain ⟨n, ks⟩ := p
  obtain ⟨m, ls⟩ := q
  have all : ∀ ks ls : List Nat, PyData.eqvAll (ks.map fun k : Nat => PyData.int k) (ls.map fun k : Nat => PyData.int k) = decide (ks = ls) := fun ks => by
    induction ks with
    | nil =>
      intro ls
      cases ls with
      | nil => simp [PyData.eqvAll]
      | cons l ls => simp [PyData.eqvAll]
    | cons k ks ih =>
      intro ls
      cases ls with
      | nil => simp [PyData.eqvAll]
      | cons l ls =>
        rw [List.map_cons, List.map_cons, PyData.eqvAll, ih]
        by_cases h : k = l
        · subst h
          simp [PyData.eqv]
        · have : ¬ ((k : Int) = (l : Int)) := by omega
          simp [PyData.eqv, h, this]
  show PyData.eqv (.tuple (_ :: _)) (.tuple (_ :: _)) = _
  rw [PyData.eqv, PyData.eqvAll, all]
  by_cases h : n = m
  · subst h
    simp [PyData.eqv]
  · simp [PyData.eqv, h]
/-- leaves compared -/
def lfEq : Tm → Tm → Bool
  | .lit d, .lit e => PyData.eqv d e
  | .who p, .who q => decide (p = q)
  | .shi p b, .shi q c => decide (p = q) && decide (b = c)
  | _, _ => false
def oneEq : Tm → Tm → Bool
  | .bui a, .bui b => decide (a.length = b.length)
  | t, u => lfEq t u
def sameF : List Tm → List Tm → Bool
  | t :: ts, u :: us => oneEq t u && sameF ts us
  | _, _ => true
def eqTm : Tm → Tm → Bool
  | .bui a, .bui b => decide ((Tm.bui a).wt = (Tm.bui b).wt) && sameF (Tm.bui a).fl (Tm.bui b).fl
  | t, u => lfEq t u
def spEqT (K : PySem.W.Frag) (C : TI → Addr) (ok : Tm → Prop) : Sp := fun vs H Q _ => ∃ v y t u, vs = [v, y] ∧ TmA K C H v t ∧ TmA K C H y u ∧ t.ok ∧ u.ok ∧ t.wt ≤ 900 ∧ u.wt ≤ 900 ∧ ok t ∧ ∀ H', Same H H' → Q (.bl (eqTm t u)) H'
section
variable {P : Program} {w : World} {K : PySem.W.Frag} {mg : Str → Option Value} {base : Heap} {f : Addr} {fd : FuncData} {C fE : TI → Addr}
theorem lf_data {d : PyData} (h : (Tm.lit d).ok) : SeqAt.shaped d = true := by
  simp only [Tm.ok] at h
  rcases h with ⟨i, rfl, hi⟩ | ⟨x, rfl, sx⟩
  · exact shaped_of (gd_int (Nat.lt_of_le_of_lt hi (Nat.lt_of_lt_of_le (by decide : 10 ^ 9 < 2 ^ 30) (Nat.pow_le_pow_right (by decide) (by decide))))) (by simp only [PyData.depth]; omega)
  · exact shaped_of (sx.gd (by decide)) (by simp only [PyData.depth]; omega)
theorem ok_eqL {k : Nat} (F : Fun K "__eq__" "Literal.__eq__" sEqL f fd) (T : TmC K mg C fE) (B : Bi mg) : FnOk P w K mg base CX0 (k + 1) f fd ["self", "other"] (spEqT K C fun t => t.ix = .l) := by
  refine F.ok scEqL (fun vs H Q E h => ?_) (fun cdv A outer s H vs Q E hr h => ?_)
  · obtain ⟨v, y, t, u, rfl, _⟩ := h
    rfl
  obtain ⟨v, y, t, u, rfl, ht, hu, tok, uok, tw, uw, hi, q⟩ := h
  refine ⟨_, pss_one (ps_ret (pe_and (pe_callB call_isi (by rfl) B.ii b_ii (pa_cons (pv 1) (pa_cons (pe_glob (by rfl) T.mL (v := .ref (C .l)) rfl) pa_nil)))
    (pe_one (pe_cmpR (op_eqD hr.units) (pe_fld (pv 0) rfl) (pe_fld (pv 1) rfl) (nomark _))))), ?_⟩
  obtain ⟨b, dy, gs, rfl, hb⟩ := hu.ins
  have q := q H (Same.refl H)
  cases ht with
  | who _ _ _ => cases hi
  | shi _ _ _ => cases hi
  | bui _ _ _ _ _ _ _ _ => cases hi
  | @lit a dx e v d h1 h2 h3 =>
    refine ⟨_, rfl, .ref b, .ref (C .l), _, _, _, rfl, .own _, ins_ty T.fam hb, kit_fam T.fam u.ix .l, _, rfl, ?_⟩
    cases hu with
    | who _ _ _ => exact iteF q
    | shi _ _ _ => exact iteF q
    | bui _ _ _ _ _ _ _ _ => exact iteF q
    | @lit a2 dx2 e2 v2 d2 g1 g2 g3 =>
      have cl := (T.fam.o .l).c.cl
      have na := T.na .l "value" (by simp [attsT])
      exact iteT ⟨_, rfl, a, C .l, dx, _, v, rfl, h1, cl, na, flL_v _ _, _, rfl, _, C .l, dx2, _, v2, rfl, g1, cl, na, flL_v _ _, d, d2, h2, g2, lf_data tok, lf_data uok, q⟩
theorem pl_shaped {p : Pl} (h : PlOk p) : SeqAt.shaped (plE p) = true := shaped_of (plE_gd h).1 (by have := (plE_gd h).2.2; omega)
theorem ok_eqW {k : Nat} (F : Fun K "__eq__" "Whole.__eq__" sEqW f fd) (T : TmC K mg C fE) (B : Bi mg) : FnOk P w K mg base CX0 (k + 1) f fd ["self", "other"] (spEqT K C fun t => t.ix = .w) := by
  refine F.ok scEqW (fun vs H Q E h => ?_) (fun cdv A outer s H vs Q E hr h => ?_)
  · obtain ⟨v, y, t, u, rfl, _⟩ := h
    rfl
  obtain ⟨v, y, t, u, rfl, ht, hu, tok, uok, tw, uw, hi, q⟩ := h
  refine ⟨_, pss_one (ps_ret (pe_and (pe_callB call_isi (by rfl) B.ii b_ii (pa_cons (pv 1) (pa_cons (pe_glob (by rfl) T.mW (v := .ref (C .w)) rfl) pa_nil)))
    (pe_one (pe_cmpR (op_eqD hr.units) (pe_fld (pv 0) rfl) (pe_fld (pv 1) rfl) (nomark _))))), ?_⟩
  obtain ⟨b, dy, gs, rfl, hb⟩ := hu.ins
  have q := q H (Same.refl H)
  cases ht with
  | lit _ _ _ => cases hi
  | shi _ _ _ => cases hi
  | bui _ _ _ _ _ _ _ _ => cases hi
  | @who a dx pq e p h1 h2 h3 =>
    refine ⟨_, rfl, .ref b, .ref (C .w), _, _, _, rfl, .own _, ins_ty T.fam hb, kit_fam T.fam u.ix .w, _, rfl, ?_⟩
    cases hu with
    | lit _ _ _ => exact iteF q
    | shi _ _ _ => exact iteF q
    | bui _ _ _ _ _ _ _ _ => exact iteF q
    | @who a2 dx2 pq2 e2 p2 g1 g2 g3 =>
      have cl := (T.fam.o .w).c.cl
      have na := T.na .w "place" (by simp [attsT])
      simp only [Tm.ok] at tok uok
      refine iteT ⟨_, rfl, a, C .w, dx, _, _, rfl, h1, cl, na, flW_q _ _, _, rfl, _, C .w, dx2, _, _, rfl, g1, cl, na, flW_q _ _, plE p, plE p2, plE_dp (.inl (.inl h2)), plE_dp (.inl (.inl g2)), pl_shaped tok, pl_shaped uok, ?_⟩
      rw [plE_eqv]
      exact q
theorem ok_eqS {k : Nat} (F : Fun K "__eq__" "Shifted.__eq__" sEqS f fd) (T : TmC K mg C fE) (B : Bi mg) : FnOk P w K mg base CX0 (k + 1) f fd ["self", "other"] (spEqT K C fun t => t.ix = .s) := by
  refine F.ok scEqS (fun vs H Q E h => ?_) (fun cdv A outer s H vs Q E hr h => ?_)
  · obtain ⟨v, y, t, u, rfl, _⟩ := h
    rfl
  obtain ⟨v, y, t, u, rfl, ht, hu, tok, uok, tw, uw, hi, q⟩ := h
  refine ⟨_, pss_one (ps_ret (pe_and (pe_callB call_isi (by rfl) B.ii b_ii (pa_cons (pv 1) (pa_cons (pe_glob (by rfl) T.mS (v := .ref (C .s)) rfl) pa_nil)))
    (pe_and (pe_cmpR (op_eqD hr.units) (pe_fld (pv 0) rfl) (pe_fld (pv 1) rfl) (nomark _)) (pe_one (pe_cmpR op_eq (pe_fld (pv 0) rfl) (pe_fld (pv 1) rfl) (nomark _)))))), ?_⟩
  obtain ⟨b, dy, gs, rfl, hb⟩ := hu.ins
  have q := q H (Same.refl H)
  cases ht with
  | lit _ _ _ => cases hi
  | who _ _ _ => cases hi
  | bui _ _ _ _ _ _ _ _ => cases hi
  | @shi a dx pq e b1 p h1 h2 h3 =>
    refine ⟨_, rfl, .ref b, .ref (C .s), _, _, _, rfl, .own _, ins_ty T.fam hb, kit_fam T.fam u.ix .s, _, rfl, ?_⟩
    cases hu with
    | lit _ _ _ => exact iteF q
    | who _ _ _ => exact iteF q
    | bui _ _ _ _ _ _ _ _ => exact iteF q
    | @shi a2 dx2 pq2 e2 b2 p2 g1 g2 g3 =>
      have cl := (T.fam.o .s).c.cl
      have na := T.na .s "place" (by simp [attsT])
      have nb := T.na .s "by" (by simp [attsT])
      simp only [Tm.ok] at tok uok
      refine iteT ⟨_, rfl, a, C .s, dx, _, _, rfl, h1, cl, na, flS_q _ _ _, _, rfl, _, C .s, dx2, _, _, rfl, g1, cl, na, flS_q _ _ _, plE p, plE p2, plE_dp (.inl (.inl h2)), plE_dp (.inl (.inl g2)), pl_shaped tok.1, pl_shaped uok.1, _, rfl, ?_⟩
      rw [plE_eqv]
      have q : Q (.bl (decide (p = p2) && decide (b1 = b2))) H := q
      by_cases c : p = p2
      · rw [decide_eq_true c] at q ⊢
        refine iteT ⟨_, rfl, a, C .s, dx, _, _, rfl, h1, cl, nb, flS_b _ _ _, _, rfl, _, C .s, dx2, _, _, rfl, g1, cl, nb, flS_b _ _ _, rfl, ?_⟩
        have z : decide (V.int b1 = V.int b2) = decide (b1 = b2) := by
          by_cases h : b1 = b2
          · rw [h, decide_eq_true rfl, decide_eq_true rfl]
          · rw [decide_eq_false h, decide_eq_false fun z => h (V.int.inj z)]
        show Q (.bl (decide (V.int b1 = V.int b2))) H
        rw [z]
        exact q
      · rw [decide_eq_false c] at q ⊢
        exact iteF q
end
/-! is_same_tree -/
mutual
theorem Tm.fl_wt : ∀ t : Tm, ∀ u ∈ t.fl, u.wt ≤ t.wt
  | .bui ts, u, m => by
    simp only [Tm.fl, List.mem_cons] at m
    rcases m with e | m
    · rw [e]; exact Nat.le_refl _
    · have := Tm.fls_wt ts u m
      simp only [Tm.wt]
      omega
  | .lit d, u, m => by
    have e : u = .lit d := by simpa [Tm.fl] using m
    rw [e]; exact Nat.le_refl _
  | .who p, u, m => by
    have e : u = .who p := by simpa [Tm.fl] using m
    rw [e]; exact Nat.le_refl _
  | .shi p b, u, m => by
    have e : u = .shi p b := by simpa [Tm.fl] using m
    rw [e]; exact Nat.le_refl _
theorem Tm.fls_wt : ∀ ts : List Tm, ∀ u ∈ Tm.fls ts, u.wt ≤ Tm.wts ts
  | [], _, m => nomatch m
  | t :: ts, u, m => by
    simp only [Tm.fls, List.mem_append] at m
    simp only [Tm.wts]
    rcases m with m | m
    · have := Tm.fl_wt t u m
      omega
    · have := Tm.fls_wt ts u m
      omega
end
def spSame (K : PySem.W.Frag) (C : TI → Addr) : Sp := fun vs H Q _ => ∃ v y t u, vs = [v, y] ∧ TmA K C H v t ∧ TmA K C H y u ∧ t.ok ∧ u.ok ∧ t.wt ≤ 900 ∧ u.wt ≤ 900 ∧ ∀ H', Same H H' → Q (.bl (sameF t.fl u.fl)) H'
theorem sameF_cut : ∀ (ts us : List Tm) (i : Nat), (∀ j, j < i → ∀ t u, ts[j]? = some t → us[j]? = some u → oneEq t u = true) → sameF ts us = sameF (ts.drop i) (us.drop i)
  | _, _, 0, _ => rfl
  | [], us, i + 1, _ => by simp [sameF]
  | t :: ts, [], i + 1, _ => by simp [sameF]
  | t :: ts, u :: us, i + 1, h => by
    have h0 := h 0 (by omega) t u rfl rfl
    have ih := sameF_cut ts us i fun j hj a b ha hb => h (j + 1) (by omega) a b ha hb
    show (oneEq t u && sameF ts us) = _
    rw [h0, Bool.true_and, ih]
    rfl
theorem same_nil {ts us : List Tm} (h : ts = [] ∨ us = []) : sameF ts us = true := by
  rcases h with h | h
  · rw [h]; cases us <;> rfl
  · rw [h]; cases ts <;> rfl
section
variable {P : Program} {w : World} {K : PySem.W.Frag} {mg : Str → Option Value} {base : Heap} {f fF : Addr} {fd dF : FuncData} {C fE : TI → Addr} {dE : TI → FuncData}
theorem ok_same {k : Nat} (F : Fun K "is_same_tree" "is_same_tree" sSame f fd) (T : TmC K mg C fE) (B : Bi mg) (mz : mg "zip" = none) (GF : Dn P w K mg base 1 "flat_terms" ["term"] (spFlat K C) fF dF)
    (GE : ∀ i, FnOk P w K mg base CX0 1 (fE i) (dE i) ["self", "other"] (spEqT K C fun t => t.ix = i ∧ isBui t = false)) (bE : ∀ i, Binds K (dE i) ["self", "other"] []) : FnOk P w K mg base CX0 (k + 3) f fd ["one", "other"] (spSame K C) := by
  refine F.ok scSame (fun vs H Q E h => ?_) (fun cdv A outer s H vs Q E hr h => ?_)
  · obtain ⟨v, y, t, u, rfl, _⟩ := h
    rfl
  obtain ⟨v, y, t, u, rfl, ht, hu, tok, uok, tw, uw, q⟩ := h
  have hr1 : Room 1 _ := hr.mono (by omega)
  have hr2 : Room 2 _ := hr.mono (by omega)
  refine ⟨_, pss_cons (ps_for PassesOwn.never rfl (pi_zip (by rfl) mz (pa_cons (pe_call GF.ok hr1 (by rfl) GF.mg GF.kp GF.bd .nil pass0 (pa_cons (pv 0) pa_nil)) (pa_cons (pe_call GF.ok hr1 (by rfl) GF.mg GF.kp GF.bd .nil pass0 (pa_cons (pv 1) pa_nil)) pa_nil)))
        (pg_tup (by rfl) (pgs_cons (pg_name (i := 2) scSame.nd rfl (.inl rfl)) (pgs_cons (pg_name (i := 3) scSame.nd rfl (.inl rfl)) pgs_nil)))
      (pss_one (ps_if (PW.pt (pw_and (pt_val (pe_callB call_isi (by rfl) B.ii b_ii (pa_cons (pv 2) (pa_cons (pe_glob (by rfl) T.mB (v := .ref (C .b)) rfl) pa_nil))))
          (pw_and1 (pt_val (pe_callB call_isi (by rfl) B.ii b_ii (pa_cons (pv 3) (pa_cons (pe_glob (by rfl) T.mB (v := .ref (C .b)) rfl) pa_nil)))))))
        (pss_one (ps_if (pt_cmpR op_ne (pe_callB call_len_seq (by rfl) B.len PySem.boot_len (pa_cons (pe_fld (pv 2) rfl) pa_nil)) (pe_callB call_len_seq (by rfl) B.len PySem.boot_len (pa_cons (pe_fld (pv 3) rfl) pa_nil)) (nomark _)) (pss_one (ps_ret pe_bl)) pss_nil))
        (pss_one (ps_if (PW.pt (pw_or (pt_val (pe_callB call_isi (by rfl) B.ii b_ii (pa_cons (pv 2) (pa_cons (pe_glob (by rfl) T.mB (v := .ref (C .b)) rfl) pa_nil))))
          (pw_or1 (pt_cmpR (op_neM T.fam GE bE hr2) (pv 2) (pv 3) (nomark _))))) (pss_one (ps_ret pe_bl)) pss_nil)))))
    (pss_one (ps_ret pe_bl)), ?_⟩
  refine ⟨_, rfl, v, t, H, rfl, Same.refl _, ht, tw, fun p1 fs H1 s1 hp1 h1 fA => ?_⟩
  refine ⟨_, rfl, y, u, H, rfl, s1, hu, uw, fun p2 gs H2 s2 hp2 h2 gA => ?_⟩
  have s12 := s1.trans s2
  have h12 := s2 _ _ h1
  have okT := Tm.fl_ok t tok
  have okU := Tm.fl_ok u uok
  have lf := fA.len
  have lg := gA.len
  refine ⟨p1, p2, fs, gs, rfl, SqL.of h12, SqL.of h2, for_it (walk_zip (K := K) (a := p1) (b := p2) (xs := fs) (ys := gs) rfl) (fun i σ H3 => ∃ o2 o3, σ = [some v, some y, o2, o3] ∧ Same H2 H3 ∧ ∀ j, j < i → ∀ a b, t.fl[j]? = some a → u.fl[j]? = some b → oneEq a b = true)
    ⟨none, none, rfl, Same.refl _, fun j z => absurd z (by omega)⟩ ?_ ?_ ?_⟩
  · rintro i σ H3 hi ⟨o2, o3, rfl, s3, _⟩
    exact ⟨SqL.of (s3 _ _ h12), SqL.of (s3 _ _ h2)⟩
  · rintro i z σ H3 H4 hi ⟨o2, o3, rfl, s3, hj⟩ ⟨T4, xa, xb, rfl, hT4, rfl, hxa, hxb⟩
    obtain ⟨a, ha, aA⟩ := fA.get hxa
    obtain ⟨b, hb, bA⟩ := gA.get hxb
    have s4 := same_new hT4 (.tup [xa, xb])
    have sH4 : Same H (upd H3 T4 (.tup [xa, xb])) := s12.trans (s3.trans s4)
    have s24 : Same H2 (upd H3 T4 (.tup [xa, xb])) := s3.trans s4
    have hT : (upd H3 T4 (.tup [xa, xb])) T4 = some (.tup [xa, xb]) := upd_same
    generalize upd H3 T4 (.tup [xa, xb]) = H4 at *
    have aok := okT a (List.mem_of_getElem? ha)
    have bok := okU b (List.mem_of_getElem? hb)
    have aA4 := TmA.up sH4 a xa aA
    have bA4 := TmA.up sH4 b xb bA
    obtain ⟨ra, dxa, fsa, rfl, hra⟩ := aA4.ins
    obtain ⟨rb, dxb, fsb, rfl, hrb⟩ := bA4.ins
    -- what the turn tells
    have bad : oneEq a b = false → sameF t.fl u.fl = false := fun e => by
      rw [sameF_cut _ _ i hj]
      have d1 : t.fl.drop i = a :: t.fl.drop (i + 1) := by obtain ⟨hi2, e⟩ := List.getElem?_eq_some_iff.mp ha; rw [List.drop_eq_getElem_cons hi2, e]
      have d2 : u.fl.drop i = b :: u.fl.drop (i + 1) := by obtain ⟨hi2, e⟩ := List.getElem?_eq_some_iff.mp hb; rw [List.drop_eq_getElem_cons hi2, e]
      rw [d1, d2]
      show (oneEq a b && _) = false
      rw [e, Bool.false_and]
    have good : oneEq a b = true → ∀ j, j < i + 1 → ∀ x z, t.fl[j]? = some x → u.fl[j]? = some z → oneEq x z = true := fun e j hj2 x z hx hz => by
      by_cases c : j = i
      · subst c
        rw [ha] at hx
        rw [hb] at hz
        cases hx
        cases hz
        exact e
      · exact hj j (by omega) x z hx hz
    refine ⟨T4, _, rfl, .inl (.inl hT), rfl, _, _, rfl, _, _, rfl, rfl, ?_⟩
    have kA : PySem.W.kitOne K (.ref (C a.ix)) (.ref (C .b)) = some (isBui a) := by rw [kit_fam T.fam, bui_ix]
    have kB : PySem.W.kitOne K (.ref (C b.ix)) (.ref (C .b)) = some (isBui b) := by rw [kit_fam T.fam, bui_ix]
    cases hA : isBui a with
    | true =>
      rw [hA] at kA
      refine ⟨_, rfl, .ref ra, .ref (C .b), _, _, true, rfl, .own _, ins_ty T.fam hra, kA, _, rfl, iteT ?_⟩
      cases hB : isBui b with
      | true =>
        rw [hB] at kB
        refine ⟨_, rfl, .ref rb, .ref (C .b), _, _, true, rfl, .own _, ins_ty T.fam hrb, kB, _, rfl, iteT ?_⟩
        cases aA4 with
        | lit _ _ _ => cases hA
        | who _ _ _ => cases hA
        | shi _ _ _ => cases hA
        | @bui _ _ pa ea va ta ba psa x1 x2 x3 x4 x5 x6 x7 x8 =>
          cases bA4 with
          | lit _ _ _ => cases hB
          | who _ _ _ => cases hB
          | shi _ _ _ => cases hB
          | @bui _ _ pb eb vb tb bb psb y1 y2 y3 y4 y5 y6 y7 y8 =>
            have cl := (T.fam.o .b).c.cl
            have na := T.na .b "parts" (by simp [attsT])
            have la := x3.len
            have lb := y3.len
            refine ⟨_, rfl, ra, C .b, _, _, _, rfl, x1, cl, na, flB_q _ _ _, pa, va, rfl, .inr x2, _, rfl, rb, C .b, _, _, _, rfl, y1, cl, na, flB_q _ _ _, pb, vb, rfl, .inr y2, rfl, _, rfl, ?_⟩
            have z : decide (V.int (va.length : Int) = V.int (vb.length : Int)) = decide (ta.length = tb.length) := by
              rw [la, lb]
              by_cases h : ta.length = tb.length
              · rw [h, decide_eq_true rfl, decide_eq_true rfl]
              · rw [decide_eq_false h, decide_eq_false (fun z : V.int (ta.length : Int) = V.int (tb.length : Int) => h (by have := V.int.inj z; omega))]
            show (if (!decide (V.int (va.length : Int) = V.int (vb.length : Int))) = true then _ else _)
            rw [z]
            cases hd : decide (ta.length = tb.length) with
            | true => exact iteF ⟨_, _, rfl, s24, good hd⟩
            | false =>
              have q := q
              rw [bad hd] at q
              exact iteT (q _ sH4)
      | false =>
        rw [hB] at kB
        refine ⟨_, rfl, .ref rb, .ref (C .b), _, _, false, rfl, .own _, ins_ty T.fam hrb, kB, _, rfl, iteF ?_⟩
        refine ⟨_, rfl, .ref ra, .ref (C .b), _, _, true, rfl, .own _, ins_ty T.fam hra, kA, _, rfl, iteT (iteT ?_)⟩
        have e : oneEq a b = false := by
          cases a with
          | bui ta => cases b <;> first | rfl | cases hB
          | _ => cases hA
        rw [bad e] at q
        exact q _ sH4
    | false =>
      rw [hA] at kA
      refine ⟨_, rfl, .ref ra, .ref (C .b), _, _, false, rfl, .own _, ins_ty T.fam hra, kA, _, rfl, iteF (iteF ?_)⟩
      refine ⟨_, rfl, .ref ra, .ref (C .b), _, _, false, rfl, .own _, ins_ty T.fam hra, kA, _, rfl, iteF ?_⟩
      have e : eqTm a b = oneEq a b := by cases a <;> first | (cases b <;> rfl) | cases hA
      refine ⟨_, rfl, _, rfl, a.ix, ra, dxa, fsa, rfl, hra, .inr ⟨b.ix, rb, dxb, fsb, rfl, hrb⟩, .ref ra, .ref rb, a, b, rfl, aA4, bA4, aok, bok, ?_, ?_, ⟨rfl, hA⟩, fun H5 s5 => ⟨_, rfl, _, rfl, ?_⟩⟩
      · exact Nat.le_trans (Tm.fl_wt t a (List.mem_of_getElem? ha)) tw
      · exact Nat.le_trans (Tm.fl_wt u b (List.mem_of_getElem? hb)) uw
      · rw [e]
        cases hd : oneEq a b with
        | true => exact iteF ⟨_, _, rfl, s24.trans s5, good hd⟩
        | false =>
          have q := q
          rw [bad hd] at q
          exact iteT (q _ (sH4.trans s5))
  · rintro σ H3 ⟨o2, o3, rfl, s3, hj⟩
    have e : sameF t.fl u.fl = true := by
      rw [sameF_cut _ _ _ hj]
      refine same_nil ?_
      by_cases c : fs.length ≤ gs.length
      · exact .inl (List.drop_eq_nil_of_le (by omega))
      · exact .inr (List.drop_eq_nil_of_le (by omega))
    rw [e] at q
    exact q _ (s12.trans s3)
theorem ok_eqB {k : Nat} {fS : Addr} {dS : FuncData} (F : Fun K "__eq__" "Built.__eq__" sEqB f fd) (T : TmC K mg C fE) (B : Bi mg) (GS : Dn P w K mg base 3 "is_same_tree" ["one", "other"] (spSame K C) fS dS) : FnOk P w K mg base CX0 (k + 4) f fd ["self", "other"] (spEqT K C fun t => t.ix = .b) := by
  refine F.ok scEqB (fun vs H Q E h => ?_) (fun cdv A outer s H vs Q E hr h => ?_)
  · obtain ⟨v, y, t, u, rfl, _⟩ := h
    rfl
  obtain ⟨v, y, t, u, rfl, ht, hu, tok, uok, tw, uw, hi, q⟩ := h
  have hr3 : Room 3 _ := hr.mono (by omega)
  refine ⟨_, pss_one (ps_ret (pe_and (pe_callB call_isi (by rfl) B.ii b_ii (pa_cons (pv 1) (pa_cons (pe_glob (by rfl) T.mB (v := .ref (C .b)) rfl) pa_nil)))
    (pe_and (pe_cmpR op_eq (pe_fld (pv 0) rfl) (pe_fld (pv 1) rfl) (nomark _)) (pe_one (pe_call GS.ok hr3 (by rfl) GS.mg GS.kp GS.bd .nil pass0 (pa_cons (pv 0) (pa_cons (pv 1) pa_nil))))))), ?_⟩
  obtain ⟨b, dy, gs, rfl, hb⟩ := hu.ins
  have ht0 := ht
  have hu0 := hu
  cases ht with
  | lit _ _ _ => cases hi
  | who _ _ _ => cases hi
  | shi _ _ _ => cases hi
  | @bui a dx pa ea va ta ba psa x1 x2 x3 x4 x5 x6 x7 x8 =>
    have q0 := q H (Same.refl H)
    refine ⟨_, rfl, .ref b, .ref (C .b), _, _, _, rfl, .own _, ins_ty T.fam hb, kit_fam T.fam u.ix .b, _, rfl, ?_⟩
    cases hu with
    | lit _ _ _ => exact iteF q0
    | who _ _ _ => exact iteF q0
    | shi _ _ _ => exact iteF q0
    | @bui _ dx2 pb eb vb tb bb psb y1 y2 y3 y4 y5 y6 y7 y8 =>
      have cl := (T.fam.o .b).c.cl
      have na := T.na .b "weight" (by simp [attsT])
      refine iteT ⟨_, rfl, a, C .b, dx, _, _, rfl, x1, cl, na, flB_w _ _ _, _, rfl, b, C .b, dx2, _, _, rfl, y1, cl, na, flB_w _ _ _, rfl, _, rfl, ?_⟩
      have wa : (Tm.bui ta).wt = 1 + Tm.wts ta := by rw [Tm.wt]
      have wb : (Tm.bui tb).wt = 1 + Tm.wts tb := by rw [Tm.wt]
      have z : decide (V.int ((1 + Tm.wts ta : Nat) : Int) = V.int ((1 + Tm.wts tb : Nat) : Int)) = decide ((Tm.bui ta).wt = (Tm.bui tb).wt) := by
        rw [wa, wb]
        by_cases h : 1 + Tm.wts ta = 1 + Tm.wts tb
        · rw [h, decide_eq_true rfl, decide_eq_true rfl]
        · rw [decide_eq_false h, decide_eq_false (fun z : V.int ((1 + Tm.wts ta : Nat) : Int) = V.int ((1 + Tm.wts tb : Nat) : Int) => h (by have := V.int.inj z; omega))]
      rw [z]
      have q : ∀ H', Same H H' → Q (.bl (decide ((Tm.bui ta).wt = (Tm.bui tb).wt) && sameF (Tm.bui ta).fl (Tm.bui tb).fl)) H' := q
      cases hd : decide ((Tm.bui ta).wt = (Tm.bui tb).wt) with
      | false =>
        rw [hd] at q
        exact iteF (q H (Same.refl H))
      | true =>
        rw [hd] at q
        exact iteT ⟨_, rfl, _, rfl, .ref a, .ref b, .bui ta, .bui tb, rfl, ht0, hu0, tok, uok, tw, uw, q⟩
theorem ok_strB {k : Nat} {fW : Addr} {dW : FuncData} (F : Fun K "__str__" "Built.__str__" sStrB f fd) (T : TmC K mg C fE) (B : Bi mg) (GW : Dn P w K mg base 5 "words_of" ["term"] (spWords K C) fW dW) : FnOk P w K mg base CX0 (k + 6) f fd ["self"] (fun vs H Q E => ∃ v t, vs = [v] ∧ TmA K C H v t ∧ t.ok ∧ t.wt ≤ 900 ∧ t.ix = .b ∧ ∀ H', Same H H' → Q (.str t.txt) H') := by
  refine F.ok scStrB (fun vs H Q E h => ?_) (fun cdv A outer s H vs Q E hr h => ?_)
  · obtain ⟨v, t, rfl, _⟩ := h
    rfl
  obtain ⟨v, t, rfl, ht, ok, hw, hi, q⟩ := h
  have hr5 : Room 5 _ := hr.mono (by omega)
  refine ⟨_, pss_one (ps_ret (pe_join pe_str (pe_call GW.ok hr5 (by rfl) GW.mg GW.kp GW.bd .nil pass0 (pa_cons (pv 0) pa_nil)))), ?_⟩
  refine ⟨⟨_, rfl⟩, _, rfl, v, t, rfl, ht, ok, hw, fun p H1 s1 h1 => ?_⟩
  refine ⟨_, p, t.wd, rfl, rfl, .inl (SqL.of h1), ?_, q H1 s1⟩
  have a := Tm.wd_len t
  have c := sum_le (Tm.wd_fit t ok)
  have e : ((" " : Str)).length = 1 := by decide +kernel
  have m : t.wd.length * 220 ≤ 1800 * 220 := Nat.mul_le_mul_right _ (by omega)
  rw [e]
  omega
end
/-! a part replaced -/
def putM : PyData → List Nat → PyData → PyData
  | _, [], x => x
  | .tuple ds, k :: ks, x => match ds[k]? with
    | some e => .tuple (ds.take k ++ putM e ks x :: ds.drop (k + 1))
    | none => .tuple ds
  | d, _ :: _, _ => d
theorem putM_nil (d x : PyData) : putM d [] x = x := by cases d <;> rfl
theorem putM_tup {ds : List PyData} {k : Nat} {ks : List Nat} {e : PyData} (x : PyData) (h : ds[k]? = some e) : putM (.tuple ds) (k :: ks) x = .tuple (ds.take k ++ putM e ks x :: ds.drop (k + 1)) := by
  show (match ds[k]? with
    | some e => PyData.tuple (ds.take k ++ putM e ks x :: ds.drop (k + 1))
    | none => .tuple ds) = _
  rw [h]
/-- the layers, one by one -/
theorem layM_all : ∀ {ks : List Nat} {d : PyData} {ls : List PyData}, layM d ks = some ls → ls.length = ks.length + 1 ∧ ls[0]? = some d ∧ ∀ (j k : Nat), ks[j]? = some k → ∃ ds e, ls[j]? = some (.tuple ds) ∧ ds[k]? = some e ∧ ls[j + 1]? = some e
  | [], d, ls, h => by
    have e : layM d [] = some [d] := by cases d <;> rfl
    rw [e] at h
    cases h
    exact ⟨rfl, rfl, fun j k z => by simp at z⟩
  | k :: ks, d, ls, h => by
    cases ht : isTup d with
    | false =>
      rw [layM_no ht] at h
      cases h
    | true =>
      obtain ⟨ds, rfl⟩ : ∃ ds, d = .tuple ds := by
        cases d with
        | tuple ds => exact ⟨ds, rfl⟩
        | _ => cases ht
      cases h3 : ds[k]? with
      | none =>
        have e : layM (.tuple ds) (k :: ks) = none := by
          show (match ds[k]? with
            | some e => (layM e ks).map (PyData.tuple ds :: ·)
            | none => none) = _
          rw [h3]
        rw [e] at h
        cases h
      | some e3 =>
        rw [layM_tup h3] at h
        cases h4 : layM e3 ks with
        | none => rw [h4] at h; cases h
        | some l4 =>
          rw [h4] at h
          cases h
          obtain ⟨a1, a2, a3⟩ := layM_all h4
          refine ⟨by rw [List.length_cons, a1, List.length_cons], rfl, fun j k2 z => ?_⟩
          cases j with
          | zero =>
            have z : some k = some k2 := by simpa using z
            cases z
            exact ⟨ds, e3, rfl, h3, by simpa using a2⟩
          | succ j =>
            obtain ⟨ds2, e2, b1, b2, b3⟩ := a3 j k2 (by simpa using z)
            exact ⟨ds2, e2, by simpa using b1, b2, by simpa using b3⟩
theorem layM_nod : ∀ {ks : List Nat} {d : PyData} {ls : List PyData}, layM d ks = some ls → ∀ e ∈ ls, nod e ≤ nod d
  | [], d, ls, h, e, m => by
    have e1 : layM d [] = some [d] := by cases d <;> rfl
    rw [e1] at h
    cases h
    rw [List.mem_singleton.mp m]
    exact Nat.le_refl _
  | k :: ks, d, ls, h, e, m => by
    cases ht : isTup d with
    | false =>
      rw [layM_no ht] at h
      cases h
    | true =>
      obtain ⟨ds, rfl⟩ : ∃ ds, d = .tuple ds := by
        cases d with
        | tuple ds => exact ⟨ds, rfl⟩
        | _ => cases ht
      cases h3 : ds[k]? with
      | none =>
        have e1 : layM (.tuple ds) (k :: ks) = none := by
          show (match ds[k]? with
            | some e => (layM e ks).map (PyData.tuple ds :: ·)
            | none => none) = _
          rw [h3]
        rw [e1] at h
        cases h
      | some e3 =>
        rw [layM_tup h3] at h
        cases h4 : layM e3 ks with
        | none => rw [h4] at h; cases h
        | some l4 =>
          rw [h4] at h
          cases h
          rcases List.mem_cons.mp m with z | z
          · rw [z]
            exact Nat.le_refl _
          · have a1 := layM_nod h4 e z
            have a2 := nods_mem (List.mem_of_getElem? h3)
            simp only [nod]
            omega
theorem InsV.ndk {K : PySem.W.Frag} {C : Addr} {H : Hp} {kvs : List (Key × V)} {gs : Ins} (h : InsV K C H kvs gs) : (gs.map (·.1)).Nodup → (kvs.map (·.1)).Nodup := by
  have key : kvs.map (·.1) = gs.map fun g => (Sum.inr g.1 : Key) := by
    induction h with
    | nil => rfl
    | cons h _ ih => rw [List.map_cons, List.map_cons, ih, h.1]
  intro nd
  rw [key]
  have e : (gs.map fun g => (Sum.inr g.1 : Key)) = (gs.map (·.1)).map (Sum.inr : Str → Key) := by
    rw [List.map_map]
    rfl
  rw [e]
  exact nodup_inr nd
theorem InsV.keyAt {K : PySem.W.Frag} {C : Addr} {H : Hp} {kvs : List (Key × V)} {gs : Ins} (h : InsV K C H kvs gs) : ∀ p ∈ kvs, ∃ x, p.1 = Sum.inr x := by
  induction h with
  | nil => exact fun _ m => nomatch m
  | cons h _ ih =>
    intro p m
    rcases List.mem_cons.mp m with e | m
    · subst e
      exact ⟨_, h.1⟩
    · exact ih p m
abbrev sWith : Stmt := topS 8
theorem scWith : FnScope ["inputs", "place", "value", "changed", "layers", "step", "whole", "index", "name"] ["inputs", "place", "value"] (defScope sWith) := ⟨rfl, rfl, rfl, by decide +kernel, rfl, by decide +kernel, by decide +kernel⟩
/-- there is something at the place that may be replaced -/
def okP (gs : Ins) (n : Str) (ks : List Nat) : Bool := if ks.isEmpty then (getI gs n).isSome else (layI gs n ks).isSome
/-- the value of the name behind that -/
def newM (gs : Ins) (n : Str) (ks : List Nat) (x : PyData) : PyData := match getI gs n with
  | some (some d) => putM d ks x
  | _ => x
def spWith (K : PySem.W.Frag) (C CE : Addr) : Sp := fun vs H Q E => ∃ a b v kvs gs n ks x, vs = [.ref a, .ref b, v] ∧ InAt K C H a kvs gs ∧ SqT K H b (plV n ks) ∧ ks.length ≤ 100 ∧ kvs.length ≤ 100 ∧ Dp K H v x ∧ gd x = true ∧ (∀ d, getI gs n = some (some d) → nod d ≤ 100000) ∧
  (okP gs n ks = false → noPl CE H b E) ∧ (okP gs n ks = true → ∀ q u H', Same H H' → H q = none → H' q = some (.dK (putK kvs (.inr n) u)) → Dp K H' u (newM gs n ks x) → Q (.ref q) H')
section
variable {P : Program} {w : World} {K : PySem.W.Frag} {mg : Str → Option Value} {base : Heap} {f C fE CE fI fL : Addr} {fd dI dL : FuncData}
theorem ok_with {k : Nat} (F : Fun K "with_part" "with_part" sWith f fd) (B : Bi mg) (c4 : EC P w K mg base "NoPlace" ["place"] ["place"] CE fI dI) (GL : FnOk P w K mg base (L2.CX P w) 3 fL dL ["inputs", "place"] (spLayers K C CE)) (kL : PySem.W.keepIn K (.ref fL) = true)
    (bL : Binds K dL ["inputs", "place"] []) (mL : mg "layers_at" = some (.ref fL)) : FnOk P w K mg base (L2.CX P w) (k + 4) f fd ["inputs", "place", "value"] (spWith K C CE) := by
  refine F.okX scWith (fun vs H Q E h => ?_) (fun cdv A outer s H vs Q E hr h => ?_)
  · obtain ⟨a, b, v, kvs, gs, n, ks, x, rfl, _⟩ := h
    rfl
  obtain ⟨a, b, v, kvs, gs, n, ks, x, rfl, hI, hb, hk, hk2, hv, hx, hd, qN, qS⟩ := h
  have hr2 : Room 2 _ := hr.mono (by omega)
  have hr3 : Room 3 _ := hr.mono (by omega)
  have hu := hu_of hr
  refine ⟨_, pss_cons (ps_lock (ps_setDc (i := 3) (own := [("name", 8)]) (g := gName 8) (by rfl) scWith.nd rfl rfl (sw_dict rfl rfl rfl (by decide +kernel)) (pi_keys (pv 0))
        (blkOk_by (own := [("name", 8)]) (N := ["inputs", "place", "value", "changed", "layers", "step", "whole", "index", "name"]) (sc := defScope sWith) (by decide +kernel))
        (fun _ _ _ _ _ => pg_name (i := 8) scWith.nd rfl (Or.inl rfl)) (fun _ _ _ _ _ => pts_nil) (fun _ _ _ _ _ => pv 8) (fun _ _ _ _ _ => pe_dget hu (pv 0) (pv 8) (fun _ _ => rfl))))
    (pss_cons (ps_if (pt_cmpR op_eq (pe_callB call_len_seq (by rfl) B.len PySem.boot_len (pa_cons (pv 1) pa_nil)) pe_int (nomark _))
      (pss_cons (ps_if (pt_cmp (pc_dnotin hu (pe_ix ix_tup (pv 1) pe_int (fun _ _ => rfl)) (pv 0)))
        (pss_one (ps_raise rfl (takes_of rfl rfl rfl rfl) (pmk_exK c4.T c4.iC c4.tI c4.ok hr2 c4.bd pass0 (by rfl) c4.mg (pa_cons (pv 1) pa_nil)))) pss_nil)
      (pss_cons (ps_dput hu (pv 3) (pe_ix ix_tup (pv 1) pe_int (fun _ _ => rfl)) (pv 2) rfl)
      (pss_one (ps_ret (pv 3))))) pss_nil)
    (pss_cons (ps_set (i := 4) scWith.nd rfl (.inl rfl) (pe_callS GL hr3 (by rfl) mL kL bL (fun σ => passAt (takes_of rfl rfl rfl rfl) σ) (pa_cons (pv 0) (pa_cons (pv 1) pa_nil))))
    (pss_cons (ps_for (passes_of rfl) rfl (pi_range3 (by rfl) B.rng (pa_cons (pe_op op_sub (pe_callB call_len_seq (by rfl) B.len PySem.boot_len (pa_cons (pv 1) pa_nil)) pe_int) (pa_cons pe_int (pa_cons (pe_un un_neg pe_int) pa_nil)))) (pg_name (i := 5) scWith.nd rfl (.inl rfl))
      (pss_cons (ps_set (i := 6) scWith.nd rfl (.inl rfl) (pe_ix ix_list (pv 4) (pe_op op_sub (pv 5) pe_int) (fun _ _ => rfl)))
      (pss_cons (ps_set (i := 7) scWith.nd rfl (.inl rfl) (pe_ix ix_tup (pv 1) (pv 5) (fun _ _ => rfl)))
      (pss_one (ps_set (i := 2) scWith.nd rfl (.inl rfl) (pe_tup (StX.pa_star (pe_slice sl_tupU (pv 6) po_none (po_some (pv 7))) (pa_cons (pv 2) (StX.pa_star (pe_slice sl_tupU (pv 6) (po_some (pe_op op_add (pv 7) pe_int)) po_none) pa_nil)))))))))
    (pss_cons (ps_dput hu (pv 3) (pe_ix ix_tup (pv 1) pe_int (fun _ _ => rfl)) (pv 2) rfl)
    (pss_one (ps_ret (pv 3))))))), ?_⟩
  have nd := hI.vs.ndk hI.nd
  have out : okP gs n ks = false → ∀ (H3 : Hp) (a1 : Addr), Same H H3 → H3 a1 = none → ∀ (x1 : Addr) (H4 : Hp), H3 x1 = none → (∀ b v, b ≠ a1 → upd H3 a1 (exo a1 CE none) b = some v → H4 b = some v) →
      E (.ref CE) (some x1) (upd (L2.del H4 a1) x1 (.xd [("place", .ref b)])) := fun en H3 a1 s3 ha x1 H4 hx1 k4 =>
    qN en x1 _ (s3.trans (flown ha hx1 k4)) (s3.free hx1) upd_same
  have sl0 : atI (plV n ks) 0 = some (V.str n) := atI_nat (j := 0) rfl
  refine ⟨a, .dK kvs, hI.at_, trivial, fun od => ⟨_, rfl, a, od, rfl, .inl ⟨kvs, upd_same, fun D hD => dc_it (walk_keys (d := a) (o := od)) (fun i H2 => H2 = upd (upd H a (.frz od (.dK kvs))) D (.dK (kvs.take i))) rfl ?_ ?_ ?_⟩⟩⟩
  · rintro i H2 hi rfl
    rw [upd_ne (ne_of_none upd_same hD), upd_same]
  · rintro i y H2 H3 hi rfl ⟨rfl, kk, vv, hkv, rfl⟩
    refine ⟨rfl, _, rfl, _, rfl, _, rfl, a, vv, rfl, .inl ⟨kvs, kk, .inr ⟨od, by rw [upd_ne (ne_of_none upd_same hD), upd_same]⟩, rfl, (valV_at nd hkv).symm⟩, kvs.take i, kk, rfl, upd_same, few1 (by rw [List.length_take]; omega), ?_⟩
    rw [upd_twice, putK_new (take_fresh nd hkv), get_take hkv]
  · rintro H2 rfl
    have naD : a ≠ D := ne_of_none upd_same hD
    have hD0 : H D = none := by
      rw [upd_ne naD.symm] at hD
      exact hD
    refine ⟨by rw [upd_ne naD, upd_same], ?_⟩
    have eH : upd (upd (upd H a (.frz od (.dK kvs))) D (.dK (kvs.take kvs.length))) a (.dK kvs) = upd H D (.dK kvs) := by
      rw [List.take_length]
      funext c
      by_cases e1 : c = a
      · rw [e1, upd_same, upd_ne naD, hI.at_]
      · by_cases e2 : c = D
        · rw [e2, upd_ne naD.symm, upd_same, upd_same]
        · rw [upd_ne e1, upd_ne e2, upd_ne e1, upd_ne e2]
    rw [eH]
    have s1 : Same H (upd H D (.dK kvs)) := same_new hD0 _
    have hb1 := seqT_up s1 hb
    have hI1 := hI.up s1
    have hv1 := Dp.up s1 _ _ hv
    have hD1 : (upd H D (.dK kvs)) D = some (.dK kvs) := upd_same
    generalize upd H D (.dK kvs) = H1 at s1 hb1 hI1 hv1 hD1
    refine ⟨_, rfl, b, _, rfl, .inr hb1, rfl, _, rfl, ite2 (fun c1 => ?_) (fun c1 => ?_)⟩
    · have eks : ks = [] := by
        have z := V.int.inj (of_decide_eq_true c1)
        have l : (plV n ks).length = ks.length + 1 := by simp [plV]
        rw [l] at z
        exact List.length_eq_zero_iff.mp (by omega)
      subst eks
      refine ⟨_, rfl, b, _, 0, _, rfl, rfl, hb1, sl0, _, rfl, a, _, rfl, DGet.k (k := Sum.inr n) hI1.at_, _, rfl, ?_⟩
      rcases hI.vs.get n with ⟨e1, e2⟩ | ⟨v0, x0, e1, e2, hv0⟩
      · rw [e1]
        refine iteT ?_
        have en : okP gs n [] = false := by
          show (getI gs n).isSome = false
          rw [e2]
          rfl
        refine ⟨_, rfl, by (show 1 ≤ 1000); decide, fun a1 h1 => ⟨a1, [.ref b], rfl, rfl, upd_same, fun x1 H5 n1 e1' E1 k1 => ⟨rfl, x1, [("place", .ref b)], E1.1, E1.2, by (rw [upd_ne e1'] at n1; exact n1), ?_⟩⟩⟩
        exact out en H1 a1 s1 h1 x1 H5 (by rw [upd_ne e1'] at n1; exact n1) k1
      · rw [e1]
        refine iteF ?_
        have eo : okP gs n [] = true := by
          show (getI gs n).isSome = true
          rw [e2]
          rfl
        have en : newM gs n [] x = x := by
          unfold newM
          rw [e2]
          cases x0 with
          | none => rfl
          | some d => exact putM_nil d x
        have s2 : Same H (upd H1 D (.dK (putK kvs (.inr n) v))) := fun c o z => by
          rw [upd_ne (ne_of_none z hD0)]
          exact s1 _ _ z
        refine ⟨_, rfl, _, rfl, _, rfl, b, _, 0, _, rfl, rfl, hb1, sl0, D, _, rfl, DPut.k (k := Sum.inr n) hD1 (few1 (by omega)), _, rfl, qS eo D v _ s2 hD0 upd_same ?_⟩
        rw [en]
        exact Dp.up s2 _ _ hv
    · have kne : ks ≠ [] := by
        intro z
        subst z
        have c1 := of_decide_eq_false (Bool.eq_false_iff.mpr c1)
        exact c1 rfl
      have ke : ks.isEmpty = false := by
        cases ks with
        | nil => exact absurd rfl kne
        | cons _ _ => rfl
      have eok : okP gs n ks = (layI gs n ks).isSome := by
        unfold okP
        rw [ke]
        rfl
      refine ⟨_, rfl, _, rfl, a, b, kvs, gs, n, ks, rfl, hI1, hb1, hk, fun en => ?_, fun ls el L vs H2 s2 hL h2 hd2 => ?_⟩
      · intro d H2 s2 h1 h2
        exact qN (by rw [eok, en]; rfl) d H2 (s1.trans s2) (s1.free h1) h2
      obtain ⟨d0, eg, em⟩ : ∃ d0, getI gs n = some (some d0) ∧ layM d0 ks = some ls := by
        unfold layI at el
        cases q : getI gs n with
        | none =>
          rw [q] at el
          cases el
        | some y =>
          rw [q] at el
          cases y with
          | none => cases el
          | some d => exact ⟨d, rfl, el⟩
      obtain ⟨l1, l2, l3⟩ := layM_all em
      have lp : (plV n ks).length = ks.length + 1 := by simp [plV]
      have s12 := s1.trans s2
      have hb2 := seqT_up s12 hb
      have hv2 := Dp.up s12 _ _ hv
      have lv := DpAll.len hd2
      have rg : RgC ((((plV n ks).length : Nat) : Int) - 1) 0 (-1) ks.length := by
        have z := RgC.neg (i := (((plV n ks).length : Nat) : Int) - 1) (j := 0) (by omega) (by omega) (by decide) (by decide)
        rw [show ((((plV n ks).length : Nat) : Int) - 1 - 0).toNat = ks.length from by omega] at z
        exact z
      refine ⟨_, rfl, b, _, rfl, .inr hb2, _, _, rfl, rfl, 1, rfl, _, _, _, ks.length, rfl, rg, for_rangeC (n := ks.length) (fun i σ H3 => ∃ o5 o6 o7 o8 vi e, σ = [some (.ref a), some (.ref b), some vi, some (.ref D), some (.ref L), o5, o6, o7, o8] ∧ Same H2 H3 ∧ ls[ks.length - i]? = some e ∧ Dp K H3 vi (putM e (ks.drop (ks.length - i)) x))
        ⟨none, none, none, none, v, ls[ks.length]'(by omega), rfl, Same.refl _, List.getElem?_eq_getElem (by omega), by (rw [Nat.sub_zero, List.drop_length, putM_nil]; exact hv2)⟩ ?_ ?_⟩
      · rintro i σ H3 hi ⟨o5, o6, o7, o8, vi, e, rfl, s3, he, hvi⟩
        obtain ⟨j, ej⟩ : ∃ j, ks.length - i = j + 1 := ⟨ks.length - (i + 1), by omega⟩
        rw [ej] at he hvi
        have hj : j < ks.length := by omega
        have hkj : ks[j]? = some ks[j] := List.getElem?_eq_getElem hj
        obtain ⟨ds, e', b1, b2, b3⟩ := l3 j _ hkj
        rw [he] at b3
        cases b3
        have hjv : j < vs.length := by omega
        obtain ⟨dj, f1, f2⟩ := DpAll.get hd2 (List.getElem?_eq_getElem hjv)
        rw [b1] at f1
        cases f1
        obtain ⟨wa, xs, ds', ew, ed, hw, gw⟩ := tup_of f2 rfl
        cases ed
        have hL3 : H3 L = some (.lst vs) := s3 _ _ h2
        have hb3 := seqT_up s3 hb2
        have lw := DpAll.len gw
        have lk := (List.getElem?_eq_some_iff.mp b2).1
        have estep : ((((plV n ks).length : Nat) : Int) - 1 + (i : Nat) * -1) = (((j + 1 : Nat)) : Int) := by omega
        rw [estep]
        have w3 := seqT_up s3 hw
        refine ⟨_, rfl, _, rfl, _, _, rfl, rfl, L, vs, _, _, rfl, rfl, SqL.of hL3, (by rw [show (((j + 1 : Nat) : Int) - 1) = ((j : Nat) : Int) from by omega]; exact atI_nat (List.getElem?_eq_getElem hjv)), ?_⟩
        rw [ew]
        refine ⟨_, rfl, _, rfl, b, _, _, .int ((ks[j] : Nat) : Int), rfl, rfl, hb3, atI_nat (by simp [plV, hj]), ?_⟩
        refine ⟨_, rfl, _, rfl, _, rfl, wa, xs, [], rfl, by (rw [cut_nil]; exact w3), tr_nil _, fun t1 H4 s4 h4 => ?_⟩
        rw [cut_nil, cutV_take xs (by omega) (by omega)] at h4
        refine ⟨t1, _, rfl, .inl h4, _, rfl, _, rfl, _, rfl, _, _, rfl, rfl, _, rfl, wa, xs, [], rfl, by (rw [cut_nil]; exact seqT_up s4 w3), tr_nil _, fun t2 H5 s5 h5 => ?_⟩
        rw [cut_nil, cutV_drop xs (by omega) (by omega)] at h5
        have lx : xs.length ≤ 100000 := by
          have a1 := layM_nod em _ (List.mem_of_getElem? b1)
          have a2 := nods_len ds
          have a3 := hd d0 eg
          simp only [nod] at a1
          omega
        refine ⟨t2, _, rfl, .inl h5, few2 ?_, fun t ht => ?_⟩
        · simp only [List.length_append, List.length_cons, List.length_take, List.length_drop, List.length_nil, Int.toNat_natCast]
          omega
        have s6 := s4.trans (s5.trans (same_new (o := .tup (xs.take (ks[j] : Int).toNat ++ (vi :: (xs.drop ((ks[j] : Int) + 1).toNat ++ [])))) ht))
        refine ⟨_, _, _, o8, .ref t, .tuple ds, rfl, s3.trans s6, by (rw [show ks.length - (i + 1) = j from by omega]; exact b1), ?_⟩
        rw [show ks.length - (i + 1) = j from by omega, List.drop_eq_getElem_cons hj, putM_tup x b2]
        have e7 : ((ks[j] : Int)).toNat = ks[j] := by omega
        have e8 : ((ks[j] : Int) + 1).toNat = ks[j] + 1 := by omega
        rw [e7, e8] at s6 ⊢
        have g6 := Dp.ups (s3.trans s6) _ _ gw
        refine .tup (.inl (.inl upd_same)) (DpAll.app (DpAll.parts g6 _).1 (.cons ?_ ?_))
        · exact Dp.up s6 _ _ hvi
        · rw [List.append_nil] at g6 ⊢
          exact (DpAll.parts g6 _).2
      · rintro σ H3 ⟨o5, o6, o7, o8, vi, e, rfl, s3, he, hvi⟩
        rw [Nat.sub_self] at he hvi
        rw [l2] at he
        cases he
        have s13 := s12.trans s3
        have s4 : Same H (upd H3 D (.dK (putK kvs (.inr n) vi))) := fun c o z => by
          rw [upd_ne (ne_of_none z hD0)]
          exact s13 _ _ z
        have eo : okP gs n ks = true := by
          rw [eok, el]
          rfl
        have hD3 : H3 D = some (.dK kvs) := s3 _ _ (s2 _ _ hD1)
        refine ⟨_, rfl, _, rfl, _, rfl, b, _, 0, _, rfl, rfl, seqT_up s3 hb2, sl0, D, _, rfl, DPut.k (k := Sum.inr n) hD3 (few1 (by omega)), _, rfl, qS eo D vi _ s4 hD0 upd_same ?_⟩
        have en : newM gs n ks x = putM d0 ks x := by
          unfold newM
          rw [eg]
        rw [en]
        have s34 : Same H3 (upd H3 D (.dK (putK kvs (.inr n) vi))) ∨ True := .inr trivial
        rw [List.drop_zero] at hvi
        refine Dp.upP (fun c o z nk => ?_) _ _ hvi
        rw [upd_ne (fun e => nk kvs (Option.some.inj (z.symm.trans (by rw [e]; exact hD3))))]
        exact z
end
/-! the law's models -/
abbrev sLTerm : Stmt := topS 33
theorem scLTerm : FnScope ["_law_model_here", "_law_parts", "_law_part"] ["_law_model_here"] (defScope sLTerm) := ⟨rfl, rfl, rfl, by decide +kernel, rfl, by decide +kernel, by decide +kernel⟩
mutual
def Tm.dpt : Tm → Nat
  | .bui ts => 1 + Tm.dpts ts
  | .lit _ => 0
  | .who _ => 0
  | .shi _ _ => 0
def Tm.dpts : List Tm → Nat
  | [] => 0
  | t :: ts => max t.dpt (Tm.dpts ts)
end
theorem Tm.dpts_mem : ∀ {ts : List Tm}, ∀ t ∈ ts, t.dpt ≤ Tm.dpts ts
  | [], _, m => nomatch m
  | t :: ts, u, m => by
    simp only [Tm.dpts]
    rcases List.mem_cons.mp m with e | m
    · rw [e]; omega
    · have := Tm.dpts_mem u m
      omega
theorem Tm.wts_mem : ∀ {ts : List Tm}, ∀ t ∈ ts, t.wt ≤ Tm.wts ts
  | [], _, m => nomatch m
  | t :: ts, u, m => by
    simp only [Tm.wts]
    rcases List.mem_cons.mp m with e | m
    · rw [e]; omega
    · have := Tm.wts_mem u m
      omega
mutual
/-- the model of a term, as data -/
def mD : Tm → PyData
  | .lit d => .tuple [.str "literal", d]
  | .who p => .tuple [.str "whole", plE p]
  | .shi p b => .tuple [.str "shifted", plE p, .int b]
  | .bui ts => .tuple [.str "built", .list (mDs ts)]
def mDs : List Tm → List PyData
  | [] => []
  | t :: ts => mD t :: mDs ts
end
mutual
inductive MdA (K : PySem.W.Frag) (H : Hp) : V → Tm → Prop
  | lit {a : Addr} {x : V} {d : PyData} : H a = some (.tup [.str "literal", x]) → Dp K H x d → MdA K H (.ref a) (.lit d)
  | who {a q : Addr} {p : Pl} : H a = some (.tup [.str "whole", .ref q]) → H q = some (.tup (plW p)) → MdA K H (.ref a) (.who p)
  | shi {a q : Addr} {p : Pl} {b : Int} : H a = some (.tup [.str "shifted", .ref q, .int b]) → H q = some (.tup (plW p)) → MdA K H (.ref a) (.shi p b)
  | bui {a l : Addr} {vs : List V} {ts : List Tm} : H a = some (.tup [.str "built", .ref l]) → H l = some (.lst vs) → MdsA K H vs ts → MdA K H (.ref a) (.bui ts)
inductive MdsA (K : PySem.W.Frag) (H : Hp) : List V → List Tm → Prop
  | nil : MdsA K H [] []
  | cons {v : V} {t : Tm} {vs : List V} {ts : List Tm} : MdA K H v t → MdsA K H vs ts → MdsA K H (v :: vs) (t :: ts)
end
section
variable {K : PySem.W.Frag} {H H' : Hp}
mutual
theorem MdA.up (s : Same H H') : ∀ (t : Tm) (v : V), MdA K H v t → MdA K H' v t
  | .lit d, _, h => by
    cases h with
    | lit h1 h2 => exact .lit (s _ _ h1) (Dp.up s _ _ h2)
  | .who p, _, h => by
    cases h with
    | who h1 h2 => exact .who (s _ _ h1) (s _ _ h2)
  | .shi p b, _, h => by
    cases h with
    | shi h1 h2 => exact .shi (s _ _ h1) (s _ _ h2)
  | .bui ts, _, h => by
    cases h with
    | bui h1 h2 h3 => exact .bui (s _ _ h1) (s _ _ h2) (MdsA.up s ts _ h3)
theorem MdsA.up (s : Same H H') : ∀ (ts : List Tm) (vs : List V), MdsA K H vs ts → MdsA K H' vs ts
  | [], _, h => by cases h; exact .nil
  | t :: ts, _, h => by
    cases h with
    | cons h1 h2 => exact .cons (MdA.up s t _ h1) (MdsA.up s ts _ h2)
end
mutual
theorem MdA.dp : ∀ (t : Tm) (v : V), MdA K H v t → Dp K H v (mD t)
  | .lit d, _, h => by
    cases h with
    | lit h1 h2 => exact .tup (.inl (.inl h1)) (.cons (.str _) (.cons h2 .nil))
  | .who p, _, h => by
    cases h with
    | who h1 h2 => exact .tup (.inl (.inl h1)) (.cons (.str _) (.cons (plE_dp (.inl (.inl h2))) .nil))
  | .shi p b, _, h => by
    cases h with
    | shi h1 h2 => exact .tup (.inl (.inl h1)) (.cons (.str _) (.cons (plE_dp (.inl (.inl h2))) (.cons (.int b) .nil)))
  | .bui ts, _, h => by
    cases h with
    | bui h1 h2 h3 => exact .tup (.inl (.inl h1)) (.cons (.str _) (.cons (.lst (SqL.of h2) (MdsA.dp ts _ h3)) .nil))
theorem MdsA.dp : ∀ (ts : List Tm) (vs : List V), MdsA K H vs ts → DpAll K H vs (mDs ts)
  | [], _, h => by cases h; exact .nil
  | t :: ts, _, h => by
    cases h with
    | cons h1 h2 => exact .cons (MdA.dp t _ h1) (MdsA.dp ts _ h2)
end
theorem MdsA.len : ∀ {vs : List V} {ts : List Tm}, MdsA K H vs ts → vs.length = ts.length
  | _, _, .nil => rfl
  | _, _, .cons _ t => by rw [List.length_cons, List.length_cons, MdsA.len t]
theorem MdsA.get : ∀ {vs : List V} {ts : List Tm} {i : Nat} {v : V}, MdsA K H vs ts → vs[i]? = some v → ∃ t, ts[i]? = some t ∧ MdA K H v t
  | _, _, _, _, .nil, z => nomatch z
  | _, _, 0, _, .cons a _, z => by cases z; exact ⟨_, rfl, a⟩
  | _, _, i + 1, _, .cons _ t, z => MdsA.get (i := i) t z
theorem cutL_at {a D : Addr} {o : HO} {ys : List V} (hD : H D = some (.lst ys)) (h : H a = some o) (n : ∀ zs, o ≠ .lst zs) : cut [D] H a = some o := by
  rw [cut_out (fun z => by
    rw [List.mem_singleton.mp z, hD] at h
    exact n ys (Option.some.inj h).symm)]
  exact h
variable {C : TI → Addr}
theorem PlsA.cutL {D : Addr} {ys : List V} (hD : H D = some (.lst ys)) {bs : List Addr} {ps : List Pl} (h : PlsA H bs ps) : PlsA (cut [D] H) bs ps := h.upT fun b xs z => cutL_at hD z fun _ y => nomatch y
mutual
theorem TmA.cutL {D : Addr} {ys : List V} (hD : H D = some (.lst ys)) : ∀ (t : Tm) (v : V), t.ok → TmA K C H v t → TmA K C (cut [D] H) v t
  | .lit d, _, ok, h => by
    cases h with
    | lit h1 h2 h3 =>
      refine .lit (cutL_at hD h1 fun _ y => nomatch y) (vd_cut hD d _ ?_ h2) (cutL_at hD h3 fun _ y => nomatch y)
      simp only [Tm.ok] at ok
      rcases ok with ⟨i, rfl, _⟩ | ⟨x, rfl, _⟩
      · simp only [vd]
      · simp only [vd]
  | .who p, _, _, h => by
    cases h with
    | who h1 h2 h3 => exact .who (cutL_at hD h1 fun _ y => nomatch y) (cutL_at hD h2 fun _ y => nomatch y) (cutL_at hD h3 fun _ y => nomatch y)
  | .shi p b, _, _, h => by
    cases h with
    | shi h1 h2 h3 => exact .shi (cutL_at hD h1 fun _ y => nomatch y) (cutL_at hD h2 fun _ y => nomatch y) (cutL_at hD h3 fun _ y => nomatch y)
  | .bui ts, _, ok, h => by
    cases h with
    | bui h1 h2 h3 h4 h5 h6 h7 h8 =>
      exact .bui (cutL_at hD h1 fun _ y => nomatch y) (sqT_cutL hD h2) (TmsA.cutL hD ts _ (by simpa only [Tm.ok] using ok) h3) (cutL_at hD h4 fun _ y => nomatch y) (h5.cutL hD) h6 h7 h8
theorem TmsA.cutL {D : Addr} {ys : List V} (hD : H D = some (.lst ys)) : ∀ (ts : List Tm) (vs : List V), Tm.oks ts → TmsA K C H vs ts → TmsA K C (cut [D] H) vs ts
  | [], _, _, h => by cases h; exact .nil
  | t :: ts, _, ok, h => by
    cases h with
    | cons h1 h2 =>
      have ok2 : t.ok ∧ Tm.oks ts := by simpa only [Tm.oks] using ok
      exact .cons (TmA.cutL hD t _ ok2.1 h1) (TmsA.cutL hD ts _ ok2.2 h2)
end
end
theorem bneq {a b : Str} (h : ¬ a = b) : V.bl (decide (V.str a = V.str b)) = V.bl false := by rw [decide_eq_false fun z => h (V.str.inj z)]
theorem beqq (a : Str) : V.bl (decide (V.str a = V.str a)) = V.bl true := by rw [decide_eq_true rfl]
theorem nWL : ¬ (("whole" : Str) = "literal") := by decide +kernel
theorem nSL : ¬ (("shifted" : Str) = "literal") := by decide +kernel
theorem nSW : ¬ (("shifted" : Str) = "whole") := by decide +kernel
theorem nBL : ¬ (("built" : Str) = "literal") := by decide +kernel
theorem nBW : ¬ (("built" : Str) = "whole") := by decide +kernel
theorem nBS : ¬ (("built" : Str) = "shifted") := by decide +kernel
/-- what is made is new -/
theorem mk_same {H H' : Hp} {b bx : Addr} {o1 o2 : HO} (hb : H b = none) (hx : H bx = none) (s : ∀ c o, c ≠ b → upd (upd H bx o1) b o2 c = some o → H' c = some o) : Same H H' := fun c o z => by
  refine s c o (ne_of_none z hb) ?_
  rw [upd_ne (ne_of_none z hb), upd_ne (ne_of_none z hx)]
  exact z
def spLTerm (K : PySem.W.Frag) (C : TI → Addr) (n : Nat) : Sp := fun vs H Q _ => ∃ v t, vs = [v] ∧ MdA K H v t ∧ t.ok ∧ t.wt ≤ 900 ∧ t.dpt < n ∧ ∀ u H', Same H H' → TmA K C H' u t → Q u H'
/-- how terms are made -/
structure MkT (P : Program) (w : World) (K : PySem.W.Frag) (mg : Str → Option Value) (base : Heap) (C fI : TI → Addr) (dI : TI → FuncData) : Prop where
  mkr : ∀ i, Mk K (C i) (fI i)
  L : FnOk P w K mg base CX0 1 (fI .l) (dI .l) ["self", "value"] (spIniL C)
  W : FnOk P w K mg base CX0 1 (fI .w) (dI .w) ["self", "place"] (spIniW C)
  S : FnOk P w K mg base CX0 1 (fI .s) (dI .s) ["self", "place", "by"] (spIniS C)
  B : FnOk P w K mg base CX0 2 (fI .b) (dI .b) ["self", "parts"] (spIniB K C)
  bL : Binds K (dI .l) ["self", "value"] []
  bW : Binds K (dI .w) ["self", "place"] []
  bS : Binds K (dI .s) ["self", "place", "by"] []
  bB : Binds K (dI .b) ["self", "parts"] []
section
variable {P : Program} {w : World} {K : PySem.W.Frag} {mg : Str → Option Value} {base : Heap} {f : Addr} {fd : FuncData} {C fE fI : TI → Addr} {dI : TI → FuncData}
theorem ok_lterm {k n : Nat} (F : Fun K "_law_term" "_law_term" sLTerm f fd) (T : TmC K mg C fE) (M : MkT P w K mg base C fI dI) (B : Bi mg) (G : FnOk P w K mg base CX0 (k + 3) f fd ["_law_model_here"] (spLTerm K C n)) (bV : Binds K fd ["_law_model_here"] []) (mV : mg "_law_term" = some (.ref f)) :
    FnOk P w K mg base CX0 (k + 4) f fd ["_law_model_here"] (spLTerm K C (n + 1)) := by
  refine F.ok scLTerm (fun vs H Q E h => ?_) (fun cdv A outer s H vs Q E hr h => ?_)
  · obtain ⟨v, t, rfl, _⟩ := h
    rfl
  obtain ⟨v, t, rfl, ht, ok, hw, hd, q⟩ := h
  have hr2 : Room 2 _ := hr.mono (by omega)
  have hr3 : Room 3 _ := hr.mono (by omega)
  refine ⟨_, pss_cons (ps_if (pt_cmpR op_eq (pe_ix ix_tup (pv 0) pe_int (fun _ _ => rfl)) pe_str (nomark _)) (pss_one (ps_ret (pe_make (M.mkr .l) M.L hr2 (by rfl) T.mL M.bL .nil pass0 (pa_cons (pe_ix ix_tup (pv 0) pe_int (fun _ _ => rfl)) pa_nil)))) pss_nil)
    (pss_cons (ps_if (pt_cmpR op_eq (pe_ix ix_tup (pv 0) pe_int (fun _ _ => rfl)) pe_str (nomark _)) (pss_one (ps_ret (pe_make (M.mkr .w) M.W hr2 (by rfl) T.mW M.bW .nil pass0 (pa_cons (pe_ix ix_tup (pv 0) pe_int (fun _ _ => rfl)) pa_nil)))) pss_nil)
    (pss_cons (ps_if (pt_cmpR op_eq (pe_ix ix_tup (pv 0) pe_int (fun _ _ => rfl)) pe_str (nomark _)) (pss_one (ps_ret (pe_make (M.mkr .s) M.S hr2 (by rfl) T.mS M.bS .nil pass0 (pa_cons (pe_ix ix_tup (pv 0) pe_int (fun _ _ => rfl)) (pa_cons (pe_ix ix_tup (pv 0) pe_int (fun _ _ => rfl)) pa_nil))))) pss_nil)
    (pss_cons (ps_setLc (i := 1) (own := [("_law_part", 2)]) (g := gName 2) (by rfl) scLTerm.nd rfl rfl (sw_true rfl rfl rfl (by decide +kernel)) (pi_list (pe_ix ix_tup (pv 0) pe_int (fun _ _ => rfl)))
      (blkOk_by (own := [("_law_part", 2)]) (N := ["_law_model_here", "_law_parts", "_law_part"]) (sc := defScope sLTerm) (by decide +kernel))
      (fun _ _ _ _ _ => pg_name (i := 2) scLTerm.nd rfl (Or.inl rfl)) (fun _ _ _ _ _ => pts_nil) (fun _ _ _ _ _ => pe_call G hr (by rfl) mV F.kp bV .nil pass0 (pa_cons (pv 2) pa_nil)))
    (pss_one (ps_ret (pe_ifExp (pt_cmpR op_eq (pe_op op_mod (pe_callB call_len_seq (by rfl) B.len PySem.boot_len (pa_cons (pv 1) pa_nil)) pe_int) pe_int (nomark _))
      (pe_make (M.mkr .b) M.B hr3 (by rfl) T.mB M.bB .nil pass0 (pa_cons (pv 1) pa_nil))
      (pe_make (M.mkr .b) M.B hr3 (by rfl) T.mB M.bB .nil pass0 (pa_cons (pe_callTy call_tuple_of (by rfl) B.tup (by decide +kernel) (pa_cons (pv 1) pa_nil)) pa_nil)))))))), ?_⟩
  cases ht with
  | @lit a x d h1 h2 =>
    have hT : SqT K H a [.str "literal", x] := .inl (.inl h1)
    refine ⟨_, rfl, a, _, 0, _, rfl, rfl, hT, rfl, rfl, true, beqq _, iteT ⟨_, rfl, a, _, 1, x, rfl, rfl, hT, rfl, fun b bx hb hbx nb => ⟨b, bx, [x], rfl, ⟨x, rfl⟩, upd_same, fun e H' he g1 g2 s' => ⟨rfl, ?_⟩⟩⟩⟩
    have sm := mk_same hb hbx s'
    exact q _ H' sm (.lit g1 (Dp.up sm _ _ h2) g2)
  | @who a qq p h1 h2 =>
    have hT : SqT K H a [.str "whole", .ref qq] := .inl (.inl h1)
    refine ⟨_, rfl, a, _, 0, _, rfl, rfl, hT, rfl, rfl, false, bneq nWL, iteF ?_⟩
    refine ⟨_, rfl, a, _, 0, _, rfl, rfl, hT, rfl, rfl, true, beqq _, iteT ⟨_, rfl, a, _, 1, _, rfl, rfl, hT, rfl, fun b bx hb hbx nb => ⟨b, bx, [.ref qq], rfl, ⟨_, rfl⟩, upd_same, fun e H' he g1 g2 s' => ⟨rfl, ?_⟩⟩⟩⟩
    have sm := mk_same hb hbx s'
    exact q _ H' sm (.who g1 (sm _ _ h2) g2)
  | @shi a qq p b0 h1 h2 =>
    have hT : SqT K H a [.str "shifted", .ref qq, .int b0] := .inl (.inl h1)
    refine ⟨_, rfl, a, _, 0, _, rfl, rfl, hT, rfl, rfl, false, bneq nSL, iteF ?_⟩
    refine ⟨_, rfl, a, _, 0, _, rfl, rfl, hT, rfl, rfl, false, bneq nSW, iteF ?_⟩
    refine ⟨_, rfl, a, _, 0, _, rfl, rfl, hT, rfl, rfl, true, beqq _, iteT ⟨_, rfl, a, _, 1, _, rfl, rfl, hT, rfl, _, rfl, a, _, 2, _, rfl, rfl, hT, rfl, fun b bx hb hbx nb => ⟨b, bx, [.ref qq, .int b0], rfl, ⟨_, _, rfl⟩, upd_same, fun e H' he g1 g2 s' => ⟨rfl, ?_⟩⟩⟩⟩
    have sm := mk_same hb hbx s'
    exact q _ H' sm (.shi g1 (sm _ _ h2) g2)
  | @bui a l vs ts h1 h2 h3 =>
    have hT : SqT K H a [.str "built", .ref l] := .inl (.inl h1)
    simp only [Tm.ok] at ok
    have wb : (Tm.bui ts).wt = 1 + Tm.wts ts := by rw [Tm.wt]
    have db : (Tm.bui ts).dpt = 1 + Tm.dpts ts := by rw [Tm.dpt]
    have lts := h3.len
    have lw := Tm.len_wts ts
    refine ⟨_, rfl, a, _, 0, _, rfl, rfl, hT, rfl, rfl, false, bneq nBL, iteF ?_⟩
    refine ⟨_, rfl, a, _, 0, _, rfl, rfl, hT, rfl, rfl, false, bneq nBW, iteF ?_⟩
    refine ⟨_, rfl, a, _, 0, _, rfl, rfl, hT, rfl, rfl, false, bneq nBS, iteF ?_⟩
    refine ⟨_, rfl, a, _, 1, _, rfl, rfl, hT, rfl, l, rfl, ⟨_, SqL.of h2⟩, fun D hD => lc_list (K := K) (a := l) (xs := vs) (fun i H2 => ∃ us, H2 D = some (.lst us) ∧ Same H H2 ∧ TmsA K C (cut [D] H2) us (ts.take i)) ⟨[], upd_same, same_new hD _, .nil⟩ (fun i H2 _ ⟨_, _, s, _⟩ => SqL.of (s _ _ h2)) ?_ ?_⟩
    · rintro i y H2 hy ⟨us, g1, s2, uA⟩
      obtain ⟨t, hti, tM⟩ := h3.get hy
      have mt := List.mem_of_getElem? hti
      have tok := Tm.oks_mem ok t mt
      have lus := uA.len
      refine ⟨rfl, _, rfl, y, t, rfl, MdA.up s2 t y tM, tok, by have := Tm.wts_mem t mt; omega, by have := Tm.dpts_mem t mt; omega, fun u H3 s3 uT => ?_⟩
      have g3 := s3 _ _ g1
      have o : Off [D] H3 (upd H3 D (.lst (us ++ [u]))) := Off.put (by simp)
      refine ⟨us, g3, few1 (by rw [lus, List.length_take]; omega), us ++ [u], upd_same, ?_, ?_⟩
      · intro c o z
        rw [upd_ne (ne_of_none z hD)]
        exact s3 _ _ (s2 _ _ z)
      · rw [get_take hti]
        exact TmsA.app (TmsA.up ((Off.of (l := [D]) s3).trans o) _ _ uA) (.cons (TmA.up o t u (TmA.cutL g3 t u tok uT)) .nil)
    · rintro H2 ⟨us, g1, s2, uA⟩
      rw [show vs.length = ts.length from lts, List.take_length] at uA
      have lus := uA.len
      have uA2 := TmsA.up (cut_same [D] H2) _ _ uA
      have fin : ∀ (b bx : Addr) (H3 : Hp) (p : Addr), Same H2 H3 → H3 b = none → H3 bx = none → bx ≠ b → (SqL K H3 p us ∨ SqT K H3 p us) → spIniB K C [.ref b, .ref p] (upd (upd H3 bx (.own b)) b (.ins (C .b) bx [])) (fun v H4 => v = .non ∧ Q (.ref b) H4) E0 := fun b bx H3 p s3 hb hbx nb hp => by
        have sc : Same H3 (cut [b] (upd (upd H3 bx (.own b)) b (.ins (C .b) bx []))) := fun c o z => by
          have n1 := ne_of_none z hb
          rw [cut_out (by simp [n1]), upd_ne n1, upd_ne (ne_of_none z hbx)]
          exact z
        refine ⟨b, bx, p, us, ts, rfl, upd_same, hp.imp (seqL_upS sc) (seqT_up sc), TmsA.up (s3.trans sc) _ _ uA2, by omega, fun H5 o5 tm => ⟨rfl, q _ H5 ?_ tm⟩⟩
        exact (s2.trans s3).trans (Same.trans sc (Same.trans o5 (cut_same _ _)))
      refine ⟨_, rfl, D, us, rfl, .inl (SqL.of g1), _, _, rfl, rfl, (by show (0 : Int) < 2; decide), rfl, _, rfl, ite2 (fun _ => ?_) (fun _ => ?_)⟩
      · exact ⟨_, rfl, fun b bx hb hbx nb => fin b bx H2 D (Same.refl _) hb hbx nb (.inl (SqL.of g1))⟩
      · refine ⟨_, rfl, D, us, rfl, .inl ⟨SqL.of g1, fun t ht => ?_⟩⟩
        exact fun b bx hb hbx nb => fin b bx _ t (same_new ht _) hb hbx nb (.inr (.inl (.inl upd_same)))
end
/-! isinstance of values of inputs -/
def isTupO : Option PyData → Bool
  | some d => isTup d
  | none => false
/-- isinstance(v, tuple) of a value of inputs -/
def rIsTu (K : PySem.W.Frag) (C : Addr) : List V → Hp → VK → Prop := fun xs H Q => ∃ v x, xs = [v, .ty "tuple"] ∧ VaAt K C H v x ∧ Q (.bl (isTupO x)) H
theorem call_isTu {X : Cx} {C fE : Addr} (T : FaC X.K X.mg C fE) : CallR X (.builtin "isinstance") (rIsTu X.K C) := by
  intro pins s σ H xs us Q I r h
  obtain ⟨v, x, rfl, hv, q⟩ := h
  cases x with
  | some d => exact call_isD pins s σ H _ us Q I r ⟨v, d, "tuple", _, rfl, hv, kit_tup d, q⟩
  | none =>
    obtain ⟨a, fp, rfl, ⟨dx, hf⟩, hfp⟩ := hv
    exact call_isi pins s σ H _ us Q I r ⟨.ref a, .ty "tuple", _, _, false, rfl, .ty "tuple", .base (.ins hf T.o.c.cl T.o.c.ha T.o.c.hn T.o.c.htk T.o.c.hm), T.o.j6, q⟩
def rIsFa (K : PySem.W.Frag) (C : Addr) : List V → Hp → VK → Prop := fun xs H Q => ∃ v x, xs = [v, .ref C] ∧ VaAt K C H v x ∧ Q (.bl x.isNone) H
theorem call_isFa {X : Cx} {C fE : Addr} (T : FaC X.K X.mg C fE) : CallR X (.builtin "isinstance") (rIsFa X.K C) := by
  intro pins s σ H xs us Q I r h
  obtain ⟨v, x, rfl, hv, q⟩ := h
  cases x with
  | some d => exact call_isi pins s σ H _ us Q I r ⟨v, .ref C, _, _, false, rfl, .own C, tyD hv, (T.o.of hv).1, q⟩
  | none =>
    obtain ⟨a, fp, rfl, ⟨dx, hf⟩, hfp⟩ := hv
    exact call_isi pins s σ H _ us Q I r ⟨.ref a, .ref C, _, _, true, rfl, .own C, .base (.ins hf T.o.c.cl T.o.c.ha T.o.c.hn T.o.c.htk T.o.c.hm), T.o.c.me, q⟩
def atO (y : Option PyData) (ks : List Nat) : Option PyData := y.bind fun d => atM d ks
theorem atI2_O (gs : Ins) (n : Str) (ks : List Nat) : atI2 gs n ks = atO ((getI gs n).getD none) ks := by
  unfold atI2 atO
  cases getI gs n with
  | none => rfl
  | some x => cases x <;> rfl
theorem atM_nil (d : PyData) : atM d [] = some d := by cases d <;> rfl
theorem atM_no {d : PyData} {k : Nat} {ks : List Nat} (h : isTup d = false) : atM d (k :: ks) = none := by
  cases d with
  | tuple ds => cases h
  | none => rfl
  | bool b => rfl
  | int i => rfl
  | str x => rfl
  | list l => rfl
  | dict l => rfl
theorem atM_tup {ds : List PyData} {k : Nat} {ks : List Nat} {e : PyData} (h : ds[k]? = some e) : atM (.tuple ds) (k :: ks) = atM e ks := by
  show (match ds[k]? with
    | some e => atM e ks
    | none => none) = _
  rw [h]
theorem atM_out {ds : List PyData} {k : Nat} {ks : List Nat} (h : ds[k]? = none) : atM (.tuple ds) (k :: ks) = none := by
  show (match ds[k]? with
    | some e => atM e ks
    | none => none) = _
  rw [h]
/-! what is told, as data -/
theorem ix_tupK {X : Cx} {K : PySem.W.Frag} (h : X.K = K) : IxR X (rIxT K) := by
  subst h
  exact ix_tup
def wE : Except Pl PyData → PyData
  | .error p => .tuple [.str "none", plE p]
  | .ok d => .tuple [.str "told", d]
def sec : Except Pl PyData → PyData
  | .error p => plE p
  | .ok d => d
def isErr : Except Pl PyData → Bool
  | .error _ => true
  | .ok _ => false
theorem evs_list (gs : Ins) : ∀ ts : List Tm, (∀ e r, (ts.map (evT gs)).filter isErr = e :: r → ∃ p, e = .error p ∧ evTs gs ts = .error p) ∧ ((ts.map (evT gs)).filter isErr = [] → evTs gs ts = .ok ((ts.map (evT gs)).map sec))
  | [] => ⟨fun e r h => (nomatch h), fun _ => rfl⟩
  | t :: ts => by
    have ih := evs_list gs ts
    rw [List.map_cons]
    cases h : evT gs t with
    | error p =>
      refine ⟨fun e r he => ?_, fun he => ?_⟩
      · rw [List.filter_cons_of_pos rfl] at he
        have := (List.cons.inj he).1
        exact ⟨p, this.symm, by simp only [evTs, h]⟩
      · rw [List.filter_cons_of_pos rfl] at he
        cases he
    | ok d =>
      refine ⟨fun e r he => ?_, fun he => ?_⟩
      · rw [List.filter_cons_of_neg (by simp [isErr])] at he
        obtain ⟨p, e1, e2⟩ := ih.1 e r he
        exact ⟨p, e1, by simp only [evTs, h, e2]⟩
      · rw [List.filter_cons_of_neg (by simp [isErr])] at he
        have z := ih.2 he
        simp only [evTs, h, z, List.map_cons, sec]
theorem plE_vd (p : Pl) : vd (plE p) = true := by
  have : ∀ ks : List Nat, vds (ks.map fun k : Nat => PyData.int k) = true := fun ks => by
    induction ks with
    | nil => simp only [List.map_nil, vds]
    | cons k ks ih => simp only [List.map_cons, vds, vd, ih, Bool.and_self]
  simp only [plE, vd, vds, this, Bool.and_self]
mutual
theorem ev_vd (gs : Ins) (hO : InsVd gs) : ∀ (t : Tm) (d : PyData), t.ok → evT gs t = .ok d → vd d = true
  | .lit d0, d, ok, h => lf_vd ok hO rfl (by simpa only [evT] using h)
  | .who p, d, ok, h => lf_vd ok hO rfl (by simpa only [evT] using h)
  | .shi p b, d, ok, h => lf_vd ok hO rfl (by simpa only [evT] using h)
  | .bui ts, d, ok, h => by
    simp only [evT] at h
    cases e : evTs gs ts with
    | error p => rw [e] at h; cases h
    | ok ds =>
      rw [e] at h
      cases h
      simp only [vd]
      exact evs_vd gs hO ts ds (by simpa only [Tm.ok] using ok) e
theorem evs_vd (gs : Ins) (hO : InsVd gs) : ∀ (ts : List Tm) (ds : List PyData), Tm.oks ts → evTs gs ts = .ok ds → vds ds = true
  | [], ds, _, h => by cases h; simp only [vds]
  | t :: ts, ds, ok, h => by
    have ok2 : t.ok ∧ Tm.oks ts := by simpa only [Tm.oks] using ok
    simp only [evTs] at h
    cases e : evT gs t with
    | error p => rw [e] at h; cases h
    | ok d =>
      rw [e] at h
      simp only at h
      cases e2 : evTs gs ts with
      | error p => rw [e2] at h; cases h
      | ok es =>
        rw [e2] at h
        cases h
        simp only [vds, ev_vd gs hO t d ok2.1 e, evs_vd gs hO ts es ok2.2 e2, Bool.and_self]
end
theorem wE_vd {gs : Ins} (hO : InsVd gs) {t : Tm} (ok : t.ok) : vd (wE (evT gs t)) = true := by
  cases e : evT gs t with
  | error p => simp only [wE, vd, vds, plE_vd, Bool.and_self]
  | ok d => simp only [wE, vd, vds, ev_vd gs hO t d ok e, Bool.and_self]
/-- the two parts of what is told -/
theorem wE_at {K : PySem.W.Frag} {H : Hp} {u : V} {e : Except Pl PyData} (h : Dp K H u (wE e)) : ∃ r y, u = .ref r ∧ SqT K H r [.str (if isErr e then "none" else "told"), y] ∧ Dp K H y (sec e) := by
  cases e with
  | error p =>
    cases h with
    | tup h1 h2 =>
      cases h2 with
      | cons a b =>
        cases a
        cases b with
        | cons c d =>
          cases d
          exact ⟨_, _, rfl, h1, c⟩
  | ok d =>
    cases h with
    | tup h1 h2 =>
      cases h2 with
      | cons a b =>
        cases a
        cases b with
        | cons c d =>
          cases d
          exact ⟨_, _, rfl, h1, c⟩
theorem nTN : ¬ (("told" : Str) = "none") := by decide +kernel
/-! equality of terms: mathematics -/
inductive Oth : Tm → Tm → Prop
  | lit (d : PyData) (p : Pl) : Oth (.lit d) (.who p)
  | who (p : Pl) : Oth (.who p) (.shi p 0)
  | shi (p : Pl) (b : Int) : Oth (.shi p b) (.shi p (b + 1))
  | add (ts : List Tm) (d : PyData) : Oth (.bui ts) (.bui (ts ++ [.lit d]))
  | sub (l r : List Tm) {t u : Tm} : Oth t u → Oth (.bui (l ++ t :: r)) (.bui (l ++ u :: r))
theorem sameF_app : ∀ (a c b d : List Tm), a.length = c.length → sameF (a ++ b) (c ++ d) = (sameF a c && sameF b d)
  | [], [], b, d, _ => by simp [sameF]
  | t :: a, u :: c, b, d, h => by
    show (oneEq t u && sameF (a ++ b) (c ++ d)) = ((oneEq t u && sameF a c) && sameF b d)
    rw [sameF_app a c b d (by simpa using h), Bool.and_assoc]
  | [], _ :: _, _, _, h => by simp at h
  | _ :: _, [], _, _, h => by simp at h
theorem Oth.far : ∀ {t u : Tm}, Oth t u → u.wt ≤ t.wt + 1 ∧ (t.wt ≠ u.wt ∨ (t.wt = u.wt ∧ sameF t.fl u.fl = false ∧ sameF u.fl t.fl = false)) := by
  intro t u h
  induction h with
  | lit d p => exact ⟨by simp [Tm.wt], .inr ⟨rfl, rfl, rfl⟩⟩
  | who p => exact ⟨by simp [Tm.wt], .inr ⟨rfl, rfl, rfl⟩⟩
  | shi p b =>
    have n1 : ¬ (b = b + 1) := by omega
    have n2 : ¬ (b + 1 = b) := by omega
    exact ⟨by simp [Tm.wt], .inr ⟨rfl, by simp [Tm.fl, sameF, oneEq, lfEq, n1], by simp [Tm.fl, sameF, oneEq, lfEq, n2]⟩⟩
  | add ts d =>
    have e1 : (Tm.bui ts).wt = 1 + Tm.wts ts := by rw [Tm.wt]
    have e2 : (Tm.bui (ts ++ [.lit d])).wt = 1 + (Tm.wts ts + (1 + 0)) := by rw [Tm.wt, Tm.wts_app]; rfl
    exact ⟨by omega, .inl (by omega)⟩
  | @sub l r t u _ ih =>
    obtain ⟨ih1, ih⟩ := ih
    have e1 : (Tm.bui (l ++ t :: r)).wt = 1 + (Tm.wts l + (t.wt + Tm.wts r)) := by rw [Tm.wt, Tm.wts_app]; rfl
    have e2 : (Tm.bui (l ++ u :: r)).wt = 1 + (Tm.wts l + (u.wt + Tm.wts r)) := by rw [Tm.wt, Tm.wts_app]; rfl
    refine ⟨by omega, ?_⟩
    rcases ih with n | ⟨e, s1, s2⟩
    · exact .inl (by omega)
    · have lf : t.fl.length = u.fl.length := by rw [Tm.fl_len, Tm.fl_len, e]
      have f1 : (Tm.bui (l ++ t :: r)).fl = [Tm.bui (l ++ t :: r)] ++ (Tm.fls l ++ (t.fl ++ Tm.fls r)) := by rw [Tm.fl, Tm.fls_app]; rfl
      have f2 : (Tm.bui (l ++ u :: r)).fl = [Tm.bui (l ++ u :: r)] ++ (Tm.fls l ++ (u.fl ++ Tm.fls r)) := by rw [Tm.fl, Tm.fls_app]; rfl
      refine .inr ⟨by omega, ?_, ?_⟩
      · rw [f1, f2, sameF_app [Tm.bui (l ++ t :: r)] [Tm.bui (l ++ u :: r)] _ _ rfl, sameF_app (Tm.fls l) (Tm.fls l) _ _ rfl, sameF_app _ _ _ _ lf, s1]; simp
      · rw [f2, f1, sameF_app [Tm.bui (l ++ u :: r)] [Tm.bui (l ++ t :: r)] _ _ rfl, sameF_app (Tm.fls l) (Tm.fls l) _ _ rfl, sameF_app _ _ _ _ lf.symm, s2]; simp
theorem Oth.ne {t u : Tm} (h : Oth t u) : eqTm t u = false ∧ eqTm u t = false := by
  obtain ⟨_, far⟩ := h.far
  have bb : ∀ a b : List Tm, ((Tm.bui a).wt ≠ (Tm.bui b).wt ∨ ((Tm.bui a).wt = (Tm.bui b).wt ∧ sameF (Tm.bui a).fl (Tm.bui b).fl = false ∧ sameF (Tm.bui b).fl (Tm.bui a).fl = false)) → eqTm (.bui a) (.bui b) = false ∧ eqTm (.bui b) (.bui a) = false := fun a b x => by
    rcases x with n | ⟨e, s1, s2⟩
    · exact ⟨by simp [eqTm, n], by simp [eqTm, Ne.symm n]⟩
    · exact ⟨by simp [eqTm, s1], by simp [eqTm, s2]⟩
  cases h with
  | lit d p => exact ⟨rfl, rfl⟩
  | who p => exact ⟨rfl, rfl⟩
  | shi p b =>
    have n1 : ¬ (b = b + 1) := by omega
    have n2 : ¬ (b + 1 = b) := by omega
    exact ⟨by simp [eqTm, lfEq, n1], by simp [eqTm, lfEq, n2]⟩
  | add ts d => exact bb _ _ far
  | sub l r h => exact bb _ _ far
theorem sameF_self : ∀ ts : List Tm, (∀ t ∈ ts, oneEq t t = true) → sameF ts ts = true
  | [], _ => rfl
  | t :: ts, h => by
    show (oneEq t t && sameF ts ts) = true
    rw [h t List.mem_cons_self, sameF_self ts fun u m => h u (List.mem_cons_of_mem _ m)]; rfl
theorem oneEq_self (t : Tm) (h : ∀ d, t = .lit d → PyData.eqv d d = true) : oneEq t t = true := by
  cases t with
  | lit d => exact h d rfl
  | who p => simp [oneEq, lfEq]
  | shi p b => simp [oneEq, lfEq]
  | bui ts => simp [oneEq]
theorem eqTm_self (t : Tm) (h : ∀ d, Tm.lit d ∈ t.fl → PyData.eqv d d = true) : eqTm t t = true := by
  cases t with
  | lit d => exact h d (by simp [Tm.fl])
  | who p => simp [eqTm, lfEq]
  | shi p b => simp [eqTm, lfEq]
  | bui ts =>
    show (decide _ && sameF _ _) = true
    rw [sameF_self _ fun u m => oneEq_self u fun d e => h d (e ▸ m)]; simp
theorem eqTm_ok {t : Tm} (h : t.ok) : eqTm t t = true := by
  refine eqTm_self t fun d m => ?_
  have o := Tm.fl_ok t h _ m
  simp only [Tm.ok] at o
  rcases o with ⟨i, rfl, _⟩ | ⟨x, rfl, _⟩ <;> simp [PyData.eqv]
theorem Tm.oksA : ∀ {a b : List Tm}, Tm.oks (a ++ b) ↔ Tm.oks a ∧ Tm.oks b
  | [], b => by simp [Tm.oks]
  | t :: a, b => by
    show t.ok ∧ Tm.oks (a ++ b) ↔ (t.ok ∧ Tm.oks a) ∧ Tm.oks b
    rw [Tm.oksA (a := a), and_assoc]
theorem Tm.dpts_app : ∀ (a b : List Tm), Tm.dpts (a ++ b) = max (Tm.dpts a) (Tm.dpts b)
  | [], b => by simp [Tm.dpts]
  | t :: a, b => by
    show max t.dpt (Tm.dpts (a ++ b)) = max (max t.dpt (Tm.dpts a)) (Tm.dpts b)
    rw [Tm.dpts_app a b]; omega
/-- what is drawn for another term -/
inductive OthG : Tm → Tm → Prop
  | lit (d : PyData) : OthG (.lit d) (.who ⟨"a", []⟩)
  | who (p : Pl) : OthG (.who p) (.shi p 0)
  | shi (p : Pl) (b : Int) : OthG (.shi p b) (.shi p (b + 1))
  | add (ts : List Tm) : OthG (.bui ts) (.bui (ts ++ [.lit (.int 0)]))
  | sub (l r : List Tm) {t u : Tm} : OthG t u → OthG (.bui (l ++ t :: r)) (.bui (l ++ u :: r))
theorem OthG.oth {t u : Tm} (h : OthG t u) : Oth t u := by
  induction h with
  | lit d => exact .lit d _
  | who p => exact .who p
  | shi p b => exact .shi p b
  | add ts => exact .add ts _
  | sub l r _ ih => exact .sub l r ih
theorem OthG.dpt {t u : Tm} (h : OthG t u) : u.dpt = t.dpt := by
  induction h with
  | lit d => rfl
  | who p => rfl
  | shi p b => rfl
  | add ts =>
    show 1 + Tm.dpts _ = 1 + Tm.dpts _
    rw [Tm.dpts_app]
    show 1 + max _ (max 0 0) = _
    omega
  | @sub l r t u _ ih =>
    show 1 + Tm.dpts _ = 1 + Tm.dpts _
    rw [Tm.dpts_app, Tm.dpts_app]
    show 1 + max _ (max u.dpt _) = 1 + max _ (max t.dpt _)
    rw [ih]
/-- the amounts are not at the bound -/
def Tm.lo (t : Tm) : Prop := ∀ p b, Tm.shi p b ∈ t.fl → b.natAbs < 10 ^ 8
theorem OthG.ok (ha : PlOk ⟨"a", []⟩) {t u : Tm} (h : OthG t u) : t.ok → t.lo → u.ok := by
  induction h with
  | lit d =>
    intro _ _
    simp only [Tm.ok]; exact ha
  | who p =>
    intro o _
    simp only [Tm.ok] at o ⊢
    exact ⟨o, by omega⟩
  | shi p b =>
    intro o l
    have := l p b (by simp [Tm.fl])
    simp only [Tm.ok] at o ⊢
    exact ⟨o.1, by omega⟩
  | add ts =>
    intro o _
    simp only [Tm.ok] at o ⊢
    refine Tm.oksA.mpr ⟨o, ?_⟩
    simp only [Tm.oks, Tm.ok]
    exact ⟨.inl ⟨0, rfl, by decide⟩, trivial⟩
  | @sub l r t u _ ih =>
    intro o lo
    simp only [Tm.ok] at o ⊢
    obtain ⟨o1, o2⟩ := Tm.oksA.mp o
    simp only [Tm.oks] at o2
    refine Tm.oksA.mpr ⟨o1, ?_⟩
    simp only [Tm.oks]
    refine ⟨ih o2.1 fun p b m => lo p b ?_, o2.2⟩
    have f1 : (Tm.bui (l ++ t :: r)).fl = [Tm.bui (l ++ t :: r)] ++ (Tm.fls l ++ (t.fl ++ Tm.fls r)) := by rw [Tm.fl, Tm.fls_app]; rfl
    rw [f1]
    simp [m]
/-! what a law draws: words, values -/
abbrev sPick : Stmt := topS 24
abbrev sWord : Stmt := topS 25
theorem scPick : FnScope ["_law_box_here", "_law_items"] ["_law_box_here", "_law_items"] (defScope sPick) := ⟨rfl, rfl, rfl, by decide +kernel, rfl, by decide +kernel, by decide +kernel⟩
theorem scWord : FnScope ["_law_box_here", "_law_stem", "_law_k"] ["_law_box_here"] (defScope sWord) := ⟨rfl, rfl, rfl, by decide +kernel, rfl, by decide +kernel, by decide +kernel⟩
def spPick : Sp := fun vs H Q _ => ∃ p g a xs, vs = [.ref p, .ref a] ∧ Box H p g ∧ H a = some (.lst xs) ∧ a ∉ [p, g] ∧ 0 < xs.length ∧ xs.length ≤ 20000 ∧ ∀ x ∈ xs, ∀ H', Box H' p g → Off [p, g] H H' → Q x H'
def spWord : Sp := fun vs H Q _ => ∃ p g, vs = [.ref p] ∧ Box H p g ∧ ∀ x H', Sm 4 x → Box H' p g → Off [p, g] H H' → Q (.str x) H'
theorem abz_sm : Sm 3 ("abz" : Str) := Sm.of (by decide +kernel)
theorem abz_len : ("abz" : Str).cps.toList.length = 3 := by decide +kernel
theorem xyz_sm : Sm 6 ("abcxyz" : Str) := Sm.of (by decide +kernel)
theorem xyz_len : ("abcxyz" : Str).cps.toList.length = 6 := by decide +kernel
theorem one_sm {n c : Nat} {x : Str} (h : Sm n x) (m : c ∈ x.cps.toList) : Sm 1 (⟨#[c]⟩ : Str) := ⟨Nat.le_refl _, fun d hd => by
  have hd : d ∈ [c] := hd
  rw [List.mem_singleton.mp hd]
  exact h.lo c m⟩
theorem atN {xs : List V} {r : Int} (h0 : 0 ≤ r) (h : r < (xs.length : Int)) : ∃ x, atI xs r = some x ∧ x ∈ xs := by
  obtain ⟨x, h1, h2, _⟩ := atI_ok (xs := xs) h0 h
  exact ⟨x, h1, h2⟩
section
variable {P : Program} {w : World} {K : PySem.W.Frag} {mg : Str → Option Value} {base : Heap} {f fT fW fV : Addr} {fd dT dW dV : FuncData}
theorem ok_pick {k : Nat} (F : Fun K "_law_pick" "_law_pick" sPick f fd) (B : Bi mg) (T : Tk P w K mg base fT dT) : FnOk P w K mg base CX0 (k + 2) f fd ["_law_box_here", "_law_items"] spPick := by
  refine F.ok scPick (fun vs H Q E h => ?_) (fun cdv A outer s H vs Q E hr h => ?_)
  · obtain ⟨p, g, a, xs, rfl, _⟩ := h
    rfl
  obtain ⟨p, g, a, xs, rfl, hb, ha, na, l0, l9, q⟩ := h
  have hr1 : Room 1 _ := hr.mono (by omega)
  refine ⟨_, pss_one (ps_ret (pe_ix ix_list (pv 1) (pe_call T.ok hr1 (by rfl) T.mg T.kp T.bd .nil pass0 (pa_cons (pv 0) (pa_cons (pe_callB call_len_seq (by rfl) B.len PySem.boot_len (pa_cons (pv 1) pa_nil)) pa_nil))) (fun _ _ => rfl))), ?_⟩
  refine ⟨_, rfl, _, rfl, _, rfl, a, _, rfl, .inl (SqL.of ha), p, g, _, rfl, hb, by omega, by omega, fun r H1 r0 r8 b1 o1 => ?_⟩
  obtain ⟨x, hx, mx⟩ := atN (xs := xs) r0 r8
  exact ⟨a, xs, _, x, rfl, rfl, SqL.of (o1.get ha na), hx, q x mx H1 b1 o1⟩
theorem ok_word {k : Nat} (F : Fun K "_law_word" "_law_word" sWord f fd) (B : Bi mg) (T : Tk P w K mg base fT dT) : FnOk P w K mg base CX0 (k + 2) f fd ["_law_box_here"] spWord := by
  refine F.ok scWord (fun vs H Q E h => ?_) (fun cdv A outer s H vs Q E hr h => ?_)
  · obtain ⟨p, g, rfl, _⟩ := h
    rfl
  obtain ⟨p, g, rfl, hb, q⟩ := h
  have hr1 : Room 1 _ := hr.mono (by omega)
  refine ⟨_, pss_cons (ps_set (i := 1) scWord.nd rfl (.inl rfl) (pe_join pe_str (pe_lc (own := [("_law_k", 2)]) (g := gName 2) (by rfl) scWord.nd
      (pi_range1 (by rfl) B.rng (pa_cons (pe_call T.ok hr1 (by rfl) T.mg T.kp T.bd .nil pass0 (pa_cons (pv 0) (pa_cons pe_int pa_nil))) pa_nil))
      (blkOk_by (own := [("_law_k", 2)]) (N := ["_law_box_here", "_law_stem", "_law_k"]) (sc := defScope sWord) (by decide +kernel))
      (fun _ _ _ _ _ => pg_name (i := 2) scWord.nd rfl (Or.inl rfl)) (fun _ _ _ _ _ => pts_nil)
      (fun _ _ _ _ _ => pe_ix ix_str pe_str (pe_call T.ok hr1 (by rfl) T.mg T.kp T.bd .nil pass0 (pa_cons (pv 0) (pa_cons pe_int pa_nil))) (fun _ _ => rfl)))))
    (pss_one (ps_ret (pe_op op_add_str (pv 1) (pe_ix ix_str pe_str (pe_call T.ok hr1 (by rfl) T.mg T.kp T.bd .nil pass0 (pa_cons (pv 0) (pa_cons pe_int pa_nil))) (fun _ _ => rfl))))), ?_⟩
  refine ⟨⟨_, rfl⟩, _, rfl, p, g, 4, rfl, hb, by decide, by decide, fun r H1 r0 r8 b1 o1 => ?_⟩
  refine ⟨r, rfl, by omega, by omega, fun D hD => ?_⟩
  have nD := b1.notin hD
  refine lc_range (lo := 0) (n := r.toNat) (fun i H2 => ∃ ys : List Str, ys.length ≤ i ∧ (∀ y ∈ ys, Sm 1 y) ∧ H2 D = some (.lst (ys.map V.str)) ∧ Box H2 p g ∧ Off [p, g] H H2)
    ⟨[], Nat.le_refl _, fun _ z => (List.not_mem_nil z).elim, upd_same, b1.same (same_new hD _), o1.trans (Off.of (same_new hD _))⟩ ?_ ?_
  · rintro i H2 hi ⟨ys, ly, sy, h1, b2, o2⟩
    refine ⟨rfl, _, rfl, p, g, 3, rfl, b2, by decide, by decide, fun r2 H3 s0 s3 b3 o3 => ?_⟩
    obtain ⟨c, hc, mc, _⟩ := atI_ok (xs := ("abz" : Str).cps.toList) (r := r2) s0 (by rw [abz_len]; exact s3)
    refine ⟨_, _, c, rfl, rfl, abz_sm.fits (by decide), hc, _, o3.get h1 nD, ?_, ys ++ [⟨#[c]⟩], ?_, ?_, ?_, ?_, ?_⟩
    · rw [List.length_map]
      exact small1000 (by omega)
    · rw [List.length_append, List.length_singleton]
      omega
    · intro y hy
      rcases List.mem_append.mp hy with z | z
      · exact sy y z
      · rw [List.mem_singleton.mp z]
        exact one_sm abz_sm mc
    · rw [upd_same, List.map_append]
      rfl
    · exact b3.put nD
    · exact off_new (o2.trans o3) nD (o1.free hD nD)
  · rintro H2 ⟨ys, ly, sy, h1, b2, o2⟩
    have j := Sm.join ys sy
    refine ⟨_, D, ys, rfl, rfl, .inl (SqL.of h1), ?_, ?_⟩
    · have e0 : (("" : Str)).length = 0 := by decide +kernel
      rw [e0, Nat.mul_zero, Nat.add_zero]
      have : (ys.map (·.length)).sum ≤ ys.length := by
        clear h1 j ly
        induction ys with
        | nil => exact Nat.le_refl _
        | cons y r ih =>
          have h1 := (sy y List.mem_cons_self).le
          have h2 := ih fun z hz => sy z (List.mem_cons_of_mem _ hz)
          simp only [List.map_cons, List.sum_cons, List.length_cons]
          omega
      exact few (by omega)
    refine ⟨_, rfl, _, rfl, p, g, 6, rfl, b2, by decide, by decide, fun r2 H3 s0 s26 b3 o3 => ?_⟩
    obtain ⟨c, hc, mc, _⟩ := atI_ok (xs := ("abcxyz" : Str).cps.toList) (r := r2) s0 (by rw [xyz_len]; exact s26)
    have one := one_sm xyz_sm mc
    have sA := (j.mono (by omega : ys.length ≤ 3)).app one
    refine ⟨_, _, c, rfl, rfl, xyz_sm.fits (by decide), hc, _, _, rfl, rfl, ?_, q _ _ sA b3 (o2.trans o3)⟩
    have l1 := j.le
    have l2 := one.le
    exact few (by omega)
end
/-! a place is drawn -/
abbrev sPlace : Stmt := topS 29
theorem scPlace : FnScope ["_law_box_here", "_law_given", "_law_name", "_law_found", "_law_here", "_law_turn", "_law_wide", "_law_k"] ["_law_box_here", "_law_given"] (defScope sPlace) := ⟨rfl, rfl, rfl, by decide +kernel, rfl, by decide +kernel, by decide +kernel⟩
theorem InsV.names {K : PySem.W.Frag} {C : Addr} {H : Hp} {kvs : List (Key × V)} {gs : Ins} (h : InsV K C H kvs gs) : (kvs.map fun p => kV p.1) = gs.map fun g => V.str g.1 := by
  induction h with
  | nil => rfl
  | cons h _ ih =>
    rw [List.map_cons, List.map_cons, ih, h.1]
    rfl
structure InsG (gs : Ins) : Prop where
  one : 1 ≤ gs.length
  few : gs.length ≤ 20
  nm : ∀ g ∈ gs, Sm 8 g.1
  va : ∀ g ∈ gs, ∀ d, g.2 = some d → nod d ≤ 4000
def spPlace (K : PySem.W.Frag) (C : Addr) : Sp := fun vs H Q _ => ∃ p g a l kvs gs, vs = [.ref p, .ref a] ∧ Box H p g ∧ Tr l H ∧ p ∈ l ∧ g ∈ l ∧ InAt K C (cut l H) a kvs gs ∧ InsG gs ∧
  ∀ t r H', Box H' p g → Off [p, g] H H' → cut l H' t = some (.tup (plW r)) → PlOk r → Q (.ref t) H'
section
variable {P : Program} {w : World} {K : PySem.W.Frag} {mg : Str → Option Value} {base : Heap} {f fT fW fP C fE : Addr} {fd dT dW dP : FuncData}
theorem ok_place {k : Nat} (F : Fun K "_law_place" "_law_place" sPlace f fd) (B : Bi mg) (ml : mg "list" = none) (TF : FaC K mg C fE) (T : Tk P w K mg base fT dT) (GW : Dn P w K mg base 2 "_law_word" ["_law_box_here"] spWord fW dW)
    (GP : Dn P w K mg base 2 "_law_pick" ["_law_box_here", "_law_items"] spPick fP dP) : FnOk P w K mg base CX0 (k + 3) f fd ["_law_box_here", "_law_given"] (spPlace K C) := by
  refine F.ok scPlace (fun vs H Q E h => ?_) (fun cdv A outer s H vs Q E hr h => ?_)
  · obtain ⟨p, g, a, l, kvs, gs, rfl, _⟩ := h
    rfl
  obtain ⟨p, g, a, l, kvs, gs, rfl, hb, tl, pl, gl, hI, hO, q⟩ := h
  have hr1 : Room 1 _ := hr.mono (by omega)
  have hr2 : Room 2 _ := hr.mono (by omega)
  have hu := hu_of hr
  refine ⟨_, pss_cons (ps_set (i := 2) scPlace.nd rfl (.inl rfl) (pe_call GP.ok hr2 (by rfl) GP.mg GP.kp GP.bd .nil pass0 (pa_cons (pv 0) (pa_cons
        (pe_op op_cat (pe_callTy (call_list_dK rfl) (by rfl) ml b_list (pa_cons (pv 1) pa_nil)) (pe_op op_rep (pe_lst (pa_cons (pe_call GW.ok hr2 (by rfl) GW.mg GW.kp GW.bd .nil pass0 (pa_cons (pv 0) pa_nil)) pa_nil)) (pe_op op_fdiv (pe_call T.ok hr1 (by rfl) T.mg T.kp T.bd .nil pass0 (pa_cons (pv 0) (pa_cons pe_int pa_nil))) pe_int))) pa_nil))))
    (pss_cons (ps_par (i := 3) (j := 4) (by rfl) scPlace.nd rfl rfl (by decide) rfl rfl (pa_cons (pe_tup (pa_cons (pv 2) pa_nil)) (pa_cons (pe_dget2 hu (pv 1) (pv 2) pe_int ⟨rfl, rfl, rfl, rfl⟩) pa_nil)) (by rfl))
    (pss_cons (ps_for PassesOwn.never rfl (pi_range1 (by rfl) B.rng (pa_cons (pe_call T.ok hr1 (by rfl) T.mg T.kp T.bd .nil pass0 (pa_cons (pv 0) (pa_cons pe_int pa_nil))) pa_nil)) (pg_name (i := 5) scPlace.nd rfl (.inl rfl))
      (pss_cons (ps_set (i := 6) scPlace.nd rfl (.inl rfl) (pe_ifExp (pt_val (pe_callB (call_isTu TF) (by rfl) B.ii b_ii (pa_cons (pv 4) (pa_cons (pe_bltn (by rfl) B.tup (by decide +kernel) (v := .ty "tuple") rfl) pa_nil))))
          (pe_callB call_len_seq (by rfl) B.len PySem.boot_len (pa_cons (pv 4) pa_nil)) pe_int))
      (pss_cons (ps_if (pt_cmpR op_eq (pv 6) pe_int (nomark _))
        (pss_one (ps_ret (pe_op op_catR (pv 3) (pe_op op_rep01 (pe_tup (pa_cons (pe_call T.ok hr1 (by rfl) T.mg T.kp T.bd .nil pass0 (pa_cons (pv 0) (pa_cons pe_int pa_nil))) pa_nil))
          (pe_op op_fdiv (pe_call T.ok hr1 (by rfl) T.mg T.kp T.bd .nil pass0 (pa_cons (pv 0) (pa_cons pe_int pa_nil))) pe_int))))) pss_nil)
      (pss_cons (ps_set (i := 7) scPlace.nd rfl (.inl rfl) (pe_call T.ok hr1 (by rfl) T.mg T.kp T.bd .nil pass0 (pa_cons (pv 0) (pa_cons (pv 6) pa_nil))))
      (pss_one (ps_par (i := 3) (j := 4) (by rfl) scPlace.nd rfl rfl (by decide) rfl rfl (pa_cons (pe_op op_catR (pv 3) (pe_tup (pa_cons (pv 7) pa_nil))) (pa_cons (pe_ix ix_tup (pv 4) (pv 7) (fun _ _ => rfl)) pa_nil)) (by rfl)))))))
    (pss_one (ps_ret (pv 3))))), ?_⟩
  have sub : ∀ b ∈ [p, g], b ∈ l := fun b hb => by
    simp only [List.mem_cons, List.not_mem_nil, or_false] at hb
    rcases hb with h | h
    · rw [h]; exact pl
    · rw [h]; exact gl
  have ha : H a = some (.dK kvs) := (cut_some hI.at_).2
  have lk := Paired.length hI.vs
  have lf := hO.few
  refine ⟨_, rfl, _, rfl, a, kvs, rfl, ha, fun q1 hq1 => ⟨_, rfl, p, g, rfl, hb.same (same_new hq1 _), fun x0 H1 sx0 b1 o1 => ⟨few (by simp), fun q2 hq2 => ?_⟩⟩⟩
  have nq1 := hb.notin hq1
  have h1 : H1 q1 = some (.lst (kvs.map fun kv => kV kv.1)) := o1.get upd_same nq1
  have oA : Off [p, g] H H1 := (Off.of (same_new hq1 _)).trans o1
  have s2 := same_new (o := .lst [V.str x0]) hq2
  have bA := b1.same s2
  have h1b : (upd H1 q2 (.lst [V.str x0])) q1 = _ := s2 _ _ h1
  have h2b : (upd H1 q2 (.lst [V.str x0])) q2 = some (.lst [V.str x0]) := upd_same
  have nq2 := b1.notin hq2
  refine ⟨_, rfl, p, g, 8, rfl, bA, by decide, by decide, fun r HA r0 r8 bB0 oB0 => ⟨_, _, rfl, rfl, ⟨⟨by decide, by decide⟩, q2, r / 7, [V.str x0], rfl, rfl, oB0.get h2b nq2, by omega, by omega, few ?_, fun q4 hq4 => ?_⟩⟩⟩
  · simp only [List.length_singleton]; omega
  have h4 : r / 7 = 0 ∨ r / 7 = 1 := by omega
  have s4 := same_new (o := .lst (List.replicate (r / 7).toNat [V.str x0]).flatten) hq4
  have lw : (List.replicate (r / 7).toNat [V.str x0]).flatten.length ≤ 1 ∧ ∀ y ∈ (List.replicate (r / 7).toNat [V.str x0]).flatten, y = V.str x0 := by
    rcases h4 with h | h <;> rw [h] <;> simp
  have oA2 : Off [p, g] H HA := (oA.trans (Off.of s2)).trans oB0
  generalize (List.replicate (r / 7).toNat [V.str x0]).flatten = zs at *
  refine ⟨q1, q4, _, _, rfl, rfl, s4 _ _ (oB0.get h1b nq1), upd_same, few (by rw [List.length_map]; have := lw.1; omega), fun q3 hq3 => ?_⟩
  have s3 := same_new (o := .lst ((kvs.map fun kv => kV kv.1) ++ zs)) hq3
  have bB := (bB0.same s4).same s3
  have oB : Off [p, g] H _ := oA2.trans (Off.of (s4.trans s3))
  refine ⟨p, g, q3, _, rfl, bB, upd_same, (bB0.same s4).notin hq3, by (rw [List.length_append, List.length_map]; have := hO.one; omega), by (rw [List.length_append, List.length_map]; have := lw.1; omega), fun y my H4 b4 o4 => ?_⟩
  obtain ⟨n, rfl, sn⟩ : ∃ n, y = V.str n ∧ Sm 8 n := by
    rcases List.mem_append.mp my with m | m
    · rw [hI.vs.names] at m
      obtain ⟨z, mz, rfl⟩ := List.mem_map.mp m
      exact ⟨_, rfl, hO.nm z mz⟩
    · exact ⟨x0, lw.2 _ m, sx0.mono (by decide)⟩
  have o4 := oB.trans o4
  have tl4 : Tr l H4 := tl.go o4 fun b hb => by
    have t := b4.tr
    simp only [List.mem_cons, List.not_mem_nil, or_false] at hb
    rcases hb with h | h
    · rw [h]; exact t.1
    · rw [h]; exact t.2
  have hI4 := hI.up (o4.mono sub)
  have ha4 : H4 a = some (.dK kvs) := (cut_some hI4.at_).2
  refine ⟨_, rfl, few (by simp), fun t ht => ?_⟩
  have ntl : t ∉ l := tl4.out ht
  have s5 := same_new (o := .tup [V.str n]) ht
  have hI5 := hI4.up (cut_new (l := l) (o := .tup [V.str n]) ht)
  refine ⟨_, rfl, a, rfl, .inl ⟨kvs, .inl (s5 _ _ ha4)⟩, _, rfl, valV kvs (.inr n), DGet.k (k := Sum.inr n) (s5 _ _ ha4), ?_⟩
  -- what is there, and the place to it
  have b5 := b4.same s5
  have tl5 := tl4.same s5
  have hP5 : cut l (upd H4 t (.tup [V.str n])) t = some (.tup (plV n [])) := by rw [cut_out ntl]; exact upd_same
  have o5 : Off [p, g] H (upd H4 t (.tup [V.str n])) := o4.trans (Off.of s5)
  obtain ⟨v0, y0, e0, hv0, hy0⟩ : ∃ v0 y0, (valV kvs (.inr n)).getD (.int 0) = v0 ∧ VaAt K C (cut l (upd H4 t (.tup [V.str n]))) v0 y0 ∧ ∀ d, y0 = some d → nod d ≤ 4000 := by
    rcases hI5.vs.get n with ⟨e1, e2⟩ | ⟨v0, x0, e1, e2, hv⟩
    · rw [e1]
      exact ⟨.int 0, some (.int 0), rfl, .int 0, fun d z => by cases z; simp only [nod]; omega⟩
    · rw [e1]
      refine ⟨v0, x0, rfl, hv, fun d z => ?_⟩
      unfold getI at e2
      obtain ⟨z2, m2, e3⟩ := Option.map_eq_some_iff.mp e2
      exact hO.va z2 (List.mem_of_find?_eq_some m2) d (by rw [e3]; exact z)
  rw [e0]
  generalize upd H4 t (.tup [V.str n]) = H5 at *
  refine ⟨_, _, rfl, _, rfl, p, g, 9, rfl, b5, by decide, by decide, fun m H6 m0 m9 b6 o6 => ⟨m, rfl, by omega, by omega, for_range (lo := 0) (n := m.toNat) (fun i σ H7 => ∃ o5 o6 o7 t ks v y, σ = [some (.ref p), some (.ref a), some (.str n), some (.ref t), some v, o5, o6, o7] ∧ Box H7 p g ∧ Off [p, g] H H7 ∧
      cut l H7 t = some (.tup (plV n ks)) ∧ ks.length ≤ i ∧ (∀ k ∈ ks, k ≤ 5000) ∧ VaAt K C (cut l H7) v y ∧ ∀ d, y = some d → nod d ≤ 4000)
    ⟨none, none, none, t, [], v0, y0, rfl, b6, o5.trans o6, (o6.mono sub) _ _ hP5, Nat.zero_le _, (fun _ z => nomatch z), hv0.up (o6.mono sub), hy0⟩ ?_ ?_⟩⟩
  · rintro i σ H7 hi ⟨w5, w6, w7, t, ks, v, y, rfl, b7, o7, hP, lks, hks, hv, hy⟩
    have trA : ∀ H8, Box H8 p g → Off [p, g] H7 H8 → Tr l H8 := fun H8 b8 o8 => tl.go (o7.trans o8) fun b hb => by
      have t := b8.tr
      simp only [List.mem_cons, List.not_mem_nil, or_false] at hb
      rcases hb with h | h
      · rw [h]; exact t.1
      · rw [h]; exact t.2
    have ret : ∀ (u5 u7 : Option V) (u4 : V), tOp (rCatR K) (tVar 3) (tOp (rRep01 K) (tTup (tCons (tCall spTake [] E0 (tCons (tVar 0) (tCons (tC (V.int 2)) tNil))) tNil)) (tOp (rI CDiv fun i j => V.int (i / j)) (tCall spTake [] E0 (tCons (tVar 0) (tCons (tC (V.int 8)) tNil))) (tC (V.int 7))))
        [some (.ref p), some (.ref a), some (.str n), some (.ref t), some u4, u5, some (.int 0), u7] H7 Q := by
      intro u5 u7 u4
      refine ⟨_, rfl, _, rfl, p, g, 2, rfl, b7, by decide, by decide, fun r H9 r0 r2 b9 o9 => ⟨few (by simp), fun t1 ht1 => ?_⟩⟩
      have n1 := b9.notin ht1
      have tl9 := trA H9 b9 o9
      have n1l : t1 ∉ l := tl9.out ht1
      have s10 := same_new (o := .tup [V.int r]) ht1
      refine ⟨_, rfl, p, g, 8, rfl, b9.same s10, by decide, by decide, fun r2 H10 r20 r22 b10 o10 => ?_⟩
      have h1 : H10 t1 = some (.tup [V.int r]) := o10.get upd_same n1
      have oT : Off [p, g] H7 H10 := o9.trans ((Off.of s10).trans o10)
      have tl10 := trA H10 b10 oT
      have hP10 := (oT.mono sub) _ _ hP
      refine ⟨_, _, rfl, rfl, ⟨by decide, by decide⟩, t1, r2 / 7, _, rfl, rfl, .inl (.inl h1), by simp, ?_⟩
      by_cases c : r2 / 7 = 1
      · refine .inl ⟨c, t, t1, plV n ks, [V.int r], l, rfl, rfl, (fun z => nomatch z), hP10, .inl (.inl (by rw [cut_out n1l]; exact h1)), tl10, few ?_, fun c H11 s11 hc => q c (n, ks ++ [r.toNat]) H11 (b10.same s11) ((o7.trans oT).trans (Off.of s11)) ?_ ⟨sn, ?_, ?_⟩⟩
        · simp only [plV, List.length_cons, List.length_map, List.length_nil]
          omega
        · have e1 : plV n ks ++ [V.int r] = plV n (ks ++ [r.toNat]) := by
            unfold plV
            rw [List.map_append, List.cons_append, List.map_singleton, show ((r.toNat : Nat) : Int) = r from by omega]
          rw [e1] at hc
          exact hc
        · show (ks ++ [r.toNat]).length ≤ 14
          rw [List.length_append, List.length_singleton]
          omega
        · intro z mz
          rcases List.mem_append.mp mz with h | h
          · exact hks z h
          · rw [List.mem_singleton.mp h]
            omega
      · refine .inr ⟨by omega, fun t2 ht2 => ?_⟩
        have n2l : t2 ∉ l := tl10.out ht2
        have s11 := same_new (o := .tup []) ht2
        refine ⟨t, t2, plV n ks, [], l, rfl, rfl, (fun z => nomatch z), (cut_new (l := l) (o := .tup []) ht2) _ _ hP10, .inl (.inl (by rw [cut_out n2l]; exact upd_same)), tl10.same s11, few ?_, fun c H11 s12 hc => q c (n, ks) H11 ((b10.same s11).same s12) (((o7.trans oT).trans (Off.of s11)).trans (Off.of s12)) (by rw [List.append_nil] at hc; exact hc) ⟨sn, by show ks.length ≤ 14; omega, hks⟩⟩
        simp only [plV, List.length_cons, List.length_map, List.length_nil]
        omega
    refine ⟨_, rfl, v, y, rfl, hv.up (cut_same l H7), _, rfl, ?_⟩
    cases ht : isTupO y with
    | false =>
      refine iteF ⟨_, rfl, rfl, _, rfl, ite2 (fun _ => ?_) (fun c => absurd c (by decide))⟩
      exact ret _ _ _
    | true =>
      obtain ⟨d, rfl⟩ : ∃ d, y = some d := by
        cases y with
        | none => cases ht
        | some d => exact ⟨d, rfl⟩
      obtain ⟨wa, xs, ds, rfl, rfl, hw, gw⟩ := tup_of hv ht
      have lw := DpAll.len gw
      have hw7 := seqT_cut hw
      have nd := hy _ rfl
      have nl := nods_len ds
      simp only [nod] at nd
      refine iteT ⟨_, rfl, wa, _, rfl, .inr hw7, _, rfl, rfl, _, rfl, ite2 (fun c => ?_) (fun c => ?_)⟩
      · have z : (xs.length : Int) = 0 := by simpa using c
        rw [z]
        exact ret _ _ _
      · have c : ¬ (xs.length : Int) = 0 := fun z => of_decide_eq_false (Bool.eq_false_iff.mpr c) (by rw [z])
        · refine ⟨_, rfl, _, rfl, p, g, _, rfl, b7, by omega, by omega, fun k2 H9 k20 k29 b9 o9 => ?_⟩
          have o79 := o9
          have tl9 := trA H9 b9 o79
          refine ⟨_, rfl, _, rfl, few (by simp), fun t1 ht1 => ?_⟩
          have n1l : t1 ∉ l := tl9.out ht1
          have s10 := same_new (o := .tup [V.int k2]) ht1
          have hP9 := (o79.mono sub) _ _ hP
          refine ⟨t, t1, plV n ks, [V.int k2], l, rfl, rfl, (fun z => nomatch z), (cut_new (l := l) (o := .tup [V.int k2]) ht1) _ _ hP9, .inl (.inl (by rw [cut_out n1l]; exact upd_same)), tl9.same s10, few ?_, fun c H11 s11 hc => ?_⟩
          · simp only [plV, List.length_cons, List.length_map, List.length_nil]
            omega
          have e1 : plV n ks ++ [V.int k2] = plV n (ks ++ [k2.toNat]) := by
            unfold plV
            rw [List.map_append, List.cons_append, List.map_singleton, show ((k2.toNat : Nat) : Int) = k2 from by omega]
          rw [e1] at hc
          obtain ⟨x, hx, mx, gx⟩ := atI_ok (xs := xs) k20 k29
          have oX : Off [p, g] H7 H11 := o79.trans (Off.of (s10.trans s11))
          have gw2 := Dp.ups (oX.mono sub) _ _ gw
          obtain ⟨e, he, hde⟩ := DpAll.get gw2 gx
          refine ⟨_, rfl, _, rfl, wa, _, _, x, rfl, rfl, seqT_cut (seqT_up (oX.mono sub) hw), hx, _, _, rfl, _, _, _, c, ks ++ [k2.toNat], x, some e, rfl, (b9.same s10).same s11, o7.trans oX, hc, ?_, ?_, hde, ?_⟩
          · rw [List.length_append, List.length_singleton]
            omega
          · intro z mz
            rcases List.mem_append.mp mz with h | h
            · exact hks z h
            · rw [List.mem_singleton.mp h]
              omega
          · intro d z
            cases z
            have := nods_mem (List.mem_of_getElem? he)
            omega
  · rintro σ H7 ⟨w5, w6, w7, t, ks, v, y, rfl, b7, o7, hP, lks, hks, hv, hy⟩
    exact ⟨_, rfl, q t (n, ks) H7 b7 o7 hP ⟨sn, by show ks.length ≤ 14; omega, hks⟩⟩
end
/-! values drawn: good and small data -/
mutual
def gvb (b : Nat) : PyData → Bool
  | .int i => decide (i.natAbs < 2 ^ b)
  | .str x => decide (x.length ≤ 4) && x.cps.toList.all fun c => decide (c < 128)
  | .tuple ds => gvbs b ds
  | .none => false
  | .bool _ => false
  | .list _ => false
  | .dict _ => false
def gvbs (b : Nat) : List PyData → Bool
  | [] => true
  | d :: ds => gvb b d && gvbs b ds
end
def gv (d : PyData) : Bool := gvb 10 d
def gvs (ds : List PyData) : Bool := gvbs 10 ds
theorem gvs_nil : gvs [] = true := by simp [gvs, gvbs]
theorem gvs_cons (d : PyData) (ds : List PyData) : gvs (d :: ds) = (gv d && gvs ds) := by simp only [gvs, gv, gvbs]
theorem gvs_app : ∀ (a b : List PyData), gvs (a ++ b) = (gvs a && gvs b)
  | [], b => by rw [gvs_nil]; rfl
  | d :: a, b => by rw [List.cons_append, gvs_cons, gvs_cons, gvs_app a b, Bool.and_assoc]
theorem gv_tup (ds : List PyData) : gv (.tuple ds) = gvs ds := by simp only [gv, gvs, gvb]
theorem gv_int {i : Int} (h : i.natAbs < 2 ^ 10) : gv (.int i) = true := by simp [gv, gvb, h]
theorem gvb_str {x : Str} {b : Nat} (h : Sm 4 x) : gvb b (.str x) = true := by
  have h2 : (x.cps.toList.all fun c => decide (c < 128)) = true := List.all_eq_true.mpr fun c hc => decide_eq_true (h.lo c hc)
  simp only [gvb, decide_eq_true h.le, h2, Bool.and_self]
theorem gv_str {x : Str} (h : Sm 4 x) : gv (.str x) = true := gvb_str h
mutual
theorem gvb_gd {b : Nat} (hb : b ≤ 1000) : ∀ d : PyData, gvb b d = true → gd d = true ∧ vd d = true
  | .int i, h => by
    simp only [gvb, decide_eq_true_eq] at h
    exact ⟨gd_int (Nat.lt_of_lt_of_le h (Nat.pow_le_pow_right (by decide) hb)), by simp only [vd]⟩
  | .str x, h => by
    simp only [gvb, Bool.and_eq_true, decide_eq_true_eq] at h
    exact ⟨by simp only [gd, h.2, decide_eq_true (show x.length ≤ 100 by omega), Bool.and_self], by simp only [vd]⟩
  | .tuple ds, h => by
    have q := gvbs_gd hb ds (by simpa only [gvb] using h)
    exact ⟨by simpa only [gd] using q.1, by simpa only [vd] using q.2⟩
  | .none, h => by simp [gvb] at h
  | .bool _, h => by simp [gvb] at h
  | .list _, h => by simp [gvb] at h
  | .dict _, h => by simp [gvb] at h
theorem gvbs_gd {b : Nat} (hb : b ≤ 1000) : ∀ ds : List PyData, gvbs b ds = true → gds ds = true ∧ vds ds = true
  | [], _ => ⟨by simp only [gds], by simp only [vds]⟩
  | d :: ds, h => by
    simp only [gvbs, Bool.and_eq_true] at h
    have q1 := gvb_gd hb d h.1
    have q2 := gvbs_gd hb ds h.2
    exact ⟨by simp only [gds, q1.1, q2.1, Bool.and_self], by simp only [vds, q1.2, q2.2, Bool.and_self]⟩
end
mutual
theorem gvb_sz {b : Nat} (hb : b ≤ 40) : ∀ d : PyData, gvb b d = true → d.shown.length + 2 ≤ 45 * nod d
  | .int i, h => by
    simp only [gvb, decide_eq_true_eq] at h
    have h1 : i.natAbs < 10 ^ 40 := Nat.lt_of_lt_of_le h (Nat.le_trans (Nat.pow_le_pow_right (by decide) hb) (Nat.pow_le_pow_left (by decide) 40))
    have q := int_text_length_le10 (a := i) (k := 40) (by decide) h1
    simp only [PyData.shown, nod]
    show (Str.ofString (toString i)).length + 2 ≤ _
    have e : (Str.ofString (toString i)).length ≤ 41 := by rw [PySem.ofString_length]; exact q
    omega
  | .str x, h => by
    simp only [gvb, Bool.and_eq_true, decide_eq_true_eq, List.all_eq_true] at h
    have q := StrLaws.reprText_len x (fun c hc => Nat.lt_of_lt_of_le (h.2 c hc) (by decide))
    simp only [PyData.shown, nod]
    omega
  | .tuple ds, h => by
    have q := gvbs_sz hb ds (by simpa only [gvb] using h)
    have q2 := tupleText_len_le (PyData.shownAll ds)
    simp only [PyData.shown, nod]
    omega
  | .none, h => by simp [gvb] at h
  | .bool _, h => by simp [gvb] at h
  | .list _, h => by simp [gvb] at h
  | .dict _, h => by simp [gvb] at h
theorem gvbs_sz {b : Nat} (hb : b ≤ 40) : ∀ ds : List PyData, gvbs b ds = true → ((PyData.shownAll ds).map (·.length)).sum + 2 * (PyData.shownAll ds).length ≤ 45 * nods ds
  | [], _ => by simp [PyData.shownAll, nods]
  | d :: ds, h => by
    simp only [gvbs, Bool.and_eq_true] at h
    have q1 := gvb_sz hb d h.1
    have q2 := gvbs_sz hb ds h.2
    simp only [PyData.shownAll, nods, List.map_cons, List.sum_cons, List.length_cons]
    omega
end
mutual
theorem gvb_up {b c : Nat} (hb : b ≤ c) : ∀ d : PyData, gvb b d = true → gvb c d = true
  | .int i, h => by
    simp only [gvb, decide_eq_true_eq] at h ⊢
    exact Nat.lt_of_lt_of_le h (Nat.pow_le_pow_right (by decide) hb)
  | .str x, h => by simpa only [gvb] using h
  | .tuple ds, h => by
    simp only [gvb] at h ⊢
    exact gvbs_up hb ds h
  | .none, h => by simp [gvb] at h
  | .bool _, h => by simp [gvb] at h
  | .list _, h => by simp [gvb] at h
  | .dict _, h => by simp [gvb] at h
theorem gvbs_up {b c : Nat} (hb : b ≤ c) : ∀ ds : List PyData, gvbs b ds = true → gvbs c ds = true
  | [], _ => by simp only [gvbs]
  | d :: ds, h => by
    simp only [gvbs, Bool.and_eq_true] at h ⊢
    exact ⟨gvb_up hb d h.1, gvbs_up hb ds h.2⟩
end
abbrev sValue : Stmt := topS 26
abbrev sValIn : Stmt := topS 27
theorem scValue : FnScope ["_law_box_here", "_law_deep"] ["_law_box_here", "_law_deep"] (defScope sValue) := ⟨rfl, rfl, rfl, by decide +kernel, rfl, by decide +kernel, by decide +kernel⟩
theorem scValIn : FnScope ["_law_box_here", "_law_deep", "_law_room", "_law_form", "_law_many", "_law_k"] ["_law_box_here", "_law_deep", "_law_room"] (defScope sValIn) := ⟨rfl, rfl, rfl, by decide +kernel, rfl, by decide +kernel, by decide +kernel⟩
def phi (w : Int) : Nat := (max w 1).toNat
def spVal (K : PySem.W.Frag) (n : Nat) : Sp := fun vs H Q _ => ∃ p g wd e w0 l, vs = [.ref p, .int e, .ref wd] ∧ Box H p g ∧ H wd = some (.lst [.int w0]) ∧ wd ∉ [p, g] ∧ 0 ≤ e ∧ e < (n : Int) ∧ Tr l H ∧
  ∀ v d H' w1, Box H' p g → H' wd = some (.lst [.int w1]) → Off [p, g, wd] H H' → Dp K (cut l H') v d → gv d = true → (d.depth : Int) ≤ e → w1 ≤ w0 - 1 → nod d + 12 * phi w1 ≤ 1 + 12 * phi w0 → Q v H'
def spValue (K : PySem.W.Frag) : Sp := fun vs H Q _ => ∃ p g e l, vs = [.ref p, .int e] ∧ Box H p g ∧ 0 ≤ e ∧ e < 9 ∧ Tr l H ∧ ∀ v d H', Box H' p g → Off [p, g] H H' → Dp K (cut l H') v d → gv d = true → (d.depth : Int) ≤ e → nod d ≤ 601 → Q v H'

section
variable {P : Program} {w : World} {K : PySem.W.Frag} {mg : Str → Option Value} {base : Heap} {f fT fW fV : Addr} {fd dT dW dV : FuncData}
theorem ok_valIn {k n : Nat} (F : Fun K "_law_value_in" "_law_value_in" sValIn f fd) (B : Bi mg) (T : Tk P w K mg base fT dT) (GW : Dn P w K mg base 2 "_law_word" ["_law_box_here"] spWord fW dW)
    (G : FnOk P w K mg base CX0 (k + 2) f fd ["_law_box_here", "_law_deep", "_law_room"] (spVal K n)) (bV : Binds K fd ["_law_box_here", "_law_deep", "_law_room"] []) (mV : mg "_law_value_in" = some (.ref f)) :
    FnOk P w K mg base CX0 (k + 3) f fd ["_law_box_here", "_law_deep", "_law_room"] (spVal K (n + 1)) := by
  refine F.ok scValIn (fun vs H Q E h => ?_) (fun cdv A outer s H vs Q E hr h => ?_)
  · obtain ⟨p, g, wd, e, w0, l, rfl, _⟩ := h
    rfl
  obtain ⟨p, g, wd, e, w0, l, rfl, hb, hw, nw, e0, en, tl, q⟩ := h
  have hr1 : Room 1 _ := hr.mono (by omega)
  have hr2 : Room 2 _ := hr.mono (by omega)
  refine ⟨_, pss_cons (ps_asg (pe_tup (pa_cons (pe_op op_sub (pe_ix ix_list (pv 2) pe_int (fun _ _ => rfl)) pe_int) (pa_cons (pe_call T.ok hr1 (by rfl) T.mg T.kp T.bd .nil pass0 (pa_cons (pv 0) (pa_cons pe_int pa_nil))) pa_nil)))
      (pg_tup (by rfl) (pgs_cons (pg_sub (pv 2) pe_int set_list) (pgs_cons (pg_name (i := 3) scValIn.nd rfl (.inl rfl)) pgs_nil))))
    (pss_cons (ps_if (PW.pt (pw_and (pt_cmpR op_gt (pv 1) pe_int (nomark _)) (pw_and (pt_cmpR op_gt (pv 3) pe_int (nomark _)) (pw_and1 (pt_cmpR op_gt (pe_ix ix_list (pv 2) pe_int (fun _ _ => rfl)) pe_int (nomark _))))))
      (pss_cons (ps_set (i := 4) scValIn.nd rfl (.inl rfl) (pe_ix ix_list (pe_lst (pa_cons (pe_call T.ok hr1 (by rfl) T.mg T.kp T.bd .nil pass0 (pa_cons (pv 0) (pa_cons pe_int pa_nil))) (pa_cons pe_int pa_nil)))
          (pe_op op_fdiv (pe_call T.ok hr1 (by rfl) T.mg T.kp T.bd .nil pass0 (pa_cons (pv 0) (pa_cons pe_int pa_nil))) pe_int) (fun _ _ => rfl)))
      (pss_one (ps_ret (pe_callTy call_tuple_of (by rfl) B.tup b_tup (pa_cons (pe_lc (own := [("_law_k", 5)]) (g := gName 5) (by rfl) scValIn.nd (pi_range1 (by rfl) B.rng (pa_cons (pv 4) pa_nil))
        (blkOk_by (own := [("_law_k", 5)]) (N := ["_law_box_here", "_law_deep", "_law_room", "_law_form", "_law_many", "_law_k"]) (sc := defScope sValIn) (by decide +kernel))
        (fun _ _ _ _ _ => pg_name (i := 5) scValIn.nd rfl (Or.inl rfl)) (fun _ _ _ _ _ => pts_nil)
        (fun _ _ _ _ _ => pe_call G hr (by rfl) mV F.kp bV .nil pass0 (pa_cons (pv 0) (pa_cons (pe_op op_sub (pv 1) pe_int) (pa_cons (pv 2) pa_nil))))) pa_nil)))))
      pss_nil)
    (pss_one (ps_ret (pe_ix ix_list (pe_lst (pa_cons (pe_op op_sub (pe_call T.ok hr1 (by rfl) T.mg T.kp T.bd .nil pass0 (pa_cons (pv 0) (pa_cons pe_int pa_nil))) pe_int)
        (pa_cons (pe_call GW.ok hr2 (by rfl) GW.mg GW.kp GW.bd .nil pass0 (pa_cons (pv 0) pa_nil)) pa_nil))) (pe_op op_mod (pv 3) pe_int) (fun _ _ => rfl))))), ?_⟩
  refine ⟨_, rfl, wd, _, 0, _, rfl, rfl, SqL.of hw, rfl, _, _, rfl, rfl, _, rfl, p, g, 5, rfl, hb, by decide, by decide, fun fo H1 f0 f5 b1 o1 => ⟨few (by simp), fun tq htq => ?_⟩⟩
  have sub : ∀ b ∈ [p, g], b ∈ [p, g, wd] := fun b hb => by
    simp only [List.mem_cons, List.not_mem_nil, or_false] at hb ⊢
    rcases hb with h | h
    · exact .inl h
    · exact .inr (.inl h)
  have hw1 : H1 wd = some (.lst [.int w0]) := o1.get hw nw
  have nq := b1.notin htq
  have nwq : wd ≠ tq := ne_of_none hw1 htq
  have nq3 : tq ∉ [p, g, wd] := by
    simp only [List.mem_cons, List.not_mem_nil, or_false, not_or] at nq ⊢
    exact ⟨nq.1, nq.2, fun z => nwq z.symm⟩
  have oq := off_new (o := .tup [.int (w0 - 1), .int fo]) (o1.mono sub) nq3 ((o1.mono sub).free htq nq3)
  refine ⟨tq, _, rfl, .inl (.inl upd_same), rfl, _, _, rfl, _, rfl, wd, _, 0, 0, rfl, rfl, by rw [upd_ne nwq]; exact hw1, rfl, ?_⟩
  refine ⟨_, _, rfl, rfl, ?_⟩
  have b2 : Box (upd (upd H1 tq (.tup [.int (w0 - 1), .int fo])) wd (.lst [.int (w0 - 1)])) p g := (b1.put nq).put nw
  have hw2 : (upd (upd H1 tq (.tup [.int (w0 - 1), .int fo])) wd (.lst [.int (w0 - 1)])) wd = some (.lst [.int (w0 - 1)]) := upd_same
  have o2 : Off [p, g, wd] H (upd (upd H1 tq (.tup [.int (w0 - 1), .int fo])) wd (.lst [.int (w0 - 1)])) := oq.trans (Off.put (by simp))
  refine ⟨_, rfl, _, _, rfl, rfl, _, rfl, ite2 (fun c1 => ⟨_, rfl, _, _, rfl, rfl, _, rfl, ite2 (fun c2 => ⟨_, rfl, wd, _, 0, _, rfl, rfl, SqL.of hw2, rfl, _, _, rfl, rfl, _, rfl, ite2 (fun c3 => ?r) (fun c3 => ?l3)⟩) (fun c2 => ?l2)⟩) (fun c1 => ?l1)⟩
  case r =>
    have e1 : (0 : Int) < e := of_decide_eq_true c1
    have w1' : (0 : Int) < w0 - 1 := of_decide_eq_true c3
    refine ⟨_, rfl, p, g, 4, rfl, b2, by decide, by decide, fun s1 H3 s10 s14 b3 o3 => ⟨few (by simp), fun D hD => ?_⟩⟩
    have hw3 : H3 wd = some (.lst [.int (w0 - 1)]) := o3.get hw2 nw
    have o3 := o2.trans (o3.mono sub)
    have nD := b3.notin hD
    have nwD : wd ≠ D := ne_of_none hw3 hD
    have nD3 : D ∉ [p, g, wd] := by
      simp only [List.mem_cons, List.not_mem_nil, or_false, not_or] at nD ⊢
      exact ⟨nD.1, nD.2, fun z => nwD z.symm⟩
    have b5 := b3.put (o := .lst [V.int s1, V.int 12]) nD
    have o5 := off_new (o := .lst [V.int s1, V.int 12]) o3 nD3 (o3.free hD nD3)
    refine ⟨_, rfl, p, g, 12, rfl, b5, by decide, by decide, fun s3 H6 s30 s33 b6 o6 => ⟨_, _, rfl, rfl, ⟨by decide, by decide⟩, ?_⟩⟩
    have hD6 : H6 D = some (.lst [V.int s1, V.int 12]) := o6.get upd_same nD
    have hw6 : H6 wd = some (.lst [.int (w0 - 1)]) := o6.get (by rw [upd_ne nwD]; exact hw3) nw
    have o6 := o5.trans (o6.mono sub)
    obtain ⟨v, hv, mv⟩ := atN (xs := [V.int s1, V.int 12]) (r := s3 / 11) (by omega) (by show s3 / 11 < 2; omega)
    refine ⟨D, _, _, v, rfl, rfl, SqL.of hD6, hv, ?_⟩
    obtain ⟨m, rfl, m0, m12⟩ : ∃ m : Int, v = .int m ∧ 0 ≤ m ∧ m ≤ 12 := by
      simp only [List.mem_cons, List.not_mem_nil, or_false] at mv
      rcases mv with e | e
      · exact ⟨_, e, by omega, by omega⟩
      · exact ⟨_, e, by omega, by omega⟩
    have tr6 : Tr l H6 := tl.go o6 fun b hb => by
      have t := b6.tr
      simp only [List.mem_cons, List.not_mem_nil, or_false] at hb
      rcases hb with h | h | h
      · rw [h]; exact t.1
      · rw [h]; exact t.2
      · rw [h, hw6]; exact fun z => nomatch z
    refine ⟨_, rfl, m, rfl, by omega, by omega, fun D2 hD2 => ?_⟩
    have n2 := b6.notin hD2
    have nw2 : wd ≠ D2 := ne_of_none hw6 hD2
    have n23 : D2 ∉ [p, g, wd] := by
      simp only [List.mem_cons, List.not_mem_nil, or_false, not_or] at n2 ⊢
      exact ⟨n2.1, n2.2, fun z => nw2 z.symm⟩
    have nl2 : D2 ∉ l := fun z => tr6 D2 z hD2
    refine lc_range (lo := 0) (n := m.toNat) (fun i H7 => ∃ vs ds wi, vs.length = i ∧ H7 D2 = some (.lst vs) ∧ DpAll K (cut (D2 :: p :: g :: wd :: l) H7) vs ds ∧ gvs ds = true ∧ (PyData.depthAll ds : Int) ≤ e - 1 ∧
        Box H7 p g ∧ H7 wd = some (.lst [.int wi]) ∧ Off [p, g, wd] H H7 ∧ Tr l H7 ∧ wi ≤ w0 - 1 ∧ nods ds + 12 * phi wi ≤ i + 12 * phi (w0 - 1))
      ⟨[], [], w0 - 1, rfl, upd_same, .nil, gvs_nil, by simp only [PyData.depthAll]; omega, b6.put n2, by rw [upd_ne nw2]; exact hw6, off_new o6 n23 (o6.free hD2 n23), fun b hb => by rw [upd_ne (ne_mem nl2 hb)]; exact tr6 b hb, Int.le_refl _, by simp only [nods]; omega⟩ ?_ ?_
    · rintro i H7 hi ⟨vs, ds, wi, lv, h1, h2, h3, h4, h5, h6, h7, h8, h9, h10⟩
      have trk : Tr (D2 :: p :: g :: wd :: l) H7 := fun b hb => by
        have t := h5.tr
        simp only [List.mem_cons] at hb
        rcases hb with h | h | h | h | h
        · rw [h, h1]; exact fun z => nomatch z
        · rw [h]; exact t.1
        · rw [h]; exact t.2
        · rw [h, h6]; exact fun z => nomatch z
        · exact h8 b h
      refine ⟨rfl, _, rfl, _, rfl, _, _, rfl, rfl, _, rfl, p, g, wd, e - 1, wi, D2 :: p :: g :: wd :: l, rfl, h5, h6, nw, by omega, by omega, trk, fun v d H8 wj k1 k2 k3 k4 k5 k6 k7 k8 => ?_⟩
      have o8 : Off (D2 :: p :: g :: wd :: l) H7 H8 := k3.mono fun b hb => by
        simp only [List.mem_cons, List.not_mem_nil, or_false] at hb ⊢
        rcases hb with h | h | h
        · exact .inr (.inl h)
        · exact .inr (.inr (.inl h))
        · exact .inr (.inr (.inr (.inl h)))
      have put8 : Off (D2 :: p :: g :: wd :: l) H8 (upd H8 D2 (.lst (vs ++ [v]))) := Off.put (by simp)
      refine ⟨vs, k3.get h1 n23, few (by omega), vs ++ [v], ds ++ [d], wj, by rw [List.length_append, List.length_singleton, lv], upd_same, ?_, ?_, ?_, k1.put n2, by rw [upd_ne nw2]; exact k2, ?_, ?_, by omega, ?_⟩
      · exact DpAll.app (Dp.ups (o8.trans put8) _ _ h2) (.cons (Dp.up put8 _ _ k4) .nil)
      · rw [gvs_app, h3]
        simp [gvs_cons, gvs_nil, k5]
      · rw [depthAll_app]
        simp only [PyData.depthAll]
        omega
      · exact off_new (h7.trans k3) n23 (o6.free hD2 n23)
      · intro b hb
        by_cases eb : b = D2
        · exact absurd eb (ne_mem nl2 hb)
        · rw [upd_ne eb]
          have q1 := trk.go k3 (fun b hb => by
            have t := k1.tr
            simp only [List.mem_cons, List.not_mem_nil, or_false] at hb
            rcases hb with h | h | h
            · rw [h]; exact t.1
            · rw [h]; exact t.2
            · rw [h, k2]; exact fun z => nomatch z)
          exact q1 b (by simp [hb])
      · rw [nods_app]
        simp only [nods]
        omega
    · rintro H7 ⟨vs, ds, wi, lv, h1, h2, h3, h4, h5, h6, h7, h8, h9, h10⟩
      refine ⟨D2, vs, rfl, .inl ⟨SqL.of h1, fun t ht => ?_⟩⟩
      have nt := h5.notin ht
      have nwt : wd ≠ t := ne_of_none h6 ht
      have nt3 : t ∉ [p, g, wd] := by
        simp only [List.mem_cons, List.not_mem_nil, or_false, not_or] at nt ⊢
        exact ⟨nt.1, nt.2, fun z => nwt z.symm⟩
      have ntl : t ∉ l := fun z => h8 t z ht
      have s1 : Same (cut (D2 :: p :: g :: wd :: l) H7) (cut l (upd H7 t (.tup vs))) := fun b o z => by
        obtain ⟨a1, a2⟩ := cut_some z
        rw [cut_out (fun y => a1 (by simp [y])), upd_ne (ne_of_none a2 ht)]
        exact a2
      refine q (.ref t) (.tuple ds) _ wi (h5.put nt) (by rw [upd_ne nwt]; exact h6) (off_new h7 nt3 (h7.free ht nt3)) (.tup (.inl (.inl (by rw [cut_out ntl]; exact upd_same))) (Dp.ups s1 _ _ h2)) (by rw [gv_tup]; exact h3) (by simp only [PyData.depth]; omega) h9 ?_
      simp only [nod]
      have f0 : phi w0 = phi (w0 - 1) + 1 := by
        unfold phi
        omega
      have m1 : (m.toNat : Int) = m := by omega
      omega
  all_goals
    refine ⟨_, rfl, p, g, 9, rfl, b2, by decide, by decide, fun s1 H3 s10 s19 b3 o3 => ⟨_, _, rfl, rfl, ?_⟩⟩
    refine ⟨_, rfl, p, g, rfl, b3, fun x9 H9 sx9 b9 o9 => ⟨few (by simp), fun D2 hD2 => ?_⟩⟩
    have o10 := o3.trans o9
    have nD2 := b9.notin hD2
    have b11 := b9.put (o := .lst [V.int (s1 - 4), V.str x9]) nD2
    have o11 := off_new (o := .lst [V.int (s1 - 4), V.str x9]) o10 nD2 (o10.free hD2 nD2)
    obtain ⟨v2, hv2, mv2⟩ := atN (xs := [V.int (s1 - 4), V.str x9]) (r := fo % 2) (by omega) (by show fo % 2 < 2; omega)
    refine ⟨_, rfl, _, _, rfl, rfl, (by show (0 : Int) < 2; decide), D2, _, _, v2, rfl, rfl, SqL.of upd_same, hv2, ?_⟩
    have p2 : (2 : Nat) ^ 40 ≤ 2 ^ 1000 := Nat.pow_le_pow_right (by decide) (by decide)
    have ph : phi (w0 - 1) ≤ phi w0 := by
      unfold phi
      omega
    have fin : ∀ d, Dp K (cut l (upd H9 D2 (.lst [V.int (s1 - 4), V.str x9]))) v2 d → gv d = true → nod d = 1 → d.depth = 0 → Q v2 (upd H9 D2 (.lst [V.int (s1 - 4), V.str x9])) := fun d k1 k2 k4 k5 =>
      q v2 d _ (w0 - 1) b11 (o11.get hw2 nw) (o2.trans (o11.mono sub)) k1 k2 (by omega) (Int.le_refl _) (by omega)
    simp only [List.mem_cons, List.not_mem_nil, or_false] at mv2
    rcases mv2 with e | e
    · rw [e] at fin ⊢; exact fin _ (.int _) (gv_int (by omega)) (by simp only [nod]) (by simp only [PyData.depth])
    · rw [e] at fin ⊢; exact fin _ (.str x9) (gv_str sx9) (by simp only [nod]) (by simp only [PyData.depth])
theorem ok_value {k : Nat} (F : Fun K "_law_value" "_law_value" sValue f fd) (GV : Dn P w K mg base 11 "_law_value_in" ["_law_box_here", "_law_deep", "_law_room"] (spVal K 9) fV dV) : FnOk P w K mg base CX0 (k + 12) f fd ["_law_box_here", "_law_deep"] (spValue K) := by
  refine F.ok scValue (fun vs H Q E h => ?_) (fun cdv A outer s H vs Q E hr h => ?_)
  · obtain ⟨p, g, e, l, rfl, _⟩ := h
    rfl
  obtain ⟨p, g, e, l, rfl, hb, e0, e8, tl, q⟩ := h
  refine ⟨_, pss_one (ps_ret (pe_call GV.ok (hr.mono (by omega)) (by rfl) GV.mg GV.kp GV.bd .nil pass0 (pa_cons (pv 0) (pa_cons (pv 1) (pa_cons (pe_lst (pa_cons pe_int pa_nil)) pa_nil))))), ?_⟩
  refine ⟨_, rfl, _, rfl, few (by simp), fun wd hwd => ?_⟩
  have nw := hb.notin hwd
  have nl : wd ∉ l := tl.out hwd
  have ph : phi 50 = 50 := by decide
  refine ⟨p, g, wd, e, 50, wd :: l, rfl, hb.put nw, upd_same, nw, e0, by omega, fun b h => ?_, fun v d H' w1 k1 k2 k3 k4 k5 k6 k7 k8 => ?_⟩
  · rcases List.mem_cons.mp h with h | h
    · rw [h, upd_same]; exact fun z => nomatch z
    · rw [upd_ne (ne_mem nl h)]; exact tl b h
  · have off : Off [p, g] H H' := fun b o z => by
      obtain ⟨n1, z1⟩ := cut_some z
      have nb := ne_of_none z1 hwd
      rw [cut_out n1]
      exact k3.get (by rw [upd_ne nb]; exact z1) (by
        simp only [List.mem_cons, List.not_mem_nil, or_false, not_or] at n1 ⊢
        exact ⟨n1.1, n1.2, nb⟩)
    exact q v d H' k1 off (Dp.up (cut_less fun b hb => List.mem_cons_of_mem _ hb) _ _ k4) k5 (by omega) (by omega)
end
/-! inputs are drawn -/
theorem any_keys {K : PySem.W.Frag} {C : Addr} {H : Hp} {kvs : List (Key × V)} {gs : Ins} (h : InsV K C H kvs gs) (n : Str) : (kvs.any fun p => decide (p.1 = (Sum.inr n : Key))) = gs.any fun g => decide (g.1 = n) := by
  induction h with
  | nil => rfl
  | cons h _ ih =>
    rw [List.any_cons, List.any_cons, ih, h.1, key_rr]
theorem map_keys {K : PySem.W.Frag} {C : Addr} {H : Hp} {kvs : List (Key × V)} {gs : Ins} {n : Str} {v : V} {x : Option PyData} (hv : VaAt K C H v x) (h : InsV K C H kvs gs) :
    InsV K C H (kvs.map fun p => if p.1 = (Sum.inr n : Key) then (p.1, v) else p) (gs.map fun g => if g.1 = n then (g.1, x) else g) := by
  induction h with
  | nil => exact .nil
  | @cons p g ps gs h _ ih =>
    refine .cons ?_ ih
    show (if p.1 = (Sum.inr n : Key) then (p.1, v) else p).1 = Sum.inr (if g.1 = n then (g.1, x) else g).1 ∧ VaAt K C H (if p.1 = (Sum.inr n : Key) then (p.1, v) else p).2 (if g.1 = n then (g.1, x) else g).2
    by_cases e : g.1 = n
    · rw [if_pos e, if_pos (by rw [h.1, e])]
      exact ⟨h.1, hv⟩
    · rw [if_neg e, if_neg (by rw [h.1]; exact fun z => e (Sum.inr.inj z))]
      exact h
theorem Paired.app {α β : Type} {R : α → β → Prop} : ∀ {xs us : List α} {ys vs : List β}, Paired R xs ys → Paired R us vs → Paired R (xs ++ us) (ys ++ vs)
  | _, _, _, _, .nil, s => s
  | _, _, _, _, .cons h t, s => .cons h (Paired.app t s)
theorem InsV.put {K : PySem.W.Frag} {C : Addr} {H : Hp} {kvs : List (Key × V)} {gs : Ins} {v : V} {x : Option PyData} (h : InsV K C H kvs gs) (n : Str) (hv : VaAt K C H v x) : InsV K C H (putK kvs (.inr n) v) (putI gs n x) := by
  unfold putK putI
  rw [any_keys h n]
  by_cases e : (gs.any fun g => decide (g.1 = n)) = true
  · rw [if_pos e, if_pos e]
    exact map_keys hv h
  · rw [if_neg e, if_neg e]
    exact Paired.app h (.cons ⟨rfl, hv⟩ .nil)
theorem putI_nd {gs : Ins} (n : Str) (x : Option PyData) (h : (gs.map (·.1)).Nodup) : ((putI gs n x).map (·.1)).Nodup := by
  unfold putI
  by_cases e : (gs.any fun g => decide (g.1 = n)) = true
  · rw [if_pos e, List.map_map]
    have e2 : ((fun g : Str × Option PyData => g.1) ∘ fun g => if g.1 = n then (g.1, x) else g) = fun g => g.1 := by
      funext g
      show (if g.1 = n then (g.1, x) else g).1 = g.1
      by_cases z : g.1 = n
      · rw [if_pos z]
      · rw [if_neg z]
    rw [e2]
    exact h
  · rw [if_neg e, List.map_append, List.nodup_append]
    refine ⟨h, by simp, fun a ha b hb z => e ?_⟩
    have hb : b = n := by simpa using hb
    obtain ⟨g, hg, e1⟩ := List.mem_map.mp ha
    exact List.any_eq_true.mpr ⟨g, hg, decide_eq_true (by rw [e1, z, hb])⟩
theorem putI_mem {gs : Ins} {n : Str} {x : Option PyData} {g : Str × Option PyData} (h : g ∈ putI gs n x) : (g.1 = n ∧ g.2 = x) ∨ g ∈ gs := by
  unfold putI at h
  by_cases e : (gs.any fun g => decide (g.1 = n)) = true
  · rw [if_pos e] at h
    obtain ⟨g2, m, rfl⟩ := List.mem_map.mp h
    by_cases z : g2.1 = n
    · rw [if_pos z]
      exact .inl ⟨z, rfl⟩
    · rw [if_neg z]
      exact .inr m
  · rw [if_neg e] at h
    rcases List.mem_append.mp h with m | m
    · exact .inr m
    · have := List.mem_singleton.mp m
      subst this
      exact .inl ⟨rfl, rfl⟩
theorem putI_len (gs : Ins) (n : Str) (x : Option PyData) : (putI gs n x).length ≤ gs.length + 1 := by
  unfold putI
  by_cases e : (gs.any fun g => decide (g.1 = n)) = true
  · rw [if_pos e, List.length_map]
    omega
  · rw [if_neg e, List.length_append, List.length_singleton]
    exact Nat.le_refl _
theorem putK_len (kvs : List (Key × V)) (k : Key) (v : V) : (putK kvs k v).length ≤ kvs.length + 1 := by
  unfold putK
  by_cases e : (kvs.any fun kv => decide (kv.1 = k)) = true
  · rw [if_pos e, List.length_map]
    omega
  · rw [if_neg e, List.length_append, List.length_singleton]
    exact Nat.le_refl _
/-- what is said of drawn inputs -/
theorem putI_pos (gs : Ins) (n : Str) (x : Option PyData) : 1 ≤ (putI gs n x).length := by
  unfold putI
  by_cases e : (gs.any fun g => decide (g.1 = n)) = true
  · rw [if_pos e, List.length_map]
    cases gs with
    | nil => cases e
    | cons g gs => rw [List.length_cons]; omega
  · rw [if_neg e, List.length_append, List.length_singleton]; omega
structure InsOk (gs : Ins) : Prop where
  one : 1 ≤ gs.length
  few : gs.length ≤ 4
  nm : ∀ g ∈ gs, Sm 8 g.1
  va : ∀ g ∈ gs, ∀ d, g.2 = some d → gv d = true ∧ nod d ≤ 601 ∧ d.depth ≤ 8
abbrev sInputs : Stmt := topS 28
theorem scInputs : FnScope ["_law_box_here", "_law_found", "_law_deep", "_law_k"] ["_law_box_here"] (defScope sInputs) := ⟨rfl, rfl, rfl, by decide +kernel, rfl, by decide +kernel, by decide +kernel⟩
def spInputs (K : PySem.W.Frag) (C : Addr) : Sp := fun vs H Q _ => ∃ p g l, vs = [.ref p] ∧ Box H p g ∧ Tr l H ∧ ∀ a kvs gs H', Box H' p g → Off [p, g] H H' → H a = none → InAt K C (cut l H') a kvs gs → InsOk gs → Q (.ref a) H'
section
variable {P : Program} {w : World} {K : PySem.W.Frag} {mg : Str → Option Value} {base : Heap} {f fT fW fV fI C t0 : Addr} {fd dT dW dV dI : FuncData}
theorem ok_inputs {k : Nat} (F : Fun K "_law_inputs" "_law_inputs" sInputs f fd) (B : Bi mg) (T : Tk P w K mg base fT dT) (GW : Dn P w K mg base 2 "_law_word" ["_law_box_here"] spWord fW dW) (GV : Dn P w K mg base 12 "_law_value" ["_law_box_here", "_law_deep"] (spValue K) fV dV)
    (M : MkF P w K mg base C fI dI t0) (mF : mg "Fault" = some (.ref C)) : FnOk P w K mg base CX0 (k + 13) f fd ["_law_box_here"] (spInputs K C) := by
  refine F.ok scInputs (fun vs H Q E h => ?_) (fun cdv A outer s H vs Q E hr h => ?_)
  · obtain ⟨p, g, l, rfl, _⟩ := h
    rfl
  obtain ⟨p, g, l, rfl, hb, tl, q⟩ := h
  have hr1 : Room 1 _ := hr.mono (by omega)
  have hr2 : Room 2 _ := hr.mono (by omega)
  have hr12 : Room 12 _ := hr.mono (by omega)
  have hu := hu_of hr
  obtain ⟨ds2, v2, b2⟩ := M.b4
  refine ⟨_, pss_cons (ps_par (i := 1) (j := 2) (by rfl) scInputs.nd rfl rfl (by decide) rfl rfl (pa_cons pe_dnewK (pa_cons
        (pe_op op_add (pe_op op_add pe_int (pe_call T.ok hr1 (by rfl) T.mg T.kp T.bd .nil pass0 (pa_cons (pv 0) (pa_cons pe_int pa_nil)))) (pe_op op_mul pe_int (pe_op op_fdiv (pe_call T.ok hr1 (by rfl) T.mg T.kp T.bd .nil pass0 (pa_cons (pv 0) (pa_cons pe_int pa_nil))) pe_int))) pa_nil)) (by rfl))
    (pss_cons (ps_for PassesOwn.never rfl (pi_range1 (by rfl) B.rng (pa_cons (pe_op op_add pe_int (pe_call T.ok hr1 (by rfl) T.mg T.kp T.bd .nil pass0 (pa_cons (pv 0) (pa_cons pe_int pa_nil)))) pa_nil)) (pg_name (i := 3) scInputs.nd rfl (.inl rfl))
      (pss_one (ps_dput hu (pv 1) (pe_call GW.ok hr2 (by rfl) GW.mg GW.kp GW.bd .nil pass0 (pa_cons (pv 0) pa_nil))
        (pe_ifExp (pt_cmpR op_eq (pe_call T.ok hr1 (by rfl) T.mg T.kp T.bd .nil pass0 (pa_cons (pv 0) (pa_cons pe_int pa_nil))) pe_int (nomark _))
          (pe_make M.mkr M.ok hr2 (by rfl) mF b2 v2 pass0 (pa_cons pe_str (pa_cons pe_str (pa_cons (pe_tup (pa_cons pe_int pa_nil)) pa_nil))))
          (pe_call GV.ok hr12 (by rfl) GV.mg GV.kp GV.bd .nil pass0 (pa_cons (pv 0) (pa_cons (pv 2) pa_nil)))) rfl)))
    (pss_one (ps_ret (pv 1)))), ?_⟩
  intro D hD
  have nD := hb.notin hD
  have nlD : D ∉ l := tl.out hD
  have s0 : Same H (upd H D (.dK [])) := same_new hD _
  refine ⟨_, rfl, p, g, 3, rfl, hb.put nD, by decide, by decide, fun r1 H1 r10 r13 b1 o1 => ⟨_, _, rfl, rfl, _, rfl, p, g, 6, rfl, b1, by decide, by decide, fun r2 H2 r20 r26 b2 o2 => ⟨_, _, rfl, rfl, ⟨by decide, by decide⟩, _, _, rfl, rfl, .inl ⟨by decide, by decide⟩, _, _, rfl, rfl, ?_⟩⟩⟩
  have o12 := o1.trans o2
  have hD2 : H2 D = some (.dK []) := o12.get upd_same nD
  have oH : Off [p, g] H H2 := (Off.of s0).trans o12
  obtain ⟨e, he, e0, e9⟩ : ∃ e : Int, 1 + r1 + 5 * (r2 / 5) = e ∧ 0 ≤ e ∧ e < 9 := ⟨_, rfl, by omega, by omega⟩
  have tl2 : Tr l H2 := (tl.same s0).go o12 fun b hb => by
    have t := b2.tr
    simp only [List.mem_cons, List.not_mem_nil, or_false] at hb
    rcases hb with h | h
    · rw [h]; exact t.1
    · rw [h]; exact t.2
  refine ⟨.ref D, .int e, by rw [← he] <;> rfl, _, rfl, p, g, 4, rfl, b2, by decide, by decide, fun r3 H3 r30 r34 b3 o3 => ⟨_, _, rfl, rfl, 1 + r3, rfl, by omega, by omega, for_range (lo := 0) (n := (1 + r3).toNat) (fun i σ H4 => ∃ o4 kvs gs, σ = [some (.ref p), some (.ref D), some (.int e), o4] ∧ H4 D = some (.dK kvs) ∧
      InsV K C (cut (D :: p :: g :: l) H4) kvs gs ∧ kvs.length ≤ i ∧ ((gs.map (·.1)).Nodup ∧ (1 ≤ i → 1 ≤ gs.length)) ∧ (∀ g ∈ gs, Sm 8 g.1) ∧ (∀ g ∈ gs, ∀ d, g.2 = some d → gv d = true ∧ nod d ≤ 601 ∧ d.depth ≤ 8) ∧ Box H4 p g ∧ Off [p, g] H H4 ∧ Tr l H4)
    ⟨none, [], [], rfl, o3.get hD2 nD, .nil, Nat.zero_le _, ⟨.nil, fun h => absurd h (by decide)⟩, (fun _ z => nomatch z), (fun _ z => nomatch z), b3, oH.trans o3, tl2.go o3 fun b hb => ?_⟩ ?_ ?_⟩⟩
  · have t := b3.tr
    simp only [List.mem_cons, List.not_mem_nil, or_false] at hb
    rcases hb with h | h
    · rw [h]; exact t.1
    · rw [h]; exact t.2
  · rintro i σ H4 hi ⟨o4, kvs, gs, rfl, g1, g2, g3, g4, g5, g6, b4', g7, g8⟩
    have t4 : Tr (D :: p :: g :: l) H4 := fun b hb => by
      have t := b4'.tr
      simp only [List.mem_cons] at hb
      rcases hb with h | h | h | h
      · rw [h, g1]; exact fun z => nomatch z
      · rw [h]; exact t.1
      · rw [h]; exact t.2
      · exact g8 b h
    -- what follows the value
    have tail : ∀ (H5 : Hp) (v : V) (y : Option PyData), Box H5 p g → Off [p, g] H4 H5 → VaAt K C (cut (D :: p :: g :: l) H5) v y → (∀ d, y = some d → gv d = true ∧ nod d ≤ 601 ∧ d.depth ≤ 8) → ∀ (x : Str) (H6 : Hp), Sm 4 x → Box H6 p g → Off [p, g] H5 H6 →
        H6 D = some (.dK kvs) ∧ kvs.length < sizeLine ∧ ∃ o4 kvs' gs', [some (V.ref p), some (V.ref D), some (V.int e), some (V.int (0 + (i : Nat)))] = [some (.ref p), some (.ref D), some (.int e), o4] ∧ (upd H6 D (.dK (putK kvs (.inr x) v))) D = some (.dK kvs') ∧
          InsV K C (cut (D :: p :: g :: l) (upd H6 D (.dK (putK kvs (.inr x) v)))) kvs' gs' ∧ kvs'.length ≤ i + 1 ∧ ((gs'.map (·.1)).Nodup ∧ (1 ≤ i + 1 → 1 ≤ gs'.length)) ∧ (∀ g ∈ gs', Sm 8 g.1) ∧ (∀ g ∈ gs', ∀ d, g.2 = some d → gv d = true ∧ nod d ≤ 601 ∧ d.depth ≤ 8) ∧
          Box (upd H6 D (.dK (putK kvs (.inr x) v))) p g ∧ Off [p, g] H (upd H6 D (.dK (putK kvs (.inr x) v))) ∧ Tr l (upd H6 D (.dK (putK kvs (.inr x) v))) := by
      intro H5 v y b5 o5 hv hy x H6 sx b6 o6
      have sub : ∀ b ∈ [p, g], b ∈ D :: p :: g :: l := fun b hb => by
        simp only [List.mem_cons, List.not_mem_nil, or_false] at hb ⊢
        rcases hb with h | h
        · exact .inr (.inl h)
        · exact .inr (.inr (.inl h))
      have o46 : Off (D :: p :: g :: l) H4 H6 := (o5.trans o6).mono sub
      have put : Off (D :: p :: g :: l) H6 (upd H6 D (.dK (putK kvs (.inr x) v))) := Off.put (by simp)
      have lp := putI_len gs x y
      have lk := Paired.length g2
      have lk2 := putK_len kvs (.inr x) v
      refine ⟨(o5.trans o6).get g1 nD, few1 (by omega), _, putK kvs (.inr x) v, putI gs x y, rfl, upd_same, ((g2.up (o46.trans put)).put x (hv.up ((o6.mono sub).trans put))), by omega, ⟨putI_nd x y g4.1, fun _ => putI_pos gs x y⟩, fun z m => ?_, fun z m d ed => ?_, b6.put nD, ?_, ?_⟩
      · rcases putI_mem m with h | h
        · rw [h.1]; exact sx.mono (by decide)
        · exact g5 z h
      · rcases putI_mem m with h | h
        · exact hy d (by rw [← h.2]; exact ed)
        · exact g6 z h d ed
      · exact off_new (g7.trans (o5.trans o6)) nD hD
      · intro b hb
        rw [upd_ne (ne_mem nlD hb)]
        exact g8.go (o5.trans o6) (fun b hb => by
          have t := b6.tr
          simp only [List.mem_cons, List.not_mem_nil, or_false] at hb
          rcases hb with h | h
          · rw [h]; exact t.1
          · rw [h]; exact t.2) b hb
    refine ⟨_, rfl, p, g, 6, rfl, b4', by decide, by decide, fun r4 H5 r40 r46 b5 o5 => ⟨rfl, _, rfl, ite2 (fun _ => ?_) (fun _ => ?_)⟩⟩
    · refine ⟨few (by simp), fun tq htq => fun a1 x1 ha1 hx1 ne1 => ⟨a1, x1, "read", .str "c", .ref tq, rfl, upd_same, fun G1 e1 k1 => ⟨rfl, ?_⟩⟩⟩
      have sq5 := same_new htq (.tup [.int 1])
      have sm5 := made_same ha1 hx1 k1
      have s5 : Same H5 G1 := sq5.trans sm5
      have nLq : ∀ a1, H5 a1 = none → a1 ∉ D :: p :: g :: l := fun a1 hn z => by
        exact (t4.go (o5.mono (m := D :: p :: g :: l) fun b hb => by
          simp only [List.mem_cons, List.not_mem_nil, or_false] at hb ⊢
          rcases hb with h | h
          · exact .inr (.inl h)
          · exact .inr (.inr (.inl h))) fun b hb => by
            have t := b5.tr
            simp only [List.mem_cons] at hb
            rcases hb with h | h | h | h
            · rw [h, o5.get g1 nD]; exact fun z => nomatch z
            · rw [h]; exact t.1
            · rw [h]; exact t.2
            · exact fun y => by
                have hb4 := g8 b h
                by_cases e1 : b ∈ [p, g]
                · simp only [List.mem_cons, List.not_mem_nil, or_false] at e1
                  rcases e1 with z | z
                  · rw [z] at y; exact t.1 y
                  · rw [z] at y; exact t.2 y
                · exact hb4 (o5.free y e1)) a1 z hn
      refine ⟨_, rfl, _, rfl, p, g, rfl, b5.same s5, fun x H6 sx b6 o6 => ?_⟩
      have z := tail G1 (.ref a1) none (b5.same s5) (o5.trans (Off.of s5)) ⟨a1, tq, rfl, ⟨x1, by rw [cut_out (nLq a1 (sq5.free ha1))]; exact e1⟩, .inl (.inl (by rw [cut_out (nLq tq htq)]; exact sm5 _ _ upd_same))⟩ (fun d z => nomatch z) x H6 sx b6 o6
      exact ⟨D, _, rfl, DPut.k (k := Sum.inr x) z.1 z.2.1, z.2.2⟩
    · have t5 : Tr (D :: p :: g :: l) H5 := fun b hb y => by
        have t := b5.tr
        by_cases e1 : b ∈ [p, g]
        · simp only [List.mem_cons, List.not_mem_nil, or_false] at e1
          rcases e1 with z | z
          · rw [z] at y; exact t.1 y
          · rw [z] at y; exact t.2 y
        · exact t4 b hb (o5.free y e1)
      refine ⟨_, rfl, _, rfl, p, g, e, D :: p :: g :: l, rfl, b5, e0, e9, t5, fun v d G1 k1 k2 k3 k4 k5 k6 => ?_⟩
      refine ⟨_, rfl, _, rfl, p, g, rfl, k1, fun x H6 sx b6 o6 => ?_⟩
      have z := tail G1 v (some d) k1 (o5.trans k2) k3 (fun d' z => by cases z; exact ⟨k4, k6, by omega⟩) x H6 sx b6 o6
      exact ⟨D, _, rfl, DPut.k (k := Sum.inr x) z.1 z.2.1, z.2.2⟩
  · rintro σ H4 ⟨o4, kvs, gs, rfl, g1, g2, g3, g4, g5, g6, b4', g7, g8⟩
    have lk := Paired.length g2
    refine ⟨_, rfl, q D kvs gs H4 b4' g7 hD ⟨by rw [cut_out nlD]; exact g1, g2.up (cut_less fun b hb => by simp [hb]), g4.1⟩ ⟨g4.2 (by omega), by omega, g5, g6⟩⟩
end
/-! what is said of the inputs that a law holds, after some replacements -/
structure InsK (k : Nat) (gs : Ins) : Prop where
  one : 1 ≤ gs.length
  few : gs.length ≤ 4
  nm : ∀ g ∈ gs, Sm 8 g.1
  va : ∀ g ∈ gs, ∀ d, g.2 = some d → gv d = true ∧ nod d ≤ 601 * (k + 1) ∧ d.depth ≤ 11
theorem InsOk.k {gs : Ins} (h : InsOk gs) : InsK 0 gs := ⟨h.one, h.few, h.nm, fun g m d e => by have q := h.va g m d e; exact ⟨q.1, by omega, by omega⟩⟩
theorem InsK.mono {j k : Nat} {gs : Ins} (h : InsK j gs) (jk : j ≤ k) : InsK k gs := ⟨h.one, h.few, h.nm, fun g m d e => by have q := h.va g m d e; exact ⟨q.1, Nat.le_trans q.2.1 (Nat.mul_le_mul_left _ (by omega)), q.2.2⟩⟩
structure InsZ (gs : Ins) : Prop where
  one : 1 ≤ gs.length
  few : gs.length ≤ 5
  nm : ∀ g ∈ gs, Sm 8 g.1
  va : ∀ g ∈ gs, ∀ d, g.2 = some d → gv d = true ∧ nod d ≤ 4000 ∧ d.depth ≤ 11
theorem InsK.z {k : Nat} {gs : Ins} (h : InsK k gs) (hk : k ≤ 5) : InsZ gs := ⟨h.one, by have := h.few; omega, h.nm, fun g m d e => by
  have q := h.va g m d e
  exact ⟨q.1, Nat.le_trans q.2.1 (Nat.le_trans (Nat.mul_le_mul_left _ (show k + 1 ≤ 6 by omega)) (by decide)), q.2.2⟩⟩
theorem InsZ.vd {gs : Ins} (h : InsZ gs) : InsVd gs := fun g m d e => (gvb_gd (by decide) d (h.va g m d e).1).2
theorem InsZ.g {gs : Ins} (h : InsZ gs) : InsG gs := ⟨h.one, by have := h.few; omega, h.nm, fun g m d e => (h.va g m d e).2.1⟩
/-! the places of the integers -/
abbrev sSpots : Stmt := topS 30
theorem scSpots : FnScope ["_law_given", "_law_found", "_law_left", "_law_spot_here", "_law_here", "_law_name", "_law_k", "_law_part"] ["_law_given"] (defScope sSpots) := ⟨rfl, rfl, rfl, by decide +kernel, rfl, by decide +kernel, by decide +kernel⟩
def isIntO : Option PyData → Bool
  | some d => isIntB d
  | none => false
def rIsInt (K : PySem.W.Frag) (C : Addr) : List V → Hp → VK → Prop := fun xs H Q => ∃ v x, xs = [v, .ty "int"] ∧ VaAt K C H v x ∧ Q (.bl (isIntO x)) H
theorem call_isInt {X : Cx} {C fE : Addr} (T : FaC X.K X.mg C fE) : CallR X (.builtin "isinstance") (rIsInt X.K C) := by
  intro pins s σ H xs us Q I r h
  obtain ⟨v, x, rfl, hv, q⟩ := h
  cases x with
  | some d => exact call_isD pins s σ H _ us Q I r ⟨v, d, "int", _, rfl, hv, kit_int d, q⟩
  | none =>
    obtain ⟨a, fp, rfl, ⟨dx, hf⟩, hfp⟩ := hv
    exact call_isi pins s σ H _ us Q I r ⟨.ref a, .ty "int", _, _, false, rfl, .ty "int", .base (.ins hf T.o.c.cl T.o.c.ha T.o.c.hn T.o.c.htk T.o.c.hm), T.o.j3, q⟩
def nO : Option PyData → Nat
  | some d => nod d
  | none => 1
def dO : Option PyData → Nat
  | some d => d.depth
  | none => 0
/-- a place and what stands there, still to be looked at -/
def Pend (K : PySem.W.Frag) (C : Addr) (G : Hp) (x : V) (y : Option PyData) : Prop := ∃ i t r v, x = .ref i ∧ G i = some (.tup [.ref t, v]) ∧ G t = some (.tup (plW r)) ∧ Sm 8 r.1 ∧ (∀ k ∈ r.2, k ≤ 5000) ∧ r.2.length + dO y ≤ 11 ∧ VaAt K C G v y
theorem Pend.up {K : PySem.W.Frag} {C : Addr} {G G' : Hp} (s : Same G G') {x : V} {y : Option PyData} (h : Pend K C G x y) : Pend K C G' x y := by
  obtain ⟨i, t, r, v, e, h1, h2, h3, h4, h5, h6⟩ := h
  exact ⟨i, t, r, v, e, s _ _ h1, s _ _ h2, h3, h4, h5, h6.up s⟩
/-- a found place -/
def Fnd (G : Hp) (x : V) : Prop := ∃ t r, x = .ref t ∧ G t = some (.tup (plW r)) ∧ PlOk r
theorem Fnd.up {G G' : Hp} (s : Same G G') {x : V} (h : Fnd G x) : Fnd G' x := by
  obtain ⟨t, r, e, h1, h2⟩ := h
  exact ⟨t, r, e, s _ _ h1, h2⟩
theorem paired_up {α β : Type} {F F' : α → β → Prop} (s : ∀ a b, F a b → F' a b) {xs : List α} {ys : List β} (h : Paired F xs ys) : Paired F' xs ys := by
  induction h with
  | nil => exact .nil
  | cons a _ ih => exact .cons (s _ _ a) ih
theorem pg_tupK {X : Cx} {K : PySem.W.Frag} {pos : Pos} {es : List Expr} {k : Nat} {t : TGs} {n : Nat} (h0 : X.K = K) (hc : X.calm = true) (h : PGs X es t)
    (hn : (assignEach es X.env).length = n := by rfl) (hst : (assignEach es X.env).findIdx? (·.1) = none := by rfl) : PG X (.Tuple es k pos) (gTup K n t) := by
  subst h0
  exact pg_tup hc h hn hst
theorem InsV.ndk6 {K : PySem.W.Frag} {C : Addr} {H : Hp} {kvs : List (Key × V)} {gs : Ins} (h : InsV K C H kvs gs) : (gs.map (·.1)).Nodup → (kvs.map (·.1)).Nodup := by
  have key : kvs.map (·.1) = (gs.map (·.1)).map (Sum.inr : Str → Key) := by
    rw [List.map_map]
    induction h with
    | nil => rfl
    | cons h _ ih => rw [List.map_cons, List.map_cons, ih, h.1]; rfl
  intro nd
  rw [key]
  exact nodup_inr nd
theorem VaAt.noD {K : PySem.W.Frag} {C : Addr} {G G' : Hp} {v : V} {y : Option PyData} (s : ∀ b o, G b = some o → (∀ kvs, o ≠ .dK kvs) → G' b = some o) (h : VaAt K C G v y) : VaAt K C G' v y := by
  cases y with
  | some d => exact Dp.upP s d v h
  | none =>
    obtain ⟨a, p, e, ⟨dx, hf⟩, hfp⟩ := h
    exact ⟨a, p, e, ⟨dx, s _ _ hf (fun _ z => nomatch z)⟩, seqT_upP s hfp⟩
def spSpots (K : PySem.W.Frag) (C : Addr) : Sp := fun vs H Q _ => ∃ a l kvs gs, vs = [.ref a] ∧ Tr l H ∧ InAt K C (cut l H) a kvs gs ∧ InsZ gs ∧
  ∀ q xs H', Same H H' → H q = none → H' q = some (.lst xs) → xs.length ≤ 20000 → (∀ x ∈ xs, Fnd (cut l H') x) → Q (.ref q) H'
section
variable {P : Program} {w : World} {K : PySem.W.Frag} {mg : Str → Option Value} {base : Heap} {f C fE : Addr} {fd : FuncData}
theorem ok_spots {k : Nat} (F : Fun K "_law_spots" "_law_spots" sSpots f fd) (B : Bi mg) (me : mg "enumerate" = none) (TF : FaC K mg C fE) : FnOk P w K mg base CX0 (k + 1) f fd ["_law_given"] (spSpots K C) := by
  refine F.ok scSpots (fun vs H Q E h => ?_) (fun cdv A outer s H vs Q E hr h => ?_)
  · obtain ⟨a, l, kvs, gs, rfl, _⟩ := h
    rfl
  obtain ⟨a, l, kvs, gs, rfl, tl, hI, hO, q⟩ := h
  have hu := hu_of hr
  refine ⟨_, pss_cons (ps_par (i := 1) (j := 2) (by rfl) scSpots.nd rfl rfl (by decide) rfl rfl (pa_cons (pe_lst pa_nil) (pa_cons (pe_lock (pe_lc (own := [("_law_name", 5)]) (g := gName 5) (by rfl) scSpots.nd (pi_keys (pv 0))
        (blkOk_by (own := [("_law_name", 5)]) (N := ["_law_given", "_law_found", "_law_left", "_law_spot_here", "_law_here", "_law_name", "_law_k", "_law_part"]) (sc := defScope sSpots) (by decide +kernel))
        (fun _ _ _ _ _ => pg_name (i := 5) scSpots.nd rfl (Or.inl rfl)) (fun _ _ _ _ _ => pts_nil) (fun _ _ _ _ _ => pe_tup (pa_cons (pe_tup (pa_cons (pv 5) pa_nil)) (pa_cons (pe_dget hu (pv 0) (pv 5) (fun _ _ => rfl)) pa_nil))))) pa_nil)) (by rfl))
    (pss_cons (ps_while PassesOwn.never (pt_cmpR (op_neNil hr.units) (pv 2) (pe_lst pa_nil) (nomark _))
      (pss_cons (ps_asg (pe_bm0 PySem.F.plainAttrs_list PySem.F.slot_list_pop PySem.F.type_list_pop mt_pop (pv 2)) (pg_tup (by rfl) (pgs_cons (pg_name (i := 3) scSpots.nd rfl (.inr rfl)) (pgs_cons (pg_name (i := 4) scSpots.nd rfl (.inl rfl)) pgs_nil))))
      (pss_one (ps_if (pt_val (pe_callB (call_isTu TF) (by rfl) B.ii b_ii (pa_cons (pv 4) (pa_cons (pe_bltn (by rfl) B.tup (by decide +kernel) (v := .ty "tuple") rfl) pa_nil))))
        (pss_one (ps_expr (pe_bm PySem.F.plainAttrs_list PySem.F.slot_list_extend PySem.F.type_list_extend mt_extend (pv 2) (pa_cons
          (pe_lc (own := [("_law_k", 6), ("_law_part", 7)]) (g := gTup K 2 (gCons (gName 6) (gCons (gName 7) gNil))) (by rfl) scSpots.nd (pi_enumA (by rfl) me (pa_cons (pv 4) pa_nil))
            (blkOk_by (own := [("_law_k", 6), ("_law_part", 7)]) (N := ["_law_given", "_law_found", "_law_left", "_law_spot_here", "_law_here", "_law_name", "_law_k", "_law_part"]) (sc := defScope sSpots) (by decide +kernel))
            (fun _ _ _ _ _ => pg_tupK rfl (by rfl) (pgs_cons (pg_name (i := 6) scSpots.nd rfl (Or.inl rfl)) (pgs_cons (pg_name (i := 7) scSpots.nd rfl (Or.inl rfl)) pgs_nil))) (fun _ _ _ _ _ => pts_nil)
            (fun _ _ _ _ _ => pe_tup (pa_cons (pe_op (op_catRK (K := K) rfl) (pv 3) (pe_tup (pa_cons (pv 6) pa_nil))) (pa_cons (pv 7) pa_nil)))) pa_nil))))
        (pss_one (ps_if (pt_val (pe_callB (call_isInt TF) (by rfl) B.ii b_ii (pa_cons (pv 4) (pa_cons (pe_bltn (by rfl) B.int (by decide +kernel) (v := .ty "int") rfl) pa_nil))))
          (pss_one (ps_expr (pe_bm PySem.F.plainAttrs_list PySem.F.slot_list_append PySem.F.type_list_append mt_append (pv 1) (pa_cons (pv 3) pa_nil)))) pss_nil))))))
    (pss_one (ps_ret (pv 1)))), ?_⟩
  have ha : H a = some (.dK kvs) := (cut_some hI.at_).2
  have nal : a ∉ l := (cut_some hI.at_).1
  have nd := hI.vs.ndk6 hI.nd
  have lk := Paired.length hI.vs
  have lf := hO.few
  refine ⟨by decide, fun L hL => ?_⟩
  have sL : Same H (upd H L (.lst [])) := same_new hL _
  have haL : (upd H L (.lst [])) a = some (.dK kvs) := sL _ _ ha
  have naL : a ≠ L := ne_of_none ha hL
  have nLl : L ∉ l := tl.out hL
  have hLL : (upd H L (.lst [])) L = some (.lst []) := upd_same
  generalize upd H L (.lst []) = H1 at *
  refine ⟨a, .dK kvs, haL, trivial, fun od => ⟨_, rfl, a, od, rfl, .inl ⟨kvs, upd_same, fun M hM => lc_it (walk_keys (d := a) (o := od)) (fun i H2 => ∃ vs, H2 M = some (.lst vs) ∧ vs.length = i ∧ Same (upd H1 a (.frz od (.dK kvs))) H2 ∧ Paired (Pend K C (cut (M :: L :: a :: l) H2)) vs ((gs.take i).map (·.2))) ⟨[], upd_same, rfl, same_new hM _, .nil⟩ ?_ ?_ ?_⟩⟩⟩
  · rintro i H2 hi ⟨vs, g1, g2, g3, g4⟩
    exact g3 _ _ upd_same
  · rintro i y H2 H3 hi ⟨vs, g1, g2, g3, g4⟩ ⟨rfl, kk, vv, hkv, rfl⟩
    obtain ⟨gg, hgg, ek, hvv⟩ := paired_at hI.vs hkv
    have ek : kk = .inr gg.1 := ek
    subst ek
    have haH : H3 a = some (.frz od (.dK kvs)) := g3 _ _ upd_same
    have mg' := List.mem_of_getElem? hgg
    refine ⟨rfl, _, rfl, few (by simp), fun t ht => ?_⟩
    have s1 := same_new ht (.tup [V.str gg.1])
    refine ⟨_, rfl, _, rfl, a, vv, rfl, .inl ⟨kvs, .inr gg.1, .inr ⟨od, s1 _ _ haH⟩, rfl, (valV_at nd hkv).symm⟩, few (by simp), fun i2 hi2 => ?_⟩
    have s2 := same_new hi2 (.tup [V.ref t, vv])
    have s12 := s1.trans s2
    have hM3 : H3 M = some (.lst vs) := g1
    have ntM : t ≠ M := (ne_of_none hM3 ht).symm
    have nta : t ≠ a := (ne_of_none haH ht).symm
    have hL3 : H3 L = some (.lst []) := g3 _ _ (by rw [upd_ne (fun z => naL z.symm)]; exact hLL)
    have ntL : t ≠ L := (ne_of_none hL3 ht).symm
    have tl3 : Tr l H3 := (fun b hb => by
      have := tl.same sL b hb
      have nba : b ≠ a := fun z => nal (by rw [← z]; exact hb)
      cases hb1 : H1 b with
      | none => exact absurd hb1 this
      | some o =>
        intro z
        have z2 := g3 b o (by rw [upd_ne nba]; exact hb1)
        rw [z] at z2
        cases z2)
    have ntl : t ∉ l := tl3.out ht
    have ntG : t ∉ M :: L :: a :: l := by simp [ntM, nta, ntL, ntl]
    have niM : i2 ≠ M := (ne_of_none (s1 _ _ hM3) hi2).symm
    have nia : i2 ≠ a := (ne_of_none (s1 _ _ haH) hi2).symm
    have niL : i2 ≠ L := (ne_of_none (s1 _ _ hL3) hi2).symm
    have nil' : i2 ∉ l := (tl3.same s1).out hi2
    have niG : i2 ∉ M :: L :: a :: l := by simp [niM, nia, niL, nil']
    have oG : Same (cut (M :: L :: a :: l) H3) (cut (M :: L :: a :: l) (upd (upd (upd H3 t (.tup [V.str gg.1])) i2 (.tup [V.ref t, vv])) M (.lst (vs ++ [.ref i2])))) := (Off.of (l := M :: L :: a :: l) s12).trans (Off.put (by simp))
    refine ⟨vs, s12 _ _ g1, fewM (by omega), _, upd_same, by simp [g2], ?_, ?_⟩
    · intro b o z
      rw [upd_ne (ne_of_none z hM)]
      exact s12 _ _ (g3 _ _ z)
    · rw [get_take hgg, List.map_append]
      refine Paired.app (paired_up (fun _ _ => Pend.up oG) g4) (.cons ⟨i2, t, ⟨gg.1, []⟩, vv, rfl, ?_, ?_, hO.nm gg mg', (fun _ z => nomatch z), ?_, ?_⟩ .nil)
      · rw [cut_out niG, upd_ne niM]; exact upd_same
      · rw [cut_out ntG, upd_ne ntM]; exact s2 _ _ upd_same
      · show 0 + dO gg.2 ≤ 11
        have := hO.va gg mg'
        cases h2 : gg.2 with
        | none => simp [dO]
        | some d => have := (this d h2).2.2; simp only [dO]; omega
      · refine VaAt.noD (fun b o z no => ?_) hvv
        obtain ⟨nbl, z2⟩ := cut_some z
        have nba : b ≠ a := fun e => no kvs (by rw [e, ha] at z2; exact (Option.some.inj z2).symm)
        have nbL : b ≠ L := ne_of_none z2 hL
        have z3 : (upd H1 a (.frz od (.dK kvs))) b = some o := by rw [upd_ne nba]; exact sL _ _ z2
        have nbM : b ≠ M := ne_of_none z3 hM
        rw [cut_out (by simp [nbM, nba, nbL, nbl]), upd_ne nbM]
        exact s12 _ _ (g3 _ _ z3)
  · rintro H2 ⟨vs, g1, g2, g3, g4⟩
    refine ⟨g3 _ _ upd_same, .ref L, .ref M, rfl, ?_⟩
    rw [lk, List.take_length] at g4
    have naM : a ≠ M := ne_of_none upd_same hM
    have hM2 : (upd H2 a (.dK kvs)) M = some (.lst vs) := by rw [upd_ne naM.symm]; exact g1
    have hL2 : (upd H2 a (.dK kvs)) L = some (.lst []) := by rw [upd_ne naL.symm]; exact g3 _ _ (by rw [upd_ne naL.symm]; exact hLL)
    have s1 : Same H1 (upd H2 a (.dK kvs)) := fun b o z => by
      by_cases e : b = a
      · rw [e, upd_same, ← z, e, haL]
      · rw [upd_ne e]
        exact g3 _ _ (by rw [upd_ne e]; exact z)
    have hM0 : H1 M = none := by rw [upd_ne naM.symm] at hM; exact hM
    have nLM : L ≠ M := ne_of_none hLL hM0
    have g5 : Paired (Pend K C (cut (M :: L :: l) (upd H2 a (.dK kvs)))) vs (gs.map (·.2)) := paired_up (fun _ _ => Pend.up fun b o z => by
      obtain ⟨n1, z1⟩ := cut_some z
      simp only [List.mem_cons, not_or] at n1
      rw [cut_out (by simp [n1.1, n1.2.1, n1.2.2.2]), upd_ne n1.2.2.1]
      exact z1) g4
    have s0 : Same H (upd H2 a (.dK kvs)) := sL.trans s1
    clear g1 g3 g4 s1
    generalize upd H2 a (.dK kvs) = H3 at *
    have sumB : ∀ gs : Ins, (∀ g ∈ gs, ∀ d, g.2 = some d → gv d = true ∧ nod d ≤ 4000 ∧ d.depth ≤ 11) → ((gs.map (·.2)).map nO).sum ≤ 4000 * gs.length := fun gs => by
      induction gs with
      | nil => intro _; simp
      | cons g gs ih =>
        intro h
        have i2 := ih fun z m => h z (List.mem_cons_of_mem _ m)
        have i1 : nO g.2 ≤ 4000 := by
          cases h2 : g.2 with
          | none => simp [nO]
          | some d => exact (h g List.mem_cons_self d h2).2.1
        simp only [List.map_cons, List.sum_cons, List.length_cons]
        omega
    have sb := sumB gs hO.va
    refine ⟨fun m σ H4 => ∃ fs ys todo o3 o4, σ = [some (.ref a), some (.ref L), some (.ref M), o3, o4, none, none, none] ∧ H4 L = some (.lst fs) ∧ H4 M = some (.lst ys) ∧ Same H H4 ∧ (∀ x ∈ fs, Fnd (cut (M :: L :: l) H4) x) ∧ Paired (Pend K C (cut (M :: L :: l) H4)) ys todo ∧ (∀ y ∈ todo, ∀ d, y = some d → vd d = true ∧ nod d ≤ 4000) ∧ fs.length + m ≤ 20000 ∧ m = (todo.map nO).sum,
      ⟨_, [], vs, gs.map (·.2), none, none, rfl, hL2, hM2, s0, (fun _ z => nomatch z), g5, ?_, ?_, rfl⟩, ?_⟩
    · intro y my d e
      obtain ⟨g, mg2, rfl⟩ := List.mem_map.mp my
      exact ⟨(gvb_gd (by decide) d (hO.va g mg2 d e).1).2, (hO.va g mg2 d e).2.1⟩
    · simp only [List.length_nil]; omega
    rintro m σ H4 ⟨fs, ys, todo, o3, o4, rfl, k1, k2, s4, fA, pA, vA, cnt, rfl⟩
    refine ⟨_, rfl, by decide, fun e he => ⟨M, e, ys, rfl, rfl, SqL.of ((same_new he _) _ _ k2), SqL.of upd_same, ?_⟩⟩
    have se := same_new he (.lst [])
    have k1 := se _ _ k1
    have k2 := se _ _ k2
    have s4 := s4.trans se
    have oe : Same (cut (M :: L :: l) H4) (cut (M :: L :: l) (upd H4 e (.lst []))) := Off.of (l := M :: L :: l) se
    have fA : ∀ x ∈ fs, Fnd (cut (M :: L :: l) (upd H4 e (.lst []))) x := fun x mx => (fA x mx).up oe
    have pA : Paired (Pend K C (cut (M :: L :: l) (upd H4 e (.lst [])))) ys todo := paired_up (fun _ _ => Pend.up oe) pA
    generalize upd H4 e (.lst []) = H5 at *
    have ly := Paired.length pA
    have fin : ys = [] → Q (.ref L) H5 := fun e => by
      refine q L fs H5 s4 hL k1 (by omega) fun x mx => (fA x mx).up (cut_less fun b hb => by simp [hb])
    by_cases ex : ys = []
    · refine ⟨_, rfl, ?_⟩
      have fin := fin ex
      subst ex
      exact iteF ⟨_, rfl, fin rfl⟩
    · have e1 : (!ys.isEmpty) = true := by simp [ex]
      rw [e1]
      refine ⟨_, rfl, iteT ?_⟩
      obtain ⟨ys', x, todo', y, rfl, rfl, pA', hp⟩ := paired_last pA ex
      obtain ⟨i, t, r, v, rfl, gi, gt, sr, kr, dr, hv⟩ := hp
      have sm : ((todo' ++ [y]).map nO).sum = (todo'.map nO).sum + nO y := by simp
      have npos : 1 ≤ nO y := by
        cases y with
        | none => exact Nat.le_refl _
        | some d => exact nod_pos d
      have lt' := Paired.length pA'
      have lsum : ∀ xs : List (Option PyData), xs.length ≤ (xs.map nO).sum := fun xs => by
        induction xs with
        | nil => exact Nat.le_refl _
        | cons x xs ih =>
          have : 1 ≤ nO x := by
            cases x with
            | none => exact Nat.le_refl _
            | some d => exact nod_pos d
          simp only [List.map_cons, List.sum_cons, List.length_cons]
          omega
      have l9 := lsum todo'
      rw [sm] at cnt ⊢
      refine ⟨fun σ' H9 => ∃ m', m' < (todo'.map nO).sum + nO y ∧ ∃ fs ys todo o3 o4, σ' = [some (.ref a), some (.ref L), some (.ref M), o3, o4, none, none, none] ∧ H9 L = some (.lst fs) ∧ H9 M = some (.lst ys) ∧ Same H H9 ∧ (∀ x ∈ fs, Fnd (cut (M :: L :: l) H9) x) ∧ Paired (Pend K C (cut (M :: L :: l) H9)) ys todo ∧ (∀ y ∈ todo, ∀ d, y = some d → vd d = true ∧ nod d ≤ 4000) ∧ fs.length + m' ≤ 20000 ∧ m' = (todo.map nO).sum, fun _ _ z => z, ?_⟩
      refine ⟨_, rfl, .inl ⟨rfl, _, SqL.of k2⟩, M, _, .ref i, rfl, rfl, k2, last_at _ _, ?_⟩
      rw [drop_last]
      have oM : Same (cut (M :: L :: l) H5) (cut (M :: L :: l) (upd H5 M (.lst ys'))) := Off.put (by simp)
      have k1 : (upd H5 M (.lst ys')) L = some (.lst fs) := by rw [upd_ne nLM]; exact k1
      have hM00 : H M = none := by
        cases hz : H M with
        | none => rfl
        | some o => exact absurd (sL _ _ hz) (by rw [hM0]; exact fun z => nomatch z)
      have s4 : Same H (upd H5 M (.lst ys')) := fun b o z => by
        rw [upd_ne (ne_of_none z hM00)]
        exact s4 _ _ z
      have k2 : (upd H5 M (.lst ys')) M = some (.lst ys') := upd_same
      have fA : ∀ x ∈ fs, Fnd (cut (M :: L :: l) (upd H5 M (.lst ys'))) x := fun x mx => (fA x mx).up oM
      have pA' : Paired (Pend K C (cut (M :: L :: l) (upd H5 M (.lst ys')))) ys' todo' := paired_up (fun _ _ => Pend.up oM) pA'
      have gi := oM _ _ gi
      have gt := oM _ _ gt
      have hv := hv.up oM
      clear fin
      generalize upd H5 M (.lst ys') = H6 at *
      have vy := vA y (by simp)
      have vA' : ∀ y ∈ todo', ∀ d, y = some d → vd d = true ∧ nod d ≤ 4000 := fun y my => vA y (by simp [my])
      have tr6 : Tr (M :: L :: l) H6 := fun b hb => by
        rcases List.mem_cons.mp hb with h | hb
        · rw [h, k2]; exact fun z => nomatch z
        · rcases List.mem_cons.mp hb with h | hb
          · rw [h, k1]; exact fun z => nomatch z
          · exact tl.same s4 b hb
      refine ⟨i, [.ref t, v], rfl, .inl (.inl (cut_some gi).2), rfl, _, _, rfl, _, _, rfl, rfl, ?_⟩
      refine ⟨_, rfl, v, y, rfl, hv.up (cut_same _ H6), _, rfl, ?_⟩
      cases ht : isTupO y with
      | false =>
        refine iteF ⟨_, rfl, v, y, rfl, hv.up (cut_same _ H6), _, rfl, ?_⟩
        cases hi : isIntO y with
        | false => exact iteF ⟨(todo'.map nO).sum, by omega, fs, ys', todo', _, _, rfl, k1, k2, s4, fA, pA', vA', by omega, rfl⟩
        | true =>
          refine iteT ⟨_, rfl, .inl ⟨rfl, _, SqL.of k1⟩, _, rfl, L, fs, .ref t, rfl, rfl, k1, by have e0 : sizeLine = 16777216 := (by decide); omega, ?_⟩
          have oL : Same (cut (M :: L :: l) H6) (cut (M :: L :: l) (upd H6 L (.lst (fs ++ [.ref t])))) := Off.put (by simp)
          refine ⟨(todo'.map nO).sum, by omega, fs ++ [.ref t], ys', todo', _, _, rfl, upd_same, by rw [upd_ne nLM.symm]; exact k2, ?_, ?_, paired_up (fun _ _ => Pend.up oL) pA', vA', by rw [List.length_append, List.length_singleton]; omega, rfl⟩
          · intro b o z
            rw [upd_ne (ne_of_none z hL)]
            exact s4 _ _ z
          · intro x mx
            rcases List.mem_append.mp mx with h | h
            · exact (fA x h).up oL
            · rw [List.mem_singleton.mp h]
              exact ⟨t, r, rfl, oL _ _ gt, ⟨sr, by omega, kr⟩⟩
      | true =>
        obtain ⟨d, rfl⟩ : ∃ d, y = some d := by
          cases y with
          | none => cases ht
          | some d => exact ⟨d, rfl⟩
        obtain ⟨wa, xs, ds, rfl, rfl, hw, gw⟩ := tup_of hv ht
        have lw := DpAll.len gw
        have nl := nods_len ds
        have vds' : vds ds = true := by simpa only [vd] using (vy _ rfl).1
        have nb : 1 + nods ds ≤ 4000 := by simpa only [nod] using (vy _ rfl).2
        have sm2 : nO (some (.tuple ds)) = 1 + nods ds := by simp only [nO, nod]
        have dd : dO (some (.tuple ds)) = 1 + PyData.depthAll ds := by simp only [dO, PyData.depth]; omega
        rw [sm2] at cnt sm npos ⊢
        rw [dd] at dr
        have hw6 := seqT_cut hw
        have nwM : wa ∉ M :: L :: l ∨ True := .inr trivial
        refine iteT ⟨_, rfl, .inl ⟨rfl, _, SqL.of k2⟩, _, rfl, .inl ⟨wa, xs, rfl, hw6, fun D hD => lc_it (walk_C (Its := fun H ys => SqT K H wa ys) (xs := xs) (k0 := 0)) (fun j H7 => ∃ zs, H7 D = some (.lst zs) ∧ zs.length = j ∧ Same H6 H7 ∧ Paired (Pend K C (cut (D :: M :: L :: l) H7)) zs ((ds.take j).map some)) ⟨[], upd_same, rfl, same_new hD _, .nil⟩ ?_ ?_ ?_⟩⟩
        · rintro j H7 hj ⟨zs, z1, z2, z3, z4⟩
          exact seqT_up z3 hw6
        · rintro j y2 H7 H7' hj ⟨zs, z1, z2, z3, z4⟩ ⟨T, z, rfl, hT, rfl, hz⟩
          obtain ⟨e, he, hde⟩ := DpAll.get gw hz
          have sT := same_new hT (.tup [.int (0 + (j : Nat)), z])
          have trD : Tr (D :: M :: L :: l) H7 := fun b hb => by
            rcases List.mem_cons.mp hb with h | hb
            · rw [h, z1]; exact fun z => nomatch z
            · exact tr6.same z3 b hb
          refine ⟨T, [.int (0 + (j : Nat)), z], rfl, .inl (.inl upd_same), rfl, _, _, rfl, _, _, rfl, rfl, rfl, ?_⟩
          refine ⟨_, rfl, _, rfl, few (by simp), fun t1 ht1 => ?_⟩
          have s1 := same_new ht1 (.tup [.int (0 + (j : Nat))])
          have tr8 := (trD.same sT).same s1
          have n1 : t1 ∉ D :: M :: L :: l := (trD.same sT).out ht1
          have s71 : Same (cut (M :: L :: l) H6) (cut (D :: M :: L :: l) (upd (upd H7 T (.tup [.int (0 + (j : Nat)), z])) t1 (.tup [.int (0 + (j : Nat))]))) := fun b o q2 => by
            obtain ⟨n2, q3⟩ := cut_some q2
            have nD : b ≠ D := ne_of_none q3 hD
            rw [cut_out (by simp only [List.mem_cons, not_or] at n2 ⊢; exact ⟨nD, n2⟩)]
            exact s1 _ _ (sT _ _ (z3 _ _ q3))
          refine ⟨t, t1, plW r, [.int (0 + (j : Nat))], D :: M :: L :: l, rfl, rfl, (fun z => nomatch z), s71 _ _ gt, .inl (.inl (by rw [cut_out n1]; exact upd_same)), tr8, few ?_, fun c H8 s8 hc => ?_⟩
          · have : r.2.length ≤ 11 := by omega
            unfold plW
            simp only [List.length_cons, List.length_map, List.length_nil]
            omega
          have e1 : plW r ++ [V.int (0 + (j : Nat))] = plW (r.1, r.2 ++ [j]) := by
            unfold plW
            rw [List.map_append, List.cons_append, List.map_singleton, show (0 : Int) + ((j : Nat) : Int) = ((j : Nat) : Int) from by omega]
          rw [e1] at hc
          refine ⟨_, rfl, few (by simp), fun i2 hi2 => ?_⟩
          have s9 := same_new hi2 (.tup [.ref c, z])
          have n2 : i2 ∉ D :: M :: L :: l := (tr8.same s8).out hi2
          have s79 := ((sT.trans s1).trans s8).trans s9
          have nD2 : i2 ≠ D := fun h => n2 (by simp [h])
          have oA : Same (cut (D :: M :: L :: l) H8) (cut (D :: M :: L :: l) (upd (upd H8 i2 (.tup [.ref c, z])) D (.lst (zs ++ [.ref i2])))) := (Off.of (l := D :: M :: L :: l) s9).trans (Off.put (by simp))
          have oB : Same (cut (D :: M :: L :: l) H7) (cut (D :: M :: L :: l) (upd (upd H8 i2 (.tup [.ref c, z])) D (.lst (zs ++ [.ref i2])))) := (Off.of (l := D :: M :: L :: l) ((sT.trans s1).trans s8)).trans oA
          have je := List.mem_of_getElem? he
          have jl := (List.getElem?_eq_some_iff.mp he).1
          have de := depth_mem je
          refine ⟨zs, s79 _ _ z1, fewM (by omega), _, upd_same, by simp [z2], ?_, ?_⟩
          · intro b o q2
            rw [upd_ne (ne_of_none q2 hD)]
            exact s79 _ _ (z3 _ _ q2)
          · rw [get_take he, List.map_append]
            refine Paired.app (paired_up (fun _ _ => Pend.up oB) z4) (.cons ⟨i2, c, (r.1, r.2 ++ [j]), z, rfl, ?_, oA _ _ hc, sr, ?_, ?_, Dp.up (s71.trans ((Off.of (l := D :: M :: L :: l) s8).trans oA)) _ _ hde⟩ .nil)
            · rw [cut_out n2, upd_ne nD2]; exact upd_same
            · intro k mk
              rcases List.mem_append.mp mk with h | h
              · exact kr k h
              · rw [List.mem_singleton.mp h]
                omega
            · show (r.2 ++ [j]).length + e.depth ≤ 11
              rw [List.length_append, List.length_singleton]
              omega
        · rintro H7 ⟨zs, z1, z2, z3, z4⟩
          rw [lw, List.take_length] at z4
          have nMD : M ≠ D := ne_of_none k2 hD
          have nLD : L ≠ D := ne_of_none k1 hD
          have o7 : Same (cut (M :: L :: l) H6) (cut (M :: L :: l) (upd H7 M (.lst (ys' ++ zs)))) := (Off.of (l := M :: L :: l) z3).trans (Off.put (by simp))
          have sumd : ∀ es : List PyData, ((es.map some).map nO).sum = nods es := fun es => by
            induction es with
            | nil => simp [nods]
            | cons e es ih =>
              simp only [List.map_cons, List.sum_cons, nods]
              rw [ih]; rfl
          have sms : ((todo' ++ ds.map some).map nO).sum = (todo'.map nO).sum + nods ds := by rw [List.map_append, List.sum_append_nat, sumd]
          refine ⟨M, D, ys', zs, rfl, rfl, z3 _ _ k2, z1, by have e0 : sizeLine = 16777216 := (by decide); omega, ?_⟩
          refine ⟨((todo' ++ ds.map some).map nO).sum, by omega, fs, ys' ++ zs, todo' ++ ds.map some, _, _, rfl, by rw [upd_ne nLM]; exact z3 _ _ k1, upd_same, ?_, fun x mx => (fA x mx).up o7, Paired.app (paired_up (fun _ _ => Pend.up o7) pA') ?_, ?_, by omega, rfl⟩
          · intro b o q2
            rw [upd_ne (ne_of_none q2 hM00)]
            exact z3 _ _ (s4 _ _ q2)
          · refine paired_up (fun _ _ => Pend.up fun b o q2 => ?_) z4
            obtain ⟨n2, q3⟩ := cut_some q2
            simp only [List.mem_cons, not_or] at n2
            rw [cut_out (by simp [n2.2.1, n2.2.2.1, n2.2.2.2]), upd_ne n2.2.1]
            exact q3
          · intro y my d e
            rcases List.mem_append.mp my with h | h
            · exact vA' y h d e
            · obtain ⟨e2, m2, rfl⟩ := List.mem_map.mp h
              cases e
              exact ⟨vds_mem vds' m2, by have := nods_mem m2; omega⟩
end
theorem MdsA.app {K : PySem.W.Frag} {H : Hp} : ∀ {vs ws : List V} {ts us : List Tm}, MdsA K H vs ts → MdsA K H ws us → MdsA K H (vs ++ ws) (ts ++ us)
  | _, _, _, _, .nil, h => h
  | _, _, _, _, .cons a t, h => .cons a (MdsA.app t h)
/-! models are drawn -/
abbrev sModel : Stmt := topS 31
abbrev sModIn : Stmt := topS 32
theorem scModel : FnScope ["_law_box_here", "_law_given", "_law_deep"] ["_law_box_here", "_law_given", "_law_deep"] (defScope sModel) := ⟨rfl, rfl, rfl, by decide +kernel, rfl, by decide +kernel, by decide +kernel⟩
theorem scModIn : FnScope ["_law_box_here", "_law_given", "_law_deep", "_law_room", "_law_form", "_law_wide", "_law_great", "_law_spots_here", "_law_here", "_law_k"] ["_law_box_here", "_law_given", "_law_deep", "_law_room"] (defScope sModIn) := ⟨rfl, rfl, rfl, by decide +kernel, rfl, by decide +kernel, by decide +kernel⟩
def spModIn (K : PySem.W.Frag) (C : Addr) (n : Nat) : Sp := fun vs H Q _ => ∃ p g a wd e w0 l kvs gs, vs = [.ref p, .ref a, .int e, .ref wd] ∧ Box H p g ∧ H wd = some (.lst [.int w0]) ∧ wd ∉ [p, g] ∧ 0 ≤ e ∧ e < (n : Int) ∧ n ≤ 20 ∧ Tr l H ∧ p ∈ l ∧ g ∈ l ∧ wd ∈ l ∧ InAt K C (cut l H) a kvs gs ∧ InsZ gs ∧
  ∀ v t H' w1, Box H' p g → H' wd = some (.lst [.int w1]) → Off [p, g, wd] H H' → MdA K (cut l H') v t → t.ok → t.lo → (t.dpt : Int) ≤ e → (t.wt : Int) = w0 - w1 → min (w0 - 1) (-(11 * e)) ≤ w1 → Q v H'
def spModel (K : PySem.W.Frag) (C : Addr) : Sp := fun vs H Q _ => ∃ p g a e l kvs gs, vs = [.ref p, .ref a, .int e] ∧ Box H p g ∧ 0 ≤ e ∧ e < 5 ∧ Tr l H ∧ p ∈ l ∧ g ∈ l ∧ InAt K C (cut l H) a kvs gs ∧ InsZ gs ∧
  ∀ v t H', Box H' p g → Off [p, g] H H' → MdA K (cut l H') v t → t.ok → t.lo → t.dpt ≤ 4 → t.wt ≤ 80 → Q v H'
theorem Tm.lo_leaf {t : Tm} (h : t.fl = [t]) (n : ∀ p b, t = .shi p b → b.natAbs < 10 ^ 8) : t.lo := fun p b m => by
  rw [h] at m
  exact n p b (List.mem_singleton.mp m).symm
theorem Tm.lo_bui {ts : List Tm} (h : ∀ t ∈ ts, t.lo) : (Tm.bui ts).lo := fun p b m => by
  have : ∀ us : List Tm, (∀ t ∈ us, t ∈ ts) → Tm.shi p b ∈ Tm.fls us → b.natAbs < 10 ^ 8 := fun us => by
    induction us with
    | nil => exact fun _ z => nomatch z
    | cons u us ih =>
      intro hs z
      rw [Tm.fls] at z
      rcases List.mem_append.mp z with z | z
      · exact h u (hs u List.mem_cons_self) p b z
      · exact ih (fun t mt => hs t (List.mem_cons_of_mem _ mt)) z
  rw [Tm.fl] at m
  rcases List.mem_cons.mp m with e | m
  · cases e
  · exact this ts (fun _ z => z) m
theorem Tm.wts_app1 (ts : List Tm) (t : Tm) : Tm.wts (ts ++ [t]) = Tm.wts ts + t.wt := by
  rw [Tm.wts_app]
  show _ + (t.wt + 0) = _
  omega
section
variable {P : Program} {w : World} {K : PySem.W.Frag} {mg : Str → Option Value} {base : Heap} {f C fE fT fW fP fPl fS fM : Addr} {fd dT dW dP dPl dS dM : FuncData}
theorem ok_modIn {k n : Nat} (F : Fun K "_law_model_in" "_law_model_in" sModIn f fd) (B : Bi mg) (T : Tk P w K mg base fT dT) (GW : Dn P w K mg base 2 "_law_word" ["_law_box_here"] spWord fW dW)
    (GP : Dn P w K mg base 2 "_law_pick" ["_law_box_here", "_law_items"] spPick fP dP) (GL : Dn P w K mg base 3 "_law_place" ["_law_box_here", "_law_given"] (spPlace K C) fPl dPl) (GS : Dn P w K mg base 1 "_law_spots" ["_law_given"] (spSpots K C) fS dS)
    (G : FnOk P w K mg base CX0 (k + 3) f fd ["_law_box_here", "_law_given", "_law_deep", "_law_room"] (spModIn K C n)) (bV : Binds K fd ["_law_box_here", "_law_given", "_law_deep", "_law_room"] []) (mV : mg "_law_model_in" = some (.ref f)) :
    FnOk P w K mg base CX0 (k + 4) f fd ["_law_box_here", "_law_given", "_law_deep", "_law_room"] (spModIn K C (n + 1)) := by
  refine F.ok scModIn (fun vs H Q E h => ?_) (fun cdv A outer s H vs Q E hr h => ?_)
  · obtain ⟨p, g, a, wd, e, w0, l, kvs, gs, rfl, _⟩ := h
    rfl
  obtain ⟨p, g, a, wd, e, w0, l, kvs, gs, rfl, hb, hw, nw, e0, en, n20, tl, pl, gl, wl, hI, hO, q⟩ := h
  have hr1 : Room 1 _ := hr.mono (by omega)
  have hr2 : Room 2 _ := hr.mono (by omega)
  have hr3 : Room 3 _ := hr.mono (by omega)
  refine ⟨_, pss_cons (ps_asg (pe_tup (pa_cons (pe_op op_sub (pe_ix ix_list (pv 3) pe_int (fun _ _ => rfl)) pe_int) (pa_cons (pe_call T.ok hr1 (by rfl) T.mg T.kp T.bd .nil pass0 (pa_cons (pv 0) (pa_cons pe_int pa_nil))) pa_nil)))
      (pg_tup (by rfl) (pgs_cons (pg_sub (pv 3) pe_int set_list) (pgs_cons (pg_name (i := 4) scModIn.nd rfl (.inl rfl)) pgs_nil))))
    (pss_cons (ps_if (PW.pt (pw_and (pt_cmpR op_gt (pv 4) pe_int (nomark _)) (pw_and (pt_cmpR op_gt (pv 2) pe_int (nomark _)) (pw_and1 (pt_cmpR op_gt (pe_ix ix_list (pv 3) pe_int (fun _ _ => rfl)) pe_int (nomark _))))))
      (pss_cons (ps_set (i := 5) scModIn.nd rfl (.inl rfl) (pe_ix ix_list (pe_lst (pa_cons (pe_call T.ok hr1 (by rfl) T.mg T.kp T.bd .nil pass0 (pa_cons (pv 0) (pa_cons pe_int pa_nil))) (pa_cons (pe_call T.ok hr1 (by rfl) T.mg T.kp T.bd .nil pass0 (pa_cons (pv 0) (pa_cons pe_int pa_nil))) pa_nil)))
          (pe_op op_fdiv (pe_call T.ok hr1 (by rfl) T.mg T.kp T.bd .nil pass0 (pa_cons (pv 0) (pa_cons pe_int pa_nil))) pe_int) (fun _ _ => rfl)))
      (pss_one (ps_ret (pe_tup (pa_cons pe_str (pa_cons (pe_lc (own := [("_law_k", 9)]) (g := gName 9) (by rfl) scModIn.nd (pi_range1 (by rfl) B.rng (pa_cons (pv 5) pa_nil))
        (blkOk_by (own := [("_law_k", 9)]) (N := ["_law_box_here", "_law_given", "_law_deep", "_law_room", "_law_form", "_law_wide", "_law_great", "_law_spots_here", "_law_here", "_law_k"]) (sc := defScope sModIn) (by decide +kernel))
        (fun _ _ _ _ _ => pg_name (i := 9) scModIn.nd rfl (Or.inl rfl)) (fun _ _ _ _ _ => pts_nil)
        (fun _ _ _ _ _ => pe_call G hr (by rfl) mV F.kp bV .nil pass0 (pa_cons (pv 0) (pa_cons (pv 1) (pa_cons (pe_op op_sub (pv 2) pe_int) (pa_cons (pv 3) pa_nil)))))) pa_nil))))))
      pss_nil)
    (pss_cons (ps_if (pt_cmpR op_eq (pv 4) pe_int (nomark _))
      (pss_cons (ps_set (i := 6) scModIn.nd rfl (.inl rfl) (pe_op op_sub (pe_call T.ok hr1 (by rfl) T.mg T.kp T.bd .nil pass0 (pa_cons (pv 0) (pa_cons pe_int pa_nil))) pe_int))
      (pss_one (ps_ret (pe_tup (pa_cons pe_str (pa_cons (pe_ix ix_list (pe_lst (pa_cons (pe_op op_sub (pe_call T.ok hr1 (by rfl) T.mg T.kp T.bd .nil pass0 (pa_cons (pv 0) (pa_cons pe_int pa_nil))) pe_int)
          (pa_cons (pe_call GW.ok hr2 (by rfl) GW.mg GW.kp GW.bd .nil pass0 (pa_cons (pv 0) pa_nil)) (pa_cons (pv 6) pa_nil)))) (pe_op op_fdiv (pe_call T.ok hr1 (by rfl) T.mg T.kp T.bd .nil pass0 (pa_cons (pv 0) (pa_cons pe_int pa_nil))) pe_int) (fun _ _ => rfl)) pa_nil)))))) pss_nil)
    (pss_cons (ps_set (i := 7) scModIn.nd rfl (.inl rfl) (pe_call GS.ok hr1 (by rfl) GS.mg GS.kp GS.bd .nil pass0 (pa_cons (pv 1) pa_nil)))
    (pss_cons (ps_if (pt_cmpR op_eq (pv 4) pe_int (nomark _))
      (C8.pss_cut (ps_set (i := 8) scModIn.nd rfl (.inl rfl) (pe_ifExp (PW.pt (pw_and (pt_cmpR (op_neNil hr.units) (pv 7) (pe_lst pa_nil) (nomark _)) (pw_and1 (pt_cmpR op_gt (pe_call T.ok hr1 (by rfl) T.mg T.kp T.bd .nil pass0 (pa_cons (pv 0) (pa_cons pe_int pa_nil))) pe_int (nomark _)))))
          (pe_call GP.ok hr2 (by rfl) GP.mg GP.kp GP.bd .nil pass0 (pa_cons (pv 0) (pa_cons (pv 7) pa_nil))) (pe_call GL.ok hr3 (by rfl) GL.mg GL.kp GL.bd .nil pass0 (pa_cons (pv 0) (pa_cons (pv 1) pa_nil)))))
      (pss_one (ps_ret (pe_tup (pa_cons pe_str (pa_cons (pv 8) (pa_cons (pe_ix ix_list (pe_lst (pa_cons (pe_op op_sub (pe_call T.ok hr1 (by rfl) T.mg T.kp T.bd .nil pass0 (pa_cons (pv 0) (pa_cons pe_int pa_nil))) pe_int)
          (pa_cons (pe_op op_sub (pe_call T.ok hr1 (by rfl) T.mg T.kp T.bd .nil pass0 (pa_cons (pv 0) (pa_cons (pe_op op_mul pe_int (pe_op op_pow pe_int pe_int)) pa_nil))) (pe_op op_pow pe_int pe_int)) pa_nil)))
          (pe_op op_fdiv (pe_call T.ok hr1 (by rfl) T.mg T.kp T.bd .nil pass0 (pa_cons (pv 0) (pa_cons pe_int pa_nil))) pe_int) (fun _ _ => rfl)) pa_nil))))))) pss_nil)
    (pss_one (ps_ret (pe_tup (pa_cons pe_str (pa_cons (pe_call GL.ok hr3 (by rfl) GL.mg GL.kp GL.bd .nil pass0 (pa_cons (pv 0) (pa_cons (pv 1) pa_nil))) pa_nil))))))))), ?_⟩
  have subL : ∀ b ∈ [p, g, wd], b ∈ l := fun b hb => by
    simp only [List.mem_cons, List.not_mem_nil, or_false] at hb
    rcases hb with h | h | h
    · rw [h]; exact pl
    · rw [h]; exact gl
    · rw [h]; exact wl
  have sub2 : ∀ b ∈ [p, g], b ∈ [p, g, wd] := fun b hb => by
    simp only [List.mem_cons, List.not_mem_nil, or_false] at hb ⊢
    rcases hb with h | h
    · exact .inl h
    · exact .inr (.inl h)
  have trA : ∀ {H8 : Hp} {o : HO}, Box H8 p g → H8 wd = some o → Off [p, g, wd] H H8 → Tr l H8 := fun {H8 o} b8 w8 o8 => tl.go o8 fun b hb => by
    have t := b8.tr
    simp only [List.mem_cons, List.not_mem_nil, or_false] at hb
    rcases hb with h | h | h
    · rw [h]; exact t.1
    · rw [h]; exact t.2
    · rw [h, w8]; exact fun z => nomatch z
  have inA : ∀ {H8 : Hp}, Off [p, g, wd] H H8 → InAt K C (cut l H8) a kvs gs := fun o8 => hI.up (o8.mono subL)
  refine ⟨_, rfl, wd, _, 0, _, rfl, rfl, SqL.of hw, rfl, _, _, rfl, rfl, _, rfl, p, g, 6, rfl, hb, by decide, by decide, fun fo H1 f0 f6 b1 o1 => ⟨few (by simp), fun tq htq => ?_⟩⟩
  have hw1 : H1 wd = some (.lst [.int w0]) := o1.get hw nw
  have nq := b1.notin htq
  have nwq : wd ≠ tq := ne_of_none hw1 htq
  have nq3 : tq ∉ [p, g, wd] := by
    simp only [List.mem_cons, List.not_mem_nil, or_false, not_or] at nq ⊢
    exact ⟨nq.1, nq.2, fun z => nwq z.symm⟩
  have oq := off_new (o := .tup [.int (w0 - 1), .int fo]) (o1.mono sub2) nq3 ((o1.mono sub2).free htq nq3)
  refine ⟨tq, _, rfl, .inl (.inl upd_same), rfl, _, _, rfl, _, rfl, wd, _, 0, 0, rfl, rfl, by rw [upd_ne nwq]; exact hw1, rfl, ?_⟩
  refine ⟨_, _, rfl, rfl, ?_⟩
  have b2 : Box (upd (upd H1 tq (.tup [.int (w0 - 1), .int fo])) wd (.lst [.int (w0 - 1)])) p g := (b1.put nq).put nw
  have hw2 : (upd (upd H1 tq (.tup [.int (w0 - 1), .int fo])) wd (.lst [.int (w0 - 1)])) wd = some (.lst [.int (w0 - 1)]) := upd_same
  have o2 : Off [p, g, wd] H (upd (upd H1 tq (.tup [.int (w0 - 1), .int fo])) wd (.lst [.int (w0 - 1)])) := oq.trans (Off.put (by simp))
  have tr2 := trA b2 hw2 o2
  refine ⟨_, rfl, _, _, rfl, rfl, _, rfl, ite2 (fun c1 => ⟨_, rfl, _, _, rfl, rfl, _, rfl, ite2 (fun c2 => ⟨_, rfl, wd, _, 0, _, rfl, rfl, SqL.of hw2, rfl, _, _, rfl, rfl, _, rfl, ite2 (fun c3 => ?r) (fun c3 => ?l3)⟩) (fun c2 => ?l2)⟩) (fun c1 => ?l1)⟩
  case r =>
    have e1 : (0 : Int) < e := of_decide_eq_true c2
    have w1' : (0 : Int) < w0 - 1 := of_decide_eq_true c3
    refine ⟨_, rfl, p, g, 4, rfl, b2, by decide, by decide, fun s1 H3 s10 s14 b3 o3 => ?_⟩
    refine ⟨_, rfl, p, g, 12, rfl, b3, by decide, by decide, fun s2 H4 s20 s24 b4 o4 => ⟨few (by simp), fun D hD => ?_⟩⟩
    have w4 : H4 wd = some (.lst [.int (w0 - 1)]) := (o3.trans o4).get hw2 nw
    have o4 := o2.trans ((o3.trans o4).mono sub2)
    have nD := b4.notin hD
    have nwD : wd ≠ D := ne_of_none w4 hD
    have nD3 : D ∉ [p, g, wd] := by
      simp only [List.mem_cons, List.not_mem_nil, or_false, not_or] at nD ⊢
      exact ⟨nD.1, nD.2, fun z => nwD z.symm⟩
    have b5 := b4.put (o := .lst [V.int s1, V.int s2]) nD
    have o5 := off_new (o := .lst [V.int s1, V.int s2]) o4 nD3 (o4.free hD nD3)
    refine ⟨_, rfl, p, g, 6, rfl, b5, by decide, by decide, fun s3 H6 s30 s36 b6 o6 => ⟨_, _, rfl, rfl, ⟨by decide, by decide⟩, ?_⟩⟩
    have hD6 : H6 D = some (.lst [V.int s1, V.int s2]) := o6.get upd_same nD
    have w6 : H6 wd = some (.lst [.int (w0 - 1)]) := o6.get (by rw [upd_ne nwD]; exact w4) nw
    have o6 := o5.trans (o6.mono sub2)
    obtain ⟨v, hv, mv⟩ := atN (xs := [V.int s1, V.int s2]) (r := s3 / 5) (by omega) (by show s3 / 5 < 2; omega)
    refine ⟨D, _, _, v, rfl, rfl, SqL.of hD6, hv, ?_⟩
    obtain ⟨m, rfl, m0, m12⟩ : ∃ m : Int, v = .int m ∧ 0 ≤ m ∧ m ≤ 11 := by
      simp only [List.mem_cons, List.not_mem_nil, or_false] at mv
      rcases mv with e | e
      · exact ⟨_, e, by omega, by omega⟩
      · exact ⟨_, e, by omega, by omega⟩
    have tr6 := trA b6 w6 o6
    refine ⟨_, rfl, m, rfl, by omega, by omega, fun D2 hD2 => ?_⟩
    have n2 := b6.notin hD2
    have nw2 : wd ≠ D2 := ne_of_none w6 hD2
    have n23 : D2 ∉ [p, g, wd] := by
      simp only [List.mem_cons, List.not_mem_nil, or_false, not_or] at n2 ⊢
      exact ⟨n2.1, n2.2, fun z => nw2 z.symm⟩
    have nl2 : D2 ∉ l := fun z => tr6 D2 z hD2
    have inD : ∀ {H8 : Hp}, Off [p, g, wd] H H8 → InAt K C (cut (D2 :: l) H8) a kvs gs := fun o8 => hI.up (fun b o z => by
      obtain ⟨n1, z1⟩ := cut_some z
      have nb : b ≠ D2 := ne_of_none (cut_some ((o6.mono subL) b o z)).2 hD2
      rw [cut_out (by simp [nb, n1])]
      exact (cut_some ((o8.mono subL) b o z)).2)
    refine lc_range (lo := 0) (n := m.toNat) (fun i H7 => ∃ vs ts wi, vs.length = i ∧ H7 D2 = some (.lst vs) ∧ MdsA K (cut (D2 :: l) H7) vs ts ∧ Tm.oks ts ∧ (∀ t ∈ ts, t.lo) ∧ (Tm.dpts ts : Int) ≤ e - 1 ∧
        Box H7 p g ∧ H7 wd = some (.lst [.int wi]) ∧ Off [p, g, wd] H H7 ∧ (Tm.wts ts : Int) = (w0 - 1) - wi ∧ -(11 * (e - 1)) - i ≤ wi)
      ⟨[], [], w0 - 1, rfl, upd_same, .nil, by simp only [Tm.oks], (fun _ z => nomatch z), by simp only [Tm.dpts]; omega, b6.put n2, by rw [upd_ne nw2]; exact w6, off_new o6 n23 (o6.free hD2 n23), by simp only [Tm.wts]; omega, by omega⟩ ?_ ?_
    · rintro i H7 hi ⟨vs, ts, wi, lv, h1, h2, h3, h4, h5, h6, h7, h8, h9, h10⟩
      have tr7 : Tr (D2 :: l) H7 := fun b hb => by
        rcases List.mem_cons.mp hb with h | hb
        · rw [h, h1]; exact fun z => nomatch z
        · exact trA h6 h7 h8 b hb
      refine ⟨rfl, _, rfl, _, rfl, _, rfl, _, _, rfl, rfl, _, rfl, p, g, a, wd, e - 1, wi, D2 :: l, kvs, gs, rfl, h6, h7, nw, by omega, by omega, by omega, tr7, by simp [pl], by simp [gl], by simp [wl], inD h8, hO, fun v t H8 wj k1 k2 k3 k4 k5 k6 k7 k8 k9 => ?_⟩
      have o8 : Off (D2 :: l) H7 H8 := k3.mono fun b hb => List.mem_cons_of_mem _ (subL b hb)
      have put8 : Off (D2 :: l) H8 (upd H8 D2 (.lst (vs ++ [v]))) := Off.put (by simp)
      refine ⟨vs, k3.get h1 n23, few (by omega), vs ++ [v], ts ++ [t], wj, by rw [List.length_append, List.length_singleton, lv], upd_same, ?_, ?_, ?_, ?_, k1.put n2, by rw [upd_ne nw2]; exact k2, ?_, ?_, by omega⟩
      · exact MdsA.app (MdsA.up (o8.trans put8) _ _ h2) (.cons (MdA.up put8 _ _ k4) .nil)
      · exact Tm.oksA.mpr ⟨h3, by simp only [Tm.oks]; exact ⟨k5, trivial⟩⟩
      · intro u mu
        rcases List.mem_append.mp mu with h | h
        · exact h4 u h
        · rw [List.mem_singleton.mp h]; exact k6
      · rw [Tm.dpts_app]
        simp only [Tm.dpts]
        omega
      · exact off_new (h8.trans k3) n23 (o6.free hD2 n23)
      · rw [Tm.wts_app1]
        omega
    · rintro H7 ⟨vs, ts, wi, lv, h1, h2, h3, h4, h5, h6, h7, h8, h9, h10⟩
      refine ⟨few (by simp), fun r hr => ?_⟩
      have tr7 := trA h6 h7 h8
      have nr := h6.notin hr
      have nrw : wd ≠ r := ne_of_none h7 hr
      have nr3 : r ∉ [p, g, wd] := by
        simp only [List.mem_cons, List.not_mem_nil, or_false, not_or] at nr ⊢
        exact ⟨nr.1, nr.2, fun z => nrw z.symm⟩
      have nrl : r ∉ l := tr7.out hr
      have sr := same_new hr (.tup [.str "built", .ref D2])
      refine q (.ref r) (.bui ts) _ wi (h6.put nr) (sr _ _ h7) (off_new h8 nr3 (h8.free hr nr3)) (.bui (l := D2) (vs := vs) (by rw [cut_out nrl]; exact upd_same) (by rw [cut_out nl2]; exact sr _ _ h1) (MdsA.up (fun b o z => ?_) _ _ h2)) (by simp only [Tm.ok]; exact h3) (Tm.lo_bui h4) ?_ ?_ ?_
      · obtain ⟨n1, z1⟩ := cut_some z
        rw [cut_out (fun z => n1 (by simp [z]))]
        exact sr _ _ z1
      · have : (Tm.bui ts).dpt = 1 + Tm.dpts ts := by rw [Tm.dpt]
        omega
      · have : (Tm.bui ts).wt = 1 + Tm.wts ts := by rw [Tm.wt]
        omega
      · omega
  all_goals
    refine ⟨_, rfl, rfl, _, rfl, ite2 (fun c => ?_) (fun c => ?_)⟩
    · refine ⟨_, rfl, p, g, 2000001, rfl, b2, by decide, by decide, fun r3 H3 r30 r31 b3 o3 => ⟨_, _, rfl, rfl, ?_⟩⟩
      refine ⟨_, rfl, p, g, 9, rfl, b3, by decide, by decide, fun s1 H4 s10 s19 b4 o4 => ⟨_, _, rfl, rfl, _, rfl, p, g, rfl, b4, fun x9 H5 sx9 b5 o5 => ⟨_, rfl, few (by simp), fun D hD => ?_⟩⟩⟩
      have o35 := (o3.trans o4).trans o5
      have w5 := o35.get hw2 nw
      have o5' := o2.trans (o35.mono sub2)
      have nD := b5.notin hD
      have nwD : wd ≠ D := ne_of_none w5 hD
      have nD3 : D ∉ [p, g, wd] := by
        simp only [List.mem_cons, List.not_mem_nil, or_false, not_or] at nD ⊢
        exact ⟨nD.1, nD.2, fun z => nwD z.symm⟩
      have b6 := b5.put (o := .lst [V.int (s1 - 4), V.str x9, V.int (r3 - 1000000)]) nD
      have o6 := off_new (o := .lst [V.int (s1 - 4), V.str x9, V.int (r3 - 1000000)]) o5' nD3 (o5'.free hD nD3)
      refine ⟨_, rfl, p, g, 5, rfl, b6, by decide, by decide, fun r6 H6 r60 r65 b7 o7 => ⟨_, _, rfl, rfl, ⟨by decide, by decide⟩, ?_⟩⟩
      have hD6 : H6 D = some (.lst [V.int (s1 - 4), V.str x9, V.int (r3 - 1000000)]) := o7.get upd_same nD
      have w7 : H6 wd = some (.lst [.int (w0 - 1)]) := o7.get (by rw [upd_ne nwD]; exact w5) nw
      have o7 := o6.trans (o7.mono sub2)
      obtain ⟨v, hv, mv⟩ := atN (xs := [V.int (s1 - 4), V.str x9, V.int (r3 - 1000000)]) (r := r6 / 2) (by omega) (by show r6 / 2 < 3; omega)
      refine ⟨D, _, _, v, rfl, rfl, SqL.of hD6, hv, few (by simp), fun r hr => ?_⟩
      obtain ⟨d, hd, okd⟩ : ∃ d, (∀ G : Hp, Dp K G v d) ∧ (Tm.lit d).ok := by
        simp only [List.mem_cons, List.not_mem_nil, or_false] at mv
        rcases mv with h | h | h
        · exact ⟨.int (s1 - 4), fun G => by rw [h]; exact .int _, by simp only [Tm.ok]; exact .inl ⟨_, rfl, by omega⟩⟩
        · exact ⟨.str x9, fun G => by rw [h]; exact .str _, by simp only [Tm.ok]; exact .inr ⟨_, rfl, sx9⟩⟩
        · exact ⟨.int (r3 - 1000000), fun G => by rw [h]; exact .int _, by simp only [Tm.ok]; exact .inl ⟨_, rfl, by omega⟩⟩
      have nrl : r ∉ l := (trA b7 w7 o7).out hr
      have sr := same_new hr (.tup [.str "literal", v])
      exact q (.ref r) (.lit d) _ (w0 - 1) (b7.same sr) (sr _ _ w7) (o7.trans (Off.of sr)) (.lit (by rw [cut_out nrl]; exact upd_same) (hd _)) okd (Tm.lo_leaf (by simp only [Tm.fl]) (fun _ _ z => nomatch z)) (by simp only [Tm.dpt]; omega) (by simp only [Tm.wt]; omega) (by omega)
    · refine ⟨_, rfl, a, l, kvs, gs, rfl, tr2, inA o2, hO, fun sq xs H3 s3 n3 h3 l3 f3 => ?_⟩
      refine ⟨_, rfl, rfl, _, rfl, ite2 (fun c => ?_) (fun c => ?_)⟩
      · refine ⟨fun σ H5 => ∃ x, σ = [some (.ref p), some (.ref a), some (.int e), some (.ref wd), some (.int fo), none, none, some (.ref sq), some x, none] ∧ Box H5 p g ∧ H5 wd = some (.lst [.int (w0 - 1)]) ∧ Off [p, g, wd] H H5 ∧ Fnd (cut l H5) x, ?_, ?_⟩
        · refine ⟨_, rfl, by decide, fun e9 he9 => ⟨sq, e9, xs, rfl, rfl, SqL.of ((same_new he9 _) _ _ h3), SqL.of upd_same, ?_⟩⟩
          have s9 := same_new he9 (.lst [])
          have b3 := (b2.same s3).same s9
          have w3 := s9 _ _ (s3 _ _ hw2)
          have o3 := o2.trans (Off.of (l := [p, g, wd]) (s3.trans s9))
          have f3 : ∀ x ∈ xs, Fnd (cut l (upd H3 e9 (.lst []))) x := fun x mx => (f3 x mx).up (cut_new (l := l) he9)
          have h3 := s9 _ _ h3
          have nsq : sq ∉ [p, g] := b2.notin n3
          clear s9 he9
          generalize upd H3 e9 (.lst []) = H4 at *
          have plc : ∀ {H6 : Hp}, Box H6 p g → Off [p, g] H4 H6 → spPlace K C [.ref p, .ref a] H6 (fun x H5 => ∃ y, [some (V.ref p), some (V.ref a), some (V.int e), some (V.ref wd), some (V.int fo), none, none, some (V.ref sq), some x, none] = [some (.ref p), some (.ref a), some (.int e), some (.ref wd), some (.int fo), none, none, some (.ref sq), some y, none] ∧ Box H5 p g ∧ H5 wd = some (.lst [.int (w0 - 1)]) ∧ Off [p, g, wd] H H5 ∧ Fnd (cut l H5) y) E0 := fun {H6} b6 o6 => by
            have o36 := o3.trans (o6.mono sub2)
            have w6 := o6.get w3 nw
            exact ⟨p, g, a, l, kvs, gs, rfl, b6, trA b6 w6 o36, pl, gl, inA o36, hO.g, fun t r H5 b5 o5 h5 ok5 => ⟨.ref t, rfl, b5, o5.get w6 nw, o36.trans (o5.mono sub2), t, r, rfl, h5, ok5⟩⟩
          cases xs with
          | nil => exact ⟨_, rfl, iteF ⟨_, rfl, _, rfl, plc b3 (Off.refl _ _)⟩⟩
          | cons x0 xs0 =>
            refine ⟨_, rfl, iteT ⟨_, rfl, p, g, 8, rfl, b3, by decide, by decide, fun r4 H5 r40 r48 b5 o5 => ⟨_, _, rfl, rfl, _, rfl, ite2 (fun c => ?_) (fun c => ?_)⟩⟩⟩
            · refine ⟨_, rfl, _, rfl, p, g, sq, _, rfl, b5, o5.get h3 nsq, nsq, by simp, l3, fun x mx H6 b6 o6 => ?_⟩
              exact ⟨x, rfl, b6, (o5.trans o6).get w3 nw, o3.trans ((o5.trans o6).mono sub2), (f3 x mx).up (((o5.trans o6).mono sub2).mono subL)⟩
            · exact ⟨_, rfl, _, rfl, plc b5 o5⟩
        · rintro σ H5 ⟨x, rfl, b5, w5, o5, fx⟩
          refine ⟨_, rfl, _, rfl, p, g, 5, rfl, b5, by decide, by decide, fun s1 H6 s10 s15 b6 o6 => ⟨_, _, rfl, rfl, _, rfl, _, _, rfl, rfl, ⟨by decide, by decide, by decide⟩, _, _, rfl, rfl, .inl ⟨by decide, by decide⟩, ?_⟩⟩
          refine ⟨p, g, 2000000, rfl, b6, by decide, by decide, fun s2 H7 s20 s25 b7 o7 => ⟨_, _, rfl, rfl, ⟨by decide, by decide, by decide⟩, _, _, rfl, rfl, few (by simp), fun D hD => ?_⟩⟩
          have o57 := o6.trans o7
          have w7 := o57.get w5 nw
          have o7' := o5.trans (o57.mono sub2)
          have nD := b7.notin hD
          have nwD : wd ≠ D := ne_of_none w7 hD
          have nD3 : D ∉ [p, g, wd] := by
            simp only [List.mem_cons, List.not_mem_nil, or_false, not_or] at nD ⊢
            exact ⟨nD.1, nD.2, fun z => nwD z.symm⟩
          have b8 := b7.put (o := .lst [V.int (s1 - 2), V.int (s2 - 1000000)]) nD
          have sD := same_new hD (.lst [V.int (s1 - 2), V.int (s2 - 1000000)])
          have o8 := o7'.trans (Off.of (l := [p, g, wd]) sD)
          refine ⟨_, rfl, p, g, 4, rfl, b8, by decide, by decide, fun s3 H9 s30 s34 b9 o9 => ⟨_, _, rfl, rfl, ⟨by decide, by decide⟩, ?_⟩⟩
          have hD9 : H9 D = some (.lst [V.int (s1 - 2), V.int (s2 - 1000000)]) := o9.get upd_same nD
          have w9 : H9 wd = some (.lst [.int (w0 - 1)]) := o9.get (sD _ _ w7) nw
          have fx9 := ((fx.up ((o57.mono sub2).mono subL)).up (Off.of (l := l) sD)).up ((o9.mono sub2).mono subL)
          have o9 := o8.trans (o9.mono sub2)
          obtain ⟨v, hv, mv⟩ := atN (xs := [V.int (s1 - 2), V.int (s2 - 1000000)]) (r := s3 / 3) (by omega) (by show s3 / 3 < 2; omega)
          refine ⟨D, _, _, v, rfl, rfl, SqL.of hD9, hv, few (by simp), fun r hr => ?_⟩
          obtain ⟨m, rfl, m9⟩ : ∃ m : Int, v = .int m ∧ m.natAbs ≤ 1000000 := by
            simp only [List.mem_cons, List.not_mem_nil, or_false] at mv
            rcases mv with e | e
            · exact ⟨_, e, by omega⟩
            · exact ⟨_, e, by omega⟩
          obtain ⟨t, r0, rfl, ht, okr⟩ := fx9
          have nrl : r ∉ l := (trA b9 w9 o9).out hr
          have sr := same_new hr (.tup [.str "shifted", .ref t, .int m])
          refine q (.ref r) (.shi r0 m) _ (w0 - 1) (b9.same sr) (sr _ _ w9) (o9.trans (Off.of sr)) (.shi (by rw [cut_out nrl]; exact upd_same) (cut_new (l := l) hr _ _ ht)) (by simp only [Tm.ok]; exact ⟨okr, by omega⟩) (Tm.lo_leaf (by simp only [Tm.fl]) (fun p b z => ?_)) (by simp only [Tm.dpt]; omega) (by simp only [Tm.wt]; omega) (by omega)
          cases z
          omega
      · have b3 := b2.same s3
        have w3 := s3 _ _ hw2
        have o3 := o2.trans (Off.of (l := [p, g, wd]) s3)
        refine ⟨_, rfl, _, rfl, p, g, a, l, kvs, gs, rfl, b3, trA b3 w3 o3, pl, gl, inA o3, hO.g, fun t r0 H5 b5 o5 h5 ok5 => ⟨few (by simp), fun r hr => ?_⟩⟩
        have w5 := o5.get w3 nw
        have o5 := o3.trans (o5.mono sub2)
        have nrl : r ∉ l := (trA b5 w5 o5).out hr
        have sr := same_new hr (.tup [.str "whole", .ref t])
        exact q (.ref r) (.who r0) _ (w0 - 1) (b5.same sr) (sr _ _ w5) (o5.trans (Off.of sr)) (.who (by rw [cut_out nrl]; exact upd_same) (cut_new (l := l) hr _ _ h5)) (by simp only [Tm.ok]; exact ok5) (Tm.lo_leaf (by simp only [Tm.fl]) (fun _ _ z => nomatch z)) (by simp only [Tm.dpt]; omega) (by simp only [Tm.wt]; omega) (by omega)
theorem ok_model {k : Nat} (F : Fun K "_law_model" "_law_model" sModel f fd) (GM : Dn P w K mg base 8 "_law_model_in" ["_law_box_here", "_law_given", "_law_deep", "_law_room"] (spModIn K C 5) fM dM) : FnOk P w K mg base CX0 (k + 9) f fd ["_law_box_here", "_law_given", "_law_deep"] (spModel K C) := by
  refine F.ok scModel (fun vs H Q E h => ?_) (fun cdv A outer s H vs Q E hr h => ?_)
  · obtain ⟨p, g, a, e, l, kvs, gs, rfl, _⟩ := h
    rfl
  obtain ⟨p, g, a, e, l, kvs, gs, rfl, hb, e0, e5, tl, pl, gl, hI, hO, q⟩ := h
  refine ⟨_, pss_one (ps_ret (pe_call GM.ok (hr.mono (by omega)) (by rfl) GM.mg GM.kp GM.bd .nil pass0 (pa_cons (pv 0) (pa_cons (pv 1) (pa_cons (pv 2) (pa_cons (pe_lst (pa_cons pe_int pa_nil)) pa_nil)))))), ?_⟩
  refine ⟨_, rfl, _, rfl, _, rfl, few (by simp), fun wd hwd => ?_⟩
  have nw := hb.notin hwd
  have nl : wd ∉ l := tl.out hwd
  have hI2 : InAt K C (cut (wd :: l) (upd H wd (.lst [.int 30]))) a kvs gs := hI.up (cut_more hwd)
  refine ⟨p, g, a, wd, e, 30, wd :: l, kvs, gs, rfl, hb.put nw, upd_same, nw, e0, by omega, by omega, fun b h => ?_, by simp [pl], by simp [gl], by simp, hI2, hO, fun v t H' w1 k1 k2 k3 k4 k5 k6 k7 k8 k9 => ?_⟩
  · rcases List.mem_cons.mp h with h | h
    · rw [h, upd_same]; exact fun z => nomatch z
    · rw [upd_ne (ne_mem nl h)]; exact tl b h
  · have off : Off [p, g] H H' := fun b o z => by
      obtain ⟨n1, z1⟩ := cut_some z
      have nb := ne_of_none z1 hwd
      rw [cut_out n1]
      exact k3.get (by rw [upd_ne nb]; exact z1) (by
        simp only [List.mem_cons, List.not_mem_nil, or_false, not_or] at n1 ⊢
        exact ⟨n1.1, n1.2, nb⟩)
    exact q v t H' k1 off (MdA.up (cut_less fun b hb => List.mem_cons_of_mem _ hb) _ _ k4) k5 k6 (by omega) (by omega)
end
/-! what is told: small enough to be printed -/
theorem gvbs_mem {b : Nat} : ∀ {ds : List PyData} {d : PyData}, gvbs b ds = true → d ∈ ds → gvb b d = true
  | _ :: _, _, h, m => by
    simp only [gvbs, Bool.and_eq_true] at h
    rcases List.mem_cons.mp m with e | e
    · rw [e]; exact h.1
    · exact gvbs_mem h.2 e
theorem gv_at {b : Nat} : ∀ (ks : List Nat) (d e : PyData), atM d ks = some e → gvb b d = true → gvb b e = true ∧ nod e ≤ nod d ∧ e.depth ≤ d.depth
  | [], d, e, h, hv => by
    have : d = e := by cases d <;> exact Option.some.inj h
    rw [← this]
    exact ⟨hv, Nat.le_refl _, Nat.le_refl _⟩
  | k :: ks, d, e, h, hv => by
    cases d with
    | tuple ds =>
      unfold atM at h
      cases h3 : ds[k]? with
      | none => rw [h3] at h; cases h
      | some e3 =>
        rw [h3] at h
        have m3 := List.mem_of_getElem? h3
        have q := gv_at ks e3 e h (gvbs_mem (by simpa only [gvb] using hv) m3)
        have n3 := nods_mem m3
        have d3 := depth_mem m3
        refine ⟨q.1, ?_, ?_⟩
        · simp only [nod]; omega
        · simp only [PyData.depth]; omega
    | none => cases h
    | bool b => cases h
    | int i => cases h
    | str x => cases h
    | list l => cases h
    | dict l => cases h
theorem at_gv {gs : Ins} {n : Str} {ks : List Nat} {d : PyData} (hO : InsZ gs) (h : atI2 gs n ks = some d) : gvb 10 d = true ∧ nod d ≤ 4000 ∧ d.depth ≤ 11 := by
  unfold atI2 at h
  cases e : getI gs n with
  | none => rw [e] at h; cases h
  | some y =>
    rw [e] at h
    cases y with
    | none => cases h
    | some d0 =>
      obtain ⟨g, mg, eg⟩ := getI_mem e
      have q := hO.va g mg d0 eg
      have z := gv_at ks d0 d h q.1
      exact ⟨z.1, by omega, by omega⟩
mutual
theorem ev_gv (gs : Ins) (hO : InsZ gs) : ∀ (t : Tm) (d : PyData), t.ok → evT gs t = .ok d → gvb 32 d = true ∧ nod d ≤ 4000 * t.wt ∧ d.depth ≤ 11 + t.dpt
  | .lit x, d, ok, h => by
    simp only [evT, lfE] at h
    cases h
    simp only [Tm.ok] at ok
    rcases ok with ⟨i, rfl, hi⟩ | ⟨y, rfl, sy⟩
    · refine ⟨?_, by simp only [nod, Tm.wt]; omega, by simp only [PyData.depth]; omega⟩
      simp only [gvb, decide_eq_true_eq]
      exact Nat.lt_of_le_of_lt hi (by decide)
    · exact ⟨gvb_str sy, by simp only [nod, Tm.wt]; omega, by simp only [PyData.depth]; omega⟩
  | .who p, d, ok, h => by
    simp only [evT, lfE] at h
    cases e : atI2 gs p.1 p.2 with
    | none => rw [e] at h; cases h
    | some d0 =>
      rw [e] at h
      cases h
      have q := at_gv hO e
      exact ⟨gvb_up (by decide) _ q.1, by simp only [Tm.wt]; omega, by omega⟩
  | .shi p b, d, ok, h => by
    simp only [evT, lfE] at h
    simp only [Tm.ok] at ok
    cases e : atI2 gs p.1 p.2 with
    | none => rw [e] at h; cases h
    | some d0 =>
      rw [e] at h
      cases d0 with
      | int i =>
        cases h
        have q := (at_gv hO e).1
        simp only [gvb, decide_eq_true_eq] at q
        refine ⟨?_, by simp only [nod, Tm.wt]; omega, by simp only [PyData.depth]; omega⟩
        simp only [gvb, decide_eq_true_eq]
        have k := ok.2
        have : (i + b).natAbs ≤ i.natAbs + b.natAbs := Int.natAbs_add_le i b
        omega
      | none => cases h
      | bool b => cases h
      | str x => cases h
      | list l => cases h
      | tuple l => cases h
      | dict l => cases h
  | .bui ts, d, ok, h => by
    simp only [evT] at h
    simp only [Tm.ok] at ok
    cases e : evTs gs ts with
    | error p => rw [e] at h; cases h
    | ok ds =>
      rw [e] at h
      cases h
      have q := evs_gv gs hO ts ds ok e
      refine ⟨by simp only [gvb]; exact q.1, ?_, ?_⟩
      · simp only [nod, Tm.wt]; omega
      · simp only [PyData.depth, Tm.dpt]; omega
theorem evs_gv (gs : Ins) (hO : InsZ gs) : ∀ (ts : List Tm) (ds : List PyData), Tm.oks ts → evTs gs ts = .ok ds → gvbs 32 ds = true ∧ nods ds ≤ 4000 * Tm.wts ts ∧ PyData.depthAll ds ≤ 11 + Tm.dpts ts
  | [], ds, _, h => by
    simp only [evTs] at h
    cases h
    exact ⟨by simp only [gvbs], by simp only [nods]; omega, by simp only [PyData.depthAll]; omega⟩
  | t :: ts, ds, ok, h => by
    simp only [Tm.oks] at ok
    simp only [evTs] at h
    cases e : evT gs t with
    | error p => rw [e] at h; cases h
    | ok d =>
      rw [e] at h
      simp only at h
      cases e2 : evTs gs ts with
      | error p => rw [e2] at h; cases h
      | ok es =>
        rw [e2] at h
        cases h
        have q1 := ev_gv gs hO t d ok.1 e
        have q2 := evs_gv gs hO ts es ok.2 e2
        simp only [gvbs, nods, PyData.depthAll, Tm.wts, Tm.dpts]
        exact ⟨by rw [q1.1, q2.1]; rfl, by omega, by omega⟩
end
theorem told_gd : gd (.str "told") = true ∧ gd (.str "none") = true := ⟨by decide +kernel, by decide +kernel⟩
theorem ev_err_ok (gs : Ins) : ∀ (t : Tm) (p : Pl), t.ok → evT gs t = .error p → PlOk p := fun t p ok h => by
  have q := (ev_rows gs t).1 p h
  have : ∀ us : List Tm, (∀ u ∈ us, u.ok) → rowsE gs us = .error p → PlOk p := fun us => by
    induction us with
    | nil => intro _ z; cases z
    | cons u us ih =>
      intro hu z
      have hb : ∀ q : Pl, lfE gs u = .error q → PlOk q := fun q e => by
        have ou := hu u List.mem_cons_self
        cases u with
        | lit d => cases e
        | bui ts => cases e
        | who p0 =>
          simp only [lfE] at e
          simp only [Tm.ok] at ou
          cases e1 : atI2 gs p0.1 p0.2 with
          | none => rw [e1] at e; cases e; exact ou
          | some d => rw [e1] at e; cases e
        | shi p0 b =>
          simp only [lfE] at e
          simp only [Tm.ok] at ou
          cases e1 : atI2 gs p0.1 p0.2 with
          | none => rw [e1] at e; cases e; exact ou.1
          | some d => rw [e1] at e; cases d <;> first | (cases e; exact ou.1) | cases e
      simp only [rowsE] at z
      cases e1 : rowE gs u with
      | error q =>
        rw [e1] at z
        have : lfE gs u = .error q := by
          cases u with
          | bui ts => simp only [rowE] at e1; cases e1
          | lit d => simp only [rowE, lfE] at e1; cases e1
          | who p0 =>
            simp only [rowE] at e1
            cases e2 : lfE gs (.who p0) with
            | error q2 => rw [e2] at e1; cases e1; rfl
            | ok d => rw [e2] at e1; cases e1
          | shi p0 b =>
            simp only [rowE] at e1
            cases e2 : lfE gs (.shi p0 b) with
            | error q2 => rw [e2] at e1; cases e1; rfl
            | ok d => rw [e2] at e1; cases e1
        cases z
        exact hb _ this
      | ok r =>
        rw [e1] at z
        simp only at z
        cases e2 : rowsE gs us with
        | error q => rw [e2] at z; cases z; exact ih (fun v m => hu v (List.mem_cons_of_mem _ m)) e2
        | ok R => rw [e2] at z; cases z
  exact this t.fl (Tm.fl_ok t ok) q
theorem wE_prn {gs : Ins} (hO : InsZ gs) {t : Tm} (ok : t.ok) (hw : t.wt ≤ 80) (hd : t.dpt ≤ 6) : Prn (wE (evT gs t)) := by
  cases e : evT gs t with
  | error p =>
    have q := plE_gd (ev_err_ok gs t p ok e)
    refine prn_of ?_ ?_ ?_
    · simp only [wE, gd_tup, gds_cons, told_gd.2, q.1, gds, Bool.and_self]
    · simp only [wE, nod, nods]; omega
    · simp only [wE, PyData.depth, PyData.depthAll]; omega
  | ok d =>
    have q := ev_gv gs hO t d ok e
    have g := (gvb_gd (by decide) d q.1).1
    have z := gvb_sz (by decide) d q.1
    have sh := gd_sh d g
    refine ⟨?_, ?_, ?_, ?_⟩
    · simp only [wE, PyData.showable, PyData.showableAll, sh.1, Bool.and_self]
    · simp only [wE, PyData.hasDict, PyData.hasDictAll, sh.2, Bool.or_self]
    · simp only [wE, PyData.depth, PyData.depthAll]; omega
    · have e16 : sizeLine = 16777216 := by decide
      simp only [wE, PyData.shown, PyData.shownAll]
      have l1 := tupleText_len_le [reprText ("told" : Str), d.shown]
      have l2 : (reprText ("told" : Str)).length ≤ 42 := StrLaws.reprText_len _ (by decide +kernel)
      simp only [List.map_cons, List.map_nil, List.sum_cons, List.sum_nil, List.length_cons, List.length_nil] at l1
      have : nod d ≤ 4000 * 80 := Nat.le_trans q.2.1 (Nat.mul_le_mul_left _ hw)
      omega
/-! terms stay where only lists and dicts are changed -/
section
variable {K : PySem.W.Frag} {C : TI → Addr} {H H' : Hp}
theorem seqT_upN (s : ∀ b o, H b = some o → (∀ zs, o ≠ .lst zs) → (∀ kvs, o ≠ .dK kvs) → H' b = some o) {a : Addr} {xs : List V} (h : SqT K H a xs) : SqT K H' a xs := by
  rcases h with (h | ⟨o, h⟩) | h
  · exact .inl (.inl (s _ _ h (fun _ z => nomatch z) fun _ z => nomatch z))
  · exact .inl (.inr ⟨o, s _ _ h (fun _ z => nomatch z) fun _ z => nomatch z⟩)
  · exact .inr h
mutual
theorem TmA.upN (s : ∀ b o, H b = some o → (∀ zs, o ≠ .lst zs) → (∀ kvs, o ≠ .dK kvs) → H' b = some o) : ∀ (t : Tm) (v : V), t.ok → TmA K C H v t → TmA K C H' v t
  | .lit d, _, ok, h => by
    cases h with
    | lit h1 h2 h3 =>
      refine .lit (s _ _ h1 (fun _ z => nomatch z) fun _ z => nomatch z) ?_ (s _ _ h3 (fun _ z => nomatch z) fun _ z => nomatch z)
      simp only [Tm.ok] at ok
      rcases ok with ⟨i, rfl, _⟩ | ⟨x, rfl, _⟩
      · cases h2; exact .int _
      · cases h2; exact .str _
  | .who p, _, _, h => by
    cases h with
    | who h1 h2 h3 => exact .who (s _ _ h1 (fun _ z => nomatch z) fun _ z => nomatch z) (s _ _ h2 (fun _ z => nomatch z) fun _ z => nomatch z) (s _ _ h3 (fun _ z => nomatch z) fun _ z => nomatch z)
  | .shi p b, _, _, h => by
    cases h with
    | shi h1 h2 h3 => exact .shi (s _ _ h1 (fun _ z => nomatch z) fun _ z => nomatch z) (s _ _ h2 (fun _ z => nomatch z) fun _ z => nomatch z) (s _ _ h3 (fun _ z => nomatch z) fun _ z => nomatch z)
  | .bui ts, _, ok, h => by
    cases h with
    | bui h1 h2 h3 h4 h5 h6 h7 h8 =>
      exact .bui (s _ _ h1 (fun _ z => nomatch z) fun _ z => nomatch z) (seqT_upN s h2) (TmsA.upN s ts _ (by simpa only [Tm.ok] using ok) h3) (s _ _ h4 (fun _ z => nomatch z) fun _ z => nomatch z) (h5.upT fun b xs z => s _ _ z (fun _ z => nomatch z) fun _ z => nomatch z) h6 h7 h8
theorem TmsA.upN (s : ∀ b o, H b = some o → (∀ zs, o ≠ .lst zs) → (∀ kvs, o ≠ .dK kvs) → H' b = some o) : ∀ (ts : List Tm) (vs : List V), Tm.oks ts → TmsA K C H vs ts → TmsA K C H' vs ts
  | [], _, _, h => by cases h; exact .nil
  | t :: ts, _, ok, h => by
    simp only [Tm.oks] at ok
    cases h with
    | cons h1 h2 => exact .cons (TmA.upN s t _ ok.1 h1) (TmsA.upN s ts _ ok.2 h2)
end
theorem TmA.cutBox {p g : Addr} (b : Box H p g) {t : Tm} {v : V} (ok : t.ok) (h : TmA K C H v t) : TmA K C (cut [p, g] H) v t := by
  obtain ⟨n, s, tt, gs, h1, h2, _⟩ := b.ex
  refine TmA.upN (fun b o z n1 n2 => ?_) t v ok h
  rw [cut_out (fun m => ?_)]
  · exact z
  · simp only [List.mem_cons, List.not_mem_nil, or_false] at m
    rcases m with m | m
    · rw [m, h1] at z; exact n2 _ (Option.some.inj z).symm
    · rw [m, h2] at z; exact n1 _ (Option.some.inj z).symm
end
/-! what is put, and found: mathematics -/
theorem set_form {α : Type} {ds : List α} {k : Nat} {e x : α} (h : ds[k]? = some e) : ds.take k ++ x :: ds.drop (k + 1) = ds.set k x := by
  obtain ⟨hk, _⟩ := List.getElem?_eq_some_iff.mp h
  rw [List.set_eq_take_append_cons_drop, if_pos hk]
theorem putM_set {ds : List PyData} {k : Nat} {ks : List Nat} {e : PyData} (x : PyData) (h : ds[k]? = some e) : putM (.tuple ds) (k :: ks) x = .tuple (ds.set k (putM e ks x)) := by
  rw [putM_tup x h, set_form h]
theorem atM_cons {d : PyData} {k : Nat} {ks : List Nat} {v : PyData} (h : atM d (k :: ks) = some v) : ∃ ds e, d = .tuple ds ∧ ds[k]? = some e ∧ atM e ks = some v := by
  cases d with
  | tuple ds =>
    unfold atM at h
    cases h3 : ds[k]? with
    | none => rw [h3] at h; cases h
    | some e => rw [h3] at h; exact ⟨ds, e, rfl, h3, h⟩
  | none => cases h
  | bool b => cases h
  | int i => cases h
  | str x => cases h
  | list l => cases h
  | dict l => cases h
theorem set_get {α : Type} {ds : List α} {k : Nat} {e x : α} (h : ds[k]? = some e) : (ds.set k x)[k]? = some x := by
  obtain ⟨hk, _⟩ := List.getElem?_eq_some_iff.mp h
  rw [List.getElem?_set_self hk]
theorem get_put : ∀ {ks : List Nat} {d e : PyData} (x : PyData), atM d ks = some e → atM (putM d ks x) ks = some x
  | [], d, e, x, _ => by rw [putM_nil]; exact atM_nil x
  | k :: ks, d, e, x, h => by
    obtain ⟨ds, e1, rfl, h1, h2⟩ := atM_cons h
    rw [putM_set x h1, atM_tup (set_get h1)]
    exact get_put x h2
theorem put_put : ∀ {ks : List Nat} {d e : PyData} (x y : PyData), atM d ks = some e → putM (putM d ks x) ks y = putM d ks y
  | [], d, e, x, y, _ => by rw [putM_nil, putM_nil]
  | k :: ks, d, e, x, y, h => by
    obtain ⟨ds, e1, rfl, h1, h2⟩ := atM_cons h
    rw [putM_set x h1, putM_set y (set_get h1), putM_set y h1, put_put x y h2, List.set_set]
theorem put_get : ∀ {ks : List Nat} {d e : PyData}, atM d ks = some e → putM d ks e = d
  | [], d, e, h => by
    have : d = e := by cases d <;> exact Option.some.inj h
    rw [putM_nil, this]
  | k :: ks, d, e, h => by
    obtain ⟨ds, e1, rfl, h1, h2⟩ := atM_cons h
    rw [putM_set e h1, put_get h2]
    obtain ⟨hk, he⟩ := List.getElem?_eq_some_iff.mp h1
    rw [← he, List.set_getElem_self]
/-- neither is within the other -/
def ap : List Nat → List Nat → Bool
  | k :: ks, l :: ls => if k = l then ap ks ls else true
  | _, _ => false
theorem ap_comm : ∀ ks ls : List Nat, ap ks ls = ap ls ks
  | [], [] => rfl
  | [], _ :: _ => rfl
  | _ :: _, [] => rfl
  | k :: ks, l :: ls => by
    unfold ap
    by_cases e : k = l
    · rw [if_pos e, if_pos e.symm, ap_comm ks ls]
    · rw [if_neg e, if_neg (fun z => e z.symm)]
theorem at_apart : ∀ {ks ls : List Nat} {d e : PyData} (x : PyData), atM d ks = some e → ap ks ls = true → atM (putM d ks x) ls = atM d ls
  | [], _, _, _, _, _, h => by simp [ap] at h
  | _ :: _, [], _, _, _, _, h => by simp [ap] at h
  | k :: ks, l :: ls, d, e, x, h, a => by
    obtain ⟨ds, e1, rfl, h1, h2⟩ := atM_cons h
    rw [putM_set x h1]
    unfold ap at a
    by_cases z : k = l
    · subst z
      rw [if_pos rfl] at a
      rw [atM_tup (set_get h1), atM_tup h1]
      exact at_apart x h2 a
    · have g : (ds.set k (putM e1 ks x))[l]? = ds[l]? := List.getElem?_set_ne z
      cases h3 : ds[l]? with
      | none => rw [atM_out h3, atM_out (g.trans h3)]
      | some e3 => rw [atM_tup h3, atM_tup (g.trans h3)]
theorem put_comm : ∀ {ks ls : List Nat} {d e f : PyData} (x y : PyData), atM d ks = some e → atM d ls = some f → ap ks ls = true → putM (putM d ks x) ls y = putM (putM d ls y) ks x
  | [], _, _, _, _, _, _, _, _, h => by simp [ap] at h
  | _ :: _, [], _, _, _, _, _, _, _, h => by simp [ap] at h
  | k :: ks, l :: ls, d, e, f, x, y, h, h', a => by
    obtain ⟨ds, e1, rfl, h1, h2⟩ := atM_cons h
    obtain ⟨ds', f1, eq, g1, g2⟩ := atM_cons h'
    cases eq
    rw [putM_set x h1, putM_set y g1]
    unfold ap at a
    by_cases z : k = l
    · subst z
      rw [if_pos rfl] at a
      rw [h1] at g1
      cases g1
      rw [putM_set y (set_get h1), putM_set x (set_get h1), put_comm x y h2 g2 a, List.set_set, List.set_set]
    · have ga : (ds.set k (putM e1 ks x))[l]? = some f1 := by rw [List.getElem?_set_ne z]; exact g1
      have gb : (ds.set l (putM f1 ls y))[k]? = some e1 := by rw [List.getElem?_set_ne (Ne.symm z)]; exact h1
      rw [putM_set y ga, putM_set x gb, List.set_comm _ _ z]
theorem gvbs_set {b : Nat} : ∀ {ds : List PyData} {k : Nat} {x : PyData}, gvbs b ds = true → gvb b x = true → gvbs b (ds.set k x) = true
  | [], _, _, h, _ => h
  | d :: ds, 0, x, h, hx => by
    simp only [gvbs, Bool.and_eq_true] at h
    simp only [List.set_cons_zero, gvbs, hx, h.2, Bool.and_self]
  | d :: ds, k + 1, x, h, hx => by
    simp only [gvbs, Bool.and_eq_true] at h
    simp only [List.set_cons_succ, gvbs, h.1, gvbs_set h.2 hx, Bool.and_self]
theorem nods_set : ∀ {ds : List PyData} {k : Nat} {e x : PyData}, ds[k]? = some e → nods (ds.set k x) + nod e = nods ds + nod x
  | d :: ds, 0, e, x, h => by
    cases h
    simp only [List.set_cons_zero, nods]; omega
  | d :: ds, k + 1, e, x, h => by
    have := nods_set (ds := ds) (k := k) (x := x) (by simpa using h)
    simp only [List.set_cons_succ, nods]; omega
theorem depth_set : ∀ {ds : List PyData} {k : Nat} {x : PyData}, PyData.depthAll (ds.set k x) ≤ max (PyData.depthAll ds) x.depth
  | [], _, x => by simp [PyData.depthAll]
  | d :: ds, 0, x => by
    simp only [List.set_cons_zero, PyData.depthAll]; omega
  | d :: ds, k + 1, x => by
    have := depth_set (ds := ds) (k := k) (x := x)
    simp only [List.set_cons_succ, PyData.depthAll]; omega
theorem putM_good : ∀ {ks : List Nat} {d e x : PyData} {b : Nat}, atM d ks = some e → gvb b d = true → gvb b x = true → gvb b (putM d ks x) = true ∧ nod (putM d ks x) ≤ nod d + nod x ∧ (putM d ks x).depth ≤ max d.depth (ks.length + x.depth)
  | [], d, e, x, b, _, _, hx => by
    rw [putM_nil]
    exact ⟨hx, by omega, by simp only [List.length_nil]; omega⟩
  | k :: ks, d, e, x, b, h, hd, hx => by
    obtain ⟨ds, e1, rfl, h1, h2⟩ := atM_cons h
    have gd' : gvbs b ds = true := by simpa only [gvb] using hd
    have q := putM_good h2 (gvbs_mem gd' (List.mem_of_getElem? h1)) hx
    have n := nods_set (x := putM e1 ks x) h1
    have dd := depth_set (ds := ds) (k := k) (x := putM e1 ks x)
    have de := depth_mem (List.mem_of_getElem? h1)
    rw [putM_set x h1]
    refine ⟨by simp only [gvb]; exact gvbs_set gd' q.1, by simp only [nod]; omega, by simp only [PyData.depth, List.length_cons]; omega⟩
/-! inputs -/
theorem getI_any {gs : Ins} {n : Str} {y : Option PyData} (h : getI gs n = some y) : (gs.any fun g => decide (g.1 = n)) = true := by
  unfold getI at h
  obtain ⟨g, hg, _⟩ := Option.map_eq_some_iff.mp h
  exact List.any_eq_true.mpr ⟨g, List.mem_of_find?_eq_some hg, by have := List.find?_some hg; exact this⟩
theorem getI_map (gs : Ins) (n m : Str) (x : Option PyData) : getI (gs.map fun g => if g.1 = n then (g.1, x) else g) m = if m = n then (getI gs m).map fun _ => x else getI gs m := by
  induction gs with
  | nil => by_cases e : m = n <;> simp [getI]
  | cons g gs ih =>
    unfold getI at ih ⊢
    simp only [List.map_cons, List.find?_cons]
    have hk : (if g.1 = n then (g.1, x) else g).1 = g.1 := by split <;> rfl
    rw [hk]
    by_cases c : g.1 = m
    · rw [decide_eq_true c]
      by_cases e : m = n
      · rw [if_pos e, if_pos (c.trans e)]; rfl
      · rw [if_neg e, if_neg (fun z => e (c.symm.trans z))]
    · rw [decide_eq_false c]
      exact ih
theorem putI_map {gs : Ins} {n : Str} {y : Option PyData} (h : getI gs n = some y) (x : Option PyData) : putI gs n x = gs.map fun g => if g.1 = n then (g.1, x) else g := by
  unfold putI
  rw [if_pos (getI_any h)]
theorem getI_put {gs : Ins} {n : Str} {y : Option PyData} (h : getI gs n = some y) (m : Str) (x : Option PyData) : getI (putI gs n x) m = if m = n then some x else getI gs m := by
  rw [putI_map h, getI_map]
  by_cases e : m = n
  · rw [if_pos e, if_pos e, e, h]; rfl
  · rw [if_neg e, if_neg e]
/-- the inputs with that put at the place -/
def putG (gs : Ins) (p : Pl) (x : PyData) : Ins := putI gs p.1 (some (newM gs p.1 p.2 x))
def getG (gs : Ins) (p : Pl) : Option PyData := atI2 gs p.1 p.2
def apart (p q : Pl) : Bool := if p.1 = q.1 then ap p.2 q.2 else true
theorem getG_some {gs : Ins} {p : Pl} {e : PyData} (h : getG gs p = some e) : ∃ d, getI gs p.1 = some (some d) ∧ atM d p.2 = some e := by
  unfold getG atI2 at h
  cases e1 : getI gs p.1 with
  | none => rw [e1] at h; cases h
  | some y =>
    rw [e1] at h
    cases y with
    | none => cases h
    | some d => exact ⟨d, rfl, h⟩
theorem newM_of {gs : Ins} {p : Pl} {d x : PyData} (h : getI gs p.1 = some (some d)) : newM gs p.1 p.2 x = putM d p.2 x := by
  unfold newM
  rw [h]
theorem getG_of {gs : Ins} {p : Pl} {d : PyData} (h : getI gs p.1 = some (some d)) : getG gs p = atM d p.2 := by
  unfold getG atI2
  rw [h]
theorem getI_putG {gs : Ins} {p : Pl} {d x : PyData} (h : getI gs p.1 = some (some d)) (m : Str) : getI (putG gs p x) m = if m = p.1 then some (some (putM d p.2 x)) else getI gs m := by
  unfold putG
  rw [getI_put h, newM_of h]
theorem get_putG {gs : Ins} {p : Pl} {e : PyData} (x : PyData) (h : getG gs p = some e) : getG (putG gs p x) p = some x := by
  obtain ⟨d, h1, h2⟩ := getG_some h
  rw [getG_of (show getI (putG gs p x) p.1 = some (some (putM d p.2 x)) by rw [getI_putG h1, if_pos rfl])]
  exact get_put x h2
theorem getG_apart {gs : Ins} {p q : Pl} {e : PyData} (x : PyData) (h : getG gs p = some e) (a : apart p q = true) : getG (putG gs p x) q = getG gs q := by
  obtain ⟨d, h1, h2⟩ := getG_some h
  have z := getI_putG (x := x) h1 q.1
  unfold apart at a
  by_cases c : p.1 = q.1
  · rw [if_pos c] at a
    rw [if_pos c.symm] at z
    rw [getG_of z, getG_of (by rw [← c]; exact h1)]
    exact at_apart x h2 a
  · rw [if_neg (fun y => c y.symm)] at z
    unfold getG atI2
    rw [z]
theorem map_id_nd : ∀ {gs : Ins} {n : Str} {x : Option PyData}, (gs.map (·.1)).Nodup → getI gs n = some x → (gs.map fun g => if g.1 = n then (g.1, x) else g) = gs
  | [], _, _, _, h => by cases h
  | g :: gs, n, x, nd, h => by
    rw [List.map_cons, List.nodup_cons] at nd
    unfold getI at h
    rw [List.find?_cons] at h
    by_cases c : g.1 = n
    · rw [decide_eq_true c] at h
      have hx : g.2 = x := Option.some.inj h
      rw [List.map_cons, if_pos c, ← hx]
      congr 1
      have : ∀ ys : Ins, n ∉ ys.map (·.1) → (ys.map fun g' => if g'.1 = n then (g'.1, g.2) else g') = ys := fun ys => by
        induction ys with
        | nil => intro _; rfl
        | cons y ys ih =>
          intro hy
          rw [List.map_cons, List.mem_cons, not_or] at hy
          rw [List.map_cons, if_neg (fun z => hy.1 z.symm), ih hy.2]
      exact this gs (by rw [← c]; exact nd.1)
    · rw [decide_eq_false c] at h
      rw [List.map_cons, if_neg c, map_id_nd nd.2 h]
theorem map_map_if (gs : Ins) (n : Str) (x y : Option PyData) : ((gs.map fun g => if g.1 = n then (g.1, x) else g).map fun g => if g.1 = n then (g.1, y) else g) = gs.map fun g => if g.1 = n then (g.1, y) else g := by
  rw [List.map_map]
  refine List.map_congr_left fun g _ => ?_
  show (if (if g.1 = n then (g.1, x) else g).1 = n then ((if g.1 = n then (g.1, x) else g).1, y) else (if g.1 = n then (g.1, x) else g)) = _
  by_cases c : g.1 = n
  · rw [if_pos c]; simp [c]
  · rw [if_neg c]
/-- put back -/
theorem putG_back {gs : Ins} {p : Pl} {e : PyData} (x : PyData) (nd : (gs.map (·.1)).Nodup) (h : getG gs p = some e) : putG (putG gs p x) p e = gs := by
  obtain ⟨d, h1, h2⟩ := getG_some h
  have z : getI (putG gs p x) p.1 = some (some (putM d p.2 x)) := by rw [getI_putG h1, if_pos rfl]
  have e1 : putG (putG gs p x) p e = putI (putG gs p x) p.1 (some (putM (putM d p.2 x) p.2 e)) := by rw [← newM_of z]; rfl
  rw [e1, put_put x e h2, put_get h2, putI_map z]
  have e2 : putG gs p x = gs.map fun g => if g.1 = p.1 then (g.1, some (putM d p.2 x)) else g := by
    show putI gs p.1 (some (newM gs p.1 p.2 x)) = _
    rw [newM_of h1, putI_map h1]
  rw [e2, map_map_if]
  exact map_id_nd nd h1
/-- in either order -/
theorem putG_comm {gs : Ins} {p q : Pl} {e f : PyData} (x y : PyData) (h : getG gs p = some e) (k : getG gs q = some f) (a : apart p q = true) : putG (putG gs p x) q y = putG (putG gs q y) p x := by
  obtain ⟨d, h1, h2⟩ := getG_some h
  obtain ⟨d', k1, k2⟩ := getG_some k
  have e2 : ∀ z, putG gs p z = gs.map fun g => if g.1 = p.1 then (g.1, some (putM d p.2 z)) else g := fun z => by
    show putI gs p.1 (some (newM gs p.1 p.2 z)) = _
    rw [newM_of h1, putI_map h1]
  have f2 : ∀ z, putG gs q z = gs.map fun g => if g.1 = q.1 then (g.1, some (putM d' q.2 z)) else g := fun z => by
    show putI gs q.1 (some (newM gs q.1 q.2 z)) = _
    rw [newM_of k1, putI_map k1]
  unfold apart at a
  by_cases c : p.1 = q.1
  · rw [if_pos c] at a
    rw [c] at h1
    rw [h1] at k1
    cases k1
    rw [← c] at h1
    have zp : getI (putG gs p x) q.1 = some (some (putM d p.2 x)) := by rw [getI_putG h1, if_pos c.symm]
    have zq : getI (putG gs q y) p.1 = some (some (putM d q.2 y)) := by rw [getI_putG (by rw [← c]; exact h1), if_pos c]
    have l1 : putG (putG gs p x) q y = putI (putG gs p x) q.1 (some (putM (putM d p.2 x) q.2 y)) := by rw [← newM_of zp]; rfl
    have l2 : putG (putG gs q y) p x = putI (putG gs q y) p.1 (some (putM (putM d q.2 y) p.2 x)) := by rw [← newM_of zq]; rfl
    rw [l1, l2, putI_map zp, putI_map zq, e2, f2, c, map_map_if, map_map_if, put_comm x y h2 k2 a]
  · have zp : getI (putG gs p x) q.1 = some (some d') := by rw [getI_putG h1, if_neg (fun z => c z.symm)]; exact k1
    have zq : getI (putG gs q y) p.1 = some (some d) := by rw [getI_putG k1, if_neg c]; exact h1
    have l1 : putG (putG gs p x) q y = putI (putG gs p x) q.1 (some (putM d' q.2 y)) := by rw [← newM_of zp]; rfl
    have l2 : putG (putG gs q y) p x = putI (putG gs q y) p.1 (some (putM d p.2 x)) := by rw [← newM_of zq]; rfl
    rw [l1, l2, putI_map zp, putI_map zq, e2, f2, List.map_map, List.map_map]
    refine List.map_congr_left fun g _ => ?_
    simp only [Function.comp]
    by_cases c1 : g.1 = p.1
    · have c2 : ¬ g.1 = q.1 := fun z => c (c1.symm.trans z)
      simp [c1, c]
    · by_cases c2 : g.1 = q.1
      · simp [c2, fun z => c (Eq.symm z), Ne.symm (fun z => c z)]
      · simp [c1, c2]
mutual
theorem ev_apart {gs gs' : Ins} : ∀ (t : Tm), (∀ p ∈ t.pls, getG gs' p = getG gs p) → evT gs' t = evT gs t
  | .lit d, _ => rfl
  | .who p, h => by
    have z := h p (by simp [Tm.pls])
    unfold getG at z
    simp only [evT, lfE, z]
  | .shi p b, h => by
    have z := h p (by simp [Tm.pls])
    unfold getG at z
    simp only [evT, lfE, z]
  | .bui ts, h => by
    simp only [evT]
    rw [evs_apart ts (by simpa only [Tm.pls] using h)]
theorem evs_apart {gs gs' : Ins} : ∀ (ts : List Tm), (∀ p ∈ Tm.plss ts, getG gs' p = getG gs p) → evTs gs' ts = evTs gs ts
  | [], _ => rfl
  | t :: ts, h => by
    simp only [Tm.plss] at h
    simp only [evTs]
    rw [ev_apart t fun p m => h p (List.mem_append.mpr (.inl m)), evs_apart ts fun p m => h p (List.mem_append.mpr (.inr m))]
end
theorem InsK.put {k : Nat} {gs : Ins} (hK : InsK k gs) {p : Pl} {e x : PyData} (h : getG gs p = some e) (hx : gv x = true) (nx : nod x ≤ 601) (dx : x.depth ≤ 3) (lp : p.2.length ≤ 8) : InsK (k + 1) (putG gs p x) := by
  obtain ⟨d, h1, h2⟩ := getG_some h
  have e2 : putG gs p x = gs.map fun g => if g.1 = p.1 then (g.1, some (putM d p.2 x)) else g := by
    show putI gs p.1 (some (newM gs p.1 p.2 x)) = _
    rw [newM_of h1, putI_map h1]
  obtain ⟨g0, m0, eg⟩ := getI_mem h1
  have q0 := hK.va g0 m0 d eg
  have pg := putM_good h2 q0.1 hx
  rw [e2]
  refine ⟨by rw [List.length_map]; exact hK.one, by rw [List.length_map]; exact hK.few, fun g m => ?_, fun g m d' e' => ?_⟩
  · obtain ⟨g1, m1, rfl⟩ := List.mem_map.mp m
    by_cases c : g1.1 = p.1
    · rw [if_pos c]; exact hK.nm g1 m1
    · rw [if_neg c]; exact hK.nm g1 m1
  · obtain ⟨g1, m1, rfl⟩ := List.mem_map.mp m
    by_cases c : g1.1 = p.1
    · rw [if_pos c] at e'
      cases e'
      have q3 := q0.2.2
      have : 601 * (k + 1 + 1) = 601 * (k + 1) + 601 := by omega
      exact ⟨pg.1, by omega, by omega⟩
    · rw [if_neg c] at e'
      have q := hK.va g1 m1 d' e'
      have : 601 * (k + 1 + 1) = 601 * (k + 1) + 601 := by omega
      exact ⟨q.1, by omega, q.2.2⟩
/-! a place of the inputs is drawn -/
abbrev sSpot : Stmt := topS 35
theorem scSpot : FnScope ["_law_box_here", "_law_given", "_law_found", "_law_spot_here", "_law_here", "_law_turn", "_law_k", "_law_name"] ["_law_box_here", "_law_given"] (defScope sSpot) := ⟨rfl, rfl, rfl, by decide +kernel, rfl, by decide +kernel, by decide +kernel⟩
theorem eqv_nil (ds : List PyData) : PyData.eqv (.list ds) (.list []) = ds.isEmpty := by cases ds <;> simp [PyData.eqv, PyData.eqvAll]
theorem eqv_nilT (ds : List PyData) : PyData.eqv (.tuple ds) (.tuple []) = ds.isEmpty := by cases ds <;> simp [PyData.eqv, PyData.eqvAll]
theorem getI_nd : ∀ {gs : Ins} {i : Nat} {g : Str × Option PyData}, (gs.map (·.1)).Nodup → gs[i]? = some g → getI gs g.1 = some g.2
  | [], _, _, _, h => by cases h
  | y :: gs, 0, g, nd, h => by
    cases h
    unfold getI
    rw [List.find?_cons, decide_eq_true rfl]
    rfl
  | y :: gs, i + 1, g, nd, h => by
    rw [List.map_cons, List.nodup_cons] at nd
    have ih := getI_nd (gs := gs) (i := i) nd.2 (by simpa using h)
    have ne : ¬ y.1 = g.1 := fun z => nd.1 (by rw [z]; exact List.mem_map.mpr ⟨g, List.mem_of_getElem? (by simpa using h), rfl⟩)
    unfold getI at ih ⊢
    rw [List.find?_cons, decide_eq_false ne]
    exact ih
theorem atM_snoc : ∀ {ks : List Nat} {d e : PyData} {ds : List PyData} {k : Nat}, atM d ks = some (.tuple ds) → ds[k]? = some e → atM d (ks ++ [k]) = some e
  | [], d, e, ds, k, h, h2 => by
    have : d = .tuple ds := by cases d <;> exact Option.some.inj h
    subst this
    show atM (.tuple ds) [k] = _
    rw [atM_tup h2, atM_nil]
  | j :: ks, d, e, ds, k, h, h2 => by
    obtain ⟨ds', e1, rfl, g1, g2⟩ := atM_cons h
    show atM (.tuple ds') (j :: (ks ++ [k])) = _
    rw [atM_tup g1]
    exact atM_snoc g2 h2
/-- what is drawn: no place at all, or one that is there -/
def SpotR (G : Hp) (gs : Ins) (v : V) : Prop := (v = .non ∧ ∀ g ∈ gs, g.2 = none) ∨ ∃ t r e, v = .ref t ∧ G t = some (.tup (plW r)) ∧ PlOk r ∧ r.2.length ≤ 8 ∧ getG gs r = some e
def spSpot (K : PySem.W.Frag) (C : Addr) : Sp := fun vs H Q _ => ∃ p g a l kvs gs, vs = [.ref p, .ref a] ∧ Box H p g ∧ Tr l H ∧ p ∈ l ∧ g ∈ l ∧ InAt K C (cut l H) a kvs gs ∧ InsZ gs ∧
  ∀ v H', Box H' p g → Off [p, g] H H' → SpotR (cut l H') gs v → Q v H'
theorem call_isFaK {X : Cx} {K : PySem.W.Frag} {mg : Str → Option Value} {C fE : Addr} (T : FaC K mg C fE) (h : X.K = K) (hm : X.mg = mg) : CallR X (.builtin "isinstance") (rIsFa K C) := by
  subst h
  subst hm
  exact call_isFa T
section
variable {P : Program} {w : World} {K : PySem.W.Frag} {mg : Str → Option Value} {base : Heap} {f fT fP C fE : Addr} {fd dT dP : FuncData}
theorem ok_spot {k : Nat} (F : Fun K "_law_spot" "_law_spot" sSpot f fd) (B : Bi mg) (TF : FaC K mg C fE) (T : Tk P w K mg base fT dT) (GP : Dn P w K mg base 2 "_law_pick" ["_law_box_here", "_law_items"] spPick fP dP) : FnOk P w K mg base CX0 (k + 3) f fd ["_law_box_here", "_law_given"] (spSpot K C) := by
  refine F.ok scSpot (fun vs H Q E h => ?_) (fun cdv A outer s H vs Q E hr h => ?_)
  · obtain ⟨p, g, a, l, kvs, gs, rfl, _⟩ := h
    rfl
  obtain ⟨p, g, a, l, kvs, gs, rfl, hb, tl, pl, gl, hI, hO, q⟩ := h
  have hr1 : Room 1 _ := hr.mono (by omega)
  have hr2 : Room 2 _ := hr.mono (by omega)
  have hu := hu_of hr
  refine ⟨_, pss_cons (ps_lock (ps_setLc (i := 2) (own := [("_law_name", 7)]) (g := gName 7) (by rfl) scSpot.nd rfl rfl (sw_true rfl rfl rfl (by decide +kernel)) (pi_keys (pv 1))
        (blkOk_by (own := [("_law_name", 7)]) (N := ["_law_box_here", "_law_given", "_law_found", "_law_spot_here", "_law_here", "_law_turn", "_law_k", "_law_name"]) (sc := defScope sSpot) (by decide +kernel))
        (fun _ _ _ _ _ => pg_name (i := 7) scSpot.nd rfl (Or.inl rfl)) (fun _ _ _ _ _ => pts_one (pt_not (pt_val (pe_callB (call_isFaK TF rfl rfl) (by rfl) B.ii b_ii (pa_cons (pe_dget hu (pv 1) (pv 7) (fun _ _ => rfl)) (pa_cons (pe_glob (by rfl) TF.mg (v := .ref C) rfl) pa_nil))))))
        (fun _ _ _ _ _ => pe_tup (pa_cons (pv 7) pa_nil))))
    (pss_cons (ps_if (pt_cmpR (op_eqD hr.units) (pv 2) (pe_lst pa_nil) (nomark _)) (pss_one (ps_ret pe_non)) pss_nil)
    (pss_cons (ps_set (i := 3) scSpot.nd rfl (.inl rfl) (pe_call GP.ok hr2 (by rfl) GP.mg GP.kp GP.bd .nil pass0 (pa_cons (pv 0) (pa_cons (pv 2) pa_nil))))
    (pss_cons (ps_set (i := 4) scSpot.nd rfl (.inl rfl) (pe_dget hu (pv 1) (pe_ix ix_tup (pv 3) pe_int (fun _ _ => rfl)) (fun _ _ => rfl)))
    (pss_cons (ps_for PassesOwn.never rfl (pi_range1 (by rfl) B.rng (pa_cons (pe_call T.ok hr1 (by rfl) T.mg T.kp T.bd .nil pass0 (pa_cons (pv 0) (pa_cons pe_int pa_nil))) pa_nil)) (pg_name (i := 5) scSpot.nd rfl (.inl rfl))
      (pss_cons (ps_if (PW.pt (pw_or (pt_not (pt_val (pe_callB (call_isTu TF) (by rfl) B.ii b_ii (pa_cons (pv 4) (pa_cons (pe_bltn (by rfl) B.tup (by decide +kernel) (v := .ty "tuple") rfl) pa_nil)))))
          (pw_or1 (pt_cmpR (op_eqD hr.units) (pv 4) (pe_tup pa_nil) (nomark _))))) (pss_one (ps_ret (pv 3))) pss_nil)
      (pss_cons (ps_set (i := 6) scSpot.nd rfl (.inl rfl) (pe_call T.ok hr1 (by rfl) T.mg T.kp T.bd .nil pass0 (pa_cons (pv 0) (pa_cons (pe_callB call_len_seq (by rfl) B.len PySem.boot_len (pa_cons (pv 4) pa_nil)) pa_nil))))
      (pss_one (ps_par (i := 3) (j := 4) (by rfl) scSpot.nd rfl rfl (by decide) rfl rfl (pa_cons (pe_op op_catR (pv 3) (pe_tup (pa_cons (pv 6) pa_nil))) (pa_cons (pe_ix ix_tup (pv 4) (pv 6) (fun _ _ => rfl)) pa_nil)) (by rfl))))))
    (pss_one (ps_ret (pv 3))))))), ?_⟩
  have sub : ∀ b ∈ [p, g], b ∈ l := fun b hb => by
    simp only [List.mem_cons, List.not_mem_nil, or_false] at hb
    rcases hb with h | h
    · rw [h]; exact pl
    · rw [h]; exact gl
  have ha : H a = some (.dK kvs) := (cut_some hI.at_).2
  have nal : a ∉ l := (cut_some hI.at_).1
  have nd := hI.vs.ndk hI.nd
  have lk := Paired.length hI.vs
  have lf := hO.few
  refine ⟨a, .dK kvs, ha, trivial, fun od => ⟨_, rfl, a, od, rfl, .inl ⟨kvs, upd_same, fun D hD => lc_it (walk_keys (d := a) (o := od)) (fun i H2 => ∃ (bs : List Addr) (ns : List Str), H2 D = some (.lst (bs.map V.ref)) ∧ bs.length ≤ i ∧ Same (upd H a (.frz od (.dK kvs))) H2 ∧ Paired (fun (b : Addr) (n : Str) => (cut (D :: a :: l) H2) b = some (.tup [.str n])) bs ns ∧
      (∀ n ∈ ns, Sm 8 n ∧ ∃ d, getI gs n = some (some d)) ∧ (ns = [] → ∀ g ∈ gs.take i, g.2 = none)) ⟨[], [], upd_same, Nat.le_refl _, same_new hD _, .nil, (fun _ z => nomatch z), fun _ _ z => nomatch z⟩ ?_ ?_ ?_⟩⟩⟩
  · rintro i H2 hi ⟨bs, ns, g1, g2, g3, g4, g5, g6⟩
    exact g3 _ _ upd_same
  · rintro i y H2 H3 hi ⟨bs, ns, g1, g2, g3, g4, g5, g6⟩ ⟨rfl, kk, vv, hkv, rfl⟩
    obtain ⟨gg, hgg, ek, hvv⟩ := paired_at hI.vs hkv
    have ek : kk = .inr gg.1 := ek
    subst ek
    have haH : H3 a = some (.frz od (.dK kvs)) := g3 _ _ upd_same
    have hv3 : VaAt K C H3 vv gg.2 := VaAt.noD (fun b o z no => by
      obtain ⟨_, z2⟩ := cut_some z
      have nba : b ≠ a := fun e => no kvs (by rw [e, ha] at z2; exact (Option.some.inj z2).symm)
      exact g3 _ _ (by rw [upd_ne nba]; exact z2)) hvv
    refine ⟨rfl, _, rfl, _, rfl, a, vv, rfl, .inl ⟨kvs, .inr gg.1, .inr ⟨od, haH⟩, rfl, (valV_at nd hkv).symm⟩, vv, gg.2, rfl, hv3, _, rfl, ?_⟩
    have gt := get_take hgg
    cases e2 : gg.2 with
    | none =>
      refine iteF ⟨bs, ns, g1, by omega, g3, g4, g5, fun e g m => ?_⟩
      rw [gt] at m
      rcases List.mem_append.mp m with h | h
      · exact g6 e g h
      · rw [List.mem_singleton.mp h]; exact e2
    | some d =>
      refine iteT ⟨_, rfl, few (by simp), fun t ht => ?_⟩
      have st := same_new ht (.tup [V.str gg.1])
      have ntD : t ≠ D := (ne_of_none g1 ht).symm
      have nta : t ≠ a := (ne_of_none haH ht).symm
      have tl3 : Tr l H3 := (fun b hb => by
        have := tl b hb
        have nba : b ≠ a := fun z => nal (by rw [← z]; exact hb)
        cases hb1 : H b with
        | none => exact absurd hb1 this
        | some o =>
          intro z
          have z2 := g3 b o (by rw [upd_ne nba]; exact hb1)
          rw [z] at z2
          cases z2)
      have ntl : t ∉ l := tl3.out ht
      have oG : Same (cut (D :: a :: l) H3) (cut (D :: a :: l) (upd (upd H3 t (.tup [V.str gg.1])) D (.lst (bs.map V.ref ++ [.ref t])))) := (Off.of (l := D :: a :: l) st).trans (Off.put (by simp))
      refine ⟨_, st _ _ g1, few1 (by rw [List.length_map]; omega), bs ++ [t], ns ++ [gg.1], by rw [upd_same, List.map_append]; rfl, by rw [List.length_append, List.length_singleton]; omega, ?_, Paired.app (paired_up (fun _ _ h => oG _ _ h) g4) (.cons ?_ .nil), fun n m => ?_, fun z => absurd z (by simp)⟩
      · intro b o z
        rw [upd_ne (ne_of_none z hD)]
        exact st _ _ (g3 _ _ z)
      · rw [cut_out (by simp [ntD, nta, ntl]), upd_ne ntD]
        exact upd_same
      · rcases List.mem_append.mp m with h | h
        · exact g5 n h
        · rw [List.mem_singleton.mp h]
          exact ⟨hO.nm gg (List.mem_of_getElem? hgg), d, by rw [← e2]; exact getI_nd hI.nd hgg⟩
  rintro H2 ⟨bs, ns, g1, g2, g3, g4, g5, g6⟩
  refine ⟨g3 _ _ upd_same, ?_⟩
  rw [show kvs.length = gs.length from lk, List.take_length] at g6
  have naD : a ≠ D := ne_of_none upd_same hD
  have hD2 : (upd H2 a (.dK kvs)) D = some (.lst (bs.map V.ref)) := by rw [upd_ne naD.symm]; exact g1
  have s0 : Same H (upd H2 a (.dK kvs)) := fun b o z => by
    by_cases e : b = a
    · rw [e, upd_same, ← z, e, ha]
    · rw [upd_ne e]
      exact g3 _ _ (by rw [upd_ne e]; exact z)
  have hD0 : H D = none := by rw [upd_ne naD.symm] at hD; exact hD
  have nlD : D ∉ l := tl.out hD0
  have g4 : Paired (fun (b : Addr) (n : Str) => (cut (D :: l) (upd H2 a (.dK kvs))) b = some (.tup [.str n])) bs ns := paired_up (fun b n h => by
    obtain ⟨n1, z1⟩ := cut_some h
    simp only [List.mem_cons, not_or] at n1
    rw [cut_out (by simp [n1.1, n1.2.2]), upd_ne n1.2.1]
    exact z1) g4
  generalize upd H2 a (.dK kvs) = H3 at *
  have lbs := Paired.length g4
  have hb3 := hb.same s0
  have tl3 := tl.same s0
  have nDB : D ∉ [p, g] := hb.notin hD0
  -- is there any?
  have gns : ∀ ms : List Str, (∀ n ∈ ms, Sm 8 n) → gds (ms.map fun n => PyData.tuple [.str n]) = true ∧ PyData.depthAll (ms.map fun n => PyData.tuple [.str n]) ≤ 1 := fun ms => by
    induction ms with
    | nil => intro _; exact ⟨by simp only [List.map_nil, gds], by simp only [List.map_nil, PyData.depthAll]; omega⟩
    | cons n ms ih =>
      intro h
      have i2 := ih fun z m => h z (List.mem_cons_of_mem _ m)
      have e1 : gd (.tuple [.str n]) = (gd (.str n) && true) := by simp only [gd, gds]
      refine ⟨?_, ?_⟩
      · rw [List.map_cons, gds_cons, e1, (h n List.mem_cons_self).gd (by decide), i2.1]; rfl
      · simp only [List.map_cons, PyData.depthAll, PyData.depth]; omega
  have gn := gns ns fun n m => (g5 n m).1
  refine ⟨_, rfl, by decide, fun e he => ⟨.list (ns.map fun n => .tuple [.str n]), .list [], .lst (SqL.of ((same_new he _) _ _ hD2)) ?_, .lst (SqL.of upd_same) .nil, shaped_of (by simpa only [gd] using gn.1) (by simp only [PyData.depth]; omega), shaped_of (by simp only [gd, gds]) (by simp only [PyData.depth, PyData.depthAll]; omega), ?_⟩⟩
  · have s9 := same_new he (.lst [])
    have : ∀ {xs : List Addr} {ys : List Str}, Paired (fun (b : Addr) (n : Str) => (cut (D :: l) H3) b = some (.tup [.str n])) xs ys → DpAll K (upd H3 e (.lst [])) (xs.map V.ref) (ys.map fun n => .tuple [.str n]) := fun {xs ys} h => by
      induction h with
      | nil => exact .nil
      | cons h _ ih => exact .cons (.tup (.inl (.inl (s9 _ _ (cut_some h).2))) (.cons (.str _) .nil)) ih
    exact this g4
  have s9 := same_new he (.lst [])
  have hb3 := hb3.same s9
  have tl3 := tl3.same s9
  have s0 := s0.trans s9
  have hD2 := s9 _ _ hD2
  have g4 : Paired (fun (b : Addr) (n : Str) => (cut (D :: l) (upd H3 e (.lst []))) b = some (.tup [.str n])) bs ns := paired_up (fun b n h => (Off.of (l := D :: l) s9) _ _ h) g4
  clear he
  generalize upd H3 e (.lst []) = H4 at *
  rw [eqv_nil]
  have o4 : Off [p, g] H H4 := Off.of s0
  cases en : (ns.map fun n => PyData.tuple [.str n]).isEmpty with
  | true =>
    have en : ns = [] := by cases ns <;> first | rfl | cases en
    exact ⟨_, rfl, iteT (q .non H4 hb3 o4 (.inl ⟨rfl, g6 en⟩))⟩
  | false =>
    have l0 : 0 < bs.length := by
      rw [lbs]
      cases ns with
      | nil => cases en
      | cons n ns => exact Nat.succ_pos _
    refine ⟨_, rfl, iteF ⟨_, rfl, _, rfl, p, g, D, _, rfl, hb3, hD2, nDB, by rw [List.length_map]; exact l0, by rw [List.length_map]; omega, fun x mx H5 b5 o5 => ?_⟩⟩
    obtain ⟨t, mt, rfl⟩ := List.mem_map.mp mx
    obtain ⟨j, hj⟩ := List.mem_iff_getElem?.mp mt
    obtain ⟨n, hn, ht4⟩ := paired_at g4 hj
    obtain ⟨sn, d0, hd0⟩ := g5 n (List.mem_of_getElem? hn)
    obtain ⟨nt, ht4⟩ := cut_some ht4
    simp only [List.mem_cons, not_or] at nt
    have o45 := o4.trans o5
    have ht5 : H5 t = some (.tup (plV n [])) := o5.get ht4 (fun m => nt.2 (sub _ m))
    have hI5 := hI.up (o45.mono sub)
    have ha5 := (cut_some hI5.at_).2
    obtain ⟨v0, hv0, hvd⟩ : ∃ v0, valV kvs (.inr n) = some v0 ∧ Dp K (cut l H5) v0 d0 := by
      rcases hI5.vs.get n with ⟨_, e2⟩ | ⟨v0, x0, e1, e2, hv⟩
      · rw [hd0] at e2; cases e2
      · rw [hd0] at e2
        cases e2
        exact ⟨v0, e1, hv⟩
    obtain ⟨gg, mgg, egg⟩ := getI_mem hd0
    have qd := hO.va gg mgg d0 egg
    refine ⟨_, rfl, _, rfl, t, _, 0, _, rfl, rfl, .inl (.inl ht5), rfl, a, v0, rfl, (by rw [← hv0]; exact DGet.k (k := Sum.inr n) ha5), ?_⟩
    have trA : ∀ {H8 : Hp}, Box H8 p g → Off [p, g] H H8 → Tr l H8 := fun b8 o8 => tl.go o8 fun b hb => by
      have t := b8.tr
      simp only [List.mem_cons, List.not_mem_nil, or_false] at hb
      rcases hb with h | h
      · rw [h]; exact t.1
      · rw [h]; exact t.2
    have ret : ∀ {H7 : Hp} {t : Addr} {ks : List Nat} {d : PyData}, Box H7 p g → Off [p, g] H H7 → cut l H7 t = some (.tup (plV n ks)) → ks.length ≤ 8 → (∀ k ∈ ks, k ≤ 5000) → atM d0 ks = some d → Q (.ref t) H7 := fun {H7 t ks d} b7 o7 hP lk' hk' hat =>
      q (.ref t) H7 b7 o7 (.inr ⟨t, (n, ks), d, rfl, hP, ⟨sn, by show ks.length ≤ 14; omega, hk'⟩, lk', by rw [getG_of hd0]; exact hat⟩)
    refine ⟨_, rfl, p, g, 9, rfl, b5, by decide, by decide, fun m H6 m0 m9 b6 o6 => ⟨m, rfl, by omega, by omega, for_range (lo := 0) (n := m.toNat) (fun i σ H7 => ∃ o5 o6 t ks v d, σ = [some (.ref p), some (.ref a), some (.ref D), some (.ref t), some v, o5, o6, none] ∧ Box H7 p g ∧ Off [p, g] H H7 ∧
        cut l H7 t = some (.tup (plV n ks)) ∧ ks.length ≤ i ∧ (∀ k ∈ ks, k ≤ 5000) ∧ Dp K (cut l H7) v d ∧ atM d0 ks = some d)
      ⟨none, none, t, [], v0, d0, rfl, b6, o45.trans o6, (o6.mono sub) _ _ (by rw [cut_out nt.2]; exact ht5), Nat.zero_le _, (fun _ z => nomatch z), Dp.up (o6.mono sub) _ _ hvd, atM_nil d0⟩ ?_ ?_⟩⟩
    · rintro i σ H7 hi ⟨w5, w6, t, ks, v, d, rfl, b7, o7, hP, lks, hks, hv, hat⟩
      have q7 := gv_at ks d0 d hat qd.1
      have g7 := gvb_gd (by decide) d q7.1
      refine ⟨_, rfl, v, some d, rfl, Dp.up (cut_same l H7) _ _ hv, _, rfl, ?_⟩
      cases ht : isTup d with
      | false =>
        have ht2 : isTupO (some d) = false := ht
        rw [ht2]
        exact iteT (iteT ⟨_, rfl, ret b7 o7 hP (by omega) hks hat⟩)
      | true =>
        obtain ⟨wa, xs, ds, rfl, rfl, hw, gw⟩ := tup_of hv ht
        have ht2 : isTupO (some (.tuple ds)) = true := rfl
        rw [ht2]
        have lw := DpAll.len gw
        have nl := nods_len ds
        simp only [nod] at q7
        refine iteF ⟨_, rfl, by decide, fun e he => ⟨.tuple ds, .tuple [], .tup (seqT_up (same_new he _) (seqT_cut hw)) (Dp.ups ((cut_same l H7).trans (same_new he _)) _ _ gw), .tup (.inl (.inl upd_same)) .nil, shaped_of g7.1 (by omega), shaped_of (by simp only [gd, gds]) (by simp only [PyData.depth, PyData.depthAll]; omega), ?_⟩⟩
        rw [eqv_nilT]
        have se := same_new he (.tup [])
        have b8 := b7.same se
        have o8 := o7.trans (Off.of (l := [p, g]) se)
        have oe := Off.of (l := l) se
        have hP8 := oe _ _ hP
        have hw8 := seqT_up oe hw
        have gw8 := Dp.ups oe _ _ gw
        clear he
        generalize upd H7 e (.tup []) = H8 at *
        cases hds : ds with
        | nil =>
          subst hds
          exact ⟨_, rfl, iteT ⟨_, rfl, ret b8 o8 hP8 (by omega) hks hat⟩⟩
        | cons d1 ds1 =>
          rw [← hds]
          have e1 : ds.isEmpty = false := by rw [hds] <;> rfl
          have l1 : 0 < xs.length := by rw [lw, hds]; exact Nat.succ_pos _
          rw [e1]
          refine ⟨_, rfl, iteF ⟨_, rfl, _, rfl, wa, xs, rfl, .inr (seqT_cut hw8), p, g, _, rfl, b8, by omega, by omega, fun k2 H9 k20 k29 b9 o9 => ?_⟩⟩
          have o89 := o8.trans o9
          have tl9 := trA b9 o89
          refine ⟨_, rfl, _, rfl, few (by simp), fun t1 ht1 => ?_⟩
          have n1l : t1 ∉ l := tl9.out ht1
          have s10 := same_new (o := .tup [V.int k2]) ht1
          have hP9 := (o9.mono sub) _ _ hP8
          refine ⟨t, t1, plV n ks, [V.int k2], l, rfl, rfl, (fun z => nomatch z), (cut_new (l := l) (o := .tup [V.int k2]) ht1) _ _ hP9, .inl (.inl (by rw [cut_out n1l]; exact upd_same)), tl9.same s10, few ?_, fun c H11 s11 hc => ?_⟩
          · simp only [plV, List.length_cons, List.length_map, List.length_nil]
            omega
          have e1 : plV n ks ++ [V.int k2] = plV n (ks ++ [k2.toNat]) := by
            unfold plV
            rw [List.map_append, List.cons_append, List.map_singleton, show ((k2.toNat : Nat) : Int) = k2 from by omega]
          rw [e1] at hc
          obtain ⟨x, hx, mx', gx⟩ := atI_ok (xs := xs) k20 k29
          have oX : Off [p, g] H8 H11 := o9.trans (Off.of (s10.trans s11))
          have gw2 := Dp.ups (oX.mono sub) _ _ gw8
          obtain ⟨e3, he3, hde⟩ := DpAll.get gw2 gx
          refine ⟨_, rfl, _, rfl, wa, _, _, x, rfl, rfl, seqT_cut (seqT_up (oX.mono sub) hw8), hx, _, _, rfl, _, _, c, ks ++ [k2.toNat], x, e3, rfl, (b9.same s10).same s11, o8.trans oX, hc, ?_, ?_, hde, atM_snoc hat he3⟩
          · rw [List.length_append, List.length_singleton]
            omega
          · intro z mz
            rcases List.mem_append.mp mz with h | h
            · exact hks z h
            · rw [List.mem_singleton.mp h]
              omega
    · rintro σ H7 ⟨w5, w6, t, ks, v, d, rfl, b7, o7, hP, lks, hks, hv, hat⟩
      exact ⟨_, rfl, ret b7 o7 hP (by omega) hks hat⟩
end
/-! do two places meet? -/
abbrev sMeet : Stmt := topS 36
theorem scMeet : FnScope ["_law_one", "_law_other", "_law_wide"] ["_law_one", "_law_other"] (defScope sMeet) := ⟨rfl, rfl, rfl, by decide +kernel, rfl, by decide +kernel, by decide +kernel⟩
theorem ap_take : ∀ ks ls : List Nat, decide (ks.take (min ks.length ls.length) = ls.take (min ks.length ls.length)) = !ap ks ls
  | [], ls => by simp [ap]
  | k :: ks, [] => by simp [ap]
  | k :: ks, l :: ls => by
    have ih := ap_take ks ls
    have e : min (k :: ks).length (l :: ls).length = min ks.length ls.length + 1 := by simp only [List.length_cons]; omega
    rw [e, List.take_succ_cons, List.take_succ_cons]
    unfold ap
    by_cases c : k = l
    · subst c
      rw [if_pos rfl, ← ih]
      simp
    · rw [if_neg c]
      simp [c]
theorem b_min7 : bootBuiltins "min" = some (.builtin "min") := by decide +kernel
def spMeet (K : PySem.W.Frag) : Sp := fun vs H Q _ => ∃ x y p q, vs = [.ref x, .ref y] ∧ SqT K H x (plW p) ∧ SqT K H y (plW q) ∧ PlOk p ∧ PlOk q ∧ ∀ H', Same H H' → Q (.bl (!apart p q)) H'
theorem plW_take (p : Pl) (n : Nat) : (plW p).take (n + 1) = plW (p.1, p.2.take n) := by
  unfold plW
  rw [List.take_succ_cons, List.map_take]
section
variable {P : Program} {w : World} {K : PySem.W.Frag} {mg : Str → Option Value} {base : Heap} {f : Addr} {fd : FuncData}
theorem ok_meet {k : Nat} (F : Fun K "_law_meet" "_law_meet" sMeet f fd) (B : Bi mg) (mm : mg "min" = none) : FnOk P w K mg base CX0 (k + 1) f fd ["_law_one", "_law_other"] (spMeet K) := by
  refine F.ok scMeet (fun vs H Q E h => ?_) (fun cdv A outer s H vs Q E hr h => ?_)
  · obtain ⟨x, y, p, q, rfl, _⟩ := h
    rfl
  obtain ⟨x, y, p, q, rfl, hx, hy, okp, okq, fin⟩ := h
  refine ⟨_, pss_cons (ps_set (i := 2) scMeet.nd rfl (.inl rfl) (pe_callB (call_min2 rfl) (by rfl) mm b_min7 (pa_cons (pe_callB call_len_seq (by rfl) B.len PySem.boot_len (pa_cons (pv 0) pa_nil)) (pa_cons (pe_callB call_len_seq (by rfl) B.len PySem.boot_len (pa_cons (pv 1) pa_nil)) pa_nil))))
    (pss_one (ps_ret (pe_cmpR (op_eqD hr.units) (pe_slice sl_tupU (pv 0) po_none (po_some (pv 2))) (pe_slice sl_tupU (pv 1) po_none (po_some (pv 2))) (nomark _)))), ?_⟩
  have lp : (plW p).length = p.2.length + 1 := by unfold plW; rw [List.length_cons, List.length_map]
  have lq : (plW q).length = q.2.length + 1 := by unfold plW; rw [List.length_cons, List.length_map]
  refine ⟨_, rfl, x, _, rfl, .inr hx, _, rfl, y, _, rfl, .inr hy, _, _, rfl, ?_⟩
  obtain ⟨wd, hwd, w0⟩ : ∃ wd : Int, (if ((plW q).length : Int) < ((plW p).length : Int) then ((plW q).length : Int) else ((plW p).length : Int)) = wd ∧ wd = ((min p.2.length q.2.length + 1 : Nat) : Int) := by
    refine ⟨_, rfl, ?_⟩
    rw [lp, lq]
    split <;> omega
  rw [hwd]
  subst w0
  refine ⟨_, rfl, _, rfl, _, rfl, x, plW p, [], rfl, by rw [cut_nil]; exact hx, tr_nil _, fun c1 H1 s1 hc1 => ?_⟩
  rw [cut_nil, cutV_take _ (by omega) (by rw [lp]; omega), show (((min p.2.length q.2.length + 1 : Nat) : Int)).toNat = min p.2.length q.2.length + 1 from by omega, plW_take] at hc1
  refine ⟨_, rfl, _, rfl, _, rfl, y, plW q, [], rfl, by rw [cut_nil]; exact seqT_up s1 hy, tr_nil _, fun c2 H2 s2 hc2 => ?_⟩
  rw [cut_nil, cutV_take _ (by omega) (by rw [lq]; omega), show (((min p.2.length q.2.length + 1 : Nat) : Int)).toNat = min p.2.length q.2.length + 1 from by omega, plW_take] at hc2
  have sub : ∀ {r : Pl} (n : Nat), PlOk r → PlOk (r.1, r.2.take n) := fun {r} n h => ⟨h.nm, by show (r.2.take n).length ≤ 14; rw [List.length_take]; have := h.few; omega, fun k m => h.sm k (List.mem_of_mem_take m)⟩
  refine ⟨plE (p.1, p.2.take (min p.2.length q.2.length)), plE (q.1, q.2.take (min p.2.length q.2.length)), plE_dp (seqT_up s2 hc1), plE_dp hc2, pl_shaped (sub _ okp), pl_shaped (sub _ okq), ?_⟩
  rw [plE_eqv]
  have e : decide ((p.1, p.2.take (min p.2.length q.2.length)) = (q.1, q.2.take (min p.2.length q.2.length))) = !apart p q := by
    unfold apart
    by_cases c : p.1 = q.1
    · rw [if_pos c, ← ap_take]
      simp [c]
    · rw [if_neg c]
      simp [c]
  rw [e]
  exact fin H2 (s1.trans s2)
end
/-! what a term tells, or that there is no place -/
abbrev sOutc : Stmt := topS 37
theorem scOutc : FnScope ["_law_term_here", "_law_given", "_law_found", "e"] ["_law_term_here", "_law_given"] (defScope sOutc) := ⟨rfl, rfl, rfl, by decide +kernel, rfl, by decide +kernel, by decide +kernel⟩
def spOutc (K : PySem.W.Frag) (C : TI → Addr) (CF : Addr) : Sp := fun vs H Q _ => ∃ v t a kvs gs, vs = [v, .ref a] ∧ TmA K C H v t ∧ t.ok ∧ t.wt ≤ 900 ∧ InAt K CF H a kvs gs ∧ InsVd gs ∧ ∀ u H', Same H H' → Dp K H' u (wE (evT gs t)) → Q u H'
section
variable {P : Program} {w : World} {K : PySem.W.Frag} {mg : Str → Option Value} {base : Heap} {f CF CE eI : Addr} {fd xI : FuncData} {C fE g : TI → Addr} {dg : TI → FuncData}
theorem ok_outc {k : Nat} (F : Fun K "_law_outcome" "_law_outcome" sOutc f fd) (T : TmC K mg C fE) (c4 : EC P w K mg base "NoPlace" ["place"] ["place"] CE eI xI) (ex : PySem.W.exmOne K (.ref CE) (.ref CE) = some true) (cO : ∀ i, StX.CallO K (C i) (g i)) (FG : ∀ i, FnOk P w K mg base (L2.CX P w) 6 (g i) (dg i) ["self", "inputs"] (spCall K C CF CE fun t => t.ix = i)) (bG : ∀ i, Binds K (dg i) ["self", "inputs"] []) :
    FnOk P w K mg base CX0 (k + 7) f fd ["_law_term_here", "_law_given"] (spOutc K C CF) := by
  refine F.ok scOutc (fun vs H Q E h => ?_) (fun cdv A outer s H vs Q E hr h => ?_)
  · obtain ⟨v, t, a, kvs, gs, rfl, _⟩ := h
    rfl
  obtain ⟨v, t, a, kvs, gs, rfl, ht, ok, hw, hI, hO, q⟩ := h
  have hr6 : Room 6 _ := hr.mono (by omega)
  refine ⟨_, pss_cons (ps_set (i := 2) scOutc.nd rfl (.inl rfl) pe_non)
    (pss_cons (ps_try_as (c := .ref CE) (i := 3) rfl rfl scOutc.nd rfl rfl ⟨by rfl, by decide, .inl c4.mg⟩ takes0
      (fun W pn xe tk _ => pss_one (ps_set (i := 2) scOutc.nd rfl (.inl rfl) (pe_tup (pa_cons pe_str (pa_cons (pe_callMS (pv 0) cO FG bG hr6 (fun σ => passAt tk σ) (pa_cons (pv 1) pa_nil)) pa_nil)))))
      (fun a oe cls d pn hz hf => pss_one (ps_set (i := 2) scOutc.nd rfl (.inl rfl) (pe_tup (pa_cons pe_str (pa_cons (pe_xf c4.X (c4.no "place" (by simp)) hz hf (pv 3)) pa_nil))))))
    (pss_one (ps_ret (pv 2)))), ?_⟩
  obtain ⟨b, dx, fs, rfl, hb⟩ := ht.ins
  refine ⟨_, rfl, b, rfl, _, rfl, t.ix, .inr ⟨dx, fs, hb⟩, .ref b, t, a, kvs, gs, rfl, ht, ok, hw, rfl, hI, hO, fun p hp b2 d2 H1 s1 hb2 hd2 => ?_, fun d hd x H1 s1 hx => ?_⟩
  · refine ⟨true, ex, fun _ ae hae => ?_, fun z => nomatch z⟩
    refine ⟨_, rfl, rfl, rfl, d2, _, _, rfl, hd2, lk1, few (by simp), fun r hr => ?_⟩
    have s2 := same_new (o := .tup [.str "none", .ref b2]) hr
    refine ⟨_, rfl, ?_⟩
    have e : wE (evT gs t) = .tuple [.str "none", plE p] := by rw [hp] <;> rfl
    rw [e] at q
    exact q _ _ (s1.trans s2) (.tup (xs := [.str "none", .ref b2]) (.inl (.inl upd_same)) (.cons (.str _) (.cons (plE_dp (.inl (.inl (s2 _ _ hb2)))) .nil)))
  · refine ⟨few (by simp), fun r hr => ⟨_, rfl, ?_⟩⟩
    have e : wE (evT gs t) = .tuple [.str "told", d] := by rw [hd] <;> rfl
    rw [e] at q
    exact q _ _ (s1.trans (same_new hr _)) (.tup (xs := [.str "told", x]) (.inl (.inl upd_same)) (.cons (.str _) (.cons (Dp.up (same_new hr _) _ _ hx) .nil)))
end
/-! what a model tells at inputs, plainly -/
abbrev sPlain : Stmt := topS 38
theorem scPlain : FnScope ["_law_model_here", "_law_given", "_law_here", "_law_part"] ["_law_model_here", "_law_given"] (defScope sPlain) := ⟨rfl, rfl, rfl, by decide +kernel, rfl, by decide +kernel, by decide +kernel⟩
theorem passX {P : Program} {w : World} {X : Cx} : Passes (L2.CX P w) X E0 := fun _ _ _ _ _ _ _ h => by
  obtain ⟨_, _, _, _, _, _, _, _, _, _, _, _, hE⟩ := h
  exact False.elim hE
theorem evs_at {gs : Ins} : ∀ {ts : List Tm} {ds : List PyData} {i : Nat} {t : Tm}, evTs gs ts = .ok ds → ts[i]? = some t → ∃ d, ds[i]? = some d ∧ evT gs t = .ok d
  | [], _, _, _, _, h => by cases h
  | u :: ts, ds, i, t, h, hi => by
    simp only [evTs] at h
    cases e : evT gs u with
    | error p => rw [e] at h; cases h
    | ok d =>
      rw [e] at h
      simp only at h
      cases e2 : evTs gs ts with
      | error p => rw [e2] at h; cases h
      | ok es =>
        rw [e2] at h
        cases h
        cases i with
        | zero => cases hi; exact ⟨d, rfl, e⟩
        | succ i => exact evs_at (i := i) e2 (by simpa using hi)
def spPlain (K : PySem.W.Frag) (CF : Addr) (n : Nat) : Sp := fun vs H Q _ => ∃ v t a kvs gs d, vs = [v, .ref a] ∧ MdA K H v t ∧ t.ok ∧ t.wt ≤ 900 ∧ t.dpt < n ∧ InAt K CF H a kvs gs ∧ InsVd gs ∧ evT gs t = .ok d ∧ ∀ u H', Same H H' → Dp K H' u d → Q u H'
section
variable {P : Program} {w : World} {K : PySem.W.Frag} {mg : Str → Option Value} {base : Heap} {f fV CF CE : Addr} {fd dV : FuncData}
theorem ok_plain {k n : Nat} (F : Fun K "_law_plain" "_law_plain" sPlain f fd) (B : Bi mg) (GV : FnOk P w K mg base (L2.CX P w) 4 fV dV ["inputs", "place"] (spValAt K CF CE)) (kV : PySem.W.keepIn K (.ref fV) = true) (bW : Binds K dV ["inputs", "place"] []) (mW : mg "value_at" = some (.ref fV))
    (G : FnOk P w K mg base CX0 (k + 4) f fd ["_law_model_here", "_law_given"] (spPlain K CF n)) (bV : Binds K fd ["_law_model_here", "_law_given"] []) (mV : mg "_law_plain" = some (.ref f)) :
    FnOk P w K mg base CX0 (k + 5) f fd ["_law_model_here", "_law_given"] (spPlain K CF (n + 1)) := by
  refine F.ok scPlain (fun vs H Q E h => ?_) (fun cdv A outer s H vs Q E hr h => ?_)
  · obtain ⟨v, t, a, kvs, gs, d, rfl, _⟩ := h
    rfl
  obtain ⟨v, t, a, kvs, gs, d, rfl, ht, ok, hw, hd, hI, hO, ev, q⟩ := h
  have hr4 : Room 4 _ := hr.mono (by omega)
  refine ⟨_, pss_cons (ps_if (pt_cmpR op_eq (pe_ix ix_tup (pv 0) pe_int (fun _ _ => rfl)) pe_str (nomark _))
      (pss_one (ps_ret (pe_callTy call_tuple_of (by rfl) B.tup b_tup (pa_cons (pe_lc (own := [("_law_part", 3)]) (g := gName 3) (by rfl) scPlain.nd (pi_list (pe_ix ix_tup (pv 0) pe_int (fun _ _ => rfl)))
        (blkOk_by (own := [("_law_part", 3)]) (N := ["_law_model_here", "_law_given", "_law_here", "_law_part"]) (sc := defScope sPlain) (by decide +kernel))
        (fun _ _ _ _ _ => pg_name (i := 3) scPlain.nd rfl (Or.inl rfl)) (fun _ _ _ _ _ => pts_nil) (fun _ _ _ _ _ => pe_call G hr (by rfl) mV F.kp bV .nil pass0 (pa_cons (pv 3) (pa_cons (pv 1) pa_nil)))) pa_nil)))) pss_nil)
    (pss_cons (ps_if (pt_cmpR op_eq (pe_ix ix_tup (pv 0) pe_int (fun _ _ => rfl)) pe_str (nomark _)) (pss_one (ps_ret (pe_ix ix_tup (pv 0) pe_int (fun _ _ => rfl)))) pss_nil)
    (pss_cons (ps_set (i := 2) scPlain.nd rfl (.inl rfl) (pe_call GV hr4 (by rfl) mW kV bW .nil passX (pa_cons (pv 1) (pa_cons (pe_ix ix_tup (pv 0) pe_int (fun _ _ => rfl)) pa_nil))))
    (pss_one (ps_ret (pe_ifExp (pt_cmpR op_eq (pe_ix ix_tup (pv 0) pe_int (fun _ _ => rfl)) pe_str (nomark _)) (pe_op op_add (pv 2) (pe_ix ix_tup (pv 0) pe_int (fun _ _ => rfl))) (pv 2)))))), ?_⟩
  cases ht with
  | @lit b x d0 h1 h2 =>
    have hT : SqT K H b [.str "literal", x] := .inl (.inl h1)
    refine ⟨_, rfl, b, _, 0, _, rfl, rfl, hT, rfl, rfl, false, bneq (fun z => nBL z.symm), iteF ?_⟩
    refine ⟨_, rfl, b, _, 0, _, rfl, rfl, hT, rfl, rfl, true, beqq _, iteT ⟨_, rfl, b, _, 1, x, rfl, rfl, hT, rfl, ?_⟩⟩
    simp only [evT, lfE] at ev
    cases ev
    exact q x H (Same.refl H) h2
  | @who b qq p h1 h2 =>
    have hT : SqT K H b [.str "whole", .ref qq] := .inl (.inl h1)
    have okp : PlOk p := by simpa only [Tm.ok] using ok
    refine ⟨_, rfl, b, _, 0, _, rfl, rfl, hT, rfl, rfl, false, bneq (fun z => nBW z.symm), iteF ?_⟩
    refine ⟨_, rfl, b, _, 0, _, rfl, rfl, hT, rfl, rfl, false, bneq nWL, iteF ?_⟩
    simp only [evT, lfE] at ev
    cases ea : atI2 gs p.1 p.2 with
    | none => rw [ea] at ev; cases ev
    | some d1 =>
      rw [ea] at ev
      cases ev
      refine ⟨_, rfl, _, rfl, b, _, 1, _, rfl, rfl, hT, rfl, a, qq, kvs, gs, p.1, p.2, rfl, hI, .inl (.inl h2), by have := okp.few; omega, (fun z => by rw [ea] at z; cases z), fun d2 e2 u H1 s1 du => ?_⟩
      rw [ea] at e2
      cases e2
      exact ⟨_, rfl, b, _, 0, _, rfl, rfl, seqT_up s1 hT, rfl, rfl, false, bneq (fun z => nSW z.symm), iteF ⟨_, rfl, q u H1 s1 du⟩⟩
  | @shi b qq p by0 h1 h2 =>
    have hT : SqT K H b [.str "shifted", .ref qq, .int by0] := .inl (.inl h1)
    have okp : PlOk p := by
      have : PlOk p ∧ by0.natAbs ≤ 10 ^ 8 := by simpa only [Tm.ok] using ok
      exact this.1
    refine ⟨_, rfl, b, _, 0, _, rfl, rfl, hT, rfl, rfl, false, bneq (fun z => nBS z.symm), iteF ?_⟩
    refine ⟨_, rfl, b, _, 0, _, rfl, rfl, hT, rfl, rfl, false, bneq nSL, iteF ?_⟩
    simp only [evT, lfE] at ev
    cases ea : atI2 gs p.1 p.2 with
    | none => rw [ea] at ev; cases ev
    | some d1 =>
      rw [ea] at ev
      cases d1 with
      | int i =>
        cases ev
        refine ⟨_, rfl, _, rfl, b, _, 1, _, rfl, rfl, hT, rfl, a, qq, kvs, gs, p.1, p.2, rfl, hI, .inl (.inl h2), by have := okp.few; omega, (fun z => by rw [ea] at z; cases z), fun d2 e2 u H1 s1 du => ?_⟩
        rw [ea] at e2
        cases e2
        cases du
        exact ⟨_, rfl, b, _, 0, _, rfl, rfl, seqT_up s1 hT, rfl, rfl, true, beqq _, iteT ⟨_, rfl, _, rfl, b, _, 2, _, rfl, rfl, seqT_up s1 hT, rfl, i, by0, rfl, rfl, q _ H1 s1 (.int _)⟩⟩
      | none => cases ev
      | bool z => cases ev
      | str z => cases ev
      | list z => cases ev
      | tuple z => cases ev
      | dict z => cases ev
  | @bui b l vs ts h1 h2 h3 =>
    have hT : SqT K H b [.str "built", .ref l] := .inl (.inl h1)
    refine ⟨_, rfl, b, _, 0, _, rfl, rfl, hT, rfl, rfl, true, beqq _, iteT ?_⟩
    simp only [Tm.ok] at ok
    have wb : (Tm.bui ts).wt = 1 + Tm.wts ts := by rw [Tm.wt]
    have db : (Tm.bui ts).dpt = 1 + Tm.dpts ts := by rw [Tm.dpt]
    have lts := h3.len
    have lw := Tm.len_wts ts
    simp only [evT] at ev
    cases es : evTs gs ts with
    | error p => rw [es] at ev; cases ev
    | ok ds =>
      rw [es] at ev
      cases ev
      have lds := evs_len gs ts ds es
      refine ⟨_, rfl, b, _, 1, _, rfl, rfl, hT, rfl, l, rfl, ⟨_, SqL.of h2⟩, fun D hD => lc_list (K := K) (a := l) (xs := vs) (fun i H2 => ∃ us, H2 D = some (.lst us) ∧ Same H H2 ∧ DpAll K (cut [D] H2) us (ds.take i)) ⟨[], upd_same, same_new hD _, .nil⟩ (fun i H2 _ ⟨_, _, s, _⟩ => SqL.of (s _ _ h2)) ?_ ?_⟩
      · rintro i y H2 hy ⟨us, g1, s2, uA⟩
        obtain ⟨t, hti, tM⟩ := h3.get hy
        obtain ⟨dt, hdt, edt⟩ := evs_at es hti
        have mt := List.mem_of_getElem? hti
        have tok := Tm.oks_mem ok t mt
        have lu := DpAll.len uA
        rw [List.length_take] at lu
        refine ⟨rfl, _, rfl, _, rfl, y, t, a, kvs, gs, dt, rfl, MdA.up s2 t y tM, tok, by have := Tm.wts_mem t mt; omega, by have := Tm.dpts_mem t mt; omega, hI.up s2, hO, edt, fun u H3 s3 hu => ?_⟩
        have g3 := s3 _ _ g1
        have o : Off [D] H3 (upd H3 D (.lst (us ++ [u]))) := Off.put (by simp)
        refine ⟨us, g3, few1 (by omega), us ++ [u], upd_same, ?_, ?_⟩
        · intro c oo z
          rw [upd_ne (ne_of_none z hD)]
          exact s3 _ _ (s2 _ _ z)
        · rw [get_take hdt]
          exact DpAll.app (Dp.ups ((Off.of (l := [D]) s3).trans o) _ _ uA) (.cons (Dp.up o _ _ (vd_cut g3 _ u (ev_vd gs hO t dt tok edt) hu)) .nil)
      · rintro H2 ⟨us, g1, s2, uA⟩
        rw [show vs.length = ds.length by rw [lts, lds], List.take_length] at uA
        have uA2 := Dp.ups (cut_same [D] H2) _ _ uA
        refine ⟨D, us, rfl, .inl ⟨SqL.of g1, fun tt htt => ?_⟩⟩
        have st := same_new htt (.tup us)
        exact q _ _ (s2.trans st) (.tup (.inl (.inl upd_same)) (Dp.ups st _ _ uA2))
end
/-! inputs printed, and compared -/
def shownF : Str := Str.empty ++ ("Fault(" : Str) ++ reprText "read" ++ (")" : Str)
def shownV : Option PyData → Str
  | some d => d.shown
  | none => shownF
def shownI (g : Str × Option PyData) : Str := reprText g.1 ++ ": " ++ shownV g.2
theorem read_sm : Sm 20 ("read" : Str) := Sm.of (by decide +kernel)
theorem ins_shown {K : PySem.W.Frag} {C a : Addr} {H : Hp} {kvs ks0 : List (Key × V)} {o : Obj} (ha : H a = some (.dK ks0)) {gs : Ins} (h : InsV K C H kvs gs) (hO : ∀ g ∈ gs, ∀ d, g.2 = some d → gd d = true ∧ nod d ≤ 5000 ∧ d.depth ≤ 40) :
    Paired (ShKV K C (spRepF C) (upd H a (.frz o (.dK ks0)))) kvs (gs.map shownI) := by
  induction h with
  | nil => exact .nil
  | @cons p g ps gs h _ ih =>
    refine .cons ⟨g.1, shownV g.2, h.1, ?_, rfl⟩ (ih fun z m => hO z (List.mem_cons_of_mem _ m))
    have hv := h.2
    cases e : g.2 with
    | some d =>
      rw [e] at hv
      have q := hO g List.mem_cons_self d e
      exact .inl ⟨d, Dp.locked ha hv, prn_of q.1 (by omega) (by omega), q.2.2, rfl⟩
    | none =>
      rw [e] at hv
      obtain ⟨b, x, e1, ⟨dx, hf⟩, hxp⟩ := hv
      have nb : b ≠ a := fun z => by
        rw [z, ha] at hf
        cases hf
      have hf2 : (upd H a (.frz o (.dK ks0))) b = some (.ins C dx (fl "read" (.str "c") (.ref x))) := by
        rw [upd_ne nb]
        exact hf
      exact .inr ⟨b, dx, fl "read" (.str "c") (.ref x), e1, hf2, b, "read", .str "c", .ref x, rfl, ⟨dx, hf2⟩, read_sm, rfl, rfl⟩
theorem dict_len {B : Nat} : ∀ {ts : List Str}, (∀ t ∈ ts, t.length ≤ B) → (dictText ts).length ≤ 2 + ts.length * (B + 2) := by
  intro ts h
  have e1 : ("{" : Str).length = 1 := by decide +kernel
  have e2 : ("}" : Str).length = 1 := by decide +kernel
  have e3 : (", " : Str).length = 2 := by decide +kernel
  have q := StrLaws.join_length_le ", " ts
  rw [e3] at q
  have s : (ts.map (·.length)).sum ≤ ts.length * B := by
    clear q
    induction ts with
    | nil => exact Nat.zero_le _
    | cons t r ih =>
      have h1 := h t List.mem_cons_self
      have h2 := ih fun z hz => h z (List.mem_cons_of_mem _ hz)
      simp only [List.map_cons, List.sum_cons, List.length_cons, Nat.add_mul, Nat.one_mul]
      omega
  unfold dictText
  rw [Str.length_append, Str.length_append, e1, e2]
  have : ts.length * (B + 2) = ts.length * B + ts.length * 2 := Nat.mul_add _ _ _
  omega
mutual
theorem pls_ok : ∀ {t : Tm}, t.ok → ∀ x ∈ t.pls, PlOk x
  | .lit _, _, x, m => nomatch m
  | .who p, ok, x, m => by
    simp only [Tm.ok] at ok
    simp only [Tm.pls, List.mem_singleton] at m
    rw [m]; exact ok
  | .shi p b, ok, x, m => by
    simp only [Tm.ok] at ok
    simp only [Tm.pls, List.mem_singleton] at m
    rw [m]; exact ok.1
  | .bui ts, ok, x, m => by
    simp only [Tm.ok] at ok
    simp only [Tm.pls] at m
    exact plss_ok ok x m
theorem plss_ok : ∀ {ts : List Tm}, Tm.oks ts → ∀ x ∈ Tm.plss ts, PlOk x
  | [], _, x, m => nomatch m
  | t :: ts, ok, x, m => by
    simp only [Tm.oks] at ok
    simp only [Tm.plss] at m
    rcases List.mem_append.mp m with h | h
    · exact pls_ok ok.1 x h
    · exact plss_ok ok.2 x h
end
theorem shownF_len : shownF.length ≤ 400 := by
  unfold shownF
  have l3 := rep_len read_sm
  have e3 : (Str.empty ++ ("Fault(" : Str)).length = 6 := by decide +kernel
  have e4 : (")" : Str).length = 1 := by decide +kernel
  rw [Str.length_append, Str.length_append, e3, e4]
  omega
theorem ins_lenZ {gs : Ins} (hO : InsZ gs) : (dictText (gs.map shownI)).length ≤ sizeLine := by
  have q := dict_len (B := 190000) (ts := gs.map shownI) (fun t m => by
    obtain ⟨g, mg, rfl⟩ := List.mem_map.mp m
    have l1 := rep_len (hO.nm g mg)
    have e2 : ((": " : Str)).length = 2 := by decide +kernel
    unfold shownI
    rw [Str.length_append, Str.length_append, e2]
    cases e : g.2 with
    | some d =>
      have z := hO.va g mg d e
      have y := gvb_sz (by decide) d z.1
      show (reprText g.1).length + 2 + d.shown.length ≤ _
      omega
    | none =>
      have := shownF_len
      show (reprText g.1).length + 2 + shownF.length ≤ _
      omega)
  rw [List.length_map] at q
  have := hO.few
  have e16 : sizeLine = 16777216 := by decide
  omega
theorem val_prn {d : PyData} (h : gv d = true) (n : nod d ≤ 4000) (dd : d.depth ≤ 40) : Prn d := prn_of (gvb_gd (by decide) d h).1 (by omega) (by omega)
theorem ev_prn {gs : Ins} (hO : InsZ gs) {t : Tm} {d : PyData} (ok : t.ok) (hw : t.wt ≤ 80) (hd : t.dpt ≤ 6) (e : evT gs t = .ok d) : Prn d := by
  have q := ev_gv gs hO t d ok e
  have g := (gvb_gd (by decide) d q.1).1
  have z := gvb_sz (by decide) d q.1
  have sh := gd_sh d g
  have e16 : sizeLine = 16777216 := by decide
  have : nod d ≤ 4000 * 80 := Nat.le_trans q.2.1 (Nat.mul_le_mul_left _ hw)
  exact ⟨sh.1, sh.2, by omega, by omega⟩
theorem okP_of {gs : Ins} {p : Pl} {e : PyData} (h : getG gs p = some e) : okP gs p.1 p.2 = true := by
  obtain ⟨d, h1, h2⟩ := getG_some h
  unfold okP
  cases hk : p.2 with
  | nil => rw [h1]; rfl
  | cons k ks =>
    rw [← hk]
    have z : getG gs p = (layI gs p.1 p.2).bind List.getLast? := atI2_lay gs p.1 p.2
    rw [h] at z
    cases hl : layI gs p.1 p.2 with
    | none => rw [hl] at z; cases z
    | some ls => simp [hk]
theorem apart_comm (p q : Pl) : apart p q = apart q p := by
  unfold apart
  by_cases c : p.1 = q.1
  · rw [if_pos c, if_pos c.symm, ap_comm]
  · rw [if_neg c, if_neg (fun z => c z.symm)]
section
variable {K : PySem.W.Frag} {H H' : Hp}
mutual
theorem dpN (s : ∀ b o, H b = some o → (∀ zs, o ≠ .lst zs) → (∀ kvs, o ≠ .dK kvs) → H' b = some o) : ∀ (d : PyData) (v : V), vd d = true → Dp K H v d → Dp K H' v d
  | .int i, _, _, h => by cases h; exact .int i
  | .str x, _, _, h => by cases h; exact .str x
  | .tuple ds, _, hv, h => by
    cases h with
    | tup h1 h2 => exact .tup (seqT_upN s h1) (dpNs s ds _ (by simpa only [vd] using hv) h2)
  | .none, _, hv, _ => by simp [vd] at hv
  | .bool _, _, hv, _ => by simp [vd] at hv
  | .list _, _, hv, _ => by simp [vd] at hv
  | .dict _, _, hv, _ => by simp [vd] at hv
theorem dpNs (s : ∀ b o, H b = some o → (∀ zs, o ≠ .lst zs) → (∀ kvs, o ≠ .dK kvs) → H' b = some o) : ∀ (ds : List PyData) (vs : List V), vds ds = true → DpAll K H vs ds → DpAll K H' vs ds
  | [], _, _, h => by cases h; exact .nil
  | d :: ds, _, hv, h => by
    simp only [vds, Bool.and_eq_true] at hv
    cases h with
    | cons h1 h2 => exact .cons (dpN s d _ hv.1 h1) (dpNs s ds _ hv.2 h2)
end
theorem box_s {p g : Addr} (b : Box H p g) : ∀ c o, H c = some o → (∀ zs, o ≠ .lst zs) → (∀ kvs, o ≠ .dK kvs) → cut [p, g] H c = some o := fun c o z n1 n2 => by
  obtain ⟨n, s, tt, gs, h1, h2, _⟩ := b.ex
  rw [cut_out (fun m => ?_)]
  · exact z
  · simp only [List.mem_cons, List.not_mem_nil, or_false] at m
    rcases m with m | m
    · rw [m, h1] at z; exact n2 _ (Option.some.inj z).symm
    · rw [m, h2] at z; exact n1 _ (Option.some.inj z).symm
theorem VaAt.cutBox {C p g : Addr} {v : V} {y : Option PyData} (b : Box H p g) (hv : ∀ d, y = some d → vd d = true) (h : VaAt K C H v y) : VaAt K C (cut [p, g] H) v y := by
  cases y with
  | some d => exact dpN (box_s b) d v (hv d rfl) h
  | none =>
    obtain ⟨a, q, e, ⟨dx, hf⟩, hp⟩ := h
    exact ⟨a, q, e, ⟨dx, box_s b _ _ hf (fun _ z => nomatch z) fun _ z => nomatch z⟩, seqT_upN (box_s b) hp⟩
theorem InAt.cutBox {C p g a : Addr} {kvs : List (Key × V)} {gs : Ins} (b : Box H p g) (n : a ∉ [p, g]) (hO : InsVd gs) (h : InAt K C H a kvs gs) : InAt K C (cut [p, g] H) a kvs gs := by
  have all : ∀ {ks : List (Key × V)} {ys : Ins}, InsV K C H ks ys → (∀ g ∈ ys, ∀ d, g.2 = some d → vd d = true) → InsV K C (cut [p, g] H) ks ys := fun {ks ys} z => by
    induction z with
    | nil => intro _; exact .nil
    | cons h _ ih => exact fun hy => .cons ⟨h.1, VaAt.cutBox b (hy _ List.mem_cons_self) h.2⟩ (ih fun y m => hy y (List.mem_cons_of_mem _ m))
  exact ⟨by rw [cut_out n]; exact h.at_, all h.vs hO, h.nd⟩
/-- the inputs with a value put in -/
theorem InAt.putG {C a q : Addr} {kvs : List (Key × V)} {gs : Ins} {p : Pl} {x : PyData} {u : V} (h : InAt K C H a kvs gs) (s : Same H H') (hq : H' q = some (.dK (putK kvs (.inr p.1) u))) (hu : Dp K H' u (newM gs p.1 p.2 x)) : InAt K C H' q (putK kvs (.inr p.1) u) (putG gs p x) :=
  ⟨hq, InsV.put (h.vs.up s) p.1 hu, putI_nd p.1 _ h.nd⟩
end
theorem ones_gd (n : Nat) : gds (List.replicate n (PyData.int 1)) = true ∧ PyData.depthAll (List.replicate n (PyData.int 1)) = 0 := by
  induction n with
  | zero => exact ⟨by simp only [List.replicate_zero, gds], by simp only [List.replicate_zero, PyData.depthAll]⟩
  | succ n ih =>
    have g1 : gd (.int 1) = true := by decide +kernel
    rw [List.replicate_succ]
    exact ⟨by rw [gds_cons, g1, ih.1]; rfl, by simp only [PyData.depthAll, PyData.depth, ih.2]; omega⟩
theorem ones_dp {K : PySem.W.Frag} {H : Hp} (n : Nat) : DpAll K H (List.replicate n (V.int 1)) (List.replicate n (PyData.int 1)) := by
  induction n with
  | zero => exact .nil
  | succ n ih => exact .cons (.int 1) ih
theorem ones_nil (n : Nat) : (List.replicate n (PyData.int 1)).isEmpty = decide (n = 0) := by cases n <;> simp [List.replicate_succ]
theorem ins_eq {K : PySem.W.Frag} {C : Addr} {H : Hp} {kvs kvs' : List (Key × V)} {gs : Ins} (h1 : InsV K C H kvs gs) (h2 : InsV K C H kvs' gs) (nd : (gs.map (·.1)).Nodup) (hO : InsZ gs) (hf : ∀ n, getI gs n = some none → valV kvs (.inr n) = valV kvs' (.inr n)) :
    kvs.length = kvs'.length ∧ ∀ p ∈ kvs, ∃ u, valV kvs' p.1 = some u ∧ EqW K H 1 p.2 u := by
  refine ⟨(Paired.length h1).trans (Paired.length h2).symm, fun p mp => ?_⟩
  obtain ⟨i, hi⟩ := List.mem_iff_getElem?.mp mp
  obtain ⟨g, hg, e1, hv⟩ := paired_at h1 hi
  have gi := getI_nd nd hg
  have va := valV_at (h1.ndk nd) hi
  rw [e1] at va ⊢
  rcases h2.get g.1 with ⟨_, e2⟩ | ⟨v, x, k1, k2, k3⟩
  · rw [gi] at e2; cases e2
  · rw [gi] at k2
    cases k2
    refine ⟨v, k1, ?_⟩
    cases e2 : g.2 with
    | some d =>
      rw [e2] at hv k3
      have q := hO.va g (List.mem_of_getElem? hg) d e2
      exact .inr (.inr (.inl ⟨d, hv, k3, shaped_of (gvb_gd (by decide) d q.1).1 (by omega)⟩))
    | none =>
      rw [e2] at hv gi
      have z := hf g.1 gi
      rw [va, k1] at z
      cases z
      obtain ⟨a, q, e, _⟩ := hv
      exact .inr (.inl ⟨a, e, e⟩)
/-! one replacement -/
abbrev sOne : Stmt := topS 39
theorem scOne : FnScope ["_law_box_here", "_law_given", "_law_spot_here", "_law_value_here", "_law_kept", "_law_there", "_law_found", "_law_faults", "_law_turn", "_law_other", "_law_model_here", "_law_term_here", "_law_before", "_law_after", "_law_name", "_law_one", "_law_place_here"] ["_law_box_here", "_law_given", "_law_spot_here", "_law_value_here"] (defScope sOne) := ⟨rfl, rfl, rfl, by decide +kernel, rfl, by decide +kernel, by decide +kernel⟩
theorem call_repK {X : Cx} {K : PySem.W.Frag} (h : X.K = K) (hg : X.A.guards = some []) (hu : X.A.units + 64 < cLine) : CallR X (.builtin "repr") (rRep K) := by
  subst h
  exact call_rep hg hu
def spOne (K : PySem.W.Frag) (CF : Addr) : Sp := fun vs H Q _ => ∃ p g a t v kvs gs k r e x, vs = [.ref p, .ref a, .ref t, v] ∧ Box H p g ∧ InAt K CF (cut [p, g] H) a kvs gs ∧ InsK k gs ∧ k ≤ 3 ∧ cut [p, g] H t = some (.tup (plW r)) ∧ PlOk r ∧ r.2.length ≤ 8 ∧ getG gs r = some e ∧
  Dp K (cut [p, g] H) v x ∧ gv x = true ∧ nod x ≤ 601 ∧ x.depth ≤ 3 ∧ ∀ H', Box H' p g → Off [p, g] H H' → Q (.bl true) H'
section
variable {P : Program} {w : World} {K : PySem.W.Frag} {mg : Str → Option Value} {base : Heap} {f CF CE fE fR fV fW fS fM fMo fT fO fN : Addr} {fd dR dV dW dS dM dMo dT dO dN : FuncData} {C : TI → Addr} {fEq : TI → Addr}
set_option maxHeartbeats 4000000 in
theorem ok_one {k : Nat} (F : Fun K "_law_one_right" "_law_one_right" sOne f fd) (B : Bi mg) (TF : FaC K mg CF fE) (T6 : TmC K mg C fEq) (mR : Meth K CF "__repr__" fR) (gR : FnOk P w K mg base CX0 1 fR dR ["self"] (spRepF CF)) (bR : Binds K dR ["self"] [])
    (GV : FnOk P w K mg base (L2.CX P w) 4 fV dV ["inputs", "place"] (spValAt K CF CE)) (kV : PySem.W.keepIn K (.ref fV) = true) (bV : Binds K dV ["inputs", "place"] []) (mV : mg "value_at" = some (.ref fV))
    (GW : FnOk P w K mg base (L2.CX P w) 4 fW dW ["inputs", "place", "value"] (spWith K CF CE)) (kW : PySem.W.keepIn K (.ref fW) = true) (bW : Binds K dW ["inputs", "place", "value"] []) (mW : mg "with_part" = some (.ref fW))
    (GS : Dn P w K mg base 3 "_law_spot" ["_law_box_here", "_law_given"] (spSpot K CF) fS dS) (GM : Dn P w K mg base 1 "_law_meet" ["_law_one", "_law_other"] (spMeet K) fM dM) (GMo : Dn P w K mg base 9 "_law_model" ["_law_box_here", "_law_given", "_law_deep"] (spModel K CF) fMo dMo)
    (GT : Dn P w K mg base 8 "_law_term" ["_law_model_here"] (spLTerm K C 5) fT dT) (GO : Dn P w K mg base 7 "_law_outcome" ["_law_term_here", "_law_given"] (spOutc K C CF) fO dO) (GN : Dn P w K mg base 9 "_law_plain" ["_law_model_here", "_law_given"] (spPlain K CF 5) fN dN) :
    FnG P w K mg base CX0 (k + 11) f fd ["_law_box_here", "_law_given", "_law_spot_here", "_law_value_here"] (spOne K CF) := by
  refine okG F scOne (fun vs H Q E h => ?_) (fun cdv A outer s H vs Q E hgd hr h => ?_)
  · obtain ⟨p, g, a, t, v, kvs, gs, k, r, e, x, rfl, _⟩ := h
    rfl
  obtain ⟨p, g, a, t, v, kvs, gs, k0, r, e, x, rfl, hb, hI, hK, k3, hP, okr, lr, hg, hv, gx, nx, dx, q⟩ := h
  have hr1 : Room 1 _ := hr.mono (by omega)
  have hr3 : Room 3 _ := hr.mono (by omega)
  have hr4 : Room 4 _ := hr.mono (by omega)
  have hr7 : Room 7 _ := hr.mono (by omega)
  have hr8 : Room 8 _ := hr.mono (by omega)
  have hr9 : Room 9 _ := hr.mono (by omega)
  have hu := hu_of hr
  have hun := hr.un
  have hu120 : (A.deeper (envOfC "_law_one_right" (defScope sOne) s.heap.objs.size f cdv)).units + 120 < cLine := by omega
  refine ⟨_, (pss_cons (ps_par (i := 4) (j := 5) (by rfl) scOne.nd rfl rfl (by decide) rfl rfl (pa_cons (pe_callB (call_repDict mR gR bR hr3 hgd) (by rfl) B.rep b_rep (pa_cons (pv 1) pa_nil)) (pa_cons (pe_call GV hr4 (by rfl) mV kV bV .nil passX (pa_cons (pv 1) (pa_cons (pv 2) pa_nil))) pa_nil)) (by rfl))
      (pss_cons (ps_set (i := 6) scOne.nd rfl (.inr rfl) (pe_call GW hr4 (by rfl) mW kW bW .nil passX (pa_cons (pv 1) (pa_cons (pv 2) (pa_cons (pv 3) pa_nil)))))
      (pss_cons (ps_if (PW.pt (pw_or (pt_cmpR op_ne (pe_callB (call_rep hgd hr.units) (by rfl) B.rep b_rep (pa_cons (pe_call GV hr4 (by rfl) mV kV bV .nil passX (pa_cons (pv 6) (pa_cons (pv 2) pa_nil))) pa_nil)) (pe_callB (call_rep hgd hr.units) (by rfl) B.rep b_rep (pa_cons (pv 3) pa_nil)) (nomark _)) (pw_or (pt_cmpR (op_neS hu120) (pe_call GW hr4 (by rfl) mW kW bW .nil passX (pa_cons (pv 6) (pa_cons (pv 2) (pa_cons (pv 5) pa_nil)))) (pv 1) (nomark _)) (pw_or1 (pt_cmpR op_ne (pe_callB (call_repDict mR gR bR hr3 hgd) (by rfl) B.rep b_rep (pa_cons (pv 1) pa_nil)) (pv 4) (nomark _)))))) (pss_one (ps_ret pe_bl)) pss_nil)
      (pss_cons (ps_lock (ps_setLc (i := 7) (own := [("_law_name", 14)]) (g := gName 14) (by rfl) scOne.nd rfl rfl (sw_true rfl rfl rfl (by decide +kernel)) (pi_keys (pv 1))
        (blkOk_by (own := [("_law_name", 14)]) (N := ["_law_box_here", "_law_given", "_law_spot_here", "_law_value_here", "_law_kept", "_law_there", "_law_found", "_law_faults", "_law_turn", "_law_other", "_law_model_here", "_law_term_here", "_law_before", "_law_after", "_law_name", "_law_one", "_law_place_here"]) (sc := defScope sOne) (by decide +kernel))
        (fun _ _ _ _ _ => pg_name (i := 14) scOne.nd rfl (Or.inl rfl)) (fun _ _ _ _ _ => pts_one (pt_val (pe_callB (call_isFaK TF rfl rfl) (by rfl) B.ii b_ii (pa_cons (pe_dget hu (pv 1) (pv 14) (fun _ _ => rfl)) (pa_cons (pe_glob (by rfl) TF.mg (v := .ref CF) rfl) pa_nil)))))
        (fun _ _ _ _ _ => pe_dget hu (pv 6) (pv 14) (fun _ _ => rfl))))
      (pss_cons (ps_if (pt_cmpR (op_neNil hr.units) (pe_lc (own := [("_law_one", 15)]) (g := gName 15) (by rfl) scOne.nd (pi_list (pv 7))
        (blkOk_by (own := [("_law_one", 15)]) (N := ["_law_box_here", "_law_given", "_law_spot_here", "_law_value_here", "_law_kept", "_law_there", "_law_found", "_law_faults", "_law_turn", "_law_other", "_law_model_here", "_law_term_here", "_law_before", "_law_after", "_law_name", "_law_one", "_law_place_here"]) (sc := defScope sOne) (by decide +kernel))
        (fun _ _ _ _ _ => pg_name (i := 15) scOne.nd rfl (Or.inl rfl)) (fun _ _ _ _ _ => pts_one (pt_cmpR op_ne (pe_callB (call_repK (K := K) rfl hgd hr.units) (by rfl) B.rep b_rep (pa_cons (pe_lst (pa_cons (pe_fldK (K := K) rfl (pv 15) rfl) (pa_cons (pe_fldK (K := K) rfl (pv 15) rfl) pa_nil))) pa_nil)) (pe_callB (call_repK (K := K) rfl hgd hr.units) (by rfl) B.rep b_rep (pa_cons (pe_lst (pa_cons pe_str (pa_cons (pe_tup (pa_cons pe_int pa_nil)) pa_nil))) pa_nil)) (nomark _)))
        (fun _ _ _ _ _ => pe_int)) (pe_lst pa_nil) (nomark _)) (pss_one (ps_ret pe_bl)) pss_nil)
      (pss_cons (ps_for PassesOwn.never rfl (pi_range1 (by rfl) B.rng (pa_cons pe_int pa_nil)) (pg_name (i := 8) scOne.nd rfl (.inl rfl))
      (pss_cons (ps_set (i := 9) scOne.nd rfl (.inl rfl) (pe_call GS.ok hr3 (by rfl) GS.mg GS.kp GS.bd .nil pass0 (pa_cons (pv 0) (pa_cons (pv 1) pa_nil))))
        (pss_one (ps_if (PW.pt (pw_and (pt_not (pt_val (pe_call GM.ok hr1 (by rfl) GM.mg GM.kp GM.bd .nil pass0 (pa_cons (pv 2) (pa_cons (pv 9) pa_nil))))) (pw_and1 (pt_cmpR op_ne (pe_callB (call_rep hgd hr.units) (by rfl) B.rep b_rep (pa_cons (pe_call GV hr4 (by rfl) mV kV bV .nil passX (pa_cons (pv 6) (pa_cons (pv 9) pa_nil))) pa_nil)) (pe_callB (call_rep hgd hr.units) (by rfl) B.rep b_rep (pa_cons (pe_call GV hr4 (by rfl) mV kV bV .nil passX (pa_cons (pv 1) (pa_cons (pv 9) pa_nil))) pa_nil)) (nomark _))))) (pss_one (ps_ret pe_bl)) pss_nil))))
      (pss_cons (ps_for PassesOwn.never rfl (pi_range1 (by rfl) B.rng (pa_cons pe_int pa_nil)) (pg_name (i := 8) scOne.nd rfl (.inl rfl))
      (pss_cons (ps_set (i := 10) scOne.nd rfl (.inl rfl) (pe_call GMo.ok hr9 (by rfl) GMo.mg GMo.kp GMo.bd .nil pass0 (pa_cons (pv 0) (pa_cons (pv 1) (pa_cons pe_int pa_nil)))))
      (pss_cons (ps_set (i := 11) scOne.nd rfl (.inl rfl) (pe_call GT.ok hr8 (by rfl) GT.mg GT.kp GT.bd .nil pass0 (pa_cons (pv 10) pa_nil)))
      (pss_cons (ps_par (i := 12) (j := 13) (by rfl) scOne.nd rfl rfl (by decide) rfl rfl (pa_cons (pe_call GO.ok hr7 (by rfl) GO.mg GO.kp GO.bd .nil pass0 (pa_cons (pv 11) (pa_cons (pv 1) pa_nil))) (pa_cons (pe_call GO.ok hr7 (by rfl) GO.mg GO.kp GO.bd .nil pass0 (pa_cons (pv 11) (pa_cons (pv 6) pa_nil))) pa_nil)) (by rfl))
      (pss_cons (ps_if (pt_cmpR op_ne (pe_callB (call_rep hgd hr.units) (by rfl) B.rep b_rep (pa_cons (pe_call GO.ok hr7 (by rfl) GO.mg GO.kp GO.bd .nil pass0 (pa_cons (pv 11) (pa_cons (pv 1) pa_nil))) pa_nil)) (pe_callB (call_rep hgd hr.units) (by rfl) B.rep b_rep (pa_cons (pv 12) pa_nil)) (nomark _)) (pss_one (ps_ret pe_bl)) pss_nil)
      (pss_cons (ps_if (PW.pt (pw_and (pt_cmpR (op_eqD hr.units) (pe_lc (own := [("_law_place_here", 16)]) (g := gName 16) (by rfl) scOne.nd (pi_tup (pe_fld (pv 11) rfl))
          (blkOk_by (own := [("_law_place_here", 16)]) (N := ["_law_box_here", "_law_given", "_law_spot_here", "_law_value_here", "_law_kept", "_law_there", "_law_found", "_law_faults", "_law_turn", "_law_other", "_law_model_here", "_law_term_here", "_law_before", "_law_after", "_law_name", "_law_one", "_law_place_here"]) (sc := defScope sOne) (by decide +kernel))
          (fun _ _ _ _ _ => pg_name (i := 16) scOne.nd rfl (Or.inl rfl)) (fun _ _ _ _ _ => pts_one (pt_val (pe_call GM.ok hr1 (by rfl) GM.mg GM.kp GM.bd .nil pass0 (pa_cons (pv 16) (pa_cons (pv 2) pa_nil))))) (fun _ _ _ _ _ => pe_int)) (pe_lst pa_nil) (nomark _)) (pw_and1 (pt_cmpR op_ne (pe_callB (call_rep hgd hr.units) (by rfl) B.rep b_rep (pa_cons (pv 12) pa_nil)) (pe_callB (call_rep hgd hr.units) (by rfl) B.rep b_rep (pa_cons (pv 13) pa_nil)) (nomark _))))) (pss_one (ps_ret pe_bl)) pss_nil)
      (pss_one (ps_if (PW.pt (pw_and (pt_cmpR op_eq (pe_ix ix_tup (pv 13) pe_int (fun _ _ => rfl)) pe_str (nomark _)) (pw_and1 (pt_cmpR op_ne (pe_callB (call_rep hgd hr.units) (by rfl) B.rep b_rep (pa_cons (pe_ix ix_tup (pv 13) pe_int (fun _ _ => rfl)) pa_nil)) (pe_callB (call_rep hgd hr.units) (by rfl) B.rep b_rep (pa_cons (pe_call GN.ok hr9 (by rfl) GN.mg GN.kp GN.bd .nil pass0 (pa_cons (pv 10) (pa_cons (pv 6) pa_nil))) pa_nil)) (nomark _))))) (pss_one (ps_ret pe_bl)) pss_nil))))))))
      (pss_one (ps_ret pe_bl))))))))), ?_⟩
  have hZ := hK.z (by omega)
  have hK' := hK.put hg gx nx dx lr
  have hZ' := hK'.z (by omega)
  have hva : ∀ z ∈ gs, ∀ d, z.2 = some d → gd d = true ∧ nod d ≤ 5000 ∧ d.depth ≤ 40 := fun z m d e => by
    have q := hZ.va z m d e
    exact ⟨(gvb_gd (by decide) d q.1).1, by omega, by omega⟩
  have hlen := ins_lenZ hZ
  have prx : Prn x := val_prn gx (by omega) (by omega)
  have gdx := (gvb_gd (b := 10) (by decide) x gx).1
  have up0 : ∀ {Hx : Hp}, Same H Hx → InAt K CF Hx a kvs gs ∧ SqT K Hx t (plV r.1 r.2) ∧ Dp K Hx v x := fun {Hx} s => ⟨(hI.up (cut_same _ _)).up s, seqT_up s (.inl (.inl (cut_some hP).2)), Dp.up s _ _ (Dp.up (cut_same _ _) _ _ hv)⟩
  have l14 := okr.few
  have lk := Paired.length hI.vs
  have lf := hZ.few
  obtain ⟨i0, t0, _⟩ := up0 (Same.refl H)
  have hge : atI2 gs r.1 r.2 = some e := hg
  refine ⟨_, rfl, a, kvs, gs.map shownI, rfl, i0.at_, (fun o => ins_shown i0.at_ i0.vs hva), hlen, _, rfl, _, rfl, a, t, kvs, gs, r.1, r.2, rfl, i0, t0, by omega, (fun z => by rw [hge] at z; cases z), fun d0 hd0 u1 H1 s1 du1 => ?_⟩
  rw [hge] at hd0
  cases hd0
  obtain ⟨i1, t1, v1⟩ := up0 s1
  obtain ⟨dr, hdr, hdre⟩ := getG_some hg
  obtain ⟨gr, mgr, egr⟩ := getI_mem hdr
  have nb4 : ∀ d, getI gs r.1 = some (some d) → nod d ≤ 100000 := fun d hd => by
    obtain ⟨g', m', e'⟩ := getI_mem hd
    have := (hZ.va g' m' d e').2.1
    omega
  refine ⟨_, _, rfl, _, rfl, _, rfl, _, rfl, a, t, v, kvs, gs, r.1, r.2, x, rfl, i1, t1, by omega, by omega, v1, gdx, nb4, (fun z => by rw [okP_of hg] at z; cases z), fun _ qd u H2 s2 nq hq du => ?_⟩
  have s02 := s1.trans s2
  obtain ⟨i2, t2, v2⟩ := up0 s02
  have hF : InAt K CF H2 qd (putK kvs (.inr r.1) u) (putG gs r x) := i1.putG s2 hq du
  have hge' : atI2 (putG gs r x) r.1 r.2 = some x := get_putG x hg
  -- found there
  refine ⟨_, rfl, _, rfl, qd, t, _, _, r.1, r.2, rfl, hF, t2, by omega, (fun z => by rw [hge'] at z; cases z), fun d3 hd3 u3 H3 s3 du3 => ?_⟩
  rw [hge'] at hd3
  cases hd3
  obtain ⟨i3, t3, v3⟩ := up0 (s02.trans s3)
  refine ⟨u3, x, rfl, du3, prx, _, rfl, v, x, rfl, v3, prx, rfl, false, by simp, ?_⟩
  -- put back
  have hF3 := hF.up s3
  have nb4' : ∀ d, getI (putG gs r x) r.1 = some (some d) → nod d ≤ 100000 := fun d hd => by
    obtain ⟨g', m', e'⟩ := getI_mem hd
    have := (hZ'.va g' m' d e').2.1
    omega
  have ge : gd e = true := by
    have z := gv_at r.2 dr e hdre (hZ.va gr mgr dr egr).1
    exact (gvb_gd (by decide) e z.1).1
  have lk' := Paired.length hF.vs
  have lf' := hZ'.few
  refine ⟨_, rfl, _, rfl, _, rfl, qd, t, u1, _, _, r.1, r.2, e, rfl, hF3, t3, by omega, by omega, Dp.up (s2.trans s3) _ _ du1, ge, nb4', (fun z => by rw [okP_of (get_putG x hg)] at z; cases z), fun _ q2 u4 H4 s4 nq2 hq2 du4 => ?_⟩
  have hB : InAt K CF H4 q2 (putK (putK kvs (.inr r.1) u) (.inr r.1) u4) gs := by
    have z := hF3.putG s4 hq2 du4
    rw [putG_back x hI.nd hg] at z
    exact z
  obtain ⟨i4, t4, v4⟩ := up0 ((s02.trans s3).trans s4)
  have eqs := ins_eq hB.vs i4.vs hI.nd hZ fun n hn => by
    have nr : ¬ (Sum.inr n : Key) = Sum.inr r.1 := fun z => by
      rw [Sum.inr.inj z, hdr] at hn
      cases hn
    rw [valV_put, if_neg nr, valV_put, if_neg nr]
  refine ⟨_, rfl, 1, q2, a, by decide, rfl, rfl, .inr ⟨_, _, hB.at_, i4.at_, eqs.1, eqs.2⟩, false, rfl, ?_⟩
  refine ⟨_, rfl, a, kvs, gs.map shownI, rfl, i4.at_, (fun o => ins_shown i4.at_ i4.vs hva), hlen, _, rfl, rfl, false, (by simp), ?_⟩
  -- faults stay
  have hF4 := hF3.up s4
  have ha4 := i4.at_
  have nd := i4.vs.ndk hI.nd
  have nqa : qd ≠ a := fun z => by
    rw [z] at nq
    rw [i1.at_] at nq
    cases nq
  have hnF := fun n (hn : getI gs n = some none) => (show getI (putG gs r x) n = some none from by
    rw [getI_putG hdr, if_neg (fun z => by rw [z, hdr] at hn; cases hn)]
    exact hn)
  refine ⟨a, .dK kvs, ha4, trivial, fun od => ⟨_, rfl, a, od, rfl, .inl ⟨kvs, upd_same, fun D hD => lc_it (walk_keys (d := a) (o := od)) (fun i HA => ∃ xs, HA D = some (.lst xs) ∧ xs.length ≤ i ∧ Same (upd H4 a (.frz od (.dK kvs))) HA ∧ ∀ y ∈ xs, VaAt K CF H4 y none) ⟨[], upd_same, Nat.le_refl _, same_new hD _, fun _ z => nomatch z⟩ ?_ ?_ ?_⟩⟩⟩
  · rintro i HA hi ⟨xs, g1, g2, g3, g4⟩
    exact g3 _ _ upd_same
  · rintro i y HA HB hi ⟨xs, g1, g2, g3, g4⟩ ⟨rfl, kk, vv, hkv, rfl⟩
    obtain ⟨gg, hgg, ek, hvv⟩ := paired_at i4.vs hkv
    have ek : kk = .inr gg.1 := ek
    subst ek
    have haH : HB a = some (.frz od (.dK kvs)) := g3 _ _ upd_same
    have noA : ∀ b o, H4 b = some o → (∀ kvs, o ≠ .dK kvs) → HB b = some o := fun b o z no => by
      have nba : b ≠ a := fun e => no kvs (by rw [e, ha4] at z; exact (Option.some.inj z).symm)
      exact g3 _ _ (by rw [upd_ne nba]; exact z)
    have hv3 : VaAt K CF HB vv gg.2 := VaAt.noD noA hvv
    have hqB : HB qd = some (.dK (putK kvs (.inr r.1) u)) := g3 _ _ (by rw [upd_ne nqa]; exact hF4.at_)
    refine ⟨rfl, _, rfl, _, rfl, a, vv, rfl, .inl ⟨kvs, .inr gg.1, .inr ⟨od, haH⟩, rfl, (valV_at nd hkv).symm⟩, vv, gg.2, rfl, hv3, _, rfl, ?_⟩
    cases e2 : gg.2 with
    | some d => exact iteF ⟨xs, g1, by omega, g3, g4⟩
    | none =>
      have gi := getI_nd hI.nd hgg
      rw [e2] at gi
      have gF := hnF gg.1 gi
      rcases hF4.vs.get gg.1 with ⟨_, z2⟩ | ⟨w1, x1, z1, z2, z3⟩
      · rw [gF] at z2; cases z2
      · rw [gF] at z2
        cases z2
        refine iteT ⟨_, rfl, _, rfl, qd, w1, rfl, (by rw [← z1]; exact DGet.k (k := Sum.inr gg.1) hqB), xs, g1, few1 (by omega), xs ++ [w1], upd_same, by rw [List.length_append, List.length_singleton]; omega, ?_, fun y m => ?_⟩
        · intro b o z
          rw [upd_ne (ne_of_none z hD)]
          exact g3 _ _ z
        · rcases List.mem_append.mp m with h | h
          · exact g4 y h
          · rw [List.mem_singleton.mp h]; exact z3
  rintro HA ⟨xs, g1, g2, g3, g4⟩
  refine ⟨g3 _ _ upd_same, ?_⟩
  have naD : a ≠ D := ne_of_none upd_same hD
  have hD5 : (upd HA a (.dK kvs)) D = some (.lst xs) := by rw [upd_ne naD.symm]; exact g1
  have s5 : Same H4 (upd HA a (.dK kvs)) := fun b o z => by
    by_cases e : b = a
    · rw [e, upd_same, ← z, e, ha4]
    · rw [upd_ne e]
      exact g3 _ _ (by rw [upd_ne e]; exact z)
  clear g1 g3 hD
  generalize upd HA a (.dK kvs) = H5 at *
  -- and tell what they told
  refine ⟨_, rfl, D, rfl, ⟨_, SqL.of hD5⟩, fun D2 hD2 => lc_list (K := K) (a := D) (xs := xs) (fun i HB => HB D2 = some (.lst []) ∧ Same H5 HB) ⟨upd_same, same_new hD2 _⟩ (fun i HB _ ⟨_, s⟩ => SqL.of (s _ _ hD5)) ?_ ?_⟩
  · rintro i y HB hy ⟨k1, k2⟩
    obtain ⟨b, qp, rfl, ⟨dxf, hf⟩, hp⟩ := (g4 y (List.mem_of_getElem? hy)).up (s5.trans k2)
    have cl := TF.o.c.cl
    have prf : Prn (.list [.str "c", .tuple [.int 1]]) := prn_of (by decide +kernel) (by simp [nod, nods]) (by simp [PyData.depth, PyData.depthAll])
    refine ⟨rfl, _, rfl, b, CF, dxf, _, _, rfl, hf, cl, TF.nr, fl_rule _ _ _, _, rfl, b, CF, dxf, _, _, rfl, hf, cl, TF.np, fl_path _ _ _, few (by simp), fun l1 hl1 => ?_⟩
    have t1' := same_new hl1 (.lst [.str "c", .ref qp])
    refine ⟨.ref l1, .list [.str "c", .tuple [.int 1]], rfl, .lst (SqL.of upd_same) (.cons (.str _) (.cons (.tup (seqT_up t1' hp) (.cons (.int 1) .nil)) .nil)), prf, few (by simp), fun l2 hl2 => ⟨few (by simp), fun l3 hl3 => ?_⟩⟩
    have t2' := same_new hl2 (.tup [.int 1])
    have t3' := same_new hl3 (.lst [.str "c", .ref l2])
    refine ⟨.ref l3, .list [.str "c", .tuple [.int 1]], rfl, .lst (SqL.of upd_same) (.cons (.str _) (.cons (.tup (.inl (.inl (t3' _ _ upd_same))) (.cons (.int 1) .nil)) .nil)), prf, rfl, false, by simp, iteF ⟨?_, ?_⟩⟩
    · exact t3' _ _ (t2' _ _ (t1' _ _ k1))
    · exact k2.trans (t1'.trans (t2'.trans t3'))
  rintro HB ⟨k1, k2⟩
  refine ⟨by decide, fun e9 he9 => ⟨D2, e9, [], rfl, rfl, SqL.of ((same_new he9 _) _ _ k1), SqL.of upd_same, _, rfl, iteF ?_⟩⟩
  have s59 := k2.trans (same_new he9 (.lst []))
  have s49 := s5.trans s59
  generalize upd HB e9 (.lst []) = H9 at *
  have s04 := (s02.trans s3).trans s4
  have s09 := s04.trans s49
  have b9 := hb.same s09
  have o9 : Off [p, g] H H9 := Off.of s09
  have nqB : qd ∉ [p, g] := (hb.same s1).notin nq
  have fC9 : InAt K CF (cut [p, g] H9) qd (putK kvs (.inr r.1) u) (putG gs r x) := InAt.cutBox b9 nqB hZ'.vd (hF4.up s49)
  have trB : ∀ {Hx : Hp}, Box Hx p g → Tr [p, g] Hx := fun b => fun c hc => by
    have t := b.tr
    simp only [List.mem_cons, List.not_mem_nil, or_false] at hc
    rcases hc with h | h
    · rw [h]; exact t.1
    · rw [h]; exact t.2
  -- what holds later
  have later : ∀ {Hx : Hp}, Off [p, g] H9 Hx → InAt K CF (cut [p, g] Hx) a kvs gs ∧ InAt K CF (cut [p, g] Hx) qd (putK kvs (.inr r.1) u) (putG gs r x) ∧ cut [p, g] Hx t = some (.tup (plW r)) := fun o => ⟨hI.up (o9.trans o), fC9.up o, (o9.trans o) _ _ hP⟩
  refine ⟨4, rfl, by decide, by decide, for_range (n := 4) (fun i σ HC => ∃ w8 w9, σ = [some (.ref p), some (.ref a), some (.ref t), some v, some (.str (dictText (gs.map shownI))), some u1, some (.ref qd), some (.ref D), w8, w9, none, none, none, none, none, none, none] ∧ Box HC p g ∧ Off [p, g] H9 HC) ⟨none, none, rfl, b9, Off.refl _ _⟩ ?_ ?_⟩
  · rintro i σ HC hi ⟨w8, w9, rfl, bC, oC⟩
    obtain ⟨iC, fC, tC⟩ := later oC
    refine ⟨_, rfl, _, rfl, p, g, a, [p, g], kvs, gs, rfl, bC, trB bC, by simp, by simp, iC, hZ, fun vo HD bD oD hs => ?_⟩
    rcases hs with ⟨_, hn⟩ | ⟨t2, r2, e2, rfl, hP2, okr2, lr2, hg2⟩
    · exact absurd (hn gr mgr) (by rw [egr]; exact fun z => nomatch z)
    · have oCD := oC.trans oD
      obtain ⟨iD, fD, tD⟩ := later oCD
      have l14' := okr2.few
      refine ⟨_, rfl, _, rfl, t, t2, r, r2, rfl, .inl (.inl (cut_some tD).2), .inl (.inl (cut_some hP2).2), okr, okr2, fun HE sE => ⟨_, rfl, ?_⟩⟩
      have iE := (iD.up (cut_same _ _)).up sE
      have fE := (fD.up (cut_same _ _)).up sE
      have hE2 : HE t2 = some (.tup (plW r2)) := sE _ _ (cut_some hP2).2
      have bE := bD.same sE
      have oE := oCD.trans (Off.of (l := [p, g]) sE)
      cases hap : apart r r2 with
      | false => exact iteF ⟨_, _, rfl, bE, oE⟩
      | true =>
        have hge2 : atI2 gs r2.1 r2.2 = some e2 := hg2
        have hge2' : atI2 (putG gs r x) r2.1 r2.2 = some e2 := (getG_apart x hg hap).trans hg2
        have qe := at_gv hZ hge2
        have pre : Prn e2 := val_prn qe.1 qe.2.1 (by omega)
        refine iteT ⟨_, rfl, _, rfl, qd, t2, _, _, r2.1, r2.2, rfl, fE, .inl (.inl hE2), by omega, (fun z => by rw [hge2'] at z; cases z), fun d6 hd6 u6 HF sF du6 => ?_⟩
        rw [hge2'] at hd6
        cases hd6
        refine ⟨u6, e2, rfl, du6, pre, _, rfl, _, rfl, a, t2, kvs, gs, r2.1, r2.2, rfl, iE.up sF, .inl (.inl (sF _ _ hE2)), by omega, (fun z => by rw [hge2] at z; cases z), fun d7 hd7 u7 HG sG du7 => ?_⟩
        rw [hge2] at hd7
        cases hd7
        exact ⟨u7, e2, rfl, du7, pre, rfl, false, by simp, _, _, rfl, (bE.same sF).same sG, oE.trans (Off.of (l := [p, g]) (sF.trans sG))⟩
  rintro σ HC ⟨w8, w9, rfl, bC, oC⟩
  -- terms
  refine ⟨3, rfl, by decide, by decide, for_range (n := 3) (fun i σ HD => ∃ y8 y9 z0 z1 z2 z3, σ = [some (.ref p), some (.ref a), some (.ref t), some v, some (.str (dictText (gs.map shownI))), some u1, some (.ref qd), some (.ref D), y8, y9, z0, z1, z2, z3, none, none, none] ∧ Box HD p g ∧ Off [p, g] H9 HD) ⟨_, _, none, none, none, none, rfl, bC, oC⟩ ?_ ?_⟩
  · rintro i σ HD hi ⟨y8, y9, z0, z1, z2, z3, rfl, bD, oD⟩
    obtain ⟨iD, fD, tD⟩ := later oD
    refine ⟨_, rfl, _, rfl, p, g, a, 2, [p, g], kvs, gs, rfl, bD, by decide, by decide, trB bD, by simp, by simp, iD, hZ, fun mv mt HE bE oE mM ok lo dp wt => ?_⟩
    have oDE := oD.trans oE
    obtain ⟨iE, fE, tE⟩ := later oDE
    have mE := MdA.up (cut_same [p, g] HE) _ _ mM
    have iE := iE.up (cut_same _ _)
    have fE := fE.up (cut_same _ _)
    have tE : HE t = some (.tup (plW r)) := (cut_some tE).2
    refine ⟨_, rfl, mv, mt, rfl, mE, ok, by omega, by omega, fun tv HF sF tA => ?_⟩
    have w1 := wE_prn hZ ok wt (by omega)
    have w2 := wE_prn hZ' ok wt (by omega)
    have iF := iE.up sF
    have fF := fE.up sF
    refine ⟨_, rfl, _, rfl, tv, mt, a, kvs, gs, rfl, tA, ok, by omega, iF, hZ.vd, fun ub HG sG db => ⟨_, rfl, _, rfl, tv, mt, qd, _, _, rfl, TmA.up sG _ _ tA, ok, by omega, fF.up sG, hZ'.vd, fun ua HH sH da => ⟨_, _, rfl, ?_⟩⟩⟩
    have sFH := sG.trans sH
    refine ⟨_, rfl, _, rfl, tv, mt, a, kvs, gs, rfl, TmA.up sFH _ _ tA, ok, by omega, iF.up sFH, hZ.vd, fun uc HI sI dc => ⟨uc, _, rfl, dc, w1, _, rfl, ub, _, rfl, Dp.up (sH.trans sI) _ _ db, w1, rfl, false, by simp, iteF ?_⟩⟩
    have sFI := sFH.trans sI
    have tI := TmA.up sFI _ _ tA
    obtain ⟨ta, dx', fs, e1, bs, ps, rfl, ha', lp, lw', he1, pA, srt, ndp, pm⟩ := id tI.plsAt
    have lbs : bs.length = ps.length := Paired.length pA
    have lps : ps.length ≤ 80 := Nat.le_trans (nodup_len ndp fun z mz => (pm z).mp mz) (Nat.le_trans (Tm.pls_len mt) wt)
    have htI : HI t = some (.tup (plW r)) := (sF.trans sFI) _ _ tE
    -- does one of its places meet it?
    refine ⟨_, rfl, ta, C mt.ix, dx', fs, .ref e1, rfl, ha', (T6.fam.o mt.ix).c.cl, T6.na mt.ix _ (by cases mt.ix <;> simp [attsT]), lp, e1, rfl, ⟨_, .inl (.inl he1)⟩, fun D3 hD3 => lc_it (walk_tup (K := K) (a := e1) (xs := bs.map V.ref)) (fun j HJ => ∃ n : Nat, HJ D3 = some (.lst (List.replicate n (.int 1))) ∧ n ≤ j ∧ Same HI HJ ∧ (n = 0 → ∀ y ∈ ps.take j, apart y r = true)) ⟨0, upd_same, Nat.le_refl _, same_new hD3 _, fun _ _ z => nomatch z⟩ ?_ ?_ ?_⟩
    · rintro j HJ hj ⟨n, n1, n2, n3, n4⟩
      exact .inl (.inl (n3 _ _ he1))
    · rintro j y HJ HJ' hj ⟨n, n1, n2, n3, n4⟩ ⟨rfl, hy⟩
      rw [List.getElem?_map] at hy
      obtain ⟨b, hb', rfl⟩ := Option.map_eq_some_iff.mp hy
      obtain ⟨y, hyp, hby⟩ := paired_at pA hb'
      have oky : PlOk y := pls_ok ok y ((pm y).mp (List.mem_of_getElem? hyp))
      have jl : j < ps.length := (List.getElem?_eq_some_iff.mp hyp).1
      refine ⟨rfl, _, rfl, _, rfl, b, t, y, r, rfl, .inl (.inl (n3 _ _ hby)), .inl (.inl (n3 _ _ htI)), oky, okr, fun HK sK => ⟨_, rfl, ?_⟩⟩
      cases hap : apart y r with
      | false =>
        refine iteT ⟨_, sK _ _ n1, few1 (by rw [List.length_replicate]; omega), n + 1, by rw [upd_same, List.replicate_succ'], by omega, ?_, fun z => absurd z (by omega)⟩
        intro c o z
        rw [upd_ne (ne_of_none z hD3)]
        exact sK _ _ (n3 _ _ z)
      | true =>
        refine iteF ⟨n, sK _ _ n1, by omega, n3.trans sK, fun z y' m => ?_⟩
        rw [get_take hyp] at m
        rcases List.mem_append.mp m with h | h
        · exact n4 z y' h
        · rw [List.mem_singleton.mp h]; exact hap
    rintro HJ ⟨n, n1, n2, n3, n4⟩
    rw [List.length_map, lbs, List.take_length] at n4
    have og := ones_gd n
    refine ⟨by decide, fun e9 he9 => ⟨.list (List.replicate n (.int 1)), .list [], .lst (SqL.of ((same_new he9 _) _ _ n1)) (ones_dp n), .lst (SqL.of upd_same) .nil, shaped_of (by simpa only [gd] using og.1) (by simp only [PyData.depth, og.2]; omega), shaped_of (by simp only [gd, gds]) (by simp only [PyData.depth, PyData.depthAll]; omega), ?_⟩⟩
    rw [eqv_nil, ones_nil]
    have s9' := n3.trans (same_new he9 (.lst []))
    generalize upd HJ e9 (.lst []) = HL at *
    have dbL : Dp K HL ub (wE (evT gs mt)) := Dp.up ((sH.trans sI).trans s9') _ _ db
    have daL : Dp K HL ua (wE (evT (putG gs r x) mt)) := Dp.up (sI.trans s9') _ _ da
    have sEL := (sF.trans sFI).trans s9'
    have bL := bE.same sEL
    have oL : Off [p, g] H9 HL := oDE.trans (Off.of (l := [p, g]) sEL)
    have fL := fE.up sEL
    have mL := MdA.up sEL _ _ mE
    -- what follows
    obtain ⟨rr, yv, rfl, hrr, dyy⟩ := wE_at daL
    by_cases hn : n = 0
    · have eqE : evT (putG gs r x) mt = evT gs mt := ev_apart mt fun y my => getG_apart x hg (by rw [apart_comm]; exact n4 hn y ((pm y).mpr my))
      rw [decide_eq_true hn]
      refine ⟨_, rfl, iteT ⟨_, rfl, ub, _, rfl, dbL, w1, _, rfl, .ref rr, _, rfl, daL, w2, rfl, false, by simp [eqE], ?_⟩⟩
      cases he : evT (putG gs r x) mt with
      | error pe =>
        rw [he] at hrr
        exact ⟨_, rfl, rr, _, 0, _, rfl, rfl, hrr, rfl, rfl, false, bneq (fun z => nTN z.symm), iteF ⟨_, _, _, _, _, _, rfl, bL, oL⟩⟩
      | ok d9 =>
        rw [he] at hrr dyy
        have p9 : Prn d9 := ev_prn hZ' ok wt (by omega) he
        refine ⟨_, rfl, rr, _, 0, _, rfl, rfl, hrr, rfl, rfl, true, beqq _, iteT ⟨_, rfl, rr, _, 1, yv, rfl, rfl, hrr, rfl, yv, d9, rfl, dyy, p9, _, rfl, _, rfl, mv, mt, qd, _, _, d9, rfl, mL, ok, by omega, by omega, fL, hZ'.vd, he, fun u8 HM sM d8 => ⟨u8, d9, rfl, d8, p9, rfl, false, by simp, ?_⟩⟩⟩
        exact ⟨_, _, _, _, _, _, rfl, bL.same sM, oL.trans (Off.of (l := [p, g]) sM)⟩
    · rw [decide_eq_false hn]
      refine ⟨_, rfl, iteF ?_⟩
      cases he : evT (putG gs r x) mt with
      | error pe =>
        rw [he] at hrr
        exact ⟨_, rfl, rr, _, 0, _, rfl, rfl, hrr, rfl, rfl, false, bneq (fun z => nTN z.symm), iteF ⟨_, _, _, _, _, _, rfl, bL, oL⟩⟩
      | ok d9 =>
        rw [he] at hrr dyy
        have p9 : Prn d9 := ev_prn hZ' ok wt (by omega) he
        refine ⟨_, rfl, rr, _, 0, _, rfl, rfl, hrr, rfl, rfl, true, beqq _, iteT ⟨_, rfl, rr, _, 1, yv, rfl, rfl, hrr, rfl, yv, d9, rfl, dyy, p9, _, rfl, _, rfl, mv, mt, qd, _, _, d9, rfl, mL, ok, by omega, by omega, fL, hZ'.vd, he, fun u8 HM sM d8 => ⟨u8, d9, rfl, d8, p9, rfl, false, by simp, ?_⟩⟩⟩
        exact ⟨_, _, _, _, _, _, rfl, bL.same sM, oL.trans (Off.of (l := [p, g]) sM)⟩
  · rintro σ HD ⟨y8, y9, z0, z1, z2, z3, rfl, bD, oD⟩
    exact q HD bD (o9.trans oD)
end
/-! two replacements -/
abbrev sBoth : Stmt := topS 40
theorem scBoth : FnScope ["_law_box_here", "_law_given", "_law_spot_here", "_law_value_here", "_law_other", "_law_more", "_law_one"] ["_law_box_here", "_law_given", "_law_spot_here", "_law_value_here"] (defScope sBoth) := ⟨rfl, rfl, rfl, by decide +kernel, rfl, by decide +kernel, by decide +kernel⟩
section
variable {P : Program} {w : World} {K : PySem.W.Frag} {mg : Str → Option Value} {base : Heap} {f CF CE fE fV fW fS fM fL : Addr} {fd dV dW dS dM dL : FuncData}
set_option maxHeartbeats 4000000 in
theorem ok_both {k : Nat} (F : Fun K "_law_both_right" "_law_both_right" sBoth f fd) (B : Bi mg)
    (GV : FnOk P w K mg base (L2.CX P w) 4 fV dV ["inputs", "place"] (spValAt K CF CE)) (kV : PySem.W.keepIn K (.ref fV) = true) (bV : Binds K dV ["inputs", "place"] []) (mV : mg "value_at" = some (.ref fV))
    (GW : FnOk P w K mg base (L2.CX P w) 4 fW dW ["inputs", "place", "value"] (spWith K CF CE)) (kW : PySem.W.keepIn K (.ref fW) = true) (bW : Binds K dW ["inputs", "place", "value"] []) (mW : mg "with_part" = some (.ref fW))
    (GS : Dn P w K mg base 3 "_law_spot" ["_law_box_here", "_law_given"] (spSpot K CF) fS dS) (GM : Dn P w K mg base 1 "_law_meet" ["_law_one", "_law_other"] (spMeet K) fM dM) (GL : Dn P w K mg base 12 "_law_value" ["_law_box_here", "_law_deep"] (spValue K) fL dL) :
    FnOk P w K mg base CX0 (k + 13) f fd ["_law_box_here", "_law_given", "_law_spot_here", "_law_value_here"] (spOne K CF) := by
  refine F.ok scBoth (fun vs H Q E h => ?_) (fun cdv A outer s H vs Q E hr h => ?_)
  · obtain ⟨p, g, a, t, v, kvs, gs, k, r, e, x, rfl, _⟩ := h
    rfl
  obtain ⟨p, g, a, t, v, kvs, gs, k0, r, e, x, rfl, hb, hI, hK, k3, hP, okr, lr, hg, hv, gx, nx, dx, q⟩ := h
  have hr1 : Room 1 _ := hr.mono (by omega)
  have hr3 : Room 3 _ := hr.mono (by omega)
  have hr4 : Room 4 _ := hr.mono (by omega)
  have hr12 : Room 12 _ := hr.mono (by omega)
  have hun := hr.un
  have hu120 : (A.deeper (envOfC "_law_both_right" (defScope sBoth) s.heap.objs.size f cdv)).units + 120 < cLine := by omega
  refine ⟨_, pss_cons (ps_par (i := 4) (j := 5) (by rfl) scBoth.nd rfl rfl (by decide) rfl rfl (pa_cons (pe_call GS.ok hr3 (by rfl) GS.mg GS.kp GS.bd .nil pass0 (pa_cons (pv 0) (pa_cons (pv 1) pa_nil))) (pa_cons (pe_call GL.ok hr12 (by rfl) GL.mg GL.kp GL.bd .nil pass0 (pa_cons (pv 0) (pa_cons pe_int pa_nil))) pa_nil)) (by rfl))
    (pss_cons (ps_if (pt_val (pe_call GM.ok hr1 (by rfl) GM.mg GM.kp GM.bd .nil pass0 (pa_cons (pv 2) (pa_cons (pv 4) pa_nil)))) (pss_one (ps_ret pe_bl)) pss_nil)
    (pss_cons (ps_set (i := 6) scBoth.nd rfl (.inl rfl) (pe_call GW hr4 (by rfl) mW kW bW .nil passX (pa_cons (pe_call GW hr4 (by rfl) mW kW bW .nil passX (pa_cons (pv 1) (pa_cons (pv 2) (pa_cons (pv 3) pa_nil)))) (pa_cons (pv 4) (pa_cons (pv 5) pa_nil)))))
    (pss_one (ps_ret (pe_and (pe_cmpR (op_eqS hu120) (pv 6) (pe_call GW hr4 (by rfl) mW kW bW .nil passX (pa_cons (pe_call GW hr4 (by rfl) mW kW bW .nil passX (pa_cons (pv 1) (pa_cons (pv 4) (pa_cons (pv 5) pa_nil)))) (pa_cons (pv 2) (pa_cons (pv 3) pa_nil)))) (nomark _))
      (pe_one (pe_cmpR (op_eqD hr.units) (pe_call GV hr4 (by rfl) mV kV bV .nil passX (pa_cons (pv 6) (pa_cons (pv 2) pa_nil))) (pv 3) (nomark _)))))))), ?_⟩
  have hZ := hK.z (by omega)
  have trB : ∀ {Hx : Hp}, Box Hx p g → Tr [p, g] Hx := fun b => fun c hc => by
    have t := b.tr
    simp only [List.mem_cons, List.not_mem_nil, or_false] at hc
    rcases hc with h | h
    · rw [h]; exact t.1
    · rw [h]; exact t.2
  obtain ⟨dr, hdr, hdre⟩ := getG_some hg
  obtain ⟨gr, mgr, egr⟩ := getI_mem hdr
  refine ⟨_, rfl, _, rfl, p, g, a, [p, g], kvs, gs, rfl, hb, trB hb, by simp, by simp, hI, hZ, fun vo H1 b1 o1 hs => ?_⟩
  rcases hs with ⟨_, hn⟩ | ⟨t2, r2, e2, rfl, hP2, okr2, lr2, hg2⟩
  · exact absurd (hn gr mgr) (by rw [egr]; exact fun z => nomatch z)
  refine ⟨_, rfl, p, g, 2, [p, g], rfl, b1, by decide, by decide, trB b1, fun v2 x2 H2 b2 o2 hv2 gx2 dx2 nx2 => ⟨_, _, rfl, ?_⟩⟩
  have o02 := o1.trans o2
  have t2' : H2 t = some (.tup (plW r)) := (cut_some (o02 _ _ hP)).2
  have tt2 : H2 t2 = some (.tup (plW r2)) := (cut_some (o2 _ _ hP2)).2
  have l14 := okr.few
  have l14' := okr2.few
  refine ⟨_, rfl, _, rfl, t, t2, r, r2, rfl, .inl (.inl t2'), .inl (.inl tt2), okr, okr2, fun H3 s3 => ⟨_, rfl, ?_⟩⟩
  have b3 := b2.same s3
  have o3 := o02.trans (Off.of (l := [p, g]) s3)
  cases hap : apart r r2 with
  | false => exact iteT (q H3 b3 o3)
  | true =>
    have dx2' : x2.depth ≤ 3 := by omega
    have hK1 := hK.put hg gx nx dx lr
    have hg21 : getG (putG gs r x) r2 = some e2 := (getG_apart x hg hap).trans hg2
    have hg12 : getG (putG gs r2 x2) r = some e := (getG_apart x2 hg2 (by rw [apart_comm]; exact hap)).trans hg
    have hK12 := hK1.put hg21 gx2 nx2 dx2' lr2
    have hK2 := hK.put hg2 gx2 nx2 dx2' lr2
    have hZ1 := hK1.z (by omega)
    have hZ12 := hK12.z (by omega)
    have hZ2 := hK2.z (by omega)
    have gdx := (gvb_gd (b := 10) (by decide) x gx).1
    have gdx2 := (gvb_gd (b := 10) (by decide) x2 gx2).1
    have nb : ∀ {gs : Ins}, InsZ gs → ∀ n d, getI gs n = some (some d) → nod d ≤ 100000 := fun hz n d hd => by
      obtain ⟨g', m', e'⟩ := getI_mem hd
      have := (hz.va g' m' d e').2.1
      omega
    have nl : ∀ {Hx : Hp} {b : Addr} {ks : List (Key × V)} {gs : Ins}, InsZ gs → InAt K CF Hx b ks gs → ks.length ≤ 100 := fun hz h => by
      have := Paired.length h.vs
      have := hz.few
      omega
    have i3 : InAt K CF H3 a kvs gs := (hI.up o3).up (cut_same _ _)
    have v3 : Dp K H3 v x := Dp.up (cut_same _ _) _ _ (Dp.up o3 _ _ hv)
    have v23 : Dp K H3 v2 x2 := Dp.up ((cut_same _ H2).trans s3) _ _ hv2
    have t3 := s3 _ _ t2'
    have tt3 := s3 _ _ tt2
    refine iteF ⟨_, rfl, _, rfl, _, rfl, a, t, v, kvs, gs, r.1, r.2, x, rfl, i3, .inl (.inl t3), by omega, nl hZ i3, v3, gdx, nb hZ r.1, (fun z => by rw [okP_of hg] at z; cases z), fun _ q1 u1 H4 s4 nq1 hq1 du1 => ?_⟩
    have iA : InAt K CF H4 q1 (putK kvs (.inr r.1) u1) (putG gs r x) := i3.putG s4 hq1 du1
    refine ⟨_, rfl, _, rfl, q1, t2, v2, _, _, r2.1, r2.2, x2, rfl, iA, .inl (.inl (s4 _ _ tt3)), by omega, nl hZ1 iA, Dp.up s4 _ _ v23, gdx2, nb hZ1 r2.1, (fun z => by rw [okP_of hg21] at z; cases z), fun _ q2 u2 H5 s5 nq2 hq2 du2 => ?_⟩
    have iB : InAt K CF H5 q2 (putK (putK kvs (.inr r.1) u1) (.inr r2.1) u2) (putG (putG gs r x) r2 x2) := iA.putG s5 hq2 du2
    have s35 := s4.trans s5
    have i5 := i3.up s35
    refine ⟨_, rfl, _, rfl, _, rfl, _, rfl, a, t2, v2, kvs, gs, r2.1, r2.2, x2, rfl, i5, .inl (.inl (s35 _ _ tt3)), by omega, nl hZ i5, Dp.up s35 _ _ v23, gdx2, nb hZ r2.1, (fun z => by rw [okP_of hg2] at z; cases z), fun _ q3 u3 H6 s6 nq3 hq3 du3 => ?_⟩
    have iC : InAt K CF H6 q3 (putK kvs (.inr r2.1) u3) (putG gs r2 x2) := i5.putG s6 hq3 du3
    have s36 := s35.trans s6
    refine ⟨_, rfl, _, rfl, q3, t, v, _, _, r.1, r.2, x, rfl, iC, .inl (.inl (s36 _ _ t3)), by omega, nl hZ2 iC, Dp.up s36 _ _ v3, gdx, nb hZ2 r.1, (fun z => by rw [okP_of hg12] at z; cases z), fun _ q4 u4 H7 s7 nq4 hq4 du4 => ?_⟩
    have iD : InAt K CF H7 q4 (putK (putK kvs (.inr r2.1) u3) (.inr r.1) u4) (putG (putG gs r2 x2) r x) := iC.putG s7 hq4 du4
    rw [← putG_comm x x2 hg hg2 hap] at iD
    have iB7 := iB.up (s6.trans s7)
    obtain ⟨d1, hd1, _⟩ := getG_some hg21
    obtain ⟨d2, hd2, _⟩ := getG_some hg2
    have eqs := ins_eq iB7.vs iD.vs iB7.nd hZ12 fun n hn => by
      have n2 : ¬ n = r2.1 := fun z => by
        rw [z, getI_putG hd1, if_pos rfl] at hn
        cases hn
      have n1 : ¬ n = r.1 := fun z => by
        rw [getI_putG hd1, if_neg n2, getI_putG hdr, if_pos z] at hn
        cases hn
      have k1 : ¬ (Sum.inr n : Key) = Sum.inr r.1 := fun z => n1 (Sum.inr.inj z)
      have k2 : ¬ (Sum.inr n : Key) = Sum.inr r2.1 := fun z => n2 (Sum.inr.inj z)
      rw [valV_put, if_neg k2, valV_put, if_neg k1, valV_put, if_neg k1, valV_put, if_neg k2]
    refine ⟨1, by decide, .inl (.inr ⟨q2, q4, _, _, rfl, rfl, iB7.at_, iD.at_, eqs.1, eqs.2⟩), true, rfl, iteT ?_⟩
    have s37 := s36.trans s7
    have hge : atI2 (putG (putG gs r x) r2 x2) r.1 r.2 = some x := (getG_apart x2 hg21 (by rw [apart_comm]; exact hap)).trans (get_putG x hg)
    refine ⟨_, rfl, _, rfl, q2, t, _, _, r.1, r.2, rfl, iB7, .inl (.inl (s37 _ _ t3)), by omega, (fun z => by rw [hge] at z; cases z), fun d8 hd8 u8 H8 s8 du8 => ?_⟩
    rw [hge] at hd8
    cases hd8
    have sh : SeqAt.shaped x = true := shaped_of gdx (by omega)
    refine ⟨_, rfl, x, x, du8, Dp.up (s37.trans s8) _ _ v3, sh, sh, ?_⟩
    rw [SeqAt.eqv_refl x (SeqAt.canLay_of_shaped sh)]
    exact q H8 (b3.same (s37.trans s8)) (o3.trans (Off.of (l := [p, g]) (s37.trans s8)))
end
/-! the law -/
abbrev sLaw : Stmt := topS 41
theorem scLaw : FnScope ["_law_script", "_law_box_here", "_law_turn", "_law_given", "_law_more", "_law_spot_here", "_law_value_here"] ["_law_script"] (defScope sLaw) := ⟨rfl, rfl, rfl, by decide +kernel, rfl, by decide +kernel, by decide +kernel⟩
def spLaw (K : PySem.W.Frag) : Sp := fun vs H Q _ => ∃ (a : Addr) (ns : List Int), vs = [.ref a] ∧ SqL K H a (ns.map V.int) ∧ ns.length ≤ 63 ∧ ∀ H', Q (.bl true) H'
section
variable {P : Program} {w : World} {K : PySem.W.Frag} {mg : Str → Option Value} {base : Heap} {f fB fT fI fS fL fW fR fBo CF CE : Addr} {fd dB dT dI dS dL dW dR dBo : FuncData}
set_option maxHeartbeats 4000000 in
theorem ok_law (F : Fun K "law" "law" sLaw f fd) (B : Bi mg) (GB : Dn P w K mg base 1 "_law_box" ["_law_script", "_law_base"] (spBox K) fB dB) (T : Tk P w K mg base fT dT)
    (GI : Dn P w K mg base 13 "_law_inputs" ["_law_box_here"] (spInputs K CF) fI dI) (GS : Dn P w K mg base 3 "_law_spot" ["_law_box_here", "_law_given"] (spSpot K CF) fS dS) (GL : Dn P w K mg base 12 "_law_value" ["_law_box_here", "_law_deep"] (spValue K) fL dL)
    (GW : FnOk P w K mg base (L2.CX P w) 4 fW dW ["inputs", "place", "value"] (spWith K CF CE)) (kW : PySem.W.keepIn K (.ref fW) = true) (bW : Binds K dW ["inputs", "place", "value"] []) (mW : mg "with_part" = some (.ref fW))
    (GR : FnG P w K mg base CX0 14 fR dR ["_law_box_here", "_law_given", "_law_spot_here", "_law_value_here"] (spOne K CF)) (kR : PySem.W.keepIn K (.ref fR) = true) (bR : Binds K dR ["_law_box_here", "_law_given", "_law_spot_here", "_law_value_here"] []) (mR : mg "_law_one_right" = some (.ref fR))
    (GBo : Dn P w K mg base 13 "_law_both_right" ["_law_box_here", "_law_given", "_law_spot_here", "_law_value_here"] (spOne K CF) fBo dBo) :
    FnG P w K mg base CX0 15 f fd ["_law_script"] (spLaw K) := by
  refine okG F scLaw (fun vs H Q E h => ?_) (fun cdv A outer s H vs Q E hgd hr h => ?_)
  · obtain ⟨a, ns, rfl, _⟩ := h
    rfl
  obtain ⟨a, ns, rfl, hS, hlen, q⟩ := h
  have hr1 : Room 1 _ := hr.mono (by decide)
  have hr3 : Room 3 _ := hr.mono (by decide)
  have hr4 : Room 4 _ := hr.mono (by decide)
  have hr12 : Room 12 _ := hr.mono (by decide)
  have hr13 : Room 13 _ := hr.mono (by decide)
  refine ⟨_, pss_cons (ps_set (i := 1) scLaw.nd rfl (.inl rfl) (pe_call GB.ok hr1 (by rfl) GB.mg GB.kp GB.bd .nil pass0 (pa_cons (pv 0) (pa_cons pe_int pa_nil))))
    (pss_cons (ps_for PassesOwn.never rfl (pi_range1 (by rfl) B.rng (pa_cons pe_int pa_nil)) (pg_name (i := 2) scLaw.nd rfl (.inl rfl))
      (pss_cons (ps_set (i := 3) scLaw.nd rfl (.inl rfl) (pe_call GI.ok hr13 (by rfl) GI.mg GI.kp GI.bd .nil pass0 (pa_cons (pv 1) pa_nil)))
      (pss_one (ps_for PassesOwn.never rfl (pi_range1 (by rfl) B.rng (pa_cons pe_int pa_nil)) (pg_name (i := 4) scLaw.nd rfl (.inl rfl))
        (pss_cons (ps_par (i := 5) (j := 6) (by rfl) scLaw.nd rfl rfl (by decide) rfl rfl (pa_cons (pe_call GS.ok hr3 (by rfl) GS.mg GS.kp GS.bd .nil pass0 (pa_cons (pv 1) (pa_cons (pv 3) pa_nil))) (pa_cons (pe_call GL.ok hr12 (by rfl) GL.mg GL.kp GL.bd .nil pass0 (pa_cons (pv 1) (pa_cons pe_int pa_nil))) pa_nil)) (by rfl))
        (pss_cons (ps_if (pt_cmp (pc_isN (pv 5))) (pss_one ps_break) pss_nil)
        (pss_cons (ps_if (PW.pt (pw_or (pt_not (pt_val (pe_callG GR hgd hr (by rfl) mR kR bR .nil pass0 (pa_cons (pv 1) (pa_cons (pv 3) (pa_cons (pv 5) (pa_cons (pv 6) pa_nil)))))))
            (pw_or1 (pt_not (pt_val (pe_call GBo.ok hr13 (by rfl) GBo.mg GBo.kp GBo.bd .nil pass0 (pa_cons (pv 1) (pa_cons (pv 3) (pa_cons (pv 5) (pa_cons (pv 6) pa_nil)))))))))) (pss_one (ps_ret pe_bl)) pss_nil)
        (pss_one (ps_set (i := 3) scLaw.nd rfl (.inl rfl) (pe_ifExp (pt_cmpR op_eq (pe_call T.ok hr1 (by rfl) T.mg T.kp T.bd .nil pass0 (pa_cons (pv 1) (pa_cons pe_int pa_nil))) pe_int (nomark _))
            (pe_call GW hr4 (by rfl) mW kW bW .nil passX (pa_cons (pv 3) (pa_cons (pv 5) (pa_cons (pv 6) pa_nil)))) (pv 3)))))))))))
    (pss_one (ps_ret pe_bl))), ?_⟩
  have trB : ∀ {Hx : Hp} {p g : Addr}, Box Hx p g → Tr [p, g] Hx := fun b => fun c hc => by
    have t := b.tr
    simp only [List.mem_cons, List.not_mem_nil, or_false] at hc
    rcases hc with h | h
    · rw [h]; exact t.1
    · rw [h]; exact t.2
  refine ⟨_, rfl, a, ns, 0, rfl, hS, hlen, Int.le_refl _, by decide, fun p g H1 b1 s1 np ng => ?_⟩
  refine ⟨3, rfl, by decide, by decide, for_range (n := 3) (fun i σ H2 => ∃ o2 o3 o4 o5 o6, σ = [some (.ref a), some (.ref p), o2, o3, o4, o5, o6] ∧ Box H2 p g) ⟨none, none, none, none, none, rfl, b1⟩ ?_ ?_⟩
  · rintro i σ H2 hi ⟨o2, o3, o4, o5, o6, rfl, b2⟩
    refine ⟨_, rfl, p, g, [p, g], rfl, b2, trB b2, fun u kvs gs H3 b3 f3 nu hI hO => ?_⟩
    refine ⟨4, rfl, by decide, by decide, for_range (n := 4) (fun j σ H4 => ∃ o2 o4 o5 o6 u kvs gs, σ = [some (.ref a), some (.ref p), o2, some (.ref u), o4, o5, o6] ∧ Box H4 p g ∧ InAt K CF (cut [p, g] H4) u kvs gs ∧ InsK j gs) ⟨_, _, _, _, u, kvs, gs, rfl, b3, hI, hO.k⟩ ?_ ?_⟩
    · rintro j σ H4 hj ⟨o2, o4, o5, o6, u, kvs, gs, rfl, b4, hI4, hK⟩
      have hZ := hK.z (by omega)
      refine ⟨_, rfl, _, rfl, p, g, u, [p, g], kvs, gs, rfl, b4, trB b4, by simp, by simp, hI4, hZ, fun vo H5 b5 f5 hs => ?_⟩
      refine ⟨_, rfl, p, g, 3, [p, g], rfl, b5, by decide, by decide, trB b5, fun v x H6 b6 f6 hv gx dx nx => ⟨_, _, rfl, ?_⟩⟩
      have f46 := f5.trans f6
      have hI6 := hI4.up f46
      rcases hs with ⟨rfl, hn⟩ | ⟨t, r, e, rfl, hP, okr, lr, hg⟩
      · exact ⟨_, rfl, true, (by rw [decide_eq_true rfl]), iteT ⟨_, _, _, _, _, rfl, b6⟩⟩
      have hP6 := f6 _ _ hP
      have dx3 : x.depth ≤ 3 := by omega
      refine ⟨_, rfl, false, (by rw [decide_eq_false (fun z => nomatch z)]), iteF ?_⟩
      refine ⟨_, rfl, _, rfl, _, rfl, _, rfl, p, g, u, t, v, kvs, gs, j, r, e, x, rfl, b6, hI6, hK, by omega, hP6, okr, lr, hg, hv, gx, nx, dx3, fun H7 b7 f7 => ⟨true, rfl, iteF ?_⟩⟩
      have hI7 := hI6.up f7
      have hP7 := f7 _ _ hP6
      have hv7 := Dp.up f7 _ _ hv
      refine ⟨_, rfl, _, rfl, _, rfl, _, rfl, p, g, u, t, v, kvs, gs, j, r, e, x, rfl, b7, hI7, hK, by omega, hP7, okr, lr, hg, hv7, gx, nx, dx3, fun H8 b8 f8 => ⟨true, rfl, iteF ?_⟩⟩
      have hI8 := hI7.up f8
      refine ⟨_, rfl, p, g, 2, rfl, b8, by decide, by decide, fun rr H9 r0 r2 b9 f9 => ⟨rfl, _, rfl, ite2 (fun _ => ?_) (fun _ => ?_)⟩⟩
      · have hI9 := (hI8.up f9).up (cut_same _ _)
        have t9 : H9 t = some (.tup (plW r)) := (cut_some (f9 _ _ (f8 _ _ hP7))).2
        have v9 : Dp K H9 v x := Dp.up (cut_same _ _) _ _ (Dp.up f9 _ _ (Dp.up f8 _ _ hv7))
        have l14 := okr.few
        have lk := Paired.length hI9.vs
        have lf := hZ.few
        refine ⟨_, rfl, _, rfl, _, rfl, u, t, v, kvs, gs, r.1, r.2, x, rfl, hI9, .inl (.inl t9), by omega, by omega, v9, (gvb_gd (b := 10) (by decide) x gx).1, (fun d hd => by
          obtain ⟨g', m', e'⟩ := getI_mem hd
          have := (hZ.va g' m' d e').2.1
          omega), (fun z => by rw [okP_of hg] at z; cases z), fun _ q1 u1 HA sA nq1 hq1 du1 => ?_⟩
        have hK' := hK.put hg gx nx dx3 lr
        have bA := b9.same sA
        have nqB : q1 ∉ [p, g] := b9.notin nq1
        have hA : InAt K CF HA q1 (putK kvs (.inr r.1) u1) (putG gs r x) := hI9.putG sA hq1 du1
        exact ⟨_, _, _, _, q1, _, _, rfl, bA, InAt.cutBox bA nqB (hK'.z (by omega)).vd hA, hK'⟩
      · exact ⟨_, rfl, _, _, _, _, u, kvs, gs, rfl, b9, hI8.up f9, hK.mono (by omega)⟩
    · rintro σ H4 ⟨o2, o4, o5, o6, u, kvs, gs, rfl, b4, hI4, hK⟩
      exact ⟨_, _, _, _, _, rfl, b4⟩
  · rintro σ H2 ⟨o2, o3, o4, o5, o6, rfl, b2⟩
    exact q _
end
theorem kit_me {K : PySem.W.Frag} {C : Addr} : PySem.W.kitOne K (.ref C) (.ref C) = some true := by
  unfold PySem.W.kitOne
  simp
theorem kit_own {K : PySem.W.Frag} {C : Addr} {T : String} (c : (PySem.W.clsIn K C).isSome = true) (t : PySem.W.typeIn K (.ref C) = some (.type "type")) (s : PySem.W.subIn K (.type T) (.ref C) = some false) : PySem.W.kitOne K (.type T) (.ref C) = some false := by
  unfold PySem.W.kitOne PySem.W.kitCls
  rw [if_neg (show ¬ (Value.type T == Value.ref C) = true from by intro z; cases z)]
  show (if ((PySem.W.clsIn K C).isSome && PySem.W.typeIn K (.ref C) == some (.type "type")) = true then PySem.W.subIn K (.type T) (.ref C) else none) = some false
  rw [c, t]
  simp only [beq_self_eq_true, Bool.and_self, if_true]
  exact s
theorem kit_ofC {K : PySem.W.Frag} {C : Addr} {T : String} (m : PySem.W.kitMeta T = true) (s : PySem.W.subIn K (.ref C) (.type T) = some false) : PySem.W.kitOne K (.ref C) (.type T) = some false := by
  unfold PySem.W.kitOne PySem.W.kitCls
  rw [if_neg (show ¬ (Value.ref C == Value.type T) = true from by intro z; cases z)]
  show (if PySem.W.kitMeta T = true then _ else _) = _
  rw [if_pos m]
  exact s
theorem kmt1 : PySem.W.kitMeta "NoneType" = true := by decide +kernel
theorem kmt2 : PySem.W.kitMeta "bool" = true := by decide +kernel
theorem kmt3 : PySem.W.kitMeta "int" = true := by decide +kernel
theorem kmt4 : PySem.W.kitMeta "str" = true := by decide +kernel
theorem kmt5 : PySem.W.kitMeta "list" = true := by decide +kernel
theorem kmt6 : PySem.W.kitMeta "tuple" = true := by decide +kernel
/-! facts of classes, put together -/
def TI.pick {α : Type} (a b c d : α) : TI → α
  | .l => a
  | .w => b
  | .s => c
  | .b => d
theorem kit_cc {K : PySem.W.Frag} {C D : Addr} {b : Bool} (c : (PySem.W.clsIn K D).isSome = true) (t : PySem.W.typeIn K (.ref D) = some (.type "type")) (s : PySem.W.subIn K (.ref C) (.ref D) = some b) (h : C = D → b = true) : PySem.W.kitOne K (.ref C) (.ref D) = some b := by
  unfold PySem.W.kitOne PySem.W.kitCls
  by_cases e : (Value.ref C == Value.ref D) = true
  · rw [if_pos e]
    have e2 : C = D := Value.ref.inj (beq_iff_eq.mp e)
    rw [h e2]
  · rw [if_neg e]
    show (if ((PySem.W.clsIn K D).isSome && PySem.W.typeIn K (.ref D) == some (.type "type")) = true then PySem.W.subIn K (.ref C) (.ref D) else none) = some b
    rw [c, t]
    simp only [beq_self_eq_true, Bool.and_self, if_true]
    exact s
theorem sub_ne {K : PySem.W.Frag} {C D : Addr} (s : PySem.W.subIn K (.ref C) (.ref D) = some false) (r : PySem.W.subIn K (.ref C) (.ref C) = some true) : C ≠ D := fun e => by
  rw [← e, r] at s
  cases s
theorem fnOk_void {P : Program} {w : World} {K : PySem.W.Frag} {mg : Str → Option Value} {base : Heap} {CX : CXT} {k : Nat} {f : Addr} {fd : FuncData} {ps : List Str} {sp : Sp} (h : ∀ vs H Q E, ¬ sp vs H Q E) : FnOk P w K mg base CX k f fd ps sp :=
  ⟨fun vs H Q E z => absurd z (h vs H Q E), fun A outer s H args us vs Q E _ _ _ _ z => absurd z (h vs H Q E)⟩
theorem all3 {P : Str → Prop} {a b c : Str} (h1 : P a) (h2 : P b) (h3 : P c) : ∀ f ∈ [a, b, c], P f := fun f hf => by
  simp only [List.mem_cons, List.not_mem_nil, or_false] at hf
  rcases hf with h | h | h <;> rw [h] <;> assumption
theorem all4 {P : Str → Prop} {a b c d : Str} (h1 : P a) (h2 : P b) (h3 : P c) (h4 : P d) : ∀ f ∈ [a, b, c, d], P f := fun f hf => by
  simp only [List.mem_cons, List.not_mem_nil, or_false] at hf
  rcases hf with h | h | h | h <;> rw [h] <;> assumption
section
variable {K : PySem.W.Frag} {C : TI → Addr} {CF CE : Addr} {ok ok' : Tm → Prop} {vs : List V} {H : Hp} {Q : VK} {E : XK}
theorem spCall_imp (h : ∀ t, ok' t → ok t) (z : spCall K C CF CE ok' vs H Q E) : spCall K C CF CE ok vs H Q E := by
  obtain ⟨v, t, a, kvs, gs, e, h1, h2, h3, h4, r⟩ := z
  exact ⟨v, t, a, kvs, gs, e, h1, h2, h3, h t h4, r⟩
theorem spEqT_imp (h : ∀ t, ok' t → ok t) (z : spEqT K C ok' vs H Q E) : spEqT K C ok vs H Q E := by
  obtain ⟨v, y, t, u, e, h1, h2, h3, h4, h5, h6, h7, r⟩ := z
  exact ⟨v, y, t, u, e, h1, h2, h3, h4, h5, h6, h t h7, r⟩
theorem spStrT_imp (h : ∀ t, ok' t → ok t) (z : spStrT K C ok' vs H Q E) : spStrT K C ok vs H Q E := by
  obtain ⟨v, t, e, h1, h2, h3, r⟩ := z
  exact ⟨v, t, e, h1, h2, h t h3, r⟩
theorem spStrT_of {i : TI} (z : ∃ v t, vs = [v] ∧ TmA K C H v t ∧ t.ok ∧ t.wt ≤ 900 ∧ t.ix = i ∧ ∀ H', Same H H' → Q (.str t.txt) H') : spStrT K C (fun t => t.ix = i) vs H Q E := by
  obtain ⟨v, t, e, h1, h2, _, h3, r⟩ := z
  exact ⟨v, t, e, h1, h2, h3, r⟩
theorem bui_no {t : Tm} (h : t.ix = .b) (h2 : isBui t = false) : False := by
  cases t <;> simp [Tm.ix, isBui] at h h2
theorem void_call : ¬ spCall K C CF CE (fun t => t.ix = .b ∧ isBui t = false) vs H Q E := fun z => by
  obtain ⟨v, t, a, kvs, gs, e, h1, h2, h3, h4, r⟩ := z
  exact bui_no h4.1 h4.2
theorem void_eq : ¬ spEqT K C (fun t => t.ix = .b ∧ isBui t = false) vs H Q E := fun z => by
  obtain ⟨v, y, t, u, e, h1, h2, h3, h4, h5, h6, h7, r⟩ := z
  exact bui_no h7.1 h7.2
theorem void_str : ¬ spStrT K C (fun t => t.ix = .b ∧ isBui t = false) vs H Q E := fun z => by
  obtain ⟨v, t, e, h1, h2, h3, r⟩ := z
  exact bui_no h3.1 h3.2
end
theorem all_mk {l : PySem.W.OpenLaw} {w : World} {K : PySem.W.Frag} {h : Heap} {mg : Str → Option Value} {fa f1 f2 f3 f4 f5 f6 f7 f8 f9 f10 f11 f12 f13 f14 f15 f16 f17 f18 f19 f20 f21 f22 f23 f24 f25 f26 : Addr} (X : K.In h) (G : h.Ns mainGlobals mg) (hfa : mg "law" = some (.ref fa))
    {C T t0 : Addr} {oT : Value} {oTd o0d : Option Addr} {sT s0 : Array (Option Value)} {nT n0 : Nat} {tk : Tok} {cdC : ClassData}
    {g1 : Addr} {ou1 kV1' dc1' pm1' cd1' ct1' : Value} {od1' an1' : Option Addr} {sl1' : Array (Option Value)}
    {g2 : Addr} {ou2 kV2' dc2' pm2' cd2' ct2' : Value} {od2' an2' : Option Addr} {sl2' : Array (Option Value)}
    {g3 : Addr} {ou3 kV3' dc3' pm3' cd3' ct3' : Value} {od3' an3' : Option Addr} {sl3' : Array (Option Value)}
    {g4 : Addr} {ou4 kV4' dc4' pm4' cd4' ct4' : Value} {od4' an4' : Option Addr} {sl4' : Array (Option Value)}
    {LE : Addr}
    {xqE : Str} {xNE : Addr} {xbE : List Value} {xsE : List Str} {xuE : List Value} {xaE : Bool} {xcE : Option Bool} {xdE : Option Addr}
    {xkE_0 xkE_1 xkE_2 xkE_3 xkE_5 : Option Value}
    {gEE : Addr} {odEE anEE : Option Addr} {slEE : Array (Option Value)} {ouEE kVEE dcEE pmEE cdEE ctEE : Value}
    {Cl : Addr} {cdl : ClassData}
    {gl0 : Addr} {oul0 kVl0' dcl0' pml0' cdl0' ctl0' : Value} {odl0' anl0' : Option Addr} {sll0' : Array (Option Value)}
    {gl1 : Addr} {oul1 kVl1' dcl1' pml1' cdl1' ctl1' : Value} {odl1' anl1' : Option Addr} {sll1' : Array (Option Value)}
    {gl2 : Addr} {oul2 kVl2' dcl2' pml2' cdl2' ctl2' : Value} {odl2' anl2' : Option Addr} {sll2' : Array (Option Value)}
    {Cw : Addr} {cdw : ClassData}
    {gw0 : Addr} {ouw0 kVw0' dcw0' pmw0' cdw0' ctw0' : Value} {odw0' anw0' : Option Addr} {slw0' : Array (Option Value)}
    {gw1 : Addr} {ouw1 kVw1' dcw1' pmw1' cdw1' ctw1' : Value} {odw1' anw1' : Option Addr} {slw1' : Array (Option Value)}
    {gw2 : Addr} {ouw2 kVw2' dcw2' pmw2' cdw2' ctw2' : Value} {odw2' anw2' : Option Addr} {slw2' : Array (Option Value)}
    {Cs : Addr} {cds : ClassData}
    {gs0 : Addr} {ous0 kVs0' dcs0' pms0' cds0' cts0' : Value} {ods0' ans0' : Option Addr} {sls0' : Array (Option Value)}
    {gs1 : Addr} {ous1 kVs1' dcs1' pms1' cds1' cts1' : Value} {ods1' ans1' : Option Addr} {sls1' : Array (Option Value)}
    {gs2 : Addr} {ous2 kVs2' dcs2' pms2' cds2' cts2' : Value} {ods2' ans2' : Option Addr} {sls2' : Array (Option Value)}
    {Cb : Addr} {cdb : ClassData}
    {gb0 : Addr} {oub0 kVb0' dcb0' pmb0' cdb0' ctb0' : Value} {odb0' anb0' : Option Addr} {slb0' : Array (Option Value)}
    {gb1 : Addr} {oub1 kVb1' dcb1' pmb1' cdb1' ctb1' : Value} {odb1' anb1' : Option Addr} {slb1' : Array (Option Value)}
    {gb2 : Addr} {oub2 kVb2' dcb2' pmb2' cdb2' ctb2' : Value} {odb2' anb2' : Option Addr} {slb2' : Array (Option Value)}
    {od1 an1 od2 an2 od3 an3 od4 an4 od5 an5 od6 an6 od7 an7 od8 an8 od9 an9 od10 an10 od11 an11 od12 an12 od13 an13 od14 an14 od15 an15 od16 an16 od17 an17 od18 an18 od19 an19 od20 an20 od21 an21 od22 an22 od23 an23 od24 an24 od25 an25 od26 an26 : Option Addr} {sl1 sl2 sl3 sl4 sl5 sl6 sl7 sl8 sl9 sl10 sl11 sl12 sl13 sl14 sl15 sl16 sl17 sl18 sl19 sl20 sl21 sl22 sl23 sl24 sl25 sl26 : Array (Option Value)} {oc1 kV1 dc1 pm1 cd1 ct1 oc2 kV2 dc2 pm2 cd2 ct2 oc3 kV3 dc3 pm3 cd3 ct3 oc4 kV4 dc4 pm4 cd4 ct4 oc5 kV5 dc5 pm5 cd5 ct5 oc6 kV6 dc6 pm6 cd6 ct6 oc7 kV7 dc7 pm7 cd7 ct7 oc8 kV8 dc8 pm8 cd8 ct8 oc9 kV9 dc9 pm9 cd9 ct9 oc10 kV10 dc10 pm10 cd10 ct10 oc11 kV11 dc11 pm11 cd11 ct11 oc12 kV12 dc12 pm12 cd12 ct12 oc13 kV13 dc13 pm13 cd13 ct13 oc14 kV14 dc14 pm14 cd14 ct14 oc15 kV15 dc15 pm15 cd15 ct15 oc16 kV16 dc16 pm16 cd16 ct16 oc17 kV17 dc17 pm17 cd17 ct17 oc18 kV18 dc18 pm18 cd18 ct18 oc19 kV19 dc19 pm19 cd19 ct19 oc20 kV20 dc20 pm20 cd20 ct20 oc21 kV21 dc21 pm21 cd21 ct21 oc22 kV22 dc22 pm22 cd22 ct22 oc23 kV23 dc23 pm23 cd23 ct23 oc24 kV24 dc24 pm24 cd24 ct24 oc25 kV25 dc25 pm25 cd25 ct25 oc26 kV26 dc26 pm26 cd26 ct26 : Value}
    (aC : PySem.W.nsIn K mainGlobals "Fault" = some (some (.ref C)))
    (am1 : PySem.W.findIn K (.ref C) "__init__" = some (some (.ref g1)))
    (im1 : PySem.W.isFn K (.ref g1) = true)
    (lm1 : K.lookup g1 = some ⟨ou1, od1', .func (PySem.W.fnOf "__init__" "Fault.__init__" (defArgs sInit) (defBody sInit) (defScope sInit) (.ref T) kV1' dc1' pm1' an1' cd1' ct1'), sl1'⟩)
    (cm1 : PySem.W.codeIn K cd1' "Fault.__init__" = true)
    (km1 : PySem.W.keepIn K (.ref g1) = true)
    (lT : K.lookup T = some ⟨oT, oTd, .seq #[.str "" tk, .ref t0] nT, sT⟩)
    (l0 : K.lookup t0 = some ⟨.type "tuple", o0d, .seq #[] n0, s0⟩)
    (am2 : PySem.W.findIn K (.ref C) "__eq__" = some (some (.ref g2)))
    (im2 : PySem.W.isFn K (.ref g2) = true)
    (lm2 : K.lookup g2 = some ⟨ou2, od2', .func (PySem.W.fnOf "__eq__" "Fault.__eq__" (defArgs sEq) (defBody sEq) (defScope sEq) .none kV2' dc2' pm2' an2' cd2' ct2'), sl2'⟩)
    (cm2 : PySem.W.codeIn K cd2' "Fault.__eq__" = true)
    (km2 : PySem.W.keepIn K (.ref g2) = true)
    (am3 : PySem.W.findIn K (.ref C) "__str__" = some (some (.ref g3)))
    (im3 : PySem.W.isFn K (.ref g3) = true)
    (lm3 : K.lookup g3 = some ⟨ou3, od3', .func (PySem.W.fnOf "__str__" "Fault.__str__" (defArgs sStr) (defBody sStr) (defScope sStr) .none kV3' dc3' pm3' an3' cd3' ct3'), sl3'⟩)
    (cm3 : PySem.W.codeIn K cd3' "Fault.__str__" = true)
    (km3 : PySem.W.keepIn K (.ref g3) = true)
    (am4 : PySem.W.findIn K (.ref C) "__repr__" = some (some (.ref g4)))
    (im4 : PySem.W.isFn K (.ref g4) = true)
    (lm4 : K.lookup g4 = some ⟨ou4, od4', .func (PySem.W.fnOf "__repr__" "Fault.__repr__" (defArgs sRep) (defBody sRep) (defScope sRep) .none kV4' dc4' pm4' an4' cd4' ct4'), sl4'⟩)
    (cm4 : PySem.W.codeIn K cd4' "Fault.__repr__" = true)
    (km4 : PySem.W.keepIn K (.ref g4) = true)
    (pg : PySem.W.plainGet K C Str.empty = true)
    (hd : PySem.W.hasDictIn K C = true)
    (po : PySem.W.plainOver K C = true)
    (sa : PySem.W.findIn K (.ref C) "__setattr__" = some (some (.builtin "object.__setattr__")))
    (mk : PySem.W.makesIn K C = true)
    (kc : PySem.W.keepIn K (.ref C) = true)
    (nw : PySem.W.findIn K (.ref C) "word" = some none)
    (nr : PySem.W.findIn K (.ref C) "rule" = some none)
    (np : PySem.W.findIn K (.ref C) "path" = some none)
    (ha : PySem.W.findIn K (.ref C) "__class__" = some (some (.builtin "object.__class__")))
    (hn : PySem.W.specialIn K (.builtin "object.__class__") "__get__" = some (some (.builtin "getset_descriptor.__get__")))
    (htk : PySem.W.takesIn K (.builtin "object.__class__") = some true)
    (hm : PySem.W.mroIn K C (.type "object") = some true)
    (tC : PySem.W.typeIn K (.ref C) = some (.type "type"))
    (cC : PySem.W.clsIn K C = some cdC)
    (ne : PySem.W.findIn K (.ref C) "__ne__" = some (some (.builtin "object.__ne__")))
    (ka1 : PySem.W.subIn K (.type "NoneType") (.ref C) = some false)
    (ja1 : PySem.W.subIn K (.ref C) (.type "NoneType") = some false)
    (ka2 : PySem.W.subIn K (.type "bool") (.ref C) = some false)
    (ja2 : PySem.W.subIn K (.ref C) (.type "bool") = some false)
    (ka3 : PySem.W.subIn K (.type "int") (.ref C) = some false)
    (ja3 : PySem.W.subIn K (.ref C) (.type "int") = some false)
    (ka4 : PySem.W.subIn K (.type "str") (.ref C) = some false)
    (ja4 : PySem.W.subIn K (.ref C) (.type "str") = some false)
    (ka5 : PySem.W.subIn K (.type "list") (.ref C) = some false)
    (ja5 : PySem.W.subIn K (.ref C) (.type "list") = some false)
    (ka6 : PySem.W.subIn K (.type "tuple") (.ref C) = some false)
    (ja6 : PySem.W.subIn K (.ref C) (.type "tuple") = some false)
    (aXE : PySem.W.nsIn K mainGlobals "NoPlace" = some (some (.ref LE)))
    (lXE : K.lookup LE = some (excClassObj "NoPlace" xqE LE xNE xbE keT true xsE xuE xaE xcE xdE xkE_0 xkE_1 xkE_2 xkE_3 xkE_5 "LookupError.__new__"))
    (gaEE : PySem.W.findIn K (.ref LE) "__getattribute__" = some (some (.builtin "BaseException.__getattribute__")))
    (ggEE : PySem.W.findIn K (.ref LE) "__getattr__" = some none)
    (haEE : PySem.W.findIn K (.ref LE) "__class__" = some (some (.builtin "object.__class__")))
    (saEE : PySem.W.findIn K (.ref LE) "__setattr__" = some (some (.builtin "object.__setattr__")))
    (kcEE : PySem.W.keepIn K (.ref LE) = true)
    (amEE : PySem.W.findIn K (.ref LE) "__init__" = some (some (.ref gEE)))
    (imEE : PySem.W.typeIn K (.ref gEE) = some (.type "function"))
    (lmEE : K.lookup gEE = some ⟨ouEE, odEE, .func (PySem.W.fnOf "__init__" "NoPlace.__init__" (defArgs sI2) (defBody sI2) (defScope sI2) .none kVEE dcEE pmEE anEE cdEE ctEE), slEE⟩)
    (cmEE : PySem.W.codeIn K cdEE "NoPlace.__init__" = true)
    (kmEE : PySem.W.keepIn K (.ref gEE) = true)
    (noEE : PySem.W.findIn K (.ref LE) "place" = some none)
    (aCl : PySem.W.nsIn K mainGlobals "Literal" = some (some (.ref Cl)))
    (aml0 : PySem.W.findIn K (.ref Cl) "__init__" = some (some (.ref gl0)))
    (iml0 : PySem.W.isFn K (.ref gl0) = true)
    (lml0 : K.lookup gl0 = some ⟨oul0, odl0', .func (PySem.W.fnOf "__init__" "Literal.__init__" (defArgs sIniL) (defBody sIniL) (defScope sIniL) .none kVl0' dcl0' pml0' anl0' cdl0' ctl0'), sll0'⟩)
    (cml0 : PySem.W.codeIn K cdl0' "Literal.__init__" = true)
    (kml0 : PySem.W.keepIn K (.ref gl0) = true)
    (aml1 : PySem.W.findIn K (.ref Cl) "__call__" = some (some (.ref gl1)))
    (iml1 : PySem.W.isFn K (.ref gl1) = true)
    (lml1 : K.lookup gl1 = some ⟨oul1, odl1', .func (PySem.W.fnOf "__call__" "Literal.__call__" (defArgs sCallL) (defBody sCallL) (defScope sCallL) .none kVl1' dcl1' pml1' anl1' cdl1' ctl1'), sll1'⟩)
    (cml1 : PySem.W.codeIn K cdl1' "Literal.__call__" = true)
    (kml1 : PySem.W.keepIn K (.ref gl1) = true)
    (aml2 : PySem.W.findIn K (.ref Cl) "__eq__" = some (some (.ref gl2)))
    (iml2 : PySem.W.isFn K (.ref gl2) = true)
    (lml2 : K.lookup gl2 = some ⟨oul2, odl2', .func (PySem.W.fnOf "__eq__" "Literal.__eq__" (defArgs sEqL) (defBody sEqL) (defScope sEqL) .none kVl2' dcl2' pml2' anl2' cdl2' ctl2'), sll2'⟩)
    (cml2 : PySem.W.codeIn K cdl2' "Literal.__eq__" = true)
    (kml2 : PySem.W.keepIn K (.ref gl2) = true)
    (fil : PySem.W.fnIn K gl1 = true)
    (pgl : PySem.W.plainGet K Cl Str.empty = true)
    (hdl : PySem.W.hasDictIn K Cl = true)
    (pol : PySem.W.plainOver K Cl = true)
    (sal : PySem.W.findIn K (.ref Cl) "__setattr__" = some (some (.builtin "object.__setattr__")))
    (mkl : PySem.W.makesIn K Cl = true)
    (kcl : PySem.W.keepIn K (.ref Cl) = true)
    (hal : PySem.W.findIn K (.ref Cl) "__class__" = some (some (.builtin "object.__class__")))
    (hml : PySem.W.mroIn K Cl (.type "object") = some true)
    (tCl : PySem.W.typeIn K (.ref Cl) = some (.type "type"))
    (cCl : PySem.W.clsIn K Cl = some cdl)
    (nel : PySem.W.findIn K (.ref Cl) "__ne__" = some (some (.builtin "object.__ne__")))
    (nol_value : PySem.W.findIn K (.ref Cl) "value" = some none)
    (nol_places : PySem.W.findIn K (.ref Cl) "places" = some none)
    (nol_weight : PySem.W.findIn K (.ref Cl) "weight" = some none)
    (kal1 : PySem.W.subIn K (.type "NoneType") (.ref Cl) = some false)
    (jal1 : PySem.W.subIn K (.ref Cl) (.type "NoneType") = some false)
    (kal2 : PySem.W.subIn K (.type "bool") (.ref Cl) = some false)
    (jal2 : PySem.W.subIn K (.ref Cl) (.type "bool") = some false)
    (kal3 : PySem.W.subIn K (.type "int") (.ref Cl) = some false)
    (jal3 : PySem.W.subIn K (.ref Cl) (.type "int") = some false)
    (kal4 : PySem.W.subIn K (.type "str") (.ref Cl) = some false)
    (jal4 : PySem.W.subIn K (.ref Cl) (.type "str") = some false)
    (kal5 : PySem.W.subIn K (.type "list") (.ref Cl) = some false)
    (jal5 : PySem.W.subIn K (.ref Cl) (.type "list") = some false)
    (kal6 : PySem.W.subIn K (.type "tuple") (.ref Cl) = some false)
    (jal6 : PySem.W.subIn K (.ref Cl) (.type "tuple") = some false)
    (aCw : PySem.W.nsIn K mainGlobals "Whole" = some (some (.ref Cw)))
    (amw0 : PySem.W.findIn K (.ref Cw) "__init__" = some (some (.ref gw0)))
    (imw0 : PySem.W.isFn K (.ref gw0) = true)
    (lmw0 : K.lookup gw0 = some ⟨ouw0, odw0', .func (PySem.W.fnOf "__init__" "Whole.__init__" (defArgs sIniW) (defBody sIniW) (defScope sIniW) .none kVw0' dcw0' pmw0' anw0' cdw0' ctw0'), slw0'⟩)
    (cmw0 : PySem.W.codeIn K cdw0' "Whole.__init__" = true)
    (kmw0 : PySem.W.keepIn K (.ref gw0) = true)
    (amw1 : PySem.W.findIn K (.ref Cw) "__call__" = some (some (.ref gw1)))
    (imw1 : PySem.W.isFn K (.ref gw1) = true)
    (lmw1 : K.lookup gw1 = some ⟨ouw1, odw1', .func (PySem.W.fnOf "__call__" "Whole.__call__" (defArgs sCallW) (defBody sCallW) (defScope sCallW) .none kVw1' dcw1' pmw1' anw1' cdw1' ctw1'), slw1'⟩)
    (cmw1 : PySem.W.codeIn K cdw1' "Whole.__call__" = true)
    (kmw1 : PySem.W.keepIn K (.ref gw1) = true)
    (amw2 : PySem.W.findIn K (.ref Cw) "__eq__" = some (some (.ref gw2)))
    (imw2 : PySem.W.isFn K (.ref gw2) = true)
    (lmw2 : K.lookup gw2 = some ⟨ouw2, odw2', .func (PySem.W.fnOf "__eq__" "Whole.__eq__" (defArgs sEqW) (defBody sEqW) (defScope sEqW) .none kVw2' dcw2' pmw2' anw2' cdw2' ctw2'), slw2'⟩)
    (cmw2 : PySem.W.codeIn K cdw2' "Whole.__eq__" = true)
    (kmw2 : PySem.W.keepIn K (.ref gw2) = true)
    (fiw : PySem.W.fnIn K gw1 = true)
    (pgw : PySem.W.plainGet K Cw Str.empty = true)
    (hdw : PySem.W.hasDictIn K Cw = true)
    (pow : PySem.W.plainOver K Cw = true)
    (saw : PySem.W.findIn K (.ref Cw) "__setattr__" = some (some (.builtin "object.__setattr__")))
    (mkw : PySem.W.makesIn K Cw = true)
    (kcw : PySem.W.keepIn K (.ref Cw) = true)
    (haw : PySem.W.findIn K (.ref Cw) "__class__" = some (some (.builtin "object.__class__")))
    (hmw : PySem.W.mroIn K Cw (.type "object") = some true)
    (tCw : PySem.W.typeIn K (.ref Cw) = some (.type "type"))
    (cCw : PySem.W.clsIn K Cw = some cdw)
    (new : PySem.W.findIn K (.ref Cw) "__ne__" = some (some (.builtin "object.__ne__")))
    (now_place : PySem.W.findIn K (.ref Cw) "place" = some none)
    (now_places : PySem.W.findIn K (.ref Cw) "places" = some none)
    (now_weight : PySem.W.findIn K (.ref Cw) "weight" = some none)
    (kaw1 : PySem.W.subIn K (.type "NoneType") (.ref Cw) = some false)
    (jaw1 : PySem.W.subIn K (.ref Cw) (.type "NoneType") = some false)
    (kaw2 : PySem.W.subIn K (.type "bool") (.ref Cw) = some false)
    (jaw2 : PySem.W.subIn K (.ref Cw) (.type "bool") = some false)
    (kaw3 : PySem.W.subIn K (.type "int") (.ref Cw) = some false)
    (jaw3 : PySem.W.subIn K (.ref Cw) (.type "int") = some false)
    (kaw4 : PySem.W.subIn K (.type "str") (.ref Cw) = some false)
    (jaw4 : PySem.W.subIn K (.ref Cw) (.type "str") = some false)
    (kaw5 : PySem.W.subIn K (.type "list") (.ref Cw) = some false)
    (jaw5 : PySem.W.subIn K (.ref Cw) (.type "list") = some false)
    (kaw6 : PySem.W.subIn K (.type "tuple") (.ref Cw) = some false)
    (jaw6 : PySem.W.subIn K (.ref Cw) (.type "tuple") = some false)
    (aCs : PySem.W.nsIn K mainGlobals "Shifted" = some (some (.ref Cs)))
    (ams0 : PySem.W.findIn K (.ref Cs) "__init__" = some (some (.ref gs0)))
    (ims0 : PySem.W.isFn K (.ref gs0) = true)
    (lms0 : K.lookup gs0 = some ⟨ous0, ods0', .func (PySem.W.fnOf "__init__" "Shifted.__init__" (defArgs sIniS) (defBody sIniS) (defScope sIniS) .none kVs0' dcs0' pms0' ans0' cds0' cts0'), sls0'⟩)
    (cms0 : PySem.W.codeIn K cds0' "Shifted.__init__" = true)
    (kms0 : PySem.W.keepIn K (.ref gs0) = true)
    (ams1 : PySem.W.findIn K (.ref Cs) "__call__" = some (some (.ref gs1)))
    (ims1 : PySem.W.isFn K (.ref gs1) = true)
    (lms1 : K.lookup gs1 = some ⟨ous1, ods1', .func (PySem.W.fnOf "__call__" "Shifted.__call__" (defArgs sCallS) (defBody sCallS) (defScope sCallS) .none kVs1' dcs1' pms1' ans1' cds1' cts1'), sls1'⟩)
    (cms1 : PySem.W.codeIn K cds1' "Shifted.__call__" = true)
    (kms1 : PySem.W.keepIn K (.ref gs1) = true)
    (ams2 : PySem.W.findIn K (.ref Cs) "__eq__" = some (some (.ref gs2)))
    (ims2 : PySem.W.isFn K (.ref gs2) = true)
    (lms2 : K.lookup gs2 = some ⟨ous2, ods2', .func (PySem.W.fnOf "__eq__" "Shifted.__eq__" (defArgs sEqS) (defBody sEqS) (defScope sEqS) .none kVs2' dcs2' pms2' ans2' cds2' cts2'), sls2'⟩)
    (cms2 : PySem.W.codeIn K cds2' "Shifted.__eq__" = true)
    (kms2 : PySem.W.keepIn K (.ref gs2) = true)
    (fis : PySem.W.fnIn K gs1 = true)
    (pgs : PySem.W.plainGet K Cs Str.empty = true)
    (hds : PySem.W.hasDictIn K Cs = true)
    (pos : PySem.W.plainOver K Cs = true)
    (sas : PySem.W.findIn K (.ref Cs) "__setattr__" = some (some (.builtin "object.__setattr__")))
    (mks : PySem.W.makesIn K Cs = true)
    (kcs : PySem.W.keepIn K (.ref Cs) = true)
    (has : PySem.W.findIn K (.ref Cs) "__class__" = some (some (.builtin "object.__class__")))
    (hms : PySem.W.mroIn K Cs (.type "object") = some true)
    (tCs : PySem.W.typeIn K (.ref Cs) = some (.type "type"))
    (cCs : PySem.W.clsIn K Cs = some cds)
    (nes : PySem.W.findIn K (.ref Cs) "__ne__" = some (some (.builtin "object.__ne__")))
    (nos_place : PySem.W.findIn K (.ref Cs) "place" = some none)
    (nos_by : PySem.W.findIn K (.ref Cs) "by" = some none)
    (nos_places : PySem.W.findIn K (.ref Cs) "places" = some none)
    (nos_weight : PySem.W.findIn K (.ref Cs) "weight" = some none)
    (kas1 : PySem.W.subIn K (.type "NoneType") (.ref Cs) = some false)
    (jas1 : PySem.W.subIn K (.ref Cs) (.type "NoneType") = some false)
    (kas2 : PySem.W.subIn K (.type "bool") (.ref Cs) = some false)
    (jas2 : PySem.W.subIn K (.ref Cs) (.type "bool") = some false)
    (kas3 : PySem.W.subIn K (.type "int") (.ref Cs) = some false)
    (jas3 : PySem.W.subIn K (.ref Cs) (.type "int") = some false)
    (kas4 : PySem.W.subIn K (.type "str") (.ref Cs) = some false)
    (jas4 : PySem.W.subIn K (.ref Cs) (.type "str") = some false)
    (kas5 : PySem.W.subIn K (.type "list") (.ref Cs) = some false)
    (jas5 : PySem.W.subIn K (.ref Cs) (.type "list") = some false)
    (kas6 : PySem.W.subIn K (.type "tuple") (.ref Cs) = some false)
    (jas6 : PySem.W.subIn K (.ref Cs) (.type "tuple") = some false)
    (aCb : PySem.W.nsIn K mainGlobals "Built" = some (some (.ref Cb)))
    (amb0 : PySem.W.findIn K (.ref Cb) "__init__" = some (some (.ref gb0)))
    (imb0 : PySem.W.isFn K (.ref gb0) = true)
    (lmb0 : K.lookup gb0 = some ⟨oub0, odb0', .func (PySem.W.fnOf "__init__" "Built.__init__" (defArgs sIniB) (defBody sIniB) (defScope sIniB) .none kVb0' dcb0' pmb0' anb0' cdb0' ctb0'), slb0'⟩)
    (cmb0 : PySem.W.codeIn K cdb0' "Built.__init__" = true)
    (kmb0 : PySem.W.keepIn K (.ref gb0) = true)
    (amb1 : PySem.W.findIn K (.ref Cb) "__call__" = some (some (.ref gb1)))
    (imb1 : PySem.W.isFn K (.ref gb1) = true)
    (lmb1 : K.lookup gb1 = some ⟨oub1, odb1', .func (PySem.W.fnOf "__call__" "Built.__call__" (defArgs sCallB) (defBody sCallB) (defScope sCallB) .none kVb1' dcb1' pmb1' anb1' cdb1' ctb1'), slb1'⟩)
    (cmb1 : PySem.W.codeIn K cdb1' "Built.__call__" = true)
    (kmb1 : PySem.W.keepIn K (.ref gb1) = true)
    (amb2 : PySem.W.findIn K (.ref Cb) "__eq__" = some (some (.ref gb2)))
    (imb2 : PySem.W.isFn K (.ref gb2) = true)
    (lmb2 : K.lookup gb2 = some ⟨oub2, odb2', .func (PySem.W.fnOf "__eq__" "Built.__eq__" (defArgs sEqB) (defBody sEqB) (defScope sEqB) .none kVb2' dcb2' pmb2' anb2' cdb2' ctb2'), slb2'⟩)
    (cmb2 : PySem.W.codeIn K cdb2' "Built.__eq__" = true)
    (kmb2 : PySem.W.keepIn K (.ref gb2) = true)
    (fib : PySem.W.fnIn K gb1 = true)
    (pgb : PySem.W.plainGet K Cb Str.empty = true)
    (hdb : PySem.W.hasDictIn K Cb = true)
    (pob : PySem.W.plainOver K Cb = true)
    (sab : PySem.W.findIn K (.ref Cb) "__setattr__" = some (some (.builtin "object.__setattr__")))
    (mkb : PySem.W.makesIn K Cb = true)
    (kcb : PySem.W.keepIn K (.ref Cb) = true)
    (hab : PySem.W.findIn K (.ref Cb) "__class__" = some (some (.builtin "object.__class__")))
    (hmb : PySem.W.mroIn K Cb (.type "object") = some true)
    (tCb : PySem.W.typeIn K (.ref Cb) = some (.type "type"))
    (cCb : PySem.W.clsIn K Cb = some cdb)
    (neb : PySem.W.findIn K (.ref Cb) "__ne__" = some (some (.builtin "object.__ne__")))
    (nob_parts : PySem.W.findIn K (.ref Cb) "parts" = some none)
    (nob_places : PySem.W.findIn K (.ref Cb) "places" = some none)
    (nob_weight : PySem.W.findIn K (.ref Cb) "weight" = some none)
    (kab1 : PySem.W.subIn K (.type "NoneType") (.ref Cb) = some false)
    (jab1 : PySem.W.subIn K (.ref Cb) (.type "NoneType") = some false)
    (kab2 : PySem.W.subIn K (.type "bool") (.ref Cb) = some false)
    (jab2 : PySem.W.subIn K (.ref Cb) (.type "bool") = some false)
    (kab3 : PySem.W.subIn K (.type "int") (.ref Cb) = some false)
    (jab3 : PySem.W.subIn K (.ref Cb) (.type "int") = some false)
    (kab4 : PySem.W.subIn K (.type "str") (.ref Cb) = some false)
    (jab4 : PySem.W.subIn K (.ref Cb) (.type "str") = some false)
    (kab5 : PySem.W.subIn K (.type "list") (.ref Cb) = some false)
    (jab5 : PySem.W.subIn K (.ref Cb) (.type "list") = some false)
    (kab6 : PySem.W.subIn K (.type "tuple") (.ref Cb) = some false)
    (jab6 : PySem.W.subIn K (.ref Cb) (.type "tuple") = some false)
    (ssll : PySem.W.subIn K (.ref Cl) (.ref Cl) = some true)
    (sslw : PySem.W.subIn K (.ref Cl) (.ref Cw) = some false)
    (ssls : PySem.W.subIn K (.ref Cl) (.ref Cs) = some false)
    (sslb : PySem.W.subIn K (.ref Cl) (.ref Cb) = some false)
    (sswl : PySem.W.subIn K (.ref Cw) (.ref Cl) = some false)
    (ssww : PySem.W.subIn K (.ref Cw) (.ref Cw) = some true)
    (ssws : PySem.W.subIn K (.ref Cw) (.ref Cs) = some false)
    (sswb : PySem.W.subIn K (.ref Cw) (.ref Cb) = some false)
    (sssl : PySem.W.subIn K (.ref Cs) (.ref Cl) = some false)
    (sssw : PySem.W.subIn K (.ref Cs) (.ref Cw) = some false)
    (ssss : PySem.W.subIn K (.ref Cs) (.ref Cs) = some true)
    (sssb : PySem.W.subIn K (.ref Cs) (.ref Cb) = some false)
    (ssbl : PySem.W.subIn K (.ref Cb) (.ref Cl) = some false)
    (ssbw : PySem.W.subIn K (.ref Cb) (.ref Cw) = some false)
    (ssbs : PySem.W.subIn K (.ref Cb) (.ref Cs) = some false)
    (ssbb : PySem.W.subIn K (.ref Cb) (.ref Cb) = some true)
    (a1 : PySem.W.nsIn K mainGlobals "is_integer" = some (some (.ref f1)))
    (l1 : K.lookup f1 = some ⟨oc1, od1, .func (PySem.W.fnOf "is_integer" "is_integer" (defArgs sInteger) (defBody sInteger) (defScope sInteger) .none kV1 dc1 pm1 an1 cd1 ct1), sl1⟩)
    (c1 : PySem.W.codeIn K cd1 "is_integer" = true) (k1 : PySem.W.keepIn K (.ref f1) = true)
    (a2 : PySem.W.nsIn K mainGlobals "layers_at" = some (some (.ref f2)))
    (l2 : K.lookup f2 = some ⟨oc2, od2, .func (PySem.W.fnOf "layers_at" "layers_at" (defArgs sLayers) (defBody sLayers) (defScope sLayers) .none kV2 dc2 pm2 an2 cd2 ct2), sl2⟩)
    (c2 : PySem.W.codeIn K cd2 "layers_at" = true) (k2 : PySem.W.keepIn K (.ref f2) = true)
    (a3 : PySem.W.nsIn K mainGlobals "value_at" = some (some (.ref f3)))
    (l3 : K.lookup f3 = some ⟨oc3, od3, .func (PySem.W.fnOf "value_at" "value_at" (defArgs sValAt) (defBody sValAt) (defScope sValAt) .none kV3 dc3 pm3 an3 cd3 ct3), sl3⟩)
    (c3 : PySem.W.codeIn K cd3 "value_at" = true) (k3 : PySem.W.keepIn K (.ref f3) = true)
    (a4 : PySem.W.nsIn K mainGlobals "with_part" = some (some (.ref f4)))
    (l4 : K.lookup f4 = some ⟨oc4, od4, .func (PySem.W.fnOf "with_part" "with_part" (defArgs sWith) (defBody sWith) (defScope sWith) .none kV4 dc4 pm4 an4 cd4 ct4), sl4⟩)
    (c4 : PySem.W.codeIn K cd4 "with_part" = true) (k4 : PySem.W.keepIn K (.ref f4) = true)
    (a5 : PySem.W.nsIn K mainGlobals "places_in" = some (some (.ref f5)))
    (l5 : K.lookup f5 = some ⟨oc5, od5, .func (PySem.W.fnOf "places_in" "places_in" (defArgs sPlin) (defBody sPlin) (defScope sPlin) .none kV5 dc5 pm5 an5 cd5 ct5), sl5⟩)
    (c5 : PySem.W.codeIn K cd5 "places_in" = true) (k5 : PySem.W.keepIn K (.ref f5) = true)
    (a6 : PySem.W.nsIn K mainGlobals "flat_terms" = some (some (.ref f6)))
    (l6 : K.lookup f6 = some ⟨oc6, od6, .func (PySem.W.fnOf "flat_terms" "flat_terms" (defArgs sFlat) (defBody sFlat) (defScope sFlat) .none kV6 dc6 pm6 an6 cd6 ct6), sl6⟩)
    (c6 : PySem.W.codeIn K cd6 "flat_terms" = true) (k6 : PySem.W.keepIn K (.ref f6) = true)
    (a7 : PySem.W.nsIn K mainGlobals "nested" = some (some (.ref f7)))
    (l7 : K.lookup f7 = some ⟨oc7, od7, .func (PySem.W.fnOf "nested" "nested" (defArgs sNested) (defBody sNested) (defScope sNested) .none kV7 dc7 pm7 an7 cd7 ct7), sl7⟩)
    (c7 : PySem.W.codeIn K cd7 "nested" = true) (k7 : PySem.W.keepIn K (.ref f7) = true)
    (a8 : PySem.W.nsIn K mainGlobals "_law_box" = some (some (.ref f8)))
    (l8 : K.lookup f8 = some ⟨oc8, od8, .func (PySem.W.fnOf "_law_box" "_law_box" (defArgs sBox) (defBody sBox) (defScope sBox) .none kV8 dc8 pm8 an8 cd8 ct8), sl8⟩)
    (c8 : PySem.W.codeIn K cd8 "_law_box" = true) (k8 : PySem.W.keepIn K (.ref f8) = true)
    (a9 : PySem.W.nsIn K mainGlobals "_law_take" = some (some (.ref f9)))
    (l9 : K.lookup f9 = some ⟨oc9, od9, .func (PySem.W.fnOf "_law_take" "_law_take" (defArgs sTake) (defBody sTake) (defScope sTake) .none kV9 dc9 pm9 an9 cd9 ct9), sl9⟩)
    (c9 : PySem.W.codeIn K cd9 "_law_take" = true) (k9 : PySem.W.keepIn K (.ref f9) = true)
    (a10 : PySem.W.nsIn K mainGlobals "_law_pick" = some (some (.ref f10)))
    (l10 : K.lookup f10 = some ⟨oc10, od10, .func (PySem.W.fnOf "_law_pick" "_law_pick" (defArgs sPick) (defBody sPick) (defScope sPick) .none kV10 dc10 pm10 an10 cd10 ct10), sl10⟩)
    (c10 : PySem.W.codeIn K cd10 "_law_pick" = true) (k10 : PySem.W.keepIn K (.ref f10) = true)
    (a11 : PySem.W.nsIn K mainGlobals "_law_word" = some (some (.ref f11)))
    (l11 : K.lookup f11 = some ⟨oc11, od11, .func (PySem.W.fnOf "_law_word" "_law_word" (defArgs sWord) (defBody sWord) (defScope sWord) .none kV11 dc11 pm11 an11 cd11 ct11), sl11⟩)
    (c11 : PySem.W.codeIn K cd11 "_law_word" = true) (k11 : PySem.W.keepIn K (.ref f11) = true)
    (a12 : PySem.W.nsIn K mainGlobals "_law_value" = some (some (.ref f12)))
    (l12 : K.lookup f12 = some ⟨oc12, od12, .func (PySem.W.fnOf "_law_value" "_law_value" (defArgs sValue) (defBody sValue) (defScope sValue) .none kV12 dc12 pm12 an12 cd12 ct12), sl12⟩)
    (c12 : PySem.W.codeIn K cd12 "_law_value" = true) (k12 : PySem.W.keepIn K (.ref f12) = true)
    (a13 : PySem.W.nsIn K mainGlobals "_law_value_in" = some (some (.ref f13)))
    (l13 : K.lookup f13 = some ⟨oc13, od13, .func (PySem.W.fnOf "_law_value_in" "_law_value_in" (defArgs sValIn) (defBody sValIn) (defScope sValIn) .none kV13 dc13 pm13 an13 cd13 ct13), sl13⟩)
    (c13 : PySem.W.codeIn K cd13 "_law_value_in" = true) (k13 : PySem.W.keepIn K (.ref f13) = true)
    (a14 : PySem.W.nsIn K mainGlobals "_law_inputs" = some (some (.ref f14)))
    (l14 : K.lookup f14 = some ⟨oc14, od14, .func (PySem.W.fnOf "_law_inputs" "_law_inputs" (defArgs sInputs) (defBody sInputs) (defScope sInputs) .none kV14 dc14 pm14 an14 cd14 ct14), sl14⟩)
    (c14 : PySem.W.codeIn K cd14 "_law_inputs" = true) (k14 : PySem.W.keepIn K (.ref f14) = true)
    (a15 : PySem.W.nsIn K mainGlobals "_law_place" = some (some (.ref f15)))
    (l15 : K.lookup f15 = some ⟨oc15, od15, .func (PySem.W.fnOf "_law_place" "_law_place" (defArgs sPlace) (defBody sPlace) (defScope sPlace) .none kV15 dc15 pm15 an15 cd15 ct15), sl15⟩)
    (c15 : PySem.W.codeIn K cd15 "_law_place" = true) (k15 : PySem.W.keepIn K (.ref f15) = true)
    (a16 : PySem.W.nsIn K mainGlobals "_law_spots" = some (some (.ref f16)))
    (l16 : K.lookup f16 = some ⟨oc16, od16, .func (PySem.W.fnOf "_law_spots" "_law_spots" (defArgs sSpots) (defBody sSpots) (defScope sSpots) .none kV16 dc16 pm16 an16 cd16 ct16), sl16⟩)
    (c16 : PySem.W.codeIn K cd16 "_law_spots" = true) (k16 : PySem.W.keepIn K (.ref f16) = true)
    (a17 : PySem.W.nsIn K mainGlobals "_law_model" = some (some (.ref f17)))
    (l17 : K.lookup f17 = some ⟨oc17, od17, .func (PySem.W.fnOf "_law_model" "_law_model" (defArgs sModel) (defBody sModel) (defScope sModel) .none kV17 dc17 pm17 an17 cd17 ct17), sl17⟩)
    (c17 : PySem.W.codeIn K cd17 "_law_model" = true) (k17 : PySem.W.keepIn K (.ref f17) = true)
    (a18 : PySem.W.nsIn K mainGlobals "_law_model_in" = some (some (.ref f18)))
    (l18 : K.lookup f18 = some ⟨oc18, od18, .func (PySem.W.fnOf "_law_model_in" "_law_model_in" (defArgs sModIn) (defBody sModIn) (defScope sModIn) .none kV18 dc18 pm18 an18 cd18 ct18), sl18⟩)
    (c18 : PySem.W.codeIn K cd18 "_law_model_in" = true) (k18 : PySem.W.keepIn K (.ref f18) = true)
    (a19 : PySem.W.nsIn K mainGlobals "_law_term" = some (some (.ref f19)))
    (l19 : K.lookup f19 = some ⟨oc19, od19, .func (PySem.W.fnOf "_law_term" "_law_term" (defArgs sLTerm) (defBody sLTerm) (defScope sLTerm) .none kV19 dc19 pm19 an19 cd19 ct19), sl19⟩)
    (c19 : PySem.W.codeIn K cd19 "_law_term" = true) (k19 : PySem.W.keepIn K (.ref f19) = true)
    (a20 : PySem.W.nsIn K mainGlobals "_law_spot" = some (some (.ref f20)))
    (l20 : K.lookup f20 = some ⟨oc20, od20, .func (PySem.W.fnOf "_law_spot" "_law_spot" (defArgs sSpot) (defBody sSpot) (defScope sSpot) .none kV20 dc20 pm20 an20 cd20 ct20), sl20⟩)
    (c20 : PySem.W.codeIn K cd20 "_law_spot" = true) (k20 : PySem.W.keepIn K (.ref f20) = true)
    (a21 : PySem.W.nsIn K mainGlobals "_law_meet" = some (some (.ref f21)))
    (l21 : K.lookup f21 = some ⟨oc21, od21, .func (PySem.W.fnOf "_law_meet" "_law_meet" (defArgs sMeet) (defBody sMeet) (defScope sMeet) .none kV21 dc21 pm21 an21 cd21 ct21), sl21⟩)
    (c21 : PySem.W.codeIn K cd21 "_law_meet" = true) (k21 : PySem.W.keepIn K (.ref f21) = true)
    (a22 : PySem.W.nsIn K mainGlobals "_law_outcome" = some (some (.ref f22)))
    (l22 : K.lookup f22 = some ⟨oc22, od22, .func (PySem.W.fnOf "_law_outcome" "_law_outcome" (defArgs sOutc) (defBody sOutc) (defScope sOutc) .none kV22 dc22 pm22 an22 cd22 ct22), sl22⟩)
    (c22 : PySem.W.codeIn K cd22 "_law_outcome" = true) (k22 : PySem.W.keepIn K (.ref f22) = true)
    (a23 : PySem.W.nsIn K mainGlobals "_law_plain" = some (some (.ref f23)))
    (l23 : K.lookup f23 = some ⟨oc23, od23, .func (PySem.W.fnOf "_law_plain" "_law_plain" (defArgs sPlain) (defBody sPlain) (defScope sPlain) .none kV23 dc23 pm23 an23 cd23 ct23), sl23⟩)
    (c23 : PySem.W.codeIn K cd23 "_law_plain" = true) (k23 : PySem.W.keepIn K (.ref f23) = true)
    (a24 : PySem.W.nsIn K mainGlobals "_law_one_right" = some (some (.ref f24)))
    (l24 : K.lookup f24 = some ⟨oc24, od24, .func (PySem.W.fnOf "_law_one_right" "_law_one_right" (defArgs sOne) (defBody sOne) (defScope sOne) .none kV24 dc24 pm24 an24 cd24 ct24), sl24⟩)
    (c24 : PySem.W.codeIn K cd24 "_law_one_right" = true) (k24 : PySem.W.keepIn K (.ref f24) = true)
    (a25 : PySem.W.nsIn K mainGlobals "_law_both_right" = some (some (.ref f25)))
    (l25 : K.lookup f25 = some ⟨oc25, od25, .func (PySem.W.fnOf "_law_both_right" "_law_both_right" (defArgs sBoth) (defBody sBoth) (defScope sBoth) .none kV25 dc25 pm25 an25 cd25 ct25), sl25⟩)
    (c25 : PySem.W.codeIn K cd25 "_law_both_right" = true) (k25 : PySem.W.keepIn K (.ref f25) = true)
    (a26 : PySem.W.nsIn K mainGlobals "law" = some (some (.ref f26)))
    (l26 : K.lookup f26 = some ⟨oc26, od26, .func (PySem.W.fnOf "law" "law" (defArgs sLaw) (defBody sLaw) (defScope sLaw) .none kV26 dc26 pm26 an26 cd26 ct26), sl26⟩)
    (c26 : PySem.W.codeIn K cd26 "law" = true) (k26 : PySem.W.keepIn K (.ref f26) = true)
    (z1 : PySem.W.nsIn K mainGlobals "isinstance" = some none)
    (z2 : PySem.W.nsIn K mainGlobals "len" = some none)
    (z3 : PySem.W.nsIn K mainGlobals "all" = some none)
    (z4 : PySem.W.nsIn K mainGlobals "str" = some none)
    (z5 : PySem.W.nsIn K mainGlobals "tuple" = some none)
    (z6 : PySem.W.nsIn K mainGlobals "int" = some none)
    (z7 : PySem.W.nsIn K mainGlobals "bool" = some none)
    (z8 : PySem.W.nsIn K mainGlobals "range" = some none)
    (z9 : PySem.W.nsIn K mainGlobals "repr" = some none)
    (z10 : PySem.W.nsIn K mainGlobals "abs" = some none)
    (z11 : PySem.W.nsIn K mainGlobals "list" = some none)
    (z12 : PySem.W.nsIn K mainGlobals "sorted" = some none)
    (z13 : PySem.W.nsIn K mainGlobals "enumerate" = some none)
    (z14 : PySem.W.nsIn K mainGlobals "sum" = some none)
    (z15 : PySem.W.nsIn K mainGlobals "min" = some none)
    : ∃ fd : FuncData, (∀ (s : Shared) (v : Value), BindsTo s fd ⟨[v], []⟩ [("_law_script", v)]) ∧ ∀ base : Heap, K.In base → base.Ns mainGlobals mg → FnG l.prog w K mg base CX0 15 fa fd ["_law_script"] (spLaw K) := by
  have e := hfa.symm.trans (PySem.W.mg_of X G a26)
  cases e
  have F1 := fun_mk (st := sInteger) l1 c1 k1
  have b1 := F1.binds (ps := ["thing"]) fun _ _ _ _ _ _ us hl => match us, hl with | [_], _ => rfl
  have m1 := PySem.W.mg_of X G a1
  have F2 := fun_mk (st := sLayers) l2 c2 k2
  have b2 := F2.binds (ps := ["inputs", "place"]) fun _ _ _ _ _ _ us hl => match us, hl with | [_, _], _ => rfl
  have m2 := PySem.W.mg_of X G a2
  have F3 := fun_mk (st := sValAt) l3 c3 k3
  have b3 := F3.binds (ps := ["inputs", "place"]) fun _ _ _ _ _ _ us hl => match us, hl with | [_, _], _ => rfl
  have m3 := PySem.W.mg_of X G a3
  have F4 := fun_mk (st := sWith) l4 c4 k4
  have b4 := F4.binds (ps := ["inputs", "place", "value"]) fun _ _ _ _ _ _ us hl => match us, hl with | [_, _, _], _ => rfl
  have m4 := PySem.W.mg_of X G a4
  have F5 := fun_mk (st := sPlin) l5 c5 k5
  have b5 := F5.binds (ps := ["terms"]) fun _ _ _ _ _ _ us hl => match us, hl with | [_], _ => rfl
  have m5 := PySem.W.mg_of X G a5
  have F6 := fun_mk (st := sFlat) l6 c6 k6
  have b6 := F6.binds (ps := ["term"]) fun _ _ _ _ _ _ us hl => match us, hl with | [_], _ => rfl
  have m6 := PySem.W.mg_of X G a6
  have F7 := fun_mk (st := sNested) l7 c7 k7
  have b7 := F7.binds (ps := ["rows", "as_term"]) fun _ _ _ _ _ _ us hl => match us, hl with | [_, _], _ => rfl
  have m7 := PySem.W.mg_of X G a7
  have F8 := fun_mk (st := sBox) l8 c8 k8
  have b8 := F8.binds (ps := ["_law_script", "_law_base"]) fun _ _ _ _ _ _ us hl => match us, hl with | [_, _], _ => rfl
  have m8 := PySem.W.mg_of X G a8
  have F9 := fun_mk (st := sTake) l9 c9 k9
  have b9 := F9.binds (ps := ["_law_box_here", "_law_many"]) fun _ _ _ _ _ _ us hl => match us, hl with | [_, _], _ => rfl
  have m9 := PySem.W.mg_of X G a9
  have F10 := fun_mk (st := sPick) l10 c10 k10
  have b10 := F10.binds (ps := ["_law_box_here", "_law_items"]) fun _ _ _ _ _ _ us hl => match us, hl with | [_, _], _ => rfl
  have m10 := PySem.W.mg_of X G a10
  have F11 := fun_mk (st := sWord) l11 c11 k11
  have b11 := F11.binds (ps := ["_law_box_here"]) fun _ _ _ _ _ _ us hl => match us, hl with | [_], _ => rfl
  have m11 := PySem.W.mg_of X G a11
  have F12 := fun_mk (st := sValue) l12 c12 k12
  have b12 := F12.binds (ps := ["_law_box_here", "_law_deep"]) fun _ _ _ _ _ _ us hl => match us, hl with | [_, _], _ => rfl
  have m12 := PySem.W.mg_of X G a12
  have F13 := fun_mk (st := sValIn) l13 c13 k13
  have b13 := F13.binds (ps := ["_law_box_here", "_law_deep", "_law_room"]) fun _ _ _ _ _ _ us hl => match us, hl with | [_, _, _], _ => rfl
  have m13 := PySem.W.mg_of X G a13
  have F14 := fun_mk (st := sInputs) l14 c14 k14
  have b14 := F14.binds (ps := ["_law_box_here"]) fun _ _ _ _ _ _ us hl => match us, hl with | [_], _ => rfl
  have m14 := PySem.W.mg_of X G a14
  have F15 := fun_mk (st := sPlace) l15 c15 k15
  have b15 := F15.binds (ps := ["_law_box_here", "_law_given"]) fun _ _ _ _ _ _ us hl => match us, hl with | [_, _], _ => rfl
  have m15 := PySem.W.mg_of X G a15
  have F16 := fun_mk (st := sSpots) l16 c16 k16
  have b16 := F16.binds (ps := ["_law_given"]) fun _ _ _ _ _ _ us hl => match us, hl with | [_], _ => rfl
  have m16 := PySem.W.mg_of X G a16
  have F17 := fun_mk (st := sModel) l17 c17 k17
  have b17 := F17.binds (ps := ["_law_box_here", "_law_given", "_law_deep"]) fun _ _ _ _ _ _ us hl => match us, hl with | [_, _, _], _ => rfl
  have m17 := PySem.W.mg_of X G a17
  have F18 := fun_mk (st := sModIn) l18 c18 k18
  have b18 := F18.binds (ps := ["_law_box_here", "_law_given", "_law_deep", "_law_room"]) fun _ _ _ _ _ _ us hl => match us, hl with | [_, _, _, _], _ => rfl
  have m18 := PySem.W.mg_of X G a18
  have F19 := fun_mk (st := sLTerm) l19 c19 k19
  have b19 := F19.binds (ps := ["_law_model_here"]) fun _ _ _ _ _ _ us hl => match us, hl with | [_], _ => rfl
  have m19 := PySem.W.mg_of X G a19
  have F20 := fun_mk (st := sSpot) l20 c20 k20
  have b20 := F20.binds (ps := ["_law_box_here", "_law_given"]) fun _ _ _ _ _ _ us hl => match us, hl with | [_, _], _ => rfl
  have m20 := PySem.W.mg_of X G a20
  have F21 := fun_mk (st := sMeet) l21 c21 k21
  have b21 := F21.binds (ps := ["_law_one", "_law_other"]) fun _ _ _ _ _ _ us hl => match us, hl with | [_, _], _ => rfl
  have m21 := PySem.W.mg_of X G a21
  have F22 := fun_mk (st := sOutc) l22 c22 k22
  have b22 := F22.binds (ps := ["_law_term_here", "_law_given"]) fun _ _ _ _ _ _ us hl => match us, hl with | [_, _], _ => rfl
  have m22 := PySem.W.mg_of X G a22
  have F23 := fun_mk (st := sPlain) l23 c23 k23
  have b23 := F23.binds (ps := ["_law_model_here", "_law_given"]) fun _ _ _ _ _ _ us hl => match us, hl with | [_, _], _ => rfl
  have m23 := PySem.W.mg_of X G a23
  have F24 := fun_mk (st := sOne) l24 c24 k24
  have b24 := F24.binds (ps := ["_law_box_here", "_law_given", "_law_spot_here", "_law_value_here"]) fun _ _ _ _ _ _ us hl => match us, hl with | [_, _, _, _], _ => rfl
  have m24 := PySem.W.mg_of X G a24
  have F25 := fun_mk (st := sBoth) l25 c25 k25
  have b25 := F25.binds (ps := ["_law_box_here", "_law_given", "_law_spot_here", "_law_value_here"]) fun _ _ _ _ _ _ us hl => match us, hl with | [_, _, _, _], _ => rfl
  have m25 := PySem.W.mg_of X G a25
  have F26 := fun_mk (st := sLaw) l26 c26 k26
  have n_isinstance := PySem.W.mg_none_of X G z1
  have n_len := PySem.W.mg_none_of X G z2
  have n_all := PySem.W.mg_none_of X G z3
  have n_str := PySem.W.mg_none_of X G z4
  have n_tuple := PySem.W.mg_none_of X G z5
  have n_int := PySem.W.mg_none_of X G z6
  have n_bool := PySem.W.mg_none_of X G z7
  have n_range := PySem.W.mg_none_of X G z8
  have n_repr := PySem.W.mg_none_of X G z9
  have n_abs := PySem.W.mg_none_of X G z10
  have n_list := PySem.W.mg_none_of X G z11
  have n_sorted := PySem.W.mg_none_of X G z12
  have n_enumerate := PySem.W.mg_none_of X G z13
  have n_sum := PySem.W.mg_none_of X G z14
  have n_min := PySem.W.mg_none_of X G z15
  refine ⟨PySem.W.fnOf "law" "law" (defArgs sLaw) (defBody sLaw) (defScope sLaw) .none kV26 dc26 pm26 an26 cd26 ct26, fun s v => .of_eq rfl, fun base _ _ => ?_⟩
  have B : Bi mg := ⟨n_isinstance, n_len, n_all, n_str, n_tuple, n_int, n_bool, n_range, n_repr, n_abs⟩
  have Tt : Tk l.prog w K mg base f9 _ := ⟨ok_take (k := 0) F9 n_len, k9, b9, m9⟩
  have mC := PySem.W.mg_of X G aC
  have ko : ∀ {T : String}, PySem.W.subIn K (.type T) (.ref C) = some false → PySem.W.kitOne K (.type T) (.ref C) = some false := fun s => kit_own (by rw [cC]; rfl) tC s
  have O : OwnC K C g2 := ⟨⟨⟨pg, hd, po, sa⟩, ha, hn, htk, hm, kit_me⟩, ⟨am2, im2, km2⟩, ne, ko ka1, ko ka2, ko ka3, ko ka4, ko ka5, ko ka6, kit_ofC kmt1 ja1, kit_ofC kmt2 ja2, kit_ofC kmt3 ja3, kit_ofC kmt4 ja4, kit_ofC kmt5 ja5, kit_ofC kmt6 ja6⟩
  have FC : FaC K mg C g2 := ⟨O, nw, nr, np, mC, kc⟩
  obtain ⟨dI, FD⟩ : ∃ dI, FunD K "__init__" "Fault.__init__" (defArgs sInit) (defBody sInit) (defScope sInit) [.str "", .ref t0] [] g1 dI := ⟨_, ⟨_, _, _, _, _, _, _, _, _, _, rfl, lm1, cm1, .inr ⟨(fun z => nomatch z), T, _, [.str "" tk, .ref t0], nT, rfl, lT, rfl, .cons ⟨tk, rfl⟩ (.cons rfl .nil)⟩, .inl rfl⟩, km1⟩
  have E2 := fun_mk (st := sEq) lm2 cm2 km2
  have E3 := fun_mk (st := sStr) lm3 cm3 km3
  have E4 := fun_mk (st := sRep) lm4 cm4 km4
  have be := E2.binds (ps := ["self", "other"]) fun _ _ _ _ _ _ us hl => match us, hl with | [_, _], _ => rfl
  have bs := E3.binds (ps := ["self"]) fun _ _ _ _ _ _ us hl => match us, hl with | [_], _ => rfl
  have br := E4.binds (ps := ["self"]) fun _ _ _ _ _ _ us hl => match us, hl with | [_], _ => rfl
  have mR4 : Meth K C "__repr__" g4 := ⟨am4, im4, km4⟩
  have gR4 : FnOk l.prog w K mg base CX0 1 g4 _ ["self"] (spRepF C) := ok_repF (k := 0) E4 FC
  have z0 : ∀ H : Hp, SqT K H t0 [] := fun H => .inr ⟨_, _, _, l0, rfl, rfl, by decide, .nil⟩
  have MF : MkF l.prog w K mg base C g1 dI t0 := by
    refine ⟨⟨mk, am1, im1, kc⟩, ok_initF (k := 0) FD FC, ?_, ?_, ?_, ?_, z0⟩
    · exact FD.binds1 2 0 (fun z => nomatch z) rfl fun _ _ _ _ _ _ _ us its h1 h2 => match us, its, h1, h2 with | [_, _], [_, _], _, _ => ⟨_, rfl, rfl⟩
    · exact FD.binds1 3 1 (fun z => nomatch z) rfl fun _ _ _ _ _ _ _ us its h1 h2 => match us, its, h1, h2 with | [_, _, _], [_, _], _, _ => ⟨_, rfl, rfl⟩
    · exact FD.binds1 4 2 (fun z => nomatch z) rfl fun _ _ _ _ _ _ _ us its h1 h2 => match us, its, h1, h2 with | [_, _, _, _], [_, _], _, _ => ⟨_, rfl, rfl⟩
    · exact FD.kbindsD 1 ["path", "word"] (fun us its ws => us ++ (ws.drop 1 ++ (its.take 1 ++ ws.take 1))) (fun z => nomatch z) (fun r1 r2 r3 => r1.append ((r3.drop 1).append ((r2.take 1).append (r3.take 1))))
        fun _ _ _ _ _ _ _ us its ws h1 h2 h3 => match us, its, ws, h1, h2, h3 with | [_], [_, _], [_, _], _, _, _ => ⟨_, rfl, rfl⟩
  have HN : Hn K := ⟨hn, htk⟩
  have eE : EL K LE "NoPlace" keT "LookupError.__new__" := ⟨⟨_, _, _, _, _, _, _, _, _, _, _, _, _, lXE⟩⟩
  have fEE : EF K LE := ⟨gaEE, ggEE, haEE, saEE, kcEE⟩
  have TEE : ExK K LE := eE.exk fEE eb_ke rfl rfl
  have IEE := fun_mk (st := sI2) lmEE cmEE kmEE
  have cEE : EC l.prog w K mg base "NoPlace" ["place"] ["place"] LE gEE _ := ⟨TEE, eE.xf fEE rfl, eE.exc fEE HN rfl rfl, amEE, imEE, ok_I2 (k := 0) IEE TEE noEE, IEE.binds (ps := ["self", "place"]) fun _ _ _ _ _ _ us hl => (match us, hl with | [_, _], _ => rfl), PySem.W.mg_of X G aXE, fun f hf => by
    simp only [List.mem_cons, List.not_mem_nil, or_false] at hf
    subst hf
    exact noEE⟩
  have Ol : OwnC K Cl gl2 := ⟨⟨⟨pgl, hdl, pol, sal⟩, hal, hn, htk, hml, kit_me⟩, ⟨aml2, iml2, kml2⟩, nel, kit_own (by rw [cCl]; rfl) tCl kal1, kit_own (by rw [cCl]; rfl) tCl kal2, kit_own (by rw [cCl]; rfl) tCl kal3, kit_own (by rw [cCl]; rfl) tCl kal4, kit_own (by rw [cCl]; rfl) tCl kal5, kit_own (by rw [cCl]; rfl) tCl kal6, kit_ofC kmt1 jal1, kit_ofC kmt2 jal2, kit_ofC kmt3 jal3, kit_ofC kmt4 jal4, kit_ofC kmt5 jal5, kit_ofC kmt6 jal6⟩
  obtain ⟨dl0, Fl0, bl0⟩ : ∃ d, Fun K "__init__" "Literal.__init__" sIniL gl0 d ∧ Binds K d ["self", "value"] [] := ⟨_, fun_mk (st := sIniL) lml0 cml0 kml0, (fun_mk (st := sIniL) lml0 cml0 kml0).binds (ps := ["self", "value"]) fun _ _ _ _ _ _ us hl => match us, hl with | [_, _], _ => rfl⟩
  obtain ⟨dl1, Fl1, bl1⟩ : ∃ d, Fun K "__call__" "Literal.__call__" sCallL gl1 d ∧ Binds K d ["self", "inputs"] [] := ⟨_, fun_mk (st := sCallL) lml1 cml1 kml1, (fun_mk (st := sCallL) lml1 cml1 kml1).binds (ps := ["self", "inputs"]) fun _ _ _ _ _ _ us hl => match us, hl with | [_, _], _ => rfl⟩
  have Ow : OwnC K Cw gw2 := ⟨⟨⟨pgw, hdw, pow, saw⟩, haw, hn, htk, hmw, kit_me⟩, ⟨amw2, imw2, kmw2⟩, new, kit_own (by rw [cCw]; rfl) tCw kaw1, kit_own (by rw [cCw]; rfl) tCw kaw2, kit_own (by rw [cCw]; rfl) tCw kaw3, kit_own (by rw [cCw]; rfl) tCw kaw4, kit_own (by rw [cCw]; rfl) tCw kaw5, kit_own (by rw [cCw]; rfl) tCw kaw6, kit_ofC kmt1 jaw1, kit_ofC kmt2 jaw2, kit_ofC kmt3 jaw3, kit_ofC kmt4 jaw4, kit_ofC kmt5 jaw5, kit_ofC kmt6 jaw6⟩
  obtain ⟨dw0, Fw0, bw0⟩ : ∃ d, Fun K "__init__" "Whole.__init__" sIniW gw0 d ∧ Binds K d ["self", "place"] [] := ⟨_, fun_mk (st := sIniW) lmw0 cmw0 kmw0, (fun_mk (st := sIniW) lmw0 cmw0 kmw0).binds (ps := ["self", "place"]) fun _ _ _ _ _ _ us hl => match us, hl with | [_, _], _ => rfl⟩
  obtain ⟨dw1, Fw1, bw1⟩ : ∃ d, Fun K "__call__" "Whole.__call__" sCallW gw1 d ∧ Binds K d ["self", "inputs"] [] := ⟨_, fun_mk (st := sCallW) lmw1 cmw1 kmw1, (fun_mk (st := sCallW) lmw1 cmw1 kmw1).binds (ps := ["self", "inputs"]) fun _ _ _ _ _ _ us hl => match us, hl with | [_, _], _ => rfl⟩
  have Os : OwnC K Cs gs2 := ⟨⟨⟨pgs, hds, pos, sas⟩, has, hn, htk, hms, kit_me⟩, ⟨ams2, ims2, kms2⟩, nes, kit_own (by rw [cCs]; rfl) tCs kas1, kit_own (by rw [cCs]; rfl) tCs kas2, kit_own (by rw [cCs]; rfl) tCs kas3, kit_own (by rw [cCs]; rfl) tCs kas4, kit_own (by rw [cCs]; rfl) tCs kas5, kit_own (by rw [cCs]; rfl) tCs kas6, kit_ofC kmt1 jas1, kit_ofC kmt2 jas2, kit_ofC kmt3 jas3, kit_ofC kmt4 jas4, kit_ofC kmt5 jas5, kit_ofC kmt6 jas6⟩
  obtain ⟨ds0, Fs0, bs0⟩ : ∃ d, Fun K "__init__" "Shifted.__init__" sIniS gs0 d ∧ Binds K d ["self", "place", "by"] [] := ⟨_, fun_mk (st := sIniS) lms0 cms0 kms0, (fun_mk (st := sIniS) lms0 cms0 kms0).binds (ps := ["self", "place", "by"]) fun _ _ _ _ _ _ us hl => match us, hl with | [_, _, _], _ => rfl⟩
  obtain ⟨ds1, Fs1, bs1⟩ : ∃ d, Fun K "__call__" "Shifted.__call__" sCallS gs1 d ∧ Binds K d ["self", "inputs"] [] := ⟨_, fun_mk (st := sCallS) lms1 cms1 kms1, (fun_mk (st := sCallS) lms1 cms1 kms1).binds (ps := ["self", "inputs"]) fun _ _ _ _ _ _ us hl => match us, hl with | [_, _], _ => rfl⟩
  have Ob : OwnC K Cb gb2 := ⟨⟨⟨pgb, hdb, pob, sab⟩, hab, hn, htk, hmb, kit_me⟩, ⟨amb2, imb2, kmb2⟩, neb, kit_own (by rw [cCb]; rfl) tCb kab1, kit_own (by rw [cCb]; rfl) tCb kab2, kit_own (by rw [cCb]; rfl) tCb kab3, kit_own (by rw [cCb]; rfl) tCb kab4, kit_own (by rw [cCb]; rfl) tCb kab5, kit_own (by rw [cCb]; rfl) tCb kab6, kit_ofC kmt1 jab1, kit_ofC kmt2 jab2, kit_ofC kmt3 jab3, kit_ofC kmt4 jab4, kit_ofC kmt5 jab5, kit_ofC kmt6 jab6⟩
  obtain ⟨db0, Fb0, bb0⟩ : ∃ d, Fun K "__init__" "Built.__init__" sIniB gb0 d ∧ Binds K d ["self", "parts"] [] := ⟨_, fun_mk (st := sIniB) lmb0 cmb0 kmb0, (fun_mk (st := sIniB) lmb0 cmb0 kmb0).binds (ps := ["self", "parts"]) fun _ _ _ _ _ _ us hl => match us, hl with | [_, _], _ => rfl⟩
  obtain ⟨db1, Fb1, bb1⟩ : ∃ d, Fun K "__call__" "Built.__call__" sCallB gb1 d ∧ Binds K d ["self", "inputs"] [] := ⟨_, fun_mk (st := sCallB) lmb1 cmb1 kmb1, (fun_mk (st := sCallB) lmb1 cmb1 kmb1).binds (ps := ["self", "inputs"]) fun _ _ _ _ _ _ us hl => match us, hl with | [_, _], _ => rfl⟩
  have Fam : FamC K (TI.pick Cl Cw Cs Cb) (TI.pick gl2 gw2 gs2 gb2) := ⟨(fun i => match i with | .l => Ol | .w => Ow | .s => Os | .b => Ob), fun i j => match i, j with
    | .l, .l => fun h => absurd rfl h
    | .l, .w => fun h => kit_cc (show (PySem.W.clsIn K Cl).isSome = true from by rw [cCl]; rfl) tCl sswl (fun z => absurd z (sub_ne sswl ssww))
    | .l, .s => fun h => kit_cc (show (PySem.W.clsIn K Cl).isSome = true from by rw [cCl]; rfl) tCl sssl (fun z => absurd z (sub_ne sssl ssss))
    | .l, .b => fun h => kit_cc (show (PySem.W.clsIn K Cl).isSome = true from by rw [cCl]; rfl) tCl ssbl (fun z => absurd z (sub_ne ssbl ssbb))
    | .w, .l => fun h => kit_cc (show (PySem.W.clsIn K Cw).isSome = true from by rw [cCw]; rfl) tCw sslw (fun z => absurd z (sub_ne sslw ssll))
    | .w, .w => fun h => absurd rfl h
    | .w, .s => fun h => kit_cc (show (PySem.W.clsIn K Cw).isSome = true from by rw [cCw]; rfl) tCw sssw (fun z => absurd z (sub_ne sssw ssss))
    | .w, .b => fun h => kit_cc (show (PySem.W.clsIn K Cw).isSome = true from by rw [cCw]; rfl) tCw ssbw (fun z => absurd z (sub_ne ssbw ssbb))
    | .s, .l => fun h => kit_cc (show (PySem.W.clsIn K Cs).isSome = true from by rw [cCs]; rfl) tCs ssls (fun z => absurd z (sub_ne ssls ssll))
    | .s, .w => fun h => kit_cc (show (PySem.W.clsIn K Cs).isSome = true from by rw [cCs]; rfl) tCs ssws (fun z => absurd z (sub_ne ssws ssww))
    | .s, .s => fun h => absurd rfl h
    | .s, .b => fun h => kit_cc (show (PySem.W.clsIn K Cs).isSome = true from by rw [cCs]; rfl) tCs ssbs (fun z => absurd z (sub_ne ssbs ssbb))
    | .b, .l => fun h => kit_cc (show (PySem.W.clsIn K Cb).isSome = true from by rw [cCb]; rfl) tCb sslb (fun z => absurd z (sub_ne sslb ssll))
    | .b, .w => fun h => kit_cc (show (PySem.W.clsIn K Cb).isSome = true from by rw [cCb]; rfl) tCb sswb (fun z => absurd z (sub_ne sswb ssww))
    | .b, .s => fun h => kit_cc (show (PySem.W.clsIn K Cb).isSome = true from by rw [cCb]; rfl) tCb sssb (fun z => absurd z (sub_ne sssb ssss))
    | .b, .b => fun h => absurd rfl h, fun i j => match i, j with
    | .l, .l => fun h => absurd rfl h
    | .l, .w => fun h => sub_ne sslw ssll
    | .l, .s => fun h => sub_ne ssls ssll
    | .l, .b => fun h => sub_ne sslb ssll
    | .w, .l => fun h => sub_ne sswl ssww
    | .w, .w => fun h => absurd rfl h
    | .w, .s => fun h => sub_ne ssws ssww
    | .w, .b => fun h => sub_ne sswb ssww
    | .s, .l => fun h => sub_ne sssl ssss
    | .s, .w => fun h => sub_ne sssw ssss
    | .s, .s => fun h => absurd rfl h
    | .s, .b => fun h => sub_ne sssb ssss
    | .b, .l => fun h => sub_ne ssbl ssbb
    | .b, .w => fun h => sub_ne ssbw ssbb
    | .b, .s => fun h => sub_ne ssbs ssbb
    | .b, .b => fun h => absurd rfl h⟩
  have T6 : TmC K mg (TI.pick Cl Cw Cs Cb) (TI.pick gl2 gw2 gs2 gb2) := ⟨Fam, (fun i => match i with | .l => all3 nol_value nol_places nol_weight | .w => all3 now_place now_places now_weight | .s => all4 nos_place nos_by nos_places nos_weight | .b => all3 nob_parts nob_places nob_weight), PySem.W.mg_of X G aCl, PySem.W.mg_of X G aCw, PySem.W.mg_of X G aCs, PySem.W.mg_of X G aCb, (fun i => match i with | .l => kcl | .w => kcw | .s => kcs | .b => kcb)⟩
  have GI : Dn l.prog w K mg base 1 "is_integer" ["thing"] (spLook K (fun _ => True) fun d => .bl (inD d)) f1 _ := ⟨ok_integer (k := 0) F1 B, k1, b1, m1⟩
  have GLa : FnOk l.prog w K mg base (L2.CX l.prog w) 3 f2 _ ["inputs", "place"] (spLayers K C LE) := ok_layers (k := 0) F2 B FC cEE
  have GVa : FnOk l.prog w K mg base (L2.CX l.prog w) 4 f3 _ ["inputs", "place"] (spValAt K C LE) := ok_valAt (k := 0) F3 GLa k2 b2 m2
  have GWp : FnOk l.prog w K mg base (L2.CX l.prog w) 4 f4 _ ["inputs", "place", "value"] (spWith K C LE) := ok_with (k := 0) F4 B cEE GLa k2 b2 m2
  have GPl : Dn l.prog w K mg base 1 "places_in" ["terms"] (spPlin K (TI.pick Cl Cw Cs Cb)) f5 _ := ⟨ok_plin (k := 0) F5 T6 B n_list n_sorted, k5, b5, m5⟩
  have GFl : Dn l.prog w K mg base 1 "flat_terms" ["term"] (spFlat K (TI.pick Cl Cw Cs Cb)) f6 _ := ⟨ok_flat (k := 0) F6 T6 B n_list, k6, b6, m6⟩
  have GNe : Dn l.prog w K mg base 1 "nested" ["rows", "as_term"] (spNested K) f7 _ := ⟨ok_nested (k := 0) F7 B, k7, b7, m7⟩
  have M6 : MkT l.prog w K mg base (TI.pick Cl Cw Cs Cb) (TI.pick gl0 gw0 gs0 gb0) (TI.pick dl0 dw0 ds0 db0) := ⟨(fun i => match i with | .l => ⟨mkl, aml0, iml0, kcl⟩ | .w => ⟨mkw, amw0, imw0, kcw⟩ | .s => ⟨mks, ams0, ims0, kcs⟩ | .b => ⟨mkb, amb0, imb0, kcb⟩), ok_iniL (k := 0) Fl0 T6, ok_iniW (k := 0) Fw0 T6, ok_iniS (k := 0) Fs0 T6, ok_iniB (k := 0) Fb0 T6 B n_sum GPl, bl0, bw0, bs0, bb0⟩
  have cL := ok_callL (P := l.prog) (w := w) (base := base) (CF := C) (CE := LE) (k := 0) Fl1 T6
  have cW := ok_callW (P := l.prog) (w := w) (base := base) (CF := C) (CE := LE) (k := 0) Fw1 T6 GVa k3 b3 m3
  have cS := ok_callS (P := l.prog) (w := w) (base := base) (CF := C) (CE := LE) (k := 0) Fs1 T6 cEE GVa k3 b3 m3 GI
  have cO : ∀ i, StX.CallO K ((TI.pick Cl Cw Cs Cb) i) ((TI.pick gl1 gw1 gs1 gb1) i) := (fun i => match i with | .l => ⟨aml1, iml1, fil⟩ | .w => ⟨amw1, imw1, fiw⟩ | .s => ⟨ams1, ims1, fis⟩ | .b => ⟨amb1, imb1, fib⟩)
  have FR : ∀ i, FnR l.prog w K mg base (L2.CX l.prog w) 5 ((TI.pick gl1 gw1 gs1 gb1) i) (spLf K (TI.pick Cl Cw Cs Cb) C LE i) := (fun i => match i with | .l => fnR_of ((cL.imp fun _ _ _ _ => spCall_imp fun _ h => h.1).mono (by decide)) bl1 | .w => fnR_of ((cW.imp fun _ _ _ _ => spCall_imp fun _ h => h.1).mono (by decide)) bw1 | .s => fnR_of ((cS.imp fun _ _ _ _ => spCall_imp fun _ h => h.1).mono (by decide)) bs1 | .b => fnR_of (fnOk_void (fd := db1) (ps := ["self", "inputs"]) fun _ _ _ _ => void_call) bb1)
  have cB := ok_callB (P := l.prog) (w := w) (base := base) (CF := C) (CE := LE) (k := 0) Fb1 T6 B GFl GNe cO FR
  have FG : ∀ i, FnOk l.prog w K mg base (L2.CX l.prog w) 6 ((TI.pick gl1 gw1 gs1 gb1) i) ((TI.pick dl1 dw1 ds1 db1) i) ["self", "inputs"] (spCall K (TI.pick Cl Cw Cs Cb) C LE fun t => t.ix = i) := (fun i => match i with | .l => cL.mono (by decide) | .w => cW.mono (by decide) | .s => cS.mono (by decide) | .b => cB)
  have bG : ∀ i, Binds K ((TI.pick dl1 dw1 ds1 db1) i) ["self", "inputs"] [] := (fun i => match i with | .l => bl1 | .w => bw1 | .s => bs1 | .b => bb1)
  have G9 : Dn l.prog w K mg base 2 "_law_pick" ["_law_box_here", "_law_items"] spPick f10 _ := ⟨ok_pick (k := 0) F10 B Tt, k10, b10, m10⟩
  have G10 : Dn l.prog w K mg base 2 "_law_word" ["_law_box_here"] spWord f11 _ := ⟨ok_word (k := 0) F11 B Tt, k11, b11, m11⟩
  have V : ∀ n : Nat, FnOk l.prog w K mg base CX0 (n + 2) f13 _ ["_law_box_here", "_law_deep", "_law_room"] (spVal K n) := fun n => by
    induction n with
    | zero =>
      refine fnOk_void fun vs H Q E h => ?_
      obtain ⟨p, g, wd, e, w0, l, _, _, _, _, h1, h2, _⟩ := h
      omega
    | succ n ih => exact ok_valIn (k := n) F13 B Tt G10 ih b13 m13
  have GVi : Dn l.prog w K mg base 11 "_law_value_in" ["_law_box_here", "_law_deep", "_law_room"] (spVal K 9) f13 _ := ⟨V 9, k13, b13, m13⟩
  have GVl : Dn l.prog w K mg base 12 "_law_value" ["_law_box_here", "_law_deep"] (spValue K) f12 _ := ⟨ok_value (k := 0) F12 GVi, k12, b12, m12⟩
  have GIn : Dn l.prog w K mg base 13 "_law_inputs" ["_law_box_here"] (spInputs K C) f14 _ := ⟨ok_inputs (k := 0) F14 B Tt G10 GVl MF mC, k14, b14, m14⟩
  have GPa : Dn l.prog w K mg base 3 "_law_place" ["_law_box_here", "_law_given"] (spPlace K C) f15 _ := ⟨ok_place (k := 0) F15 B n_list FC Tt G10 G9, k15, b15, m15⟩
  have GSp : Dn l.prog w K mg base 1 "_law_spots" ["_law_given"] (spSpots K C) f16 _ := ⟨ok_spots (k := 0) F16 B n_enumerate FC, k16, b16, m16⟩
  have U : ∀ n : Nat, FnOk l.prog w K mg base CX0 (n + 3) f18 _ ["_law_box_here", "_law_given", "_law_deep", "_law_room"] (spModIn K C n) := fun n => by
    induction n with
    | zero =>
      refine fnOk_void fun vs H Q E h => ?_
      obtain ⟨p, g, a, wd, e, w0, l, kvs, gs, _, _, _, _, h1, h2, _⟩ := h
      omega
    | succ n ih => exact ok_modIn (k := n) F18 B Tt G10 G9 GPa GSp ih b18 m18
  have GMi : Dn l.prog w K mg base 8 "_law_model_in" ["_law_box_here", "_law_given", "_law_deep", "_law_room"] (spModIn K C 5) f18 _ := ⟨U 5, k18, b18, m18⟩
  have GMo : Dn l.prog w K mg base 9 "_law_model" ["_law_box_here", "_law_given", "_law_deep"] (spModel K C) f17 _ := ⟨ok_model (k := 0) F17 GMi, k17, b17, m17⟩
  have R1 : ∀ n : Nat, FnOk l.prog w K mg base CX0 (n + 3) f19 _ ["_law_model_here"] (spLTerm K (TI.pick Cl Cw Cs Cb) n) := fun n => by
    induction n with
    | zero =>
      refine fnOk_void fun vs H Q E h => ?_
      obtain ⟨v, t, _, _, _, _, h1, _⟩ := h
      omega
    | succ n ih => exact ok_lterm (k := n) F19 T6 M6 B ih b19 m19
  have GT : Dn l.prog w K mg base 8 "_law_term" ["_law_model_here"] (spLTerm K (TI.pick Cl Cw Cs Cb) 5) f19 _ := ⟨R1 5, k19, b19, m19⟩
  have GSt : Dn l.prog w K mg base 3 "_law_spot" ["_law_box_here", "_law_given"] (spSpot K C) f20 _ := ⟨ok_spot (k := 0) F20 B FC Tt G9, k20, b20, m20⟩
  have GMe : Dn l.prog w K mg base 1 "_law_meet" ["_law_one", "_law_other"] (spMeet K) f21 _ := ⟨ok_meet (k := 0) F21 B n_min, k21, b21, m21⟩
  have GOu : Dn l.prog w K mg base 7 "_law_outcome" ["_law_term_here", "_law_given"] (spOutc K (TI.pick Cl Cw Cs Cb) C) f22 _ := ⟨ok_outc (k := 0) F22 T6 cEE (cEE.exm eE) cO FG bG, k22, b22, m22⟩
  have R3 : ∀ n : Nat, FnOk l.prog w K mg base CX0 (n + 4) f23 _ ["_law_model_here", "_law_given"] (spPlain K C n) := fun n => by
    induction n with
    | zero =>
      refine fnOk_void fun vs H Q E h => ?_
      obtain ⟨v, t, a, kvs, gs, d, _, _, _, _, h1, _⟩ := h
      omega
    | succ n ih => exact ok_plain (k := n) F23 B GVa k3 b3 m3 ih b23 m23
  have GPn : Dn l.prog w K mg base 9 "_law_plain" ["_law_model_here", "_law_given"] (spPlain K C 5) f23 _ := ⟨R3 5, k23, b23, m23⟩
  have GB : Dn l.prog w K mg base 1 "_law_box" ["_law_script", "_law_base"] (spBox K) f8 _ := ⟨ok_box (k := 0) F8 n_abs, k8, b8, m8⟩
  have GR := ok_one (P := l.prog) (w := w) (base := base) (k := 3) F24 B FC T6 mR4 gR4 br GVa k3 b3 m3 GWp k4 b4 m4 GSt GMe GMo GT GOu GPn
  have GBo : Dn l.prog w K mg base 13 "_law_both_right" ["_law_box_here", "_law_given", "_law_spot_here", "_law_value_here"] (spOne K C) f25 _ := ⟨ok_both (k := 0) F25 B GVa k3 b3 m3 GWp k4 b4 m4 GSt GMe GVl, k25, b25, m25⟩
  exact ok_law F26 B GB Tt GIn GSt GVl GWp k4 b4 m4 GR k24 b24 m24 GBo
end Rl
open PySem PySem.W PyProof.Rows in
set_option maxRecDepth 100000 in
set_option maxHeartbeats 0 in
theorem PySem.Challenge.cw_runlore_k07_whole_parts_replaced_holds : PySem.Challenge.rw_runlore_k07_whole_parts_replaced.Holds := by
  w_on; o_law; k_head; (case hw => w_witness2)
  k_fill
  refine Rl.walkG (l := PySem.Challenge.rw_runlore_k07_whole_parts_replaced) (n := 63) (k := 15) (x := "_law_script") (sp := Rl.spLaw) rfl (by decide) rfl ⟨rfl, by decide, by decide⟩ (fun w h Y => PySem.W.kIn_of Y) ?F (fun K H a ns hl _ hS => ⟨a, ns, rfl, hS, hl, fun _ => rfl⟩)
  case F =>
    intro w mg fa h KX G hmg
    refine' Rl.all_mk KX G hmg ?aC ?am1 ?im1 ?lm1 ?cm1 ?km1 ?lT ?l0 ?am2 ?im2 ?lm2 ?cm2 ?km2 ?am3 ?im3 ?lm3 ?cm3 ?km3 ?am4 ?im4 ?lm4 ?cm4 ?km4 ?pg ?hd ?po ?sa ?mk ?kc ?nw ?nr ?np ?ha ?hn ?htk ?hm ?tC ?cC ?ne ?ka1 ?ja1 ?ka2 ?ja2 ?ka3 ?ja3 ?ka4 ?ja4 ?ka5 ?ja5 ?ka6 ?ja6 ?aXE ?lXE ?gaEE ?ggEE ?haEE ?saEE ?kcEE ?amEE ?imEE ?lmEE ?cmEE ?kmEE ?noEE ?aCl ?aml0 ?iml0 ?lml0 ?cml0 ?kml0 ?aml1 ?iml1 ?lml1 ?cml1 ?kml1 ?aml2 ?iml2 ?lml2 ?cml2 ?kml2 ?fil ?pgl ?hdl ?pol ?sal ?mkl ?kcl ?hal ?hml ?tCl ?cCl ?nel ?nol_value ?nol_places ?nol_weight ?kal1 ?jal1 ?kal2 ?jal2 ?kal3 ?jal3 ?kal4 ?jal4 ?kal5 ?jal5 ?kal6 ?jal6 ?aCw ?amw0 ?imw0 ?lmw0 ?cmw0 ?kmw0 ?amw1 ?imw1 ?lmw1 ?cmw1 ?kmw1 ?amw2 ?imw2 ?lmw2 ?cmw2 ?kmw2 ?fiw ?pgw ?hdw ?pow ?saw ?mkw ?kcw ?haw ?hmw ?tCw ?cCw ?new ?now_place ?now_places ?now_weight ?kaw1 ?jaw1 ?kaw2 ?jaw2 ?kaw3 ?jaw3 ?kaw4 ?jaw4 ?kaw5 ?jaw5 ?kaw6 ?jaw6 ?aCs ?ams0 ?ims0 ?lms0 ?cms0 ?kms0 ?ams1 ?ims1 ?lms1 ?cms1 ?kms1 ?ams2 ?ims2 ?lms2 ?cms2 ?kms2 ?fis ?pgs ?hds ?pos ?sas ?mks ?kcs ?has ?hms ?tCs ?cCs ?nes ?nos_place ?nos_by ?nos_places ?nos_weight ?kas1 ?jas1 ?kas2 ?jas2 ?kas3 ?jas3 ?kas4 ?jas4 ?kas5 ?jas5 ?kas6 ?jas6 ?aCb ?amb0 ?imb0 ?lmb0 ?cmb0 ?kmb0 ?amb1 ?imb1 ?lmb1 ?cmb1 ?kmb1 ?amb2 ?imb2 ?lmb2 ?cmb2 ?kmb2 ?fib ?pgb ?hdb ?pob ?sab ?mkb ?kcb ?hab ?hmb ?tCb ?cCb ?neb ?nob_parts ?nob_places ?nob_weight ?kab1 ?jab1 ?kab2 ?jab2 ?kab3 ?jab3 ?kab4 ?jab4 ?kab5 ?jab5 ?kab6 ?jab6 ?ssll ?sslw ?ssls ?sslb ?sswl ?ssww ?ssws ?sswb ?sssl ?sssw ?ssss ?sssb ?ssbl ?ssbw ?ssbs ?ssbb ?a1 ?l1 ?c1 ?k1 ?a2 ?l2 ?c2 ?k2 ?a3 ?l3 ?c3 ?k3 ?a4 ?l4 ?c4 ?k4 ?a5 ?l5 ?c5 ?k5 ?a6 ?l6 ?c6 ?k6 ?a7 ?l7 ?c7 ?k7 ?a8 ?l8 ?c8 ?k8 ?a9 ?l9 ?c9 ?k9 ?a10 ?l10 ?c10 ?k10 ?a11 ?l11 ?c11 ?k11 ?a12 ?l12 ?c12 ?k12 ?a13 ?l13 ?c13 ?k13 ?a14 ?l14 ?c14 ?k14 ?a15 ?l15 ?c15 ?k15 ?a16 ?l16 ?c16 ?k16 ?a17 ?l17 ?c17 ?k17 ?a18 ?l18 ?c18 ?k18 ?a19 ?l19 ?c19 ?k19 ?a20 ?l20 ?c20 ?k20 ?a21 ?l21 ?c21 ?k21 ?a22 ?l22 ?c22 ?k22 ?a23 ?l23 ?c23 ?k23 ?a24 ?l24 ?c24 ?k24 ?a25 ?l25 ?c25 ?k25 ?a26 ?l26 ?c26 ?k26 ?z1 ?z2 ?z3 ?z4 ?z5 ?z6 ?z7 ?z8 ?z9 ?z10 ?z11 ?z12 ?z13 ?z14 ?z15
    (case aC => k_is)
    (case am1 => k_is)
    (case im1 => k_is)
    (case lm1 => k_is)
    (case cm1 => k_is)
    (case km1 => k_is)
    (case lT => k_is)
    (case l0 => k_is)
    (case am2 => k_is)
    (case im2 => k_is)
    (case lm2 => k_is)
    (case cm2 => k_is)
    (case km2 => k_is)
    (case am3 => k_is)
    (case im3 => k_is)
    (case lm3 => k_is)
    (case cm3 => k_is)
    (case km3 => k_is)
    (case am4 => k_is)
    (case im4 => k_is)
    (case lm4 => k_is)
    (case cm4 => k_is)
    (case km4 => k_is)
    (case pg => k_is)
    (case hd => k_is)
    (case po => k_is)
    (case sa => k_is)
    (case mk => k_is)
    (case kc => k_is)
    (case nw => k_is)
    (case nr => k_is)
    (case np => k_is)
    (case ha => k_is)
    (case hn => k_is)
    (case htk => k_is)
    (case hm => k_is)
    (case tC => k_is)
    (case cC => k_is)
    (case ne => k_is)
    (case ka1 => k_is)
    (case ja1 => k_is)
    (case ka2 => k_is)
    (case ja2 => k_is)
    (case ka3 => k_is)
    (case ja3 => k_is)
    (case ka4 => k_is)
    (case ja4 => k_is)
    (case ka5 => k_is)
    (case ja5 => k_is)
    (case ka6 => k_is)
    (case ja6 => k_is)
    (case aXE => k_is)
    (case lXE => k_is)
    (case gaEE => k_is)
    (case ggEE => k_is)
    (case haEE => k_is)
    (case saEE => k_is)
    (case kcEE => k_is)
    (case amEE => k_is)
    (case imEE => k_is)
    (case lmEE => k_is)
    (case cmEE => k_is)
    (case kmEE => k_is)
    (case noEE => k_is)
    (case aCl => k_is)
    (case aml0 => k_is)
    (case iml0 => k_is)
    (case lml0 => k_is)
    (case cml0 => k_is)
    (case kml0 => k_is)
    (case aml1 => k_is)
    (case iml1 => k_is)
    (case lml1 => k_is)
    (case cml1 => k_is)
    (case kml1 => k_is)
    (case aml2 => k_is)
    (case iml2 => k_is)
    (case lml2 => k_is)
    (case cml2 => k_is)
    (case kml2 => k_is)
    (case fil => k_is)
    (case pgl => k_is)
    (case hdl => k_is)
    (case pol => k_is)
    (case sal => k_is)
    (case mkl => k_is)
    (case kcl => k_is)
    (case hal => k_is)
    (case hml => k_is)
    (case tCl => k_is)
    (case cCl => k_is)
    (case nel => k_is)
    (case nol_value => k_is)
    (case nol_places => k_is)
    (case nol_weight => k_is)
    (case kal1 => k_is)
    (case jal1 => k_is)
    (case kal2 => k_is)
    (case jal2 => k_is)
    (case kal3 => k_is)
    (case jal3 => k_is)
    (case kal4 => k_is)
    (case jal4 => k_is)
    (case kal5 => k_is)
    (case jal5 => k_is)
    (case kal6 => k_is)
    (case jal6 => k_is)
    (case aCw => k_is)
    (case amw0 => k_is)
    (case imw0 => k_is)
    (case lmw0 => k_is)
    (case cmw0 => k_is)
    (case kmw0 => k_is)
    (case amw1 => k_is)
    (case imw1 => k_is)
    (case lmw1 => k_is)
    (case cmw1 => k_is)
    (case kmw1 => k_is)
    (case amw2 => k_is)
    (case imw2 => k_is)
    (case lmw2 => k_is)
    (case cmw2 => k_is)
    (case kmw2 => k_is)
    (case fiw => k_is)
    (case pgw => k_is)
    (case hdw => k_is)
    (case pow => k_is)
    (case saw => k_is)
    (case mkw => k_is)
    (case kcw => k_is)
    (case haw => k_is)
    (case hmw => k_is)
    (case tCw => k_is)
    (case cCw => k_is)
    (case new => k_is)
    (case now_place => k_is)
    (case now_places => k_is)
    (case now_weight => k_is)
    (case kaw1 => k_is)
    (case jaw1 => k_is)
    (case kaw2 => k_is)
    (case jaw2 => k_is)
    (case kaw3 => k_is)
    (case jaw3 => k_is)
    (case kaw4 => k_is)
    (case jaw4 => k_is)
    (case kaw5 => k_is)
    (case jaw5 => k_is)
    (case kaw6 => k_is)
    (case jaw6 => k_is)
    (case aCs => k_is)
    (case ams0 => k_is)
    (case ims0 => k_is)
    (case lms0 => k_is)
    (case cms0 => k_is)
    (case kms0 => k_is)
    (case ams1 => k_is)
    (case ims1 => k_is)
    (case lms1 => k_is)
    (case cms1 => k_is)
    (case kms1 => k_is)
    (case ams2 => k_is)
    (case ims2 => k_is)
    (case lms2 => k_is)
    (case cms2 => k_is)
    (case kms2 => k_is)
    (case fis => k_is)
    (case pgs => k_is)
    (case hds => k_is)
    (case pos => k_is)
    (case sas => k_is)
    (case mks => k_is)
    (case kcs => k_is)
    (case has => k_is)
    (case hms => k_is)
    (case tCs => k_is)
    (case cCs => k_is)
    (case nes => k_is)
    (case nos_place => k_is)
    (case nos_by => k_is)
    (case nos_places => k_is)
    (case nos_weight => k_is)
    (case kas1 => k_is)
    (case jas1 => k_is)
    (case kas2 => k_is)
    (case jas2 => k_is)
    (case kas3 => k_is)
    (case jas3 => k_is)
    (case kas4 => k_is)
    (case jas4 => k_is)
    (case kas5 => k_is)
    (case jas5 => k_is)
    (case kas6 => k_is)
    (case jas6 => k_is)
    (case aCb => k_is)
    (case amb0 => k_is)
    (case imb0 => k_is)
    (case lmb0 => k_is)
    (case cmb0 => k_is)
    (case kmb0 => k_is)
    (case amb1 => k_is)
    (case imb1 => k_is)
    (case lmb1 => k_is)
    (case cmb1 => k_is)
    (case kmb1 => k_is)
    (case amb2 => k_is)
    (case imb2 => k_is)
    (case lmb2 => k_is)
    (case cmb2 => k_is)
    (case kmb2 => k_is)
    (case fib => k_is)
    (case pgb => k_is)
    (case hdb => k_is)
    (case pob => k_is)
    (case sab => k_is)
    (case mkb => k_is)
    (case kcb => k_is)
    (case hab => k_is)
    (case hmb => k_is)
    (case tCb => k_is)
    (case cCb => k_is)
    (case neb => k_is)
    (case nob_parts => k_is)
    (case nob_places => k_is)
    (case nob_weight => k_is)
    (case kab1 => k_is)
    (case jab1 => k_is)
    (case kab2 => k_is)
    (case jab2 => k_is)
    (case kab3 => k_is)
    (case jab3 => k_is)
    (case kab4 => k_is)
    (case jab4 => k_is)
    (case kab5 => k_is)
    (case jab5 => k_is)
    (case kab6 => k_is)
    (case jab6 => k_is)
    (case ssll => k_is)
    (case sslw => k_is)
    (case ssls => k_is)
    (case sslb => k_is)
    (case sswl => k_is)
    (case ssww => k_is)
    (case ssws => k_is)
    (case sswb => k_is)
    (case sssl => k_is)
    (case sssw => k_is)
    (case ssss => k_is)
    (case sssb => k_is)
    (case ssbl => k_is)
    (case ssbw => k_is)
    (case ssbs => k_is)
    (case ssbb => k_is)
    (case a1 => k_is)
    (case l1 => k_is)
    (case c1 => k_is)
    (case k1 => k_is)
    (case a2 => k_is)
    (case l2 => k_is)
    (case c2 => k_is)
    (case k2 => k_is)
    (case a3 => k_is)
    (case l3 => k_is)
    (case c3 => k_is)
    (case k3 => k_is)
    (case a4 => k_is)
    (case l4 => k_is)
    (case c4 => k_is)
    (case k4 => k_is)
    (case a5 => k_is)
    (case l5 => k_is)
    (case c5 => k_is)
    (case k5 => k_is)
    (case a6 => k_is)
    (case l6 => k_is)
    (case c6 => k_is)
    (case k6 => k_is)
    (case a7 => k_is)
    (case l7 => k_is)
    (case c7 => k_is)
    (case k7 => k_is)
    (case a8 => k_is)
    (case l8 => k_is)
    (case c8 => k_is)
    (case k8 => k_is)
    (case a9 => k_is)
    (case l9 => k_is)
    (case c9 => k_is)
    (case k9 => k_is)
    (case a10 => k_is)
    (case l10 => k_is)
    (case c10 => k_is)
    (case k10 => k_is)
    (case a11 => k_is)
    (case l11 => k_is)
    (case c11 => k_is)
    (case k11 => k_is)
    (case a12 => k_is)
    (case l12 => k_is)
    (case c12 => k_is)
    (case k12 => k_is)
    (case a13 => k_is)
    (case l13 => k_is)
    (case c13 => k_is)
    (case k13 => k_is)
    (case a14 => k_is)
    (case l14 => k_is)
    (case c14 => k_is)
    (case k14 => k_is)
    (case a15 => k_is)
    (case l15 => k_is)
    (case c15 => k_is)
    (case k15 => k_is)
    (case a16 => k_is)
    (case l16 => k_is)
    (case c16 => k_is)
    (case k16 => k_is)
    (case a17 => k_is)
    (case l17 => k_is)
    (case c17 => k_is)
    (case k17 => k_is)
    (case a18 => k_is)
    (case l18 => k_is)
    (case c18 => k_is)
    (case k18 => k_is)
    (case a19 => k_is)
    (case l19 => k_is)
    (case c19 => k_is)
    (case k19 => k_is)
    (case a20 => k_is)
    (case l20 => k_is)
    (case c20 => k_is)
    (case k20 => k_is)
    (case a21 => k_is)
    (case l21 => k_is)
    (case c21 => k_is)
    (case k21 => k_is)
    (case a22 => k_is)
    (case l22 => k_is)
    (case c22 => k_is)
    (case k22 => k_is)
    (case a23 => k_is)
    (case l23 => k_is)
    (case c23 => k_is)
    (case k23 => k_is)
    (case a24 => k_is)
    (case l24 => k_is)
    (case c24 => k_is)
    (case k24 => k_is)
    (case a25 => k_is)
    (case l25 => k_is)
    (case c25 => k_is)
    (case k25 => k_is)
    (case a26 => k_is)
    (case l26 => k_is)
    (case c26 => k_is)
    (case k26 => k_is)
    (case z1 => k_is)
    (case z2 => k_is)
    (case z3 => k_is)
    (case z4 => k_is)
    (case z5 => k_is)
    (case z6 => k_is)
    (case z7 => k_is)
    (case z8 => k_is)
    (case z9 => k_is)
    (case z10 => k_is)
    (case z11 => k_is)
    (case z12 => k_is)
    (case z13 => k_is)
    (case z14 => k_is)
    (case z15 => k_is)

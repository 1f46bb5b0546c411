import PyProof.Rows.All
import Wide.All
import OpenK.AllK
import Wide.FinOn
import PyProof.ReprRoads
import PyProof.StrLawsRepr
import PyProof.ReprLen
import PyProof.Rows.RegStrFacts
import PyProof.Rows.StrCase
import PyProof.Rows.ReprOcc
import HandS.ForMost
import HandS.IsInst
import HandS.Wide
import HandS.Style
import HandS.Flow
import HandS.Conv
import HandS.Walk
import HandS.Codes
import HandS.TupAny
import HandS.FStr
import HandS.Defaults
import HandS.MakeKw
import HandS.MakeKwOnly
import HandS.Exc
import HandS.ExcOwn
import HandS.ExcInit
import HandS.ExcIs
import HandS.ExcField
import HandS.ExcValue
import HandS.ExcBuiltin
import HandS.Comp
import HandS.WordsExc
import HandS.TryOnly
import HandS.Iter
import KE.KExcIs
import PySem.Challenge.RW_runlore_k01_errors_and_their_attributes
set_option Elab.async false
set_option linter.all false
set_option maxRecDepth 100000
set_option exponentiation.threshold 2000
namespace Rl
open PySem PySem.Spec PyProof.Rows L2
/-- what can be printed: data of bounded depth whose text is short enough -/
structure Prn (d : PyData) : Prop where
  sh : d.showable = true
  nd : d.hasDict = false
  dp : d.depth ≤ 60
  sz : d.shown.length ≤ sizeLine
def rRep (K : PySem.W.Frag) : List V → Hp → VK → Prop := fun xs H Q =>
  ∃ v d, xs = [v] ∧ Dp K H v d ∧ Prn d ∧ Q (.str d.shown) H
theorem meets_extT (l b : Addr) (items items2 : Array Value) (n : Nat) (hlong : (!items.isEmpty && Builtin.List.listTooLong (items.size + items2.size)) = false) (h1 : items.size ≤ sizeLine) (h2 : items.size + items2.size ≤ sizeLine + 1) :
    Meets (Builtin.«list.extend» ⟨[.ref l, .ref b], []⟩) (fun _ R s => s.heap.get? l = some { cls := .type "list", data := .seq items n } ∧ IsTup s.heap b items2 ∧
      R (.ok (.ret .none)) { s with heap := s.heap.update l (Obj.mapSeq fun x => x ++ items2) }) := by
  intro prog w A R s ⟨hl, ⟨o, ho, hc, n2, hd⟩, hR⟩
  show wpAny _ A.in1 (Builtin.List.listExtendWith (.ref l) (.ref b) .none) _ _ s
  unfold Builtin.List.listExtendWith
  refine wpAny_bind (wpAny_typeOf ⟨o, ho, hc⟩ ?_)
  have e1 : (Builtin.List.listSameRef (.ref l) (.ref b) || Value.type "tuple" == Value.type "list" || Value.type "tuple" == Value.type "tuple") = true := by simp
  simp only [e1, if_true]
  refine wpAny_bind ?_
  unfold Builtin.List.listItems
  refine wpAny_bind (wpAny_seqItems ho hd (wpAny_pure ?_))
  refine wpAny_bind ?_
  refine wpAny_bind (wpAny_seqItems hl rfl (wpAny_pure ?_))
  rw [hlong]
  show wpAny _ A.in1 (updateSeq l (· ++ items2) >>= fun _ => ret .none) _ _ s
  have h3 : (items ++ items2).size ≤ sizeLine + 1 := by rw [Array.size_append]; exact h2
  refine wpAny_bind (wpAny_updateSeq hl rfl ?_ h1 h3)
  exact wpAny_pure hR
section
variable {X : Cx}
theorem call_rep (hg : X.A.guards = some []) (hu : X.A.units + 64 < cLine) : CallR X (.builtin "repr") (rRep X.K) := by
  intro pins s σ H xs us Q I r h
  obtain ⟨v, d, rfl, hd, ⟨hs, hnd, hdep, hsz⟩, q⟩ := h
  obtain ⟨u, rfl, ru⟩ := vals1 r
  obtain ⟨as, rd⟩ := Dp.reads I d v u hd ru
  cases hd with
  | non =>
    cases ru
    exact PySem.P.repr_of_none ⟨.str _, H, I.tok _, ⟨_, rfl⟩, q⟩
  | bl b =>
    cases ru
    refine PySem.P.repr_of_bool ⟨.str (if b then "True" else "False"), H, I.tok _, ⟨_, rfl⟩, ?_⟩
    cases b <;> exact q
  | int i =>
    obtain ⟨t, rfl⟩ := ru
    exact PySem.P.repr_of_int (of_decide_eq_true (by simpa only [PyData.showable] using hs)) ⟨.str _, H, I.tok _, ⟨_, rfl⟩, q⟩
  | str x =>
    obtain ⟨t, rfl⟩ := ru
    exact PySem.P.repr_of_str ⟨.str _, H, I.tok _, ⟨_, rfl⟩, q⟩ hsz
  | lst h1 h2 =>
    cases ru
    exact repr_of_reads' rd hs (PyData.noDict_hsm hnd) hg (by omega) (fun _ _ e => e) (fun h' u tk hk => ⟨.str _, H, I.kept hk, ⟨_, rfl⟩, q⟩) hsz
  | tup h1 h2 =>
    cases ru
    exact repr_of_reads' rd hs (PyData.noDict_hsm hnd) hg (by omega) (fun _ _ e => e) (fun h' u tk hk => ⟨.str _, H, I.kept hk, ⟨_, rfl⟩, q⟩) hsz
/-- xs.extend(t), t a tuple -/
def rExtT (K : PySem.W.Frag) : V → List V → Hp → VK → Prop := fun x vs H Q =>
  ∃ l b xs zs, x = .ref l ∧ vs = [.ref b] ∧ H l = some (.lst xs) ∧ SqT K H b zs ∧ xs.length + zs.length ≤ sizeLine ∧ Q .non (upd H l (.lst (xs ++ zs)))
theorem mt_extT : MtM X "list.extend" (rExtT X.K) := by
  intro pins s σ H x vs v us Q I rx rv h
  obtain ⟨l, b, xs, zs, rfl, rfl, hH, hB, hz, q⟩ := h
  cases rx
  obtain ⟨u, rfl, ru⟩ := rv.one
  cases ru
  obtain ⟨z, its, n, r, hl, e⟩ := I.lstM hH
  obtain ⟨its2, r2, tp, hl2⟩ := I.tuple hB
  have hl3 := r2.length
  have hl4 := r.length
  have hsz : its.toArray.size + its2.toArray.size ≤ sizeLine := by rw [List.size_toArray, List.size_toArray]; omega
  have hlong : (!its.toArray.isEmpty && Builtin.List.listTooLong (its.toArray.size + its2.toArray.size)) = false := by
    rw [notLongL hsz, Bool.and_false]
  refine call_meets F.slot_list_extend ⟨_, e, rfl⟩ F.entry_list_extend (F.args_list_extend_2 _ _)
    (meets_extT l b its.toArray its2.toArray n hlong (by omega) (by omega)) ⟨e, tp, ?_⟩
  refine ⟨.non, _, I.lset (its' := its ++ its2) hH e (by simp) (r.append r2) ?_, rfl, q⟩
  rw [List.length_append]
  omega
end
/-! a def that may print (repr): called where nothing is being printed -/
section
variable {P : Program} {w : World} {K : PySem.W.Frag} {mg : Str → Option Value} {base : Heap} {CX : CXT}
structure FnG (P : Program) (w : World) (K : PySem.W.Frag) (mg : Str → Option Value) (base : Heap)
    (CX : CXT) (k : Nat) (f : Addr) (fd : FuncData) (ps : List Str) (sp : Sp) : Prop where
  len : ∀ ws H Q E, sp ws H Q E → ws.length = ps.length
  go : ∀ (B : Around) (out : List Env) (t : Shared) (H : Hp) (as : Args) (us : List Value) (ws : List V) (Q : VK) (E : XK), B.guards = some [] → Room k B →
    Env0 P w K mg base B out t H → BindsTo t fd as (ps.zip us) → Vals ws us → sp ws H Q E →
    codeAny (model P w) B (.call (.ref f) as) (CR CX out P w H t Q E) t
theorem FnOk.toG {k : Nat} {f : Addr} {fd : FuncData} {ps : List Str} {sp : Sp} (F : FnOk P w K mg base CX k f fd ps sp) : FnG P w K mg base CX k f fd ps sp :=
  ⟨F.len, fun B out t H as us ws Q E _ => F.run B out t H as us ws Q E⟩
theorem FnG.mono {j k : Nat} {f : Addr} {fd : FuncData} {ps : List Str} {sp : Sp} (F : FnG P w K mg base CX j f fd ps sp) (h : j ≤ k) : FnG P w K mg base CX k f fd ps sp :=
  ⟨F.len, fun B out t H as us ws Q E g r => F.go B out t H as us ws Q E g (r.mono h)⟩
theorem fnG_of {k : Nat} {f : Addr} {name qual : Str} {params : Arguments} {body : List Stmt} {scope : Scope} {dV kV doc pm cdv ct oc : Value} {an od : Option Addr} {osl : Array (Option Value)} {N ps : List Str} {sp : Sp}
    (lk : K.lookup f = some ⟨oc, od, .func (PySem.W.fnOf name qual params body scope dV kV doc pm an cdv ct), osl⟩) (hcd : PySem.W.codeIn K cdv qual = true) (S : FnScope N ps scope)
    (len : ∀ ws H Q E, sp ws H Q E → ws.length = ps.length)
    (hb : ∀ (B : Around) (out : List Env) (t : Shared) (H : Hp) (ws : List V) (Q : VK) (E : XK), B.guards = some [] → Room k (B.deeper (envOfC qual scope t.heap.objs.size f cdv)) → sp ws H Q E →
      ∃ r, PSs (cxOf CX P w K mg base N qual scope f cdv B out t H E) body r ∧ r { nx := fun _ H' => Q .non H', rt := Q } (start N ws) H) :
    FnG P w K mg base CX (k + 1) f (PySem.W.fnOf name qual params body scope dV kV doc pm an cdv ct) ps sp := by
  refine ⟨len, ?_⟩
  intro B out t H as us ws Q E hg hr ee bb rr hsp
  have hl := len _ _ _ _ hsp
  have kx : K.In t.heap := ee.mod.kin.keeps fun b o z => (ee.bs b o z).1
  have lm : t.heap.NoLimit := ee.mod.nolimit.keeps fun b o z => (ee.bs b o z).1
  have kinds : ∀ y ∈ ps.zip us, scope.names.lookup y.1 = some .local ∨ (scope.names.lookup y.1 = some .cell ∧
      ((cellsFrom (t.heap.objs.size + 1) scope.names []).lookup y.1).isSome = true) := by
    rintro ⟨n, v⟩ hy
    rcases S.par n (List.of_mem_zip hy).1 with q | q
    · exact Or.inl q
    · exact Or.inr ⟨q, PySem.W.cellsFrom_some _ _ _ (Or.inl q)⟩
  refine codeAny_call_function hr.depth (kx _ _ lk) rfl S.co S.gen rfl (PySem.W.codeRec_of kx hcd) (bb _ _ _ _ ?_)
  refine wpAny_newFunctionEnv_cells S.kind kinds fun env he t1 x => ?_
  subst he
  refine ⟨lm.keeps x.toInCall.keep, codeAny_func ?_⟩
  obtain ⟨r, ht, hq⟩ := hb B out t H ws Q E hg (hr.deeper _) hsp
  have J := inv_start (CX := CX) (E := E) S hr.hd ee hl rr x
  refine wpAny_mono (ht.run [] t1 (start N ws) H _ J hq) (fun fl t' hs => ?_) (fun _ _ hs => hs)
  cases fl with
  | brk => exact hs.elim fun _ z => z.elim fun _ z => z.2.elim
  | cont => exact hs.elim fun _ z => z.elim fun _ z => z.2.elim
  | ret u =>
    obtain ⟨v, _, H', J', rv, q⟩ := hs
    exact ⟨v, H', J'.os, J'.bare, J'.base, J'.hok, rv, q⟩
  | next =>
    obtain ⟨_, H', J', q⟩ := hs
    exact ⟨.non, H', J'.os, J'.bare, J'.base, J'.hok, rfl, q⟩
end
section
variable {X : Cx} {CX : CXT} {k : Nat} {f : Addr} {fd : FuncData} {ps : List Str} {sp : Sp} {ds : List Value} {dvs : List V} {E : XK} {x : Str} {p pos : Pos} {e : Expr} {es : List Expr} {t : TA}
theorem pe_callG (F : FnG X.prog X.w X.K X.mg X.base CX k f fd ps sp) (gd : X.A.guards = some []) (hr : Room k X.A) (hg : Gl X x) (hm : X.mg x = some (.ref f)) (hk : PySem.W.keepIn X.K (.ref f) = true)
    (hb : Binds X.K fd ps ds) (hd : Vals dvs ds) (hx : Passes CX X E) (ha : PA X (e :: es) t) (hdb : (x == ("__debug__" : Str)) = false := by decide)
    (he : starEach (e :: es) X.env = (false, eval e X.env) :: starEach es X.env := by rfl) (hpl : (backTo pos (starEach es X.env)).any (·.1) = false := by rfl) :
    PE X (.Call (.Name x p) (e :: es) [] pos) (tCall sp dvs E t) := by
  refine ⟨fun pins s σ H Q I h => wpAny_Call_Name_kw (ld_glob I hg hm ?_ hdb)⟩
  refine PySem.W.callWith_K (h₀ := X.base) I.ok.mod.kin hk ?_ he hpl
  refine thn (ha.run pos pins s σ H _ I h) fun us t1 ⟨ws, H1, J, r, q⟩ => ⟨J.kIn, ?_⟩
  have r2 : Vals (ws ++ dvs) (us ++ ds) := r.append hd
  have hl : (us ++ ds).length = ps.length := r2.length.symm.trans (F.len _ _ _ _ q)
  refine wpAny_call (codeAny_mono (F.go X.A X.stack t1 H1 ⟨us, []⟩ (us ++ ds) (ws ++ dvs) Q E gd hr J.env0 (hb t1 us J.kIn hl) r2 q) ?_)
  intro r t' hq
  cases r with
  | error z => exact hx pins σ H1 t1 z t' J hq
  | ok fl =>
    cases fl with
    | ret u => exact J.after hq
    | next => exact False.elim hq
    | brk => exact False.elim hq
    | cont => exact False.elim hq
end
/-! the law's own call, where its def may print -/
abbrev Tru (s₁ : Shared) (r : Result) (t : Shared) : Prop := r = .ok (.ret (.bool true)) ∧ OldK s₁.heap t.heap ∧ t.os = s₁.os ∧ AllBare t.gens
theorem law_core {P : Program} {w : World} {K : PySem.W.Frag} {mg mb : Str → Option Value} {k : Nat} {fa a : Addr} {fd : FuncData} {x : Str} {sp : Sp} {s₁ : Shared} {vs : List Value} {ns : List Int}
    (kx : K.In s₁.heap) (n1 : s₁.heap.Ns mainGlobals mg) (n2 : s₁.heap.Ns builtinsNs mb) (n3 : ∀ x : Str, x ≠ "__name__" → mb x = bootBuiltins x) (n4 : s₁.heap.NoLimit) (g0 : s₁.gens = #[])
    (oa : s₁.heap.get? a = some { cls := .type "list", data := .seq vs.toArray }) (hr : Room k callerA)
    (F : ∀ base : Heap, K.In base → base.Ns mainGlobals mg → FnG P w K mg base CX0 k fa fd [x] sp) (bd : ∀ (s : Shared) (u : Value), BindsTo s fd ⟨[u], []⟩ [(x, u)])
    (hsp : ∀ H : Hp, Only H → SqL K H a (ns.map V.int) → sp [.ref a] H (fun v _ => v = .bl true) fun _ _ _ => False)
    (H : Hp) (hO : Only H) (hS : SqL K H a (ns.map V.int)) (ok : HOk P w H s₁.heap) (hA : ∀ b, H b ≠ none → b = a) (hK : H a ≠ none → K.lookup a = none) :
    codeAny (model P w) callerA (.call (.ref fa) ⟨[.ref a], []⟩) (Tru s₁) s₁ := by
  have out : ∀ {b : Addr} {o : Obj} {es : Array DictEntry} {ep : Nat}, s₁.heap.get? b = some o → o.data = .dict es ep → H b = none := by
    intro b o es ep e d
    by_cases q : H b = none
    · exact q
    · have z := hA b q
      subst z
      rw [oa] at e
      cases e
      exact nomatch d
  have nsK : ∀ {b : Addr} {m : Str → Option Value}, s₁.heap.Ns b m → (hidT s₁.heap H).Ns b m := by
    rintro b m ⟨o, es, ep, e, d, r⟩
    exact ⟨o, es, ep, hidT_get e (out e d), d, r⟩
  have kb : K.In (hidT s₁.heap H) := by
    intro b o e
    refine hidT_get (kx b o e) ?_
    by_cases q : H b = none
    · exact q
    · have z := hA b q
      subst z
      have y := hK q
      rw [y] at e
      cases e
  have lim : (hidT s₁.heap H).NoLimit := by
    obtain ⟨mc, h1, h2⟩ := n4
    exact ⟨mc, nsK h1, h2⟩
  have md : Mod K mg (hidT s₁.heap H) := ⟨kb, nsK n1, ⟨mb, nsK n2, n3⟩, lim⟩
  have ee : Env0 P w K mg (hidT s₁.heap H) callerA [] s₁ H := by
    refine ⟨rfl, md, fun b o e => of_hidT e, Nat.le_of_eq (hidT_size _ _), trivial, ?_, ok, .of_eq g0⟩
    intro b hb
    exact absurd (show b ∈ ([] : List Addr) from hb) (by simp)
  have run := (F _ kb (nsK n1)).go callerA [] s₁ H ⟨[.ref a], []⟩ [.ref a] [.ref a] _ _ rfl hr ee (bd s₁ (.ref a)) (.cons rfl .nil) (hsp H hO hS)
  refine codeAny_mono run ?_
  intro r t h
  cases r with
  | error e => exact False.elim h
  | ok fl =>
    cases fl with
    | brk => exact False.elim h
    | cont => exact False.elim h
    | next => exact False.elim h
    | ret u =>
      obtain ⟨v, H', os, bare, un, ok', rv, q⟩ := h
      have q' : v = .bl true := q
      subst q'
      obtain rfl : u = Value.bool true := rv
      refine ⟨rfl, OldK.of_keep ?_, os, bare⟩
      intro b o e
      rcases hO b with z | ⟨ob, xs, z⟩
      · exact un.keep b o e z (fun y => absurd (show b ∈ ([] : List Addr) from y) (by simp)) (by simp)
      · obtain ⟨e1, _⟩ := ok b _ z
        obtain ⟨e2, _⟩ := ok' b _ (un.frzs b ob _ z)
        rw [e] at e1
        cases e1
        exact e2
theorem law_callG {P : Program} {w : World} {K : PySem.W.Frag} {mg mb : Str → Option Value} {k : Nat} {fa a : Addr} {fd : FuncData} {x : Str} {sp : Sp} {s₁ : Shared} {vs : List Value} {ns : List Int}
    (kx : K.In s₁.heap) (n1 : s₁.heap.Ns mainGlobals mg) (n2 : s₁.heap.Ns builtinsNs mb) (n3 : ∀ x : Str, x ≠ "__name__" → mb x = bootBuiltins x) (n4 : s₁.heap.NoLimit) (g0 : s₁.gens = #[])
    (oa : s₁.heap.get? a = some { cls := .type "list", data := .seq vs.toArray }) (hi : IntsAre vs ns) (hl : ns.length ≤ sizeLine) (hr : Room k callerA)
    (F : ∀ base : Heap, K.In base → base.Ns mainGlobals mg → FnG P w K mg base CX0 k fa fd [x] sp) (bd : ∀ (s : Shared) (u : Value), BindsTo s fd ⟨[u], []⟩ [(x, u)])
    (hsp : ∀ H : Hp, Only H → SqL K H a (ns.map V.int) → sp [.ref a] H (fun v _ => v = .bl true) fun _ _ _ => False) :
    codeAny (model P w) callerA (.call (.ref fa) ⟨[.ref a], []⟩) (Tru s₁) s₁ := by
  have rv := vals_ints hi
  have lv := rv.length
  rw [List.length_map] at lv
  have go := law_core (ns := ns) kx n1 n2 n3 n4 g0 oa hr F bd hsp
  by_cases hk : K.lookup a = none
  · refine go (fun b => if b = a then some (.frz { cls := .type "list", data := .seq vs.toArray } (.lst (ns.map V.int))) else none) ?_ ?_ ?_ ?_ (fun _ => hk)
    · intro b
      by_cases hb : b = a
      · exact Or.inr ⟨_, _, if_pos hb⟩
      · exact Or.inl (if_neg hb)
    · exact .inl (.inr ⟨{ cls := .type "list", data := .seq vs.toArray }, if_pos rfl⟩)
    · intro b u z
      by_cases hb : b = a
      · cases (if_pos hb).symm.trans z
        subst hb
        exact ⟨oa, by rw [List.length_map]; exact hl, vs, _, rv, oa⟩
      · cases (if_neg hb).symm.trans z
    · intro b z
      by_cases hb : b = a
      · exact hb
      · exact absurd (if_neg hb) z
  · obtain ⟨o, hk⟩ := Option.ne_none_iff_exists'.mp hk
    have e := kx a o hk
    rw [oa] at e
    cases e
    refine go (fun _ => none) (fun _ => .inl rfl) ?_ ?_ (fun b z => absurd rfl z) (fun z => absurd rfl z)
    · exact .inr ⟨_, vs.toArray, _, hk, rfl, rfl, rfl, by rw [List.size_toArray, ← lv]; exact hl, by simpa using rv⟩
    · intro b u z
      exact nomatch (show (none : Option HO) = some u from z)
theorem walkG {l : PySem.W.OpenLaw} {n k : Nat} {q : Program} {loose : List Str} {XP : (Str → Option Value) → Heap → Prop} {YP : World → Heap → Prop} {d : DefRec} {K : Params → PySem.W.Frag} {sp : PySem.W.Frag → Sp} {x : Str}
    (hn : l.most = some n) (hn2 : n ≤ sizeLine) (hdf : d.params.defaults = []) (hr : Room k callerA) (hY : ∀ (w : World) (h : Heap), YP w h → (K w.params).In h)
    (F : ∀ (w : World) (mg : Str → Option Value) (fa : Addr) (h : Heap), (K w.params).In h → h.Ns mainGlobals mg → mg d.name = some (.ref fa) →
      ∃ fd : FuncData, (∀ (s : Shared) (u : Value), BindsTo s fd ⟨[u], []⟩ [(x, u)]) ∧ ∀ base : Heap, (K w.params).In base → base.Ns mainGlobals mg → FnG l.prog w (K w.params) mg base CX0 k fa fd [x] (sp (K w.params)))
    (hsp : ∀ (K : PySem.W.Frag) (H : Hp) (a : Addr) (ns : List Int), ns.length ≤ n → Only H → SqL K H a (ns.map V.int) → sp K [.ref a] H (fun v _ => v = .bl true) fun _ _ _ => False) :
    PySem.W.WalkO q loose XP YP l.row.toRowW d [] (fun f vs => PySem.call f vs) := by
  refine Att.attach_call hn hdf ?_
  intro w s₀ s₁ mg mb fa o pm cd doc a vs ns G Y ho hd hcd hmg hobj hints hlen hg
  obtain ⟨fd, hb, hF⟩ := F w mg fa _ (hY w _ Y) G.T.g hmg
  exact law_callG (hY w _ Y) G.T.g G.T.b G.T.builtins G.T.nolimit hg hobj hints (Nat.le_trans hlen hn2) hr hF hb (fun H hO hS => hsp (K w.params) H a ns hlen hO hS)
/-! heaps: what is kept, but for some addresses -/
def cut (l : List Addr) (H : Hp) : Hp := fun b => if b ∈ l then none else H b
def Off (l : List Addr) (H H' : Hp) : Prop := Same (cut l H) (cut l H')
theorem cut_out {l : List Addr} {H : Hp} {b : Addr} (h : b ∉ l) : cut l H b = H b := if_neg h
theorem cut_in {l : List Addr} {H : Hp} {b : Addr} (h : b ∈ l) : cut l H b = none := if_pos h
theorem cut_some {l : List Addr} {H : Hp} {b : Addr} {o : HO} (h : cut l H b = some o) : b ∉ l ∧ H b = some o := by
  by_cases e : b ∈ l
  · rw [cut_in e] at h
    cases h
  · rw [cut_out e] at h
    exact ⟨e, h⟩
theorem same_new {H : Hp} {p : Addr} (h : H p = none) (o : HO) : Same H (upd H p o) := fun b u q => by
  rw [upd_ne (ne_of_none q h)]
  exact q
theorem cut_same (l : List Addr) (H : Hp) : Same (cut l H) H := fun _ _ h => (cut_some h).2
theorem Off.refl (l : List Addr) (H : Hp) : Off l H H := Same.refl _
theorem Off.trans {l : List Addr} {H H1 H2 : Hp} (a : Off l H H1) (b : Off l H1 H2) : Off l H H2 := Same.trans a b
theorem Off.of {l : List Addr} {H H' : Hp} (s : Same H H') : Off l H H' := fun b o h => by
  obtain ⟨n, e⟩ := cut_some h
  rw [cut_out n]
  exact s b o e
theorem Off.get {l : List Addr} {H H' : Hp} (s : Off l H H') {b : Addr} {o : HO} (h : H b = some o) (n : b ∉ l) : H' b = some o := by
  have q := s b o (by rw [cut_out n]; exact h)
  exact (cut_some q).2
theorem Off.mono {l m : List Addr} {H H' : Hp} (s : Off l H H') (h : ∀ b ∈ l, b ∈ m) : Off m H H' := fun b o e => by
  obtain ⟨n, e⟩ := cut_some e
  rw [cut_out n]
  exact s.get e fun z => n (h b z)
/-- a change at an address that is not counted -/
theorem Off.put {l : List Addr} {H : Hp} {p : Addr} {o : HO} (h : p ∈ l) : Off l H (upd H p o) := fun b u e => by
  obtain ⟨n, e⟩ := cut_some e
  rw [cut_out n, upd_ne (fun z => n (by rw [z]; exact h))]
  exact e
/-- an address that was free then -/
theorem Off.free {l : List Addr} {H H' : Hp} (s : Off l H H') {b : Addr} (h : H' b = none) (n : b ∉ l) : H b = none := by
  cases q : H b with
  | none => rfl
  | some o =>
    rw [s.get q n] at h
    cases h
/-! data -/
theorem seqT_up {K : PySem.W.Frag} {H H' : Hp} {a : Addr} {xs : List V} (s : Same H H') (h : SqT K H a xs) : SqT K H' a xs := by
  rcases h with (h | ⟨o, h⟩) | h
  · exact .inl (.inl (s _ _ h))
  · exact .inl (.inr ⟨o, s _ _ h⟩)
  · exact .inr h
mutual
theorem Dp.up {K : PySem.W.Frag} {H H' : Hp} (s : Same H H') : ∀ (d : PyData) (v : V), Dp K H v d → Dp K H' v d
  | .none, _, h => by cases h; exact .non
  | .bool b, _, h => by cases h; exact .bl b
  | .int i, _, h => by cases h; exact .int i
  | .str x, _, h => by cases h; exact .str x
  | .list ds, _, h => by
    cases h with
    | lst h1 h2 => exact .lst (s.seq h1) (Dp.ups s ds _ h2)
  | .tuple ds, _, h => by
    cases h with
    | tup h1 h2 => exact .tup (seqT_up s h1) (Dp.ups s ds _ h2)
  | .dict _, _, h => by cases h
theorem Dp.ups {K : PySem.W.Frag} {H H' : Hp} (s : Same H H') : ∀ (ds : List PyData) (vs : List V), DpAll K H vs ds → DpAll K H' vs ds
  | [], _, h => by cases h; exact .nil
  | d :: ds, _, h => by
    cases h with
    | cons h1 h2 => exact .cons (Dp.up s d _ h1) (Dp.ups s ds _ h2)
end
theorem DpAll.len {K : PySem.W.Frag} {H : Hp} : ∀ {vs : List V} {ds : List PyData}, DpAll K H vs ds → vs.length = ds.length
  | _, _, .nil => rfl
  | _, _, .cons _ t => congrArg (· + 1) (DpAll.len t)
theorem DpAll.get {K : PySem.W.Frag} {H : Hp} : ∀ {vs : List V} {ds : List PyData} {i : Nat} {v : V}, DpAll K H vs ds → vs[i]? = some v → ∃ d, ds[i]? = some d ∧ Dp K H v d
  | _, _, _, _, .nil, e => by simp at e
  | _, _, 0, _, .cons h _, e => by simp at e; subst e; exact ⟨_, rfl, h⟩
  | _, _, i + 1, _, .cons _ t, e => by
    obtain ⟨d, a, b⟩ := DpAll.get (i := i) t (by simpa using e)
    exact ⟨d, by simpa using a, b⟩
theorem DpAll.app {K : PySem.W.Frag} {H : Hp} : ∀ {vs ws : List V} {ds es : List PyData}, DpAll K H vs ds → DpAll K H ws es → DpAll K H (vs ++ ws) (ds ++ es)
  | _, _, _, _, .nil, s => s
  | _, _, _, _, .cons r t, s => .cons r (DpAll.app t s)
/-- the name of a thing's type -/
def tyN : PyData → String
  | .none => "NoneType"
  | .bool _ => "bool"
  | .int _ => "int"
  | .str _ => "str"
  | .list _ => "list"
  | .tuple _ => "tuple"
  | .dict _ => "dict"
theorem tyD {K : PySem.W.Frag} {H : Hp} {v : V} {d : PyData} (h : Dp K H v d) : TyX K H v (.type (tyN d)) := by
  cases h with
  | non => exact .base .non
  | bl b => exact .base (.bl b)
  | int i => exact .base (.int i)
  | str x => exact .base (.str x)
  | lst h _ =>
    rcases h with (h | ⟨o, h⟩) | ⟨o, its, n, h, c, _⟩
    · exact .base (.lst h)
    · exact .base (.frz h)
    · exact .kList h c
  | tup h _ =>
    rcases h with (h | ⟨o, h⟩) | ⟨o, its, n, h, c, _⟩
    · exact .base (.tup h)
    · exact .fTuple h
    · exact .kTuple h c
/-- isinstance(x, T) of data -/
def rIsD (K : PySem.W.Frag) : List V → Hp → VK → Prop := fun xs H Q =>
  ∃ v d T b, xs = [v, .ty T] ∧ Dp K H v d ∧ kitB (tyN d) T = some b ∧ Q (.bl b) H
theorem call_isD {X : Cx} : CallR X (.builtin "isinstance") (rIsD X.K) := by
  intro pins s σ H xs us Q I r h
  obtain ⟨v, d, T, b, rfl, hd, hk, q⟩ := h
  exact call_isi pins s σ H _ us Q I r ⟨v, .ty T, _, _, b, rfl, .ty T, tyD hd, kit_ty hk, q⟩
/-! the box that a law draws from -/
def bx (g : Addr) (n s t : Int) : List (Key × V) := [(Sum.inr "great", .ref g), (Sum.inr "now", .int n), (Sum.inr "seed", .int s), (Sum.inr "turn", .int t)]
structure Box (H : Hp) (p g : Addr) : Prop where
  ex : ∃ n s t gs, H p = some (.dK (bx g n s t)) ∧ H g = some (.lst (List.map V.int gs)) ∧ gs.length ≤ 1000
theorem Box.ne {H : Hp} {p g : Addr} (b : Box H p g) : p ≠ g := by
  obtain ⟨n, s, t, gs, h1, h2, _⟩ := b.ex
  exact ne_of h1 h2 (by intro z; cases z)
theorem Box.off {H H' : Hp} {p g : Addr} {l : List Addr} (b : Box H p g) (h : Off l H H') (n1 : p ∉ l) (n2 : g ∉ l) : Box H' p g := by
  obtain ⟨n, s, t, gs, h1, h2, h3⟩ := b.ex
  exact ⟨n, s, t, gs, h.get h1 n1, h.get h2 n2, h3⟩
theorem Box.same {H H' : Hp} {p g : Addr} (b : Box H p g) (h : Same H H') : Box H' p g := by
  obtain ⟨n, s, t, gs, h1, h2, h3⟩ := b.ex
  exact ⟨n, s, t, gs, h _ _ h1, h _ _ h2, h3⟩
theorem kgn : ¬ ((Sum.inr "great" : Key) = (Sum.inr "now" : Key)) := by decide +kernel
theorem kgs : ¬ ((Sum.inr "great" : Key) = (Sum.inr "seed" : Key)) := by decide +kernel
theorem kgt : ¬ ((Sum.inr "great" : Key) = (Sum.inr "turn" : Key)) := by decide +kernel
theorem kns : ¬ ((Sum.inr "now" : Key) = (Sum.inr "seed" : Key)) := by decide +kernel
theorem knt : ¬ ((Sum.inr "now" : Key) = (Sum.inr "turn" : Key)) := by decide +kernel
theorem kst : ¬ ((Sum.inr "seed" : Key) = (Sum.inr "turn" : Key)) := by decide +kernel
theorem knf (a b : Key) (h : ¬ a = b) : ¬ b = a := fun z => h z.symm
section
variable (g : Addr) (n s t : Int)
theorem bx_great : valV (bx g n s t) (Sum.inr "great" : Key) = some (.ref g) := by
  simp [valV, bx]
theorem bx_now : valV (bx g n s t) (Sum.inr "now" : Key) = some (.int n) := by
  simp only [valV, bx, List.find?_cons, decide_eq_false kgn, decide_true, Option.map_some]
theorem bx_seed : valV (bx g n s t) (Sum.inr "seed" : Key) = some (.int s) := by
  simp only [valV, bx, List.find?_cons, decide_eq_false kgs, decide_eq_false kns, decide_true, Option.map_some]
theorem bx_turn : valV (bx g n s t) (Sum.inr "turn" : Key) = some (.int t) := by
  simp only [valV, bx, List.find?_cons, decide_eq_false kgt, decide_eq_false knt, decide_eq_false kst, decide_true, Option.map_some]
theorem put_now (y : Int) : putK (bx g n s t) (Sum.inr "now" : Key) (.int y) = bx g y s t := by
  simp only [putK, bx, List.any_cons, List.map_cons, List.map_nil, decide_true, Bool.true_or, Bool.or_true, if_true, if_neg kgn, if_neg (knf _ _ kns), if_neg (knf _ _ knt)]
theorem put_seed (y : Int) : putK (bx g n s t) (Sum.inr "seed" : Key) (.int y) = bx g n y t := by
  simp only [putK, bx, List.any_cons, List.map_cons, List.map_nil, decide_true, Bool.true_or, Bool.or_true, if_true, if_neg kgs, if_neg kns, if_neg (knf _ _ kst)]
theorem put_turn (y : Int) : putK (bx g n s t) (Sum.inr "turn" : Key) (.int y) = bx g n s y := by
  simp only [putK, bx, List.any_cons, List.map_cons, List.map_nil, decide_true, Bool.true_or, Bool.or_true, if_true, if_neg kgt, if_neg knt, if_neg kst]
theorem mer_box : mergeK [] (bx g n s t) = bx g n s t := by
  simp only [mergeK, bx, List.foldl_cons, List.foldl_nil, putK, List.any_nil, List.any_cons, List.nil_append, List.cons_append, decide_eq_false kgn, decide_eq_false kgs, decide_eq_false kgt, decide_eq_false kns, decide_eq_false knt, decide_eq_false kst, Bool.or_false, if_neg Bool.false_ne_true]
end
/-! data that can be printed: small ints, short texts, few nodes -/
mutual
def gd : PyData → Bool
  | .none => true
  | .bool _ => true
  | .int i => decide (i.natAbs.log2 < 1920)
  | .str x => decide (x.length ≤ 100) && x.cps.toList.all fun c => decide (c < 128)
  | .list ds => gds ds
  | .tuple ds => gds ds
  | .dict _ => false
def gds : List PyData → Bool
  | [] => true
  | d :: ds => gd d && gds ds
end
mutual
def nod : PyData → Nat
  | .list ds => 1 + nods ds
  | .tuple ds => 1 + nods ds
  | .none => 1
  | .bool _ => 1
  | .int _ => 1
  | .str _ => 1
  | .dict _ => 1
def nods : List PyData → Nat
  | [] => 0
  | d :: ds => nod d + nods ds
end
mutual
theorem gd_sh : ∀ d : PyData, gd d = true → d.showable = true ∧ d.hasDict = false
  | .none, _ => ⟨by simp only [PyData.showable], by simp only [PyData.hasDict]⟩
  | .bool _, _ => ⟨by simp only [PyData.showable], by simp only [PyData.hasDict]⟩
  | .int i, h => ⟨by simpa only [PyData.showable, gd] using h, by simp only [PyData.hasDict]⟩
  | .str _, _ => ⟨by simp only [PyData.showable], by simp only [PyData.hasDict]⟩
  | .list ds, h => by
    have q := gds_sh ds (by simpa only [gd] using h)
    exact ⟨by simpa only [PyData.showable] using q.1, by simpa only [PyData.hasDict] using q.2⟩
  | .tuple ds, h => by
    have q := gds_sh ds (by simpa only [gd] using h)
    exact ⟨by simpa only [PyData.showable] using q.1, by simpa only [PyData.hasDict] using q.2⟩
  | .dict _, h => by simp [gd] at h
theorem gds_sh : ∀ ds : List PyData, gds ds = true → PyData.showableAll ds = true ∧ PyData.hasDictAll ds = false
  | [], _ => ⟨by simp only [PyData.showableAll], by simp only [PyData.hasDictAll]⟩
  | d :: ds, h => by
    simp only [gds, Bool.and_eq_true] at h
    have q1 := gd_sh d h.1
    have q2 := gds_sh ds h.2
    exact ⟨by simp only [PyData.showableAll, q1.1, q2.1, Bool.and_self], by simp only [PyData.hasDictAll, q1.2, q2.2, Bool.or_self]⟩
end
mutual
theorem gd_sz : ∀ d : PyData, gd d = true → d.shown.length + 2 ≤ 2000 * nod d
  | .none, _ => by
    simp only [PyData.shown, nod]
    decide +kernel
  | .bool b, _ => by
    simp only [PyData.shown, nod]
    cases b <;> decide +kernel
  | .int i, h => by
    have h1 : i.natAbs.log2 < 1920 := by simpa only [gd, decide_eq_true_eq] using h
    have q := int_text_len_1921 h1
    simp only [PyData.shown, nod]
    show (Str.ofString (toString i)).length + 2 ≤ _
    omega
  | .str x, h => by
    simp only [gd, Bool.and_eq_true, decide_eq_true_eq, List.all_eq_true] at h
    have q := StrLaws.reprText_len x (fun c hc => Nat.lt_of_lt_of_le (h.2 c hc) (by decide))
    simp only [PyData.shown, nod]
    omega
  | .list ds, h => by
    have q := gds_sz ds (by simpa only [gd] using h)
    have q2 := listText_len_le (PyData.shownAll ds)
    simp only [PyData.shown, nod]
    omega
  | .tuple ds, h => by
    have q := gds_sz ds (by simpa only [gd] using h)
    have q2 := tupleText_len_le (PyData.shownAll ds)
    simp only [PyData.shown, nod]
    omega
  | .dict _, h => by simp [gd] at h
theorem gds_sz : ∀ ds : List PyData, gds ds = true → ((PyData.shownAll ds).map (·.length)).sum + 2 * (PyData.shownAll ds).length ≤ 2000 * nods ds
  | [], _ => by simp [PyData.shownAll, nods]
  | d :: ds, h => by
    simp only [gds, Bool.and_eq_true] at h
    have q1 := gd_sz d h.1
    have q2 := gds_sz ds h.2
    simp only [PyData.shownAll, nods, List.map_cons, List.sum_cons, List.length_cons]
    omega
end
theorem prn_of {d : PyData} (h : gd d = true) (hn : nod d ≤ 8000) (hd : d.depth ≤ 60) : Prn d :=
  ⟨(gd_sh d h).1, (gd_sh d h).2, hd, by
    have q := gd_sz d h
    have e : sizeLine = 16777216 := by decide
    omega⟩
theorem gds_app : ∀ ds es : List PyData, gds (ds ++ es) = (gds ds && gds es)
  | [], es => by simp [gds]
  | d :: ds, es => by simp only [List.cons_append, gds, gds_app ds es, Bool.and_assoc]
theorem nods_app : ∀ ds es : List PyData, nods (ds ++ es) = nods ds + nods es
  | [], es => by simp [nods]
  | d :: ds, es => by simp only [List.cons_append, nods, nods_app ds es, Nat.add_assoc]
theorem nod_pos : ∀ d : PyData, 1 ≤ nod d
  | .list _ => by simp only [nod]; omega
  | .tuple _ => by simp only [nod]; omega
  | .none => by simp only [nod]; omega
  | .bool _ => by simp only [nod]; omega
  | .int _ => by simp only [nod]; omega
  | .str _ => by simp only [nod]; omega
  | .dict _ => by simp only [nod]; omega
theorem nods_len : ∀ ds : List PyData, ds.length ≤ nods ds
  | [] => Nat.le_refl _
  | d :: ds => by
    have := nod_pos d
    have := nods_len ds
    simp only [nods, List.length_cons]
    omega
theorem gds_mem : ∀ {ds : List PyData} {d : PyData}, gds ds = true → d ∈ ds → gd d = true
  | _ :: _, _, h, m => by
    simp only [gds, Bool.and_eq_true] at h
    rcases List.mem_cons.mp m with e | e
    · rw [e]
      exact h.1
    · exact gds_mem h.2 e
theorem nods_mem : ∀ {ds : List PyData} {d : PyData}, d ∈ ds → nod d ≤ nods ds
  | _ :: _, _, m => by
    simp only [nods]
    rcases List.mem_cons.mp m with e | e
    · rw [e]
      omega
    · have := nods_mem e
      omega
theorem depth_mem : ∀ {ds : List PyData} {d : PyData}, d ∈ ds → d.depth ≤ PyData.depthAll ds
  | _ :: _, _, m => by
    simp only [PyData.depthAll]
    rcases List.mem_cons.mp m with e | e
    · rw [e]
      omega
    · have := depth_mem e
      omega
theorem depthAll_app : ∀ ds es : List PyData, PyData.depthAll (ds ++ es) = max (PyData.depthAll ds) (PyData.depthAll es)
  | [], es => by simp [PyData.depthAll]
  | d :: ds, es => by simp only [List.cons_append, PyData.depthAll, depthAll_app ds es, Nat.max_assoc]
/-- built-in names that the top leaves as they are -/
structure Bi (mg : Str → Option Value) : Prop where
  ii : mg "isinstance" = none
  len : mg "len" = none
  all : mg "all" = none
  str : mg "str" = none
  tup : mg "tuple" = none
  int : mg "int" = none
  bool : mg "bool" = none
  rng : mg "range" = none
  rep : mg "repr" = none
  abs : mg "abs" = none
/-! names -/
def lowOk (c : Nat) : Bool := decide (97 ≤ c) && decide (c ≤ 122)
def isNm (x : Str) : Bool := decide (1 ≤ x.length) && decide (x.length ≤ 8) && x.cps.toList.all lowOk
mutual
def isVal : PyData → Bool
  | .int _ => true
  | .str x => isNm x
  | .tuple ds => isVals ds
  | .none => false
  | .bool _ => false
  | .list _ => false
  | .dict _ => false
def isVals : List PyData → Bool
  | [] => true
  | d :: ds => isVal d && isVals ds
end
theorem isVals_app : ∀ ds es : List PyData, isVals (ds ++ es) = (isVals ds && isVals es)
  | [], es => by simp [isVals]
  | d :: ds, es => by simp only [List.cons_append, isVals, isVals_app ds es, Bool.and_assoc]
def isTup : PyData → Bool
  | .tuple _ => true
  | _ => false
def nmD : PyData → Bool
  | .str x => isNm x
  | _ => false
def inD : PyData → Bool
  | .int _ => true
  | _ => false
def isStr : PyData → Bool
  | .str _ => true
  | _ => false
def isIntB : PyData → Bool
  | .int _ => true
  | .bool _ => true
  | _ => false
def isBool : PyData → Bool
  | .bool _ => true
  | _ => false
theorem kit_tup : ∀ d : PyData, kitB (tyN d) "tuple" = some (isTup d)
  | .none => (by decide +kernel : kitB "NoneType" "tuple" = some false)
  | .bool _ => (by decide +kernel : kitB "bool" "tuple" = some false)
  | .int _ => (by decide +kernel : kitB "int" "tuple" = some false)
  | .str _ => (by decide +kernel : kitB "str" "tuple" = some false)
  | .list _ => (by decide +kernel : kitB "list" "tuple" = some false)
  | .tuple _ => (by decide +kernel : kitB "tuple" "tuple" = some true)
  | .dict _ => (by decide +kernel : kitB "dict" "tuple" = some false)
theorem kit_str : ∀ d : PyData, kitB (tyN d) "str" = some (isStr d)
  | .none => (by decide +kernel : kitB "NoneType" "str" = some false)
  | .bool _ => (by decide +kernel : kitB "bool" "str" = some false)
  | .int _ => (by decide +kernel : kitB "int" "str" = some false)
  | .str _ => (by decide +kernel : kitB "str" "str" = some true)
  | .list _ => (by decide +kernel : kitB "list" "str" = some false)
  | .tuple _ => (by decide +kernel : kitB "tuple" "str" = some false)
  | .dict _ => (by decide +kernel : kitB "dict" "str" = some false)
theorem kit_int : ∀ d : PyData, kitB (tyN d) "int" = some (isIntB d)
  | .none => (by decide +kernel : kitB "NoneType" "int" = some false)
  | .bool _ => (by decide +kernel : kitB "bool" "int" = some true)
  | .int _ => (by decide +kernel : kitB "int" "int" = some true)
  | .str _ => (by decide +kernel : kitB "str" "int" = some false)
  | .list _ => (by decide +kernel : kitB "list" "int" = some false)
  | .tuple _ => (by decide +kernel : kitB "tuple" "int" = some false)
  | .dict _ => (by decide +kernel : kitB "dict" "int" = some false)
theorem kit_bool : ∀ d : PyData, kitB (tyN d) "bool" = some (isBool d)
  | .none => (by decide +kernel : kitB "NoneType" "bool" = some false)
  | .bool _ => (by decide +kernel : kitB "bool" "bool" = some true)
  | .int _ => (by decide +kernel : kitB "int" "bool" = some false)
  | .str _ => (by decide +kernel : kitB "str" "bool" = some false)
  | .list _ => (by decide +kernel : kitB "list" "bool" = some false)
  | .tuple _ => (by decide +kernel : kitB "tuple" "bool" = some false)
  | .dict _ => (by decide +kernel : kitB "dict" "bool" = some false)
theorem one_lt (c d : Nat) : (([c] : List Nat) < [d]) ↔ c < d := by
  constructor
  · intro h
    cases h with
    | rel h => exact h
    | cons h => cases h
  · intro h
    exact .rel h
theorem cps_a : (("a" : Str)).cps.toList = [97] := by decide +kernel
theorem cps_z : (("z" : Str)).cps.toList = [122] := by decide +kernel
theorem ge_a (c : Nat) : (!decide ((⟨#[c]⟩ : Str).cps.toList < ("a" : Str).cps.toList)) = decide (97 ≤ c) := by
  rw [cps_a]
  by_cases h : 97 ≤ c
  · have : ¬ ((⟨#[c]⟩ : Str).cps.toList < [97]) := fun z => by
      have := (one_lt c 97).mp z
      omega
    rw [decide_eq_false this, decide_eq_true h]
    rfl
  · have : ((⟨#[c]⟩ : Str).cps.toList < [97]) := (one_lt c 97).mpr (by omega)
    rw [decide_eq_true this, decide_eq_false h]
    rfl
theorem le_z (c : Nat) : (!decide (("z" : Str).cps.toList < (⟨#[c]⟩ : Str).cps.toList)) = decide (c ≤ 122) := by
  rw [cps_z]
  by_cases h : c ≤ 122
  · have : ¬ (([122] : List Nat) < (⟨#[c]⟩ : Str).cps.toList) := fun z => by
      have := (one_lt 122 c).mp z
      omega
    rw [decide_eq_false this, decide_eq_true h]
    rfl
  · have : (([122] : List Nat) < (⟨#[c]⟩ : Str).cps.toList) := (one_lt 122 c).mpr (by omega)
    rw [decide_eq_true this, decide_eq_false h]
    rfl
theorem gd_str {x : Str} (h : gd (.str x) = true) : x.length ≤ 100 := by
  simp only [gd, Bool.and_eq_true, decide_eq_true_eq] at h
  exact h.1
theorem len_cps (x : Str) : x.length = x.cps.size := rfl
theorem cps_at {x : Str} {i c : Nat} (h : x.cps[i]? = some c) : x.cps.toList[i]? = some c := by simpa using h
/-- what is found going along a list -/
theorem take_snoc {α β : Type} (f : α → β) {l : List α} {i : Nat} {a : α} (h : l[i]? = some a) : (l.take (i + 1)).map f = (l.take i).map f ++ [f a] := by
  rw [List.take_add_one, h, List.map_append]
  rfl
theorem all_map {α : Type} (f : α → Bool) : ∀ l : List α, (l.map f).all id = l.all f
  | [] => rfl
  | a :: l => by simp only [List.map_cons, List.all_cons, all_map f l, id]
/-! promises of those that only look -/
def spLook (K : PySem.W.Frag) (ok : PyData → Prop) (g : PyData → V) : Sp := fun vs H Q _ => ∃ v d, vs = [v] ∧ Dp K H v d ∧ ok d ∧ ∀ H', Same H H' → Q (g d) H'
theorem DpAll.unapp {K : PySem.W.Frag} {H : Hp} : ∀ {xs ys : List V} {ds : List PyData}, DpAll K H (xs ++ ys) ds → ∃ d1 d2, ds = d1 ++ d2 ∧ DpAll K H xs d1 ∧ DpAll K H ys d2
  | [], _, ds, h => ⟨[], ds, rfl, .nil, h⟩
  | x :: xs, _, _, h => by
    cases h with
    | cons h1 h2 =>
      obtain ⟨d1, d2, e, a, b⟩ := DpAll.unapp (xs := xs) h2
      exact ⟨_ :: d1, d2, by rw [e]; rfl, .cons h1 a, b⟩
theorem DpAll.last {K : PySem.W.Frag} {H : Hp} {xs : List V} {ds : List PyData} (h : DpAll K H xs ds) (hx : xs ≠ []) : ∃ xs' v ds' d, xs = xs' ++ [v] ∧ ds = ds' ++ [d] ∧ DpAll K H xs' ds' ∧ Dp K H v d := by
  have e := (List.dropLast_concat_getLast hx).symm
  rw [e] at h
  obtain ⟨d1, d2, e2, a, b⟩ := DpAll.unapp h
  cases b with
  | cons b1 b2 =>
    cases b2
    exact ⟨_, _, d1, _, e, e2, a, b1⟩
theorem last_at (xs : List V) (v : V) : (xs ++ [v])[(xs ++ [v]).length - 1]? = some v := by simp
theorem drop_last (xs : List V) (v : V) : (xs ++ [v]).dropLast = xs := by simp
theorem tup_of {K : PySem.W.Frag} {H : Hp} {v : V} {d : PyData} (h : Dp K H v d) (ht : isTup d = true) : ∃ a xs ds, v = .ref a ∧ d = .tuple ds ∧ SqT K H a xs ∧ DpAll K H xs ds := by
  cases h with
  | tup h1 h2 => exact ⟨_, _, _, rfl, rfl, h1, h2⟩
  | non => cases ht
  | bl b => cases ht
  | int i => cases ht
  | str x => cases ht
  | lst h1 h2 => cases ht
theorem isVal_no {d : PyData} (h1 : isTup d = false) : isVal d = (inD d || nmD d) := by
  cases d with
  | tuple ds => exact absurd (show true = false from h1) (by decide)
  | str x => simp only [isVal, inD, nmD, Bool.false_or]
  | int i => simp only [isVal, inD, nmD, Bool.true_or]
  | none => simp only [isVal, inD, nmD, Bool.or_self]
  | bool b => simp only [isVal, inD, nmD, Bool.or_self]
  | list b => simp only [isVal, inD, nmD, Bool.or_self]
  | dict b => simp only [isVal, inD, nmD, Bool.or_self]
/-- going along anything: what one turn does is B -/
theorem along {J : It} {n : Nat} {G : Hp → Prop} {Y : Nat → Hp → V → Hp → Prop} (w : Walk J n G Y) {B : (Hp → Prop) → V → Hp → Prop} {H0 : Hp} {Qd : Hp → Prop} (Pv : Nat → Hp → Prop) (h0 : Pv 0 H0) (hG : ∀ i H, i ≤ n → Pv i H → G H)
    (hs : ∀ i x H H', i < n → Pv i H → Y i H x H' → B (Pv (i + 1)) x H') (hd : ∀ H, Pv n H → Qd H) :
    ∃ W : Nat → Nat → Hp → Prop, (∃ m, W 0 m H0) ∧ ∀ i m H, W i m H → (J.stop i H ∧ Qd H) ∨ (J.go i H ∧ ∃ Nx : Hp → Prop, (∀ H', Nx H' → ∃ m', m' < m ∧ W (i + 1) m' H') ∧ ∀ x H', J.yld i H x H' → B Nx x H') := by
  refine ⟨fun i m H => i ≤ n ∧ m + i = n ∧ Pv i H, ⟨n, Nat.zero_le _, rfl, h0⟩, ?_⟩
  rintro i m H ⟨hi, hm, p⟩
  have gg := hG i H hi p
  by_cases lt : i < n
  · refine Or.inr ⟨w.goes i H lt gg, Pv (i + 1), ?_, ?_⟩
    · intro H' p'
      exact ⟨m - 1, by omega, by omega, by omega, p'⟩
    · intro x H' y
      exact hs i x H H' lt p (w.yields i H x H' lt gg y)
  · have e : i = n := by omega
    subst e
    exact Or.inl ⟨w.stops H gg, hd H p⟩
mutual
def dep : PyData → Nat
  | .tuple ds => 1 + deps ds
  | .none => 0
  | .bool _ => 0
  | .int _ => 0
  | .str _ => 0
  | .list _ => 0
  | .dict _ => 0
def deps : List PyData → Nat
  | [] => 0
  | d :: ds => max (dep d) (deps ds)
end
def kids : PyData → List PyData
  | .tuple ds => ds
  | _ => []
theorem deps_app : ∀ ds es : List PyData, deps (ds ++ es) = max (deps ds) (deps es)
  | [], es => by simp [deps]
  | d :: ds, es => by simp only [List.cons_append, deps, deps_app ds es, Nat.max_assoc]
theorem dep_no {d : PyData} (h : isTup d = false) : dep d = 0 := by
  cases d with
  | tuple ds => exact absurd (show true = false from h) (by decide)
  | str x => simp only [dep]
  | int i => simp only [dep]
  | none => simp only [dep]
  | bool b => simp only [dep]
  | list b => simp only [dep]
  | dict b => simp only [dep]
theorem deps_filter : ∀ ds : List PyData, deps (ds.filter isTup) = deps ds
  | [] => rfl
  | d :: ds => by
    cases h : isTup d with
    | true => simp only [List.filter_cons, h, if_true, deps, deps_filter ds]
    | false => simp only [List.filter_cons, h, Bool.false_eq_true, if_false, deps, deps_filter ds, dep_no h, Nat.zero_max]
theorem deps_kids : ∀ ds : List PyData, (∀ d ∈ ds, isTup d = true) → ds ≠ [] → deps ds = 1 + deps (ds.flatMap kids)
  | [], _, h => absurd rfl h
  | d :: ds, h, _ => by
    have hd := h d List.mem_cons_self
    have e1 : dep d = 1 + deps (kids d) := by
      cases d with
      | tuple es => simp only [dep, kids]
      | _ => cases hd
    rw [List.flatMap_cons, deps_app]
    simp only [deps]
    by_cases e : ds = []
    · subst e
      simp only [deps, List.flatMap_nil, e1]
      omega
    · have ih := deps_kids ds (fun x hx => h x (List.mem_cons_of_mem _ hx)) e
      rw [ih, e1]
      omega
theorem nods_kids : ∀ ds : List PyData, nods (ds.flatMap kids) ≤ nods ds
  | [] => Nat.le_refl _
  | d :: ds => by
    rw [List.flatMap_cons, nods_app]
    have ih := nods_kids ds
    have e : nods (kids d) ≤ nod d := by
      cases d <;> simp only [kids, nods, nod] <;> omega
    simp only [nods]
    omega
theorem nods_filter (p : PyData → Bool) : ∀ ds : List PyData, nods (ds.filter p) ≤ nods ds
  | [] => Nat.le_refl _
  | d :: ds => by
    have ih := nods_filter p ds
    have := nod_pos d
    cases h : p d with
    | true =>
      simp only [List.filter_cons, h, if_true, nods]
      omega
    | false =>
      simp only [List.filter_cons, h, Bool.false_eq_true, if_false, nods]
      omega
theorem nods_take (ds : List PyData) (i : Nat) : nods (ds.take i) ≤ nods ds := by
  have e := congrArg nods (List.take_append_drop i ds)
  rw [nods_app] at e
  omega
theorem get_take {α : Type} {l : List α} {i : Nat} {a : α} (h : l[i]? = some a) : l.take (i + 1) = l.take i ++ [a] := by
  rw [List.take_add_one, h]
  rfl
theorem call_isK {X : Cx} {K : PySem.W.Frag} (h : X.K = K) : CallR X (.builtin "isinstance") (rIsD K) := by
  subst h
  exact call_isD
theorem pi_tupK {X : Cx} {K : PySem.W.Frag} {tg l : Expr} {tl : TE} (h : X.K = K) (hl : PE X l tl) : PI X tg l (iTup K tl) := by
  subst h
  exact pi_tup hl
theorem pi_listK {X : Cx} {K : PySem.W.Frag} {tg l : Expr} {tl : TE} (h : X.K = K) (hl : PE X l tl) : PI X tg l (iList K tl) := by
  subst h
  exact pi_list hl
theorem b_ii : bootBuiltins "isinstance" = some (.builtin "isinstance") := by decide +kernel
theorem b_tup : bootBuiltins "tuple" = some (.type "tuple") := by decide +kernel
theorem b_all : bootBuiltins "all" = some (.builtin "all") := by decide +kernel
theorem b_str : bootBuiltins "str" = some (.type "str") := by decide +kernel
theorem b_int : bootBuiltins "int" = some (.type "int") := by decide +kernel
theorem b_bool : bootBuiltins "bool" = some (.type "bool") := by decide +kernel
theorem b_abs : bootBuiltins "abs" = some (.builtin "abs") := by decide +kernel
theorem b_rep : bootBuiltins "repr" = some (.builtin "repr") := by decide +kernel
theorem b_max : bootBuiltins "max" = some (.builtin "max") := by decide +kernel
theorem b_list : bootBuiltins "list" = some (.type "list") := by decide +kernel
/-! short texts of plain signs -/
structure Sm (n : Nat) (x : Str) : Prop where
  le : x.length ≤ n
  lo : ∀ c ∈ x.cps.toList, c < 128
theorem Sm.gd {n : Nat} {x : Str} (h : Sm n x) (hn : n ≤ 100) : Rl.gd (.str x) = true := by
  have h1 := h.le
  have h3 : x.length ≤ 100 := by omega
  have h2 : (x.cps.toList.all fun c => decide (c < 128)) = true := List.all_eq_true.mpr fun c hc => decide_eq_true (h.lo c hc)
  simp only [Rl.gd, decide_eq_true h3, h2, Bool.and_self]
theorem Sm.mono {n m : Nat} {x : Str} (h : Sm n x) (hn : n ≤ m) : Sm m x := ⟨Nat.le_trans h.le hn, h.lo⟩
theorem Sm.fits {n : Nat} {x : Str} (h : Sm n x) (hn : n ≤ 1000) : x.length ≤ sizeLine := Nat.le_trans h.le (Nat.le_of_lt (small1000 hn))
theorem app_cps (x y : Str) : (x ++ y).cps.toList = x.cps.toList ++ y.cps.toList := by
  show (x.cps ++ y.cps).toList = _
  simp
theorem Sm.app {n m : Nat} {x y : Str} (h : Sm n x) (g : Sm m y) : Sm (n + m) (x ++ y) := by
  refine ⟨?_, fun c hc => ?_⟩
  · rw [Str.length_append]
    have := h.le
    have := g.le
    omega
  · rw [app_cps] at hc
    rcases List.mem_append.mp hc with z | z
    · exact h.lo c z
    · exact g.lo c z
theorem Sm.cut {n : Nat} {x : Str} (h : Sm n x) (lo hi : Option Int) : Sm n (cutS x lo hi) := by
  refine ⟨Nat.le_trans (cutS_length x lo hi) h.le, fun c hc => h.lo c ?_⟩
  unfold cutS at hc
  exact List.mem_of_mem_drop (List.mem_of_mem_take (by simpa using hc))
theorem Sm.up {n : Nat} {x : Str} (h : Sm n x) : Sm n (Txt.upper x) := by
  rw [upper_ascii h.lo]
  refine ⟨?_, fun c hc => ?_⟩
  · have := h.le
    show (x.cps.map up1).size ≤ n
    rw [Array.size_map]
    exact this
  · rw [Array.toList_map] at hc
    obtain ⟨b, hb, rfl⟩ := List.mem_map.mp hc
    have := h.lo b hb
    unfold up1
    split <;> omega
theorem Sm.of {x : Str} {n : Nat} (h : (decide (x.length ≤ n) && x.cps.toList.all fun c => decide (c < 128)) = true) : Sm n x := by
  rw [Bool.and_eq_true] at h
  exact ⟨of_decide_eq_true h.1, fun c hc => of_decide_eq_true (List.all_eq_true.mp h.2 c hc)⟩
theorem Sm.join : ∀ (ys : List Str), (∀ y ∈ ys, Sm 1 y) → Sm ys.length (Txt.join "" ys) := by
  intro ys h
  rw [show Txt.join "" ys = Str.join "" ys from StrLaws.glued_eq_join "" ys]
  refine ⟨?_, fun c hc => ?_⟩
  · have q := StrLaws.join_length_le "" ys
    have e0 : (("" : Str)).length = 0 := by decide +kernel
    have s : (ys.map (·.length)).sum ≤ ys.length := by
      clear q
      induction ys with
      | nil => exact Nat.le_refl _
      | cons y r ih =>
        have h1 := (h y List.mem_cons_self).le
        have h2 := ih fun z hz => h z (List.mem_cons_of_mem _ hz)
        simp only [List.map_cons, List.sum_cons, List.length_cons]
        omega
    rw [e0] at q
    exact Nat.le_trans q (by simpa using s)
  · have q := (mem_join "" c ys).mp hc
    rcases q with ⟨t, ht, hc⟩ | ⟨_, hc⟩
    · exact (h t ht).lo c hc
    · have e0 : (("" : Str)).cps.toList = [] := by decide +kernel
      rw [e0] at hc
      cases hc
mutual
theorem gd_lay : ∀ d : PyData, gd d = true → d.canLay0 = true
  | .none, _ => by simp only [PyData.canLay0]
  | .bool _, _ => by simp only [PyData.canLay0]
  | .int _, _ => by simp only [PyData.canLay0]
  | .str x, h => by
    simp only [gd, Bool.and_eq_true, List.all_eq_true, decide_eq_true_eq] at h
    simp only [PyData.canLay0, PyData.strOk, Array.all_eq_true]
    intro i hi
    exact decide_eq_true (Nat.lt_trans (h.2 _ (by simp)) (by decide))
  | .list ds, h => by
    simp only [PyData.canLay0]
    exact gds_lay ds (by simpa only [gd] using h)
  | .tuple ds, h => by
    simp only [PyData.canLay0]
    exact gds_lay ds (by simpa only [gd] using h)
  | .dict _, h => by simp [gd] at h
theorem gds_lay : ∀ ds : List PyData, gds ds = true → PyData.canLayAll0 ds = true
  | [], _ => by simp only [PyData.canLayAll0]
  | d :: ds, h => by
    simp only [gds, Bool.and_eq_true] at h
    simp only [PyData.canLayAll0, gd_lay d h.1, gds_lay ds h.2, Bool.and_self]
end
theorem shaped_of {d : PyData} (h : gd d = true) (hd : d.depth ≤ 64) : SeqAt.shaped d = true := by
  show (d.canLay0 && decide (d.depth ≤ 64)) = true
  rw [gd_lay d h, decide_eq_true hd]
  rfl
theorem Box.notin {H : Hp} {p g a : Addr} (b : Box H p g) (h : H a = none) : a ∉ [p, g] := by
  obtain ⟨n, s, t, gs, h1, h2, _⟩ := b.ex
  intro z
  rcases List.mem_cons.mp z with e | z
  · rw [e, h1] at h
    cases h
  · rcases List.mem_cons.mp z with e | z
    · rw [e, h2] at h
      cases h
    · cases z
/-- all of these are tracked -/
def Tr (l : List Addr) (H : Hp) : Prop := ∀ b ∈ l, H b ≠ none
theorem off_new {l : List Addr} {H H' : Hp} {a : Addr} {o : HO} (h : Off l H H') (n : a ∉ l) (hn : H a = none) : Off l H (upd H' a o) := by
  intro b u e
  obtain ⟨nb, e⟩ := cut_some e
  rw [cut_out nb, upd_ne (ne_of_none e hn)]
  exact h.get e nb
theorem Box.put {H : Hp} {p g a : Addr} {o : HO} (b : Box H p g) (n : a ∉ [p, g]) : Box (upd H a o) p g := by
  obtain ⟨x, s, t, gs, h1, h2, h3⟩ := b.ex
  exact ⟨x, s, t, gs, by rw [upd_ne (fun z => n (by simp [← z]))]; exact h1, by rw [upd_ne (fun z => n (by simp [← z]))]; exact h2, h3⟩
theorem few {n : Nat} (h : n ≤ 1000) : n ≤ sizeLine := Nat.le_of_lt (small1000 h)
theorem cut_new {l : List Addr} {H : Hp} {a : Addr} {o : HO} (h : H a = none) : Same (cut l H) (cut l (upd H a o)) := Off.of (same_new h o)
theorem Tr.go {l m : List Addr} {H H' : Hp} (t : Tr l H) (o : Off m H H') (hm : ∀ b ∈ m, H' b ≠ none) : Tr l H' := fun b hb => by
  by_cases e : b ∈ m
  · exact hm b e
  · intro z
    exact t b hb (o.free z e)
theorem Box.tr {H : Hp} {p g : Addr} (b : Box H p g) : H p ≠ none ∧ H g ≠ none := by
  obtain ⟨x, s, t, gs, h1, h2, _⟩ := b.ex
  constructor
  · rw [h1]
    exact fun z => nomatch z
  · rw [h2]
    exact fun z => nomatch z
theorem ne_mem {l : List Addr} {a b : Addr} (n : a ∉ l) (h : b ∈ l) : b ≠ a := fun e => n (by rw [← e]; exact h)
theorem few2 {n : Nat} (h : n ≤ 100000) : n ≤ sizeLine := Nat.le_trans h (by decide)
theorem Tr.out {l : List Addr} {H : Hp} (t : Tr l H) {a : Addr} (h : H a = none) : a ∉ l := fun z => t a z h
theorem Tr.same {l : List Addr} {H H' : Hp} (t : Tr l H) (s : Same H H') : Tr l H' := fun b hb z => by
  cases q : H b with
  | none => exact t b hb q
  | some o =>
    rw [s b o q] at z
    cases z
theorem seqT_cut {K : PySem.W.Frag} {l : List Addr} {H : Hp} {a : Addr} {xs : List V} (h : SqT K (cut l H) a xs) : SqT K H a xs := seqT_up (cut_same l H) h
theorem cutV_all (xs : List V) (lo hi : Option Int) (h : HT.sIx xs.length 0 lo = 0 ∧ HT.sIx xs.length xs.length hi = xs.length) : cutV xs lo hi = xs := by
  unfold cutV
  rw [h.1, h.2]
  simp
/-- t + u, what comes of it, apart from the addresses l -/
def rCatU (K : PySem.W.Frag) : R2 := fun x y H Q => ∃ a b xs ys l, x = .ref a ∧ y = .ref b ∧ SqT K (cut l H) a xs ∧ SqT K (cut l H) b ys ∧ Tr l H ∧ xs.length + ys.length ≤ sizeLine ∧
  ∀ c H', Same H H' → SqT K (cut l H') c (xs ++ ys) → Q (.ref c) H'
theorem op_catU {X : Cx} : OpR X (binaryOp .Add) (rCatU X.K) := by
  intro pins s σ H x y v u Q I rx ry h
  obtain ⟨a, b, xs, ys, l, rfl, rfl, ha, hb, tl, hz, q⟩ := h
  refine op_catA pins s σ H _ _ v u Q I rx ry ⟨a, b, xs, ys, rfl, rfl, seqT_cut ha, seqT_cut hb, hz, ?_, ?_, ?_⟩
  · intro e
    exact q b H (Same.refl H) (by rw [e]; exact hb)
  · intro _ e
    exact q a H (Same.refl H) (by rw [e, List.append_nil]; exact ha)
  · intro _ _ c hc
    exact q c _ (same_new hc _) (.inl (.inl (by rw [cut_out (tl.out hc)]; exact upd_same)))
def rSlU (K : PySem.W.Frag) : V → Option Int → Option Int → Hp → VK → Prop := fun x lo hi H Q => ∃ a xs l, x = .ref a ∧ SqT K (cut l H) a xs ∧ Tr l H ∧
  ∀ c H', Same H H' → SqT K (cut l H') c (cutV xs lo hi) → Q (.ref c) H'
theorem sl_tupU {X : Cx} : SlR X (rSlU X.K) := by
  intro pins s σ H x v vl vu lo hi sl Q I rx hs pl pu h
  obtain ⟨a, xs, l, rfl, ha, tl, q⟩ := h
  refine sl_tupA pins s σ H _ v vl vu lo hi sl Q I rx hs pl pu ⟨a, xs, rfl, seqT_cut ha, ?_, ?_⟩
  · intro e
    exact q a H (Same.refl H) (by rw [cutV_all xs lo hi e]; exact ha)
  · intro _ c hc
    exact q c _ (same_new hc _) (.inl (.inl (by rw [cut_out (tl.out hc)]; exact upd_same)))
theorem cutV_take (xs : List V) {r : Int} (h0 : 0 ≤ r) (h : r ≤ (xs.length : Int)) : cutV xs none (some r) = xs.take r.toNat := by
  obtain ⟨n, rfl⟩ := Int.eq_ofNat_of_zero_le h0
  unfold cutV
  rw [HT.sIx_none, HT.sIx_nat]
  have : min n xs.length = n := by omega
  rw [this]
  rfl
theorem cutV_drop (xs : List V) {r : Int} (h0 : 0 ≤ r) (h : r ≤ (xs.length : Int)) : cutV xs (some r) none = xs.drop r.toNat := by
  obtain ⟨n, rfl⟩ := Int.eq_ofNat_of_zero_le h0
  unfold cutV
  rw [HT.sIx_none, HT.sIx_nat]
  have : min n xs.length = n := by omega
  rw [this]
  exact List.take_of_length_le (by rw [List.length_drop]; exact Nat.le_refl _)
/-! errors under KeyError, too: what the base says -/
abbrev keT : List Value := [.type "KeyError", .type "LookupError", .type "Exception", .type "BaseException", .type "object"]
abbrev veT : List Value := [.type "ValueError", .type "Exception", .type "BaseException", .type "object"]
theorem ke_pass (self : Value) : refuseLoop self "__setattr__" keT = pure () := by kernel_rfl
theorem ve_pass (self : Value) : refuseLoop self "__setattr__" veT = pure () := by kernel_rfl
/-- own classes, then T -/
def tlB (T : List Value) : List Value → Bool
  | .ref _ :: r => tlB T r
  | l => l == T
theorem tl_cases (T : List Value) : ∀ l : List Value, tlB T l = true → (∃ c r, l = .ref c :: r ∧ tlB T r = true) ∨ l = T
  | [], e => .inr (beq_iff_eq.mp e)
  | .ref c :: r, e => .inl ⟨c, r, rfl, e⟩
  | .none :: _, e => .inr (beq_iff_eq.mp e)
  | .ellipsis :: _, e => .inr (beq_iff_eq.mp e)
  | .notImplemented :: _, e => .inr (beq_iff_eq.mp e)
  | .bool _ :: _, e => .inr (beq_iff_eq.mp e)
  | .int _ _ :: _, e => .inr (beq_iff_eq.mp e)
  | .float _ _ :: _, e => .inr (beq_iff_eq.mp e)
  | .str _ _ :: _, e => .inr (beq_iff_eq.mp e)
  | .bytes _ _ :: _, e => .inr (beq_iff_eq.mp e)
  | .type _ :: _, e => .inr (beq_iff_eq.mp e)
  | .builtin _ :: _, e => .inr (beq_iff_eq.mp e)
section
variable {T : List Value}
theorem tl_ind {P : List Value → Prop} (h0 : P T) (hs : ∀ c r, P r → P (.ref c :: r)) : ∀ l : List Value, tlB T l = true → P l := by
  intro l
  induction l with
  | nil =>
    intro e
    rcases tl_cases T [] e with ⟨c, r, q, _⟩ | q
    · cases q
    · rw [q]
      exact h0
  | cons a r ih =>
    intro e
    rcases tl_cases T (a :: r) e with ⟨c, r', q, h⟩ | q
    · obtain ⟨rfl, rfl⟩ := List.cons.inj q
      exact hs _ _ (ih h)
    · rw [q]
      exact h0
theorem tl_pass (self : Value) (h0 : refuseLoop self "__setattr__" T = pure ()) : ∀ l : List Value, tlB T l = true → refuseLoop self "__setattr__" l = pure () :=
  tl_ind h0 fun c r ih => by
    rw [refuseLoop_ref]
    exact ih
theorem tl_has (x : String) : ∀ l : List Value, tlB T l = true → l.contains (.type x) = T.contains (.type x) :=
  tl_ind rfl fun c r ih => by
    rw [List.contains_cons, ih]
    rfl
theorem tl_ne (h0 : T.isEmpty = false) : ∀ l : List Value, tlB T l = true → l.isEmpty = false := tl_ind h0 fun c r ih => rfl
end
/-- what is said of the two bases: the id that makes, its owner, the rest of the order of classes -/
structure EBase (B newId initId : String) (bmF T : List Value) : Prop where
  F : ExcBaseFacts B newId initId bmF
  hasB : T.contains (.type B) = true
  noA : T.contains (.type "AttributeError") = false
  noN : T.contains (.type "NameError") = false
  ob : T.contains (.type "object") = true
  ne : T.isEmpty = false
  pass : ∀ self, refuseLoop self "__setattr__" T = pure ()
theorem eb_ve : EBase "ValueError" "ValueError.__new__" "ValueError.__init__" veT veT := ⟨PySem.F.excBase_ValueError, by decide +kernel, by decide +kernel, by decide +kernel, by decide +kernel, rfl, ve_pass⟩
theorem eb_ke : EBase "LookupError" "LookupError.__new__" "LookupError.__init__" [.type "LookupError", .type "Exception", .type "BaseException", .type "object"] keT := ⟨PySem.F.excBase_LookupError, by decide +kernel, by decide +kernel, by decide +kernel, by decide +kernel, rfl, ke_pass⟩
section
variable {M : Model} {A : Around} {E : Value → Shared → Prop} {h : Heap} {g : Array GenState} {d : Drawn} {t : Nat} {os : OsState}
variable {nm q : Str} {C N : Addr} {bs bm bmF T : List Value} {hdct : Bool} {sn : List Str} {sub : List Value} {ab : Bool} {col : Option Bool} {dd : Option Addr} {k0 k1 k2 k3 k5 : Option Value} {B newId initId : String}
theorem e_check (F : EBase B newId initId bmF T) (ht : tlB T bm = true) {rest : List Value} {kw : List (Str × Value)} {Q : Unit → Shared → Prop}
    (hC : h.get? C = some (excClassObj nm q C N bs bm hdct sn sub ab col dd k0 k1 k2 k3 k5 newId)) (hq : Q () ⟨h, g, d, t, os⟩) : wpAny M A (checkBuiltinCall newId ⟨.ref C :: rest, kw⟩) Q E ⟨h, g, d, t, os⟩ := by
  have hcont : (Value.ref C :: bm).contains (.type B) = true := by rw [List.contains_cons, tl_has B bm ht, F.hasB, Bool.or_true]
  have hstar := F.F.noStar
  simp only [checkBuiltinCall, F.F.newKind, F.F.newSplit, F.F.newRow]
  repeat (first | refine wpAny_loadPart_at hC ?_ | (refine wpAny_isSubtype_exc hC ?_; rw [hcont]) | refine wpAny_staticBase_exc hC ?_ | (refine wpAny_madeBy_exc hC ?_) | simp only [bne_self_eq_false, Bool.false_eq_true, if_false] | wp_step)
  exact hq
theorem e_checkT {rest : List Value} {kw : List (Str × Value)} {Q : Unit → Shared → Prop} (hC : h.get? C = some (excClassObj nm q C N bs bm hdct sn sub ab col dd k0 k1 k2 k3 k5 newId))
    (hq : Q () ⟨h, g, d, t, os⟩) : wpAny M A (checkBuiltinCall "type.__call__" ⟨.ref C :: rest, kw⟩) Q E ⟨h, g, d, t, os⟩ := by
  have f3 := tc_sub
  have hT : (⟨h, g, d, t, os⟩ : Shared).TypeIs (.ref C) "type" := ⟨_, hC, rfl⟩
  simp only [checkBuiltinCall, tc_kind, tc_split]
  repeat (any_goals (first | (assumption) | with_reducible refine wpAny_loadPart_at hC ?_ | with_reducible refine wpAny_onRaise ?_ | with_reducible refine wpAny_map ?_ | wp_step))
end
section
variable {prog : Program} {w : World} {A : Around} {E : Value → Shared → Prop} {R : Result → Shared → Prop} {h : Heap} {g : Array GenState} {d : Drawn} {t : Nat} {os : OsState}
variable {nm q : Str} {C N : Addr} {bs bm bmF T : List Value} {hdct : Bool} {sn : List Str} {sub : List Value} {ab : Bool} {col : Option Bool} {dd : Option Addr} {k0 k1 k2 k3 k5 : Option Value} {B newId initId : String}
theorem e_new (F : EBase B newId initId bmF T) (ht : tlB T bm = true) {rest : List Value} {kw : List (Str × Value)}
    (hC : h.get? C = some (excClassObj nm q C N bs bm hdct sn sub ab col dd k0 k1 k2 k3 k5 newId))
    (hq : R (.ok (.ret (.ref (h.objs.size + 1)))) ⟨(h.push (W.kdv_tup rest)).push (HandSPX.excO C h.objs.size), g, d, t, os⟩) (hrest : rest.length ≤ sizeLine) :
    codeAny (model prog w) A (.builtin newId ⟨.ref C :: rest, kw⟩) R ⟨h, g, d, t, os⟩ := by
  have hends := F.F.ends
  have hcB : (Value.ref C :: bm).contains (.type B) = true := by rw [List.contains_cons, tl_has B bm ht, F.hasB, Bool.or_true]
  have hcA : (Value.ref C :: bm).contains (.type "AttributeError") = false := by rw [List.contains_cons, tl_has _ bm ht, F.noA]; rfl
  have hcN : (Value.ref C :: bm).contains (.type "NameError") = false := by rw [List.contains_cons, tl_has _ bm ht, F.noN]; rfl
  refine codeAny_builtinAt F.F.entry ?_
  unfold Builtin.«BaseException.__new__»
  refine PySem.wpAt_bind ?_
  show PySem.wpAt _ _ _ (stack >>= _) _ _ _
  refine PySem.wpAt_bind (PySem.wpAt_stack (fun p below => PySem.wpAt_of_wpAny ?_))
  wp_walk
  refine PySem.wpAt_of_wpAny ?_
  rw [F.F.owner]
  repeat (first | with_reducible refine wpAny_madeHere_exc F.F.canon hC ?_ | with_reducible refine wpAny_loadPart_at hC ?_ | (with_reducible refine wpAny_isSubtype_exc hC ?_; first | rw [hcB] | rw [hcA] | rw [hcN]) | wp_step)
  show R _ _
  rw [Heap.size_push]
  exact hq
theorem e_tcall (F : EBase B newId initId bmF T) (ht : tlB T bm = true) {rest : List Value} {kw : List (Str × Value)} {fI : Addr} {Q : Fin → Shared → Prop}
    (hC : h.get? C = some (excClassObj nm q C N bs bm hdct sn sub ab col dd k0 k1 k2 k3 k5 newId))
    (hi : W.Looks (model prog w) h (typeLookup (.ref C) "__init__") (some (.ref fI))) (hb : ∀ self, W.Looks (model prog w) h (bindSpecial (.ref fI) self) (.ref fI, [self])) (hrest : rest.length ≤ sizeLine)
    (hq : codeAny (model prog w) A (.call (.ref fI) ⟨.ref (h.objs.size + 1) :: rest, kw⟩)
      (fun r s' => match r with | .ok (.ret v) => v = .none ∧ Q (.done (.ret (.ref (h.objs.size + 1)))) s' | .ok _ => False | .error e => E e s')
      ⟨(h.push (W.kdv_tup rest)).push (HandSPX.excO C h.objs.size), g, d, t, os⟩) :
    wpAny (model prog w) A (Builtin.«type.__call__» ⟨.ref C :: rest, kw⟩) Q E ⟨h, g, d, t, os⟩ := by
  repeat (first | with_reducible refine wpAny_loadPart_at hC ?_ | with_reducible refine wpAny_madeBy_exc hC ?_ | wp_step)
  refine codeAny_call_builtin_code (Code.quiet_builtin _ F.F.quiet) (e_check F ht hC ?_)
  refine e_new F ht hC ?_ hrest
  show wpAny _ _ _ _ _ _
  have k : ∀ b o, h.get? b = some o → ((h.push (W.kdv_tup rest)).push (HandSPX.excO C h.objs.size)).get? b = some o := fun b o e => Heap.get?_push_of_some _ (Heap.get?_push_of_some _ e)
  have hC₁ := k _ _ hC
  have hget : ((h.push (W.kdv_tup rest)).push (HandSPX.excO C h.objs.size)).get? (h.objs.size + 1) = some (HandSPX.excO C h.objs.size) := by heap_get
  have hcC : (Value.ref C :: bm).contains (.ref C) = true := by simp
  have i1 := hi.keeps k
  have b1 := (hb (.ref (h.objs.size + 1))).keeps k
  unfold isInstance
  repeat (first | with_reducible refine wpAny_loadPart_at hget ?_ | (with_reducible refine wpAny_isSubtype_exc hC₁ ?_; (rw [hcC])) | wp_step)
  show wpAny _ _ (typeLookup (.ref C) _) _ _ _
  refine i1.at ?_
  refine wpAny_holding (wpAny_bind (b1.at ?_))
  refine wpAny_bind (wpAny_call (codeAny_mono hq (fun r s' z => ?_)))
  rcases r with e | (v | _ | _ | _) <;> first | exact z | exact z.elim | skip
  obtain ⟨rfl, z⟩ := z
  first
    | exact wpAny_pure (wpAny_pure z)
    | (wp_walk; exact z)
theorem e_call (F : EBase B newId initId bmF T) (ht : tlB T bm = true) {rest : List Value} {kw : List (Str × Value)} {fI : Addr}
    (hC : h.get? C = some (excClassObj nm q C N bs bm hdct sn sub ab col dd k0 k1 k2 k3 k5 newId))
    (hi : W.Looks (model prog w) h (typeLookup (.ref C) "__init__") (some (.ref fI))) (hb : ∀ self, W.Looks (model prog w) h (bindSpecial (.ref fI) self) (.ref fI, [self])) (hrest : rest.length ≤ sizeLine)
    (hq : codeAny (model prog w) (A.under (.builtin "type.__call__" ⟨.ref C :: rest, kw⟩)) (.call (.ref fI) ⟨.ref (h.objs.size + 1) :: rest, kw⟩) (W.InitBack (h.objs.size + 1) R)
      ⟨(h.push (W.kdv_tup rest)).push (HandSPX.excO C h.objs.size), g, d, t, os⟩) :
    codeAny (model prog w) A (.call (.ref C) ⟨rest, kw⟩) R ⟨h, g, d, t, os⟩ := by
  have f1 := tc_lookup
  have f2 := tc_bind (.ref C)
  have hTy : (⟨h, g, d, t, os⟩ : Shared).TypeIs (.ref C) "type" := ⟨_, hC, rfl⟩
  refine codeAny_of_tree ?_
  show wpAny _ _ (callAny (.ref C) _) _ _ _
  repeat (any_goals (first | assumption | with_reducible refine wpAny_loadPart_at hC ?_ | wp_step))
  refine ⟨rfl, ?_⟩
  refine codeAny_call_builtin_at (Code.quiet_builtin _ (by decide +kernel)) entry_typeCall (e_checkT hC (e_tcall F ht hC hi hb hrest ?_))
  refine codeAny_mono hq (fun r s' z => ?_)
  rcases r with e | (v | _ | _ | _) <;> exact z
end
/-! errors under ValueError or KeyError, with an __init__ of their own: made, kept as values, looked at -/
section
open PySem.W PySem.Calls
variable {prog : Program} {w : World} {A : Around} {E : Value → Shared → Prop} {R : Result → Shared → Prop} {hp : Heap} {g : Array GenState} {d : Drawn} {t : Nat} {os : OsState}
theorem e_osa {K : W.Frag} {name : Str} {tk : Tok} {v : Value} {x C : Addr} {fv : Array Value} {cd : ClassData} (X : K.In hp) (hx : hp.get? x = some { cls := .ref C, data := .fields fv }) (hcd : W.clsIn K C = some cd)
    (hps : ∀ self, refuseLoop self "__setattr__" cd.mro = pure ()) (ne : cd.mro.isEmpty = false) (hob : cd.mro.contains (.type "object") = true) (hh : cd.hasDict = true) (ha : W.findIn K (.ref C) name = some none)
    (hq : ∀ h' tk' dx, (∀ b o, b ≠ x → hp.get? b = some o → h'.get? b = some o) → hp.objs.size ≤ dx → dx ≠ x → h'.get? x = some { cls := .ref C, dict := some dx, data := .fields fv } →
      h'.Ns1 dx (fun y => if y = name then some v else none) → R (.ok (.ret .none)) ⟨h', g, d, tk', os⟩) :
    codeAny (model prog w) A (.call (.builtin "object.__setattr__") ⟨[.ref x, .str name tk, v], []⟩) R ⟨hp, g, d, t, os⟩ := by
  have I : W.InstAt hp x { cls := .ref C, data := .fields fv } C none := ⟨hx, rfl, rfl, trivial⟩
  have SF := F.store_object
  have hxs : x ≠ hp.objs.size := Nat.ne_of_lt (Heap.lt_size hx)
  have sub : W.Looks (model prog w) hp (isInstance (.ref x) (.type "object")) true := I.type.andThen (W.looks_mroIn X (by unfold W.mroIn; rw [hcd, Option.bind_some, if_neg (by rw [ne]; decide), hob]))
  refine codeAny_call_builtin SF.slot.plain SF.entry (@W.check_slot (model prog w) _ _ ⟨hp, g, d, t, os⟩ "object.__setattr__" "object" "__setattr__" (.ref x) [.str name tk, v] [] _ SF.kind SF.split sub (SF.args (.ref x) (.str name tk) v) ?_)
  have hmr : W.Looks (model prog w) hp (mroOf (.ref C)) cd.mro := (W.looks_clsIn X hcd).andThen .now
  have L3 : W.Looks (model prog w) hp (Builtin.ObjectAttr.storeTaker? none) none := .now
  have hcls : W.Looks (model prog w) hp (classData C) cd := W.looks_clsIn X hcd
  rw [W.osa_eq, refuse_eq]
  refine wpAny_bind (wpAny_bind (I.type.at (wpAny_bind (hmr.at ?_))))
  rw [hps]
  refine wpAny_pure (wpAny_bind (I.type.at (wpAny_bind ((W.looks_findIn X ha).at (wpAny_bind (L3.at ?_))))))
  show wpAny _ _ (Builtin.ObjectAttr.storeInOwnDict (.ref x) (.ref C) (.str name tk) name v false) _ _ _
  obtain ⟨nm, bs, mro, ns, qn, hd, sn, sb, ab, col, del⟩ := cd
  dsimp only at hh
  subst hh
  unfold Builtin.ObjectAttr.storeInOwnDict Builtin.ObjectAttr.ownDictForStores
  repeat (first | with_reducible refine HandSPX.store_in_new ?_ ?_ | with_reducible refine wpAny_loadPart_at hx ?_ | with_reducible refine hcls.at ?_ | wp_step)
  · exact ⟨_, #[], _, (Heap.get?_update_ne _ _ _ _ hxs.symm).trans (Heap.get?_push_at rfl rfl), rfl, (fun e he => absurd he (by simp)), fun _ => rfl⟩
  · intro h' tk' hn' hs
    have hx₁ : (hp.push { cls := .type "dict", data := .dict #[] }).get? x = some { cls := .ref C, data := .fields fv } := Heap.get?_push_of_some _ hx
    refine hq h' tk' hp.objs.size (fun b o hb ho => ?_) (Nat.le_refl _) hxs.symm ?_ hn'
    · exact (hs.2 b (Nat.ne_of_lt (Heap.lt_size ho))).trans ((Heap.get?_update_ne _ _ _ _ hb).trans (Heap.get?_push_of_some _ ho))
    · exact (hs.2 x hxs).trans (Heap.get?_update_self _ hx₁ rfl)
theorem e_osb {K : W.Frag} {name : Str} {tk : Tok} {v : Value} {x C dx : Addr} {fv : Array Value} {cd : ClassData} {m0 : Str → Option Value} {nl : List Str} (X : K.In hp) (hx : hp.get? x = some { cls := .ref C, dict := some dx, data := .fields fv })
    (hns : hp.Ns1 dx m0) (hw : Within m0 nl) (hz : nl.length ≤ 1000) (hcd : W.clsIn K C = some cd)
    (hps : ∀ self, refuseLoop self "__setattr__" cd.mro = pure ()) (ne : cd.mro.isEmpty = false) (hob : cd.mro.contains (.type "object") = true) (hh : cd.hasDict = true) (ha : W.findIn K (.ref C) name = some none)
    (hq : ∀ h' tk', (∀ b o, b ≠ dx → hp.get? b = some o → h'.get? b = some o) → h'.Ns1 dx (fun y => if y = name then some v else m0 y) → R (.ok (.ret .none)) ⟨h', g, d, tk', os⟩) :
    codeAny (model prog w) A (.call (.builtin "object.__setattr__") ⟨[.ref x, .str name tk, v], []⟩) R ⟨hp, g, d, t, os⟩ := by
  obtain ⟨oD, esD, epD, hoD, hdD, _⟩ := hns.count hw
  have I : W.InstAt hp x { cls := .ref C, dict := some dx, data := .fields fv } C (some oD) := ⟨hx, rfl, rfl, hoD⟩
  have SF := F.store_object
  have sub : W.Looks (model prog w) hp (isInstance (.ref x) (.type "object")) true := I.type.andThen (W.looks_mroIn X (by unfold W.mroIn; rw [hcd, Option.bind_some, if_neg (by rw [ne]; decide), hob]))
  refine codeAny_call_builtin SF.slot.plain SF.entry (@W.check_slot (model prog w) _ _ ⟨hp, g, d, t, os⟩ "object.__setattr__" "object" "__setattr__" (.ref x) [.str name tk, v] [] _ SF.kind SF.split sub (SF.args (.ref x) (.str name tk) v) ?_)
  have hmr : W.Looks (model prog w) hp (mroOf (.ref C)) cd.mro := (W.looks_clsIn X hcd).andThen .now
  have L3 : W.Looks (model prog w) hp (Builtin.ObjectAttr.storeTaker? none) none := .now
  have hcls : W.Looks (model prog w) hp (classData C) cd := W.looks_clsIn X hcd
  rw [W.osa_eq, refuse_eq]
  refine wpAny_bind (wpAny_bind (I.type.at (wpAny_bind (hmr.at ?_))))
  rw [hps]
  refine wpAny_pure (wpAny_bind (I.type.at (wpAny_bind ((W.looks_findIn X ha).at (wpAny_bind (L3.at ?_))))))
  show wpAny _ _ (Builtin.ObjectAttr.storeInOwnDict (.ref x) (.ref C) (.str name tk) name v false) _ _ _
  obtain ⟨nm, bs, mro, ns, qn, hd, sn, sb, ab, col, del⟩ := cd
  dsimp only at hh
  subst hh
  unfold Builtin.ObjectAttr.storeInOwnDict Builtin.ObjectAttr.ownDictForStores
  repeat (first | with_reducible refine OEX.store_in_old hns hw hz ?_ | with_reducible refine wpAny_loadPart_at hx ?_ | with_reducible refine hcls.at ?_ | wp_step)
  intro h' tk' hn' hs
  exact hq h' tk' (fun b o hb ho => (hs.2 b hb).trans ho) hn'
end
/-- what the written part says of an own error class that has an __init__ -/
structure ExK (K : PySem.W.Frag) (C : Addr) : Prop where
  cls : ∃ B newId initId bmF T nm q N bs bm sn sub ab col dd k0 k1 k2 k3 k5, EBase B newId initId bmF T ∧ K.lookup C = some (excClassObj nm q C N bs bm true sn sub ab col dd k0 k1 k2 k3 k5 newId) ∧ tlB T bm = true
  sa : PySem.W.findIn K (.ref C) "__setattr__" = some (some (.builtin "object.__setattr__"))
  exC : PySem.W.subIn K (.ref C) (.type "BaseException") = some true
  tyC : PySem.W.typeIn K (.ref C) = some (.type "type")
  kC : PySem.W.keepIn K (.ref C) = true
theorem ExK.cd {K : PySem.W.Frag} {C : Addr} (T : ExK K C) : ∃ cd, PySem.W.clsIn K C = some cd ∧ (∀ self, refuseLoop self "__setattr__" cd.mro = pure ()) ∧ cd.mro.isEmpty = false ∧ cd.mro.contains (.type "object") = true ∧ cd.hasDict = true := by
  obtain ⟨B, newId, initId, bmF, T0, nm, q, N, bs, bm, sn, sub, ab, col, dd, k0, k1, k2, k3, k5, F, hC, hbm⟩ := T.cls
  have h2 : tlB T0 (.ref C :: bm) = true := hbm
  exact ⟨{ name := nm, bases := bs, mro := .ref C :: bm, ns := N, qualname := q, hasDict := true, slotNames := sn, subclasses := sub, abstract := ab, collection := col, hasDel := false }, by (unfold PySem.W.clsIn; rw [hC] <;> rfl),
    fun self => tl_pass self (F.pass self) _ h2, rfl, (tl_has "object" _ h2).trans F.ob, rfl⟩
section
variable {X : Cx} {pins : List (Addr × Obj)} {σ : L2.St} {H : Hp} {s : Shared} {a C dx : Addr} {f : Str} {y : V} {u : Value} {fs : List (Str × V)} {Q : Unit → Shared → Prop} {E : Value → Shared → Prop} {A : Around}
/-- the first attribute -/
theorem e_st1 (T : ExK X.K C) (I : Inv X pins σ H s) (e : H a = some (exo a C none)) (hno : PySem.W.findIn X.K (.ref C) f = some none) (ry : RelV y u)
    (h : ∀ dx s', H dx = none → dx ≠ a → Inv X pins σ (upd (upd H dx (exd dx [(f, y)])) a (exo a C (some dx))) s' → Q () s') : wpAny (model X.prog X.w) A (setAttr (.ref a) f u) Q E s := by
  obtain ⟨cd, hcl, hp0, hne, hob, hdc⟩ := T.cd
  obtain ⟨t1, ho⟩ := exo_at I.hok e
  obtain ⟨hp, g, d, t, os⟩ := s
  refine PySem.W.set_plain I.kIn (ox := { cls := .ref C, dict := none, data := .fields #[.ref t1, .none, .none, .none, .bool false, .none] }) (od := none) ⟨ho, rfl, rfl, trivial⟩ T.sa ?_
  refine e_osa I.kIn ho hcl hp0 hne hob hdc hno (fun h' tk' dx k dn dne hx hn => ?_)
  have hnd : H dx = none := I.hok.fresh dn
  have nd : ∀ {b : Addr} {o : Obj}, hp.get? b = some o → b ≠ dx := fun {b o} q => Nat.ne_of_lt (Nat.lt_of_lt_of_le (Heap.lt_size q) dn)
  have na : ∀ {b : Addr}, H b = none → b ≠ a := fun {b} n z => by
    rw [z, e] at n
    cases n
  have Un1 : Un X.fs [] H (upd (upd H dx (exd dx [(f, y)])) a (exo a C (some dx))) hp h' := ⟨fun b o q n _ _ => k b o (na n) q, fun b o q n _ _ => ⟨o.slots, k b o (na n) q⟩,
    fun b o q n _ => by (rw [upd_ne (na n), upd_ne (nd q)]; exact n),
    fun b o q _ => by
      by_cases hb : b = a
      · exact ⟨_, by (rw [hb]; exact hx)⟩
      · exact ⟨o, k b o hb q⟩,
    fun b xs q => by (rw [upd_ne (at_ne e q exo_tup), upd_ne (ne_of_none q hnd)]; exact q),
    fun b o v q => by (rw [upd_ne (at_ne e q exo_frz), upd_ne (ne_of_none q hnd)]; exact q),
    fun b ps q => ⟨#[], by (rw [upd_ne (at_ne e q exo_tbl), upd_ne (ne_of_none q hnd), q]; simp)⟩⟩
  refine h dx _ hnd dne (I.un (t' := tk') Un1 (fun b o q => ?_))
  by_cases hb : b = a
  · subst hb
    rw [upd_same] at q
    cases q
    exact exo_ok hx
  · rw [upd_ne hb] at q
    by_cases hd : b = dx
    · subst hd
      rw [upd_same] at q
      cases q
      exact exd_ok hn (relO_put (fs := []) ry (fun g => True.intro))
    · rw [upd_ne hd] at q
      refine (I.hok b o q).stay (fun c v hc z => k c v ?_ z) (fun c hc => ?_) (fun c xs hc => ?_)
      · rcases hc with hc | hc
        · rw [hc]
          exact hb
        · exact at_ne e hc exo_own
      · rw [upd_ne (at_ne e hc exo_own), upd_ne (ne_of_none hc hnd)]
        exact hc
      · rw [upd_ne (at_ne e hc exo_tup), upd_ne (ne_of_none hc hnd)]
        exact hc
/-- a further attribute -/
theorem e_st2 (T : ExK X.K C) (I : Inv X pins σ H s) (e : H a = some (exo a C (some dx))) (ed : H dx = some (exd dx fs)) (hl : fs.length ≤ 900) (hno : PySem.W.findIn X.K (.ref C) f = some none) (ry : RelV y u)
    (h : ∀ s', Inv X pins σ (upd H dx (exd dx ((f, y) :: fs))) s' → Q () s') : wpAny (model X.prog X.w) A (setAttr (.ref a) f u) Q E s := by
  obtain ⟨cd, hcl, hp0, hne, hob, hdc⟩ := T.cd
  obtain ⟨t1, ho⟩ := exo_at I.hok e
  obtain ⟨mA, hns, rel⟩ := exd_at I.hok ed
  have hw := within_of rel
  obtain ⟨hp, g, d, t, os⟩ := s
  obtain ⟨oD, _, _, hoD, _, _⟩ := hns.count hw
  refine PySem.W.set_plain I.kIn (ox := { cls := .ref C, dict := some dx, data := .fields #[.ref t1, .none, .none, .none, .bool false, .none] }) (od := some oD) ⟨ho, rfl, rfl, hoD⟩ T.sa ?_
  refine e_osb I.kIn ho hns hw (by (rw [List.length_map]; omega)) hcl hp0 hne hob hdc hno (fun h' tk' k hn => ?_)
  have hd : ∃ o, h'.get? dx = some o := by
    obtain ⟨o, _, _, e', _⟩ := hn
    exact ⟨o, e'⟩
  exact h _ (I.write (t' := tk') (x := dx) (e := dx) (o := exd dx ((f, y) :: fs)) (by rw [ed]; exact True.intro) (.inl rfl) k hd (exd_ok hn (relO_put ry rel)))
end
/-- self.f = e -/
def tOsK (K : PySem.W.Frag) (f : Str) (to te : TE) : TS := fun D σ H => te σ H fun y H1 => to σ H1 fun x H2 => ∃ a C : Addr, x = .ref a ∧ ExK K C ∧ PySem.W.findIn K (.ref C) f = some none ∧
  ((H2 a = some (exo a C none) ∧ ∀ dx, H2 dx = none → dx ≠ a → D.nx σ (upd (upd H2 dx (exd dx [(f, y)])) a (exo a C (some dx)))) ∨
    ∃ (dx : Addr) (fs : List (Str × V)), H2 a = some (exo a C (some dx)) ∧ H2 dx = some (exd dx fs) ∧ fs.length ≤ 900 ∧ D.nx σ (upd H2 dx (exd dx ((f, y) :: fs))))
/-- C(e, ..), kept as a value -/
def tMkE (C : Addr) (sp : Sp) (ta : TA) : TE := fun σ H Q => ta σ H fun vs H1 => vs.length ≤ 900 ∧ ∀ a, H1 a = none → sp (.ref a :: vs) (upd H1 a (exo a C none)) (fun v H2 => v = .non ∧ Q (.ref a) H2) fun _ _ _ => False
/-- C(k = v, ..) -/
def tMkEK (C : Addr) (m : Nat) (sp : Sp) (gV : List V → List V → List V) (tk : TA) : TE := fun σ H Q => tk σ H fun zs H1 => zs.length = m ∧ ∀ a, H1 a = none → sp (gV [.ref a] zs) (upd H1 a (exo a C none)) (fun v H2 => v = .non ∧ Q (.ref a) H2) fun _ _ _ => False
section
variable {X : Cx} {CX : CXT} {k : Nat} {C fI : Addr} {fd : FuncData} {ps ks : List Str} {sp : Sp} {o e : Expr} {es : List Expr} {to te : TE} {ta tk : TA} {f x : Str} {p p' pos : Pos} {g : List Value → List Value → List Value} {gV : List V → List V → List V} {kws : List Keyword}
theorem ps_osK (ho : PE X o to) (he : PE X e te) (hs : swapsWith e (some (.Attribute o f p')) pos.line X.env = pure false := by rfl) : PS X (.Assign [.Attribute o f p'] e pos) (tOsK X.K f to te) := by
  refine ⟨fun pins s σ H D I h => ?_⟩
  refine plainObj_wpAny_Assign_Attribute (thn (he.run pins s σ H _ I h) fun v s1 ⟨y, H1, I1, r1, q1⟩ => thn (ho.run pins s1 σ H1 _ I1 q1) fun u s2 ⟨x, H2, I2, r2, a, C, ex, T, hno, q⟩ => ?_) hs
  subst ex
  obtain rfl : u = Value.ref a := r2
  rcases q with ⟨ea, q⟩ | ⟨dx, fs, ea, ed, hl, q⟩
  · exact e_st1 T I2 ea hno r1 (fun dx s' n ne J => ⟨σ, _, J, q dx n ne⟩)
  · exact e_st2 T I2 ea ed hl hno r1 (fun s' J => ⟨σ, _, J, q⟩)
/-- the class is called -/
theorem run_mkE {pins : List (Addr × Obj)} {σ : L2.St} {H : Hp} {s : Shared} {Q : VK} {us : List Value} {kw : List (Str × Value)} {xs : Addr → List Value} {vs : Addr → List V} (T : ExK X.K C) (iC : PySem.W.findIn X.K (.ref C) "__init__" = some (some (.ref fI)))
    (tI : PySem.W.typeIn X.K (.ref fI) = some (.type "function")) (F1 : FnOk X.prog X.w X.K X.mg X.base CX k fI fd ps sp) (hr : Room (k + 1) X.A) (hx : Passes CX X (fun _ _ _ => False)) (I : Inv X pins σ H s) (hus : us.length ≤ 900)
    (hb : ∀ (s' : Shared) a, X.K.In s'.heap → BindsTo s' fd ⟨.ref a :: us, kw⟩ (ps.zip (xs a))) (r : ∀ a, Vals (vs a) (xs a))
    (h : ∀ a, H a = none → sp (vs a) (upd H a (exo a C none)) (fun v H2 => v = .non ∧ Q (.ref a) H2) fun _ _ _ => False) : wpAny (model X.prog X.w) X.A (call (.ref C) us kw) (EP X pins σ Q) X.xe s := by
  obtain ⟨B, newId, initId, bmF, T0, nm, q, N, bs, bm, sn, sub, ab, col, dd, k0, k1, k2, k3, k5, F, hC, hbm⟩ := T.cls
  obtain ⟨hp, g, dr, tk, os⟩ := s
  have hsz : hp.objs.size ≤ hp.objs.size + 1 := Nat.le_succ _
  have hn : H (hp.objs.size + 1) = none := I.hok.fresh hsz
  have hq := h (hp.objs.size + 1) hn
  have kk : ∀ b o, hp.get? b = some o → ((hp.push (PySem.W.kdv_tup us)).push (PySem.HandSPX.excO C hp.objs.size)).get? b = some o := fun b o e => Heap.get?_push_of_some _ (Heap.get?_push_of_some _ e)
  have hget : ((hp.push (PySem.W.kdv_tup us)).push (PySem.HandSPX.excO C hp.objs.size)).get? (hp.objs.size + 1) = some (PySem.HandSPX.excO C hp.objs.size) := by heap_get
  have I2 : Inv X pins σ (upd H (hp.objs.size + 1) (exo (hp.objs.size + 1) C none)) ⟨(hp.push (PySem.W.kdv_tup us)).push (PySem.HandSPX.excO C hp.objs.size), g, dr, tk, os⟩ :=
    I.laid (t' := tk) (a := hp.objs.size + 1) (o := exo (hp.objs.size + 1) C none) (h' := (hp.push (PySem.W.kdv_tup us)).push (PySem.HandSPX.excO C hp.objs.size)) kk hsz (exo_ok hget)
  refine wpAny_call (e_call F hbm (I.kIn _ _ hC) (PySem.W.looks_findIn I.kIn iC) (fun self => PySem.W.bind_fn I.kIn self tI) (by (rw [sizeLine_eq]; omega))
    (codeAny_mono (F1.run _ X.stack _ _ ⟨Value.ref (hp.objs.size + 1) :: us, kw⟩ (xs (hp.objs.size + 1)) _ _ (fun _ _ _ => False) (hr.make C us kw) (I2.env0.make C us kw) (hb _ _ I2.kIn) (r _) hq) fun r s' hq' => ?_))
  cases r with
  | error er => exact hx pins σ _ _ er s' I2 hq'
  | ok fl =>
    cases fl with
    | ret u =>
      obtain ⟨v, H', I3, rv, ev, q3⟩ := I2.after hq'
      subst ev
      exact ⟨rv, ⟨V.ref (hp.objs.size + 1), H', I3, rfl, q3⟩⟩
    | next => exact False.elim hq'
    | brk => exact False.elim hq'
    | cont => exact False.elim hq'
theorem pe_mkE (T : ExK X.K C) (iC : PySem.W.findIn X.K (.ref C) "__init__" = some (some (.ref fI))) (tI : PySem.W.typeIn X.K (.ref fI) = some (.type "function")) (F1 : FnOk X.prog X.w X.K X.mg X.base CX k fI fd ps sp) (hr : Room (k + 1) X.A)
    (hb : Binds X.K fd ps []) (hx : Passes CX X (fun _ _ _ => False)) (hg : Gl X x) (hm : X.mg x = some (.ref C)) (ha : PA X (e :: es) ta)
    (hdb : (x == ("__debug__" : Str)) = false := by decide) (he : starEach (e :: es) X.env = (false, eval e X.env) :: starEach es X.env := by rfl) (hpl : (backTo pos (starEach es X.env)).any (·.1) = false := by rfl) :
    PE X (.Call (.Name x p) (e :: es) [] pos) (tMkE C sp ta) := by
  refine ⟨fun pins s σ H Q I h => ?_⟩
  refine wpAny_Call_Name_kw (ld_glob I hg hm ?_ hdb)
  refine PySem.W.callWith_K (h₀ := X.base) I.ok.mod.kin T.kC (thn (ha.run pos pins s σ H _ I h) fun us s1 ⟨vs, H1, I1, r1, hz, q1⟩ => ⟨I1.kIn, ?_⟩) he hpl
  show wpAny _ _ (call (.ref C) us) _ _ _
  have hl : us.length = vs.length := r1.length.symm
  refine run_mkE (xs := fun a => .ref a :: us) (vs := fun a => .ref a :: vs) T iC tI F1 hr hx I1 (by (rw [hl]; exact hz)) (fun s' a Y => ?_) (fun a => .cons rfl r1) q1
  have n1 : (Value.ref a :: us ++ []).length = ps.length := by
    have e := F1.len _ _ _ _ (q1 (s1.heap.objs.size + 1) (I1.hok.fresh (Nat.le_succ _)))
    rw [List.append_nil, List.length_cons, hl]
    exact e
  have z := hb s' (.ref a :: us) Y n1
  rw [List.append_nil] at z
  exact z
theorem pe_mkEK (T : ExK X.K C) (iC : PySem.W.findIn X.K (.ref C) "__init__" = some (some (.ref fI))) (tI : PySem.W.typeIn X.K (.ref fI) = some (.type "function")) (F1 : FnOk X.prog X.w X.K X.mg X.base CX k fI fd ps sp) (hr : Room (k + 1) X.A)
    (hb : KBn X.K fd ps 1 ks g gV) (hx : Passes CX X (fun _ _ _ => False)) (hg : Gl X x) (hm : X.mg x = some (.ref C)) (hkw : PK X kws tk)
    (hall : (backToKw pos (keywordEach kws X.env)).all (·.1.isSome) = true := by rfl) (hks : (backToKw pos (keywordEach kws X.env)).filterMap (·.1) = ks := by rfl) (hdb : (x == ("__debug__" : Str)) = false := by decide)
    (hpl : ((backTo pos (starEach [] X.env)).any (·.1) || (backToKw pos (keywordEach kws X.env)).any (·.1.isNone)) = false := by rfl) :
    PE X (.Call (.Name x p) [] kws pos) (tMkEK C ks.length sp gV tk) := by
  refine ⟨fun pins s σ H Q I h => ?_⟩
  refine wpAny_Call_Name_kw (ld_glob I hg hm ?_ hdb)
  refine PySem.W.callWith_KW0 (h₀ := X.base) I.ok.mod.kin T.kC hall ?_ hpl
  refine thn (hkw.run pos pins s σ H _ I h) fun ws s2 ⟨zs, H2, I2, rz, l2, q2⟩ => ⟨I2.kIn, ?_⟩
  rw [hks]
  exact run_mkE (xs := fun a => g [.ref a] ws) (vs := fun a => gV [.ref a] zs) T iC tI F1 hr hx I2 (Nat.zero_le _) (fun s' a Y => hb.to s' [.ref a] ws Y rfl (rz.length.symm.trans l2)) (fun a => hb.rel (.cons rfl .nil) rz) q2
/-- C(), without an __init__ of its own -/
theorem pe_mkE0 {bmB : List Value} {B newId initId : String} (F : ExcBaseFacts B newId initId bmB) (q : PySem.W.excIn X.K C bmB newId = true) (kC : PySem.W.keepIn X.K (.ref C) = true) (hg : Gl X x) (hm : X.mg x = some (.ref C)) (hdb : (x == ("__debug__" : Str)) = false := by decide) :
    PE X (.Call (.Name x p) [] [] pos) (fun σ H Q => ∀ a, H a = none → Q (.ref a) (upd H a (exo a C none))) := by
  refine ⟨fun pins s σ H Q I h => ?_⟩
  refine wpAny_Call_Name_kw (ld_glob I hg hm ?_ hdb)
  refine PySem.W.callWith_K0 I.kIn kC ?_
  show wpAny _ _ (call (.ref C) []) _ _ _
  obtain ⟨bm, N, nm, qn, bs, hdct, sn, sub, ab, col, dd, k0, k1, k2, k3, k5, mN, hC, hN, hni, T⟩ := exc_obj I.kIn q
  refine wpAny_call_exc_subT F T hC hN hni (fun h' a hm => ?_) (Nat.zero_le _)
  have hn : H a = none := I.hok.gone hm.new
  obtain ⟨t, ht, _, _⟩ := hm.there
  exact ⟨.ref a, upd H a (exo a C none), I.laidN hm.keeps hm.new hn (exo_ok ht), rfl, h a hn⟩
/-- raise C(e, ..) -/
theorem pmk_exK {ta : TA} (T : ExK X.K C) (iC : PySem.W.findIn X.K (.ref C) "__init__" = some (some (.ref fI))) (tI : PySem.W.typeIn X.K (.ref fI) = some (.type "function")) (F1 : FnOk X.prog X.w X.K X.mg X.base CX k fI fd ps sp) (hr : Room (k + 1) X.A)
    (hb : Binds X.K fd ps []) (hx : Passes CX X (fun _ _ _ => False)) (hg : Gl X x) (hm : X.mg x = some (.ref C)) (ha : PA X (e :: es) ta)
    (hdb : (x == ("__debug__" : Str)) = false := by decide) (he : starEach (e :: es) X.env = (false, eval e X.env) :: starEach es X.env := by rfl) (hpl : (backTo pos (starEach es X.env)).any (·.1) = false := by rfl) :
    PMk X (.Call (.Name x p) (e :: es) [] pos) (tMkO C sp [] ta) := by
  intro pins s σ H Q I h
  obtain ⟨B, newId, initId, bmF, T0, nm, q, N, bs, bm, sn, sub, ab, col, dd, k0, k1, k2, k3, k5, F, hC, hbm⟩ := T.cls
  refine wpAny_Call_Name_kw (ld_glob I hg hm ?_ hdb)
  refine PySem.W.callWith_K (h₀ := X.base) I.ok.mod.kin T.kC (thn (ha.run pos pins s σ H _ I h) fun us s1 ⟨vs, H1, I1, r1, hz, q1⟩ => ⟨I1.kIn, ?_⟩) he hpl
  show wpAny _ _ (call (.ref C) us) _ _ _
  obtain ⟨hp, g, dr, tk, os⟩ := s1
  have hsz : hp.objs.size ≤ hp.objs.size + 1 := Nat.le_succ _
  have hn : H1 (hp.objs.size + 1) = none := I1.hok.fresh hsz
  have hq := q1 (hp.objs.size + 1) hn
  rw [List.append_nil] at hq
  have kk : ∀ b o, hp.get? b = some o → ((hp.push (PySem.W.kdv_tup us)).push (PySem.HandSPX.excO C hp.objs.size)).get? b = some o := fun b o e => Heap.get?_push_of_some _ (Heap.get?_push_of_some _ e)
  have hget : ((hp.push (PySem.W.kdv_tup us)).push (PySem.HandSPX.excO C hp.objs.size)).get? (hp.objs.size + 1) = some (PySem.HandSPX.excO C hp.objs.size) := by heap_get
  have I2 : Inv X pins σ (upd H1 (hp.objs.size + 1) (exo (hp.objs.size + 1) C none)) ⟨(hp.push (PySem.W.kdv_tup us)).push (PySem.HandSPX.excO C hp.objs.size), g, dr, tk, os⟩ :=
    I1.laid (t' := tk) (a := hp.objs.size + 1) (o := exo (hp.objs.size + 1) C none) (h' := (hp.push (PySem.W.kdv_tup us)).push (PySem.HandSPX.excO C hp.objs.size)) kk hsz (exo_ok hget)
  have r2 : Vals (V.ref (hp.objs.size + 1) :: vs) (Value.ref (hp.objs.size + 1) :: us) := .cons rfl r1
  have hl : (Value.ref (hp.objs.size + 1) :: us ++ []).length = ps.length := by
    have e := r2.length
    rw [F1.len _ _ _ _ hq] at e
    rw [List.append_nil]
    exact e.symm
  have hus : us.length ≤ sizeLine := by
    rw [← Paired.length r1, sizeLine_eq]
    omega
  have bd := hb ⟨(hp.push (PySem.W.kdv_tup us)).push (PySem.HandSPX.excO C hp.objs.size), g, dr, tk, os⟩ (Value.ref (hp.objs.size + 1) :: us) I2.kIn hl
  rw [List.append_nil] at bd
  refine wpAny_call (e_call F hbm (I1.kIn _ _ hC) (PySem.W.looks_findIn I1.kIn iC) (fun self => PySem.W.bind_fn I1.kIn self tI) hus
    (codeAny_mono (F1.run _ X.stack _ _ ⟨Value.ref (hp.objs.size + 1) :: us, []⟩ (Value.ref (hp.objs.size + 1) :: us) _ _ (fun _ _ _ => False) (hr.make C us []) (I2.env0.make C us []) bd r2 hq) fun r s' hq' => ?_))
  cases r with
  | error er => exact hx pins σ _ _ er s' I2 hq'
  | ok fl =>
    cases fl with
    | ret u =>
      obtain ⟨v, H2, os2, bare2, un2, hok2, rv, ev, d, fs, ea, ed, hd1, q2⟩ := hq'
      subst ev
      obtain ⟨h2, g2, d2, t2, os'⟩ := s'
      exact ⟨rv, mk_end (raises_own T.exC T.tyC) I1 hsz kk un2 hok2 os2 bare2 ea ed hd1 q2⟩
    | next => exact False.elim hq'
    | brk => exact False.elim hq'
    | cont => exact False.elim hq'
end
/-! errors that are kept as values: attributes, isinstance -/
/-- e.f -/
def tXa (K : PySem.W.Frag) (f : Str) (te : TE) : TE := fun σ H Q => te σ H fun x H1 => ∃ (a C d : Addr) (fs : List (Str × V)) (v : V), x = .ref a ∧ XfC K C ∧ PySem.W.findIn K (.ref C) f = some none ∧ H1 a = some (exo a C (some d)) ∧ H1 d = some (exd d fs) ∧ fs.lookup f = some v ∧ Q v H1
section
variable {X : Cx} {e : Expr} {te : TE} {pos : Pos} {n : Str}
theorem pe_xa (he : PE X e te) (hb : attributeBase e n X.env (eval e X.env) = eval e X.env := by rfl) : PE X (.Attribute e n pos) (tXa X.K n te) := by
  refine ⟨fun pins s σ H Q I h => ?_⟩
  refine attr_of hb (thn (he.run pins s σ H _ I h) fun u s1 hh => ?_)
  obtain ⟨x, H1, I1, rx, a, C, d, fs, v, ex, T, hno, ea, ed, l, q⟩ := hh
  subst ex
  obtain rfl : u = Value.ref a := rx
  obtain ⟨t1, ha⟩ := exo_at I1.hok ea
  obtain ⟨mA, hns, hr⟩ := exd_at I1.hok ed
  obtain ⟨od, ho, hl⟩ := lookIn_ns hns
  obtain ⟨u, hu, ru⟩ := RelO.some_of (v := v) (o := mA n) (by rw [← l]; exact hr n)
  have J : PySem.W.InstAt s1.heap a { cls := .ref C, dict := some d, data := .fields #[.ref t1, .none, .none, .none, .bool false, .none] } C (some od) := ⟨ha, rfl, rfl, ho⟩
  exact HandSPX.exc_get I1.kIn J T.ga T.gg T.exC (PySem.W.findObj_own T.hdC hno rfl (by rw [hl, hu])) (handed_of ru) ⟨v, H1, I1.tok _, ru, q⟩
end
/-- an error of the class D stands at a -/
def ErrAt (H : Hp) (D a : Addr) : Prop := H a = some (exo a D none) ∨ ∃ d fs, H a = some (exo a D (some d)) ∧ H d = some (exd d fs)
theorem ErrAt.up {H H' : Hp} {D a : Addr} (s : Same H H') (h : ErrAt H D a) : ErrAt H' D a := by
  rcases h with h | ⟨d, fs, h1, h2⟩
  · exact .inl (s _ _ h)
  · exact .inr ⟨d, fs, s _ _ h1, s _ _ h2⟩
def rIsX (K : PySem.W.Frag) : List V → Hp → VK → Prop := fun xs H Q => ∃ (a D : Addr) (c : V) (cv : Value) (b : Bool), xs = [.ref a, c] ∧ ExcC K D ∧ ErrAt H D a ∧ (∀ u, RelV c u → u = cv) ∧ PySem.W.kitOne K (.ref D) cv = some b ∧ Q (.bl b) H
theorem hasD_cls {K : PySem.W.Frag} {D : Addr} (h : PySem.W.hasDictIn K D = true) : (PySem.W.clsIn K D).isSome = true := by
  unfold PySem.W.hasDictIn at h
  cases e : PySem.W.clsIn K D with
  | none =>
    rw [e] at h
    cases h
  | some c => rfl
theorem call_isX {X : Cx} : CallR X (.builtin "isinstance") (rIsX X.K) := by
  intro pins s σ H xs us Q I r h
  obtain ⟨a, D, c, cv, b, rfl, C, he, hcv, e, q⟩ := h
  cases r with
  | cons rx rr =>
    cases rr with
    | cons rt rr =>
      cases rr
      cases rx
      have ec := hcv _ rt
      subst ec
      have fin : ∀ {ox : Obj} {od : Option Obj}, PySem.W.InstAt s.heap a ox D od → wpAny (model X.prog X.w) X.A (call (.builtin "isinstance") [.ref a, _]) (EP X pins σ Q) X.xe s := fun {ox od} J =>
        PySem.W.kia_one (PySem.W.kitx_exc (hasD_cls C.hd) C.hg C.hk C.hs C.ha C.hn C.ht C.hm) I.kIn J e (fun z => nomatch z) fun tk => ⟨.bl b, H, I.kept (t' := tk) fun _ _ z => z, rfl, q⟩
      rcases he with ea | ⟨d, fs, ea, ed⟩
      · obtain ⟨t1, ha⟩ := exo_at I.hok ea
        exact fin (od := none) ⟨ha, rfl, rfl, trivial⟩
      · obtain ⟨t1, ha⟩ := exo_at I.hok ea
        obtain ⟨mA, ⟨o, es, ep, ho, hr⟩, _⟩ := exd_at I.hok ed
        exact fin (od := some o) ⟨ha, rfl, rfl, ho⟩
def topS (i : Nat) : Stmt := PySem.Challenge.pw_runlore_k01_errors_and_their_attributes.main.body.getD i (.Pass ⟨0, 0, 0, 0⟩)
/-- an error of the class C with these attributes stands at a, its dict at d -/
def ErrD (H : Hp) (C a d : Addr) (fs : List (Str × V)) : Prop := H a = some (exo a C (some d)) ∧ H d = some (exd d fs)
theorem ErrD.up {H H' : Hp} {C a d : Addr} {fs : List (Str × V)} (s : Same H H') (h : ErrD H C a d fs) : ErrD H' C a d fs := ⟨s _ _ h.1, s _ _ h.2⟩
theorem ErrD.at {H : Hp} {C a d : Addr} {fs : List (Str × V)} (h : ErrD H C a d fs) : ErrAt H C a := .inr ⟨d, fs, h.1, h.2⟩
theorem few9 {n : Nat} (h : n ≤ 3) : n ≤ 900 := Nat.le_trans h (by decide)
/-- an __init__ that keeps its arguments in attributes of these names -/
def spIni (C : Addr) (ns : List Str) : Sp := fun vs H Q _ => ∃ (a : Addr) (ws : List V), vs = .ref a :: ws ∧ ws.length = ns.length ∧ H a = some (exo a C none) ∧
  ∀ d H', H d = none → d ≠ a → ErrD H' C a d (ns.zip ws).reverse → (∀ b o, b ≠ a → H b = some o → H' b = some o) → Q .non H'
/-- what is known of an error class with an __init__ of its own -/
structure EC (P : Program) (w : World) (K : PySem.W.Frag) (mg : Str → Option Value) (base : Heap) (nm : Str) (ns ks : List Str) (C fI : Addr) (fd : FuncData) : Prop where
  T : ExK K C
  X : XfC K C
  E : ExcC K C
  iC : PySem.W.findIn K (.ref C) "__init__" = some (some (.ref fI))
  tI : PySem.W.typeIn K (.ref fI) = some (.type "function")
  ok : FnOk P w K mg base CX0 1 fI fd ("self" :: ns) (spIni C ns)
  bd : Binds K fd ("self" :: ns) []
  kb : KBn K fd ("self" :: ns) 1 ks (fun us zs => us ++ zs.reverse) (fun us zs => us ++ zs.reverse)
  mg : mg nm = some (.ref C)
  no : ∀ f ∈ ns, PySem.W.findIn K (.ref C) f = some none
section
variable {P : Program} {w : World} {K : PySem.W.Frag} {mg : Str → Option Value} {base : Heap} {C fI : Addr} {fd : FuncData}
abbrev sI2 : Stmt := inClass (topS 2) 0
theorem scI2 : FnScope ["self", "at"] ["self", "at"] (defScope sI2) := ⟨rfl, rfl, rfl, by decide +kernel, rfl, by decide +kernel, by decide +kernel⟩
theorem ok_I2 {k : Nat} (F : Fun K "__init__" "NoText.__init__" sI2 fI fd) (T : ExK K C) (no0 : PySem.W.findIn K (.ref C) "at" = some none) : FnOk P w K mg base CX0 (k + 1) fI fd ["self", "at"] (spIni C ["at"]) := by
  refine F.ok scI2 (fun vs H Q E h => ?_) (fun cdv A outer s H vs Q E hr h => ?_)
  · obtain ⟨a, ws, rfl, hl, _⟩ := h
    simp only [List.length_cons, hl]
  obtain ⟨a, ws, rfl, hl, ha, q⟩ := h
  match ws, hl with
  | [v0], _ =>
    refine ⟨_, pss_one (ps_osK (pv 0) (pv 1)), ?_⟩
    refine ⟨_, rfl, _, rfl, a, C, rfl, T, no0, .inl ⟨ha, fun dx n1 n2 => q dx _ n1 n2 ⟨upd_same, by (rw [upd_ne n2]; exact upd_same)⟩ fun b o nb hb => ?_⟩⟩
    rw [upd_ne nb, upd_ne (ne_of_none hb n1)]
    exact hb
abbrev sI3 : Stmt := inClass (topS 3) 0
theorem scI3 : FnScope ["self", "word", "name", "path"] ["self", "word", "name", "path"] (defScope sI3) := ⟨rfl, rfl, rfl, by decide +kernel, rfl, by decide +kernel, by decide +kernel⟩
theorem ok_I3 {k : Nat} (F : Fun K "__init__" "NoBook.__init__" sI3 fI fd) (T : ExK K C) (no0 : PySem.W.findIn K (.ref C) "word" = some none) (no1 : PySem.W.findIn K (.ref C) "name" = some none) (no2 : PySem.W.findIn K (.ref C) "path" = some none) : FnOk P w K mg base CX0 (k + 1) fI fd ["self", "word", "name", "path"] (spIni C ["word", "name", "path"]) := by
  refine F.ok scI3 (fun vs H Q E h => ?_) (fun cdv A outer s H vs Q E hr h => ?_)
  · obtain ⟨a, ws, rfl, hl, _⟩ := h
    simp only [List.length_cons, hl]
  obtain ⟨a, ws, rfl, hl, ha, q⟩ := h
  match ws, hl with
  | [v0, v1, v2], _ =>
    refine ⟨_, pss_cons (ps_osK (pv 0) (pv 1)) (pss_cons (ps_osK (pv 0) (pv 2)) (pss_one (ps_osK (pv 0) (pv 3)))), ?_⟩
    refine ⟨_, rfl, _, rfl, a, C, rfl, T, no0, .inl ⟨ha, fun dx n1 n2 => ?_⟩⟩
    refine ⟨_, rfl, _, rfl, a, C, rfl, T, no1, .inr ⟨dx, _, upd_same, by (rw [upd_ne n2]; exact upd_same), few9 (by simp), ?_⟩⟩
    refine ⟨_, rfl, _, rfl, a, C, rfl, T, no2, .inr ⟨dx, _, by (rw [upd_ne (Ne.symm n2)]; exact upd_same), upd_same, few9 (by simp), q dx _ n1 n2 ⟨by (rw [upd_ne (Ne.symm n2), upd_ne (Ne.symm n2)]; exact upd_same), upd_same⟩ fun b o nb hb => ?_⟩⟩
    rw [upd_ne (ne_of_none hb n1), upd_ne (ne_of_none hb n1), upd_ne nb, upd_ne (ne_of_none hb n1)]
    exact hb
abbrev sI4 : Stmt := inClass (topS 4) 0
theorem scI4 : FnScope ["self", "word", "name"] ["self", "word", "name"] (defScope sI4) := ⟨rfl, rfl, rfl, by decide +kernel, rfl, by decide +kernel, by decide +kernel⟩
theorem ok_I4 {k : Nat} (F : Fun K "__init__" "NoSheet.__init__" sI4 fI fd) (T : ExK K C) (no0 : PySem.W.findIn K (.ref C) "word" = some none) (no1 : PySem.W.findIn K (.ref C) "name" = some none) : FnOk P w K mg base CX0 (k + 1) fI fd ["self", "word", "name"] (spIni C ["word", "name"]) := by
  refine F.ok scI4 (fun vs H Q E h => ?_) (fun cdv A outer s H vs Q E hr h => ?_)
  · obtain ⟨a, ws, rfl, hl, _⟩ := h
    simp only [List.length_cons, hl]
  obtain ⟨a, ws, rfl, hl, ha, q⟩ := h
  match ws, hl with
  | [v0, v1], _ =>
    refine ⟨_, pss_cons (ps_osK (pv 0) (pv 1)) (pss_one (ps_osK (pv 0) (pv 2))), ?_⟩
    refine ⟨_, rfl, _, rfl, a, C, rfl, T, no0, .inl ⟨ha, fun dx n1 n2 => ?_⟩⟩
    refine ⟨_, rfl, _, rfl, a, C, rfl, T, no1, .inr ⟨dx, _, upd_same, by (rw [upd_ne n2]; exact upd_same), few9 (by simp), q dx _ n1 n2 ⟨by (rw [upd_ne (Ne.symm n2)]; exact upd_same), upd_same⟩ fun b o nb hb => ?_⟩⟩
    rw [upd_ne (ne_of_none hb n1), upd_ne nb, upd_ne (ne_of_none hb n1)]
    exact hb
abbrev sI5 : Stmt := inClass (topS 5) 0
theorem scI5 : FnScope ["self", "at"] ["self", "at"] (defScope sI5) := ⟨rfl, rfl, rfl, by decide +kernel, rfl, by decide +kernel, by decide +kernel⟩
theorem ok_I5 {k : Nat} (F : Fun K "__init__" "NoWord.__init__" sI5 fI fd) (T : ExK K C) (no0 : PySem.W.findIn K (.ref C) "at" = some none) : FnOk P w K mg base CX0 (k + 1) fI fd ["self", "at"] (spIni C ["at"]) := by
  refine F.ok scI5 (fun vs H Q E h => ?_) (fun cdv A outer s H vs Q E hr h => ?_)
  · obtain ⟨a, ws, rfl, hl, _⟩ := h
    simp only [List.length_cons, hl]
  obtain ⟨a, ws, rfl, hl, ha, q⟩ := h
  match ws, hl with
  | [v0], _ =>
    refine ⟨_, pss_one (ps_osK (pv 0) (pv 1)), ?_⟩
    refine ⟨_, rfl, _, rfl, a, C, rfl, T, no0, .inl ⟨ha, fun dx n1 n2 => q dx _ n1 n2 ⟨upd_same, by (rw [upd_ne n2]; exact upd_same)⟩ fun b o nb hb => ?_⟩⟩
    rw [upd_ne nb, upd_ne (ne_of_none hb n1)]
    exact hb
abbrev sI6 : Stmt := inClass (topS 6) 0
theorem scI6 : FnScope ["self", "at"] ["self", "at"] (defScope sI6) := ⟨rfl, rfl, rfl, by decide +kernel, rfl, by decide +kernel, by decide +kernel⟩
theorem ok_I6 {k : Nat} (F : Fun K "__init__" "NoNote.__init__" sI6 fI fd) (T : ExK K C) (no0 : PySem.W.findIn K (.ref C) "at" = some none) : FnOk P w K mg base CX0 (k + 1) fI fd ["self", "at"] (spIni C ["at"]) := by
  refine F.ok scI6 (fun vs H Q E h => ?_) (fun cdv A outer s H vs Q E hr h => ?_)
  · obtain ⟨a, ws, rfl, hl, _⟩ := h
    simp only [List.length_cons, hl]
  obtain ⟨a, ws, rfl, hl, ha, q⟩ := h
  match ws, hl with
  | [v0], _ =>
    refine ⟨_, pss_one (ps_osK (pv 0) (pv 1)), ?_⟩
    refine ⟨_, rfl, _, rfl, a, C, rfl, T, no0, .inl ⟨ha, fun dx n1 n2 => q dx _ n1 n2 ⟨upd_same, by (rw [upd_ne n2]; exact upd_same)⟩ fun b o nb hb => ?_⟩⟩
    rw [upd_ne nb, upd_ne (ne_of_none hb n1)]
    exact hb
abbrev sI8 : Stmt := inClass (topS 8) 0
theorem scI8 : FnScope ["self", "most"] ["self", "most"] (defScope sI8) := ⟨rfl, rfl, rfl, by decide +kernel, rfl, by decide +kernel, by decide +kernel⟩
theorem ok_I8 {k : Nat} (F : Fun K "__init__" "TooMany.__init__" sI8 fI fd) (T : ExK K C) (no0 : PySem.W.findIn K (.ref C) "most" = some none) : FnOk P w K mg base CX0 (k + 1) fI fd ["self", "most"] (spIni C ["most"]) := by
  refine F.ok scI8 (fun vs H Q E h => ?_) (fun cdv A outer s H vs Q E hr h => ?_)
  · obtain ⟨a, ws, rfl, hl, _⟩ := h
    simp only [List.length_cons, hl]
  obtain ⟨a, ws, rfl, hl, ha, q⟩ := h
  match ws, hl with
  | [v0], _ =>
    refine ⟨_, pss_one (ps_osK (pv 0) (pv 1)), ?_⟩
    refine ⟨_, rfl, _, rfl, a, C, rfl, T, no0, .inl ⟨ha, fun dx n1 n2 => q dx _ n1 n2 ⟨upd_same, by (rw [upd_ne n2]; exact upd_same)⟩ fun b o nb hb => ?_⟩⟩
    rw [upd_ne nb, upd_ne (ne_of_none hb n1)]
    exact hb
abbrev sI9 : Stmt := inClass (topS 9) 0
theorem scI9 : FnScope ["self", "most"] ["self", "most"] (defScope sI9) := ⟨rfl, rfl, rfl, by decide +kernel, rfl, by decide +kernel, by decide +kernel⟩
theorem ok_I9 {k : Nat} (F : Fun K "__init__" "TooBig.__init__" sI9 fI fd) (T : ExK K C) (no0 : PySem.W.findIn K (.ref C) "most" = some none) : FnOk P w K mg base CX0 (k + 1) fI fd ["self", "most"] (spIni C ["most"]) := by
  refine F.ok scI9 (fun vs H Q E h => ?_) (fun cdv A outer s H vs Q E hr h => ?_)
  · obtain ⟨a, ws, rfl, hl, _⟩ := h
    simp only [List.length_cons, hl]
  obtain ⟨a, ws, rfl, hl, ha, q⟩ := h
  match ws, hl with
  | [v0], _ =>
    refine ⟨_, pss_one (ps_osK (pv 0) (pv 1)), ?_⟩
    refine ⟨_, rfl, _, rfl, a, C, rfl, T, no0, .inl ⟨ha, fun dx n1 n2 => q dx _ n1 n2 ⟨upd_same, by (rw [upd_ne n2]; exact upd_same)⟩ fun b o nb hb => ?_⟩⟩
    rw [upd_ne nb, upd_ne (ne_of_none hb n1)]
    exact hb
abbrev sI10 : Stmt := inClass (topS 10) 0
theorem scI10 : FnScope ["self", "place"] ["self", "place"] (defScope sI10) := ⟨rfl, rfl, rfl, by decide +kernel, rfl, by decide +kernel, by decide +kernel⟩
theorem ok_I10 {k : Nat} (F : Fun K "__init__" "NoPlace.__init__" sI10 fI fd) (T : ExK K C) (no0 : PySem.W.findIn K (.ref C) "place" = some none) : FnOk P w K mg base CX0 (k + 1) fI fd ["self", "place"] (spIni C ["place"]) := by
  refine F.ok scI10 (fun vs H Q E h => ?_) (fun cdv A outer s H vs Q E hr h => ?_)
  · obtain ⟨a, ws, rfl, hl, _⟩ := h
    simp only [List.length_cons, hl]
  obtain ⟨a, ws, rfl, hl, ha, q⟩ := h
  match ws, hl with
  | [v0], _ =>
    refine ⟨_, pss_one (ps_osK (pv 0) (pv 1)), ?_⟩
    refine ⟨_, rfl, _, rfl, a, C, rfl, T, no0, .inl ⟨ha, fun dx n1 n2 => q dx _ n1 n2 ⟨upd_same, by (rw [upd_ne n2]; exact upd_same)⟩ fun b o nb hb => ?_⟩⟩
    rw [upd_ne nb, upd_ne (ne_of_none hb n1)]
    exact hb
abbrev sI11 : Stmt := inClass (topS 11) 0
theorem scI11 : FnScope ["self", "name"] ["self", "name"] (defScope sI11) := ⟨rfl, rfl, rfl, by decide +kernel, rfl, by decide +kernel, by decide +kernel⟩
theorem ok_I11 {k : Nat} (F : Fun K "__init__" "NoCell.__init__" sI11 fI fd) (T : ExK K C) (no0 : PySem.W.findIn K (.ref C) "name" = some none) : FnOk P w K mg base CX0 (k + 1) fI fd ["self", "name"] (spIni C ["name"]) := by
  refine F.ok scI11 (fun vs H Q E h => ?_) (fun cdv A outer s H vs Q E hr h => ?_)
  · obtain ⟨a, ws, rfl, hl, _⟩ := h
    simp only [List.length_cons, hl]
  obtain ⟨a, ws, rfl, hl, ha, q⟩ := h
  match ws, hl with
  | [v0], _ =>
    refine ⟨_, pss_one (ps_osK (pv 0) (pv 1)), ?_⟩
    refine ⟨_, rfl, _, rfl, a, C, rfl, T, no0, .inl ⟨ha, fun dx n1 n2 => q dx _ n1 n2 ⟨upd_same, by (rw [upd_ne n2]; exact upd_same)⟩ fun b o nb hb => ?_⟩⟩
    rw [upd_ne nb, upd_ne (ne_of_none hb n1)]
    exact hb
/-- keywords, the other way about -/
theorem kb_of {st : Stmt} {qual : Str} {ns ks : List Str} (F : Fun K "__init__" qual st fI fd) (h : ∀ (kV doc pm : Value) (an : Option Addr) (cdv ct : Value) (us ws : List Value), us.length = 1 → ws.length = ks.length →
      bindArgs (PySem.W.fnOf "__init__" qual (defArgs st) (defBody st) (defScope st) .none kV doc pm an cdv ct) ⟨us, ks.zip ws⟩ = pure ((("self" : Str) :: ns).zip (us ++ ws.reverse))) :
    KBn K fd ("self" :: ns) 1 ks (fun us zs => us ++ zs.reverse) (fun us zs => us ++ zs.reverse) := by
  obtain ⟨oc, od, kV, doc, pm, an, cdv, ct, osl, rfl, lk, hcd⟩ := F.ex
  refine ⟨fun s us ws X l1 l2 => BindsTo.of_eq (h kV doc pm an cdv ct us ws l1 l2), fun {vs us zs ws} r1 r2 => r1.append ?_⟩
  have rev : ∀ {as : List V} {bs : List Value}, Vals as bs → Vals as.reverse bs.reverse := by
    intro as bs r
    induction r with
    | nil => exact .nil
    | cons h t ih =>
      rw [List.reverse_cons, List.reverse_cons]
      exact ih.append (.cons h .nil)
  exact rev r2
end
abbrev sBox : Stmt := topS 13
abbrev sTake : Stmt := topS 14
theorem c47 : (0 : Int) < 2147483647 := by decide
theorem c29 : (0 : Int) < 2147483629 := by decide
/-! _law_take: some number below many; the box stays a box -/
def spTake : Sp := fun vs H Q _ => ∃ (p g : Addr) (m : Int), vs = [.ref p, .int m] ∧ Box H p g ∧ 0 < m ∧ m.natAbs < 2 ^ 200 ∧
  ∀ (r : Int) (H' : Hp), 0 ≤ r → r < m → Box H' p g → Off [p, g] H H' → Q (.int r) H'
def spBox (K : PySem.W.Frag) : Sp := fun vs H Q _ => ∃ (a : Addr) (ns : List Int) (c : Int), vs = [.ref a, .int c] ∧ SqL K H a (ns.map V.int) ∧ ns.length ≤ 63 ∧ 0 ≤ c ∧ c < 1000 ∧
  ∀ (p g : Addr) (H' : Hp), Box H' p g → Same H H' → H p = none → H g = none → Q (.ref p) H'
theorem scTake : FnScope ["_law_box_here", "_law_many", "_law_digit", "_law_one"] ["_law_box_here", "_law_many"] (defScope sTake) :=
  ⟨rfl, rfl, rfl, by decide +kernel, rfl, by decide +kernel, by decide +kernel⟩
section
variable {P : Program} {w : World} {K : PySem.W.Frag} {mg : Str → Option Value} {base : Heap} {f : Addr} {fd : FuncData}
theorem get_now {H : Hp} {p g : Addr} {n s t : Int} (h : H p = some (.dK (bx g n s t))) : DGet H p (.str "now") (some (.int n)) := by
  have q := DGet.k (k := (Sum.inr "now" : Key)) h
  rw [bx_now] at q
  exact q
theorem get_great {H : Hp} {p g : Addr} {n s t : Int} (h : H p = some (.dK (bx g n s t))) : DGet H p (.str "great") (some (.ref g)) := by
  have q := DGet.k (k := (Sum.inr "great" : Key)) h
  rw [bx_great] at q
  exact q
theorem get_seed {H : Hp} {p g : Addr} {n s t : Int} (h : H p = some (.dK (bx g n s t))) : DGet H p (.str "seed") (some (.int s)) := by
  have q := DGet.k (k := (Sum.inr "seed" : Key)) h
  rw [bx_seed] at q
  exact q
theorem get_turn {H : Hp} {p g : Addr} {n s t : Int} (h : H p = some (.dK (bx g n s t))) : DGet H p (.str "turn") (some (.int t)) := by
  have q := DGet.k (k := (Sum.inr "turn" : Key)) h
  rw [bx_turn] at q
  exact q
theorem set_now {H : Hp} {p g : Addr} {n s t : Int} (y : Int) (h : H p = some (.dK (bx g n s t))) : DPut H p (.str "now") (.int y) (upd H p (.dK (bx g y s t))) := by
  have q := DPut.k (k := (Sum.inr "now" : Key)) (v := .int y) h (by show 4 < sizeLine; decide)
  rw [put_now] at q
  exact q
theorem set_seed {H : Hp} {p g : Addr} {n s t : Int} (y : Int) (h : H p = some (.dK (bx g n s t))) : DPut H p (.str "seed") (.int y) (upd H p (.dK (bx g n y t))) := by
  have q := DPut.k (k := (Sum.inr "seed" : Key)) (v := .int y) h (by show 4 < sizeLine; decide)
  rw [put_seed] at q
  exact q
theorem set_turn {H : Hp} {p g : Addr} {n s t : Int} (y : Int) (h : H p = some (.dK (bx g n s t))) : DPut H p (.str "turn") (.int y) (upd H p (.dK (bx g n s y))) := by
  have q := DPut.k (k := (Sum.inr "turn" : Key)) (v := .int y) h (by show 4 < sizeLine; decide)
  rw [put_turn] at q
  exact q
theorem ok_take {k : Nat} (F : Fun K "_law_take" "_law_take" sTake f fd) (ml : mg "len" = none) : FnOk P w K mg base CX0 (k + 1) f fd ["_law_box_here", "_law_many"] spTake := by
  refine F.ok scTake (fun vs H Q E h => ?_) (fun cdv A outer s H vs Q E hr h => ?_)
  · obtain ⟨p, g, m, rfl, _⟩ := h
    rfl
  obtain ⟨p, g, m, rfl, ⟨n, sd, t, gs, hp, hg, hl⟩, m0, m9, q⟩ := h
  have hu := hu_of hr
  have npg : p ≠ g := ne_of hp hg (by intro z; cases z)
  refine ⟨_, C8.pss_cut (ps_if (PW.pt (pw_and (pt_cmpR op_eq (pe_dget hu (pv 0) pe_str (fun _ _ => rfl)) pe_int (nomark _))
        (pw_and1 (pt_cmpR op_gt (pe_callB call_len_seq (by rfl) ml PySem.boot_len (pa_cons (pe_dget hu (pv 0) pe_str (fun _ _ => rfl)) pa_nil)) pe_int (nomark _)))))
        (pss_one (ps_dput hu (pv 0) pe_str (pe_bm0 PySem.F.plainAttrs_list PySem.F.slot_list_pop PySem.F.type_list_pop mt_pop (pe_dget hu (pv 0) pe_str (fun _ _ => rfl))) rfl)) pss_nil)
    (pss_cons (ps_if (pt_cmpR op_gt (pe_dget hu (pv 0) pe_str (fun _ _ => rfl)) pe_int (nomark _))
        (pss_cons (ps_set (i := 2) scTake.nd rfl (.inl rfl) (pe_op op_mod (pe_dget hu (pv 0) pe_str (fun _ _ => rfl)) (pv 1)))
        (pss_cons (ps_dput hu (pv 0) pe_str (pe_op op_fdivW (pe_dget hu (pv 0) pe_str (fun _ _ => rfl)) (pv 1)) rfl)
        (pss_one (ps_ret (pv 2))))) pss_nil)
    (pss_cons (ps_dput hu (pv 0) pe_str (pe_op op_add (pe_dget hu (pv 0) pe_str (fun _ _ => rfl)) pe_int) rfl)
    (pss_cons (ps_set (i := 3) scTake.nd rfl (.inl rfl) (pe_op op_mod (pe_op op_mul (pe_op op_mod (pe_op op_add (pe_dget hu (pv 0) pe_str (fun _ _ => rfl))
        (pe_op op_mul pe_int (pe_dget hu (pv 0) pe_str (fun _ _ => rfl)))) pe_int) pe_int) pe_int))
    (pss_cons (ps_dput hu (pv 0) pe_str (pe_op op_add (pe_op op_mod (pe_op op_add (pv 3) (pe_op op_mul pe_int (pe_dget hu (pv 0) pe_str (fun _ _ => rfl)))) pe_int) pe_int) rfl)
    (pss_one (ps_ret (pe_op op_mod (pe_op op_fdiv (pe_op op_add (pe_op op_mul (pv 3) pe_int) (pe_dget hu (pv 0) pe_str (fun _ _ => rfl))) pe_int) (pv 1)))))))), ?_⟩
  refine ⟨fun σ H1 => ∃ n1 gs1, σ = [some (.ref p), some (.int m), none, none] ∧ H1 p = some (.dK (bx g n1 sd t)) ∧ H1 g = some (.lst (List.map V.int gs1)) ∧ gs1.length ≤ 1000 ∧ Off [p, g] H H1, ?_, ?_⟩
  · refine ⟨_, rfl, p, _, rfl, get_now hp, rfl, _, rfl, ite2 (fun c => ?_) (fun c => iteF ⟨n, gs, rfl, hp, hg, hl, Off.refl _ _⟩)⟩
    refine ⟨_, rfl, p, _, rfl, get_great hp, g, _, rfl, .inl (SqL.of hg), _, _, rfl, rfl, _, rfl, ite2 (fun c2 => ?_) (fun c2 => ⟨n, gs, rfl, hp, hg, hl, Off.refl _ _⟩)⟩
    have c3 : (0 : Int) < (((List.map V.int gs).length : Nat) : Int) := of_decide_eq_true c2
    rw [List.length_map] at c3
    have hlast : (List.map V.int gs)[(List.map V.int gs).length - 1]? = some (V.int (gs[gs.length - 1]'(by omega))) := by
      rw [List.length_map, List.getElem?_map, List.getElem?_eq_getElem (by omega)]
      rfl
    have hp1 : (upd H g (.lst (List.map V.int gs).dropLast)) p = some (.dK (bx g n sd t)) := by rw [upd_ne npg]; exact hp
    refine ⟨_, rfl, p, _, rfl, get_great hp, .inl ⟨rfl, _, .inl (.inl hg)⟩, g, _, _, rfl, rfl, hg, hlast, _, rfl, p, _, rfl, set_now _ hp1, ?_⟩
    refine ⟨_, gs.dropLast, rfl, upd_same, ?_, ?_, ?_⟩
    · rw [upd_ne npg.symm, upd_same, List.map_dropLast]
    · rw [List.length_dropLast]
      omega
    · exact (Off.put (by simp)).trans (Off.put (by simp))
  · rintro σ H1 ⟨n1, gs1, rfl, hp1, hg1, hl1, of1⟩
    refine ⟨_, rfl, p, _, rfl, get_now hp1, _, _, rfl, rfl, _, rfl, ite2 (fun c => ?_) (fun c => ?_)⟩
    · refine ⟨_, rfl, p, _, rfl, get_now hp1, _, rfl, _, _, rfl, rfl, m0, ?_⟩
      refine ⟨_, rfl, p, _, rfl, get_now hp1, _, rfl, _, _, rfl, rfl, wide_div m0 m9 (by decide) (by decide), _, rfl, p, _, rfl, set_now _ hp1, ?_⟩
      refine ⟨_, rfl, q _ _ (Int.emod_nonneg _ (by omega)) (Int.emod_lt_of_pos _ m0) ⟨_, sd, t, gs1, upd_same, by rw [upd_ne npg.symm]; exact hg1, hl1⟩ (of1.trans (Off.put (by simp)))⟩
    · refine ⟨_, rfl, p, _, rfl, get_turn hp1, _, _, rfl, rfl, _, rfl, p, _, rfl, set_turn _ hp1, ?_⟩
      refine ⟨_, rfl, p, _, rfl, get_seed upd_same, _, rfl, p, _, rfl, get_turn upd_same, _, _, rfl, rfl, .inl ⟨by decide, by decide⟩, _, _, rfl, rfl, _, _, rfl, rfl, c47, _, _, rfl, rfl, .inr ⟨by decide, by decide⟩, _, _, rfl, rfl, c47, ?_⟩
      refine ⟨_, rfl, _, rfl, p, _, rfl, get_seed upd_same, _, _, rfl, rfl, .inl ⟨by decide, by decide⟩, _, _, rfl, rfl, _, _, rfl, rfl, c29, _, _, rfl, rfl, _, rfl, p, _, rfl, set_seed _ upd_same, ?_⟩
      refine ⟨_, rfl, _, _, rfl, rfl, .inr ⟨by decide, by decide⟩, _, rfl, p, _, rfl, get_seed upd_same, _, _, rfl, rfl, _, _, rfl, rfl, ⟨by decide, by decide⟩, _, rfl, _, _, rfl, rfl, m0, ?_⟩
      refine q _ _ (Int.emod_nonneg _ (by omega)) (Int.emod_lt_of_pos _ m0) ⟨n1, _, _, gs1, upd_same, ?_, hl1⟩ (of1.trans ((Off.put (by simp)).trans (Off.put (by simp))))
      rw [upd_ne npg.symm, upd_ne npg.symm]
      exact hg1
end
theorem cutV_ints (ns : List Int) (lo hi : Option Int) : ∃ ms : List Int, cutV (ns.map V.int) lo hi = ms.map V.int ∧ ms.length ≤ ns.length := by
  refine ⟨(ns.drop (HT.sIx ns.length 0 lo)).take (HT.sIx ns.length ns.length hi - HT.sIx ns.length 0 lo), ?_, ?_⟩
  · unfold cutV
    rw [List.length_map, List.map_take, List.map_drop]
  · rw [List.length_take, List.length_drop]
    omega
theorem int_at {ms : List Int} {i : Nat} {y : V} (h : (ms.map V.int)[i]? = some y) : ∃ z, y = V.int z := by
  rw [List.getElem?_map] at h
  cases e : ms[i]? with
  | none =>
    rw [e] at h
    cases h
  | some z =>
    rw [e] at h
    exact ⟨z, (Option.some.inj h).symm⟩
theorem scBox : FnScope ["_law_script", "_law_base", "_law_seed", "_law_cell", "_law_great"] ["_law_script", "_law_base"] (defScope sBox) :=
  ⟨rfl, rfl, rfl, by decide +kernel, rfl, by decide +kernel, by decide +kernel⟩
section
variable {P : Program} {w : World} {K : PySem.W.Frag} {mg : Str → Option Value} {base : Heap} {f : Addr} {fd : FuncData}
theorem ok_box {k : Nat} (F : Fun K "_law_box" "_law_box" sBox f fd) (mab : mg "abs" = none) : FnOk P w K mg base CX0 (k + 1) f fd ["_law_script", "_law_base"] (spBox K) := by
  refine F.ok scBox (fun vs H Q E h => ?_) (fun cdv A outer s H vs Q E hr h => ?_)
  · obtain ⟨a, ns, c, rfl, _⟩ := h
    rfl
  obtain ⟨a, ns, c, rfl, hS, hlen, c0, c9, q⟩ := h
  have hu := hu_of hr
  refine ⟨_, pss_cons (ps_set (i := 2) scBox.nd rfl (.inl rfl) (pe_op op_add pe_int (pe_op op_mul pe_int (pv 1))))
    (pss_cons (ps_for PassesOwn.never rfl (pi_list (pe_slice sl_list (pv 0) po_none (po_some pe_int))) (pg_name (i := 3) scBox.nd rfl (.inl rfl))
      (pss_one (ps_set (i := 2) scBox.nd rfl (.inl rfl) (pe_op op_mod (pe_op op_add (pe_op op_add (pe_op op_mul (pv 2) pe_int)
        (pe_op op_mod (pe_callB call_abs (by rfl) mab (by decide +kernel) (pa_cons (pv 3) pa_nil)) pe_int)) pe_int) pe_int))))
    (pss_cons (ps_setLc (i := 4) (own := [("_law_cell", 3)]) (g := gName 3) (by rfl) scBox.nd rfl rfl (sw_true rfl rfl rfl (by decide +kernel))
      (pi_list (pe_slice sl_list (pv 0) (po_some (pv 1)) (po_some pe_int)))
      (blkOk_by (own := [("_law_cell", 3)]) (N := ["_law_script", "_law_base", "_law_seed", "_law_cell", "_law_great"]) (sc := defScope sBox) (by decide +kernel))
      (fun _ _ _ _ _ => pg_name (i := 3) scBox.nd rfl (Or.inl rfl))
      (fun _ _ _ _ _ => pts_one (pt_cmpR op_ge (pe_callB call_abs (by rfl) mab (by decide +kernel) (pa_cons (pv 3) pa_nil)) (pe_op op_pow pe_int pe_int) (nomark _)))
      (fun _ _ _ _ _ => pe_callB call_abs (by rfl) mab (by decide +kernel) (pa_cons (pv 3) pa_nil)))
    (pss_one (ps_ret (pe_disp (pps_cons pe_str (pe_revL (pv 4)) (pps_cons pe_str pe_int (pps_cons pe_str (pe_op op_add (pv 2) pe_int) (pps_cons pe_str pe_int pps_nil))))
      (by rfl) (by rfl) (fun z => by cases z) (by decide)))))), ?_⟩
  refine ⟨_, rfl, _, _, rfl, rfl, .inl ⟨by decide, by decide⟩, _, _, rfl, rfl, ?_⟩
  refine ⟨_, rfl, 50, rfl, a, _, rfl, hS, fun q0 hq0 => ?_⟩
  obtain ⟨ms, em, lm⟩ := cutV_ints ns none (some 50)
  rw [em]
  have s1 : Same H (upd H q0 (.lst (ms.map V.int))) := same_new hq0 _
  refine ⟨q0, rfl, ⟨_, SqL.of upd_same⟩, for_list (K := K) (a := q0) (xs := ms.map V.int) (fun i σ H2 => ∃ (z : Int) (v : Option V), σ = [some (.ref a), some (.int c), some (.int z), v, none] ∧ -(2 ^ 40) < z ∧ z < 2 ^ 40 ∧ H2 = upd H q0 (.lst (ms.map V.int)))
    ⟨7001 + 211 * c, none, rfl, by omega, by omega, rfl⟩ (fun i σ H2 _ ⟨_, _, _, _, _, e⟩ => by rw [e]; exact SqL.of upd_same) ?_ ?_⟩
  · rintro i y σ H2 hi ⟨z, v, rfl, z0, z1, rfl⟩
    obtain ⟨x, rfl⟩ := int_at hi
    refine ⟨_, rfl, _, _, rfl, rfl, .inr ⟨by decide, by decide⟩, _, rfl, _, rfl, _, _, rfl, rfl, c29, _, _, rfl, rfl, _, _, rfl, rfl, _, _, rfl, rfl, c47, ?_⟩
    exact ⟨_, _, rfl, Int.lt_of_lt_of_le (by decide) (Int.emod_nonneg _ (by decide)), Int.lt_trans (Int.emod_lt_of_pos _ c47) (by decide), rfl⟩
  · rintro σ H2 ⟨z, v, rfl, z0, z1, rfl⟩
    refine ⟨_, rfl, _, rfl, c, rfl, 50, rfl, a, _, rfl, s1.seq hS, fun q1 hq1 => ?_⟩
    obtain ⟨ks, ek, lk⟩ := cutV_ints ns (some c) (some 50)
    rw [ek]
    have s2 := s1.trans (same_new hq1 (.lst (ks.map V.int)))
    refine ⟨q1, rfl, ⟨_, SqL.of upd_same⟩, fun D hD => lc_list (K := K) (a := q1) (xs := ks.map V.int) (fun i H3 => ∃ gs : List Int, gs.length ≤ i ∧ H3 D = some (.lst (gs.map V.int)) ∧ H3 q1 = some (.lst (ks.map V.int)) ∧ Same H H3)
      ⟨[], Nat.le_refl _, upd_same, by rw [upd_ne (ne_of_none upd_same hD), upd_same], s2.trans (same_new hD _)⟩ (fun i H3 _ ⟨_, _, _, h, _⟩ => SqL.of h) ?_ ?_⟩
    · rintro i y H3 hi ⟨gs, lg, h1, h2, h3⟩
      have hik := (List.getElem?_eq_some_iff.mp hi).1
      rw [List.length_map] at hik
      obtain ⟨x, rfl⟩ := int_at hi
      refine ⟨rfl, _, rfl, _, rfl, _, _, rfl, rfl, ⟨by decide, by decide, by decide⟩, _, _, rfl, rfl, _, rfl, ite2 (fun _ => ?_) (fun _ => ?_)⟩
      · refine ⟨_, rfl, _, rfl, _, h1, ?_, gs ++ [if x < 0 then -x else x], ?_, ?_, ?_, ?_⟩
        · rw [List.length_map]
          exact small1000 (by omega)
        · rw [List.length_append, List.length_singleton]
          omega
        · rw [upd_same, List.map_append]
          rfl
        · rw [upd_ne (ne_of_none upd_same hD)]
          exact h2
        · intro b o e
          rw [upd_ne (ne_of_none e (s2.free hD))]
          exact h3 b o e
      · exact ⟨gs, by omega, h1, h2, h3⟩
    · rintro H3 ⟨gs, lg, h1, h2, h3⟩
      rw [List.length_map] at lg
      refine fun p hp => ⟨_, rfl, D, _, rfl, SqL.of (by rw [upd_ne (ne_of_none h1 hp)]; exact h1), fun g hg => ?_⟩
      have ngp : g ≠ p := fun e => by
        rw [e, upd_same] at hg
        cases hg
      have hp2 : (upd (upd H3 p (.dK [])) g (.lst (gs.map V.int).reverse)) p = some (.dK []) := by rw [upd_ne ngp.symm, upd_same]
      refine ⟨_, rfl, _, _, rfl, rfl, hp2, bx g 0 (z + 1) 0, rfl, by show 4 ≤ 15; decide, ?_⟩
      rw [mer_box]
      have hg3 : H3 g = none := by
        rw [upd_ne ngp] at hg
        exact hg
      refine q p g _ ⟨0, z + 1, 0, gs.reverse, upd_same, ?_, ?_⟩ ?_ (h3.free hp) (h3.free hg3)
      · rw [upd_ne ngp, upd_same, List.map_reverse]
      · rw [List.length_reverse]
        omega
      · intro b o e
        have e3 := h3 b o e
        rw [upd_ne (ne_of_none e3 hp), upd_ne (ne_of_none e3 hg3), upd_ne (ne_of_none e3 hp)]
        exact e3
end
structure Tk (P : Program) (w : World) (K : PySem.W.Frag) (mg : Str → Option Value) (base : Heap) (f : Addr) (fd : FuncData) : Prop where
  ok : FnOk P w K mg base CX0 1 f fd ["_law_box_here", "_law_many"] spTake
  kp : PySem.W.keepIn K (.ref f) = true
  bd : Binds K fd ["_law_box_here", "_law_many"] []
  mg : mg "_law_take" = some (.ref f)
theorem atI_ok {α : Type} {xs : List α} {r : Int} (h0 : 0 ≤ r) (h : r < (xs.length : Int)) : ∃ x, atI xs r = some x ∧ x ∈ xs ∧ xs[r.toNat]? = some x := by
  have hr : r.toNat < xs.length := by omega
  have e : r = (r.toNat : Int) := by omega
  have q : atI xs ((r.toNat : Nat) : Int) = some xs[r.toNat] := atI_nat (List.getElem?_eq_getElem hr)
  rw [← e] at q
  exact ⟨xs[r.toNat], q, List.getElem_mem hr, List.getElem?_eq_getElem hr⟩
theorem okG {P : Program} {w : World} {K : PySem.W.Frag} {mg : Str → Option Value} {base : Heap} {x qual : Str} {st : Stmt} {f : Addr} {fd : FuncData} {N ps : List Str} {k : Nat} {sp : Sp} (F : Fun K x qual st f fd) (S : FnScope N ps (defScope st))
    (len : ∀ ws H Q E, sp ws H Q E → ws.length = ps.length)
    (hb : ∀ (cdv : Value) (A : Around) (outer : List Env) (s : Shared) (H : Hp) (vs : List V) (Q : VK) (E : XK), A.guards = some [] → Room k (A.deeper (envOfC qual (defScope st) s.heap.objs.size f cdv)) → sp vs H Q E →
      ∃ t, PSs (cxOf CX0 P w K mg base N qual (defScope st) f cdv A outer s H E).nox (defBody st) t ∧ t { nx := fun _ H' => Q .non H', rt := Q } (start N vs) H) : FnG P w K mg base CX0 (k + 1) f fd ps sp := by
  obtain ⟨oc, od, kV, doc, pm, an, cdv, ct, osl, rfl, lk, hcd⟩ := F.ex
  refine fnG_of lk hcd S len ?_
  intro A outer s H vs Q E hg hr hsp
  obtain ⟨t, h, q⟩ := hb cdv A outer s H vs Q E hg hr hsp
  exact ⟨t, h.nox, q⟩
theorem bool_prn (b : Bool) : Prn (.bool b) := prn_of (by simp only [gd]) (by simp only [nod]; omega) (by simp only [PyData.depth]; omega)
/-- a def of the top that keeps a promise -/
structure Dn (P : Program) (w : World) (K : PySem.W.Frag) (mg : Str → Option Value) (base : Heap) (lvl : Nat) (nm : Str) (ps : List Str) (sp : Sp) (f : Addr) (fd : FuncData) : Prop where
  ok : FnOk P w K mg base CX0 lvl f fd ps sp
  kp : PySem.W.keepIn K (.ref f) = true
  bd : Binds K fd ps []
  mg : mg nm = some (.ref f)
theorem cut_less {l m : List Addr} {H : Hp} (h : ∀ b ∈ m, b ∈ l) : Same (cut l H) (cut m H) := fun b o e => by
  obtain ⟨n, e⟩ := cut_some e
  rw [cut_out (fun z => n (h b z))]
  exact e
theorem cut_more {l : List Addr} {H : Hp} {a : Addr} {o : HO} (h : H a = none) : Same (cut l H) (cut (a :: l) (upd H a o)) := fun b u e => by
  obtain ⟨n, e⟩ := cut_some e
  have nb := ne_of_none e h
  rw [cut_out (fun z => (List.mem_cons.mp z).elim nb n), upd_ne nb]
  exact e
theorem dp_true {K : PySem.W.Frag} {H : Hp} {b : Bool} (h : b = true) : Dp K H (.bl b) (.bool true) := by
  rw [h]
  exact .bl true
theorem DpAll.parts {K : PySem.W.Frag} {H : Hp} {xs : List V} {ds : List PyData} (h : DpAll K H xs ds) (i : Nat) : DpAll K H (xs.take i) (ds.take i) ∧ DpAll K H (xs.drop i) (ds.drop i) := by
  have lx := DpAll.len h
  obtain ⟨d1, d2, e, a, b⟩ := DpAll.unapp (xs := xs.take i) (ys := xs.drop i) (by rw [List.take_append_drop]; exact h)
  have la := DpAll.len a
  have lb := DpAll.len b
  rw [List.length_take] at la
  rw [List.length_drop] at lb
  subst e
  by_cases hi : i ≤ xs.length
  · have l1 : d1.length = i := by omega
    have e1 : (d1 ++ d2).take i = d1 := by rw [← l1]; exact List.take_left
    have e2 : (d1 ++ d2).drop i = d2 := by rw [← l1]; exact List.drop_left
    rw [e1, e2]
    exact ⟨a, b⟩
  · have l2 : d2 = [] := List.length_eq_zero_iff.mp (by omega)
    subst l2
    rw [List.append_nil, List.take_of_length_le (l := d1) (by omega), List.drop_of_length_le (l := d1) (by omega)]
    exact ⟨a, b⟩
theorem cutV_dp {K : PySem.W.Frag} {H : Hp} {xs : List V} {ds : List PyData} (h : DpAll K H xs ds) (lo hi : Option Int) : ∃ es, DpAll K H (cutV xs lo hi) es ∧ ∀ e ∈ es, e ∈ ds := by
  unfold cutV
  exact ⟨_, (DpAll.parts (DpAll.parts h _).2 _).1, fun e he => List.mem_of_mem_drop (List.mem_of_mem_take he)⟩
theorem gd_int {i : Int} (h : i.natAbs < 2 ^ 1000) : gd (.int i) = true := by
  simp only [gd]
  exact decide_eq_true (Nat.lt_trans (PySem.Flt.log2_lt_of (by decide) h) (by decide))
abbrev sThing : Stmt := topS 15
theorem scThing : FnScope ["_law_box_here", "_law_deep", "_law_form", "_law_great", "_law_some", "_law_k"] ["_law_box_here", "_law_deep"] (defScope sThing) :=
  ⟨rfl, rfl, rfl, by decide +kernel, rfl, by decide +kernel, by decide +kernel⟩
def spThing (K : PySem.W.Frag) (n : Nat) : Sp := fun vs H Q _ => ∃ p g e l, vs = [.ref p, .int e] ∧ Box H p g ∧ 0 ≤ e ∧ e < (n : Int) ∧ Tr l H ∧
  ∀ v d H', Box H' p g → Off [p, g] H H' → Dp K (cut l H') v d → gd d = true → (d.depth : Int) ≤ e → nod d ≤ 4 ^ e.toNat → Q v H'
theorem at3 {a b c : V} {r : Int} (h0 : 0 ≤ r) (h : r < 3) : ∃ x, atI [a, b, c] r = some x ∧ x ∈ [a, b, c] := by
  obtain ⟨x, h1, h2, _⟩ := atI_ok (xs := [a, b, c]) h0 h
  exact ⟨x, h1, h2⟩
theorem at6 {a b c d e f : V} {r : Int} (h0 : 0 ≤ r) (h : r < 6) : ∃ x, atI [a, b, c, d, e, f] r = some x ∧ x ∈ [a, b, c, d, e, f] := by
  obtain ⟨x, h1, h2, _⟩ := atI_ok (xs := [a, b, c, d, e, f]) h0 h
  exact ⟨x, h1, h2⟩
section
variable {P : Program} {w : World} {K : PySem.W.Frag} {mg : Str → Option Value} {base : Heap} {f fT : Addr} {fd dT : FuncData}
theorem ok_thing {k n : Nat} (F : Fun K "_law_thing" "_law_thing" sThing f fd) (B : Bi mg) (T : Tk P w K mg base fT dT)
    (G : FnOk P w K mg base CX0 (k + 1) f fd ["_law_box_here", "_law_deep"] (spThing K n)) (bV : Binds K fd ["_law_box_here", "_law_deep"] []) (mV : mg "_law_thing" = some (.ref f)) :
    FnOk P w K mg base CX0 (k + 2) f fd ["_law_box_here", "_law_deep"] (spThing K (n + 1)) := by
  refine F.ok scThing (fun vs H Q E h => ?_) (fun cdv A outer s H vs Q E hr h => ?_)
  · obtain ⟨p, g, e, l, rfl, _⟩ := h
    rfl
  obtain ⟨p, g, e, l, rfl, hb, e0, en, tl, q⟩ := h
  have hr1 : Room 1 _ := hr.mono (by omega)
  refine ⟨_, pss_cons (ps_set (i := 2) scThing.nd rfl (.inl rfl) (pe_call T.ok hr1 (by rfl) T.mg T.kp T.bd .nil pass0 (pa_cons (pv 0) (pa_cons (pe_op op_add pe_int (pe_op op_mul pe_int
        (pe_callTy call_int1 (by rfl) B.int b_int (pa_cons (pe_cmpR op_gt (pv 1) pe_int (nomark _)) pa_nil)))) pa_nil))))
    (pss_cons (ps_if (pt_cmpR op_lt (pv 2) pe_int (nomark _))
      (pss_cons (ps_set (i := 3) scThing.nd rfl (.inl rfl) (pe_ix ix_list (pe_lst (pa_cons (pe_call T.ok hr1 (by rfl) T.mg T.kp T.bd .nil pass0 (pa_cons (pv 0) (pa_cons pe_int pa_nil)))
          (pa_cons (pe_call T.ok hr1 (by rfl) T.mg T.kp T.bd .nil pass0 (pa_cons (pv 0) (pa_cons (pe_op op_pow pe_int pe_int) pa_nil)))
          (pa_cons (pe_op op_sub pe_int (pe_call T.ok hr1 (by rfl) T.mg T.kp T.bd .nil pass0 (pa_cons (pv 0) (pa_cons (pe_op op_pow pe_int pe_int) pa_nil)))) pa_nil))))
          (pe_call T.ok hr1 (by rfl) T.mg T.kp T.bd .nil pass0 (pa_cons (pv 0) (pa_cons pe_int pa_nil))) (fun _ _ => rfl)))
      (pss_one (ps_ret (pe_ix ix_list (pe_lst (pa_cons (pv 3) (pa_cons (pv 3) (pa_cons pe_str (pa_cons pe_str (pa_cons pe_bl (pa_cons pe_non pa_nil))))))) (pv 2) (fun _ _ => rfl)))))
      pss_nil)
    (pss_cons (ps_setLc (i := 4) (own := [("_law_k", 5)]) (g := gName 5) (by rfl) scThing.nd rfl rfl (sw_true rfl rfl rfl (by decide +kernel))
      (pi_range1 (by rfl) B.rng (pa_cons (pe_call T.ok hr1 (by rfl) T.mg T.kp T.bd .nil pass0 (pa_cons (pv 0) (pa_cons pe_int pa_nil))) pa_nil))
      (blkOk_by (own := [("_law_k", 5)]) (N := ["_law_box_here", "_law_deep", "_law_form", "_law_great", "_law_some", "_law_k"]) (sc := defScope sThing) (by decide +kernel))
      (fun _ _ _ _ _ => pg_name (i := 5) scThing.nd rfl (Or.inl rfl)) (fun _ _ _ _ _ => pts_nil)
      (fun _ _ _ _ _ => pe_call G (hr.mono (by omega)) (by rfl) mV F.kp bV .nil pass0 (pa_cons (pv 0) (pa_cons (pe_op op_sub (pv 1) pe_int) pa_nil))))
    (pss_one (ps_ret (pe_ifExp (pt_cmpR op_eq (pv 2) pe_int (nomark _)) (pv 4) (pe_callTy call_tuple_of (by rfl) B.tup b_tup (pa_cons (pv 4) pa_nil))))))), ?_⟩
  obtain ⟨m, hm, hm8⟩ : ∃ m : Int, (6 + 2 * (if decide (0 < e) = true then 1 else 0) : Int) = m ∧ (m = 6 ∨ (m = 8 ∧ 0 < e)) := by
    by_cases c : 0 < e
    · exact ⟨8, by (rw [decide_eq_true c, if_pos rfl]; rfl), .inr ⟨rfl, c⟩⟩
    · exact ⟨6, by (rw [decide_eq_false c, if_neg Bool.false_ne_true]; rfl), .inl rfl⟩
  have cm : ∀ b : Bool, CMul 2 (if b = true then 1 else 0) := fun b => by cases b <;> exact .inl ⟨by decide, by decide⟩
  refine ⟨_, rfl, _, rfl, _, _, rfl, rfl, .inr ⟨_, rfl, _, _, rfl, rfl, cm _, _, _, rfl, rfl, ?_⟩⟩
  refine ⟨p, g, (6 + 2 * (if decide (0 < e) = true then 1 else 0) : Int), rfl, hb, by rw [hm]; omega, by rw [hm]; rcases hm8 with h | h <;> (first | rw [h] | rw [h.1]) <;> decide, fun r H2 r0 r6 b2 o2 => ?_⟩
  rw [hm] at r6
  refine ⟨_, rfl, _, _, rfl, rfl, _, rfl, ite2 (fun c1 => ?l1) (fun c1 => ?l2)⟩
  case l1 =>
    have c1' : r < 6 := of_decide_eq_true c1
    refine ⟨_, rfl, p, g, 9, rfl, b2, by decide, by decide, fun s1 H3 s10 s19 b3 o3 => ⟨_, rfl, _, _, rfl, rfl, ⟨by decide, by decide, by decide⟩, p, g, _, rfl, b3, by decide, by decide, fun s2 H4 s20 s29 b4 o4 => ?_⟩⟩
    refine ⟨_, rfl, _, _, rfl, rfl, ⟨by decide, by decide, by decide⟩, p, g, _, rfl, b4, by decide, by decide, fun s3 H5 s30 s39 b5 o5 => ⟨_, _, rfl, rfl, few (by simp), fun D hD => ?_⟩⟩
    have nD := b5.notin hD
    have b6 := b5.put (o := .lst [V.int s1, V.int s2, V.int (0 - s3)]) nD
    have o5 := o2.trans (o3.trans (o4.trans o5))
    have o6 := off_new (o := .lst [V.int s1, V.int s2, V.int (0 - s3)]) o5 nD (o5.free hD nD)
    refine ⟨_, rfl, p, g, 3, rfl, b6, by decide, by decide, fun s4 H7 s40 s43 b7 o7 => ?_⟩
    have hD7 : H7 D = some (.lst [V.int s1, V.int s2, V.int (0 - s3)]) := o7.get upd_same nD
    have o7 := o6.trans o7
    obtain ⟨v, hv, mv⟩ := at3 (a := V.int s1) (b := V.int s2) (c := V.int (0 - s3)) (r := s4) s40 s43
    refine ⟨D, _, _, v, rfl, rfl, SqL.of hD7, hv, ?_⟩
    obtain ⟨z, rfl, hz⟩ : ∃ z : Int, v = .int z ∧ z.natAbs < 2 ^ 1000 := by
      have p2 : (2 : Nat) ^ 200 ≤ 2 ^ 1000 := Nat.pow_le_pow_right (by decide) (by decide)
      have k2 : (10 : Int) ^ (19 : Int).toNat ≤ 2 ^ 150 := by decide
      have k3 : (10 : Int) ^ (30 : Int).toNat ≤ 2 ^ 150 := by decide
      have s29' : s2 < 10 ^ (19 : Int).toNat := s29
      have s39' : s3 < 10 ^ (30 : Int).toNat := s39
      have p3 : (2 : Int) ^ 150 = ((2 ^ 150 : Nat) : Int) := by decide
      have p4 : (2 : Nat) ^ 150 < 2 ^ 200 := by decide
      rw [p3] at k2 k3
      generalize (10 : Int) ^ (19 : Int).toNat = b19 at k2 s29'
      generalize (10 : Int) ^ (30 : Int).toNat = b30 at k3 s39'
      simp only [List.mem_cons, List.not_mem_nil, or_false] at mv
      rcases mv with e | e | e
      · exact ⟨_, e, Nat.lt_of_lt_of_le (by omega) p2⟩
      · exact ⟨_, e, Nat.lt_of_lt_of_le (by omega) p2⟩
      · exact ⟨_, e, Nat.lt_of_lt_of_le (by omega) p2⟩
    refine ⟨_, rfl, _, rfl, few (by simp), fun D2 hD2 => ⟨_, rfl, ?_⟩⟩
    obtain ⟨v, hv, mv⟩ := at6 (a := V.int z) (b := V.int z) (c := V.str "word") (d := V.str "") (e := V.bl true) (f := V.non) (r := r) r0 c1'
    refine ⟨D2, _, _, v, rfl, rfl, SqL.of upd_same, hv, ?_⟩
    have nD2 := b7.notin hD2
    have b8 := b7.put (o := .lst [V.int z, V.int z, V.str "word", V.str "", V.bl true, V.non]) nD2
    have o8 := off_new (o := .lst [V.int z, V.int z, V.str "word", V.str "", V.bl true, V.non]) o7 nD2 (o7.free hD2 nD2)
    have one : 1 ≤ 4 ^ e.toNat := Nat.one_le_pow _ _ (by decide)
    simp only [List.mem_cons, List.not_mem_nil, or_false] at mv
    rcases mv with h | h | h | h | h | h <;> subst h
    · exact q _ (.int z) _ b8 o8 (.int z) (gd_int hz) (by simp only [PyData.depth]; omega) (by simp only [nod]; omega)
    · exact q _ (.int z) _ b8 o8 (.int z) (gd_int hz) (by simp only [PyData.depth]; omega) (by simp only [nod]; omega)
    · exact q _ (.str "word") _ b8 o8 (.str _) (by simp only [gd]; decide +kernel) (by simp only [PyData.depth]; omega) (by simp only [nod]; omega)
    · exact q _ (.str "") _ b8 o8 (.str _) (by simp only [gd]; decide +kernel) (by simp only [PyData.depth]; omega) (by simp only [nod]; omega)
    · exact q _ (.bool true) _ b8 o8 (.bl true) (by simp only [gd]) (by simp only [PyData.depth]; omega) (by simp only [nod]; omega)
    · exact q _ .none _ b8 o8 .non (by simp only [gd]) (by simp only [PyData.depth]; omega) (by simp only [nod]; omega)
  case l2 =>
    have c1' : ¬ r < 6 := of_decide_eq_false (Bool.eq_false_iff.mpr c1)
    have ep : 0 < e := by rcases hm8 with h | h <;> omega
    refine ⟨_, rfl, p, g, 4, rfl, b2, by decide, by decide, fun m2 H3 m20 m24 b3 o3 => ⟨m2, rfl, by omega, by omega, fun D2 hD2 => ?_⟩⟩
    have o3 := o2.trans o3
    have n2 := b3.notin hD2
    have tr3 : Tr l H3 := tl.go o3 fun b hb => by
      have t := b3.tr
      simp only [List.mem_cons, List.not_mem_nil, or_false] at hb
      rcases hb with h | h
      · rw [h]; exact t.1
      · rw [h]; exact t.2
    have nl2 : D2 ∉ l := fun z => tr3 D2 z hD2
    have fr2 : H D2 = none := o3.free hD2 n2
    refine lc_range (lo := 0) (n := m2.toNat) (fun i H7 => ∃ vs ds, vs.length = i ∧ H7 D2 = some (.lst vs) ∧ DpAll K (cut (D2 :: p :: g :: l) H7) vs ds ∧ gds ds = true ∧ (PyData.depthAll ds : Int) ≤ e - 1 ∧
        Box H7 p g ∧ Off [p, g] H H7 ∧ Tr l H7 ∧ nods ds ≤ i * 4 ^ (e - 1).toNat)
      ⟨[], [], rfl, upd_same, .nil, by simp only [gds], by simp only [PyData.depthAll]; omega, b3.put n2, off_new o3 n2 fr2, fun b hb => by rw [upd_ne (ne_mem nl2 hb)]; exact tr3 b hb, by simp only [nods]; omega⟩ ?_ ?_
    · rintro i H7 hi ⟨vs, ds, lv, h1, h2, h3, h4, h5, h7, h8, h10⟩
      have trk : Tr (D2 :: p :: g :: l) H7 := fun b hb => by
        have t := h5.tr
        simp only [List.mem_cons] at hb
        rcases hb with h | h | h | h
        · rw [h, h1]; exact fun z => nomatch z
        · rw [h]; exact t.1
        · rw [h]; exact t.2
        · exact h8 b h
      refine ⟨rfl, _, rfl, _, rfl, _, _, rfl, rfl, p, g, e - 1, D2 :: p :: g :: l, rfl, h5, by omega, by omega, trk, fun v d H8 k1 k3 k4 k5 k6 k8 => ?_⟩
      have o8 : Off (D2 :: p :: g :: l) H7 H8 := k3.mono fun b hb => by
        simp only [List.mem_cons, List.not_mem_nil, or_false] at hb ⊢
        rcases hb with h | h
        · exact .inr (.inl h)
        · exact .inr (.inr (.inl h))
      have put8 : Off (D2 :: p :: g :: l) H8 (upd H8 D2 (.lst (vs ++ [v]))) := Off.put (by simp)
      refine ⟨vs, k3.get h1 n2, few (by omega), vs ++ [v], ds ++ [d], by rw [List.length_append, List.length_singleton, lv], upd_same, ?_, ?_, ?_, k1.put n2, ?_, ?_, ?_⟩
      · exact DpAll.app (Dp.ups (o8.trans put8) _ _ h2) (.cons (Dp.up put8 _ _ k4) .nil)
      · rw [gds_app, h3]
        simp only [gds, k5, Bool.and_self]
      · rw [depthAll_app]
        simp only [PyData.depthAll]
        omega
      · exact off_new (h7.trans k3) n2 fr2
      · intro b hb
        by_cases eb : b = D2
        · exact absurd eb (ne_mem nl2 hb)
        · rw [upd_ne eb]
          have q1 := trk.go k3 (fun b hb => by
            have t := k1.tr
            simp only [List.mem_cons, List.not_mem_nil, or_false] at hb
            rcases hb with h | h
            · rw [h]; exact t.1
            · rw [h]; exact t.2)
          exact q1 b (by simp [hb])
      · rw [nods_app, Nat.add_mul]
        simp only [nods]
        omega
    · rintro H7 ⟨vs, ds, lv, h1, h2, h3, h4, h5, h7, h8, h10⟩
      have lv3 : vs.length ≤ 3 := by omega
      have e4 : 4 ^ e.toNat = 4 * 4 ^ (e - 1).toNat := by
        have : e.toNat = (e - 1).toNat + 1 := by omega
        rw [this, Nat.pow_succ, Nat.mul_comm]
      have one : 1 ≤ 4 ^ (e - 1).toNat := Nat.one_le_pow _ _ (by decide)
      have h11 : nods ds ≤ 3 * 4 ^ (e - 1).toNat := Nat.le_trans h10 (Nat.mul_le_mul_right _ (by omega))
      refine ⟨_, rfl, rfl, _, rfl, ite2 (fun c => ?_) (fun c => ?_)⟩
      · refine ⟨_, rfl, q (.ref D2) (.list ds) _ h5 h7 (.lst (SqL.of (by rw [cut_out nl2]; exact h1)) (Dp.ups (cut_less (fun b hb => List.mem_cons_of_mem _ (List.mem_cons_of_mem _ (List.mem_cons_of_mem _ hb)))) _ _ h2)) (by simpa only [gd] using h3) (by simp only [PyData.depth]; omega) ?_⟩
        simp only [nod]
        omega
      · refine ⟨_, rfl, D2, vs, rfl, .inl ⟨SqL.of h1, fun t ht => ?_⟩⟩
        have nt := h5.notin ht
        have ntl : t ∉ l := fun z => h8 t z ht
        have s1 : Same (cut (D2 :: p :: g :: l) H7) (cut l (upd H7 t (.tup vs))) := fun b o z => by
          obtain ⟨a1, a2⟩ := cut_some z
          rw [cut_out (fun y => a1 (by simp [y])), upd_ne (ne_of_none a2 ht)]
          exact a2
        refine q (.ref t) (.tuple ds) _ (h5.put nt) (off_new h7 nt (h7.free ht nt)) (.tup (.inl (.inl (by rw [cut_out ntl]; exact upd_same))) (Dp.ups s1 _ _ h2)) (by simpa only [gd] using h3) (by simp only [PyData.depth]; omega) ?_
        simp only [nod]
        omega
end
/-- the error class named nm stands at C, the rest of its order of classes is bm -/
structure EL (K : PySem.W.Frag) (C : Addr) (nm : Str) (bm : List Value) (newId : String) : Prop where
  ex : ∃ q N bs sn sub ab col dd k0 k1 k2 k3 k5, K.lookup C = some (excClassObj nm q C N bs bm true sn sub ab col dd k0 k1 k2 k3 k5 newId)
section
variable {K : PySem.W.Frag} {C C' : Addr} {nm nm' : Str} {bm bm' : List Value} {newId newId' : String}
theorem EL.cd (e : EL K C nm bm newId) : ∃ cd, PySem.W.clsIn K C = some cd ∧ cd.mro = .ref C :: bm ∧ cd.name = nm ∧ cd.hasDict = true := by
  obtain ⟨q, N, bs, sn, sub, ab, col, dd, k0, k1, k2, k3, k5, h⟩ := e.ex
  exact ⟨{ name := nm, bases := bs, mro := .ref C :: bm, ns := N, qualname := q, hasDict := true, slotNames := sn, subclasses := sub, abstract := ab, collection := col, hasDel := false }, by (unfold PySem.W.clsIn; rw [h] <;> rfl), rfl, rfl, rfl⟩
theorem EL.ne (e : EL K C nm bm newId) (e' : EL K C' nm' bm' newId') (h : nm ≠ nm') : C ≠ C' := fun z => by
  obtain ⟨cd, h1, _, h2, _⟩ := e.cd
  obtain ⟨cd', h1', _, h2', _⟩ := e'.cd
  rw [z, h1'] at h1
  have q := Option.some.inj h1
  subst q
  exact h (h2.symm.trans h2')
theorem EL.ty (e : EL K C nm bm newId) : PySem.W.typeIn K (.ref C) = some (.type "type") := by
  obtain ⟨q, N, bs, sn, sub, ab, col, dd, k0, k1, k2, k3, k5, h⟩ := e.ex
  show (K.lookup C).map (·.cls) = _
  rw [h]
  rfl
theorem EL.sub (e : EL K C nm bm newId) (c : Value) : PySem.W.subIn K (.ref C) c = some ((Value.ref C :: bm).contains c) := by
  obtain ⟨cd, h1, h2, _⟩ := e.cd
  show PySem.W.mroIn K C c = _
  unfold PySem.W.mroIn
  rw [h1, Option.bind_some, h2]
  rfl
theorem EL.hd (e : EL K C nm bm newId) : PySem.W.hasDictIn K C = true := by
  obtain ⟨cd, h1, _, _, h3⟩ := e.cd
  unfold PySem.W.hasDictIn
  rw [h1]
  exact h3
theorem EL.isK (e : EL K C nm bm newId) (e' : EL K C' nm' bm' newId') : PySem.W.kitOne K (.ref C) (.ref C') = some ((Value.ref C :: bm).contains (.ref C')) := by
  unfold PySem.W.kitOne PySem.W.kitCls
  by_cases h : (Value.ref C == Value.ref C') = true
  · rw [if_pos h]
    have q := beq_iff_eq.mp h
    rw [← q]
    simp
  · rw [if_neg h]
    obtain ⟨cd, h1, _⟩ := e'.cd
    show (if ((PySem.W.clsIn K C').isSome && PySem.W.typeIn K (.ref C') == some (.type "type")) = true then PySem.W.subIn K (.ref C) (.ref C') else none) = _
    rw [h1, e'.ty, e.sub]
    simp only [Option.isSome_some, beq_self_eq_true, Bool.and_self, if_true]
theorem EL.isT (e : EL K C nm bm newId) {T : String} (m : PySem.W.kitMeta T = true) : PySem.W.kitOne K (.ref C) (.type T) = some ((Value.ref C :: bm).contains (.type T)) := by
  unfold PySem.W.kitOne PySem.W.kitCls
  rw [if_neg (fun z => nomatch (beq_iff_eq.mp z : Value.ref C = Value.type T))]
  show (if PySem.W.kitMeta T = true then _ else _) = _
  rw [if_pos m]
  exact e.sub _
/-- what is asked of the class by its names -/
structure EF (K : PySem.W.Frag) (C : Addr) : Prop where
  ga : PySem.W.findIn K (.ref C) "__getattribute__" = some (some (.builtin "BaseException.__getattribute__"))
  gg : PySem.W.findIn K (.ref C) "__getattr__" = some none
  ha : PySem.W.findIn K (.ref C) "__class__" = some (some (.builtin "object.__class__"))
  sa : PySem.W.findIn K (.ref C) "__setattr__" = some (some (.builtin "object.__setattr__"))
  kC : PySem.W.keepIn K (.ref C) = true
structure Hn (K : PySem.W.Frag) : Prop where
  hn : PySem.W.specialIn K (.builtin "object.__class__") "__get__" = some (some (.builtin "getset_descriptor.__get__"))
  ht : PySem.W.takesIn K (.builtin "object.__class__") = some true
theorem EL.exk {B initId : String} {bmF T : List Value} (e : EL K C nm bm newId) (f : EF K C) (F : EBase B newId initId bmF T) (ht : tlB T bm = true) (hb : bm.contains (.type "BaseException") = true) : ExK K C := by
  obtain ⟨q, N, bs, sn, sub, ab, col, dd, k0, k1, k2, k3, k5, h⟩ := e.ex
  exact ⟨⟨B, newId, initId, bmF, T, nm, q, N, bs, bm, sn, sub, ab, col, dd, k0, k1, k2, k3, k5, F, h, ht⟩, f.sa, by (rw [e.sub, List.contains_cons, hb, Bool.or_true]), e.ty, f.kC⟩
theorem EL.xf (e : EL K C nm bm newId) (f : EF K C) (hb : bm.contains (.type "BaseException") = true) : XfC K C := ⟨f.ga, f.gg, by (rw [e.sub, List.contains_cons, hb, Bool.or_true]), e.hd⟩
theorem EL.exc (e : EL K C nm bm newId) (f : EF K C) (n : Hn K) (hb : bm.contains (.type "BaseException") = true) (ho : bm.contains (.type "object") = true) : ExcC K C :=
  ⟨f.ga, f.gg, by (rw [e.sub, List.contains_cons, hb, Bool.or_true]), e.hd, f.ha, n.hn, n.ht, by (have z := e.sub (.type "object"); rw [List.contains_cons, ho, Bool.or_true] at z; exact z)⟩
end
abbrev eNames : List Str := ["NoBook", "NoSheet", "NoText", "NoWord", "NoNote", "TooMany", "TooBig", "NoInput", "NoPlace", "NoCell"]
/-- the error classes -/
structure Ers (P : Program) (w : World) (K : PySem.W.Frag) (mg : Str → Option Value) (base : Heap) (L : Addr) (C : Nat → Addr) : Prop where
  n : Hn K
  mL : mg "LoreError" = some (.ref L)
  mV : mg "ValueError" = none
  mK : mg "KeyError" = none
  lL : EL K L "LoreError" veT "ValueError.__new__"
  e0 : ∃ fI fd, EC P w K mg base "NoBook" ["word", "name", "path"] ["path", "name", "word"] (C 0) fI fd
  e1 : ∃ fI fd, EC P w K mg base "NoSheet" ["word", "name"] ["name", "word"] (C 1) fI fd
  e2 : ∃ fI fd, EC P w K mg base "NoText" ["at"] ["at"] (C 2) fI fd
  e3 : ∃ fI fd, EC P w K mg base "NoWord" ["at"] ["at"] (C 3) fI fd
  e4 : ∃ fI fd, EC P w K mg base "NoNote" ["at"] ["at"] (C 4) fI fd
  e5 : ∃ fI fd, EC P w K mg base "TooMany" ["most"] ["most"] (C 5) fI fd
  e6 : ∃ fI fd, EC P w K mg base "TooBig" ["most"] ["most"] (C 6) fI fd
  e7 : PySem.W.excIn K (C 7) veT "ValueError.__new__" = true ∧ PySem.W.keepIn K (.ref (C 7)) = true ∧ mg "NoInput" = some (.ref (C 7)) ∧ ExcC K (C 7)
  e8 : ∃ fI fd, EC P w K mg base "NoPlace" ["place"] ["place"] (C 8) fI fd
  e9 : ∃ fI fd, EC P w K mg base "NoCell" ["name"] ["name"] (C 9) fI fd
  xs : ∀ i, i < 10 → ExcC K (C i)
  ls : ∀ i, i < 10 → ∃ nm bm newId, EL K (C i) nm bm newId ∧ nm = eNames.getD i "" ∧ bm = if i < 8 then .ref L :: veT else keT
/-- ten errors, one of each class, made of three values -/
structure TenAt (C : Nat → Addr) (v1 v2 v3 : V) (H : Hp) (D : Addr) (a d : Nat → Addr) : Prop where
  l : H D = some (.lst [.ref (a 0), .ref (a 1), .ref (a 2), .ref (a 3), .ref (a 4), .ref (a 5), .ref (a 6), .ref (a 7), .ref (a 8), .ref (a 9)])
  e0 : ErrD H (C 0) (a 0) (d 0) [("path", v3), ("name", v2), ("word", v1)]
  e1 : ErrD H (C 1) (a 1) (d 1) [("name", v2), ("word", v1)]
  e2 : ErrD H (C 2) (a 2) (d 2) [("at", v1)]
  e3 : ErrD H (C 3) (a 3) (d 3) [("at", v1)]
  e4 : ErrD H (C 4) (a 4) (d 4) [("at", v1)]
  e5 : ErrD H (C 5) (a 5) (d 5) [("most", v1)]
  e6 : ErrD H (C 6) (a 6) (d 6) [("most", v1)]
  e7 : H (a 7) = some (exo (a 7) (C 7) none)
  e8 : ErrD H (C 8) (a 8) (d 8) [("place", v1)]
  e9 : ErrD H (C 9) (a 9) (d 9) [("name", v1)]
theorem TenAt.up {C : Nat → Addr} {v1 v2 v3 : V} {H H' : Hp} {D : Addr} {a d : Nat → Addr} (s : Same H H') (t : TenAt C v1 v2 v3 H D a d) : TenAt C v1 v2 v3 H' D a d :=
  ⟨s _ _ t.l, t.e0.up s, t.e1.up s, t.e2.up s, t.e3.up s, t.e4.up s, t.e5.up s, t.e6.up s, s _ _ t.e7, t.e8.up s, t.e9.up s⟩
theorem mk_same {H1 H' : Hp} {a : Addr} {o : HO} (ha : H1 a = none) (k : ∀ b u, b ≠ a → upd H1 a o b = some u → H' b = some u) : Same H1 H' := fun b u z => by
  have nb := ne_of_none z ha
  exact k b u nb (by (rw [upd_ne nb]; exact z))
abbrev sMade : Stmt := topS 16
abbrev sNamed : Stmt := topS 17
theorem scMade : FnScope ["_law_one", "_law_other", "_law_third", "_law_found"] ["_law_one", "_law_other", "_law_third"] (defScope sMade) := ⟨rfl, rfl, rfl, by decide +kernel, rfl, by decide +kernel, by decide +kernel⟩
theorem scNamed : FnScope ["_law_one", "_law_other", "_law_third", "_law_found"] ["_law_one", "_law_other", "_law_third"] (defScope sNamed) := ⟨rfl, rfl, rfl, by decide +kernel, rfl, by decide +kernel, by decide +kernel⟩
def spMade (C : Nat → Addr) : Sp := fun vs H Q _ => ∃ v1 v2 v3, vs = [v1, v2, v3] ∧ ∀ D a d H', Same H H' → TenAt C v1 v2 v3 H' D a d → Q (.ref D) H'
section
variable {P : Program} {w : World} {K : PySem.W.Frag} {mg : Str → Option Value} {base : Heap} {f L : Addr} {fd : FuncData} {C : Nat → Addr}
theorem ok_made {k : Nat} (F : Fun K "_law_made" "_law_made" sMade f fd) (R : Ers P w K mg base L C) : FnOk P w K mg base CX0 (k + 3) f fd ["_law_one", "_law_other", "_law_third"] (spMade C) := by
  refine F.ok scMade (fun vs H Q E h => ?_) (fun cdv A outer s H vs Q E hr h => ?_)
  · obtain ⟨v1, v2, v3, rfl, _⟩ := h
    rfl
  obtain ⟨v1, v2, v3, rfl, q⟩ := h
  obtain ⟨f0, d0, c0⟩ := R.e0
  obtain ⟨f1, d1, c1⟩ := R.e1
  obtain ⟨f2, d2, c2⟩ := R.e2
  obtain ⟨f3, d3, c3⟩ := R.e3
  obtain ⟨f4, d4, c4⟩ := R.e4
  obtain ⟨f5, d5, c5⟩ := R.e5
  obtain ⟨f6, d6, c6⟩ := R.e6
  obtain ⟨q7, k7, m7, x7⟩ := R.e7
  obtain ⟨f8, d8, c8⟩ := R.e8
  obtain ⟨f9, d9, c9⟩ := R.e9
  have hr2 : Room (1 + 1) _ := hr.mono (by omega)
  refine ⟨_, pss_cons (ps_set (i := 3) scMade.nd rfl (.inl rfl) (pe_lst (pa_cons (pe_mkE c0.T c0.iC c0.tI c0.ok hr2 c0.bd pass0 (by rfl) c0.mg (pa_cons (pv 0) (pa_cons (pv 1) (pa_cons (pv 2) pa_nil))))
      (pa_cons (pe_mkE c1.T c1.iC c1.tI c1.ok hr2 c1.bd pass0 (by rfl) c1.mg (pa_cons (pv 0) (pa_cons (pv 1) pa_nil)))
      (pa_cons (pe_mkE c2.T c2.iC c2.tI c2.ok hr2 c2.bd pass0 (by rfl) c2.mg (pa_cons (pv 0) pa_nil))
      (pa_cons (pe_mkE c3.T c3.iC c3.tI c3.ok hr2 c3.bd pass0 (by rfl) c3.mg (pa_cons (pv 0) pa_nil))
      (pa_cons (pe_mkE c4.T c4.iC c4.tI c4.ok hr2 c4.bd pass0 (by rfl) c4.mg (pa_cons (pv 0) pa_nil))
      (pa_cons (pe_mkE c5.T c5.iC c5.tI c5.ok hr2 c5.bd pass0 (by rfl) c5.mg (pa_cons (pv 0) pa_nil)) pa_nil))))))))
    (pss_one (ps_ret (pe_op op_cat (pv 3) (pe_lst (pa_cons (pe_mkE c6.T c6.iC c6.tI c6.ok hr2 c6.bd pass0 (by rfl) c6.mg (pa_cons (pv 0) pa_nil))
      (pa_cons (pe_mkE0 PySem.F.excBase_ValueError q7 k7 (by rfl) m7)
      (pa_cons (pe_mkE c8.T c8.iC c8.tI c8.ok hr2 c8.bd pass0 (by rfl) c8.mg (pa_cons (pv 0) pa_nil))
      (pa_cons (pe_mkE c9.T c9.iC c9.tI c9.ok hr2 c9.bd pass0 (by rfl) c9.mg (pa_cons (pv 0) pa_nil)) pa_nil)))))))), ?_⟩
  refine ⟨_, rfl, _, rfl, _, rfl, few9 (by simp), fun a0 h0 => ⟨a0, _, rfl, rfl, upd_same, fun b0 H0 _ _ E0 k0 => ⟨rfl, ?_⟩⟩⟩
  have s0 := mk_same h0 k0
  refine ⟨_, rfl, _, rfl, few9 (by simp), fun a1 h1 => ⟨a1, _, rfl, rfl, upd_same, fun b1 H1 _ _ E1 k1 => ⟨rfl, ?_⟩⟩⟩
  have s1 := mk_same h1 k1
  refine ⟨_, rfl, few9 (by simp), fun a2 h2 => ⟨a2, _, rfl, rfl, upd_same, fun b2 H2 _ _ E2 k2 => ⟨rfl, ?_⟩⟩⟩
  have s2 := mk_same h2 k2
  refine ⟨_, rfl, few9 (by simp), fun a3 h3 => ⟨a3, _, rfl, rfl, upd_same, fun b3 H3 _ _ E3 k3 => ⟨rfl, ?_⟩⟩⟩
  have s3 := mk_same h3 k3
  refine ⟨_, rfl, few9 (by simp), fun a4 h4 => ⟨a4, _, rfl, rfl, upd_same, fun b4 H4 _ _ E4 k4 => ⟨rfl, ?_⟩⟩⟩
  have s4 := mk_same h4 k4
  refine ⟨_, rfl, few9 (by simp), fun a5 h5 => ⟨a5, _, rfl, rfl, upd_same, fun b5 H5 _ _ E5 k5 => ⟨rfl, ⟨few (by simp), fun D hD => ?_⟩⟩⟩⟩
  have s5 := mk_same h5 k5
  have sD := same_new (o := .lst [.ref a0, .ref a1, .ref a2, .ref a3, .ref a4, .ref a5]) hD
  refine ⟨_, rfl, ?_⟩
  refine ⟨_, rfl, few9 (by simp), fun a6 h6 => ⟨a6, _, rfl, rfl, upd_same, fun b6 H6 _ _ E6 k6 => ⟨rfl, fun a7 h7 => ?_⟩⟩⟩
  have s6 := mk_same h6 k6
  have s7 := same_new (o := exo a7 (C 7) none) h7
  refine ⟨_, rfl, few9 (by simp), fun a8 h8 => ⟨a8, _, rfl, rfl, upd_same, fun b8 H8 _ _ E8 k8 => ⟨rfl, ?_⟩⟩⟩
  have s8 := mk_same h8 k8
  refine ⟨_, rfl, few9 (by simp), fun a9 h9 => ⟨a9, _, rfl, rfl, upd_same, fun b9 H9 _ _ E9 k9 => ⟨rfl, ⟨few (by simp), fun D2 hD2 => ?_⟩⟩⟩⟩
  have s9 := mk_same h9 k9
  have sD2 := same_new (o := .lst [.ref a6, .ref a7, .ref a8, .ref a9]) hD2
  have t9 := s9.trans sD2
  have t8 := s8.trans t9
  have t7 := s7.trans t8
  have t6 := s6.trans t7
  have tD := sD.trans t6
  refine ⟨D, D2, _, _, rfl, rfl, t6 _ _ upd_same, upd_same, few2 (by simp), fun D3 hD3 => ?_⟩
  have s3' := same_new (o := .lst ([.ref a0, .ref a1, .ref a2, .ref a3, .ref a4, .ref a5] ++ [.ref a6, .ref a7, .ref a8, .ref a9])) hD3
  refine q D3 (fun i => [a0, a1, a2, a3, a4, a5, a6, a7, a8, a9].getD i 0) (fun i => [b0, b1, b2, b3, b4, b5, b6, 0, b8, b9].getD i 0) _ (s0.trans (s1.trans (s2.trans (s3.trans (s4.trans (s5.trans (tD.trans s3'))))))) ?_
  have u5 := tD.trans s3'
  have u4 := s5.trans u5
  have u3 := s4.trans u4
  have u2 := s3.trans u3
  have u1 := s2.trans u2
  exact ⟨upd_same, E0.up (s1.trans u1), E1.up u1, E2.up u2, E3.up u3, E4.up u4, E5.up u5, E6.up (t7.trans s3'), (t8.trans s3') _ _ upd_same, E8.up (t9.trans s3'), E9.up (sD2.trans s3')⟩
theorem ok_named {k : Nat} (F : Fun K "_law_named" "_law_named" sNamed f fd) (R : Ers P w K mg base L C) : FnOk P w K mg base CX0 (k + 3) f fd ["_law_one", "_law_other", "_law_third"] (spMade C) := by
  refine F.ok scNamed (fun vs H Q E h => ?_) (fun cdv A outer s H vs Q E hr h => ?_)
  · obtain ⟨v1, v2, v3, rfl, _⟩ := h
    rfl
  obtain ⟨v1, v2, v3, rfl, q⟩ := h
  obtain ⟨f0, d0, c0⟩ := R.e0
  obtain ⟨f1, d1, c1⟩ := R.e1
  obtain ⟨f2, d2, c2⟩ := R.e2
  obtain ⟨f3, d3, c3⟩ := R.e3
  obtain ⟨f4, d4, c4⟩ := R.e4
  obtain ⟨f5, d5, c5⟩ := R.e5
  obtain ⟨f6, d6, c6⟩ := R.e6
  obtain ⟨q7, k7, m7, x7⟩ := R.e7
  obtain ⟨f8, d8, c8⟩ := R.e8
  obtain ⟨f9, d9, c9⟩ := R.e9
  have hr2 : Room (1 + 1) _ := hr.mono (by omega)
  refine ⟨_, pss_cons (ps_set (i := 3) scNamed.nd rfl (.inl rfl) (pe_lst (pa_cons (pe_mkEK c0.T c0.iC c0.tI c0.ok hr2 c0.kb pass0 (by rfl) c0.mg (pk_cons (pv 2) (pk_cons (pv 1) (pk_cons (pv 0) pk_nil))))
      (pa_cons (pe_mkEK c1.T c1.iC c1.tI c1.ok hr2 c1.kb pass0 (by rfl) c1.mg (pk_cons (pv 1) (pk_cons (pv 0) pk_nil)))
      (pa_cons (pe_mkEK c2.T c2.iC c2.tI c2.ok hr2 c2.kb pass0 (by rfl) c2.mg (pk_cons (pv 0) pk_nil))
      (pa_cons (pe_mkEK c3.T c3.iC c3.tI c3.ok hr2 c3.kb pass0 (by rfl) c3.mg (pk_cons (pv 0) pk_nil)) pa_nil))))))
    (pss_cons (ps_set (i := 3) scNamed.nd rfl (.inl rfl) (pe_op op_cat (pv 3) (pe_lst (pa_cons (pe_mkEK c4.T c4.iC c4.tI c4.ok hr2 c4.kb pass0 (by rfl) c4.mg (pk_cons (pv 0) pk_nil))
      (pa_cons (pe_mkEK c5.T c5.iC c5.tI c5.ok hr2 c5.kb pass0 (by rfl) c5.mg (pk_cons (pv 0) pk_nil))
      (pa_cons (pe_mkEK c6.T c6.iC c6.tI c6.ok hr2 c6.kb pass0 (by rfl) c6.mg (pk_cons (pv 0) pk_nil))
      (pa_cons (pe_mkE0 PySem.F.excBase_ValueError q7 k7 (by rfl) m7)
      (pa_cons (pe_mkEK c8.T c8.iC c8.tI c8.ok hr2 c8.kb pass0 (by rfl) c8.mg (pk_cons (pv 0) pk_nil)) pa_nil))))))))
    (pss_one (ps_ret (pe_op op_cat (pv 3) (pe_lst (pa_cons (pe_mkEK c9.T c9.iC c9.tI c9.ok hr2 c9.kb pass0 (by rfl) c9.mg (pk_cons (pv 0) pk_nil)) pa_nil)))))), ?_⟩
  refine ⟨_, rfl, _, rfl, _, rfl, rfl, fun a0 h0 => ⟨a0, [v1, v2, v3], rfl, rfl, upd_same, fun b0 H0 _ _ E0 k0 => ⟨rfl, ?_⟩⟩⟩
  have s0 := mk_same h0 k0
  refine ⟨_, rfl, _, rfl, rfl, fun a1 h1 => ⟨a1, [v1, v2], rfl, rfl, upd_same, fun b1 H1 _ _ E1 k1 => ⟨rfl, ?_⟩⟩⟩
  have s1 := mk_same h1 k1
  refine ⟨_, rfl, rfl, fun a2 h2 => ⟨a2, [v1], rfl, rfl, upd_same, fun b2 H2 _ _ E2 k2 => ⟨rfl, ?_⟩⟩⟩
  have s2 := mk_same h2 k2
  refine ⟨_, rfl, rfl, fun a3 h3 => ⟨a3, [v1], rfl, rfl, upd_same, fun b3 H3 _ _ E3 k3 => ⟨rfl, ⟨few (by simp), fun D hD => ?_⟩⟩⟩⟩
  have s3 := mk_same h3 k3
  have sD := same_new (o := .lst [.ref a0, .ref a1, .ref a2, .ref a3]) hD
  refine ⟨_, rfl, ?_⟩
  refine ⟨_, rfl, rfl, fun a4 h4 => ⟨a4, [v1], rfl, rfl, upd_same, fun b4 H4 _ _ E4 k4 => ⟨rfl, ?_⟩⟩⟩
  have s4 := mk_same h4 k4
  refine ⟨_, rfl, rfl, fun a5 h5 => ⟨a5, [v1], rfl, rfl, upd_same, fun b5 H5 _ _ E5 k5 => ⟨rfl, ?_⟩⟩⟩
  have s5 := mk_same h5 k5
  refine ⟨_, rfl, rfl, fun a6 h6 => ⟨a6, [v1], rfl, rfl, upd_same, fun b6 H6 _ _ E6 k6 => ⟨rfl, fun a7 h7 => ?_⟩⟩⟩
  have s6 := mk_same h6 k6
  have s7 := same_new (o := exo a7 (C 7) none) h7
  refine ⟨_, rfl, rfl, fun a8 h8 => ⟨a8, [v1], rfl, rfl, upd_same, fun b8 H8 _ _ E8 k8 => ⟨rfl, ⟨few (by simp), fun D2 hD2 => ?_⟩⟩⟩⟩
  have s8 := mk_same h8 k8
  have sD2 := same_new (o := .lst [.ref a4, .ref a5, .ref a6, .ref a7, .ref a8]) hD2
  have t8 := s8.trans sD2
  have t7 := s7.trans t8
  have t6 := s6.trans t7
  have t5 := s5.trans t6
  have t4 := s4.trans t5
  refine ⟨D, D2, _, _, rfl, rfl, t4 _ _ upd_same, upd_same, few2 (by simp), fun D3 hD3 => ?_⟩
  have sD3 := same_new (o := .lst ([.ref a0, .ref a1, .ref a2, .ref a3] ++ [.ref a4, .ref a5, .ref a6, .ref a7, .ref a8])) hD3
  refine ⟨_, rfl, ?_⟩
  refine ⟨_, rfl, rfl, fun a9 h9 => ⟨a9, [v1], rfl, rfl, upd_same, fun b9 H9 _ _ E9 k9 => ⟨rfl, ⟨few (by simp), fun D4 hD4 => ?_⟩⟩⟩⟩
  have s9 := mk_same h9 k9
  have sD4 := same_new (o := .lst [.ref a9]) hD4
  have t9 := s9.trans sD4
  refine ⟨D3, D4, _, _, rfl, rfl, t9 _ _ upd_same, upd_same, few2 (by simp), fun D5 hD5 => ?_⟩
  have sD5 := same_new (o := .lst (([.ref a0, .ref a1, .ref a2, .ref a3] ++ [.ref a4, .ref a5, .ref a6, .ref a7, .ref a8]) ++ [.ref a9])) hD5
  have x9 := sD4.trans sD5
  have x8 := sD2.trans (sD3.trans (s9.trans x9))
  have x7 := s8.trans x8
  have x6 := s7.trans x7
  have x5 := s6.trans x6
  have x4 := s5.trans x5
  have x3 := sD.trans (s4.trans x4)
  have x2 := s3.trans x3
  have x1 := s2.trans x2
  have x0 := s1.trans x1
  refine q D5 (fun i => [a0, a1, a2, a3, a4, a5, a6, a7, a8, a9].getD i 0) (fun i => [b0, b1, b2, b3, b4, b5, b6, 0, b8, b9].getD i 0) _ (s0.trans x0) ?_
  exact ⟨upd_same, E0.up x0, E1.up x1, E2.up x2, E3.up x3, E4.up x4, E5.up x5, E6.up x6, x7 _ _ upd_same, E8.up x8, E9.up x9⟩
end
abbrev sKept : Stmt := topS 18
theorem scKept : FnScope ["_law_made_here", "_law_book", "_law_sheet", "_law_found"] ["_law_made_here"] (defScope sKept) := ⟨rfl, rfl, rfl, by decide +kernel, rfl, by decide +kernel, by decide +kernel⟩
def spKept (C : Nat → Addr) : Sp := fun vs H Q _ => ∃ D v1 v2 v3 a d, vs = [.ref D] ∧ TenAt C v1 v2 v3 H D a d ∧ ∀ D2 H', Same H H' → H' D2 = some (.lst [v1, v2, v3, v1, v2, v1, v1, v1, v1, v1, v1, v1]) → Q (.ref D2) H'
theorem lk1 {f : Str} {y : V} {r : List (Str × V)} : ((f, y) :: r).lookup f = some y := by rw [L2.lookup_put, if_pos rfl]
theorem lk2 {f g : Str} {y z : V} {r : List (Str × V)} (h : ¬ g = f) : ((f, y) :: (g, z) :: r).lookup g = some z := by rw [L2.lookup_put, if_neg h, L2.lookup_put, if_pos rfl]
theorem lk3 {f g k : Str} {x y z : V} {r : List (Str × V)} (h : ¬ k = f) (h2 : ¬ k = g) : ((f, x) :: (g, y) :: (k, z) :: r).lookup k = some z := by rw [L2.lookup_put, if_neg h, L2.lookup_put, if_neg h2, L2.lookup_put, if_pos rfl]
theorem nwp : ¬ (("word" : Str) = "path") := by decide +kernel
theorem nwn : ¬ (("word" : Str) = "name") := by decide +kernel
theorem nnp : ¬ (("name" : Str) = "path") := by decide +kernel
section
variable {P : Program} {w : World} {K : PySem.W.Frag} {mg : Str → Option Value} {base : Heap} {f L : Addr} {fd : FuncData} {C : Nat → Addr}
theorem ok_kept {k : Nat} (F : Fun K "_law_kept" "_law_kept" sKept f fd) (R : Ers P w K mg base L C) : FnOk P w K mg base CX0 (k + 1) f fd ["_law_made_here"] (spKept C) := by
  refine F.ok scKept (fun vs H Q E h => ?_) (fun cdv A outer s H vs Q E hr h => ?_)
  · obtain ⟨D, v1, v2, v3, a, d, rfl, _⟩ := h
    rfl
  obtain ⟨D, v1, v2, v3, a, d, rfl, t, q⟩ := h
  obtain ⟨f0, d0, c0⟩ := R.e0
  obtain ⟨f1, d1, c1⟩ := R.e1
  obtain ⟨f2, d2, c2⟩ := R.e2
  obtain ⟨f3, d3, c3⟩ := R.e3
  obtain ⟨f4, d4, c4⟩ := R.e4
  obtain ⟨f5, d5, c5⟩ := R.e5
  obtain ⟨f6, d6, c6⟩ := R.e6
  obtain ⟨f8, d8, c8⟩ := R.e8
  obtain ⟨f9, d9, c9⟩ := R.e9
  refine ⟨_, pss_cons (ps_par (i := 1) (j := 2) (by rfl) scKept.nd rfl rfl (by decide) rfl rfl (pa_cons (pe_ix ix_list (pv 0) pe_int (fun _ _ => rfl)) (pa_cons (pe_ix ix_list (pv 0) pe_int (fun _ _ => rfl)) pa_nil)) (by rfl))
    (pss_cons (ps_set (i := 3) scKept.nd rfl (.inl rfl) (pe_lst (pa_cons (pe_xa (pv 1)) (pa_cons (pe_xa (pv 1)) (pa_cons (pe_xa (pv 1)) (pa_cons (pe_xa (pv 2)) (pa_cons (pe_xa (pv 2))
        (pa_cons (pe_xa (pe_ix ix_list (pv 0) pe_int (fun _ _ => rfl))) (pa_cons (pe_xa (pe_ix ix_list (pv 0) pe_int (fun _ _ => rfl))) (pa_cons (pe_xa (pe_ix ix_list (pv 0) pe_int (fun _ _ => rfl))) pa_nil))))))))))
    (pss_one (ps_ret (pe_op op_cat (pv 3) (pe_lst (pa_cons (pe_xa (pe_ix ix_list (pv 0) pe_int (fun _ _ => rfl))) (pa_cons (pe_xa (pe_ix ix_list (pv 0) pe_int (fun _ _ => rfl)))
        (pa_cons (pe_xa (pe_ix ix_list (pv 0) pe_int (fun _ _ => rfl))) (pa_cons (pe_xa (pe_ix ix_list (pv 0) pe_int (fun _ _ => rfl))) pa_nil))))))))), ?_⟩
  refine ⟨_, rfl, D, _, 0, _, rfl, rfl, SqL.of t.l, rfl, _, rfl, D, _, 1, _, rfl, rfl, SqL.of t.l, rfl, _, _, rfl, ?_⟩
  refine ⟨_, rfl, _, _, _, _, _, rfl, c0.X, c0.no "word" (by simp), t.e0.1, t.e0.2, lk3 nwp nwn, ?_⟩
  refine ⟨_, rfl, _, _, _, _, _, rfl, c0.X, c0.no "name" (by simp), t.e0.1, t.e0.2, lk2 nnp, ?_⟩
  refine ⟨_, rfl, _, _, _, _, _, rfl, c0.X, c0.no "path" (by simp), t.e0.1, t.e0.2, lk1, ?_⟩
  refine ⟨_, rfl, _, _, _, _, _, rfl, c1.X, c1.no "word" (by simp), t.e1.1, t.e1.2, lk2 nwn, ?_⟩
  refine ⟨_, rfl, _, _, _, _, _, rfl, c1.X, c1.no "name" (by simp), t.e1.1, t.e1.2, lk1, ?_⟩
  refine ⟨_, rfl, D, _, 2, _, rfl, rfl, SqL.of t.l, rfl, _, _, _, _, _, rfl, c2.X, c2.no "at" (by simp), t.e2.1, t.e2.2, lk1, ?_⟩
  refine ⟨_, rfl, D, _, 3, _, rfl, rfl, SqL.of t.l, rfl, _, _, _, _, _, rfl, c3.X, c3.no "at" (by simp), t.e3.1, t.e3.2, lk1, ?_⟩
  refine ⟨_, rfl, D, _, 4, _, rfl, rfl, SqL.of t.l, rfl, _, _, _, _, _, rfl, c4.X, c4.no "at" (by simp), t.e4.1, t.e4.2, lk1, few (by simp), fun D1 h1 => ?_⟩
  have s1 := same_new (o := .lst [v1, v2, v3, v1, v2, v1, v1, v1]) h1
  have t := t.up s1
  refine ⟨_, rfl, ?_⟩
  refine ⟨_, rfl, D, _, 5, _, rfl, rfl, SqL.of t.l, rfl, _, _, _, _, _, rfl, c5.X, c5.no "most" (by simp), t.e5.1, t.e5.2, lk1, ?_⟩
  refine ⟨_, rfl, D, _, 6, _, rfl, rfl, SqL.of t.l, rfl, _, _, _, _, _, rfl, c6.X, c6.no "most" (by simp), t.e6.1, t.e6.2, lk1, ?_⟩
  refine ⟨_, rfl, D, _, 8, _, rfl, rfl, SqL.of t.l, rfl, _, _, _, _, _, rfl, c8.X, c8.no "place" (by simp), t.e8.1, t.e8.2, lk1, ?_⟩
  refine ⟨_, rfl, D, _, 9, _, rfl, rfl, SqL.of t.l, rfl, _, _, _, _, _, rfl, c9.X, c9.no "name" (by simp), t.e9.1, t.e9.2, lk1, few (by simp), fun D2 h2 => ?_⟩
  have s2 := same_new (o := .lst [v1, v1, v1, v1]) h2
  refine ⟨D1, D2, _, _, rfl, rfl, s2 _ _ upd_same, upd_same, few2 (by simp), fun D3 h3 => ?_⟩
  exact q D3 _ (s1.trans (s2.trans (same_new h3 _))) upd_same
end
abbrev sSorts : Stmt := topS 19
theorem scSorts : FnScope ["_law_e", "_law_found", "_law_is_lore"] ["_law_e"] (defScope sSorts) := ⟨rfl, rfl, rfl, by decide +kernel, rfl, by decide +kernel, by decide +kernel⟩
theorem eNames_ne : ∀ i, i < 10 → ∀ j, j < 10 → i ≠ j → eNames.getD i "" ≠ eNames.getD j "" := by decide +kernel
theorem eNames_L : ∀ i, i < 10 → eNames.getD i "" ≠ "LoreError" := by decide +kernel
theorem kmV : PySem.W.kitMeta "ValueError" = true := by decide +kernel
theorem kmK : PySem.W.kitMeta "KeyError" = true := by decide +kernel
theorem vrr {a b : Addr} : (Value.ref a == Value.ref b) = decide (a = b) := by
  by_cases h : a = b
  · rw [h, decide_eq_true rfl]
    exact beq_self_eq_true _
  · rw [decide_eq_false h]
    exact beq_eq_false_iff_ne.mpr fun z => h (Value.ref.inj z)
theorem veT_ref {a : Addr} : veT.contains (.ref a) = false := rfl
theorem keT_ref {a : Addr} : keT.contains (.ref a) = false := rfl
section
variable {P : Program} {w : World} {K : PySem.W.Frag} {mg : Str → Option Value} {base : Heap} {L : Addr} {C : Nat → Addr}
theorem Ers.kit (R : Ers P w K mg base L C) {i j : Nat} (hi : i < 10) (hj : j < 10) : PySem.W.kitOne K (.ref (C i)) (.ref (C j)) = some (decide (i = j)) := by
  obtain ⟨nm, bm, id1, e, hn, hb⟩ := R.ls i hi
  obtain ⟨nm', bm', id2, e', hn', hb'⟩ := R.ls j hj
  rw [e.isK e', List.contains_cons, vrr]
  by_cases h : i = j
  · subst h
    rw [decide_eq_true rfl, decide_eq_true rfl, Bool.true_or]
  · have n1 : ¬ C j = C i := (e'.ne e (by rw [hn, hn']; exact eNames_ne j hj i hi (Ne.symm h)))
    have n2 : ¬ C j = L := (e'.ne R.lL (by rw [hn']; exact eNames_L j hj))
    rw [decide_eq_false n1, decide_eq_false h, Bool.false_or, hb]
    by_cases c : i < 8
    · rw [if_pos c, List.contains_cons, vrr, decide_eq_false n2, veT_ref, Bool.or_self]
    · rw [if_neg c, keT_ref]
theorem Ers.kitL (R : Ers P w K mg base L C) {i : Nat} (hi : i < 10) : PySem.W.kitOne K (.ref (C i)) (.ref L) = some (decide (i < 8)) := by
  obtain ⟨nm, bm, id1, e, hn, hb⟩ := R.ls i hi
  have n2 : ¬ L = C i := Ne.symm (e.ne R.lL (by rw [hn]; exact eNames_L i hi))
  rw [e.isK R.lL, List.contains_cons, vrr, decide_eq_false n2, Bool.false_or, hb]
  by_cases c : i < 8
  · rw [if_pos c, List.contains_cons, vrr, decide_eq_true rfl, decide_eq_true c, Bool.true_or]
  · rw [if_neg c, keT_ref, decide_eq_false c]
theorem Ers.kitV (R : Ers P w K mg base L C) {i : Nat} (hi : i < 10) : PySem.W.kitOne K (.ref (C i)) (.type "ValueError") = some (decide (i < 8)) := by
  obtain ⟨nm, bm, id1, e, hn, hb⟩ := R.ls i hi
  rw [e.isT kmV, hb]
  by_cases c : i < 8
  · rw [if_pos c, decide_eq_true c]
    rfl
  · rw [if_neg c, decide_eq_false c]
    rfl
theorem Ers.kitK (R : Ers P w K mg base L C) {i : Nat} (hi : i < 10) : PySem.W.kitOne K (.ref (C i)) (.type "KeyError") = some (decide (7 < i)) := by
  obtain ⟨nm, bm, id1, e, hn, hb⟩ := R.ls i hi
  rw [e.isT kmK, hb]
  by_cases c : i < 8
  · rw [if_pos c, decide_eq_false (show ¬ 7 < i by omega)]
    rfl
  · rw [if_neg c, decide_eq_true (show 7 < i by omega)]
    rfl
def spSorts (C : Nat → Addr) : Sp := fun vs H Q _ => ∃ a i, vs = [.ref a] ∧ i < 10 ∧ ErrAt H (C i) a ∧ ∀ D D1 D2 H', Same H H' → H' D = some (.tup [.ref D1, .ref D2]) → H' D1 = some (.lst ((List.range 10).map fun j => V.bl (decide (i = j)))) →
  H' D2 = some (.lst [.bl (decide (i < 8)), .bl (decide (i < 8)), .bl (decide (7 < i))]) → Q (.ref D) H'
variable {f : Addr} {fd : FuncData}
theorem ok_sorts {k : Nat} (F : Fun K "_law_sorts" "_law_sorts" sSorts f fd) (B : Bi mg) (R : Ers P w K mg base L C) : FnOk P w K mg base CX0 (k + 1) f fd ["_law_e"] (spSorts C) := by
  refine F.ok scSorts (fun vs H Q E h => ?_) (fun cdv A outer s H vs Q E hr h => ?_)
  · obtain ⟨a, i, rfl, _⟩ := h
    rfl
  obtain ⟨a, i, rfl, hi, he, q⟩ := h
  obtain ⟨f0, d0, c0⟩ := R.e0
  obtain ⟨f1, d1, c1⟩ := R.e1
  obtain ⟨f2, d2, c2⟩ := R.e2
  obtain ⟨f3, d3, c3⟩ := R.e3
  obtain ⟨f4, d4, c4⟩ := R.e4
  obtain ⟨f5, d5, c5⟩ := R.e5
  obtain ⟨f6, d6, c6⟩ := R.e6
  obtain ⟨q7, k7, m7, x7⟩ := R.e7
  obtain ⟨f8, d8, c8⟩ := R.e8
  obtain ⟨f9, d9, c9⟩ := R.e9
  have X := R.xs i hi
  refine ⟨_, pss_cons (ps_set (i := 1) scSorts.nd rfl (.inl rfl) (pe_lst (pa_cons (pe_callB call_isX (by rfl) B.ii b_ii (pa_cons (pv 0) (pa_cons (pe_glob (by rfl) c0.mg (v := .ref (C 0)) rfl) pa_nil)))
      (pa_cons (pe_callB call_isX (by rfl) B.ii b_ii (pa_cons (pv 0) (pa_cons (pe_glob (by rfl) c1.mg (v := .ref (C 1)) rfl) pa_nil)))
      (pa_cons (pe_callB call_isX (by rfl) B.ii b_ii (pa_cons (pv 0) (pa_cons (pe_glob (by rfl) c2.mg (v := .ref (C 2)) rfl) pa_nil)))
      (pa_cons (pe_callB call_isX (by rfl) B.ii b_ii (pa_cons (pv 0) (pa_cons (pe_glob (by rfl) c3.mg (v := .ref (C 3)) rfl) pa_nil))) pa_nil))))))
    (pss_cons (ps_set (i := 1) scSorts.nd rfl (.inl rfl) (pe_op op_cat (pv 1) (pe_lst (pa_cons (pe_callB call_isX (by rfl) B.ii b_ii (pa_cons (pv 0) (pa_cons (pe_glob (by rfl) c4.mg (v := .ref (C 4)) rfl) pa_nil)))
      (pa_cons (pe_callB call_isX (by rfl) B.ii b_ii (pa_cons (pv 0) (pa_cons (pe_glob (by rfl) c5.mg (v := .ref (C 5)) rfl) pa_nil)))
      (pa_cons (pe_callB call_isX (by rfl) B.ii b_ii (pa_cons (pv 0) (pa_cons (pe_glob (by rfl) c6.mg (v := .ref (C 6)) rfl) pa_nil)))
      (pa_cons (pe_callB call_isX (by rfl) B.ii b_ii (pa_cons (pv 0) (pa_cons (pe_glob (by rfl) m7 (v := .ref (C 7)) rfl) pa_nil))) pa_nil)))))))
    (pss_cons (ps_set (i := 1) scSorts.nd rfl (.inl rfl) (pe_op op_cat (pv 1) (pe_lst (pa_cons (pe_callB call_isX (by rfl) B.ii b_ii (pa_cons (pv 0) (pa_cons (pe_glob (by rfl) c8.mg (v := .ref (C 8)) rfl) pa_nil)))
      (pa_cons (pe_callB call_isX (by rfl) B.ii b_ii (pa_cons (pv 0) (pa_cons (pe_glob (by rfl) c9.mg (v := .ref (C 9)) rfl) pa_nil))) pa_nil)))))
    (pss_cons (ps_set (i := 2) scSorts.nd rfl (.inl rfl) (pe_callB call_isX (by rfl) B.ii b_ii (pa_cons (pv 0) (pa_cons (pe_glob (by rfl) R.mL (v := .ref L) rfl) pa_nil))))
    (pss_one (ps_ret (pe_tup (pa_cons (pv 1) (pa_cons (pe_lst (pa_cons (pv 2) (pa_cons (pe_and (pv 2) (pe_one (pe_callB call_isX (by rfl) B.ii b_ii (pa_cons (pv 0) (pa_cons (pe_bltn (by rfl) R.mV L2.boot_ValueError (v := .ty "ValueError") rfl) pa_nil)))))
      (pa_cons (pe_callB call_isX (by rfl) B.ii b_ii (pa_cons (pv 0) (pa_cons (pe_bltn (by rfl) R.mK L2.boot_KeyError (v := .ty "KeyError") rfl) pa_nil))) pa_nil)))) pa_nil)))))))), ?_⟩
  refine ⟨_, rfl, a, _, _, _, _, rfl, X, he, fun _ z => z, R.kit hi (by decide), ?_⟩
  refine ⟨_, rfl, a, _, _, _, _, rfl, X, he, fun _ z => z, R.kit hi (by decide), ?_⟩
  refine ⟨_, rfl, a, _, _, _, _, rfl, X, he, fun _ z => z, R.kit hi (by decide), ?_⟩
  refine ⟨_, rfl, a, _, _, _, _, rfl, X, he, fun _ z => z, R.kit hi (by decide), few (by simp), fun D1 h1 => ?_⟩
  have s1 := same_new (o := .lst [V.bl (decide (i = 0)), V.bl (decide (i = 1)), V.bl (decide (i = 2)), V.bl (decide (i = 3))]) h1
  have he1 := he.up s1
  refine ⟨_, rfl, ?_⟩
  refine ⟨_, rfl, a, _, _, _, _, rfl, X, he1, fun _ z => z, R.kit hi (by decide), ?_⟩
  refine ⟨_, rfl, a, _, _, _, _, rfl, X, he1, fun _ z => z, R.kit hi (by decide), ?_⟩
  refine ⟨_, rfl, a, _, _, _, _, rfl, X, he1, fun _ z => z, R.kit hi (by decide), ?_⟩
  refine ⟨_, rfl, a, _, _, _, _, rfl, X, he1, fun _ z => z, R.kit hi (by decide), few (by simp), fun D2 h2 => ?_⟩
  have s2 := same_new (o := .lst [V.bl (decide (i = 4)), V.bl (decide (i = 5)), V.bl (decide (i = 6)), V.bl (decide (i = 7))]) h2
  refine ⟨D1, D2, _, _, rfl, rfl, s2 _ _ upd_same, upd_same, few2 (by simp), fun D3 h3 => ?_⟩
  have s3 := same_new (o := .lst ([V.bl (decide (i = 0)), V.bl (decide (i = 1)), V.bl (decide (i = 2)), V.bl (decide (i = 3))] ++ [V.bl (decide (i = 4)), V.bl (decide (i = 5)), V.bl (decide (i = 6)), V.bl (decide (i = 7))])) h3
  have he3 := he1.up (s2.trans s3)
  refine ⟨_, rfl, ?_⟩
  refine ⟨_, rfl, a, _, _, _, _, rfl, X, he3, fun _ z => z, R.kit hi (by decide), ?_⟩
  refine ⟨_, rfl, a, _, _, _, _, rfl, X, he3, fun _ z => z, R.kit hi (by decide), few (by simp), fun D4 h4 => ?_⟩
  have s4 := same_new (o := .lst [V.bl (decide (i = 8)), V.bl (decide (i = 9))]) h4
  refine ⟨D3, D4, _, _, rfl, rfl, s4 _ _ upd_same, upd_same, few2 (by simp), fun D5 h5 => ?_⟩
  have s5 := same_new (o := .lst (([V.bl (decide (i = 0)), V.bl (decide (i = 1)), V.bl (decide (i = 2)), V.bl (decide (i = 3))] ++ [V.bl (decide (i = 4)), V.bl (decide (i = 5)), V.bl (decide (i = 6)), V.bl (decide (i = 7))]) ++ [V.bl (decide (i = 8)), V.bl (decide (i = 9))])) h5
  have he5 := he3.up (s4.trans s5)
  refine ⟨_, rfl, a, _, _, _, _, rfl, X, he5, fun _ z => z, R.kitL hi, ?_⟩
  have sA := s1.trans (s2.trans (s3.trans (s4.trans s5)))
  refine ⟨_, rfl, _, rfl, _, rfl, _, rfl, ?_⟩
  refine ite2 (fun c => ?_) (fun c => ?_)
  · refine ⟨_, rfl, a, _, _, _, _, rfl, X, he5, fun _ z => z, R.kitV hi, ?_⟩
    refine ⟨_, rfl, a, _, _, _, _, rfl, X, he5, fun _ z => z, R.kitK hi, few (by simp), fun D6 h6 => ?_⟩
    have s6 := same_new (o := .lst [V.bl (decide (i < 8)), V.bl (decide (i < 8)), V.bl (decide (7 < i))]) h6
    refine ⟨few (by simp), fun D7 h7 => ?_⟩
    have s7 := same_new (o := .tup [V.ref D5, V.ref D6]) h7
    exact q D7 D5 D6 _ (sA.trans (s6.trans s7)) upd_same ((s6.trans s7) _ _ upd_same) (s7 _ _ upd_same)
  · have e8 : decide (i < 8) = false := Bool.eq_false_iff.mpr c
    refine ⟨_, rfl, a, _, _, _, _, rfl, X, he5, fun _ z => z, R.kitK hi, few (by simp), fun D6 h6 => ?_⟩
    have el : [V.bl (decide (i < 8)), V.bl false, V.bl (decide (7 < i))] = [V.bl (decide (i < 8)), V.bl (decide (i < 8)), V.bl (decide (7 < i))] := by rw [e8]
    have s6 := same_new (o := .lst [V.bl (decide (i < 8)), V.bl false, V.bl (decide (7 < i))]) h6
    refine ⟨few (by simp), fun D7 h7 => ?_⟩
    have s7 := same_new (o := .tup [V.ref D5, V.ref D6]) h7
    exact q D7 D5 D6 _ (sA.trans (s6.trans s7)) upd_same ((s6.trans s7) _ _ upd_same) (s7 _ _ (upd_same.trans (congrArg (fun l => some (HO.lst l)) el)))
end
abbrev sCaught : Stmt := topS 20
theorem scCaught : FnScope ["_law_one", "_law_found", "_law_e"] ["_law_one"] (defScope sCaught) := ⟨rfl, rfl, rfl, by decide +kernel, rfl, by decide +kernel, by decide +kernel⟩
def spCaught : Sp := fun vs H Q _ => ∃ v, vs = [v] ∧ ∀ D H', Same H H' → H' D = some (.lst [v, v]) → Q (.ref D) H'
theorem EC.exm {P : Program} {w : World} {K : PySem.W.Frag} {mg : Str → Option Value} {base : Heap} {nm : Str} {ns ks : List Str} {C fI : Addr} {fd : FuncData} (c : EC P w K mg base nm ns ks C fI fd) {nm' : Str} {bm : List Value} {newId : String} (e : EL K C nm' bm newId) :
    PySem.W.exmOne K (.ref C) (.ref C) = some true :=
  PySem.W.exm_ref c.T.exC e.hd c.T.tyC (by rw [e.sub, List.contains_cons, vrr, decide_eq_true rfl, Bool.true_or])
theorem few1 {n : Nat} (h : n ≤ 1000) : n < sizeLine := small1000 h
/-- behind the making of an error that is raised -/
theorem flown {H1 H' : Hp} {a d : Addr} {o u : HO} (ha : H1 a = none) (hd : H1 d = none) (k : ∀ b v, b ≠ a → upd H1 a o b = some v → H' b = some v) : Same H1 (upd (L2.del H' a) d u) := fun b v z => by
  have na := ne_of_none z ha
  rw [upd_ne (ne_of_none z hd), L2.del_ne na]
  exact k b v na (by (rw [upd_ne na]; exact z))
section
variable {P : Program} {w : World} {K : PySem.W.Frag} {mg : Str → Option Value} {base : Heap} {L : Addr} {C : Nat → Addr} {f : Addr} {fd : FuncData}
theorem ok_caught {k : Nat} (F : Fun K "_law_caught" "_law_caught" sCaught f fd) (R : Ers P w K mg base L C) : FnOk P w K mg base CX0 (k + 3) f fd ["_law_one"] spCaught := by
  refine F.ok scCaught (fun vs H Q E h => ?_) (fun cdv A outer s H vs Q E hr h => ?_)
  · obtain ⟨v, rfl, _⟩ := h
    rfl
  obtain ⟨v, rfl, q⟩ := h
  obtain ⟨f4, d4, c4⟩ := R.e4
  obtain ⟨f8, d8, c8⟩ := R.e8
  obtain ⟨nm4, bm4, id4, l4, _⟩ := R.ls 4 (by decide)
  obtain ⟨nm8, bm8, id8, l8, _⟩ := R.ls 8 (by decide)
  have hr2 : Room (1 + 1) _ := hr.mono (by omega)
  refine ⟨_, pss_cons (ps_set (i := 1) scCaught.nd rfl (.inl rfl) (pe_lst pa_nil))
    (pss_cons (ps_try_as (i := 2) (ts := fun a cls d => tDrop (tBM K "list" rAppend (tVar 1) (tCons (tXf a cls d (C 4) "at" (tVar 2)) tNil))) rfl rfl scCaught.nd rfl rfl ⟨by rfl, by decide, .inl c4.mg⟩ takes0
      (fun W pn xe tk _ => pss_one (ps_raise rfl tk (pmk_exK c4.T c4.iC c4.tI c4.ok hr2 c4.bd pass0 (by rfl) c4.mg (pa_cons (pv 0) pa_nil))))
      (fun a oe cls d pn hz hf => pss_one (ps_expr (pe_bm PySem.F.plainAttrs_list PySem.F.slot_list_append PySem.F.type_list_append mt_append (pv 1) (pa_cons (pe_xf c4.X (c4.no "at" (by simp)) hz hf (pv 2)) pa_nil)))))
    (pss_cons (ps_try_as (i := 2) (ts := fun a cls d => tDrop (tBM K "list" rAppend (tVar 1) (tCons (tXf a cls d (C 8) "place" (tVar 2)) tNil))) rfl rfl scCaught.nd rfl rfl ⟨by rfl, by decide, .inl c8.mg⟩ takes0
      (fun W pn xe tk _ => pss_one (ps_raise rfl tk (pmk_exK c8.T c8.iC c8.tI c8.ok hr2 c8.bd pass0 (by rfl) c8.mg (pa_cons (pv 0) pa_nil))))
      (fun a oe cls d pn hz hf => pss_one (ps_expr (pe_bm PySem.F.plainAttrs_list PySem.F.slot_list_append PySem.F.type_list_append mt_append (pv 1) (pa_cons (pe_xf c8.X (c8.no "place" (by simp)) hz hf (pv 2)) pa_nil)))))
    (pss_one (ps_ret (pv 1))))), ?_⟩
  refine ⟨by decide, fun D hD => ?_⟩
  have s1 := same_new (o := .lst []) hD
  refine ⟨_, rfl, by (show 1 ≤ 1000); decide, fun a1 h1 => ⟨a1, [v], rfl, rfl, upd_same, fun x1 H1 n1 e1 E1 k1 => ⟨rfl, x1, [("at", v)], E1.1, E1.2, by (rw [upd_ne e1] at n1; exact n1), ?_⟩⟩⟩
  have m1 : upd H D (.lst []) x1 = none := by
    rw [upd_ne e1] at n1
    exact n1
  have f1 := flown (u := .xd [("at", v)]) h1 m1 k1
  refine ⟨true, c4.exm l4, fun _ b1 hb1 => ?_, fun z => nomatch z⟩
  have g1 := f1 _ _ upd_same
  refine ⟨_, rfl, .inl ⟨rfl, _, SqL.of g1⟩, _, rfl, rfl, rfl, x1, _, _, rfl, upd_same, lk1, D, _, _, rfl, rfl, g1, by decide, ?_⟩
  have s2 : Same H (upd (upd (L2.del H1 a1) x1 (.xd [("at", v)])) D (.lst ([] ++ [v]))) := fun b o z => by
    rw [upd_ne (ne_of_none z hD)]
    exact f1 b o (s1 b o z)
  refine ⟨_, rfl, by (show 1 ≤ 1000); decide, fun a2 h2 => ⟨a2, [v], rfl, rfl, upd_same, fun x2 H2 n2 e2 E2 k2 => ⟨rfl, x2, [("place", v)], E2.1, E2.2, by (rw [upd_ne e2] at n2; exact n2), ?_⟩⟩⟩
  have m2 : (upd (upd (L2.del H1 a1) x1 (.xd [("at", v)])) D (.lst ([] ++ [v]))) x2 = none := by
    rw [upd_ne e2] at n2
    exact n2
  have f2 := flown (u := .xd [("place", v)]) h2 m2 k2
  refine ⟨true, c8.exm l8, fun _ b2 hb2 => ?_, fun z => nomatch z⟩
  have g2 := f2 _ _ upd_same
  refine ⟨_, rfl, .inl ⟨rfl, _, SqL.of g2⟩, _, rfl, rfl, rfl, x2, _, _, rfl, upd_same, lk1, D, _, _, rfl, rfl, g2, few1 (by simp), ?_⟩
  refine ⟨_, rfl, q D _ (fun b o z => ?_) upd_same⟩
  rw [upd_ne (ne_of_none z hD)]
  exact f2 b o (s2 b o z)
end
abbrev sLaw : Stmt := topS 21
theorem scLaw : FnScope ["_law_script", "_law_box_here", "_law_turn", "_law_k", "_law_one", "_law_other", "_law_third", "_law_due", "_law_made_here", "_law_e", "_law_j"] ["_law_script"] (defScope sLaw) :=
  ⟨rfl, rfl, rfl, by decide +kernel, rfl, by decide +kernel, by decide +kernel⟩
def okD (d : PyData) : Prop := gd d = true ∧ nod d ≤ 16 ∧ d.depth ≤ 2
theorem okD_all : ∀ ds : List PyData, (∀ e ∈ ds, okD e) → gds ds = true ∧ nods ds ≤ 16 * ds.length ∧ PyData.depthAll ds ≤ 2
  | [], _ => ⟨by simp only [gds], by simp only [nods]; omega, by simp only [PyData.depthAll]; omega⟩
  | d :: ds, h => by
    have ih := okD_all ds fun e he => h e (List.mem_cons_of_mem _ he)
    have h0 := h d List.mem_cons_self
    refine ⟨by simp only [gds, h0.1, ih.1, Bool.and_self], ?_, ?_⟩
    · simp only [nods, List.length_cons]
      have := h0.2.1
      omega
    · simp only [PyData.depthAll]
      have := h0.2.2
      omega
theorem prn_list {ds : List PyData} (h : ∀ e ∈ ds, okD e) (hl : ds.length ≤ 12) : Prn (.list ds) := by
  have k := okD_all ds h
  exact prn_of (by simpa only [gd] using k.1) (by simp only [nod]; omega) (by simp only [PyData.depth]; omega)
theorem bls_dp {K : PySem.W.Frag} {H : Hp} : ∀ bs : List Bool, DpAll K H (bs.map V.bl) (bs.map PyData.bool)
  | [] => .nil
  | b :: bs => .cons (.bl b) (bls_dp bs)
theorem bls_ok : ∀ bs : List Bool, gds (bs.map PyData.bool) = true ∧ PyData.depthAll (bs.map PyData.bool) = 0 ∧ PyData.eqvAll (bs.map PyData.bool) (bs.map PyData.bool) = true
  | [] => ⟨by simp only [List.map_nil, gds], by simp only [List.map_nil, PyData.depthAll], by simp only [List.map_nil, PyData.eqvAll]⟩
  | b :: bs => by
    have ih := bls_ok bs
    exact ⟨by simp only [List.map_cons, gds, gd, ih.1, Bool.and_self], by simp only [List.map_cons, PyData.depthAll, PyData.depth, ih.2.1, Nat.max_self], by simp only [List.map_cons, PyData.eqvAll, PyData.eqv, ih.2.2, beq_self_eq_true, Bool.and_self]⟩
def sortD (bs cs : List Bool) : PyData := .tuple [.list (bs.map PyData.bool), .list (cs.map PyData.bool)]
theorem sortD_sh (bs cs : List Bool) : SeqAt.shaped (sortD bs cs) = true := by
  have h1 := bls_ok bs
  have h2 := bls_ok cs
  refine shaped_of (by simp only [sortD, gd, gds, h1.1, h2.1, Bool.and_self]) ?_
  simp only [sortD, PyData.depth, PyData.depthAll, h1.2.1, h2.2.1]
  omega
theorem sortD_eq (bs cs : List Bool) : PyData.eqv (sortD bs cs) (sortD bs cs) = true := by
  simp only [sortD, PyData.eqv, PyData.eqvAll, (bls_ok bs).2.2, (bls_ok cs).2.2, Bool.and_self]
theorem int_dec (i j : Nat) : decide (V.int ((i : Nat) : Int) = V.int (0 + (j : Nat))) = decide (i = j) := by
  by_cases h : i = j
  · rw [h, decide_eq_true rfl, decide_eq_true]
    rw [Int.zero_add]
  · rw [decide_eq_false h, decide_eq_false fun z => h ?_]
    have := V.int.inj z
    omega
theorem TenAt.err {C : Nat → Addr} {v1 v2 v3 : V} {H : Hp} {D : Addr} {a d : Nat → Addr} (t : TenAt C v1 v2 v3 H D a d) : ∀ i, i < 10 → ErrAt H (C i) (a i)
  | 0, _ => t.e0.at
  | 1, _ => t.e1.at
  | 2, _ => t.e2.at
  | 3, _ => t.e3.at
  | 4, _ => t.e4.at
  | 5, _ => t.e5.at
  | 6, _ => t.e6.at
  | 7, _ => .inl t.e7
  | 8, _ => t.e8.at
  | 9, _ => t.e9.at
  | n + 10, h => absurd h (by omega)
theorem ten_get {a : Nat → Addr} : ∀ i : Nat, i < 10 → ([.ref (a 0), .ref (a 1), .ref (a 2), .ref (a 3), .ref (a 4), .ref (a 5), .ref (a 6), .ref (a 7), .ref (a 8), .ref (a 9)] : List V)[i]? = some (.ref (a i))
  | 0, _ => rfl
  | 1, _ => rfl
  | 2, _ => rfl
  | 3, _ => rfl
  | 4, _ => rfl
  | 5, _ => rfl
  | 6, _ => rfl
  | 7, _ => rfl
  | 8, _ => rfl
  | 9, _ => rfl
  | n + 10, h => absurd h (by omega)
def spLaw (K : PySem.W.Frag) : Sp := fun vs H Q _ => ∃ (a : Addr) (ns : List Int), vs = [.ref a] ∧ SqL K H a (ns.map V.int) ∧ ns.length ≤ 63 ∧ ∀ H', Q (.bl true) H'
section
variable {P : Program} {w : World} {K : PySem.W.Frag} {mg : Str → Option Value} {base : Heap} {L : Addr} {C : Nat → Addr}
theorem ok_law {f fB fT fV fM fN fK fS fC : Addr} {fd dB dT dV dM dN dK dS dC : FuncData} (F : Fun K "law" "law" sLaw f fd) (B : Bi mg) (hen : mg "enumerate" = none) (R : Ers P w K mg base L C)
    (GB : Dn P w K mg base 1 "_law_box" ["_law_script", "_law_base"] (spBox K) fB dB) (T : Tk P w K mg base fT dT)
    (GV : Dn P w K mg base 5 "_law_thing" ["_law_box_here", "_law_deep"] (spThing K 3) fV dV)
    (GM : Dn P w K mg base 3 "_law_made" ["_law_one", "_law_other", "_law_third"] (spMade C) fM dM)
    (GN : Dn P w K mg base 3 "_law_named" ["_law_one", "_law_other", "_law_third"] (spMade C) fN dN)
    (GK : Dn P w K mg base 1 "_law_kept" ["_law_made_here"] (spKept C) fK dK)
    (GS : Dn P w K mg base 1 "_law_sorts" ["_law_e"] (spSorts C) fS dS)
    (GC : Dn P w K mg base 3 "_law_caught" ["_law_one"] spCaught fC dC) :
    FnG P w K mg base CX0 6 f fd ["_law_script"] (spLaw K) := by
  refine okG F scLaw (fun vs H Q E h => ?_) (fun cdv A outer s H vs Q E hgd hr h => ?_)
  · obtain ⟨a, ns, rfl, _⟩ := h
    rfl
  obtain ⟨a, ns, rfl, hS, hlen, q⟩ := h
  have hr1 : Room 1 _ := hr.mono (by decide)
  have hr3 : Room 3 _ := hr.mono (by decide)
  refine ⟨_, pss_cons (ps_set (i := 1) scLaw.nd rfl (.inr rfl) (pe_call GB.ok hr1 (by rfl) GB.mg GB.kp GB.bd .nil pass0 (pa_cons (pv 0) (pa_cons pe_int pa_nil))))
    (pss_cons (ps_for PassesOwn.never rfl (pi_range1 (by rfl) B.rng (pa_cons pe_int pa_nil)) (pg_name (i := 2) scLaw.nd rfl (.inl rfl))
      (pss_cons (ps_asg (pe_lc (own := [("_law_k", 3)]) (g := gName 3) (by rfl) scLaw.nd
          (pi_range1 (by rfl) B.rng (pa_cons pe_int pa_nil))
          (blkOk_by (own := [("_law_k", 3)]) (N := ["_law_script", "_law_box_here", "_law_turn", "_law_k", "_law_one", "_law_other", "_law_third", "_law_due", "_law_made_here", "_law_e", "_law_j"]) (sc := defScope sLaw) (by decide +kernel))
          (fun _ _ _ _ _ => pg_name (i := 3) scLaw.nd rfl (Or.inl rfl)) (fun _ _ _ _ _ => pts_nil)
          (fun _ _ _ _ _ => pe_call GV.ok hr (by rfl) GV.mg GV.kp GV.bd .nil pass0 (pa_cons (pv 1) (pa_cons pe_int pa_nil))))
        (pg_lst (by rfl) (pgs_cons (pg_name (i := 4) scLaw.nd rfl (.inl rfl)) (pgs_cons (pg_name (i := 5) scLaw.nd rfl (.inl rfl)) (pgs_cons (pg_name (i := 6) scLaw.nd rfl (.inl rfl)) pgs_nil)))))
      (pss_cons (ps_set (i := 7) scLaw.nd rfl (.inl rfl) (pe_op op_cat (pe_lst (pa_cons (pv 4) (pa_cons (pv 5) (pa_cons (pv 6) (pa_cons (pv 4) (pa_cons (pv 5) pa_nil)))))) (pe_op op_rep (pe_lst (pa_cons (pv 4) pa_nil)) pe_int)))
      (pss_cons (ps_for PassesOwn.never rfl (pi_tup (pe_tup (pa_cons (pe_call GM.ok hr3 (by rfl) GM.mg GM.kp GM.bd .nil pass0 (pa_cons (pv 4) (pa_cons (pv 5) (pa_cons (pv 6) pa_nil))))
            (pa_cons (pe_call GN.ok hr3 (by rfl) GN.mg GN.kp GN.bd .nil pass0 (pa_cons (pv 4) (pa_cons (pv 5) (pa_cons (pv 6) pa_nil)))) pa_nil)))) (pg_name (i := 8) scLaw.nd rfl (.inl rfl))
        (pss_cons (ps_if (pt_cmpR op_ne (pe_callB (call_rep hgd hr.units) (by rfl) B.rep b_rep (pa_cons (pe_call GK.ok hr1 (by rfl) GK.mg GK.kp GK.bd .nil pass0 (pa_cons (pv 8) pa_nil)) pa_nil))
            (pe_callB (call_rep hgd hr.units) (by rfl) B.rep b_rep (pa_cons (pv 7) pa_nil)) (nomark _)) (pss_one (ps_ret pe_bl)) pss_nil)
        (pss_one (ps_for PassesOwn.never rfl (pi_enum (by rfl) hen (pa_cons (pv 8) pa_nil)) (pg_tup (by rfl) (pgs_cons (pg_name (i := 3) scLaw.nd rfl (.inr rfl)) (pgs_cons (pg_name (i := 9) scLaw.nd rfl (.inl rfl)) pgs_nil)))
          (pss_one (ps_if (pt_cmpR (op_neD hr.units) (pe_call GS.ok hr1 (by rfl) GS.mg GS.kp GS.bd .nil pass0 (pa_cons (pv 9) pa_nil))
            (pe_tup (pa_cons (pe_lc (own := [("_law_j", 10)]) (g := gName 10) (by rfl) scLaw.nd (pi_range1 (by rfl) B.rng (pa_cons pe_int pa_nil))
              (blkOk_by (own := [("_law_j", 10)]) (N := ["_law_script", "_law_box_here", "_law_turn", "_law_k", "_law_one", "_law_other", "_law_third", "_law_due", "_law_made_here", "_law_e", "_law_j"]) (sc := defScope sLaw) (by decide +kernel))
              (fun _ _ _ _ _ => pg_name (i := 10) scLaw.nd rfl (Or.inl rfl)) (fun _ _ _ _ _ => pts_nil)
              (fun _ _ _ _ _ => pe_cmpR op_eq (pv 3) (pv 10) (nomark _)))
              (pa_cons (pe_lst (pa_cons (pe_cmpR op_lt (pv 3) pe_int (nomark _)) (pa_cons (pe_cmpR op_lt (pv 3) pe_int (nomark _)) (pa_cons (pe_cmpR op_gt (pv 3) pe_int (nomark _)) pa_nil)))) pa_nil))) (nomark _)) (pss_one (ps_ret pe_bl)) pss_nil))))))
      (pss_one (ps_if (pt_cmpR op_ne (pe_callB (call_rep hgd hr.units) (by rfl) B.rep b_rep (pa_cons (pe_call GC.ok hr3 (by rfl) GC.mg GC.kp GC.bd .nil pass0 (pa_cons (pv 4) pa_nil)) pa_nil))
            (pe_callB (call_rep hgd hr.units) (by rfl) B.rep b_rep (pa_cons (pe_op op_rep (pe_lst (pa_cons (pv 4) pa_nil)) pe_int) pa_nil)) (nomark _)) (pss_one (ps_ret pe_bl)) pss_nil))))))
    (pss_one (ps_ret pe_bl))), ?_⟩
  refine ⟨_, rfl, a, ns, 0, rfl, hS, hlen, Int.le_refl _, by decide, fun p g H1 b1 s1 np ng => ?_⟩
  refine ⟨3, rfl, by decide, by decide, for_range (n := 3) (fun i σ H2 => ∃ o2 o3 o4 o5 o6 o7 o8 o9, σ = [some (.ref a), some (.ref p), o2, o3, o4, o5, o6, o7, o8, o9, none] ∧ Box H2 p g) ⟨none, none, none, none, none, none, none, none, rfl, b1⟩ ?_ ?_⟩
  · rintro i σ H2 hi ⟨o2, o3, o4, o5, o6, o7, o8, o9, rfl, b2⟩
    refine ⟨3, rfl, by decide, by decide, fun D hD => ?_⟩
    have nD := b2.notin hD
    refine lc_range (lo := 0) (n := 3) (fun i H4 => ∃ (vs : List V) (ds : List PyData), vs.length = i ∧ H4 D = some (.lst vs) ∧ DpAll K (cut [D, p, g] H4) vs ds ∧ (∀ e ∈ ds, okD e) ∧ Box H4 p g) ⟨[], [], rfl, upd_same, .nil, fun _ z => (List.not_mem_nil z).elim, b2.put nD⟩ ?_ ?_
    · rintro i H4 hi ⟨vs, ds, lv, h1, dv, ok, b4⟩
      have tr : Tr [D, p, g] H4 := fun b hb => by
        have t := b4.tr
        simp only [List.mem_cons, List.not_mem_nil, or_false] at hb
        rcases hb with h | h | h
        · rw [h, h1]; exact fun z => nomatch z
        · rw [h]; exact t.1
        · rw [h]; exact t.2
      refine ⟨rfl, _, rfl, p, g, 2, [D, p, g], rfl, b4, by decide, by decide, tr, fun v d H5 b5 off5 dp5 gd5 de5 no5 => ?_⟩
      have put5 : Off [D, p, g] H5 (upd H5 D (.lst (vs ++ [v]))) := Off.put (by simp)
      have off6 : Off [D, p, g] H4 H5 := off5.mono fun b hb => List.mem_cons_of_mem _ hb
      refine ⟨_, off5.get h1 nD, few (by omega), vs ++ [v], ds ++ [d], by rw [List.length_append, List.length_singleton, lv], upd_same, DpAll.app (Dp.ups (off6.trans put5) _ _ dv) (.cons (Dp.up put5 _ _ dp5) .nil), fun e he => ?_, b5.put nD⟩
      rcases List.mem_append.mp he with h | h
      · exact ok e h
      · rw [List.mem_singleton.mp h]
        exact ⟨gd5, no5, by omega⟩
    rintro H4 ⟨vs, ds, lv, h1, dv, ok, b4⟩
    have dv := Dp.ups (cut_same _ _) _ _ dv
    obtain ⟨v1, v2, v3, rfl⟩ : ∃ v1 v2 v3, vs = [v1, v2, v3] := match vs, lv with
      | [v1, v2, v3], _ => ⟨v1, v2, v3, rfl⟩
    obtain ⟨d1, d2, d3, rfl, dp1, dp2, dp3⟩ : ∃ d1 d2 d3, ds = [d1, d2, d3] ∧ Dp K H4 v1 d1 ∧ Dp K H4 v2 d2 ∧ Dp K H4 v3 d3 := by
      cases dv with
      | cons x1 r => cases r with
        | cons x2 r => cases r with
          | cons x3 r => cases r; exact ⟨_, _, _, rfl, x1, x2, x3⟩
    have ok1 := ok d1 (by simp)
    have ok2 := ok d2 (by simp)
    have ok3 := ok d3 (by simp)
    refine ⟨D, _, rfl, SqL.of h1, rfl, _, _, rfl, _, _, rfl, _, _, rfl, rfl, ?_⟩
    -- what is due
    refine ⟨_, rfl, _, rfl, _, rfl, _, rfl, _, rfl, few (by simp), fun T1 hT1 => ⟨_, rfl, few (by simp), fun T2 hT2 => ⟨T2, 7, _, rfl, rfl, upd_same, by decide, by decide, few (by simp), fun T3 hT3 => ?_⟩⟩⟩
    have g1 := same_new (o := .lst [v1, v2, v3, v1, v2]) hT1
    have g2 := same_new (o := .lst [v1]) hT2
    have g3 := same_new (o := .lst (List.replicate (7 : Int).toNat [v1]).flatten) hT3
    refine ⟨T1, T3, _, _, rfl, rfl, (g2.trans g3) _ _ upd_same, upd_same, few2 (by simp), fun T4 hT4 => ?_⟩
    have g4 := same_new (o := .lst ([v1, v2, v3, v1, v2] ++ (List.replicate (7 : Int).toNat [v1]).flatten)) hT4
    have hdue : (upd (upd (upd (upd H4 T1 (.lst [v1, v2, v3, v1, v2])) T2 (.lst [v1])) T3 (.lst (List.replicate (7 : Int).toNat [v1]).flatten)) T4 (.lst ([v1, v2, v3, v1, v2] ++ (List.replicate (7 : Int).toNat [v1]).flatten))) T4 = some (.lst [v1, v2, v3, v1, v2, v1, v1, v1, v1, v1, v1, v1]) := upd_same
    have gA := g1.trans (g2.trans (g3.trans g4))
    have dD : ∀ {H : Hp}, Same H4 H → DpAll K H [v1, v2, v3, v1, v2, v1, v1, v1, v1, v1, v1, v1] [d1, d2, d3, d1, d2, d1, d1, d1, d1, d1, d1, d1] := fun {H} s => by
      have x1 := Dp.up s _ _ dp1
      have x2 := Dp.up s _ _ dp2
      have x3 := Dp.up s _ _ dp3
      exact .cons x1 (.cons x2 (.cons x3 (.cons x1 (.cons x2 (.cons x1 (.cons x1 (.cons x1 (.cons x1 (.cons x1 (.cons x1 (.cons x1 .nil)))))))))))
    have pD : Prn (.list [d1, d2, d3, d1, d2, d1, d1, d1, d1, d1, d1, d1]) := prn_list (fun e he => by
      simp only [List.mem_cons, List.not_mem_nil, or_false] at he
      rcases he with h | h | h | h | h | h | h | h | h | h | h | h <;> rw [h] <;> assumption) (by simp)
    refine ⟨_, rfl, _, rfl, _, rfl, v1, v2, v3, rfl, fun DA aA xA HA sA tA => ?_⟩
    refine ⟨_, rfl, _, rfl, _, rfl, v1, v2, v3, rfl, fun DB aB xB HB sB tB => ⟨few (by simp), fun T5 hT5 => ?_⟩⟩
    have g5 := same_new (o := .tup [.ref DA, .ref DB]) hT5
    have sL := sA.trans (sB.trans g5)
    have tA5 := tA.up (sB.trans g5)
    have tB5 := tB.up g5
    have hd5 := sL _ _ hdue
    have s45 := gA.trans sL
    have h55 : (upd HB T5 (.tup [.ref DA, .ref DB])) T5 = some (.tup [.ref DA, .ref DB]) := upd_same
    generalize hHL : upd HB T5 (.tup [.ref DA, .ref DB]) = HL at tA5 tB5 hd5 s45 h55
    refine ⟨T5, rfl, ⟨_, .inl (.inl h55)⟩, for_tup (K := K) (a := T5) (xs := [.ref DA, .ref DB]) (fun _ σ H6 => ∃ o2 o3 o8 o9, σ = [some (.ref a), some (.ref p), o2, o3, some v1, some v2, some v3, some (.ref T4), o8, o9, none] ∧ Same HL H6)
      ⟨_, _, _, _, rfl, Same.refl _⟩ (fun _ σ H6 _ ⟨_, _, _, _, _, h⟩ => .inl (.inl (h _ _ h55))) ?_ ?_⟩
    · rintro m y σ H6 hy ⟨o2, o3, o8, o9, rfl, s6⟩
      obtain ⟨Dm, am, xm, rfl, tm⟩ : ∃ Dm am xm, y = .ref Dm ∧ TenAt C v1 v2 v3 HL Dm am xm := by
        match m, hy with
        | 0, hy => exact ⟨DA, _, _, (Option.some.inj hy).symm, tA5⟩
        | 1, hy => exact ⟨DB, _, _, (Option.some.inj hy).symm, tB5⟩
      have t6 := tm.up s6
      refine ⟨_, rfl, Dm, v1, v2, v3, am, xm, rfl, t6, fun D7 H7 s7 h7 => ?_⟩
      have s47 := s45.trans (s6.trans s7)
      refine ⟨_, .list [d1, d2, d3, d1, d2, d1, d1, d1, d1, d1, d1, d1], rfl, .lst (SqL.of h7) (dD s47), pD, ?_⟩
      refine ⟨_, rfl, _, .list [d1, d2, d3, d1, d2, d1, d1, d1, d1, d1, d1, d1], rfl, .lst (SqL.of ((s6.trans s7) _ _ hd5)) (dD s47), pD, rfl, _, rfl, ?_⟩
      rw [decide_eq_true rfl]
      refine iteF ?_
      have t7 := tm.up (s6.trans s7)
      refine ⟨_, rfl, Dm, _, rfl, SqL.of t7.l, for_it (walk_enum (K := K) (a := Dm) (xs := [.ref (am 0), .ref (am 1), .ref (am 2), .ref (am 3), .ref (am 4), .ref (am 5), .ref (am 6), .ref (am 7), .ref (am 8), .ref (am 9)]))
        (fun _ σ H8 => ∃ o2 o3 o8 o9, σ = [some (.ref a), some (.ref p), o2, o3, some v1, some v2, some v3, some (.ref T4), o8, o9, none] ∧ Same HL H8)
        ⟨_, _, _, _, rfl, s6.trans s7⟩ (fun _ σ H8 _ ⟨_, _, _, _, _, h⟩ => SqL.of (h _ _ tm.l)) ?_ ?_⟩
      · rintro i x σ H8 H9 hi ⟨o2, o3, o8, o9, rfl, s8⟩ ⟨T9, ki, vi, rfl, n9, rfl, hk, hv⟩
        have hi : i < 10 := hi
        have ek := Option.some.inj hk
        subst ek
        have ev := Option.some.inj ((ten_get (a := am) i hi).symm.trans hv)
        subst ev
        have s9 := s8.trans (same_new (o := .tup [.int (i : Nat), .ref (am i)]) n9)
        refine ⟨T9, _, rfl, .inl (.inl upd_same), rfl, _, _, rfl, _, _, rfl, rfl, ?_⟩
        refine ⟨_, rfl, am i, i, rfl, hi, (tm.up s9).err i hi, fun E0' E1 E2 H10 s10 e0 e1 e2 => ?_⟩
        refine ⟨10, rfl, by decide, by decide, fun D3 hD3 => ?_⟩
        refine lc_range (lo := 0) (n := 10) (fun j H11 => H11 D3 = some (.lst ((List.range j).map fun j' => V.bl (decide (i = j')))) ∧ Same H10 H11) ⟨upd_same, same_new hD3 _⟩ ?_ ?_
        · rintro j H11 hj ⟨h1, h2⟩
          refine ⟨rfl, _, rfl, _, rfl, rfl, ?_⟩
          rw [int_dec]
          refine ⟨_, h1, few2 (by rw [List.length_map, List.length_range]; omega), ?_, fun b o z => ?_⟩
          · rw [upd_same, List.range_succ, List.map_append]
            rfl
          · rw [upd_ne (ne_of_none z hD3)]
            exact h2 b o z
        · rintro H11 ⟨h1, h2⟩
          refine ⟨_, rfl, _, _, rfl, rfl, _, rfl, _, _, rfl, rfl, _, rfl, _, _, rfl, rfl, few (by simp), fun D4 hD4 => ⟨few (by simp), fun D5 hD5 => ?_⟩⟩
          have c8 : decide (((i : Nat) : Int) < 8) = decide (i < 8) := decide_eq_decide.mpr (by omega)
          have c7 : decide ((7 : Int) < ((i : Nat) : Int)) = decide (7 < i) := decide_eq_decide.mpr (by omega)
          have el : ([V.bl (decide (((i : Nat) : Int) < 8)), V.bl (decide (((i : Nat) : Int) < 8)), V.bl (decide ((7 : Int) < ((i : Nat) : Int)))] : List V) = [decide (i < 8), decide (i < 8), decide (7 < i)].map V.bl := by
            rw [c8, c7]
            rfl
          have z4 := same_new (o := .lst [V.bl (decide (((i : Nat) : Int) < 8)), V.bl (decide (((i : Nat) : Int) < 8)), V.bl (decide ((7 : Int) < ((i : Nat) : Int)))]) hD4
          have z5 := same_new (o := .tup [V.ref D3, V.ref D4]) hD5
          have z45 := z4.trans z5
          have zz := h2.trans z45
          have mm : ((List.range 10).map fun j' => V.bl (decide (i = j'))) = ((List.range 10).map fun j' => decide (i = j')).map V.bl := by rw [List.map_map]; rfl
          refine ⟨sortD ((List.range 10).map fun j' => decide (i = j')) [decide (i < 8), decide (i < 8), decide (7 < i)], sortD ((List.range 10).map fun j' => decide (i = j')) [decide (i < 8), decide (i < 8), decide (7 < i)], ?_, ?_, sortD_sh _ _, sortD_sh _ _, _, rfl, ?_⟩
          · exact .tup (.inl (.inl (zz _ _ e0))) (.cons (.lst (SqL.of (zz _ _ (e1.trans (by rw [mm])))) (bls_dp _)) (.cons (.lst (SqL.of (zz _ _ e2)) (bls_dp [decide (i < 8), decide (i < 8), decide (7 < i)])) .nil))
          · exact .tup (.inl (.inl upd_same)) (.cons (.lst (SqL.of (z45 _ _ (h1.trans (by rw [mm])))) (bls_dp _)) (.cons (.lst (SqL.of (z5 _ _ (upd_same.trans (congrArg (fun l => some (HO.lst l)) el)))) (bls_dp [decide (i < 8), decide (i < 8), decide (7 < i)])) .nil))
          · rw [sortD_eq]
            exact iteF ⟨_, _, _, _, rfl, s9.trans (s10.trans zz)⟩
      · rintro σ H8 ⟨o2, o3, o8, o9, rfl, s8⟩
        exact ⟨_, _, _, _, rfl, s8⟩
    · rintro σ H6 ⟨o2, o3, o8, o9, rfl, s6⟩
      refine ⟨_, rfl, v1, rfl, fun D7 H7 s7 h7 => ?_⟩
      have s47 := s45.trans (s6.trans s7)
      have x1 := Dp.up s47 _ _ dp1
      have p2 : Prn (.list [d1, d1]) := prn_list (fun e he => by
        simp only [List.mem_cons, List.not_mem_nil, or_false] at he
        rcases he with h | h <;> rw [h] <;> assumption) (by simp)
      refine ⟨_, .list [d1, d1], rfl, .lst (SqL.of h7) (.cons x1 (.cons x1 .nil)), p2, ?_⟩
      refine ⟨_, rfl, few (by simp), fun D8 hD8 => ⟨D8, 2, _, rfl, rfl, upd_same, by decide, by decide, few (by simp), fun D9 hD9 => ?_⟩⟩
      have g8 := same_new (o := .lst [v1]) hD8
      have g9 := same_new (o := .lst (List.replicate (2 : Int).toNat [v1]).flatten) hD9
      have x2 := Dp.up (g8.trans g9) _ _ x1
      refine ⟨_, .list [d1, d1], rfl, .lst (SqL.of upd_same) (.cons x2 (.cons x2 .nil)), p2, rfl, _, rfl, ?_⟩
      rw [decide_eq_true rfl]
      exact iteF ⟨_, _, _, _, _, _, _, _, rfl, b4.same (s45.trans (s6.trans (s7.trans (g8.trans g9))))⟩
  · rintro σ H2 ⟨o2, o3, o4, o5, o6, o7, o8, o9, rfl, b2⟩
    exact q H2
end
theorem all_mk {l : PySem.W.OpenLaw} {w : World} {K : PySem.W.Frag} {h : Heap} {mg : Str → Option Value} {fa f1 f2 f3 f4 f5 f6 f7 f8 f9 : Addr} (X : K.In h) (G : h.Ns mainGlobals mg) (hfa : mg "law" = some (.ref fa))
    {L : Addr} {C0 C1 C2 C3 C4 C5 C6 C7 C8 C9 : Addr} {g0 g1 g2 g3 g4 g5 g6 g8 g9 : Addr}
    {xq0 xq1 xq2 xq3 xq4 xq5 xq6 xq7 xq8 xq9 xqL : Str} {xN0 xN1 xN2 xN3 xN4 xN5 xN6 xN7 xN8 xN9 xNL : Addr} {xb0 xb1 xb2 xb3 xb4 xb5 xb6 xb7 xb8 xb9 xbL : List Value} {xs0 xs1 xs2 xs3 xs4 xs5 xs6 xs7 xs8 xs9 xsL : List Str} {xu0 xu1 xu2 xu3 xu4 xu5 xu6 xu7 xu8 xu9 xuL : List Value} {xa0 xa1 xa2 xa3 xa4 xa5 xa6 xa7 xa8 xa9 xaL : Bool} {xc0 xc1 xc2 xc3 xc4 xc5 xc6 xc7 xc8 xc9 xcL : Option Bool} {xd0 xd1 xd2 xd3 xd4 xd5 xd6 xd7 xd8 xd9 xdL : Option Addr}
    {xk0_0 xk0_1 xk0_2 xk0_3 xk0_5 xk1_0 xk1_1 xk1_2 xk1_3 xk1_5 xk2_0 xk2_1 xk2_2 xk2_3 xk2_5 xk3_0 xk3_1 xk3_2 xk3_3 xk3_5 xk4_0 xk4_1 xk4_2 xk4_3 xk4_5 xk5_0 xk5_1 xk5_2 xk5_3 xk5_5 xk6_0 xk6_1 xk6_2 xk6_3 xk6_5 xk7_0 xk7_1 xk7_2 xk7_3 xk7_5 xk8_0 xk8_1 xk8_2 xk8_3 xk8_5 xk9_0 xk9_1 xk9_2 xk9_3 xk9_5 xkL_0 xkL_1 xkL_2 xkL_3 xkL_5 : Option Value}
    {od0' an0' od1' an1' od2' an2' od3' an3' od4' an4' od5' an5' od6' an6' od8' an8' od9' an9' : Option Addr} {sl0' sl1' sl2' sl3' sl4' sl5' sl6' sl8' sl9' : Array (Option Value)} {ou0 kV0' dc0' pm0' cd0' ct0' ou1 kV1' dc1' pm1' cd1' ct1' ou2 kV2' dc2' pm2' cd2' ct2' ou3 kV3' dc3' pm3' cd3' ct3' ou4 kV4' dc4' pm4' cd4' ct4' ou5 kV5' dc5' pm5' cd5' ct5' ou6 kV6' dc6' pm6' cd6' ct6' ou8 kV8' dc8' pm8' cd8' ct8' ou9 kV9' dc9' pm9' cd9' ct9' : Value}
    {od1 an1 od2 an2 od3 an3 od4 an4 od5 an5 od6 an6 od7 an7 od8 an8 od9 an9 : Option Addr} {sl1 sl2 sl3 sl4 sl5 sl6 sl7 sl8 sl9 : Array (Option Value)} {oc1 kV1 dc1 pm1 cd1 ct1 oc2 kV2 dc2 pm2 cd2 ct2 oc3 kV3 dc3 pm3 cd3 ct3 oc4 kV4 dc4 pm4 cd4 ct4 oc5 kV5 dc5 pm5 cd5 ct5 oc6 kV6 dc6 pm6 cd6 ct6 oc7 kV7 dc7 pm7 cd7 ct7 oc8 kV8 dc8 pm8 cd8 ct8 oc9 kV9 dc9 pm9 cd9 ct9 : Value}
    (aL : PySem.W.nsIn K mainGlobals "LoreError" = some (some (.ref L)))
    (lL : K.lookup L = some (excClassObj "LoreError" xqL L xNL xbL veT true xsL xuL xaL xcL xdL xkL_0 xkL_1 xkL_2 xkL_3 xkL_5 "ValueError.__new__"))
    (aC0 : PySem.W.nsIn K mainGlobals "NoBook" = some (some (.ref C0)))
    (lC0 : K.lookup C0 = some (excClassObj "NoBook" xq0 C0 xN0 xb0 (.ref L :: veT) true xs0 xu0 xa0 xc0 xd0 xk0_0 xk0_1 xk0_2 xk0_3 xk0_5 "ValueError.__new__"))
    (ga0 : PySem.W.findIn K (.ref C0) "__getattribute__" = some (some (.builtin "BaseException.__getattribute__")))
    (gg0 : PySem.W.findIn K (.ref C0) "__getattr__" = some none)
    (ha0 : PySem.W.findIn K (.ref C0) "__class__" = some (some (.builtin "object.__class__")))
    (sa0 : PySem.W.findIn K (.ref C0) "__setattr__" = some (some (.builtin "object.__setattr__")))
    (kc0 : PySem.W.keepIn K (.ref C0) = true)
    (am0 : PySem.W.findIn K (.ref C0) "__init__" = some (some (.ref g0)))
    (im0 : PySem.W.typeIn K (.ref g0) = some (.type "function"))
    (lm0 : K.lookup g0 = some ⟨ou0, od0', .func (PySem.W.fnOf "__init__" "NoBook.__init__" (defArgs sI3) (defBody sI3) (defScope sI3) .none kV0' dc0' pm0' an0' cd0' ct0'), sl0'⟩)
    (cm0 : PySem.W.codeIn K cd0' "NoBook.__init__" = true)
    (km0 : PySem.W.keepIn K (.ref g0) = true)
    (no0_0 : PySem.W.findIn K (.ref C0) "word" = some none)
    (no0_1 : PySem.W.findIn K (.ref C0) "name" = some none)
    (no0_2 : PySem.W.findIn K (.ref C0) "path" = some none)
    (aC1 : PySem.W.nsIn K mainGlobals "NoSheet" = some (some (.ref C1)))
    (lC1 : K.lookup C1 = some (excClassObj "NoSheet" xq1 C1 xN1 xb1 (.ref L :: veT) true xs1 xu1 xa1 xc1 xd1 xk1_0 xk1_1 xk1_2 xk1_3 xk1_5 "ValueError.__new__"))
    (ga1 : PySem.W.findIn K (.ref C1) "__getattribute__" = some (some (.builtin "BaseException.__getattribute__")))
    (gg1 : PySem.W.findIn K (.ref C1) "__getattr__" = some none)
    (ha1 : PySem.W.findIn K (.ref C1) "__class__" = some (some (.builtin "object.__class__")))
    (sa1 : PySem.W.findIn K (.ref C1) "__setattr__" = some (some (.builtin "object.__setattr__")))
    (kc1 : PySem.W.keepIn K (.ref C1) = true)
    (am1 : PySem.W.findIn K (.ref C1) "__init__" = some (some (.ref g1)))
    (im1 : PySem.W.typeIn K (.ref g1) = some (.type "function"))
    (lm1 : K.lookup g1 = some ⟨ou1, od1', .func (PySem.W.fnOf "__init__" "NoSheet.__init__" (defArgs sI4) (defBody sI4) (defScope sI4) .none kV1' dc1' pm1' an1' cd1' ct1'), sl1'⟩)
    (cm1 : PySem.W.codeIn K cd1' "NoSheet.__init__" = true)
    (km1 : PySem.W.keepIn K (.ref g1) = true)
    (no1_0 : PySem.W.findIn K (.ref C1) "word" = some none)
    (no1_1 : PySem.W.findIn K (.ref C1) "name" = some none)
    (aC2 : PySem.W.nsIn K mainGlobals "NoText" = some (some (.ref C2)))
    (lC2 : K.lookup C2 = some (excClassObj "NoText" xq2 C2 xN2 xb2 (.ref L :: veT) true xs2 xu2 xa2 xc2 xd2 xk2_0 xk2_1 xk2_2 xk2_3 xk2_5 "ValueError.__new__"))
    (ga2 : PySem.W.findIn K (.ref C2) "__getattribute__" = some (some (.builtin "BaseException.__getattribute__")))
    (gg2 : PySem.W.findIn K (.ref C2) "__getattr__" = some none)
    (ha2 : PySem.W.findIn K (.ref C2) "__class__" = some (some (.builtin "object.__class__")))
    (sa2 : PySem.W.findIn K (.ref C2) "__setattr__" = some (some (.builtin "object.__setattr__")))
    (kc2 : PySem.W.keepIn K (.ref C2) = true)
    (am2 : PySem.W.findIn K (.ref C2) "__init__" = some (some (.ref g2)))
    (im2 : PySem.W.typeIn K (.ref g2) = some (.type "function"))
    (lm2 : K.lookup g2 = some ⟨ou2, od2', .func (PySem.W.fnOf "__init__" "NoText.__init__" (defArgs sI2) (defBody sI2) (defScope sI2) .none kV2' dc2' pm2' an2' cd2' ct2'), sl2'⟩)
    (cm2 : PySem.W.codeIn K cd2' "NoText.__init__" = true)
    (km2 : PySem.W.keepIn K (.ref g2) = true)
    (no2_0 : PySem.W.findIn K (.ref C2) "at" = some none)
    (aC3 : PySem.W.nsIn K mainGlobals "NoWord" = some (some (.ref C3)))
    (lC3 : K.lookup C3 = some (excClassObj "NoWord" xq3 C3 xN3 xb3 (.ref L :: veT) true xs3 xu3 xa3 xc3 xd3 xk3_0 xk3_1 xk3_2 xk3_3 xk3_5 "ValueError.__new__"))
    (ga3 : PySem.W.findIn K (.ref C3) "__getattribute__" = some (some (.builtin "BaseException.__getattribute__")))
    (gg3 : PySem.W.findIn K (.ref C3) "__getattr__" = some none)
    (ha3 : PySem.W.findIn K (.ref C3) "__class__" = some (some (.builtin "object.__class__")))
    (sa3 : PySem.W.findIn K (.ref C3) "__setattr__" = some (some (.builtin "object.__setattr__")))
    (kc3 : PySem.W.keepIn K (.ref C3) = true)
    (am3 : PySem.W.findIn K (.ref C3) "__init__" = some (some (.ref g3)))
    (im3 : PySem.W.typeIn K (.ref g3) = some (.type "function"))
    (lm3 : K.lookup g3 = some ⟨ou3, od3', .func (PySem.W.fnOf "__init__" "NoWord.__init__" (defArgs sI5) (defBody sI5) (defScope sI5) .none kV3' dc3' pm3' an3' cd3' ct3'), sl3'⟩)
    (cm3 : PySem.W.codeIn K cd3' "NoWord.__init__" = true)
    (km3 : PySem.W.keepIn K (.ref g3) = true)
    (no3_0 : PySem.W.findIn K (.ref C3) "at" = some none)
    (aC4 : PySem.W.nsIn K mainGlobals "NoNote" = some (some (.ref C4)))
    (lC4 : K.lookup C4 = some (excClassObj "NoNote" xq4 C4 xN4 xb4 (.ref L :: veT) true xs4 xu4 xa4 xc4 xd4 xk4_0 xk4_1 xk4_2 xk4_3 xk4_5 "ValueError.__new__"))
    (ga4 : PySem.W.findIn K (.ref C4) "__getattribute__" = some (some (.builtin "BaseException.__getattribute__")))
    (gg4 : PySem.W.findIn K (.ref C4) "__getattr__" = some none)
    (ha4 : PySem.W.findIn K (.ref C4) "__class__" = some (some (.builtin "object.__class__")))
    (sa4 : PySem.W.findIn K (.ref C4) "__setattr__" = some (some (.builtin "object.__setattr__")))
    (kc4 : PySem.W.keepIn K (.ref C4) = true)
    (am4 : PySem.W.findIn K (.ref C4) "__init__" = some (some (.ref g4)))
    (im4 : PySem.W.typeIn K (.ref g4) = some (.type "function"))
    (lm4 : K.lookup g4 = some ⟨ou4, od4', .func (PySem.W.fnOf "__init__" "NoNote.__init__" (defArgs sI6) (defBody sI6) (defScope sI6) .none kV4' dc4' pm4' an4' cd4' ct4'), sl4'⟩)
    (cm4 : PySem.W.codeIn K cd4' "NoNote.__init__" = true)
    (km4 : PySem.W.keepIn K (.ref g4) = true)
    (no4_0 : PySem.W.findIn K (.ref C4) "at" = some none)
    (aC5 : PySem.W.nsIn K mainGlobals "TooMany" = some (some (.ref C5)))
    (lC5 : K.lookup C5 = some (excClassObj "TooMany" xq5 C5 xN5 xb5 (.ref L :: veT) true xs5 xu5 xa5 xc5 xd5 xk5_0 xk5_1 xk5_2 xk5_3 xk5_5 "ValueError.__new__"))
    (ga5 : PySem.W.findIn K (.ref C5) "__getattribute__" = some (some (.builtin "BaseException.__getattribute__")))
    (gg5 : PySem.W.findIn K (.ref C5) "__getattr__" = some none)
    (ha5 : PySem.W.findIn K (.ref C5) "__class__" = some (some (.builtin "object.__class__")))
    (sa5 : PySem.W.findIn K (.ref C5) "__setattr__" = some (some (.builtin "object.__setattr__")))
    (kc5 : PySem.W.keepIn K (.ref C5) = true)
    (am5 : PySem.W.findIn K (.ref C5) "__init__" = some (some (.ref g5)))
    (im5 : PySem.W.typeIn K (.ref g5) = some (.type "function"))
    (lm5 : K.lookup g5 = some ⟨ou5, od5', .func (PySem.W.fnOf "__init__" "TooMany.__init__" (defArgs sI8) (defBody sI8) (defScope sI8) .none kV5' dc5' pm5' an5' cd5' ct5'), sl5'⟩)
    (cm5 : PySem.W.codeIn K cd5' "TooMany.__init__" = true)
    (km5 : PySem.W.keepIn K (.ref g5) = true)
    (no5_0 : PySem.W.findIn K (.ref C5) "most" = some none)
    (aC6 : PySem.W.nsIn K mainGlobals "TooBig" = some (some (.ref C6)))
    (lC6 : K.lookup C6 = some (excClassObj "TooBig" xq6 C6 xN6 xb6 (.ref L :: veT) true xs6 xu6 xa6 xc6 xd6 xk6_0 xk6_1 xk6_2 xk6_3 xk6_5 "ValueError.__new__"))
    (ga6 : PySem.W.findIn K (.ref C6) "__getattribute__" = some (some (.builtin "BaseException.__getattribute__")))
    (gg6 : PySem.W.findIn K (.ref C6) "__getattr__" = some none)
    (ha6 : PySem.W.findIn K (.ref C6) "__class__" = some (some (.builtin "object.__class__")))
    (sa6 : PySem.W.findIn K (.ref C6) "__setattr__" = some (some (.builtin "object.__setattr__")))
    (kc6 : PySem.W.keepIn K (.ref C6) = true)
    (am6 : PySem.W.findIn K (.ref C6) "__init__" = some (some (.ref g6)))
    (im6 : PySem.W.typeIn K (.ref g6) = some (.type "function"))
    (lm6 : K.lookup g6 = some ⟨ou6, od6', .func (PySem.W.fnOf "__init__" "TooBig.__init__" (defArgs sI9) (defBody sI9) (defScope sI9) .none kV6' dc6' pm6' an6' cd6' ct6'), sl6'⟩)
    (cm6 : PySem.W.codeIn K cd6' "TooBig.__init__" = true)
    (km6 : PySem.W.keepIn K (.ref g6) = true)
    (no6_0 : PySem.W.findIn K (.ref C6) "most" = some none)
    (aC7 : PySem.W.nsIn K mainGlobals "NoInput" = some (some (.ref C7)))
    (lC7 : K.lookup C7 = some (excClassObj "NoInput" xq7 C7 xN7 xb7 (.ref L :: veT) true xs7 xu7 xa7 xc7 xd7 xk7_0 xk7_1 xk7_2 xk7_3 xk7_5 "ValueError.__new__"))
    (ga7 : PySem.W.findIn K (.ref C7) "__getattribute__" = some (some (.builtin "BaseException.__getattribute__")))
    (gg7 : PySem.W.findIn K (.ref C7) "__getattr__" = some none)
    (ha7 : PySem.W.findIn K (.ref C7) "__class__" = some (some (.builtin "object.__class__")))
    (sa7 : PySem.W.findIn K (.ref C7) "__setattr__" = some (some (.builtin "object.__setattr__")))
    (kc7 : PySem.W.keepIn K (.ref C7) = true)
    (qx7 : PySem.W.excIn K C7 veT "ValueError.__new__" = true)
    (aC8 : PySem.W.nsIn K mainGlobals "NoPlace" = some (some (.ref C8)))
    (lC8 : K.lookup C8 = some (excClassObj "NoPlace" xq8 C8 xN8 xb8 keT true xs8 xu8 xa8 xc8 xd8 xk8_0 xk8_1 xk8_2 xk8_3 xk8_5 "LookupError.__new__"))
    (ga8 : PySem.W.findIn K (.ref C8) "__getattribute__" = some (some (.builtin "BaseException.__getattribute__")))
    (gg8 : PySem.W.findIn K (.ref C8) "__getattr__" = some none)
    (ha8 : PySem.W.findIn K (.ref C8) "__class__" = some (some (.builtin "object.__class__")))
    (sa8 : PySem.W.findIn K (.ref C8) "__setattr__" = some (some (.builtin "object.__setattr__")))
    (kc8 : PySem.W.keepIn K (.ref C8) = true)
    (am8 : PySem.W.findIn K (.ref C8) "__init__" = some (some (.ref g8)))
    (im8 : PySem.W.typeIn K (.ref g8) = some (.type "function"))
    (lm8 : K.lookup g8 = some ⟨ou8, od8', .func (PySem.W.fnOf "__init__" "NoPlace.__init__" (defArgs sI10) (defBody sI10) (defScope sI10) .none kV8' dc8' pm8' an8' cd8' ct8'), sl8'⟩)
    (cm8 : PySem.W.codeIn K cd8' "NoPlace.__init__" = true)
    (km8 : PySem.W.keepIn K (.ref g8) = true)
    (no8_0 : PySem.W.findIn K (.ref C8) "place" = some none)
    (aC9 : PySem.W.nsIn K mainGlobals "NoCell" = some (some (.ref C9)))
    (lC9 : K.lookup C9 = some (excClassObj "NoCell" xq9 C9 xN9 xb9 keT true xs9 xu9 xa9 xc9 xd9 xk9_0 xk9_1 xk9_2 xk9_3 xk9_5 "LookupError.__new__"))
    (ga9 : PySem.W.findIn K (.ref C9) "__getattribute__" = some (some (.builtin "BaseException.__getattribute__")))
    (gg9 : PySem.W.findIn K (.ref C9) "__getattr__" = some none)
    (ha9 : PySem.W.findIn K (.ref C9) "__class__" = some (some (.builtin "object.__class__")))
    (sa9 : PySem.W.findIn K (.ref C9) "__setattr__" = some (some (.builtin "object.__setattr__")))
    (kc9 : PySem.W.keepIn K (.ref C9) = true)
    (am9 : PySem.W.findIn K (.ref C9) "__init__" = some (some (.ref g9)))
    (im9 : PySem.W.typeIn K (.ref g9) = some (.type "function"))
    (lm9 : K.lookup g9 = some ⟨ou9, od9', .func (PySem.W.fnOf "__init__" "NoCell.__init__" (defArgs sI11) (defBody sI11) (defScope sI11) .none kV9' dc9' pm9' an9' cd9' ct9'), sl9'⟩)
    (cm9 : PySem.W.codeIn K cd9' "NoCell.__init__" = true)
    (km9 : PySem.W.keepIn K (.ref g9) = true)
    (no9_0 : PySem.W.findIn K (.ref C9) "name" = some none)
    (hn : PySem.W.specialIn K (.builtin "object.__class__") "__get__" = some (some (.builtin "getset_descriptor.__get__")))
    (htk : PySem.W.takesIn K (.builtin "object.__class__") = some true)
    (a1 : PySem.W.nsIn K mainGlobals "_law_box" = some (some (.ref f1)))
    (l1 : K.lookup f1 = some ⟨oc1, od1, .func (PySem.W.fnOf "_law_box" "_law_box" (defArgs sBox) (defBody sBox) (defScope sBox) .none kV1 dc1 pm1 an1 cd1 ct1), sl1⟩)
    (c1 : PySem.W.codeIn K cd1 "_law_box" = true) (k1 : PySem.W.keepIn K (.ref f1) = true)
    (a2 : PySem.W.nsIn K mainGlobals "_law_take" = some (some (.ref f2)))
    (l2 : K.lookup f2 = some ⟨oc2, od2, .func (PySem.W.fnOf "_law_take" "_law_take" (defArgs sTake) (defBody sTake) (defScope sTake) .none kV2 dc2 pm2 an2 cd2 ct2), sl2⟩)
    (c2 : PySem.W.codeIn K cd2 "_law_take" = true) (k2 : PySem.W.keepIn K (.ref f2) = true)
    (a3 : PySem.W.nsIn K mainGlobals "_law_thing" = some (some (.ref f3)))
    (l3 : K.lookup f3 = some ⟨oc3, od3, .func (PySem.W.fnOf "_law_thing" "_law_thing" (defArgs sThing) (defBody sThing) (defScope sThing) .none kV3 dc3 pm3 an3 cd3 ct3), sl3⟩)
    (c3 : PySem.W.codeIn K cd3 "_law_thing" = true) (k3 : PySem.W.keepIn K (.ref f3) = true)
    (a4 : PySem.W.nsIn K mainGlobals "_law_made" = some (some (.ref f4)))
    (l4 : K.lookup f4 = some ⟨oc4, od4, .func (PySem.W.fnOf "_law_made" "_law_made" (defArgs sMade) (defBody sMade) (defScope sMade) .none kV4 dc4 pm4 an4 cd4 ct4), sl4⟩)
    (c4 : PySem.W.codeIn K cd4 "_law_made" = true) (k4 : PySem.W.keepIn K (.ref f4) = true)
    (a5 : PySem.W.nsIn K mainGlobals "_law_named" = some (some (.ref f5)))
    (l5 : K.lookup f5 = some ⟨oc5, od5, .func (PySem.W.fnOf "_law_named" "_law_named" (defArgs sNamed) (defBody sNamed) (defScope sNamed) .none kV5 dc5 pm5 an5 cd5 ct5), sl5⟩)
    (c5 : PySem.W.codeIn K cd5 "_law_named" = true) (k5 : PySem.W.keepIn K (.ref f5) = true)
    (a6 : PySem.W.nsIn K mainGlobals "_law_kept" = some (some (.ref f6)))
    (l6 : K.lookup f6 = some ⟨oc6, od6, .func (PySem.W.fnOf "_law_kept" "_law_kept" (defArgs sKept) (defBody sKept) (defScope sKept) .none kV6 dc6 pm6 an6 cd6 ct6), sl6⟩)
    (c6 : PySem.W.codeIn K cd6 "_law_kept" = true) (k6 : PySem.W.keepIn K (.ref f6) = true)
    (a7 : PySem.W.nsIn K mainGlobals "_law_sorts" = some (some (.ref f7)))
    (l7 : K.lookup f7 = some ⟨oc7, od7, .func (PySem.W.fnOf "_law_sorts" "_law_sorts" (defArgs sSorts) (defBody sSorts) (defScope sSorts) .none kV7 dc7 pm7 an7 cd7 ct7), sl7⟩)
    (c7 : PySem.W.codeIn K cd7 "_law_sorts" = true) (k7 : PySem.W.keepIn K (.ref f7) = true)
    (a8 : PySem.W.nsIn K mainGlobals "_law_caught" = some (some (.ref f8)))
    (l8 : K.lookup f8 = some ⟨oc8, od8, .func (PySem.W.fnOf "_law_caught" "_law_caught" (defArgs sCaught) (defBody sCaught) (defScope sCaught) .none kV8 dc8 pm8 an8 cd8 ct8), sl8⟩)
    (c8 : PySem.W.codeIn K cd8 "_law_caught" = true) (k8 : PySem.W.keepIn K (.ref f8) = true)
    (a9 : PySem.W.nsIn K mainGlobals "law" = some (some (.ref f9)))
    (l9 : K.lookup f9 = some ⟨oc9, od9, .func (PySem.W.fnOf "law" "law" (defArgs sLaw) (defBody sLaw) (defScope sLaw) .none kV9 dc9 pm9 an9 cd9 ct9), sl9⟩)
    (c9 : PySem.W.codeIn K cd9 "law" = true) (k9 : PySem.W.keepIn K (.ref f9) = true)
    (z1 : PySem.W.nsIn K mainGlobals "isinstance" = some none)
    (z2 : PySem.W.nsIn K mainGlobals "len" = some none)
    (z3 : PySem.W.nsIn K mainGlobals "all" = some none)
    (z4 : PySem.W.nsIn K mainGlobals "str" = some none)
    (z5 : PySem.W.nsIn K mainGlobals "tuple" = some none)
    (z6 : PySem.W.nsIn K mainGlobals "int" = some none)
    (z7 : PySem.W.nsIn K mainGlobals "bool" = some none)
    (z8 : PySem.W.nsIn K mainGlobals "range" = some none)
    (z9 : PySem.W.nsIn K mainGlobals "repr" = some none)
    (z10 : PySem.W.nsIn K mainGlobals "abs" = some none)
    (z11 : PySem.W.nsIn K mainGlobals "enumerate" = some none)
    (z12 : PySem.W.nsIn K mainGlobals "ValueError" = some none)
    (z13 : PySem.W.nsIn K mainGlobals "KeyError" = some none)
    : ∃ fd : FuncData, (∀ (s : Shared) (v : Value), BindsTo s fd ⟨[v], []⟩ [("_law_script", v)]) ∧ ∀ base : Heap, K.In base → base.Ns mainGlobals mg → FnG l.prog w K mg base CX0 6 fa fd ["_law_script"] (spLaw K) := by
  have e := hfa.symm.trans (PySem.W.mg_of X G a9)
  cases e
  have F1 := fun_mk (st := sBox) l1 c1 k1
  have b1 := F1.binds (ps := ["_law_script", "_law_base"]) fun _ _ _ _ _ _ us hl => match us, hl with | [_, _], _ => rfl
  have m1 := PySem.W.mg_of X G a1
  have F2 := fun_mk (st := sTake) l2 c2 k2
  have b2 := F2.binds (ps := ["_law_box_here", "_law_many"]) fun _ _ _ _ _ _ us hl => match us, hl with | [_, _], _ => rfl
  have m2 := PySem.W.mg_of X G a2
  have F3 := fun_mk (st := sThing) l3 c3 k3
  have b3 := F3.binds (ps := ["_law_box_here", "_law_deep"]) fun _ _ _ _ _ _ us hl => match us, hl with | [_, _], _ => rfl
  have m3 := PySem.W.mg_of X G a3
  have F4 := fun_mk (st := sMade) l4 c4 k4
  have b4 := F4.binds (ps := ["_law_one", "_law_other", "_law_third"]) fun _ _ _ _ _ _ us hl => match us, hl with | [_, _, _], _ => rfl
  have m4 := PySem.W.mg_of X G a4
  have F5 := fun_mk (st := sNamed) l5 c5 k5
  have b5 := F5.binds (ps := ["_law_one", "_law_other", "_law_third"]) fun _ _ _ _ _ _ us hl => match us, hl with | [_, _, _], _ => rfl
  have m5 := PySem.W.mg_of X G a5
  have F6 := fun_mk (st := sKept) l6 c6 k6
  have b6 := F6.binds (ps := ["_law_made_here"]) fun _ _ _ _ _ _ us hl => match us, hl with | [_], _ => rfl
  have m6 := PySem.W.mg_of X G a6
  have F7 := fun_mk (st := sSorts) l7 c7 k7
  have b7 := F7.binds (ps := ["_law_e"]) fun _ _ _ _ _ _ us hl => match us, hl with | [_], _ => rfl
  have m7 := PySem.W.mg_of X G a7
  have F8 := fun_mk (st := sCaught) l8 c8 k8
  have b8 := F8.binds (ps := ["_law_one"]) fun _ _ _ _ _ _ us hl => match us, hl with | [_], _ => rfl
  have m8 := PySem.W.mg_of X G a8
  have F9 := fun_mk (st := sLaw) l9 c9 k9
  have n_isinstance := PySem.W.mg_none_of X G z1
  have n_len := PySem.W.mg_none_of X G z2
  have n_all := PySem.W.mg_none_of X G z3
  have n_str := PySem.W.mg_none_of X G z4
  have n_tuple := PySem.W.mg_none_of X G z5
  have n_int := PySem.W.mg_none_of X G z6
  have n_bool := PySem.W.mg_none_of X G z7
  have n_range := PySem.W.mg_none_of X G z8
  have n_repr := PySem.W.mg_none_of X G z9
  have n_abs := PySem.W.mg_none_of X G z10
  have n_enumerate := PySem.W.mg_none_of X G z11
  have n_ValueError := PySem.W.mg_none_of X G z12
  have n_KeyError := PySem.W.mg_none_of X G z13
  refine ⟨PySem.W.fnOf "law" "law" (defArgs sLaw) (defBody sLaw) (defScope sLaw) .none kV9 dc9 pm9 an9 cd9 ct9, fun s v => .of_eq rfl, fun base _ _ => ?_⟩
  have B : Bi mg := ⟨n_isinstance, n_len, n_all, n_str, n_tuple, n_int, n_bool, n_range, n_repr, n_abs⟩
  have T : Tk l.prog w K mg base f2 _ := ⟨ok_take (k := 0) F2 n_len, k2, b2, m2⟩
  have HN : Hn K := ⟨hn, htk⟩
  have eL : EL K L "LoreError" veT "ValueError.__new__" := ⟨⟨_, _, _, _, _, _, _, _, _, _, _, _, _, lL⟩⟩
  have E0 : EL K C0 "NoBook" (.ref L :: veT) "ValueError.__new__" := ⟨⟨_, _, _, _, _, _, _, _, _, _, _, _, _, lC0⟩⟩
  have f0' : EF K C0 := ⟨ga0, gg0, ha0, sa0, kc0⟩
  have x0 : ExcC K C0 := E0.exc f0' HN rfl rfl
  have T0 : ExK K C0 := E0.exk f0' eb_ve rfl rfl
  have I0 := fun_mk (st := sI3) lm0 cm0 km0
  have c0' : EC l.prog w K mg base "NoBook" ["word", "name", "path"] ["path", "name", "word"] C0 g0 _ := ⟨T0, E0.xf f0' rfl, x0, am0, im0, ok_I3 (k := 0) I0 T0 no0_0 no0_1 no0_2, I0.binds (ps := ["self", "word", "name", "path"]) fun _ _ _ _ _ _ us hl => (match us, hl with | [_, _, _, _], _ => rfl), kb_of (ns := ["word", "name", "path"]) (ks := ["path", "name", "word"]) I0 (fun _ _ _ _ _ _ us ws h1 h2 => match us, ws, h1, h2 with | [_], [_, _, _], _, _ => rfl), PySem.W.mg_of X G aC0, fun f hf => by
    simp only [List.mem_cons, List.not_mem_nil, or_false] at hf
    rcases hf with rfl | rfl | rfl
    · exact no0_0
    · exact no0_1
    · exact no0_2⟩
  have E1 : EL K C1 "NoSheet" (.ref L :: veT) "ValueError.__new__" := ⟨⟨_, _, _, _, _, _, _, _, _, _, _, _, _, lC1⟩⟩
  have f1' : EF K C1 := ⟨ga1, gg1, ha1, sa1, kc1⟩
  have x1 : ExcC K C1 := E1.exc f1' HN rfl rfl
  have T1 : ExK K C1 := E1.exk f1' eb_ve rfl rfl
  have I1 := fun_mk (st := sI4) lm1 cm1 km1
  have c1' : EC l.prog w K mg base "NoSheet" ["word", "name"] ["name", "word"] C1 g1 _ := ⟨T1, E1.xf f1' rfl, x1, am1, im1, ok_I4 (k := 0) I1 T1 no1_0 no1_1, I1.binds (ps := ["self", "word", "name"]) fun _ _ _ _ _ _ us hl => (match us, hl with | [_, _, _], _ => rfl), kb_of (ns := ["word", "name"]) (ks := ["name", "word"]) I1 (fun _ _ _ _ _ _ us ws h1 h2 => match us, ws, h1, h2 with | [_], [_, _], _, _ => rfl), PySem.W.mg_of X G aC1, fun f hf => by
    simp only [List.mem_cons, List.not_mem_nil, or_false] at hf
    rcases hf with rfl | rfl
    · exact no1_0
    · exact no1_1⟩
  have E2 : EL K C2 "NoText" (.ref L :: veT) "ValueError.__new__" := ⟨⟨_, _, _, _, _, _, _, _, _, _, _, _, _, lC2⟩⟩
  have f2' : EF K C2 := ⟨ga2, gg2, ha2, sa2, kc2⟩
  have x2 : ExcC K C2 := E2.exc f2' HN rfl rfl
  have T2 : ExK K C2 := E2.exk f2' eb_ve rfl rfl
  have I2 := fun_mk (st := sI2) lm2 cm2 km2
  have c2' : EC l.prog w K mg base "NoText" ["at"] ["at"] C2 g2 _ := ⟨T2, E2.xf f2' rfl, x2, am2, im2, ok_I2 (k := 0) I2 T2 no2_0, I2.binds (ps := ["self", "at"]) fun _ _ _ _ _ _ us hl => (match us, hl with | [_, _], _ => rfl), kb_of (ns := ["at"]) (ks := ["at"]) I2 (fun _ _ _ _ _ _ us ws h1 h2 => match us, ws, h1, h2 with | [_], [_], _, _ => rfl), PySem.W.mg_of X G aC2, fun f hf => by
    simp only [List.mem_cons, List.not_mem_nil, or_false] at hf
    subst hf
    exact no2_0⟩
  have E3 : EL K C3 "NoWord" (.ref L :: veT) "ValueError.__new__" := ⟨⟨_, _, _, _, _, _, _, _, _, _, _, _, _, lC3⟩⟩
  have f3' : EF K C3 := ⟨ga3, gg3, ha3, sa3, kc3⟩
  have x3 : ExcC K C3 := E3.exc f3' HN rfl rfl
  have T3 : ExK K C3 := E3.exk f3' eb_ve rfl rfl
  have I3 := fun_mk (st := sI5) lm3 cm3 km3
  have c3' : EC l.prog w K mg base "NoWord" ["at"] ["at"] C3 g3 _ := ⟨T3, E3.xf f3' rfl, x3, am3, im3, ok_I5 (k := 0) I3 T3 no3_0, I3.binds (ps := ["self", "at"]) fun _ _ _ _ _ _ us hl => (match us, hl with | [_, _], _ => rfl), kb_of (ns := ["at"]) (ks := ["at"]) I3 (fun _ _ _ _ _ _ us ws h1 h2 => match us, ws, h1, h2 with | [_], [_], _, _ => rfl), PySem.W.mg_of X G aC3, fun f hf => by
    simp only [List.mem_cons, List.not_mem_nil, or_false] at hf
    subst hf
    exact no3_0⟩
  have E4 : EL K C4 "NoNote" (.ref L :: veT) "ValueError.__new__" := ⟨⟨_, _, _, _, _, _, _, _, _, _, _, _, _, lC4⟩⟩
  have f4' : EF K C4 := ⟨ga4, gg4, ha4, sa4, kc4⟩
  have x4 : ExcC K C4 := E4.exc f4' HN rfl rfl
  have T4 : ExK K C4 := E4.exk f4' eb_ve rfl rfl
  have I4 := fun_mk (st := sI6) lm4 cm4 km4
  have c4' : EC l.prog w K mg base "NoNote" ["at"] ["at"] C4 g4 _ := ⟨T4, E4.xf f4' rfl, x4, am4, im4, ok_I6 (k := 0) I4 T4 no4_0, I4.binds (ps := ["self", "at"]) fun _ _ _ _ _ _ us hl => (match us, hl with | [_, _], _ => rfl), kb_of (ns := ["at"]) (ks := ["at"]) I4 (fun _ _ _ _ _ _ us ws h1 h2 => match us, ws, h1, h2 with | [_], [_], _, _ => rfl), PySem.W.mg_of X G aC4, fun f hf => by
    simp only [List.mem_cons, List.not_mem_nil, or_false] at hf
    subst hf
    exact no4_0⟩
  have E5 : EL K C5 "TooMany" (.ref L :: veT) "ValueError.__new__" := ⟨⟨_, _, _, _, _, _, _, _, _, _, _, _, _, lC5⟩⟩
  have f5' : EF K C5 := ⟨ga5, gg5, ha5, sa5, kc5⟩
  have x5 : ExcC K C5 := E5.exc f5' HN rfl rfl
  have T5 : ExK K C5 := E5.exk f5' eb_ve rfl rfl
  have I5 := fun_mk (st := sI8) lm5 cm5 km5
  have c5' : EC l.prog w K mg base "TooMany" ["most"] ["most"] C5 g5 _ := ⟨T5, E5.xf f5' rfl, x5, am5, im5, ok_I8 (k := 0) I5 T5 no5_0, I5.binds (ps := ["self", "most"]) fun _ _ _ _ _ _ us hl => (match us, hl with | [_, _], _ => rfl), kb_of (ns := ["most"]) (ks := ["most"]) I5 (fun _ _ _ _ _ _ us ws h1 h2 => match us, ws, h1, h2 with | [_], [_], _, _ => rfl), PySem.W.mg_of X G aC5, fun f hf => by
    simp only [List.mem_cons, List.not_mem_nil, or_false] at hf
    subst hf
    exact no5_0⟩
  have E6 : EL K C6 "TooBig" (.ref L :: veT) "ValueError.__new__" := ⟨⟨_, _, _, _, _, _, _, _, _, _, _, _, _, lC6⟩⟩
  have f6' : EF K C6 := ⟨ga6, gg6, ha6, sa6, kc6⟩
  have x6 : ExcC K C6 := E6.exc f6' HN rfl rfl
  have T6 : ExK K C6 := E6.exk f6' eb_ve rfl rfl
  have I6 := fun_mk (st := sI9) lm6 cm6 km6
  have c6' : EC l.prog w K mg base "TooBig" ["most"] ["most"] C6 g6 _ := ⟨T6, E6.xf f6' rfl, x6, am6, im6, ok_I9 (k := 0) I6 T6 no6_0, I6.binds (ps := ["self", "most"]) fun _ _ _ _ _ _ us hl => (match us, hl with | [_, _], _ => rfl), kb_of (ns := ["most"]) (ks := ["most"]) I6 (fun _ _ _ _ _ _ us ws h1 h2 => match us, ws, h1, h2 with | [_], [_], _, _ => rfl), PySem.W.mg_of X G aC6, fun f hf => by
    simp only [List.mem_cons, List.not_mem_nil, or_false] at hf
    subst hf
    exact no6_0⟩
  have E7 : EL K C7 "NoInput" (.ref L :: veT) "ValueError.__new__" := ⟨⟨_, _, _, _, _, _, _, _, _, _, _, _, _, lC7⟩⟩
  have f7' : EF K C7 := ⟨ga7, gg7, ha7, sa7, kc7⟩
  have x7 : ExcC K C7 := E7.exc f7' HN rfl rfl
  have E8 : EL K C8 "NoPlace" keT "LookupError.__new__" := ⟨⟨_, _, _, _, _, _, _, _, _, _, _, _, _, lC8⟩⟩
  have f8' : EF K C8 := ⟨ga8, gg8, ha8, sa8, kc8⟩
  have x8 : ExcC K C8 := E8.exc f8' HN rfl rfl
  have T8 : ExK K C8 := E8.exk f8' eb_ke rfl rfl
  have I8 := fun_mk (st := sI10) lm8 cm8 km8
  have c8' : EC l.prog w K mg base "NoPlace" ["place"] ["place"] C8 g8 _ := ⟨T8, E8.xf f8' rfl, x8, am8, im8, ok_I10 (k := 0) I8 T8 no8_0, I8.binds (ps := ["self", "place"]) fun _ _ _ _ _ _ us hl => (match us, hl with | [_, _], _ => rfl), kb_of (ns := ["place"]) (ks := ["place"]) I8 (fun _ _ _ _ _ _ us ws h1 h2 => match us, ws, h1, h2 with | [_], [_], _, _ => rfl), PySem.W.mg_of X G aC8, fun f hf => by
    simp only [List.mem_cons, List.not_mem_nil, or_false] at hf
    subst hf
    exact no8_0⟩
  have E9 : EL K C9 "NoCell" keT "LookupError.__new__" := ⟨⟨_, _, _, _, _, _, _, _, _, _, _, _, _, lC9⟩⟩
  have f9' : EF K C9 := ⟨ga9, gg9, ha9, sa9, kc9⟩
  have x9 : ExcC K C9 := E9.exc f9' HN rfl rfl
  have T9 : ExK K C9 := E9.exk f9' eb_ke rfl rfl
  have I9 := fun_mk (st := sI11) lm9 cm9 km9
  have c9' : EC l.prog w K mg base "NoCell" ["name"] ["name"] C9 g9 _ := ⟨T9, E9.xf f9' rfl, x9, am9, im9, ok_I11 (k := 0) I9 T9 no9_0, I9.binds (ps := ["self", "name"]) fun _ _ _ _ _ _ us hl => (match us, hl with | [_, _], _ => rfl), kb_of (ns := ["name"]) (ks := ["name"]) I9 (fun _ _ _ _ _ _ us ws h1 h2 => match us, ws, h1, h2 with | [_], [_], _, _ => rfl), PySem.W.mg_of X G aC9, fun f hf => by
    simp only [List.mem_cons, List.not_mem_nil, or_false] at hf
    subst hf
    exact no9_0⟩
  have R : Ers l.prog w K mg base L (fun i => [C0, C1, C2, C3, C4, C5, C6, C7, C8, C9].getD i 0) := by
    refine ⟨HN, PySem.W.mg_of X G aL, n_ValueError, n_KeyError, eL, ⟨_, _, c0'⟩, ⟨_, _, c1'⟩, ⟨_, _, c2'⟩, ⟨_, _, c3'⟩, ⟨_, _, c4'⟩, ⟨_, _, c5'⟩, ⟨_, _, c6'⟩, ⟨qx7, kc7, PySem.W.mg_of X G aC7, x7⟩, ⟨_, _, c8'⟩, ⟨_, _, c9'⟩, fun i hi => ?_, fun i hi => ?_⟩
    · match i, hi with
      | 0, _ => exact x0
      | 1, _ => exact x1
      | 2, _ => exact x2
      | 3, _ => exact x3
      | 4, _ => exact x4
      | 5, _ => exact x5
      | 6, _ => exact x6
      | 7, _ => exact x7
      | 8, _ => exact x8
      | 9, _ => exact x9
      | n + 10, h => exact absurd h (by omega)
    · match i, hi with
      | 0, _ => exact ⟨_, _, _, E0, rfl, rfl⟩
      | 1, _ => exact ⟨_, _, _, E1, rfl, rfl⟩
      | 2, _ => exact ⟨_, _, _, E2, rfl, rfl⟩
      | 3, _ => exact ⟨_, _, _, E3, rfl, rfl⟩
      | 4, _ => exact ⟨_, _, _, E4, rfl, rfl⟩
      | 5, _ => exact ⟨_, _, _, E5, rfl, rfl⟩
      | 6, _ => exact ⟨_, _, _, E6, rfl, rfl⟩
      | 7, _ => exact ⟨_, _, _, E7, rfl, rfl⟩
      | 8, _ => exact ⟨_, _, _, E8, rfl, rfl⟩
      | 9, _ => exact ⟨_, _, _, E9, rfl, rfl⟩
      | n + 10, h => exact absurd h (by omega)
  have V : ∀ n : Nat, FnOk l.prog w K mg base CX0 (n + 1) f3 _ ["_law_box_here", "_law_deep"] (spThing K n) := fun n => by
    induction n with
    | zero =>
      have no : ∀ vs H Q E, ¬ spThing K 0 vs H Q E := fun vs H Q E h => by
        obtain ⟨p, g, e, l, _, _, h1, h2, _⟩ := h
        omega
      exact ⟨fun vs H Q E h => absurd h (no vs H Q E), fun A outer s H args us vs Q E _ _ _ _ h => absurd h (no vs H Q E)⟩
    | succ n ih => exact ok_thing F3 B T ih b3 m3
  exact ok_law F9 B n_enumerate R ⟨ok_box (k := 0) F1 n_abs, k1, b1, m1⟩ T ⟨(V 3).mono (by decide), k3, b3, m3⟩ ⟨ok_made (k := 0) F4 R, k4, b4, m4⟩ ⟨ok_named (k := 0) F5 R, k5, b5, m5⟩ ⟨ok_kept (k := 0) F6 R, k6, b6, m6⟩
    ⟨ok_sorts (k := 0) F7 B R, k7, b7, m7⟩ ⟨ok_caught (k := 0) F8 R, k8, b8, m8⟩
end Rl
open PySem PySem.W PyProof.Rows in
set_option maxRecDepth 100000 in
set_option maxHeartbeats 0 in
theorem PySem.Challenge.cw_runlore_k01_errors_and_their_attributes_holds : PySem.Challenge.rw_runlore_k01_errors_and_their_attributes.Holds := by
  w_on; o_law; k_head; (case hw => w_witness2)
  k_fill
  refine Rl.walkG (l := PySem.Challenge.rw_runlore_k01_errors_and_their_attributes) (n := 63) (k := 6) (x := "_law_script") (sp := Rl.spLaw) rfl (by decide) rfl ⟨rfl, by decide, by decide⟩ (fun w h Y => PySem.W.kIn_of Y) ?F (fun K H a ns hl _ hS => ⟨a, ns, rfl, hS, hl, fun _ => rfl⟩)
  case F =>
    intro w mg fa h KX G hmg
    refine' Rl.all_mk KX G hmg ?aL ?lL ?aC0 ?lC0 ?ga0 ?gg0 ?ha0 ?sa0 ?kc0 ?am0 ?im0 ?lm0 ?cm0 ?km0 ?no0_0 ?no0_1 ?no0_2 ?aC1 ?lC1 ?ga1 ?gg1 ?ha1 ?sa1 ?kc1 ?am1 ?im1 ?lm1 ?cm1 ?km1 ?no1_0 ?no1_1 ?aC2 ?lC2 ?ga2 ?gg2 ?ha2 ?sa2 ?kc2 ?am2 ?im2 ?lm2 ?cm2 ?km2 ?no2_0 ?aC3 ?lC3 ?ga3 ?gg3 ?ha3 ?sa3 ?kc3 ?am3 ?im3 ?lm3 ?cm3 ?km3 ?no3_0 ?aC4 ?lC4 ?ga4 ?gg4 ?ha4 ?sa4 ?kc4 ?am4 ?im4 ?lm4 ?cm4 ?km4 ?no4_0 ?aC5 ?lC5 ?ga5 ?gg5 ?ha5 ?sa5 ?kc5 ?am5 ?im5 ?lm5 ?cm5 ?km5 ?no5_0 ?aC6 ?lC6 ?ga6 ?gg6 ?ha6 ?sa6 ?kc6 ?am6 ?im6 ?lm6 ?cm6 ?km6 ?no6_0 ?aC7 ?lC7 ?ga7 ?gg7 ?ha7 ?sa7 ?kc7 ?qx7 ?aC8 ?lC8 ?ga8 ?gg8 ?ha8 ?sa8 ?kc8 ?am8 ?im8 ?lm8 ?cm8 ?km8 ?no8_0 ?aC9 ?lC9 ?ga9 ?gg9 ?ha9 ?sa9 ?kc9 ?am9 ?im9 ?lm9 ?cm9 ?km9 ?no9_0 ?hn ?htk ?a1 ?l1 ?c1 ?k1 ?a2 ?l2 ?c2 ?k2 ?a3 ?l3 ?c3 ?k3 ?a4 ?l4 ?c4 ?k4 ?a5 ?l5 ?c5 ?k5 ?a6 ?l6 ?c6 ?k6 ?a7 ?l7 ?c7 ?k7 ?a8 ?l8 ?c8 ?k8 ?a9 ?l9 ?c9 ?k9 ?z1 ?z2 ?z3 ?z4 ?z5 ?z6 ?z7 ?z8 ?z9 ?z10 ?z11 ?z12 ?z13
    (case aL => k_is)
    (case lL => k_is)
    (case aC0 => k_is)
    (case lC0 => k_is)
    (case ga0 => k_is)
    (case gg0 => k_is)
    (case ha0 => k_is)
    (case sa0 => k_is)
    (case kc0 => k_is)
    (case am0 => k_is)
    (case im0 => k_is)
    (case lm0 => k_is)
    (case cm0 => k_is)
    (case km0 => k_is)
    (case no0_0 => k_is)
    (case no0_1 => k_is)
    (case no0_2 => k_is)
    (case aC1 => k_is)
    (case lC1 => k_is)
    (case ga1 => k_is)
    (case gg1 => k_is)
    (case ha1 => k_is)
    (case sa1 => k_is)
    (case kc1 => k_is)
    (case am1 => k_is)
    (case im1 => k_is)
    (case lm1 => k_is)
    (case cm1 => k_is)
    (case km1 => k_is)
    (case no1_0 => k_is)
    (case no1_1 => k_is)
    (case aC2 => k_is)
    (case lC2 => k_is)
    (case ga2 => k_is)
    (case gg2 => k_is)
    (case ha2 => k_is)
    (case sa2 => k_is)
    (case kc2 => k_is)
    (case am2 => k_is)
    (case im2 => k_is)
    (case lm2 => k_is)
    (case cm2 => k_is)
    (case km2 => k_is)
    (case no2_0 => k_is)
    (case aC3 => k_is)
    (case lC3 => k_is)
    (case ga3 => k_is)
    (case gg3 => k_is)
    (case ha3 => k_is)
    (case sa3 => k_is)
    (case kc3 => k_is)
    (case am3 => k_is)
    (case im3 => k_is)
    (case lm3 => k_is)
    (case cm3 => k_is)
    (case km3 => k_is)
    (case no3_0 => k_is)
    (case aC4 => k_is)
    (case lC4 => k_is)
    (case ga4 => k_is)
    (case gg4 => k_is)
    (case ha4 => k_is)
    (case sa4 => k_is)
    (case kc4 => k_is)
    (case am4 => k_is)
    (case im4 => k_is)
    (case lm4 => k_is)
    (case cm4 => k_is)
    (case km4 => k_is)
    (case no4_0 => k_is)
    (case aC5 => k_is)
    (case lC5 => k_is)
    (case ga5 => k_is)
    (case gg5 => k_is)
    (case ha5 => k_is)
    (case sa5 => k_is)
    (case kc5 => k_is)
    (case am5 => k_is)
    (case im5 => k_is)
    (case lm5 => k_is)
    (case cm5 => k_is)
    (case km5 => k_is)
    (case no5_0 => k_is)
    (case aC6 => k_is)
    (case lC6 => k_is)
    (case ga6 => k_is)
    (case gg6 => k_is)
    (case ha6 => k_is)
    (case sa6 => k_is)
    (case kc6 => k_is)
    (case am6 => k_is)
    (case im6 => k_is)
    (case lm6 => k_is)
    (case cm6 => k_is)
    (case km6 => k_is)
    (case no6_0 => k_is)
    (case aC7 => k_is)
    (case lC7 => k_is)
    (case ga7 => k_is)
    (case gg7 => k_is)
    (case ha7 => k_is)
    (case sa7 => k_is)
    (case kc7 => k_is)
    (case qx7 => k_exc)
    (case aC8 => k_is)
    (case lC8 => k_is)
    (case ga8 => k_is)
    (case gg8 => k_is)
    (case ha8 => k_is)
    (case sa8 => k_is)
    (case kc8 => k_is)
    (case am8 => k_is)
    (case im8 => k_is)
    (case lm8 => k_is)
    (case cm8 => k_is)
    (case km8 => k_is)
    (case no8_0 => k_is)
    (case aC9 => k_is)
    (case lC9 => k_is)
    (case ga9 => k_is)
    (case gg9 => k_is)
    (case ha9 => k_is)
    (case sa9 => k_is)
    (case kc9 => k_is)
    (case am9 => k_is)
    (case im9 => k_is)
    (case lm9 => k_is)
    (case cm9 => k_is)
    (case km9 => k_is)
    (case no9_0 => k_is)
    (case hn => k_is)
    (case htk => k_is)
    (case a1 => k_is)
    (case l1 => k_is)
    (case c1 => k_is)
    (case k1 => k_is)
    (case a2 => k_is)
    (case l2 => k_is)
    (case c2 => k_is)
    (case k2 => k_is)
    (case a3 => k_is)
    (case l3 => k_is)
    (case c3 => k_is)
    (case k3 => k_is)
    (case a4 => k_is)
    (case l4 => k_is)
    (case c4 => k_is)
    (case k4 => k_is)
    (case a5 => k_is)
    (case l5 => k_is)
    (case c5 => k_is)
    (case k5 => k_is)
    (case a6 => k_is)
    (case l6 => k_is)
    (case c6 => k_is)
    (case k6 => k_is)
    (case a7 => k_is)
    (case l7 => k_is)
    (case c7 => k_is)
    (case k7 => k_is)
    (case a8 => k_is)
    (case l8 => k_is)
    (case c8 => k_is)
    (case k8 => k_is)
    (case a9 => k_is)
    (case l9 => k_is)
    (case c9 => k_is)
    (case k9 => k_is)
    (case z1 => k_is)
    (case z2 => k_is)
    (case z3 => k_is)
    (case z4 => k_is)
    (case z5 => k_is)
    (case z6 => k_is)
    (case z7 => k_is)
    (case z8 => k_is)
    (case z9 => k_is)
    (case z10 => k_is)
    (case z11 => k_is)
    (case z12 => k_is)
    (case z13 => k_is)

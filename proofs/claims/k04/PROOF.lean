import PyProof.Rows.All
import Wide.All
import OpenK.AllK
import Wide.FinOn
import PyProof.ReprRoads
import PyProof.StrLawsRepr
import PyProof.ReprLen
import PyProof.Rows.RegStrFacts
import PyProof.Rows.StrCase
import PyProof.Rows.ReprOcc
import HandS.ForMost
import HandS.IsInst
import HandS.Wide
import HandS.Style
import HandS.Flow
import HandS.Conv
import HandS.Walk
import HandS.Codes
import HandS.TupAny
import HandS.FStr
import HandS.Defaults
import HandS.MakeKw
import HandS.MakeKwOnly
import PySem.Challenge.RW_runlore_k04_faults
set_option Elab.async false
set_option linter.all false
set_option maxRecDepth 100000
set_option exponentiation.threshold 2000
namespace Rl
open PySem PySem.Spec PyProof.Rows L2
/-- what can be printed: data of bounded depth whose text is short enough -/
structure Prn (d : PyData) : Prop where
  sh : d.showable = true
  nd : d.hasDict = false
  dp : d.depth ≤ 60
  sz : d.shown.length ≤ sizeLine
def rRep (K : PySem.W.Frag) : List V → Hp → VK → Prop := fun xs H Q =>
  ∃ v d, xs = [v] ∧ Dp K H v d ∧ Prn d ∧ Q (.str d.shown) H
theorem meets_extT (l b : Addr) (items items2 : Array Value) (n : Nat) (hlong : (!items.isEmpty && Builtin.List.listTooLong (items.size + items2.size)) = false) (h1 : items.size ≤ sizeLine) (h2 : items.size + items2.size ≤ sizeLine + 1) :
    Meets (Builtin.«list.extend» ⟨[.ref l, .ref b], []⟩) (fun _ R s => s.heap.get? l = some { cls := .type "list", data := .seq items n } ∧ IsTup s.heap b items2 ∧
      R (.ok (.ret .none)) { s with heap := s.heap.update l (Obj.mapSeq fun x => x ++ items2) }) := by
  intro prog w A R s ⟨hl, ⟨o, ho, hc, n2, hd⟩, hR⟩
  show wpAny _ A.in1 (Builtin.List.listExtendWith (.ref l) (.ref b) .none) _ _ s
  unfold Builtin.List.listExtendWith
  refine wpAny_bind (wpAny_typeOf ⟨o, ho, hc⟩ ?_)
  have e1 : (Builtin.List.listSameRef (.ref l) (.ref b) || Value.type "tuple" == Value.type "list" || Value.type "tuple" == Value.type "tuple") = true := by simp
  simp only [e1, if_true]
  refine wpAny_bind ?_
  unfold Builtin.List.listItems
  refine wpAny_bind (wpAny_seqItems ho hd (wpAny_pure ?_))
  refine wpAny_bind ?_
  refine wpAny_bind (wpAny_seqItems hl rfl (wpAny_pure ?_))
  rw [hlong]
  show wpAny _ A.in1 (updateSeq l (· ++ items2) >>= fun _ => ret .none) _ _ s
  have h3 : (items ++ items2).size ≤ sizeLine + 1 := by rw [Array.size_append]; exact h2
  refine wpAny_bind (wpAny_updateSeq hl rfl ?_ h1 h3)
  exact wpAny_pure hR
section
variable {X : Cx}
theorem call_rep (hg : X.A.guards = some []) (hu : X.A.units + 64 < cLine) : CallR X (.builtin "repr") (rRep X.K) := by
  intro pins s σ H xs us Q I r h
  obtain ⟨v, d, rfl, hd, ⟨hs, hnd, hdep, hsz⟩, q⟩ := h
  obtain ⟨u, rfl, ru⟩ := vals1 r
  obtain ⟨as, rd⟩ := Dp.reads I d v u hd ru
  cases hd with
  | non =>
    cases ru
    exact PySem.P.repr_of_none ⟨.str _, H, I.tok _, ⟨_, rfl⟩, q⟩
  | bl b =>
    cases ru
    refine PySem.P.repr_of_bool ⟨.str (if b then "True" else "False"), H, I.tok _, ⟨_, rfl⟩, ?_⟩
    cases b <;> exact q
  | int i =>
    obtain ⟨t, rfl⟩ := ru
    exact PySem.P.repr_of_int (of_decide_eq_true (by simpa only [PyData.showable] using hs)) ⟨.str _, H, I.tok _, ⟨_, rfl⟩, q⟩
  | str x =>
    obtain ⟨t, rfl⟩ := ru
    exact PySem.P.repr_of_str ⟨.str _, H, I.tok _, ⟨_, rfl⟩, q⟩ hsz
  | lst h1 h2 =>
    cases ru
    exact repr_of_reads' rd hs (PyData.noDict_hsm hnd) hg (by omega) (fun _ _ e => e) (fun h' u tk hk => ⟨.str _, H, I.kept hk, ⟨_, rfl⟩, q⟩) hsz
  | tup h1 h2 =>
    cases ru
    exact repr_of_reads' rd hs (PyData.noDict_hsm hnd) hg (by omega) (fun _ _ e => e) (fun h' u tk hk => ⟨.str _, H, I.kept hk, ⟨_, rfl⟩, q⟩) hsz
/-- xs.extend(t), t a tuple -/
def rExtT (K : PySem.W.Frag) : V → List V → Hp → VK → Prop := fun x vs H Q =>
  ∃ l b xs zs, x = .ref l ∧ vs = [.ref b] ∧ H l = some (.lst xs) ∧ SqT K H b zs ∧ xs.length + zs.length ≤ sizeLine ∧ Q .non (upd H l (.lst (xs ++ zs)))
theorem mt_extT : MtM X "list.extend" (rExtT X.K) := by
  intro pins s σ H x vs v us Q I rx rv h
  obtain ⟨l, b, xs, zs, rfl, rfl, hH, hB, hz, q⟩ := h
  cases rx
  obtain ⟨u, rfl, ru⟩ := rv.one
  cases ru
  obtain ⟨z, its, n, r, hl, e⟩ := I.lstM hH
  obtain ⟨its2, r2, tp, hl2⟩ := I.tuple hB
  have hl3 := r2.length
  have hl4 := r.length
  have hsz : its.toArray.size + its2.toArray.size ≤ sizeLine := by rw [List.size_toArray, List.size_toArray]; omega
  have hlong : (!its.toArray.isEmpty && Builtin.List.listTooLong (its.toArray.size + its2.toArray.size)) = false := by
    rw [notLongL hsz, Bool.and_false]
  refine call_meets F.slot_list_extend ⟨_, e, rfl⟩ F.entry_list_extend (F.args_list_extend_2 _ _)
    (meets_extT l b its.toArray its2.toArray n hlong (by omega) (by omega)) ⟨e, tp, ?_⟩
  refine ⟨.non, _, I.lset (its' := its ++ its2) hH e (by simp) (r.append r2) ?_, rfl, q⟩
  rw [List.length_append]
  omega
end
/-! a def that may print (repr): called where nothing is being printed -/
section
variable {P : Program} {w : World} {K : PySem.W.Frag} {mg : Str → Option Value} {base : Heap} {CX : CXT}
structure FnG (P : Program) (w : World) (K : PySem.W.Frag) (mg : Str → Option Value) (base : Heap)
    (CX : CXT) (k : Nat) (f : Addr) (fd : FuncData) (ps : List Str) (sp : Sp) : Prop where
  len : ∀ ws H Q E, sp ws H Q E → ws.length = ps.length
  go : ∀ (B : Around) (out : List Env) (t : Shared) (H : Hp) (as : Args) (us : List Value) (ws : List V) (Q : VK) (E : XK), B.guards = some [] → Room k B →
    Env0 P w K mg base B out t H → BindsTo t fd as (ps.zip us) → Vals ws us → sp ws H Q E →
    codeAny (model P w) B (.call (.ref f) as) (CR CX out P w H t Q E) t
theorem FnOk.toG {k : Nat} {f : Addr} {fd : FuncData} {ps : List Str} {sp : Sp} (F : FnOk P w K mg base CX k f fd ps sp) : FnG P w K mg base CX k f fd ps sp :=
  ⟨F.len, fun B out t H as us ws Q E _ => F.run B out t H as us ws Q E⟩
theorem FnG.mono {j k : Nat} {f : Addr} {fd : FuncData} {ps : List Str} {sp : Sp} (F : FnG P w K mg base CX j f fd ps sp) (h : j ≤ k) : FnG P w K mg base CX k f fd ps sp :=
  ⟨F.len, fun B out t H as us ws Q E g r => F.go B out t H as us ws Q E g (r.mono h)⟩
theorem fnG_of {k : Nat} {f : Addr} {name qual : Str} {params : Arguments} {body : List Stmt} {scope : Scope} {dV kV doc pm cdv ct oc : Value} {an od : Option Addr} {osl : Array (Option Value)} {N ps : List Str} {sp : Sp}
    (lk : K.lookup f = some ⟨oc, od, .func (PySem.W.fnOf name qual params body scope dV kV doc pm an cdv ct), osl⟩) (hcd : PySem.W.codeIn K cdv qual = true) (S : FnScope N ps scope)
    (len : ∀ ws H Q E, sp ws H Q E → ws.length = ps.length)
    (hb : ∀ (B : Around) (out : List Env) (t : Shared) (H : Hp) (ws : List V) (Q : VK) (E : XK), B.guards = some [] → Room k (B.deeper (envOfC qual scope t.heap.objs.size f cdv)) → sp ws H Q E →
      ∃ r, PSs (cxOf CX P w K mg base N qual scope f cdv B out t H E) body r ∧ r { nx := fun _ H' => Q .non H', rt := Q } (start N ws) H) :
    FnG P w K mg base CX (k + 1) f (PySem.W.fnOf name qual params body scope dV kV doc pm an cdv ct) ps sp := by
  refine ⟨len, ?_⟩
  intro B out t H as us ws Q E hg hr ee bb rr hsp
  have hl := len _ _ _ _ hsp
  have kx : K.In t.heap := ee.mod.kin.keeps fun b o z => (ee.bs b o z).1
  have lm : t.heap.NoLimit := ee.mod.nolimit.keeps fun b o z => (ee.bs b o z).1
  have kinds : ∀ y ∈ ps.zip us, scope.names.lookup y.1 = some .local ∨ (scope.names.lookup y.1 = some .cell ∧
      ((cellsFrom (t.heap.objs.size + 1) scope.names []).lookup y.1).isSome = true) := by
    rintro ⟨n, v⟩ hy
    rcases S.par n (List.of_mem_zip hy).1 with q | q
    · exact Or.inl q
    · exact Or.inr ⟨q, PySem.W.cellsFrom_some _ _ _ (Or.inl q)⟩
  refine codeAny_call_function hr.depth (kx _ _ lk) rfl S.co S.gen rfl (PySem.W.codeRec_of kx hcd) (bb _ _ _ _ ?_)
  refine wpAny_newFunctionEnv_cells S.kind kinds fun env he t1 x => ?_
  subst he
  refine ⟨lm.keeps x.toInCall.keep, codeAny_func ?_⟩
  obtain ⟨r, ht, hq⟩ := hb B out t H ws Q E hg (hr.deeper _) hsp
  have J := inv_start (CX := CX) (E := E) S hr.hd ee hl rr x
  refine wpAny_mono (ht.run [] t1 (start N ws) H _ J hq) (fun fl t' hs => ?_) (fun _ _ hs => hs)
  cases fl with
  | brk => exact hs.elim fun _ z => z.elim fun _ z => z.2.elim
  | cont => exact hs.elim fun _ z => z.elim fun _ z => z.2.elim
  | ret u =>
    obtain ⟨v, _, H', J', rv, q⟩ := hs
    exact ⟨v, H', J'.os, J'.bare, J'.base, J'.hok, rv, q⟩
  | next =>
    obtain ⟨_, H', J', q⟩ := hs
    exact ⟨.non, H', J'.os, J'.bare, J'.base, J'.hok, rfl, q⟩
end
section
variable {X : Cx} {CX : CXT} {k : Nat} {f : Addr} {fd : FuncData} {ps : List Str} {sp : Sp} {ds : List Value} {dvs : List V} {E : XK} {x : Str} {p pos : Pos} {e : Expr} {es : List Expr} {t : TA}
theorem pe_callG (F : FnG X.prog X.w X.K X.mg X.base CX k f fd ps sp) (gd : X.A.guards = some []) (hr : Room k X.A) (hg : Gl X x) (hm : X.mg x = some (.ref f)) (hk : PySem.W.keepIn X.K (.ref f) = true)
    (hb : Binds X.K fd ps ds) (hd : Vals dvs ds) (hx : Passes CX X E) (ha : PA X (e :: es) t) (hdb : (x == ("__debug__" : Str)) = false := by decide)
    (he : starEach (e :: es) X.env = (false, eval e X.env) :: starEach es X.env := by rfl) (hpl : (backTo pos (starEach es X.env)).any (·.1) = false := by rfl) :
    PE X (.Call (.Name x p) (e :: es) [] pos) (tCall sp dvs E t) := by
  refine ⟨fun pins s σ H Q I h => wpAny_Call_Name_kw (ld_glob I hg hm ?_ hdb)⟩
  refine PySem.W.callWith_K (h₀ := X.base) I.ok.mod.kin hk ?_ he hpl
  refine thn (ha.run pos pins s σ H _ I h) fun us t1 ⟨ws, H1, J, r, q⟩ => ⟨J.kIn, ?_⟩
  have r2 : Vals (ws ++ dvs) (us ++ ds) := r.append hd
  have hl : (us ++ ds).length = ps.length := r2.length.symm.trans (F.len _ _ _ _ q)
  refine wpAny_call (codeAny_mono (F.go X.A X.stack t1 H1 ⟨us, []⟩ (us ++ ds) (ws ++ dvs) Q E gd hr J.env0 (hb t1 us J.kIn hl) r2 q) ?_)
  intro r t' hq
  cases r with
  | error z => exact hx pins σ H1 t1 z t' J hq
  | ok fl =>
    cases fl with
    | ret u => exact J.after hq
    | next => exact False.elim hq
    | brk => exact False.elim hq
    | cont => exact False.elim hq
end
/-! the law's own call, where its def may print -/
abbrev Tru (s₁ : Shared) (r : Result) (t : Shared) : Prop := r = .ok (.ret (.bool true)) ∧ OldK s₁.heap t.heap ∧ t.os = s₁.os ∧ AllBare t.gens
theorem law_core {P : Program} {w : World} {K : PySem.W.Frag} {mg mb : Str → Option Value} {k : Nat} {fa a : Addr} {fd : FuncData} {x : Str} {sp : Sp} {s₁ : Shared} {vs : List Value} {ns : List Int}
    (kx : K.In s₁.heap) (n1 : s₁.heap.Ns mainGlobals mg) (n2 : s₁.heap.Ns builtinsNs mb) (n3 : ∀ x : Str, x ≠ "__name__" → mb x = bootBuiltins x) (n4 : s₁.heap.NoLimit) (g0 : s₁.gens = #[])
    (oa : s₁.heap.get? a = some { cls := .type "list", data := .seq vs.toArray }) (hr : Room k callerA)
    (F : ∀ base : Heap, K.In base → base.Ns mainGlobals mg → FnG P w K mg base CX0 k fa fd [x] sp) (bd : ∀ (s : Shared) (u : Value), BindsTo s fd ⟨[u], []⟩ [(x, u)])
    (hsp : ∀ H : Hp, Only H → SqL K H a (ns.map V.int) → sp [.ref a] H (fun v _ => v = .bl true) fun _ _ _ => False)
    (H : Hp) (hO : Only H) (hS : SqL K H a (ns.map V.int)) (ok : HOk P w H s₁.heap) (hA : ∀ b, H b ≠ none → b = a) (hK : H a ≠ none → K.lookup a = none) :
    codeAny (model P w) callerA (.call (.ref fa) ⟨[.ref a], []⟩) (Tru s₁) s₁ := by
  have out : ∀ {b : Addr} {o : Obj} {es : Array DictEntry} {ep : Nat}, s₁.heap.get? b = some o → o.data = .dict es ep → H b = none := by
    intro b o es ep e d
    by_cases q : H b = none
    · exact q
    · have z := hA b q
      subst z
      rw [oa] at e
      cases e
      exact nomatch d
  have nsK : ∀ {b : Addr} {m : Str → Option Value}, s₁.heap.Ns b m → (hidT s₁.heap H).Ns b m := by
    rintro b m ⟨o, es, ep, e, d, r⟩
    exact ⟨o, es, ep, hidT_get e (out e d), d, r⟩
  have kb : K.In (hidT s₁.heap H) := by
    intro b o e
    refine hidT_get (kx b o e) ?_
    by_cases q : H b = none
    · exact q
    · have z := hA b q
      subst z
      have y := hK q
      rw [y] at e
      cases e
  have lim : (hidT s₁.heap H).NoLimit := by
    obtain ⟨mc, h1, h2⟩ := n4
    exact ⟨mc, nsK h1, h2⟩
  have md : Mod K mg (hidT s₁.heap H) := ⟨kb, nsK n1, ⟨mb, nsK n2, n3⟩, lim⟩
  have ee : Env0 P w K mg (hidT s₁.heap H) callerA [] s₁ H := by
    refine ⟨rfl, md, fun b o e => of_hidT e, Nat.le_of_eq (hidT_size _ _), trivial, ?_, ok, .of_eq g0⟩
    intro b hb
    exact absurd (show b ∈ ([] : List Addr) from hb) (by simp)
  have run := (F _ kb (nsK n1)).go callerA [] s₁ H ⟨[.ref a], []⟩ [.ref a] [.ref a] _ _ rfl hr ee (bd s₁ (.ref a)) (.cons rfl .nil) (hsp H hO hS)
  refine codeAny_mono run ?_
  intro r t h
  cases r with
  | error e => exact False.elim h
  | ok fl =>
    cases fl with
    | brk => exact False.elim h
    | cont => exact False.elim h
    | next => exact False.elim h
    | ret u =>
      obtain ⟨v, H', os, bare, un, ok', rv, q⟩ := h
      have q' : v = .bl true := q
      subst q'
      obtain rfl : u = Value.bool true := rv
      refine ⟨rfl, OldK.of_keep ?_, os, bare⟩
      intro b o e
      rcases hO b with z | ⟨ob, xs, z⟩
      · exact un.keep b o e z (fun y => absurd (show b ∈ ([] : List Addr) from y) (by simp)) (by simp)
      · obtain ⟨e1, _⟩ := ok b _ z
        obtain ⟨e2, _⟩ := ok' b _ (un.frzs b ob _ z)
        rw [e] at e1
        cases e1
        exact e2
theorem law_callG {P : Program} {w : World} {K : PySem.W.Frag} {mg mb : Str → Option Value} {k : Nat} {fa a : Addr} {fd : FuncData} {x : Str} {sp : Sp} {s₁ : Shared} {vs : List Value} {ns : List Int}
    (kx : K.In s₁.heap) (n1 : s₁.heap.Ns mainGlobals mg) (n2 : s₁.heap.Ns builtinsNs mb) (n3 : ∀ x : Str, x ≠ "__name__" → mb x = bootBuiltins x) (n4 : s₁.heap.NoLimit) (g0 : s₁.gens = #[])
    (oa : s₁.heap.get? a = some { cls := .type "list", data := .seq vs.toArray }) (hi : IntsAre vs ns) (hl : ns.length ≤ sizeLine) (hr : Room k callerA)
    (F : ∀ base : Heap, K.In base → base.Ns mainGlobals mg → FnG P w K mg base CX0 k fa fd [x] sp) (bd : ∀ (s : Shared) (u : Value), BindsTo s fd ⟨[u], []⟩ [(x, u)])
    (hsp : ∀ H : Hp, Only H → SqL K H a (ns.map V.int) → sp [.ref a] H (fun v _ => v = .bl true) fun _ _ _ => False) :
    codeAny (model P w) callerA (.call (.ref fa) ⟨[.ref a], []⟩) (Tru s₁) s₁ := by
  have rv := vals_ints hi
  have lv := rv.length
  rw [List.length_map] at lv
  have go := law_core (ns := ns) kx n1 n2 n3 n4 g0 oa hr F bd hsp
  by_cases hk : K.lookup a = none
  · refine go (fun b => if b = a then some (.frz { cls := .type "list", data := .seq vs.toArray } (.lst (ns.map V.int))) else none) ?_ ?_ ?_ ?_ (fun _ => hk)
    · intro b
      by_cases hb : b = a
      · exact Or.inr ⟨_, _, if_pos hb⟩
      · exact Or.inl (if_neg hb)
    · exact .inl (.inr ⟨{ cls := .type "list", data := .seq vs.toArray }, if_pos rfl⟩)
    · intro b u z
      by_cases hb : b = a
      · cases (if_pos hb).symm.trans z
        subst hb
        exact ⟨oa, by rw [List.length_map]; exact hl, vs, _, rv, oa⟩
      · cases (if_neg hb).symm.trans z
    · intro b z
      by_cases hb : b = a
      · exact hb
      · exact absurd (if_neg hb) z
  · obtain ⟨o, hk⟩ := Option.ne_none_iff_exists'.mp hk
    have e := kx a o hk
    rw [oa] at e
    cases e
    refine go (fun _ => none) (fun _ => .inl rfl) ?_ ?_ (fun b z => absurd rfl z) (fun z => absurd rfl z)
    · exact .inr ⟨_, vs.toArray, _, hk, rfl, rfl, rfl, by rw [List.size_toArray, ← lv]; exact hl, by simpa using rv⟩
    · intro b u z
      exact nomatch (show (none : Option HO) = some u from z)
theorem walkG {l : PySem.W.OpenLaw} {n k : Nat} {q : Program} {loose : List Str} {XP : (Str → Option Value) → Heap → Prop} {YP : World → Heap → Prop} {d : DefRec} {K : Params → PySem.W.Frag} {sp : PySem.W.Frag → Sp} {x : Str}
    (hn : l.most = some n) (hn2 : n ≤ sizeLine) (hdf : d.params.defaults = []) (hr : Room k callerA) (hY : ∀ (w : World) (h : Heap), YP w h → (K w.params).In h)
    (F : ∀ (w : World) (mg : Str → Option Value) (fa : Addr) (h : Heap), (K w.params).In h → h.Ns mainGlobals mg → mg d.name = some (.ref fa) →
      ∃ fd : FuncData, (∀ (s : Shared) (u : Value), BindsTo s fd ⟨[u], []⟩ [(x, u)]) ∧ ∀ base : Heap, (K w.params).In base → base.Ns mainGlobals mg → FnG l.prog w (K w.params) mg base CX0 k fa fd [x] (sp (K w.params)))
    (hsp : ∀ (K : PySem.W.Frag) (H : Hp) (a : Addr) (ns : List Int), ns.length ≤ n → Only H → SqL K H a (ns.map V.int) → sp K [.ref a] H (fun v _ => v = .bl true) fun _ _ _ => False) :
    PySem.W.WalkO q loose XP YP l.row.toRowW d [] (fun f vs => PySem.call f vs) := by
  refine Att.attach_call hn hdf ?_
  intro w s₀ s₁ mg mb fa o pm cd doc a vs ns G Y ho hd hcd hmg hobj hints hlen hg
  obtain ⟨fd, hb, hF⟩ := F w mg fa _ (hY w _ Y) G.T.g hmg
  exact law_callG (hY w _ Y) G.T.g G.T.b G.T.builtins G.T.nolimit hg hobj hints (Nat.le_trans hlen hn2) hr hF hb (fun H hO hS => hsp (K w.params) H a ns hlen hO hS)
/-! heaps: what is kept, but for some addresses -/
def cut (l : List Addr) (H : Hp) : Hp := fun b => if b ∈ l then none else H b
def Off (l : List Addr) (H H' : Hp) : Prop := Same (cut l H) (cut l H')
theorem cut_out {l : List Addr} {H : Hp} {b : Addr} (h : b ∉ l) : cut l H b = H b := if_neg h
theorem cut_in {l : List Addr} {H : Hp} {b : Addr} (h : b ∈ l) : cut l H b = none := if_pos h
theorem cut_some {l : List Addr} {H : Hp} {b : Addr} {o : HO} (h : cut l H b = some o) : b ∉ l ∧ H b = some o := by
  by_cases e : b ∈ l
  · rw [cut_in e] at h
    cases h
  · rw [cut_out e] at h
    exact ⟨e, h⟩
theorem same_new {H : Hp} {p : Addr} (h : H p = none) (o : HO) : Same H (upd H p o) := fun b u q => by
  rw [upd_ne (ne_of_none q h)]
  exact q
theorem cut_same (l : List Addr) (H : Hp) : Same (cut l H) H := fun _ _ h => (cut_some h).2
theorem Off.refl (l : List Addr) (H : Hp) : Off l H H := Same.refl _
theorem Off.trans {l : List Addr} {H H1 H2 : Hp} (a : Off l H H1) (b : Off l H1 H2) : Off l H H2 := Same.trans a b
theorem Off.of {l : List Addr} {H H' : Hp} (s : Same H H') : Off l H H' := fun b o h => by
  obtain ⟨n, e⟩ := cut_some h
  rw [cut_out n]
  exact s b o e
theorem Off.get {l : List Addr} {H H' : Hp} (s : Off l H H') {b : Addr} {o : HO} (h : H b = some o) (n : b ∉ l) : H' b = some o := by
  have q := s b o (by rw [cut_out n]; exact h)
  exact (cut_some q).2
theorem Off.mono {l m : List Addr} {H H' : Hp} (s : Off l H H') (h : ∀ b ∈ l, b ∈ m) : Off m H H' := fun b o e => by
  obtain ⟨n, e⟩ := cut_some e
  rw [cut_out n]
  exact s.get e fun z => n (h b z)
/-- a change at an address that is not counted -/
theorem Off.put {l : List Addr} {H : Hp} {p : Addr} {o : HO} (h : p ∈ l) : Off l H (upd H p o) := fun b u e => by
  obtain ⟨n, e⟩ := cut_some e
  rw [cut_out n, upd_ne (fun z => n (by rw [z]; exact h))]
  exact e
/-- an address that was free then -/
theorem Off.free {l : List Addr} {H H' : Hp} (s : Off l H H') {b : Addr} (h : H' b = none) (n : b ∉ l) : H b = none := by
  cases q : H b with
  | none => rfl
  | some o =>
    rw [s.get q n] at h
    cases h
/-! data -/
theorem seqT_up {K : PySem.W.Frag} {H H' : Hp} {a : Addr} {xs : List V} (s : Same H H') (h : SqT K H a xs) : SqT K H' a xs := by
  rcases h with (h | ⟨o, h⟩) | h
  · exact .inl (.inl (s _ _ h))
  · exact .inl (.inr ⟨o, s _ _ h⟩)
  · exact .inr h
mutual
theorem Dp.up {K : PySem.W.Frag} {H H' : Hp} (s : Same H H') : ∀ (d : PyData) (v : V), Dp K H v d → Dp K H' v d
  | .none, _, h => by cases h; exact .non
  | .bool b, _, h => by cases h; exact .bl b
  | .int i, _, h => by cases h; exact .int i
  | .str x, _, h => by cases h; exact .str x
  | .list ds, _, h => by
    cases h with
    | lst h1 h2 => exact .lst (s.seq h1) (Dp.ups s ds _ h2)
  | .tuple ds, _, h => by
    cases h with
    | tup h1 h2 => exact .tup (seqT_up s h1) (Dp.ups s ds _ h2)
  | .dict _, _, h => by cases h
theorem Dp.ups {K : PySem.W.Frag} {H H' : Hp} (s : Same H H') : ∀ (ds : List PyData) (vs : List V), DpAll K H vs ds → DpAll K H' vs ds
  | [], _, h => by cases h; exact .nil
  | d :: ds, _, h => by
    cases h with
    | cons h1 h2 => exact .cons (Dp.up s d _ h1) (Dp.ups s ds _ h2)
end
theorem DpAll.len {K : PySem.W.Frag} {H : Hp} : ∀ {vs : List V} {ds : List PyData}, DpAll K H vs ds → vs.length = ds.length
  | _, _, .nil => rfl
  | _, _, .cons _ t => congrArg (· + 1) (DpAll.len t)
theorem DpAll.get {K : PySem.W.Frag} {H : Hp} : ∀ {vs : List V} {ds : List PyData} {i : Nat} {v : V}, DpAll K H vs ds → vs[i]? = some v → ∃ d, ds[i]? = some d ∧ Dp K H v d
  | _, _, _, _, .nil, e => by simp at e
  | _, _, 0, _, .cons h _, e => by simp at e; subst e; exact ⟨_, rfl, h⟩
  | _, _, i + 1, _, .cons _ t, e => by
    obtain ⟨d, a, b⟩ := DpAll.get (i := i) t (by simpa using e)
    exact ⟨d, by simpa using a, b⟩
theorem DpAll.app {K : PySem.W.Frag} {H : Hp} : ∀ {vs ws : List V} {ds es : List PyData}, DpAll K H vs ds → DpAll K H ws es → DpAll K H (vs ++ ws) (ds ++ es)
  | _, _, _, _, .nil, s => s
  | _, _, _, _, .cons r t, s => .cons r (DpAll.app t s)
/-- the name of a thing's type -/
def tyN : PyData → String
  | .none => "NoneType"
  | .bool _ => "bool"
  | .int _ => "int"
  | .str _ => "str"
  | .list _ => "list"
  | .tuple _ => "tuple"
  | .dict _ => "dict"
theorem tyD {K : PySem.W.Frag} {H : Hp} {v : V} {d : PyData} (h : Dp K H v d) : TyX K H v (.type (tyN d)) := by
  cases h with
  | non => exact .base .non
  | bl b => exact .base (.bl b)
  | int i => exact .base (.int i)
  | str x => exact .base (.str x)
  | lst h _ =>
    rcases h with (h | ⟨o, h⟩) | ⟨o, its, n, h, c, _⟩
    · exact .base (.lst h)
    · exact .base (.frz h)
    · exact .kList h c
  | tup h _ =>
    rcases h with (h | ⟨o, h⟩) | ⟨o, its, n, h, c, _⟩
    · exact .base (.tup h)
    · exact .fTuple h
    · exact .kTuple h c
/-- isinstance(x, T) of data -/
def rIsD (K : PySem.W.Frag) : List V → Hp → VK → Prop := fun xs H Q =>
  ∃ v d T b, xs = [v, .ty T] ∧ Dp K H v d ∧ kitB (tyN d) T = some b ∧ Q (.bl b) H
theorem call_isD {X : Cx} : CallR X (.builtin "isinstance") (rIsD X.K) := by
  intro pins s σ H xs us Q I r h
  obtain ⟨v, d, T, b, rfl, hd, hk, q⟩ := h
  exact call_isi pins s σ H _ us Q I r ⟨v, .ty T, _, _, b, rfl, .ty T, tyD hd, kit_ty hk, q⟩
/-! the box that a law draws from -/
def bx (g : Addr) (n s t : Int) : List (Key × V) := [(Sum.inr "great", .ref g), (Sum.inr "now", .int n), (Sum.inr "seed", .int s), (Sum.inr "turn", .int t)]
structure Box (H : Hp) (p g : Addr) : Prop where
  ex : ∃ n s t gs, H p = some (.dK (bx g n s t)) ∧ H g = some (.lst (List.map V.int gs)) ∧ gs.length ≤ 1000
theorem Box.ne {H : Hp} {p g : Addr} (b : Box H p g) : p ≠ g := by
  obtain ⟨n, s, t, gs, h1, h2, _⟩ := b.ex
  exact ne_of h1 h2 (by intro z; cases z)
theorem Box.off {H H' : Hp} {p g : Addr} {l : List Addr} (b : Box H p g) (h : Off l H H') (n1 : p ∉ l) (n2 : g ∉ l) : Box H' p g := by
  obtain ⟨n, s, t, gs, h1, h2, h3⟩ := b.ex
  exact ⟨n, s, t, gs, h.get h1 n1, h.get h2 n2, h3⟩
theorem Box.same {H H' : Hp} {p g : Addr} (b : Box H p g) (h : Same H H') : Box H' p g := by
  obtain ⟨n, s, t, gs, h1, h2, h3⟩ := b.ex
  exact ⟨n, s, t, gs, h _ _ h1, h _ _ h2, h3⟩
theorem kgn : ¬ ((Sum.inr "great" : Key) = (Sum.inr "now" : Key)) := by decide +kernel
theorem kgs : ¬ ((Sum.inr "great" : Key) = (Sum.inr "seed" : Key)) := by decide +kernel
theorem kgt : ¬ ((Sum.inr "great" : Key) = (Sum.inr "turn" : Key)) := by decide +kernel
theorem kns : ¬ ((Sum.inr "now" : Key) = (Sum.inr "seed" : Key)) := by decide +kernel
theorem knt : ¬ ((Sum.inr "now" : Key) = (Sum.inr "turn" : Key)) := by decide +kernel
theorem kst : ¬ ((Sum.inr "seed" : Key) = (Sum.inr "turn" : Key)) := by decide +kernel
theorem knf (a b : Key) (h : ¬ a = b) : ¬ b = a := fun z => h z.symm
section
variable (g : Addr) (n s t : Int)
theorem bx_great : valV (bx g n s t) (Sum.inr "great" : Key) = some (.ref g) := by
  simp [valV, bx]
theorem bx_now : valV (bx g n s t) (Sum.inr "now" : Key) = some (.int n) := by
  simp only [valV, bx, List.find?_cons, decide_eq_false kgn, decide_true, Option.map_some]
theorem bx_seed : valV (bx g n s t) (Sum.inr "seed" : Key) = some (.int s) := by
  simp only [valV, bx, List.find?_cons, decide_eq_false kgs, decide_eq_false kns, decide_true, Option.map_some]
theorem bx_turn : valV (bx g n s t) (Sum.inr "turn" : Key) = some (.int t) := by
  simp only [valV, bx, List.find?_cons, decide_eq_false kgt, decide_eq_false knt, decide_eq_false kst, decide_true, Option.map_some]
theorem put_now (y : Int) : putK (bx g n s t) (Sum.inr "now" : Key) (.int y) = bx g y s t := by
  simp only [putK, bx, List.any_cons, List.map_cons, List.map_nil, decide_true, Bool.true_or, Bool.or_true, if_true, if_neg kgn, if_neg (knf _ _ kns), if_neg (knf _ _ knt)]
theorem put_seed (y : Int) : putK (bx g n s t) (Sum.inr "seed" : Key) (.int y) = bx g n y t := by
  simp only [putK, bx, List.any_cons, List.map_cons, List.map_nil, decide_true, Bool.true_or, Bool.or_true, if_true, if_neg kgs, if_neg kns, if_neg (knf _ _ kst)]
theorem put_turn (y : Int) : putK (bx g n s t) (Sum.inr "turn" : Key) (.int y) = bx g n s y := by
  simp only [putK, bx, List.any_cons, List.map_cons, List.map_nil, decide_true, Bool.true_or, Bool.or_true, if_true, if_neg kgt, if_neg knt, if_neg kst]
theorem mer_box : mergeK [] (bx g n s t) = bx g n s t := by
  simp only [mergeK, bx, List.foldl_cons, List.foldl_nil, putK, List.any_nil, List.any_cons, List.nil_append, List.cons_append, decide_eq_false kgn, decide_eq_false kgs, decide_eq_false kgt, decide_eq_false kns, decide_eq_false knt, decide_eq_false kst, Bool.or_false, if_neg Bool.false_ne_true]
end
/-! data that can be printed: small ints, short texts, few nodes -/
mutual
def gd : PyData → Bool
  | .none => true
  | .bool _ => true
  | .int i => decide (i.natAbs.log2 < 1920)
  | .str x => decide (x.length ≤ 100) && x.cps.toList.all fun c => decide (c < 128)
  | .list ds => gds ds
  | .tuple ds => gds ds
  | .dict _ => false
def gds : List PyData → Bool
  | [] => true
  | d :: ds => gd d && gds ds
end
mutual
def nod : PyData → Nat
  | .list ds => 1 + nods ds
  | .tuple ds => 1 + nods ds
  | .none => 1
  | .bool _ => 1
  | .int _ => 1
  | .str _ => 1
  | .dict _ => 1
def nods : List PyData → Nat
  | [] => 0
  | d :: ds => nod d + nods ds
end
mutual
theorem gd_sh : ∀ d : PyData, gd d = true → d.showable = true ∧ d.hasDict = false
  | .none, _ => ⟨by simp only [PyData.showable], by simp only [PyData.hasDict]⟩
  | .bool _, _ => ⟨by simp only [PyData.showable], by simp only [PyData.hasDict]⟩
  | .int i, h => ⟨by simpa only [PyData.showable, gd] using h, by simp only [PyData.hasDict]⟩
  | .str _, _ => ⟨by simp only [PyData.showable], by simp only [PyData.hasDict]⟩
  | .list ds, h => by
    have q := gds_sh ds (by simpa only [gd] using h)
    exact ⟨by simpa only [PyData.showable] using q.1, by simpa only [PyData.hasDict] using q.2⟩
  | .tuple ds, h => by
    have q := gds_sh ds (by simpa only [gd] using h)
    exact ⟨by simpa only [PyData.showable] using q.1, by simpa only [PyData.hasDict] using q.2⟩
  | .dict _, h => by simp [gd] at h
theorem gds_sh : ∀ ds : List PyData, gds ds = true → PyData.showableAll ds = true ∧ PyData.hasDictAll ds = false
  | [], _ => ⟨by simp only [PyData.showableAll], by simp only [PyData.hasDictAll]⟩
  | d :: ds, h => by
    simp only [gds, Bool.and_eq_true] at h
    have q1 := gd_sh d h.1
    have q2 := gds_sh ds h.2
    exact ⟨by simp only [PyData.showableAll, q1.1, q2.1, Bool.and_self], by simp only [PyData.hasDictAll, q1.2, q2.2, Bool.or_self]⟩
end
mutual
theorem gd_sz : ∀ d : PyData, gd d = true → d.shown.length + 2 ≤ 2000 * nod d
  | .none, _ => by
    simp only [PyData.shown, nod]
    decide +kernel
  | .bool b, _ => by
    simp only [PyData.shown, nod]
    cases b <;> decide +kernel
  | .int i, h => by
    have h1 : i.natAbs.log2 < 1920 := by simpa only [gd, decide_eq_true_eq] using h
    have q := int_text_len_1921 h1
    simp only [PyData.shown, nod]
    show (Str.ofString (toString i)).length + 2 ≤ _
    omega
  | .str x, h => by
    simp only [gd, Bool.and_eq_true, decide_eq_true_eq, List.all_eq_true] at h
    have q := StrLaws.reprText_len x (fun c hc => Nat.lt_of_lt_of_le (h.2 c hc) (by decide))
    simp only [PyData.shown, nod]
    omega
  | .list ds, h => by
    have q := gds_sz ds (by simpa only [gd] using h)
    have q2 := listText_len_le (PyData.shownAll ds)
    simp only [PyData.shown, nod]
    omega
  | .tuple ds, h => by
    have q := gds_sz ds (by simpa only [gd] using h)
    have q2 := tupleText_len_le (PyData.shownAll ds)
    simp only [PyData.shown, nod]
    omega
  | .dict _, h => by simp [gd] at h
theorem gds_sz : ∀ ds : List PyData, gds ds = true → ((PyData.shownAll ds).map (·.length)).sum + 2 * (PyData.shownAll ds).length ≤ 2000 * nods ds
  | [], _ => by simp [PyData.shownAll, nods]
  | d :: ds, h => by
    simp only [gds, Bool.and_eq_true] at h
    have q1 := gd_sz d h.1
    have q2 := gds_sz ds h.2
    simp only [PyData.shownAll, nods, List.map_cons, List.sum_cons, List.length_cons]
    omega
end
theorem prn_of {d : PyData} (h : gd d = true) (hn : nod d ≤ 8000) (hd : d.depth ≤ 60) : Prn d :=
  ⟨(gd_sh d h).1, (gd_sh d h).2, hd, by
    have q := gd_sz d h
    have e : sizeLine = 16777216 := by decide
    omega⟩
theorem gds_app : ∀ ds es : List PyData, gds (ds ++ es) = (gds ds && gds es)
  | [], es => by simp [gds]
  | d :: ds, es => by simp only [List.cons_append, gds, gds_app ds es, Bool.and_assoc]
theorem nods_app : ∀ ds es : List PyData, nods (ds ++ es) = nods ds + nods es
  | [], es => by simp [nods]
  | d :: ds, es => by simp only [List.cons_append, nods, nods_app ds es, Nat.add_assoc]
theorem nod_pos : ∀ d : PyData, 1 ≤ nod d
  | .list _ => by simp only [nod]; omega
  | .tuple _ => by simp only [nod]; omega
  | .none => by simp only [nod]; omega
  | .bool _ => by simp only [nod]; omega
  | .int _ => by simp only [nod]; omega
  | .str _ => by simp only [nod]; omega
  | .dict _ => by simp only [nod]; omega
theorem nods_len : ∀ ds : List PyData, ds.length ≤ nods ds
  | [] => Nat.le_refl _
  | d :: ds => by
    have := nod_pos d
    have := nods_len ds
    simp only [nods, List.length_cons]
    omega
theorem gds_mem : ∀ {ds : List PyData} {d : PyData}, gds ds = true → d ∈ ds → gd d = true
  | _ :: _, _, h, m => by
    simp only [gds, Bool.and_eq_true] at h
    rcases List.mem_cons.mp m with e | e
    · rw [e]
      exact h.1
    · exact gds_mem h.2 e
theorem nods_mem : ∀ {ds : List PyData} {d : PyData}, d ∈ ds → nod d ≤ nods ds
  | _ :: _, _, m => by
    simp only [nods]
    rcases List.mem_cons.mp m with e | e
    · rw [e]
      omega
    · have := nods_mem e
      omega
theorem depth_mem : ∀ {ds : List PyData} {d : PyData}, d ∈ ds → d.depth ≤ PyData.depthAll ds
  | _ :: _, _, m => by
    simp only [PyData.depthAll]
    rcases List.mem_cons.mp m with e | e
    · rw [e]
      omega
    · have := depth_mem e
      omega
theorem depthAll_app : ∀ ds es : List PyData, PyData.depthAll (ds ++ es) = max (PyData.depthAll ds) (PyData.depthAll es)
  | [], es => by simp [PyData.depthAll]
  | d :: ds, es => by simp only [List.cons_append, PyData.depthAll, depthAll_app ds es, Nat.max_assoc]
/-- built-in names that the top leaves as they are -/
structure Bi (mg : Str → Option Value) : Prop where
  ii : mg "isinstance" = none
  len : mg "len" = none
  all : mg "all" = none
  str : mg "str" = none
  tup : mg "tuple" = none
  int : mg "int" = none
  bool : mg "bool" = none
  rng : mg "range" = none
  rep : mg "repr" = none
  abs : mg "abs" = none
/-! names -/
def lowOk (c : Nat) : Bool := decide (97 ≤ c) && decide (c ≤ 122)
def isNm (x : Str) : Bool := decide (1 ≤ x.length) && decide (x.length ≤ 8) && x.cps.toList.all lowOk
mutual
def isVal : PyData → Bool
  | .int _ => true
  | .str x => isNm x
  | .tuple ds => isVals ds
  | .none => false
  | .bool _ => false
  | .list _ => false
  | .dict _ => false
def isVals : List PyData → Bool
  | [] => true
  | d :: ds => isVal d && isVals ds
end
theorem isVals_app : ∀ ds es : List PyData, isVals (ds ++ es) = (isVals ds && isVals es)
  | [], es => by simp [isVals]
  | d :: ds, es => by simp only [List.cons_append, isVals, isVals_app ds es, Bool.and_assoc]
def isTup : PyData → Bool
  | .tuple _ => true
  | _ => false
def nmD : PyData → Bool
  | .str x => isNm x
  | _ => false
def inD : PyData → Bool
  | .int _ => true
  | _ => false
def isStr : PyData → Bool
  | .str _ => true
  | _ => false
def isIntB : PyData → Bool
  | .int _ => true
  | .bool _ => true
  | _ => false
def isBool : PyData → Bool
  | .bool _ => true
  | _ => false
theorem kit_tup : ∀ d : PyData, kitB (tyN d) "tuple" = some (isTup d)
  | .none => (by decide +kernel : kitB "NoneType" "tuple" = some false)
  | .bool _ => (by decide +kernel : kitB "bool" "tuple" = some false)
  | .int _ => (by decide +kernel : kitB "int" "tuple" = some false)
  | .str _ => (by decide +kernel : kitB "str" "tuple" = some false)
  | .list _ => (by decide +kernel : kitB "list" "tuple" = some false)
  | .tuple _ => (by decide +kernel : kitB "tuple" "tuple" = some true)
  | .dict _ => (by decide +kernel : kitB "dict" "tuple" = some false)
theorem kit_str : ∀ d : PyData, kitB (tyN d) "str" = some (isStr d)
  | .none => (by decide +kernel : kitB "NoneType" "str" = some false)
  | .bool _ => (by decide +kernel : kitB "bool" "str" = some false)
  | .int _ => (by decide +kernel : kitB "int" "str" = some false)
  | .str _ => (by decide +kernel : kitB "str" "str" = some true)
  | .list _ => (by decide +kernel : kitB "list" "str" = some false)
  | .tuple _ => (by decide +kernel : kitB "tuple" "str" = some false)
  | .dict _ => (by decide +kernel : kitB "dict" "str" = some false)
theorem kit_int : ∀ d : PyData, kitB (tyN d) "int" = some (isIntB d)
  | .none => (by decide +kernel : kitB "NoneType" "int" = some false)
  | .bool _ => (by decide +kernel : kitB "bool" "int" = some true)
  | .int _ => (by decide +kernel : kitB "int" "int" = some true)
  | .str _ => (by decide +kernel : kitB "str" "int" = some false)
  | .list _ => (by decide +kernel : kitB "list" "int" = some false)
  | .tuple _ => (by decide +kernel : kitB "tuple" "int" = some false)
  | .dict _ => (by decide +kernel : kitB "dict" "int" = some false)
theorem kit_bool : ∀ d : PyData, kitB (tyN d) "bool" = some (isBool d)
  | .none => (by decide +kernel : kitB "NoneType" "bool" = some false)
  | .bool _ => (by decide +kernel : kitB "bool" "bool" = some true)
  | .int _ => (by decide +kernel : kitB "int" "bool" = some false)
  | .str _ => (by decide +kernel : kitB "str" "bool" = some false)
  | .list _ => (by decide +kernel : kitB "list" "bool" = some false)
  | .tuple _ => (by decide +kernel : kitB "tuple" "bool" = some false)
  | .dict _ => (by decide +kernel : kitB "dict" "bool" = some false)
theorem one_lt (c d : Nat) : (([c] : List Nat) < [d]) ↔ c < d := by
  constructor
  · intro h
    cases h with
    | rel h => exact h
    | cons h => cases h
  · intro h
    exact .rel h
theorem cps_a : (("a" : Str)).cps.toList = [97] := by decide +kernel
theorem cps_z : (("z" : Str)).cps.toList = [122] := by decide +kernel
theorem ge_a (c : Nat) : (!decide ((⟨#[c]⟩ : Str).cps.toList < ("a" : Str).cps.toList)) = decide (97 ≤ c) := by
  rw [cps_a]
  by_cases h : 97 ≤ c
  · have : ¬ ((⟨#[c]⟩ : Str).cps.toList < [97]) := fun z => by
      have := (one_lt c 97).mp z
      omega
    rw [decide_eq_false this, decide_eq_true h]
    rfl
  · have : ((⟨#[c]⟩ : Str).cps.toList < [97]) := (one_lt c 97).mpr (by omega)
    rw [decide_eq_true this, decide_eq_false h]
    rfl
theorem le_z (c : Nat) : (!decide (("z" : Str).cps.toList < (⟨#[c]⟩ : Str).cps.toList)) = decide (c ≤ 122) := by
  rw [cps_z]
  by_cases h : c ≤ 122
  · have : ¬ (([122] : List Nat) < (⟨#[c]⟩ : Str).cps.toList) := fun z => by
      have := (one_lt 122 c).mp z
      omega
    rw [decide_eq_false this, decide_eq_true h]
    rfl
  · have : (([122] : List Nat) < (⟨#[c]⟩ : Str).cps.toList) := (one_lt 122 c).mpr (by omega)
    rw [decide_eq_true this, decide_eq_false h]
    rfl
theorem gd_str {x : Str} (h : gd (.str x) = true) : x.length ≤ 100 := by
  simp only [gd, Bool.and_eq_true, decide_eq_true_eq] at h
  exact h.1
theorem len_cps (x : Str) : x.length = x.cps.size := rfl
theorem cps_at {x : Str} {i c : Nat} (h : x.cps[i]? = some c) : x.cps.toList[i]? = some c := by simpa using h
/-- what is found going along a list -/
theorem take_snoc {α β : Type} (f : α → β) {l : List α} {i : Nat} {a : α} (h : l[i]? = some a) : (l.take (i + 1)).map f = (l.take i).map f ++ [f a] := by
  rw [List.take_add_one, h, List.map_append]
  rfl
theorem all_map {α : Type} (f : α → Bool) : ∀ l : List α, (l.map f).all id = l.all f
  | [] => rfl
  | a :: l => by simp only [List.map_cons, List.all_cons, all_map f l, id]
/-! promises of those that only look -/
def spLook (K : PySem.W.Frag) (ok : PyData → Prop) (g : PyData → V) : Sp := fun vs H Q _ => ∃ v d, vs = [v] ∧ Dp K H v d ∧ ok d ∧ ∀ H', Same H H' → Q (g d) H'
theorem DpAll.unapp {K : PySem.W.Frag} {H : Hp} : ∀ {xs ys : List V} {ds : List PyData}, DpAll K H (xs ++ ys) ds → ∃ d1 d2, ds = d1 ++ d2 ∧ DpAll K H xs d1 ∧ DpAll K H ys d2
  | [], _, ds, h => ⟨[], ds, rfl, .nil, h⟩
  | x :: xs, _, _, h => by
    cases h with
    | cons h1 h2 =>
      obtain ⟨d1, d2, e, a, b⟩ := DpAll.unapp (xs := xs) h2
      exact ⟨_ :: d1, d2, by rw [e]; rfl, .cons h1 a, b⟩
theorem DpAll.last {K : PySem.W.Frag} {H : Hp} {xs : List V} {ds : List PyData} (h : DpAll K H xs ds) (hx : xs ≠ []) : ∃ xs' v ds' d, xs = xs' ++ [v] ∧ ds = ds' ++ [d] ∧ DpAll K H xs' ds' ∧ Dp K H v d := by
  have e := (List.dropLast_concat_getLast hx).symm
  rw [e] at h
  obtain ⟨d1, d2, e2, a, b⟩ := DpAll.unapp h
  cases b with
  | cons b1 b2 =>
    cases b2
    exact ⟨_, _, d1, _, e, e2, a, b1⟩
theorem last_at (xs : List V) (v : V) : (xs ++ [v])[(xs ++ [v]).length - 1]? = some v := by simp
theorem drop_last (xs : List V) (v : V) : (xs ++ [v]).dropLast = xs := by simp
theorem tup_of {K : PySem.W.Frag} {H : Hp} {v : V} {d : PyData} (h : Dp K H v d) (ht : isTup d = true) : ∃ a xs ds, v = .ref a ∧ d = .tuple ds ∧ SqT K H a xs ∧ DpAll K H xs ds := by
  cases h with
  | tup h1 h2 => exact ⟨_, _, _, rfl, rfl, h1, h2⟩
  | non => cases ht
  | bl b => cases ht
  | int i => cases ht
  | str x => cases ht
  | lst h1 h2 => cases ht
theorem isVal_no {d : PyData} (h1 : isTup d = false) : isVal d = (inD d || nmD d) := by
  cases d with
  | tuple ds => exact absurd (show true = false from h1) (by decide)
  | str x => simp only [isVal, inD, nmD, Bool.false_or]
  | int i => simp only [isVal, inD, nmD, Bool.true_or]
  | none => simp only [isVal, inD, nmD, Bool.or_self]
  | bool b => simp only [isVal, inD, nmD, Bool.or_self]
  | list b => simp only [isVal, inD, nmD, Bool.or_self]
  | dict b => simp only [isVal, inD, nmD, Bool.or_self]
/-- going along anything: what one turn does is B -/
theorem along {J : It} {n : Nat} {G : Hp → Prop} {Y : Nat → Hp → V → Hp → Prop} (w : Walk J n G Y) {B : (Hp → Prop) → V → Hp → Prop} {H0 : Hp} {Qd : Hp → Prop} (Pv : Nat → Hp → Prop) (h0 : Pv 0 H0) (hG : ∀ i H, i ≤ n → Pv i H → G H)
    (hs : ∀ i x H H', i < n → Pv i H → Y i H x H' → B (Pv (i + 1)) x H') (hd : ∀ H, Pv n H → Qd H) :
    ∃ W : Nat → Nat → Hp → Prop, (∃ m, W 0 m H0) ∧ ∀ i m H, W i m H → (J.stop i H ∧ Qd H) ∨ (J.go i H ∧ ∃ Nx : Hp → Prop, (∀ H', Nx H' → ∃ m', m' < m ∧ W (i + 1) m' H') ∧ ∀ x H', J.yld i H x H' → B Nx x H') := by
  refine ⟨fun i m H => i ≤ n ∧ m + i = n ∧ Pv i H, ⟨n, Nat.zero_le _, rfl, h0⟩, ?_⟩
  rintro i m H ⟨hi, hm, p⟩
  have gg := hG i H hi p
  by_cases lt : i < n
  · refine Or.inr ⟨w.goes i H lt gg, Pv (i + 1), ?_, ?_⟩
    · intro H' p'
      exact ⟨m - 1, by omega, by omega, by omega, p'⟩
    · intro x H' y
      exact hs i x H H' lt p (w.yields i H x H' lt gg y)
  · have e : i = n := by omega
    subst e
    exact Or.inl ⟨w.stops H gg, hd H p⟩
mutual
def dep : PyData → Nat
  | .tuple ds => 1 + deps ds
  | .none => 0
  | .bool _ => 0
  | .int _ => 0
  | .str _ => 0
  | .list _ => 0
  | .dict _ => 0
def deps : List PyData → Nat
  | [] => 0
  | d :: ds => max (dep d) (deps ds)
end
def kids : PyData → List PyData
  | .tuple ds => ds
  | _ => []
theorem deps_app : ∀ ds es : List PyData, deps (ds ++ es) = max (deps ds) (deps es)
  | [], es => by simp [deps]
  | d :: ds, es => by simp only [List.cons_append, deps, deps_app ds es, Nat.max_assoc]
theorem dep_no {d : PyData} (h : isTup d = false) : dep d = 0 := by
  cases d with
  | tuple ds => exact absurd (show true = false from h) (by decide)
  | str x => simp only [dep]
  | int i => simp only [dep]
  | none => simp only [dep]
  | bool b => simp only [dep]
  | list b => simp only [dep]
  | dict b => simp only [dep]
theorem deps_filter : ∀ ds : List PyData, deps (ds.filter isTup) = deps ds
  | [] => rfl
  | d :: ds => by
    cases h : isTup d with
    | true => simp only [List.filter_cons, h, if_true, deps, deps_filter ds]
    | false => simp only [List.filter_cons, h, Bool.false_eq_true, if_false, deps, deps_filter ds, dep_no h, Nat.zero_max]
theorem deps_kids : ∀ ds : List PyData, (∀ d ∈ ds, isTup d = true) → ds ≠ [] → deps ds = 1 + deps (ds.flatMap kids)
  | [], _, h => absurd rfl h
  | d :: ds, h, _ => by
    have hd := h d List.mem_cons_self
    have e1 : dep d = 1 + deps (kids d) := by
      cases d with
      | tuple es => simp only [dep, kids]
      | _ => cases hd
    rw [List.flatMap_cons, deps_app]
    simp only [deps]
    by_cases e : ds = []
    · subst e
      simp only [deps, List.flatMap_nil, e1]
      omega
    · have ih := deps_kids ds (fun x hx => h x (List.mem_cons_of_mem _ hx)) e
      rw [ih, e1]
      omega
theorem nods_kids : ∀ ds : List PyData, nods (ds.flatMap kids) ≤ nods ds
  | [] => Nat.le_refl _
  | d :: ds => by
    rw [List.flatMap_cons, nods_app]
    have ih := nods_kids ds
    have e : nods (kids d) ≤ nod d := by
      cases d <;> simp only [kids, nods, nod] <;> omega
    simp only [nods]
    omega
theorem nods_filter (p : PyData → Bool) : ∀ ds : List PyData, nods (ds.filter p) ≤ nods ds
  | [] => Nat.le_refl _
  | d :: ds => by
    have ih := nods_filter p ds
    have := nod_pos d
    cases h : p d with
    | true =>
      simp only [List.filter_cons, h, if_true, nods]
      omega
    | false =>
      simp only [List.filter_cons, h, Bool.false_eq_true, if_false, nods]
      omega
theorem nods_take (ds : List PyData) (i : Nat) : nods (ds.take i) ≤ nods ds := by
  have e := congrArg nods (List.take_append_drop i ds)
  rw [nods_app] at e
  omega
theorem get_take {α : Type} {l : List α} {i : Nat} {a : α} (h : l[i]? = some a) : l.take (i + 1) = l.take i ++ [a] := by
  rw [List.take_add_one, h]
  rfl
theorem call_isK {X : Cx} {K : PySem.W.Frag} (h : X.K = K) : CallR X (.builtin "isinstance") (rIsD K) := by
  subst h
  exact call_isD
theorem pi_tupK {X : Cx} {K : PySem.W.Frag} {tg l : Expr} {tl : TE} (h : X.K = K) (hl : PE X l tl) : PI X tg l (iTup K tl) := by
  subst h
  exact pi_tup hl
theorem pi_listK {X : Cx} {K : PySem.W.Frag} {tg l : Expr} {tl : TE} (h : X.K = K) (hl : PE X l tl) : PI X tg l (iList K tl) := by
  subst h
  exact pi_list hl
theorem b_ii : bootBuiltins "isinstance" = some (.builtin "isinstance") := by decide +kernel
theorem b_tup : bootBuiltins "tuple" = some (.type "tuple") := by decide +kernel
theorem b_all : bootBuiltins "all" = some (.builtin "all") := by decide +kernel
theorem b_str : bootBuiltins "str" = some (.type "str") := by decide +kernel
theorem b_int : bootBuiltins "int" = some (.type "int") := by decide +kernel
theorem b_bool : bootBuiltins "bool" = some (.type "bool") := by decide +kernel
theorem b_abs : bootBuiltins "abs" = some (.builtin "abs") := by decide +kernel
theorem b_rep : bootBuiltins "repr" = some (.builtin "repr") := by decide +kernel
theorem b_max : bootBuiltins "max" = some (.builtin "max") := by decide +kernel
theorem b_list : bootBuiltins "list" = some (.type "list") := by decide +kernel
/-! short texts of plain signs -/
structure Sm (n : Nat) (x : Str) : Prop where
  le : x.length ≤ n
  lo : ∀ c ∈ x.cps.toList, c < 128
theorem Sm.gd {n : Nat} {x : Str} (h : Sm n x) (hn : n ≤ 100) : Rl.gd (.str x) = true := by
  have h1 := h.le
  have h3 : x.length ≤ 100 := by omega
  have h2 : (x.cps.toList.all fun c => decide (c < 128)) = true := List.all_eq_true.mpr fun c hc => decide_eq_true (h.lo c hc)
  simp only [Rl.gd, decide_eq_true h3, h2, Bool.and_self]
theorem Sm.mono {n m : Nat} {x : Str} (h : Sm n x) (hn : n ≤ m) : Sm m x := ⟨Nat.le_trans h.le hn, h.lo⟩
theorem Sm.fits {n : Nat} {x : Str} (h : Sm n x) (hn : n ≤ 1000) : x.length ≤ sizeLine := Nat.le_trans h.le (Nat.le_of_lt (small1000 hn))
theorem app_cps (x y : Str) : (x ++ y).cps.toList = x.cps.toList ++ y.cps.toList := by
  show (x.cps ++ y.cps).toList = _
  simp
theorem Sm.app {n m : Nat} {x y : Str} (h : Sm n x) (g : Sm m y) : Sm (n + m) (x ++ y) := by
  refine ⟨?_, fun c hc => ?_⟩
  · rw [Str.length_append]
    have := h.le
    have := g.le
    omega
  · rw [app_cps] at hc
    rcases List.mem_append.mp hc with z | z
    · exact h.lo c z
    · exact g.lo c z
theorem Sm.cut {n : Nat} {x : Str} (h : Sm n x) (lo hi : Option Int) : Sm n (cutS x lo hi) := by
  refine ⟨Nat.le_trans (cutS_length x lo hi) h.le, fun c hc => h.lo c ?_⟩
  unfold cutS at hc
  exact List.mem_of_mem_drop (List.mem_of_mem_take (by simpa using hc))
theorem Sm.up {n : Nat} {x : Str} (h : Sm n x) : Sm n (Txt.upper x) := by
  rw [upper_ascii h.lo]
  refine ⟨?_, fun c hc => ?_⟩
  · have := h.le
    show (x.cps.map up1).size ≤ n
    rw [Array.size_map]
    exact this
  · rw [Array.toList_map] at hc
    obtain ⟨b, hb, rfl⟩ := List.mem_map.mp hc
    have := h.lo b hb
    unfold up1
    split <;> omega
theorem Sm.of {x : Str} {n : Nat} (h : (decide (x.length ≤ n) && x.cps.toList.all fun c => decide (c < 128)) = true) : Sm n x := by
  rw [Bool.and_eq_true] at h
  exact ⟨of_decide_eq_true h.1, fun c hc => of_decide_eq_true (List.all_eq_true.mp h.2 c hc)⟩
theorem Sm.join : ∀ (ys : List Str), (∀ y ∈ ys, Sm 1 y) → Sm ys.length (Txt.join "" ys) := by
  intro ys h
  rw [show Txt.join "" ys = Str.join "" ys from StrLaws.glued_eq_join "" ys]
  refine ⟨?_, fun c hc => ?_⟩
  · have q := StrLaws.join_length_le "" ys
    have e0 : (("" : Str)).length = 0 := by decide +kernel
    have s : (ys.map (·.length)).sum ≤ ys.length := by
      clear q
      induction ys with
      | nil => exact Nat.le_refl _
      | cons y r ih =>
        have h1 := (h y List.mem_cons_self).le
        have h2 := ih fun z hz => h z (List.mem_cons_of_mem _ hz)
        simp only [List.map_cons, List.sum_cons, List.length_cons]
        omega
    rw [e0] at q
    exact Nat.le_trans q (by simpa using s)
  · have q := (mem_join "" c ys).mp hc
    rcases q with ⟨t, ht, hc⟩ | ⟨_, hc⟩
    · exact (h t ht).lo c hc
    · have e0 : (("" : Str)).cps.toList = [] := by decide +kernel
      rw [e0] at hc
      cases hc
mutual
theorem gd_lay : ∀ d : PyData, gd d = true → d.canLay0 = true
  | .none, _ => by simp only [PyData.canLay0]
  | .bool _, _ => by simp only [PyData.canLay0]
  | .int _, _ => by simp only [PyData.canLay0]
  | .str x, h => by
    simp only [gd, Bool.and_eq_true, List.all_eq_true, decide_eq_true_eq] at h
    simp only [PyData.canLay0, PyData.strOk, Array.all_eq_true]
    intro i hi
    exact decide_eq_true (Nat.lt_trans (h.2 _ (by simp)) (by decide))
  | .list ds, h => by
    simp only [PyData.canLay0]
    exact gds_lay ds (by simpa only [gd] using h)
  | .tuple ds, h => by
    simp only [PyData.canLay0]
    exact gds_lay ds (by simpa only [gd] using h)
  | .dict _, h => by simp [gd] at h
theorem gds_lay : ∀ ds : List PyData, gds ds = true → PyData.canLayAll0 ds = true
  | [], _ => by simp only [PyData.canLayAll0]
  | d :: ds, h => by
    simp only [gds, Bool.and_eq_true] at h
    simp only [PyData.canLayAll0, gd_lay d h.1, gds_lay ds h.2, Bool.and_self]
end
theorem shaped_of {d : PyData} (h : gd d = true) (hd : d.depth ≤ 64) : SeqAt.shaped d = true := by
  show (d.canLay0 && decide (d.depth ≤ 64)) = true
  rw [gd_lay d h, decide_eq_true hd]
  rfl
theorem Box.notin {H : Hp} {p g a : Addr} (b : Box H p g) (h : H a = none) : a ∉ [p, g] := by
  obtain ⟨n, s, t, gs, h1, h2, _⟩ := b.ex
  intro z
  rcases List.mem_cons.mp z with e | z
  · rw [e, h1] at h
    cases h
  · rcases List.mem_cons.mp z with e | z
    · rw [e, h2] at h
      cases h
    · cases z
/-- all of these are tracked -/
def Tr (l : List Addr) (H : Hp) : Prop := ∀ b ∈ l, H b ≠ none
theorem off_new {l : List Addr} {H H' : Hp} {a : Addr} {o : HO} (h : Off l H H') (n : a ∉ l) (hn : H a = none) : Off l H (upd H' a o) := by
  intro b u e
  obtain ⟨nb, e⟩ := cut_some e
  rw [cut_out nb, upd_ne (ne_of_none e hn)]
  exact h.get e nb
theorem Box.put {H : Hp} {p g a : Addr} {o : HO} (b : Box H p g) (n : a ∉ [p, g]) : Box (upd H a o) p g := by
  obtain ⟨x, s, t, gs, h1, h2, h3⟩ := b.ex
  exact ⟨x, s, t, gs, by rw [upd_ne (fun z => n (by simp [← z]))]; exact h1, by rw [upd_ne (fun z => n (by simp [← z]))]; exact h2, h3⟩
theorem few {n : Nat} (h : n ≤ 1000) : n ≤ sizeLine := Nat.le_of_lt (small1000 h)
theorem cut_new {l : List Addr} {H : Hp} {a : Addr} {o : HO} (h : H a = none) : Same (cut l H) (cut l (upd H a o)) := Off.of (same_new h o)
theorem Tr.go {l m : List Addr} {H H' : Hp} (t : Tr l H) (o : Off m H H') (hm : ∀ b ∈ m, H' b ≠ none) : Tr l H' := fun b hb => by
  by_cases e : b ∈ m
  · exact hm b e
  · intro z
    exact t b hb (o.free z e)
theorem Box.tr {H : Hp} {p g : Addr} (b : Box H p g) : H p ≠ none ∧ H g ≠ none := by
  obtain ⟨x, s, t, gs, h1, h2, _⟩ := b.ex
  constructor
  · rw [h1]
    exact fun z => nomatch z
  · rw [h2]
    exact fun z => nomatch z
theorem ne_mem {l : List Addr} {a b : Addr} (n : a ∉ l) (h : b ∈ l) : b ≠ a := fun e => n (by rw [← e]; exact h)
theorem few2 {n : Nat} (h : n ≤ 100000) : n ≤ sizeLine := Nat.le_trans h (by decide)
theorem Tr.out {l : List Addr} {H : Hp} (t : Tr l H) {a : Addr} (h : H a = none) : a ∉ l := fun z => t a z h
theorem Tr.same {l : List Addr} {H H' : Hp} (t : Tr l H) (s : Same H H') : Tr l H' := fun b hb z => by
  cases q : H b with
  | none => exact t b hb q
  | some o =>
    rw [s b o q] at z
    cases z
theorem seqT_cut {K : PySem.W.Frag} {l : List Addr} {H : Hp} {a : Addr} {xs : List V} (h : SqT K (cut l H) a xs) : SqT K H a xs := seqT_up (cut_same l H) h
theorem cutV_all (xs : List V) (lo hi : Option Int) (h : HT.sIx xs.length 0 lo = 0 ∧ HT.sIx xs.length xs.length hi = xs.length) : cutV xs lo hi = xs := by
  unfold cutV
  rw [h.1, h.2]
  simp
/-- t + u, what comes of it, apart from the addresses l -/
def rCatU (K : PySem.W.Frag) : R2 := fun x y H Q => ∃ a b xs ys l, x = .ref a ∧ y = .ref b ∧ SqT K (cut l H) a xs ∧ SqT K (cut l H) b ys ∧ Tr l H ∧ xs.length + ys.length ≤ sizeLine ∧
  ∀ c H', Same H H' → SqT K (cut l H') c (xs ++ ys) → Q (.ref c) H'
theorem op_catU {X : Cx} : OpR X (binaryOp .Add) (rCatU X.K) := by
  intro pins s σ H x y v u Q I rx ry h
  obtain ⟨a, b, xs, ys, l, rfl, rfl, ha, hb, tl, hz, q⟩ := h
  refine op_catA pins s σ H _ _ v u Q I rx ry ⟨a, b, xs, ys, rfl, rfl, seqT_cut ha, seqT_cut hb, hz, ?_, ?_, ?_⟩
  · intro e
    exact q b H (Same.refl H) (by rw [e]; exact hb)
  · intro _ e
    exact q a H (Same.refl H) (by rw [e, List.append_nil]; exact ha)
  · intro _ _ c hc
    exact q c _ (same_new hc _) (.inl (.inl (by rw [cut_out (tl.out hc)]; exact upd_same)))
def rSlU (K : PySem.W.Frag) : V → Option Int → Option Int → Hp → VK → Prop := fun x lo hi H Q => ∃ a xs l, x = .ref a ∧ SqT K (cut l H) a xs ∧ Tr l H ∧
  ∀ c H', Same H H' → SqT K (cut l H') c (cutV xs lo hi) → Q (.ref c) H'
theorem sl_tupU {X : Cx} : SlR X (rSlU X.K) := by
  intro pins s σ H x v vl vu lo hi sl Q I rx hs pl pu h
  obtain ⟨a, xs, l, rfl, ha, tl, q⟩ := h
  refine sl_tupA pins s σ H _ v vl vu lo hi sl Q I rx hs pl pu ⟨a, xs, rfl, seqT_cut ha, ?_, ?_⟩
  · intro e
    exact q a H (Same.refl H) (by rw [cutV_all xs lo hi e]; exact ha)
  · intro _ c hc
    exact q c _ (same_new hc _) (.inl (.inl (by rw [cut_out (tl.out hc)]; exact upd_same)))
theorem cutV_take (xs : List V) {r : Int} (h0 : 0 ≤ r) (h : r ≤ (xs.length : Int)) : cutV xs none (some r) = xs.take r.toNat := by
  obtain ⟨n, rfl⟩ := Int.eq_ofNat_of_zero_le h0
  unfold cutV
  rw [HT.sIx_none, HT.sIx_nat]
  have : min n xs.length = n := by omega
  rw [this]
  rfl
theorem cutV_drop (xs : List V) {r : Int} (h0 : 0 ≤ r) (h : r ≤ (xs.length : Int)) : cutV xs (some r) none = xs.drop r.toNat := by
  obtain ⟨n, rfl⟩ := Int.eq_ofNat_of_zero_le h0
  unfold cutV
  rw [HT.sIx_none, HT.sIx_nat]
  have : min n xs.length = n := by omega
  rw [this]
  exact List.take_of_length_le (by rw [List.length_drop]; exact Nat.le_refl _)
/-! own classes: ==, !=, str, repr by the class's own defs -/
section
variable {X : Cx} {pins : List (Addr × Obj)} {σ : L2.St} {H : Hp} {s : Shared}
theorem run_at {A' : Around} {k : Nat} {f : Addr} {fd : FuncData} {ps : List Str} {sp : Sp} {us : List Value} {vs : List V} {Q : VK} {E' : Value → Shared → Prop}
    (F : FnOk X.prog X.w X.K X.mg X.base CX0 k f fd ps sp) (hr : Room k A') (ee : Env0 X.prog X.w X.K X.mg X.base A' X.stack s H) (hb : Binds X.K fd ps []) (I : Inv X pins σ H s) (r : Vals vs us) (h : sp vs H Q E0) :
    wpAny (model X.prog X.w) A' (call (.ref f) us) (EP X pins σ Q) E' s := by
  have hl : us.length = ps.length := r.length.symm.trans (F.len _ _ _ _ h)
  have bd := hb s us I.kIn (by rw [List.append_nil]; exact hl)
  rw [List.append_nil] at bd
  refine wpAny_call (codeAny_mono (F.run A' X.stack s H ⟨us, []⟩ us vs Q E0 hr ee bd r h) ?_)
  intro x t hq
  cases x with
  | error z => exact False.elim hq
  | ok fl =>
    cases fl with
    | ret u => exact I.after hq
    | next => exact False.elim hq
    | brk => exact False.elim hq
    | cont => exact False.elim hq
theorem dp_type {v : V} {d : PyData} {u : Value} (I : Inv X pins σ H s) (h : Dp X.K H v d) (r : RelV v u) : s.TypeIs u (tyN d) := by
  cases h with
  | non => cases r; rfl
  | bl b => cases r; rfl
  | int i => obtain ⟨t, rfl⟩ := r; rfl
  | str x => obtain ⟨t, rfl⟩ := r; rfl
  | lst h1 h2 =>
    cases r
    obtain ⟨its, _, ⟨o, n, ho, hc, _, _⟩, _⟩ := I.list h1
    exact ⟨o, ho, hc⟩
  | tup h1 h2 =>
    cases r
    obtain ⟨its, _, ⟨o, ho, hc, _⟩, _⟩ := I.tuple h1
    exact ⟨o, ho, hc⟩
theorem sub_looks {K : PySem.W.Frag} {h : Heap} {t c : Value} {b : Bool} (X : K.In h) (hk : PySem.W.kitOne K t c = some b) (hn : (t == c) = false) (M : Model) : PySem.W.Looks M h (isSubtype t c) b := by
  unfold PySem.W.kitOne at hk
  rw [hn] at hk
  exact (PySem.W.kit_cls X (by simpa using hk)).2.2
end
/-- what an own class says of its special names, and that built-in data are none of it -/
structure OwnC (K : PySem.W.Frag) (C fE : Addr) : Prop where
  c : C8.InsC K C
  eq : Meth K C "__eq__" fE
  ne : PySem.W.findIn K (.ref C) "__ne__" = some (some (.builtin "object.__ne__"))
  k1 : PySem.W.kitOne K (.type "NoneType") (.ref C) = some false
  k2 : PySem.W.kitOne K (.type "bool") (.ref C) = some false
  k3 : PySem.W.kitOne K (.type "int") (.ref C) = some false
  k4 : PySem.W.kitOne K (.type "str") (.ref C) = some false
  k5 : PySem.W.kitOne K (.type "list") (.ref C) = some false
  k6 : PySem.W.kitOne K (.type "tuple") (.ref C) = some false
  j1 : PySem.W.kitOne K (.ref C) (.type "NoneType") = some false
  j2 : PySem.W.kitOne K (.ref C) (.type "bool") = some false
  j3 : PySem.W.kitOne K (.ref C) (.type "int") = some false
  j4 : PySem.W.kitOne K (.ref C) (.type "str") = some false
  j5 : PySem.W.kitOne K (.ref C) (.type "list") = some false
  j6 : PySem.W.kitOne K (.ref C) (.type "tuple") = some false
theorem OwnC.of {K : PySem.W.Frag} {C fE : Addr} (o : OwnC K C fE) {H : Hp} {v : V} {d : PyData} (h : Dp K H v d) : PySem.W.kitOne K (.type (tyN d)) (.ref C) = some false ∧ PySem.W.kitOne K (.ref C) (.type (tyN d)) = some false := by
  cases h with
  | non => exact ⟨o.k1, o.j1⟩
  | bl b => exact ⟨o.k2, o.j2⟩
  | int i => exact ⟨o.k3, o.j3⟩
  | str x => exact ⟨o.k4, o.j4⟩
  | lst h1 h2 => exact ⟨o.k5, o.j5⟩
  | tup h1 h2 => exact ⟨o.k6, o.j6⟩
section
variable {X : Cx} {C fE : Addr} {k : Nat} {fd : FuncData} {sp : Sp}
theorem inst_at {pins : List (Addr × Obj)} {σ : L2.St} {H : Hp} {s : Shared} {a dx : Addr} {fs : List (Str × V)} (I : Inv X pins σ H s) (ha : H a = some (.ins C dx fs)) : ∃ ox od, PySem.W.InstAt s.heap a ox C od := by
  obtain ⟨mA, O, _⟩ := ins_get I.hok ha
  obtain ⟨od, J, _⟩ := O.look
  exact ⟨_, od, J⟩
/-- x == y, x of the class: its own __eq__ tells -/
def rEqL (C : Addr) (sp : Sp) (K : PySem.W.Frag) : R2 := fun x y H Q => ∃ a dx fs, x = .ref a ∧ H a = some (.ins C dx fs) ∧ ((∃ d, Dp K H y d) ∨ ∃ b dy gs, y = .ref b ∧ H b = some (.ins C dy gs)) ∧
  sp [x, y] H (fun v H' => ∃ b, v = .bl b ∧ Q (.bl b) H') E0
theorem op_eqL (O : OwnC X.K C fE) (F : FnOk X.prog X.w X.K X.mg X.base CX0 k fE fd ["self", "other"] sp) (hb : Binds X.K fd ["self", "other"] []) (hr : Room k X.A) : OpR X (compareOp .Eq) (rEqL C sp X.K) := by
  intro pins s σ H x y v u Q I rx ry h
  obtain ⟨a, dx, fs, rfl, ha, hy, q⟩ := h
  cases (show v = Value.ref a from rx)
  obtain ⟨ox, od, J⟩ := inst_at I ha
  have run := run_at (E' := X.xe) F hr I.env0 hb I (.cons rx (.cons ry .nil)) q
  have fin : wpAny (model X.prog X.w) X.A (tryCompare (.ref a) (Str.ofString "__eq__") u) (fun r t => ∃ b, r = some (Value.bool b) ∧ EP X pins σ Q (.bool b) t) X.xe s := by
    unfold tryCompare
    refine wpAny_bind (PySem.W.ifBound_K I.kIn J O.eq.at_ O.eq.fn (wpAny_mono run (fun r t hq => ?_) fun _ _ z => z))
    obtain ⟨v', H', I', rv, b, rfl, q'⟩ := hq
    cases (show r = Value.bool b from rv)
    exact wpAny_pure ⟨b, rfl, .bl b, H', I', rfl, q'⟩
  show wpAny _ _ (richCompare .Eq (.ref a) u) _ _ _
  unfold richCompare
  simp only [oneThing_ref]
  refine wpAny_holding ?_
  refine wpAny_bind (wpAny_cRoomFor hr.units0 ?_)
  refine wpAny_bind (J.type.here ?_)
  rcases hy with ⟨d, hd⟩ | ⟨b, dy, gs, rfl, hb2⟩
  · have ty := dp_type I hd ry
    have kk := O.of hd
    refine wpAny_bind (wpAny_typeOf ty ?_)
    have ne : (Value.ref C != Value.type (tyN d)) = true := rfl
    simp only [ne, if_true]
    refine wpAny_bind ((sub_looks I.kIn kk.1 rfl _).here ?_)
    simp only [Bool.false_eq_true, if_false]
    refine wpAny_bind (m := tryCompare (.ref a) (Str.ofString "__eq__") u) (wpAny_mono fin (fun r t hq => ?_) fun _ _ z => z)
    obtain ⟨b, rfl, hq⟩ := hq
    exact wpAny_pure hq
  · cases (show u = Value.ref b from ry)
    obtain ⟨oy, oe, J2⟩ := inst_at I hb2
    refine wpAny_bind (J2.type.here ?_)
    have ne : (Value.ref C != Value.ref C) = false := by simp
    simp only [ne, Bool.false_eq_true, if_false]
    refine wpAny_bind (wpAny_pure ?_)
    simp only [Bool.false_eq_true, if_false]
    refine wpAny_bind (m := tryCompare (.ref a) (Str.ofString "__eq__") (.ref b)) (wpAny_mono fin (fun r t hq => ?_) fun _ _ z => z)
    obtain ⟨b, rfl, hq⟩ := hq
    exact wpAny_pure hq
end
open AutoSeq1 (wpAny_loadPart')
/-! == of built-in data and an instance: the data decline -/
abbrev plainObj (C : Addr) (dd : Option Addr) (sl : Array (Option Value)) : Obj := { cls := .ref C, dict := dd, data := .plain, slots := sl }
theorem str_declines (b : Str) (u : Tok) (l C : Addr) (dd : Option Addr) (sl : Array (Option Value)) :
    Meets (Builtin.«str.__eq__» ⟨[.str b u, .ref l], []⟩) (fun _ R s => s.heap.get? l = some (plainObj C dd sl) ∧ R (.ok (.ret .notImplemented)) s) :=
  .of_wp fun prog w A R s h => by
    obtain ⟨hp, g, d, tk, os⟩ := s
    obtain ⟨hl, h⟩ := h
    wp_walk using wpAny_loadPart' hl, wpAny_load hl
    exact ⟨_, rfl, h⟩
theorem int_declines (b : Int) (u : Tok) (l C : Addr) (dd : Option Addr) (sl : Array (Option Value)) :
    Meets (Builtin.«int.__eq__» ⟨[.int b u, .ref l], []⟩) (fun _ R s => s.heap.get? l = some (plainObj C dd sl) ∧ R (.ok (.ret .notImplemented)) s) :=
  .of_wp fun prog w A R s h => by
    obtain ⟨hp, g, d, tk, os⟩ := s
    obtain ⟨hl, h⟩ := h
    wp_walk using wpAny_loadPart' hl, wpAny_load hl
    exact ⟨_, rfl, h⟩
theorem bool_declines (b : Bool) (l C : Addr) (dd : Option Addr) (sl : Array (Option Value)) :
    Meets (Builtin.«int.__eq__» ⟨[.bool b, .ref l], []⟩) (fun _ R s => s.heap.get? l = some (plainObj C dd sl) ∧ R (.ok (.ret .notImplemented)) s) :=
  .of_wp fun prog w A R s h => by
    obtain ⟨hp, g, d, tk, os⟩ := s
    obtain ⟨hl, h⟩ := h
    wp_walk using wpAny_loadPart' hl, wpAny_load hl
    exact ⟨_, rfl, h⟩
theorem sub_wp {M : Model} {A : Around} {E : Value → Shared → Prop} {s : Shared} {c t : Value} {b : Bool} {Q : Bool → Shared → Prop} (h : ∀ M, PySem.W.Looks M s.heap (isSubtype c t) b) (q : Q b s) : wpAny M A (isSubtype c t) Q E s := (h M).here q
theorem list_declines (a l C : Addr) (dd : Option Addr) (sl : Array (Option Value)) (o : Obj) :
    Meets (Builtin.«list.__eq__» ⟨[.ref a, .ref l], []⟩) (fun _ R s => s.heap.get? a = some o ∧ s.heap.get? l = some (plainObj C dd sl) ∧ (∀ M, PySem.W.Looks M s.heap (isSubtype (.ref C) (.type "list")) false) ∧ R (.ok (.ret .notImplemented)) s) :=
  .of_wp fun prog w A R s h => by
    obtain ⟨hp, g, d, tk, os⟩ := s
    obtain ⟨ha, hl, hs, h⟩ := h
    wp_walk using wpAny_loadPart' hl, wpAny_load hl, sub_wp hs
    exact ⟨_, rfl, h⟩
theorem tuple_declines (a l C : Addr) (dd : Option Addr) (sl : Array (Option Value)) (o : Obj) :
    Meets (Builtin.«tuple.__eq__» ⟨[.ref a, .ref l], []⟩) (fun _ R s => s.heap.get? a = some o ∧ s.heap.get? l = some (plainObj C dd sl) ∧ (∀ M, PySem.W.Looks M s.heap (isSubtype (.ref C) (.type "tuple")) false) ∧ R (.ok (.ret .notImplemented)) s) :=
  .of_wp fun prog w A R s h => by
    obtain ⟨hp, g, d, tk, os⟩ := s
    obtain ⟨ha, hl, hs, h⟩ := h
    wp_walk using wpAny_loadPart' hl, wpAny_load hl, sub_wp hs
    exact ⟨_, rfl, h⟩
section
variable {X : Cx} {C fE : Addr} {k : Nat} {fd : FuncData} {sp : Sp}
/-- the built-in type's own __eq__ declines -/
theorem data_declines {pins : List (Addr × Obj)} {σ : L2.St} {H : Hp} {s : Shared} {A : Around} {E : Value → Shared → Prop} {x : V} {d : PyData} {v : Value} {b dx : Addr} {fs : List (Str × V)} {Q : Option Value → Shared → Prop} (I : Inv X pins σ H s)
    (hs : ∀ M, PySem.W.Looks M s.heap (isSubtype (.ref C) (.type (tyN d))) false)
    (hd : Dp X.K H x d) (rx : RelV x v) (hb : H b = some (.ins C dx fs)) (q : Q none s) : wpAny (model X.prog X.w) A (tryCompare v (Str.ofString "__eq__") (.ref b)) Q E s := by
  obtain ⟨mA, O, _⟩ := ins_get I.hok hb
  have ob := O.obj
  cases hd with
  | non =>
    cases rx
    exact wpAny_tryCompare_declines (T := "NoneType") rfl F.slot_NoneType_eq (call_gives F.slot_NoneType_eq rfl F.entry_NoneType_eq (F.args_NoneType_eq_2 _ _) (SeqAt.NoneType___eq___none_ref_0 b) ⟨rfl, q⟩)
  | bl z =>
    cases rx
    exact wpAny_tryCompare_declines (T := "bool") rfl F.slot_bool_eq (call_meets F.slot_bool_eq rfl F.entry_int_eq (F.args_int_eq_2 _ _) (bool_declines z b C _ _) ⟨ob, ⟨rfl, q⟩⟩)
  | int i =>
    obtain ⟨t, rfl⟩ := rx
    exact wpAny_tryCompare_declines (T := "int") rfl F.slot_int_eq (call_meets F.slot_int_eq rfl F.entry_int_eq (F.args_int_eq_2 _ _) (int_declines i t b C _ _) ⟨ob, ⟨rfl, q⟩⟩)
  | str y =>
    obtain ⟨t, rfl⟩ := rx
    exact wpAny_tryCompare_declines (T := "str") rfl F.slot_str_eq (call_meets F.slot_str_eq rfl F.entry_str_eq (F.args_str_eq_2 _ _) (str_declines y t b C _ _) ⟨ob, ⟨rfl, q⟩⟩)
  | lst h1 h2 =>
    cases rx
    obtain ⟨its, _, ⟨o, n, ho, hc, _, _⟩, _⟩ := I.list h1
    exact wpAny_tryCompare_declines (T := "list") ⟨o, ho, hc⟩ F.slot_list_eq (call_meets F.slot_list_eq ⟨o, ho, hc⟩ F.entry_list_eq (F.args_list_eq_2 _ _) (list_declines _ b C _ _ o) ⟨ho, ob, hs, ⟨rfl, q⟩⟩)
  | tup h1 h2 =>
    cases rx
    obtain ⟨its, _, ⟨o, ho, hc, _⟩, _⟩ := I.tuple h1
    exact wpAny_tryCompare_declines (T := "tuple") ⟨o, ho, hc⟩ F.slot_tuple_eq (call_meets F.slot_tuple_eq ⟨o, ho, hc⟩ F.entry_tuple_eq (F.args_tuple_eq_2 _ _) (tuple_declines _ b C _ _ o) ⟨ho, ob, hs, ⟨rfl, q⟩⟩)
/-- x == y, y of the class, x built-in data: y's own __eq__ tells -/
def rEqR (C : Addr) (sp : Sp) (K : PySem.W.Frag) : R2 := fun x y H Q => ∃ b dy gs d, y = .ref b ∧ H b = some (.ins C dy gs) ∧ Dp K H x d ∧ sp [y, x] H (fun v H' => ∃ z, v = .bl z ∧ Q (.bl z) H') E0
theorem op_eqR (O : OwnC X.K C fE) (F : FnOk X.prog X.w X.K X.mg X.base CX0 k fE fd ["self", "other"] sp) (hb : Binds X.K fd ["self", "other"] []) (hr : Room k X.A) : OpR X (compareOp .Eq) (rEqR C sp X.K) := by
  intro pins s σ H x y v u Q I rx ry h
  obtain ⟨b, dy, gs, d, rfl, ha, hd, q⟩ := h
  cases (show u = Value.ref b from ry)
  obtain ⟨ox, od, J⟩ := inst_at I ha
  have run := run_at (E' := X.xe) F hr I.env0 hb I (.cons ry (.cons rx .nil)) q
  have ty := dp_type I hd rx
  have kk := O.of hd
  have sb := sub_looks I.kIn kk.2 rfl
  have fin : wpAny (model X.prog X.w) X.A (tryCompare (.ref b) (Str.ofString "__eq__") v) (fun r t => ∃ b, r = some (Value.bool b) ∧ EP X pins σ Q (.bool b) t) X.xe s := by
    unfold tryCompare
    refine wpAny_bind (PySem.W.ifBound_K I.kIn J O.eq.at_ O.eq.fn (wpAny_mono run (fun r t hq => ?_) fun _ _ z => z))
    obtain ⟨v', H', I', rv, b, rfl, q'⟩ := hq
    cases (show r = Value.bool b from rv)
    exact wpAny_pure ⟨b, rfl, .bl b, H', I', rfl, q'⟩
  show wpAny _ _ (richCompare .Eq v (.ref b)) _ _ _
  unfold richCompare
  simp only [ty.oneThing_none]
  refine wpAny_holding ?_
  refine wpAny_bind (wpAny_cRoomFor hr.units0 ?_)
  refine wpAny_bind (wpAny_typeOf ty ?_)
  refine wpAny_bind (J.type.here ?_)
  have ne : (Value.type (tyN d) != Value.ref C) = true := rfl
  simp only [ne, if_true]
  refine wpAny_bind ((sb _).here ?_)
  simp only [Bool.false_eq_true, if_false]
  refine wpAny_bind (m := tryCompare v (Str.ofString "__eq__") (.ref b)) (data_declines I sb hd rx ha ?_)
  simp only [Bool.not_false, if_true]
  refine wpAny_bind (m := tryCompare (.ref b) (Str.ofString "__eq__") v) (wpAny_mono fin (fun r t hq => ?_) fun _ _ z => z)
  obtain ⟨z, rfl, hq⟩ := hq
  exact wpAny_pure hq
theorem ifBound_b {M : Model} {A : Around} {E : Value → Shared → Prop} {s : Shared} {K : PySem.W.Frag} {x C : Addr} {ox : Obj} {od : Option Obj} {name : Str} {id : String} {args : List Value} {Q : Option Value → Shared → Prop} (X : K.In s.heap) (I : PySem.W.InstAt s.heap x ox C od)
    (hs : PySem.W.findIn K (.ref C) name = some (some (.builtin id))) (hb : ∀ self, bindSpecial (.builtin id) self = pure (.builtin id, [self])) (h : wpAny M A (call (.builtin id) (.ref x :: args)) (fun v => Q (some v)) E s) :
    wpAny M A (callSpecialIfBound? (.ref x) name args) Q E s := by
  simp only [callSpecialIfBound?, bindSpecialIfBound?]
  refine wpAny_holding (wpAny_bind (wpAny_bind (wpAny_bind (I.type.here ((PySem.W.looks_findIn X hs).here ?_)))))
  refine wpAny_bind (wpAny_askSetting (wpAny_ite ?_))
  have fin : wpAny M A (call (.builtin id) ([.ref x] ++ args) >>= fun v => pure (some v)) Q E s := wpAny_bind (wpAny_mono h (fun _ _ z => wpAny_pure z) fun _ _ z => z)
  split
  · exact wpAny_bind ((PySem.W.Looks.of_pure (hb _)).here (wpAny_pure (by exact fin)))
  · exact wpAny_tryCatch (wpAny_bind ((PySem.W.Looks.of_pure (hb _)).here (wpAny_pure (by exact fin))))
/-- x != y, x of the class (which has no own __ne__): not what its own __eq__ tells -/
def rNeL (C : Addr) (sp : Sp) (K : PySem.W.Frag) : R2 := fun x y H Q => ∃ a dx fs, x = .ref a ∧ H a = some (.ins C dx fs) ∧ ((∃ d, Dp K H y d) ∨ ∃ b dy gs, y = .ref b ∧ H b = some (.ins C dy gs)) ∧
  sp [x, y] H (fun v H' => ∃ b, v = .bl b ∧ Q (.bl (!b)) H') E0
theorem op_neL (O : OwnC X.K C fE) (F : FnOk X.prog X.w X.K X.mg X.base CX0 k fE fd ["self", "other"] sp) (hb : Binds X.K fd ["self", "other"] []) (hr : Room (k + 1) X.A) : OpR X (compareOp .NotEq) (rNeL C sp X.K) := by
  intro pins s σ H x y v u Q I rx ry h
  obtain ⟨a, dx, fs, rfl, ha, hy, q⟩ := h
  cases (show v = Value.ref a from rx)
  obtain ⟨ox, od, J⟩ := inst_at I ha
  have run := run_at (E' := X.xe) F hr.in1 I.env0.in1 hb I (.cons rx (.cons ry .nil)) q
  have body : wpAny (model X.prog X.w) X.A (call (.builtin "object.__ne__") [.ref a, u]) (fun v t => ∃ b, v = Value.bool b ∧ EP X pins σ Q (.bool b) t) X.xe s := by
    refine wpAny_call (codeAny_call_builtin PySem.F.slot_object_ne.plain PySem.F.entry_object_ne (PySem.W.check_slot (i := "object.__ne__") (owner := "object") (n := "__ne__") (by decide +kernel) (by decide +kernel) (J.type.andThen (PySem.W.looks_mroIn I.kIn O.c.hm)) (PySem.F.args_object_ne_2 _ _) ?_))
    unfold Builtin.«object.__ne__»
    refine wpAny_bind (m := slotArgs "__ne__" 1 _) (wpAny_pure ?_)
    refine wpAny_bind (m := cRoomFor _ _) (wpAny_cRoomFor (by have := hr.units; show X.A.units + 1 < cLine; omega) ?_)
    refine wpAny_bind (m := callSpecialIfBound? (.ref a) (Str.ofString "__eq__") [u]) (PySem.W.ifBound_K I.kIn J O.eq.at_ O.eq.fn (wpAny_mono run (fun r t hq => ?_) fun _ _ z => z))
    obtain ⟨v', H', I', rv, b, rfl, q'⟩ := hq
    cases (show r = Value.bool b from rv)
    refine wpAny_bind (m := truthy (.bool b)) (wpAny_truthy_bool ?_)
    exact wpAny_pure ⟨!b, rfl, .bl (!b), H', I', rfl, q'⟩
  have fin : wpAny (model X.prog X.w) X.A (tryCompare (.ref a) (Str.ofString "__ne__") u) (fun r t => ∃ b, r = some (Value.bool b) ∧ EP X pins σ Q (.bool b) t) X.xe s := by
    unfold tryCompare
    refine wpAny_bind (ifBound_b I.kIn J O.ne PySem.F.slot_object_ne.bind (wpAny_mono body (fun r t hq => ?_) fun _ _ z => z))
    obtain ⟨b, rfl, hq⟩ := hq
    exact wpAny_pure ⟨b, rfl, hq⟩
  show wpAny _ _ (richCompare .NotEq (.ref a) u) _ _ _
  unfold richCompare
  simp only [oneThing_ref]
  refine wpAny_holding ?_
  refine wpAny_bind (wpAny_cRoomFor hr.units0 ?_)
  refine wpAny_bind (J.type.here ?_)
  rcases hy with ⟨d, hd⟩ | ⟨b, dy, gs, rfl, hb2⟩
  · have ty := dp_type I hd ry
    have kk := O.of hd
    refine wpAny_bind (wpAny_typeOf ty ?_)
    have ne : (Value.ref C != Value.type (tyN d)) = true := rfl
    simp only [ne, if_true]
    refine wpAny_bind ((sub_looks I.kIn kk.1 rfl _).here ?_)
    simp only [Bool.false_eq_true, if_false]
    refine wpAny_bind (m := tryCompare (.ref a) (Str.ofString "__ne__") u) (wpAny_mono fin (fun r t hq => ?_) fun _ _ z => z)
    obtain ⟨b, rfl, hq⟩ := hq
    exact wpAny_pure hq
  · cases (show u = Value.ref b from ry)
    obtain ⟨oy, oe, J2⟩ := inst_at I hb2
    refine wpAny_bind (J2.type.here ?_)
    have ne : (Value.ref C != Value.ref C) = false := by simp
    simp only [ne, Bool.false_eq_true, if_false]
    refine wpAny_bind (wpAny_pure ?_)
    simp only [Bool.false_eq_true, if_false]
    refine wpAny_bind (m := tryCompare (.ref a) (Str.ofString "__ne__") (.ref b)) (wpAny_mono fin (fun r t hq => ?_) fun _ _ z => z)
    obtain ⟨b, rfl, hq⟩ := hq
    exact wpAny_pure hq
/-- repr(x), x of a class with its own __repr__ -/
def rRepO (C : Addr) (sp : Sp) : List V → Hp → VK → Prop := fun xs H Q => ∃ a dx fs, xs = [.ref a] ∧ H a = some (.ins C dx fs) ∧ sp [.ref a] H (fun v H' => ∃ y, v = .str y ∧ Q (.str y) H') E0
theorem call_repO {fR : Addr} (m : Meth X.K C "__repr__" fR) (F : FnOk X.prog X.w X.K X.mg X.base CX0 k fR fd ["self"] sp) (hb : Binds X.K fd ["self"] []) (hr : Room (k + 1) X.A) : CallR X (.builtin "repr") (rRepO C sp) := by
  intro pins s σ H xs us Q I r h
  obtain ⟨a, dx, fs, rfl, ha, q⟩ := h
  obtain ⟨u, rfl, ru⟩ := vals1 r
  cases (show u = Value.ref a from ru)
  obtain ⟨ox, od, J⟩ := inst_at I ha
  have run := run_at (E' := X.xe) F hr.in1 I.env0.in1 hb I (.cons ru .nil) q
  refine Calls.call_function_entry PySem.F.kind_repr PySem.F.plain_repr PySem.F.entry_repr (PySem.F.args_repr1 _) ?_
  unfold Builtin.«repr»
  refine wpAny_bind (m := oneArg "repr" _) (wpAny_pure ?_)
  refine wpAny_bind (wpAny_cRoomFor (by have := hr.units; show X.A.units + 1 < cLine; omega) ?_)
  refine wpAny_bind (m := specialOf (.ref a) (Str.ofString "__repr__")) (wpAny_bind (J.type.here ((PySem.W.looks_findIn I.kIn m.at_).here ?_)))
  show wpAny _ _ (if (some (Value.ref fR)).isNone = true then _ else _) _ _ _
  rw [if_neg (by simp)]
  refine wpAny_bind (m := callSpecialIfBound? (.ref a) (Str.ofString "__repr__") _) (PySem.W.ifBound_K I.kIn J m.at_ m.fn (wpAny_mono run (fun r t hq => ?_) fun _ _ z => z))
  obtain ⟨v', H', I', rv, y, rfl, q'⟩ := hq
  obtain ⟨tk, rfl⟩ := (show ∃ t, r = Value.str y t from rv)
  refine wpAny_bind (wpAny_isInstance (typeIs_str _ _ _) isSubtype_str_str ?_)
  have fin : EP X pins σ Q (.str y tk) t := ⟨.str y, H', I', ⟨tk, rfl⟩, q'⟩
  first
    | exact wpAny_pure ⟨_, rfl, fin⟩
    | (rw [if_pos rfl]; exact wpAny_pure ⟨_, rfl, fin⟩)
    | (simp only [if_true]; exact wpAny_pure ⟨_, rfl, fin⟩)
    | (simp only [if_true]; exact wpAny_pure fin)
/-- str(x), x of a class with its own __str__ -/
theorem call_strO {fS : Addr} (m : Meth X.K C "__str__" fS) (F : FnOk X.prog X.w X.K X.mg X.base CX0 k fS fd ["self"] sp) (hb : Binds X.K fd ["self"] []) (hr : Room (k + 2) X.A) : CallR X (.type "str") (rRepO C sp) := by
  intro pins s σ H xs us Q I r h
  obtain ⟨a, dx, fs, rfl, ha, q⟩ := h
  obtain ⟨u, rfl, ru⟩ := vals1 r
  cases (show u = Value.ref a from ru)
  obtain ⟨ox, od, J⟩ := inst_at I ha
  have run := run_at (A' := X.A.in1.in1) (E' := X.xe) F hr.in1.in1 I.env0.in1.in1 hb I (.cons ru .nil) q
  have un := hr.units
  refine callType_codes (T := "str") (Bi := Builtin.«object.__init__») (Q₁ := fun r s₁ => ∃ y u, r = .str y u ∧ EP X pins σ Q r s₁) PySem.F.called_str (PySem.F.typeCall_str_1 _) PySem.F.entry_object_init ?_ ?_
  · refine codeAny_of_tree ?_
    show wpAny _ X.A.in1.in1 (do checkBuiltinCall "str.__new__" ⟨[.type "str", .ref a], []⟩; again (.builtin "str.__new__" ⟨[.type "str", .ref a], []⟩)) _ _ s
    refine wpAny_bind (wpAny_of_eq (PySem.F.newCall_str_1 _) (wpAny_pure ⟨plainId_quiet (by decide +kernel) _, codeAny_builtin PySem.F.entry_str_new ?_⟩))
    rw [Around.under_plainId (by decide +kernel) _]
    rw [str_new_tree]
    refine wpAny_bind (wpAny_pure ?_)
    refine wpAny_bind (wpAny_of_eq isSubtype_str_str ?_)
    have key : wpAny (model X.prog X.w) X.A.in1.in1 (PySem.Builtin.Str.strOf (.ref a)) (fun r s₁ => ∃ y u, r = .str y u ∧ EP X pins σ Q r s₁) X.xe s := by
      unfold PySem.Builtin.Str.strOf
      rw [show Builtin.Str.isExactStr (.ref a) = false from rfl]
      refine wpAny_bind (m := cRoomFor _ _) (wpAny_cRoomFor (by show X.A.units + 1 + 1 < cLine; omega) ?_)
      refine wpAny_bind (m := callSpecial? (.ref a) (Str.ofString "__str__")) (PySem.W.special_fn I.kIn J m.at_ (beq_iff_eq.mp m.fn) (wpAny_mono run (fun r t hq => ?_) fun _ _ z => z))
      obtain ⟨v', H', I', rv, y, rfl, q'⟩ := hq
      obtain ⟨tk, rfl⟩ := (show ∃ t, r = Value.str y t from rv)
      exact wpAny_pure ⟨_, _, rfl, .str y, H', I', ⟨tk, rfl⟩, q'⟩
    exact wpAny_bind (wpAny_mono key (fun r s₁ hr => wpAny_pure hr) fun _ _ y => y)
  · rintro obj s₁ ⟨y, u, rfl, hq⟩
    exact ⟨typeIs_str _ _ _, PySem.F.args_object_init_2 _ _, object_init_meets PySem.F.called_str.init.lookup PySem.F.called_str.made (by decide) X.prog X.w X.A.in1 _ s₁ ⟨typeIs_str _ _ _, rfl, hq⟩⟩
end
def topS (i : Nat) : Stmt := PySem.Challenge.pw_runlore_k04_faults.main.body.getD i (.Pass ⟨0, 0, 0, 0⟩)
abbrev sInit : Stmt := inClass (topS 1) 0
abbrev sEq : Stmt := inClass (topS 1) 1
abbrev sStr : Stmt := inClass (topS 1) 2
abbrev sRep : Stmt := inClass (topS 1) 3
theorem scInit : FnScope ["self", "word", "rule", "path"] ["self", "word", "rule", "path"] (defScope sInit) := ⟨rfl, rfl, rfl, by decide +kernel, rfl, by decide +kernel, by decide +kernel⟩
theorem scEq : FnScope ["self", "other"] ["self", "other"] (defScope sEq) := ⟨rfl, rfl, rfl, by decide +kernel, rfl, by decide +kernel, by decide +kernel⟩
theorem scStr : FnScope ["self"] ["self"] (defScope sStr) := ⟨rfl, rfl, rfl, by decide +kernel, rfl, by decide +kernel, by decide +kernel⟩
theorem scRep : FnScope ["self"] ["self"] (defScope sRep) := ⟨rfl, rfl, rfl, by decide +kernel, rfl, by decide +kernel, by decide +kernel⟩
/-- the attributes of a fault -/
def fl (wd : Str) (r p : V) : List (Str × V) := putF "path" p (putF "rule" r (putF "word" (.str wd) []))
theorem kwr : ¬ (("word" : Str) = "rule") := by decide +kernel
theorem kwp : ¬ (("word" : Str) = "path") := by decide +kernel
theorem krp : ¬ (("rule" : Str) = "path") := by decide +kernel
theorem fl_word (wd : Str) (r p : V) : (fl wd r p).lookup ("word" : Str) = some (.str wd) := by
  unfold fl
  rw [lookup_putF, if_neg kwp, lookup_putF, if_neg kwr, lookup_putF, if_pos rfl]
theorem fl_rule (wd : Str) (r p : V) : (fl wd r p).lookup ("rule" : Str) = some r := by
  unfold fl
  rw [lookup_putF, if_neg krp, lookup_putF, if_pos rfl]
theorem fl_path (wd : Str) (r p : V) : (fl wd r p).lookup ("path" : Str) = some p := by
  unfold fl
  rw [lookup_putF, if_pos rfl]
/-- a fault stands at a -/
def FaultAt (C : Addr) (H : Hp) (a : Addr) (wd : Str) (r p : V) : Prop := ∃ dx, H a = some (.ins C dx (fl wd r p))
structure FaC (K : PySem.W.Frag) (mg : Str → Option Value) (C fE : Addr) : Prop where
  o : OwnC K C fE
  nw : NoAttr K C "word"
  nr : NoAttr K C "rule"
  np : NoAttr K C "path"
  mg : mg "Fault" = some (.ref C)
  kc : PySem.W.keepIn K (.ref C) = true
def spInitF (C : Addr) : Sp := fun vs H Q _ => ∃ (a dx : Addr) (wd : Str) (r p : V), vs = [.ref a, .str wd, r, p] ∧ H a = some (.ins C dx []) ∧ ∀ H', H' a = some (.ins C dx (fl wd r p)) → (∀ b, b ≠ a → H' b = H b) → Q .non H'
def spEqF (K : PySem.W.Frag) (C : Addr) : Sp := fun vs H Q _ => ∃ a wd r p y, vs = [.ref a, y] ∧ FaultAt C H a wd r p ∧
  ((∃ d, Dp K H y d ∧ Q (.bl false) H) ∨ ∃ b wd' r' p', y = .ref b ∧ FaultAt C H b wd' r' p' ∧ Q (.bl (decide (wd = wd'))) H)
def spStrF (C : Addr) : Sp := fun vs H Q _ => ∃ a wd r p, vs = [.ref a] ∧ FaultAt C H a wd r p ∧ Sm 20 wd ∧ Q (.str (Str.empty ++ ("fault " : Str) ++ wd)) H
def spRepF (C : Addr) : Sp := fun vs H Q _ => ∃ a wd r p, vs = [.ref a] ∧ FaultAt C H a wd r p ∧ Sm 20 wd ∧ Q (.str (Str.empty ++ ("Fault(" : Str) ++ reprText wd ++ (")" : Str))) H
theorem rep_len {n : Nat} {x : Str} (h : Sm n x) : (reprText x).length ≤ 10 * n + 2 := by
  have q := StrLaws.reprText_len x (fun c hc => Nat.lt_of_lt_of_le (h.lo c hc) (by decide))
  have := h.le
  omega
section
variable {P : Program} {w : World} {K : PySem.W.Frag} {mg : Str → Option Value} {base : Heap} {f C fE : Addr} {fd : FuncData}
theorem ok_initF {k : Nat} {dvs : List V} (F : FunD K "__init__" "Fault.__init__" (defArgs sInit) (defBody sInit) (defScope sInit) dvs [] f fd) (T : FaC K mg C fE) : FnOk P w K mg base CX0 (k + 1) f fd ["self", "word", "rule", "path"] (spInitF C) := by
  refine F.ok scInit (fun vs H Q E h => ?_) (fun cdv A outer s H vs Q E hr h => ?_)
  · obtain ⟨a, dx, wd, r, p, rfl, _⟩ := h
    rfl
  obtain ⟨a, dx, wd, r, p, rfl, ha, q⟩ := h
  refine ⟨_, pss_cons (ps_fld (pv 0) (pv 1) rfl) (pss_cons (ps_fld (pv 0) (pv 2) rfl) (pss_one (ps_fld (pv 0) (pv 3) rfl))), ?_⟩
  refine ⟨_, rfl, _, rfl, a, C, dx, [], rfl, ha, T.o.c.cl, T.nw, (by show 0 < 1000; decide), _, rfl, _, rfl, a, C, dx, _, rfl, upd_same, T.o.c.cl, T.nr, ?_, _, rfl, _, rfl, a, C, dx, _, rfl, upd_same, T.o.c.cl, T.np, ?_, q _ upd_same fun b hb => by rw [upd_ne hb, upd_ne hb, upd_ne hb]⟩
  · show 1 < 1000
    decide
  · have e : (putF "rule" r (putF "word" (.str wd) [])).length = 2 := by
      show (if ("word" : Str) = "rule" then _ else _ : List (Str × V)).length = 2
      rw [if_neg kwr]
      rfl
    rw [e]
    decide
theorem ok_eqF {k : Nat} (F : Fun K "__eq__" "Fault.__eq__" sEq f fd) (T : FaC K mg C fE) (B : Bi mg) : FnOk P w K mg base CX0 (k + 1) f fd ["self", "other"] (spEqF K C) := by
  refine F.ok scEq (fun vs H Q E h => ?_) (fun cdv A outer s H vs Q E hr h => ?_)
  · obtain ⟨a, wd, r, p, y, rfl, _⟩ := h
    rfl
  obtain ⟨a, wd, r, p, y, rfl, ⟨dx, ha⟩, q⟩ := h
  refine ⟨_, pss_one (ps_ret (pe_and (pe_callB call_isi (by rfl) B.ii b_ii (pa_cons (pv 1) (pa_cons (pe_glob (by rfl) T.mg (v := .ref C) rfl) pa_nil)))
    (pe_one (pe_cmpR op_eq (pe_fld (pv 0) rfl) (pe_fld (pv 1) rfl) (nomark _))))), ?_⟩
  rcases q with ⟨d, hd, q⟩ | ⟨b, wd', r', p', rfl, ⟨dy, hb⟩, q⟩
  · refine ⟨_, rfl, y, .ref C, _, _, false, rfl, .own C, tyD hd, (T.o.of hd).1, _, rfl, iteF q⟩
  · refine ⟨_, rfl, .ref b, .ref C, _, _, true, rfl, .own C, .base (.ins hb T.o.c.cl T.o.c.ha T.o.c.hn T.o.c.htk T.o.c.hm), T.o.c.me, _, rfl, iteT ?_⟩
    refine ⟨_, rfl, a, C, dx, _, _, rfl, ha, T.o.c.cl, T.nw, fl_word _ _ _, _, rfl, b, C, dy, _, _, rfl, hb, T.o.c.cl, T.nw, fl_word _ _ _, rfl, ?_⟩
    have e : decide (V.str wd = V.str wd') = decide (wd = wd') := by
      by_cases h : wd = wd'
      · rw [decide_eq_true h, decide_eq_true (congrArg V.str h)]
      · rw [decide_eq_false h, decide_eq_false fun z => h (V.str.inj z)]
    show Q (V.bl (decide (V.str wd = V.str wd'))) H
    rw [e]
    exact q
theorem ok_strF {k : Nat} (F : Fun K "__str__" "Fault.__str__" sStr f fd) (T : FaC K mg C fE) : FnOk P w K mg base CX0 (k + 1) f fd ["self"] (spStrF C) := by
  refine F.ok scStr (fun vs H Q E h => ?_) (fun cdv A outer s H vs Q E hr h => ?_)
  · obtain ⟨a, wd, r, p, rfl, _⟩ := h
    rfl
  obtain ⟨a, wd, r, p, rfl, ⟨dx, ha⟩, sw, q⟩ := h
  refine ⟨_, pss_one (ps_ret (pe_joined (.cons pe_str (.cons (pe_fmt (pe_fld (pv 0) rfl)) .nil)))), ?_⟩
  refine ⟨_, rfl, by decide +kernel, _, rfl, a, C, dx, _, _, rfl, ha, T.o.c.cl, T.nw, fl_word _ _ _, .inl ⟨wd, rfl, sw.fits (by decide), _, rfl, ?_, q⟩⟩
  have e : (Str.empty ++ ("fault " : Str)).length = 6 := by decide +kernel
  rw [Str.length_append, e]
  have := sw.le
  exact few (by omega)
theorem ok_repF {k : Nat} (F : Fun K "__repr__" "Fault.__repr__" sRep f fd) (T : FaC K mg C fE) : FnOk P w K mg base CX0 (k + 1) f fd ["self"] (spRepF C) := by
  refine F.ok scRep (fun vs H Q E h => ?_) (fun cdv A outer s H vs Q E hr h => ?_)
  · obtain ⟨a, wd, r, p, rfl, _⟩ := h
    rfl
  obtain ⟨a, wd, r, p, rfl, ⟨dx, ha⟩, sw, q⟩ := h
  refine ⟨_, pss_one (ps_ret (pe_joined (.cons pe_str (.cons (pe_fmtR (pe_fld (pv 0) rfl)) (.cons pe_str .nil))))), ?_⟩
  have rl := rep_len sw
  have e : (Str.empty ++ ("Fault(" : Str)).length = 6 := by decide +kernel
  have e2 : (")" : Str).length = 1 := by decide +kernel
  refine ⟨_, rfl, by decide +kernel, _, rfl, a, C, dx, _, _, rfl, ha, T.o.c.cl, T.nw, fl_word _ _ _, .inl ⟨wd, rfl, few (by omega), _, rfl, ?_, _, rfl, ?_, q⟩⟩
  · rw [Str.length_append, e]
    exact few (by omega)
  · rw [Str.length_append, Str.length_append, e, e2]
    exact few (by omega)
end
abbrev sBox : Stmt := topS 3
abbrev sTake : Stmt := topS 4
theorem c47 : (0 : Int) < 2147483647 := by decide
theorem c29 : (0 : Int) < 2147483629 := by decide
/-! _law_take: some number below many; the box stays a box -/
def spTake : Sp := fun vs H Q _ => ∃ (p g : Addr) (m : Int), vs = [.ref p, .int m] ∧ Box H p g ∧ 0 < m ∧ m.natAbs < 2 ^ 200 ∧
  ∀ (r : Int) (H' : Hp), 0 ≤ r → r < m → Box H' p g → Off [p, g] H H' → Q (.int r) H'
def spBox (K : PySem.W.Frag) : Sp := fun vs H Q _ => ∃ (a : Addr) (ns : List Int) (c : Int), vs = [.ref a, .int c] ∧ SqL K H a (ns.map V.int) ∧ ns.length ≤ 63 ∧ 0 ≤ c ∧ c < 1000 ∧
  ∀ (p g : Addr) (H' : Hp), Box H' p g → Same H H' → H p = none → H g = none → Q (.ref p) H'
theorem scTake : FnScope ["_law_box_here", "_law_many", "_law_digit", "_law_one"] ["_law_box_here", "_law_many"] (defScope sTake) :=
  ⟨rfl, rfl, rfl, by decide +kernel, rfl, by decide +kernel, by decide +kernel⟩
section
variable {P : Program} {w : World} {K : PySem.W.Frag} {mg : Str → Option Value} {base : Heap} {f : Addr} {fd : FuncData}
theorem get_now {H : Hp} {p g : Addr} {n s t : Int} (h : H p = some (.dK (bx g n s t))) : DGet H p (.str "now") (some (.int n)) := by
  have q := DGet.k (k := (Sum.inr "now" : Key)) h
  rw [bx_now] at q
  exact q
theorem get_great {H : Hp} {p g : Addr} {n s t : Int} (h : H p = some (.dK (bx g n s t))) : DGet H p (.str "great") (some (.ref g)) := by
  have q := DGet.k (k := (Sum.inr "great" : Key)) h
  rw [bx_great] at q
  exact q
theorem get_seed {H : Hp} {p g : Addr} {n s t : Int} (h : H p = some (.dK (bx g n s t))) : DGet H p (.str "seed") (some (.int s)) := by
  have q := DGet.k (k := (Sum.inr "seed" : Key)) h
  rw [bx_seed] at q
  exact q
theorem get_turn {H : Hp} {p g : Addr} {n s t : Int} (h : H p = some (.dK (bx g n s t))) : DGet H p (.str "turn") (some (.int t)) := by
  have q := DGet.k (k := (Sum.inr "turn" : Key)) h
  rw [bx_turn] at q
  exact q
theorem set_now {H : Hp} {p g : Addr} {n s t : Int} (y : Int) (h : H p = some (.dK (bx g n s t))) : DPut H p (.str "now") (.int y) (upd H p (.dK (bx g y s t))) := by
  have q := DPut.k (k := (Sum.inr "now" : Key)) (v := .int y) h (by show 4 < sizeLine; decide)
  rw [put_now] at q
  exact q
theorem set_seed {H : Hp} {p g : Addr} {n s t : Int} (y : Int) (h : H p = some (.dK (bx g n s t))) : DPut H p (.str "seed") (.int y) (upd H p (.dK (bx g n y t))) := by
  have q := DPut.k (k := (Sum.inr "seed" : Key)) (v := .int y) h (by show 4 < sizeLine; decide)
  rw [put_seed] at q
  exact q
theorem set_turn {H : Hp} {p g : Addr} {n s t : Int} (y : Int) (h : H p = some (.dK (bx g n s t))) : DPut H p (.str "turn") (.int y) (upd H p (.dK (bx g n s y))) := by
  have q := DPut.k (k := (Sum.inr "turn" : Key)) (v := .int y) h (by show 4 < sizeLine; decide)
  rw [put_turn] at q
  exact q
theorem ok_take {k : Nat} (F : Fun K "_law_take" "_law_take" sTake f fd) (ml : mg "len" = none) : FnOk P w K mg base CX0 (k + 1) f fd ["_law_box_here", "_law_many"] spTake := by
  refine F.ok scTake (fun vs H Q E h => ?_) (fun cdv A outer s H vs Q E hr h => ?_)
  · obtain ⟨p, g, m, rfl, _⟩ := h
    rfl
  obtain ⟨p, g, m, rfl, ⟨n, sd, t, gs, hp, hg, hl⟩, m0, m9, q⟩ := h
  have hu := hu_of hr
  have npg : p ≠ g := ne_of hp hg (by intro z; cases z)
  refine ⟨_, C8.pss_cut (ps_if (PW.pt (pw_and (pt_cmpR op_eq (pe_dget hu (pv 0) pe_str (fun _ _ => rfl)) pe_int (nomark _))
        (pw_and1 (pt_cmpR op_gt (pe_callB call_len_seq (by rfl) ml PySem.boot_len (pa_cons (pe_dget hu (pv 0) pe_str (fun _ _ => rfl)) pa_nil)) pe_int (nomark _)))))
        (pss_one (ps_dput hu (pv 0) pe_str (pe_bm0 PySem.F.plainAttrs_list PySem.F.slot_list_pop PySem.F.type_list_pop mt_pop (pe_dget hu (pv 0) pe_str (fun _ _ => rfl))) rfl)) pss_nil)
    (pss_cons (ps_if (pt_cmpR op_gt (pe_dget hu (pv 0) pe_str (fun _ _ => rfl)) pe_int (nomark _))
        (pss_cons (ps_set (i := 2) scTake.nd rfl (.inl rfl) (pe_op op_mod (pe_dget hu (pv 0) pe_str (fun _ _ => rfl)) (pv 1)))
        (pss_cons (ps_dput hu (pv 0) pe_str (pe_op op_fdivW (pe_dget hu (pv 0) pe_str (fun _ _ => rfl)) (pv 1)) rfl)
        (pss_one (ps_ret (pv 2))))) pss_nil)
    (pss_cons (ps_dput hu (pv 0) pe_str (pe_op op_add (pe_dget hu (pv 0) pe_str (fun _ _ => rfl)) pe_int) rfl)
    (pss_cons (ps_set (i := 3) scTake.nd rfl (.inl rfl) (pe_op op_mod (pe_op op_mul (pe_op op_mod (pe_op op_add (pe_dget hu (pv 0) pe_str (fun _ _ => rfl))
        (pe_op op_mul pe_int (pe_dget hu (pv 0) pe_str (fun _ _ => rfl)))) pe_int) pe_int) pe_int))
    (pss_cons (ps_dput hu (pv 0) pe_str (pe_op op_add (pe_op op_mod (pe_op op_add (pv 3) (pe_op op_mul pe_int (pe_dget hu (pv 0) pe_str (fun _ _ => rfl)))) pe_int) pe_int) rfl)
    (pss_one (ps_ret (pe_op op_mod (pe_op op_fdiv (pe_op op_add (pe_op op_mul (pv 3) pe_int) (pe_dget hu (pv 0) pe_str (fun _ _ => rfl))) pe_int) (pv 1)))))))), ?_⟩
  refine ⟨fun σ H1 => ∃ n1 gs1, σ = [some (.ref p), some (.int m), none, none] ∧ H1 p = some (.dK (bx g n1 sd t)) ∧ H1 g = some (.lst (List.map V.int gs1)) ∧ gs1.length ≤ 1000 ∧ Off [p, g] H H1, ?_, ?_⟩
  · refine ⟨_, rfl, p, _, rfl, get_now hp, rfl, _, rfl, ite2 (fun c => ?_) (fun c => iteF ⟨n, gs, rfl, hp, hg, hl, Off.refl _ _⟩)⟩
    refine ⟨_, rfl, p, _, rfl, get_great hp, g, _, rfl, .inl (SqL.of hg), _, _, rfl, rfl, _, rfl, ite2 (fun c2 => ?_) (fun c2 => ⟨n, gs, rfl, hp, hg, hl, Off.refl _ _⟩)⟩
    have c3 : (0 : Int) < (((List.map V.int gs).length : Nat) : Int) := of_decide_eq_true c2
    rw [List.length_map] at c3
    have hlast : (List.map V.int gs)[(List.map V.int gs).length - 1]? = some (V.int (gs[gs.length - 1]'(by omega))) := by
      rw [List.length_map, List.getElem?_map, List.getElem?_eq_getElem (by omega)]
      rfl
    have hp1 : (upd H g (.lst (List.map V.int gs).dropLast)) p = some (.dK (bx g n sd t)) := by rw [upd_ne npg]; exact hp
    refine ⟨_, rfl, p, _, rfl, get_great hp, .inl ⟨rfl, _, .inl (.inl hg)⟩, g, _, _, rfl, rfl, hg, hlast, _, rfl, p, _, rfl, set_now _ hp1, ?_⟩
    refine ⟨_, gs.dropLast, rfl, upd_same, ?_, ?_, ?_⟩
    · rw [upd_ne npg.symm, upd_same, List.map_dropLast]
    · rw [List.length_dropLast]
      omega
    · exact (Off.put (by simp)).trans (Off.put (by simp))
  · rintro σ H1 ⟨n1, gs1, rfl, hp1, hg1, hl1, of1⟩
    refine ⟨_, rfl, p, _, rfl, get_now hp1, _, _, rfl, rfl, _, rfl, ite2 (fun c => ?_) (fun c => ?_)⟩
    · refine ⟨_, rfl, p, _, rfl, get_now hp1, _, rfl, _, _, rfl, rfl, m0, ?_⟩
      refine ⟨_, rfl, p, _, rfl, get_now hp1, _, rfl, _, _, rfl, rfl, wide_div m0 m9 (by decide) (by decide), _, rfl, p, _, rfl, set_now _ hp1, ?_⟩
      refine ⟨_, rfl, q _ _ (Int.emod_nonneg _ (by omega)) (Int.emod_lt_of_pos _ m0) ⟨_, sd, t, gs1, upd_same, by rw [upd_ne npg.symm]; exact hg1, hl1⟩ (of1.trans (Off.put (by simp)))⟩
    · refine ⟨_, rfl, p, _, rfl, get_turn hp1, _, _, rfl, rfl, _, rfl, p, _, rfl, set_turn _ hp1, ?_⟩
      refine ⟨_, rfl, p, _, rfl, get_seed upd_same, _, rfl, p, _, rfl, get_turn upd_same, _, _, rfl, rfl, .inl ⟨by decide, by decide⟩, _, _, rfl, rfl, _, _, rfl, rfl, c47, _, _, rfl, rfl, .inr ⟨by decide, by decide⟩, _, _, rfl, rfl, c47, ?_⟩
      refine ⟨_, rfl, _, rfl, p, _, rfl, get_seed upd_same, _, _, rfl, rfl, .inl ⟨by decide, by decide⟩, _, _, rfl, rfl, _, _, rfl, rfl, c29, _, _, rfl, rfl, _, rfl, p, _, rfl, set_seed _ upd_same, ?_⟩
      refine ⟨_, rfl, _, _, rfl, rfl, .inr ⟨by decide, by decide⟩, _, rfl, p, _, rfl, get_seed upd_same, _, _, rfl, rfl, _, _, rfl, rfl, ⟨by decide, by decide⟩, _, rfl, _, _, rfl, rfl, m0, ?_⟩
      refine q _ _ (Int.emod_nonneg _ (by omega)) (Int.emod_lt_of_pos _ m0) ⟨n1, _, _, gs1, upd_same, ?_, hl1⟩ (of1.trans ((Off.put (by simp)).trans (Off.put (by simp))))
      rw [upd_ne npg.symm, upd_ne npg.symm]
      exact hg1
end
theorem cutV_ints (ns : List Int) (lo hi : Option Int) : ∃ ms : List Int, cutV (ns.map V.int) lo hi = ms.map V.int ∧ ms.length ≤ ns.length := by
  refine ⟨(ns.drop (HT.sIx ns.length 0 lo)).take (HT.sIx ns.length ns.length hi - HT.sIx ns.length 0 lo), ?_, ?_⟩
  · unfold cutV
    rw [List.length_map, List.map_take, List.map_drop]
  · rw [List.length_take, List.length_drop]
    omega
theorem int_at {ms : List Int} {i : Nat} {y : V} (h : (ms.map V.int)[i]? = some y) : ∃ z, y = V.int z := by
  rw [List.getElem?_map] at h
  cases e : ms[i]? with
  | none =>
    rw [e] at h
    cases h
  | some z =>
    rw [e] at h
    exact ⟨z, (Option.some.inj h).symm⟩
theorem scBox : FnScope ["_law_script", "_law_base", "_law_seed", "_law_cell", "_law_great"] ["_law_script", "_law_base"] (defScope sBox) :=
  ⟨rfl, rfl, rfl, by decide +kernel, rfl, by decide +kernel, by decide +kernel⟩
section
variable {P : Program} {w : World} {K : PySem.W.Frag} {mg : Str → Option Value} {base : Heap} {f : Addr} {fd : FuncData}
theorem ok_box {k : Nat} (F : Fun K "_law_box" "_law_box" sBox f fd) (mab : mg "abs" = none) : FnOk P w K mg base CX0 (k + 1) f fd ["_law_script", "_law_base"] (spBox K) := by
  refine F.ok scBox (fun vs H Q E h => ?_) (fun cdv A outer s H vs Q E hr h => ?_)
  · obtain ⟨a, ns, c, rfl, _⟩ := h
    rfl
  obtain ⟨a, ns, c, rfl, hS, hlen, c0, c9, q⟩ := h
  have hu := hu_of hr
  refine ⟨_, pss_cons (ps_set (i := 2) scBox.nd rfl (.inl rfl) (pe_op op_add pe_int (pe_op op_mul pe_int (pv 1))))
    (pss_cons (ps_for PassesOwn.never rfl (pi_list (pe_slice sl_list (pv 0) po_none (po_some pe_int))) (pg_name (i := 3) scBox.nd rfl (.inl rfl))
      (pss_one (ps_set (i := 2) scBox.nd rfl (.inl rfl) (pe_op op_mod (pe_op op_add (pe_op op_add (pe_op op_mul (pv 2) pe_int)
        (pe_op op_mod (pe_callB call_abs (by rfl) mab (by decide +kernel) (pa_cons (pv 3) pa_nil)) pe_int)) pe_int) pe_int))))
    (pss_cons (ps_setLc (i := 4) (own := [("_law_cell", 3)]) (g := gName 3) (by rfl) scBox.nd rfl rfl (sw_true rfl rfl rfl (by decide +kernel))
      (pi_list (pe_slice sl_list (pv 0) (po_some (pv 1)) (po_some pe_int)))
      (blkOk_by (own := [("_law_cell", 3)]) (N := ["_law_script", "_law_base", "_law_seed", "_law_cell", "_law_great"]) (sc := defScope sBox) (by decide +kernel))
      (fun _ _ _ _ _ => pg_name (i := 3) scBox.nd rfl (Or.inl rfl))
      (fun _ _ _ _ _ => pts_one (pt_cmpR op_ge (pe_callB call_abs (by rfl) mab (by decide +kernel) (pa_cons (pv 3) pa_nil)) (pe_op op_pow pe_int pe_int) (nomark _)))
      (fun _ _ _ _ _ => pe_callB call_abs (by rfl) mab (by decide +kernel) (pa_cons (pv 3) pa_nil)))
    (pss_one (ps_ret (pe_disp (pps_cons pe_str (pe_revL (pv 4)) (pps_cons pe_str pe_int (pps_cons pe_str (pe_op op_add (pv 2) pe_int) (pps_cons pe_str pe_int pps_nil))))
      (by rfl) (by rfl) (fun z => by cases z) (by decide)))))), ?_⟩
  refine ⟨_, rfl, _, _, rfl, rfl, .inl ⟨by decide, by decide⟩, _, _, rfl, rfl, ?_⟩
  refine ⟨_, rfl, 50, rfl, a, _, rfl, hS, fun q0 hq0 => ?_⟩
  obtain ⟨ms, em, lm⟩ := cutV_ints ns none (some 50)
  rw [em]
  have s1 : Same H (upd H q0 (.lst (ms.map V.int))) := same_new hq0 _
  refine ⟨q0, rfl, ⟨_, SqL.of upd_same⟩, for_list (K := K) (a := q0) (xs := ms.map V.int) (fun i σ H2 => ∃ (z : Int) (v : Option V), σ = [some (.ref a), some (.int c), some (.int z), v, none] ∧ -(2 ^ 40) < z ∧ z < 2 ^ 40 ∧ H2 = upd H q0 (.lst (ms.map V.int)))
    ⟨7001 + 211 * c, none, rfl, by omega, by omega, rfl⟩ (fun i σ H2 _ ⟨_, _, _, _, _, e⟩ => by rw [e]; exact SqL.of upd_same) ?_ ?_⟩
  · rintro i y σ H2 hi ⟨z, v, rfl, z0, z1, rfl⟩
    obtain ⟨x, rfl⟩ := int_at hi
    refine ⟨_, rfl, _, _, rfl, rfl, .inr ⟨by decide, by decide⟩, _, rfl, _, rfl, _, _, rfl, rfl, c29, _, _, rfl, rfl, _, _, rfl, rfl, _, _, rfl, rfl, c47, ?_⟩
    exact ⟨_, _, rfl, Int.lt_of_lt_of_le (by decide) (Int.emod_nonneg _ (by decide)), Int.lt_trans (Int.emod_lt_of_pos _ c47) (by decide), rfl⟩
  · rintro σ H2 ⟨z, v, rfl, z0, z1, rfl⟩
    refine ⟨_, rfl, _, rfl, c, rfl, 50, rfl, a, _, rfl, s1.seq hS, fun q1 hq1 => ?_⟩
    obtain ⟨ks, ek, lk⟩ := cutV_ints ns (some c) (some 50)
    rw [ek]
    have s2 := s1.trans (same_new hq1 (.lst (ks.map V.int)))
    refine ⟨q1, rfl, ⟨_, SqL.of upd_same⟩, fun D hD => lc_list (K := K) (a := q1) (xs := ks.map V.int) (fun i H3 => ∃ gs : List Int, gs.length ≤ i ∧ H3 D = some (.lst (gs.map V.int)) ∧ H3 q1 = some (.lst (ks.map V.int)) ∧ Same H H3)
      ⟨[], Nat.le_refl _, upd_same, by rw [upd_ne (ne_of_none upd_same hD), upd_same], s2.trans (same_new hD _)⟩ (fun i H3 _ ⟨_, _, _, h, _⟩ => SqL.of h) ?_ ?_⟩
    · rintro i y H3 hi ⟨gs, lg, h1, h2, h3⟩
      have hik := (List.getElem?_eq_some_iff.mp hi).1
      rw [List.length_map] at hik
      obtain ⟨x, rfl⟩ := int_at hi
      refine ⟨rfl, _, rfl, _, rfl, _, _, rfl, rfl, ⟨by decide, by decide, by decide⟩, _, _, rfl, rfl, _, rfl, ite2 (fun _ => ?_) (fun _ => ?_)⟩
      · refine ⟨_, rfl, _, rfl, _, h1, ?_, gs ++ [if x < 0 then -x else x], ?_, ?_, ?_, ?_⟩
        · rw [List.length_map]
          exact small1000 (by omega)
        · rw [List.length_append, List.length_singleton]
          omega
        · rw [upd_same, List.map_append]
          rfl
        · rw [upd_ne (ne_of_none upd_same hD)]
          exact h2
        · intro b o e
          rw [upd_ne (ne_of_none e (s2.free hD))]
          exact h3 b o e
      · exact ⟨gs, by omega, h1, h2, h3⟩
    · rintro H3 ⟨gs, lg, h1, h2, h3⟩
      rw [List.length_map] at lg
      refine fun p hp => ⟨_, rfl, D, _, rfl, SqL.of (by rw [upd_ne (ne_of_none h1 hp)]; exact h1), fun g hg => ?_⟩
      have ngp : g ≠ p := fun e => by
        rw [e, upd_same] at hg
        cases hg
      have hp2 : (upd (upd H3 p (.dK [])) g (.lst (gs.map V.int).reverse)) p = some (.dK []) := by rw [upd_ne ngp.symm, upd_same]
      refine ⟨_, rfl, _, _, rfl, rfl, hp2, bx g 0 (z + 1) 0, rfl, by show 4 ≤ 15; decide, ?_⟩
      rw [mer_box]
      have hg3 : H3 g = none := by
        rw [upd_ne ngp] at hg
        exact hg
      refine q p g _ ⟨0, z + 1, 0, gs.reverse, upd_same, ?_, ?_⟩ ?_ (h3.free hp) (h3.free hg3)
      · rw [upd_ne ngp, upd_same, List.map_reverse]
      · rw [List.length_reverse]
        omega
      · intro b o e
        have e3 := h3 b o e
        rw [upd_ne (ne_of_none e3 hp), upd_ne (ne_of_none e3 hg3), upd_ne (ne_of_none e3 hp)]
        exact e3
end
structure Tk (P : Program) (w : World) (K : PySem.W.Frag) (mg : Str → Option Value) (base : Heap) (f : Addr) (fd : FuncData) : Prop where
  ok : FnOk P w K mg base CX0 1 f fd ["_law_box_here", "_law_many"] spTake
  kp : PySem.W.keepIn K (.ref f) = true
  bd : Binds K fd ["_law_box_here", "_law_many"] []
  mg : mg "_law_take" = some (.ref f)
theorem atI_ok {α : Type} {xs : List α} {r : Int} (h0 : 0 ≤ r) (h : r < (xs.length : Int)) : ∃ x, atI xs r = some x ∧ x ∈ xs ∧ xs[r.toNat]? = some x := by
  have hr : r.toNat < xs.length := by omega
  have e : r = (r.toNat : Int) := by omega
  have q : atI xs ((r.toNat : Nat) : Int) = some xs[r.toNat] := atI_nat (List.getElem?_eq_getElem hr)
  rw [← e] at q
  exact ⟨xs[r.toNat], q, List.getElem_mem hr, List.getElem?_eq_getElem hr⟩
theorem okG {P : Program} {w : World} {K : PySem.W.Frag} {mg : Str → Option Value} {base : Heap} {x qual : Str} {st : Stmt} {f : Addr} {fd : FuncData} {N ps : List Str} {k : Nat} {sp : Sp} (F : Fun K x qual st f fd) (S : FnScope N ps (defScope st))
    (len : ∀ ws H Q E, sp ws H Q E → ws.length = ps.length)
    (hb : ∀ (cdv : Value) (A : Around) (outer : List Env) (s : Shared) (H : Hp) (vs : List V) (Q : VK) (E : XK), A.guards = some [] → Room k (A.deeper (envOfC qual (defScope st) s.heap.objs.size f cdv)) → sp vs H Q E →
      ∃ t, PSs (cxOf CX0 P w K mg base N qual (defScope st) f cdv A outer s H E).nox (defBody st) t ∧ t { nx := fun _ H' => Q .non H', rt := Q } (start N vs) H) : FnG P w K mg base CX0 (k + 1) f fd ps sp := by
  obtain ⟨oc, od, kV, doc, pm, an, cdv, ct, osl, rfl, lk, hcd⟩ := F.ex
  refine fnG_of lk hcd S len ?_
  intro A outer s H vs Q E hg hr hsp
  obtain ⟨t, h, q⟩ := hb cdv A outer s H vs Q E hg hr hsp
  exact ⟨t, h.nox, q⟩
theorem bool_prn (b : Bool) : Prn (.bool b) := prn_of (by simp only [gd]) (by simp only [nod]; omega) (by simp only [PyData.depth]; omega)
/-- a def of the top that keeps a promise -/
structure Dn (P : Program) (w : World) (K : PySem.W.Frag) (mg : Str → Option Value) (base : Heap) (lvl : Nat) (nm : Str) (ps : List Str) (sp : Sp) (f : Addr) (fd : FuncData) : Prop where
  ok : FnOk P w K mg base CX0 lvl f fd ps sp
  kp : PySem.W.keepIn K (.ref f) = true
  bd : Binds K fd ps []
  mg : mg nm = some (.ref f)
theorem cut_less {l m : List Addr} {H : Hp} (h : ∀ b ∈ m, b ∈ l) : Same (cut l H) (cut m H) := fun b o e => by
  obtain ⟨n, e⟩ := cut_some e
  rw [cut_out (fun z => n (h b z))]
  exact e
theorem cut_more {l : List Addr} {H : Hp} {a : Addr} {o : HO} (h : H a = none) : Same (cut l H) (cut (a :: l) (upd H a o)) := fun b u e => by
  obtain ⟨n, e⟩ := cut_some e
  have nb := ne_of_none e h
  rw [cut_out (fun z => (List.mem_cons.mp z).elim nb n), upd_ne nb]
  exact e
theorem dp_true {K : PySem.W.Frag} {H : Hp} {b : Bool} (h : b = true) : Dp K H (.bl b) (.bool true) := by
  rw [h]
  exact .bl true
theorem DpAll.parts {K : PySem.W.Frag} {H : Hp} {xs : List V} {ds : List PyData} (h : DpAll K H xs ds) (i : Nat) : DpAll K H (xs.take i) (ds.take i) ∧ DpAll K H (xs.drop i) (ds.drop i) := by
  have lx := DpAll.len h
  obtain ⟨d1, d2, e, a, b⟩ := DpAll.unapp (xs := xs.take i) (ys := xs.drop i) (by rw [List.take_append_drop]; exact h)
  have la := DpAll.len a
  have lb := DpAll.len b
  rw [List.length_take] at la
  rw [List.length_drop] at lb
  subst e
  by_cases hi : i ≤ xs.length
  · have l1 : d1.length = i := by omega
    have e1 : (d1 ++ d2).take i = d1 := by rw [← l1]; exact List.take_left
    have e2 : (d1 ++ d2).drop i = d2 := by rw [← l1]; exact List.drop_left
    rw [e1, e2]
    exact ⟨a, b⟩
  · have l2 : d2 = [] := List.length_eq_zero_iff.mp (by omega)
    subst l2
    rw [List.append_nil, List.take_of_length_le (l := d1) (by omega), List.drop_of_length_le (l := d1) (by omega)]
    exact ⟨a, b⟩
theorem cutV_dp {K : PySem.W.Frag} {H : Hp} {xs : List V} {ds : List PyData} (h : DpAll K H xs ds) (lo hi : Option Int) : ∃ es, DpAll K H (cutV xs lo hi) es ∧ ∀ e ∈ es, e ∈ ds := by
  unfold cutV
  exact ⟨_, (DpAll.parts (DpAll.parts h _).2 _).1, fun e he => List.mem_of_mem_drop (List.mem_of_mem_take he)⟩
theorem gd_int {i : Int} (h : i.natAbs < 2 ^ 1000) : gd (.int i) = true := by
  simp only [gd]
  exact decide_eq_true (Nat.lt_trans (PySem.Flt.log2_lt_of (by decide) h) (by decide))
abbrev sPick : Stmt := topS 5
abbrev sFault : Stmt := topS 6
theorem scPick : FnScope ["_law_box_here", "_law_items"] ["_law_box_here", "_law_items"] (defScope sPick) := ⟨rfl, rfl, rfl, by decide +kernel, rfl, by decide +kernel, by decide +kernel⟩
theorem scFault : FnScope ["_law_box_here", "_law_some", "_law_said", "_law_where", "_law_way", "_law_form", "_law_k"] ["_law_box_here"] (defScope sFault) := ⟨rfl, rfl, rfl, by decide +kernel, rfl, by decide +kernel, by decide +kernel⟩
def spPick : Sp := fun vs H Q _ => ∃ p g ls xs, vs = [.ref p, .ref ls] ∧ Box H p g ∧ H ls = some (.lst xs) ∧ ls ∉ [p, g] ∧ 0 < xs.length ∧ xs.length ≤ 1000 ∧ ∀ x H', x ∈ xs → Box H' p g → Off [p, g] H H' → Q x H'
structure Inf where
  wd : Str
  rl : Str
  pd : PyData
/-- what it prints: plain words -/
def qt (wd : Str) : Bool := decide (Str.empty ++ ("fault " : Str) ++ wd = ("fault " : Str) ++ wd) && decide (Str.empty ++ ("Fault(" : Str) ++ reprText wd ++ (")" : Str) = ("Fault('" : Str) ++ wd ++ ("')" : Str))
def okI (m : Inf) : Prop := (Sm 20 m.wd ∧ qt m.wd = true) ∧ Sm 20 m.rl ∧ gd m.pd = true ∧ nod m.pd ≤ 10 ∧ m.pd.depth ≤ 1
def dueD (m : Inf) : PyData := .tuple [.str m.wd, .str m.rl, m.pd]
def Ent (K : PySem.W.Frag) (C : Addr) (H : Hp) (v : V) (m : Inf) : Prop := ∃ t a du p, v = .ref t ∧ SqT K H t [.ref a, .ref du] ∧ FaultAt C H a m.wd (.str m.rl) p ∧ Dp K H p m.pd ∧ Dp K H (.ref du) (dueD m)
theorem FaultAt.up {C : Addr} {H H' : Hp} {a : Addr} {wd : Str} {r p : V} (s : Same H H') (h : FaultAt C H a wd r p) : FaultAt C H' a wd r p := by
  obtain ⟨dx, h⟩ := h
  exact ⟨dx, s _ _ h⟩
theorem Ent.up {K : PySem.W.Frag} {C : Addr} {H H' : Hp} {v : V} {m : Inf} (s : Same H H') (h : Ent K C H v m) : Ent K C H' v m := by
  obtain ⟨t, a, du, p, h1, h2, h3, h4, h5⟩ := h
  exact ⟨t, a, du, p, h1, seqT_up s h2, h3.up s, Dp.up s _ _ h4, Dp.up s _ _ h5⟩
def spFault (K : PySem.W.Frag) (C : Addr) : Sp := fun vs H Q _ => ∃ p g l, vs = [.ref p] ∧ Box H p g ∧ Tr l H ∧ ∀ v m H', Ent K C (cut l H') v m → okI m → Box H' p g → Off [p, g] H H' → Q v H'
/-- how a fault is made -/
structure MkF (P : Program) (w : World) (K : PySem.W.Frag) (mg : Str → Option Value) (base : Heap) (C fI : Addr) (dI : FuncData) (t0 : Addr) : Prop where
  mkr : Mk K C fI
  ok : FnOk P w K mg base CX0 1 fI dI ["self", "word", "rule", "path"] (spInitF C)
  b2 : ∃ ds, Vals [.str "", .ref t0] ds ∧ Binds K dI ["self", "word", "rule", "path"] ds
  b3 : ∃ ds, Vals [.ref t0] ds ∧ Binds K dI ["self", "word", "rule", "path"] ds
  b4 : ∃ ds, Vals [] ds ∧ Binds K dI ["self", "word", "rule", "path"] ds
  bk : ∃ its : List Value, KBn K dI ["self", "word", "rule", "path"] 1 ["path", "word"] (fun us ws => us ++ (ws.drop 1 ++ (its.take 1 ++ ws.take 1))) (fun vs zs => vs ++ (zs.drop 1 ++ ([V.str "", .ref t0].take 1 ++ zs.take 1)))
  z : ∀ H, SqT K H t0 []
theorem mem_words {n : Nat} : ∀ {xs : List Str}, (xs.all fun x => decide (x.length ≤ n) && x.cps.toList.all fun c => decide (c < 128)) = true → ∀ v ∈ xs.map V.str, ∃ x, v = .str x ∧ Sm n x := by
  intro xs h v hv
  obtain ⟨x, hx, rfl⟩ := List.mem_map.mp hv
  exact ⟨x, rfl, Sm.of (List.all_eq_true.mp h x hx)⟩
section
variable {P : Program} {w : World} {K : PySem.W.Frag} {mg : Str → Option Value} {base : Heap} {f fT fP fI C t0 : Addr} {fd dT dP dI : FuncData}
theorem ok_pick {k : Nat} (F : Fun K "_law_pick" "_law_pick" sPick f fd) (B : Bi mg) (T : Tk P w K mg base fT dT) : FnOk P w K mg base CX0 (k + 2) f fd ["_law_box_here", "_law_items"] spPick := by
  refine F.ok scPick (fun vs H Q E h => ?_) (fun cdv A outer s H vs Q E hr h => ?_)
  · obtain ⟨p, g, ls, xs, rfl, _⟩ := h
    rfl
  obtain ⟨p, g, ls, xs, rfl, hb, hl, nl, x0, x9, q⟩ := h
  have hr1 : Room 1 _ := hr.mono (by omega)
  refine ⟨_, pss_one (ps_ret (pe_ix ix_list (pv 1) (pe_call T.ok hr1 (by rfl) T.mg T.kp T.bd .nil pass0 (pa_cons (pv 0) (pa_cons (pe_callB call_len_seq (by rfl) B.len PySem.boot_len (pa_cons (pv 1) pa_nil)) pa_nil))) (fun _ _ => rfl))), ?_⟩
  refine ⟨_, rfl, _, rfl, _, rfl, ls, xs, rfl, .inl (SqL.of hl), ?_⟩
  have big : ((xs.length : Nat) : Int).natAbs < 2 ^ 200 := Nat.lt_of_le_of_lt (by omega : ((xs.length : Nat) : Int).natAbs ≤ 1000) (Nat.lt_of_lt_of_le (by decide : 1000 < 2 ^ 10) (Nat.pow_le_pow_right (by decide) (by decide)))
  refine ⟨p, g, _, rfl, hb, by omega, big, fun r H2 r0 r1 b2 o2 => ?_⟩
  obtain ⟨x, hx, mx, _⟩ := atI_ok (xs := xs) r0 r1
  exact ⟨ls, _, _, x, rfl, rfl, SqL.of (o2.get hl nl), hx, q x H2 mx b2 o2⟩
end
section
variable {P : Program} {w : World} {K : PySem.W.Frag} {mg : Str → Option Value} {base : Heap} {f fT fP fI C t0 : Addr} {fd dT dP dI : FuncData}
abbrev ws1 : List Str := ["kind", "part", "name", "read", "long", "knot", "a", "kinds", "abcdefgh"]
abbrev ws2 : List Str := ["", "a", "kind", "turn"]
theorem words1 : ws1.all (fun x => decide (x.length ≤ 20) && x.cps.toList.all fun c => decide (c < 128)) = true := by decide +kernel
theorem words3 : ws1.all qt = true := by decide +kernel
theorem words2 : ws2.all (fun x => decide (x.length ≤ 20) && x.cps.toList.all fun c => decide (c < 128)) = true := by decide +kernel
theorem ints_dp {H : Hp} : ∀ ks : List Int, DpAll K H (ks.map V.int) (ks.map PyData.int)
  | [] => .nil
  | _ :: ks => .cons (.int _) (ints_dp ks)
theorem ints_gd : ∀ ks : List Int, (∀ z ∈ ks, z.natAbs < 2 ^ 10) → gds (ks.map PyData.int) = true ∧ nods (ks.map PyData.int) = ks.length ∧ PyData.depthAll (ks.map PyData.int) = 0
  | [], _ => ⟨by simp only [List.map_nil, gds], by simp only [List.map_nil, nods, List.length_nil], by simp only [List.map_nil, PyData.depthAll]⟩
  | k :: ks, h => by
    have ih := ints_gd ks fun z hz => h z (List.mem_cons_of_mem _ hz)
    have g := gd_int (i := k) (Nat.lt_of_lt_of_le (h k List.mem_cons_self) (Nat.pow_le_pow_right (by decide) (by decide)))
    exact ⟨by simp only [List.map_cons, gds, g, ih.1, Bool.and_self], by simp only [List.map_cons, nods, nod, ih.2.1, List.length_cons]; omega, by simp only [List.map_cons, PyData.depthAll, PyData.depth, ih.2.2, Nat.max_self]⟩
theorem ent_fin {l : List Addr} {H9 : Hp} {a du t dx : Addr} {wd rl : Str} {pv pv2 : V} {pd : PyData} (ha : H9 a = some (.ins C dx (fl wd (.str rl) pv))) (na : a ∉ l) (hdu : H9 du = some (.tup [.str wd, .str rl, pv2])) (nd : du ∉ l)
    (ht : H9 t = some (.tup [.ref a, .ref du])) (nt : t ∉ l) (d1 : Dp K (cut l H9) pv pd) (d2 : Dp K (cut l H9) pv2 pd) : Ent K C (cut l H9) (.ref t) ⟨wd, rl, pd⟩ :=
  ⟨t, a, du, pv, rfl, .inl (.inl (by rw [cut_out nt]; exact ht)), ⟨dx, by rw [cut_out na]; exact ha⟩, d1, .tup (.inl (.inl (by rw [cut_out nd]; exact hdu))) (.cons (.str _) (.cons (.str _) (.cons d2 .nil)))⟩
theorem made_same {H6 H7 : Hp} {a dx : Addr} {o1 o2 : HO} (ha : H6 a = none) (hdx : H6 dx = none) (e : ∀ b, b ≠ a → H7 b = upd (upd H6 dx o1) a o2 b) : Same H6 H7 := fun b o z => by
  rw [e b (ne_of_none z ha), upd_ne (ne_of_none z ha), upd_ne (ne_of_none z hdx)]
  exact z
theorem fin_br {l : List Addr} {H H6 H7 Hd : Hp} {p g a du t9 dx : Addr} {wd rl : Str} {pv pv2 : V} {pd : PyData} {Q : VK} (s67 : Same H6 H7) (e1 : H7 a = some (.ins C dx (fl wd (.str rl) pv))) (ha : H6 a = none) (t6 : Tr l H6) (sd : Same H7 Hd)
    (hdu : Hd du = none) (d1 : Dp K (cut l Hd) pv pd) (d2 : Dp K (cut l Hd) pv2 pd) (ht9 : (upd Hd du (.tup [.str wd, .str rl, pv2])) t9 = none) (ok : okI ⟨wd, rl, pd⟩) (c6 : Box H6 p g) (o6 : Off [p, g] H H6)
    (q : ∀ (v : V) (m : Inf) (H' : Hp), Ent K C (cut l H') v m → okI m → Box H' p g → Off [p, g] H H' → Q v H') : Q (.ref t9) (upd (upd Hd du (.tup [.str wd, .str rl, pv2])) t9 (.tup [.ref a, .ref du])) := by
  have s1 := same_new (o := .tup [.str wd, .str rl, pv2]) hdu
  have s2 := same_new (o := .tup [.ref a, .ref du]) ht9
  have sA := sd.trans (s1.trans s2)
  have s69 := s67.trans sA
  have td := t6.same (s67.trans sd)
  have up : Same (cut l Hd) (cut l (upd (upd Hd du (.tup [.str wd, .str rl, pv2])) t9 (.tup [.ref a, .ref du]))) := Off.of (s1.trans s2)
  exact q _ ⟨wd, rl, pd⟩ _ (ent_fin (sA _ _ e1) (t6.out ha) (s2 _ _ upd_same) (td.out hdu) upd_same ((td.same s1).out ht9) (Dp.up up _ _ d1) (Dp.up up _ _ d2)) ok (c6.same s69) (o6.trans (Off.of s69))
theorem ok_fault {k : Nat} (F : Fun K "_law_fault" "_law_fault" sFault f fd) (B : Bi mg) (T : Tk P w K mg base fT dT) (GP : Dn P w K mg base 2 "_law_pick" ["_law_box_here", "_law_items"] spPick fP dP) (M : MkF P w K mg base C fI dI t0) (mF : mg "Fault" = some (.ref C)) :
    FnOk P w K mg base CX0 (k + 3) f fd ["_law_box_here"] (spFault K C) := by
  refine F.ok scFault (fun vs H Q E h => ?_) (fun cdv A outer s H vs Q E hr h => ?_)
  · obtain ⟨p, g, l, rfl, _⟩ := h
    rfl
  obtain ⟨p, g, l, rfl, hb, tl, q⟩ := h
  have hr1 : Room 1 _ := hr.mono (by omega)
  have hr2 : Room 2 _ := hr.mono (by omega)
  obtain ⟨ds2, v2, b2⟩ := M.b2
  obtain ⟨ds3, v3, b3⟩ := M.b3
  obtain ⟨ds4, v4, b4⟩ := M.b4
  obtain ⟨its, bk⟩ := M.bk
  refine ⟨_, pss_cons (ps_set (i := 1) scFault.nd rfl (.inl rfl) (pe_lst (pa_cons pe_str (pa_cons pe_str (pa_cons pe_str (pa_cons pe_str (pa_cons pe_str (pa_cons pe_str (pa_cons pe_str (pa_cons pe_str (pa_cons pe_str pa_nil)))))))))))
    (pss_cons (ps_par (i := 2) (j := 3) (by rfl) scFault.nd rfl rfl (by decide) rfl rfl (pa_cons (pe_call GP.ok hr2 (by rfl) GP.mg GP.kp GP.bd .nil pass0 (pa_cons (pv 0) (pa_cons (pv 1) pa_nil)))
      (pa_cons (pe_call GP.ok hr2 (by rfl) GP.mg GP.kp GP.bd .nil pass0 (pa_cons (pv 0) (pa_cons (pe_lst (pa_cons pe_str (pa_cons pe_str (pa_cons pe_str (pa_cons pe_str pa_nil))))) pa_nil))) pa_nil)) (by rfl))
    (pss_cons (ps_par (i := 4) (j := 5) (by rfl) scFault.nd rfl rfl (by decide) rfl rfl (pa_cons (pe_callTy call_tuple_of (by rfl) B.tup b_tup (pa_cons (pe_lc (own := [("_law_k", 6)]) (g := gName 6) (by rfl) scFault.nd
        (pi_range1 (by rfl) B.rng (pa_cons (pe_call T.ok hr1 (by rfl) T.mg T.kp T.bd .nil pass0 (pa_cons (pv 0) (pa_cons pe_int pa_nil))) pa_nil))
        (blkOk_by (own := [("_law_k", 6)]) (N := ["_law_box_here", "_law_some", "_law_said", "_law_where", "_law_way", "_law_form", "_law_k"]) (sc := defScope sFault) (by decide +kernel))
        (fun _ _ _ _ _ => pg_name (i := 6) scFault.nd rfl (Or.inl rfl)) (fun _ _ _ _ _ => pts_nil)
        (fun _ _ _ _ _ => pe_call T.ok hr1 (by rfl) T.mg T.kp T.bd .nil pass0 (pa_cons (pv 0) (pa_cons pe_int pa_nil)))) pa_nil))
      (pa_cons (pe_call T.ok hr1 (by rfl) T.mg T.kp T.bd .nil pass0 (pa_cons (pv 0) (pa_cons pe_int pa_nil))) pa_nil)) (by rfl))
    (pss_cons (ps_if (pt_cmpR op_eq (pv 5) pe_int (nomark _)) (pss_one (ps_ret (pe_tup (pa_cons (pe_make M.mkr M.ok hr2 (by rfl) mF b2 v2 pass0 (pa_cons (pv 2) pa_nil)) (pa_cons (pe_tup (pa_cons (pv 2) (pa_cons pe_str (pa_cons (pe_tup pa_nil) pa_nil)))) pa_nil))))) pss_nil)
    (pss_cons (ps_if (pt_cmpR op_eq (pv 5) pe_int (nomark _)) (pss_one (ps_ret (pe_tup (pa_cons (pe_make M.mkr M.ok hr2 (by rfl) mF b3 v3 pass0 (pa_cons (pv 2) (pa_cons (pv 3) pa_nil))) (pa_cons (pe_tup (pa_cons (pv 2) (pa_cons (pv 3) (pa_cons (pe_tup pa_nil) pa_nil)))) pa_nil))))) pss_nil)
    (pss_cons (ps_if (pt_cmpR op_eq (pv 5) pe_int (nomark _)) (pss_one (ps_ret (pe_tup (pa_cons (pe_makeK0 M.mkr M.ok hr2 (by rfl) mF bk pass0 (pk_cons (pv 4) (pk_cons (pv 2) pk_nil))) (pa_cons (pe_tup (pa_cons (pv 2) (pa_cons pe_str (pa_cons (pv 4) pa_nil)))) pa_nil))))) pss_nil)
    (pss_one (ps_ret (pe_tup (pa_cons (pe_make M.mkr M.ok hr2 (by rfl) mF b4 v4 pass0 (pa_cons (pv 2) (pa_cons (pv 3) (pa_cons (pv 4) pa_nil)))) (pa_cons (pe_tup (pa_cons (pv 2) (pa_cons (pv 3) (pa_cons (pv 4) pa_nil)))) pa_nil)))))))))), ?_⟩
  refine ⟨few (by simp), fun D1 hD1 => ?_⟩
  have n1 := hb.notin hD1
  refine ⟨_, rfl, _, rfl, p, g, D1, ws1.map V.str, rfl, hb.put n1, upd_same, n1, by simp, by simp, fun x H1 mwd c1 o1 => ?_⟩
  obtain ⟨wd, rfl, sw⟩ := mem_words words1 x mwd
  have o1 := off_new (Off.refl _ _) n1 hD1 |>.trans o1
  refine ⟨_, rfl, few (by simp), fun D2 hD2 => ?_⟩
  have n2 := c1.notin hD2
  refine ⟨p, g, D2, ws2.map V.str, rfl, c1.put n2, upd_same, n2, by simp, by simp, fun x H2 mx c2 o2 => ?_⟩
  obtain ⟨rl, rfl, sr⟩ := mem_words words2 x mx
  have o2 := o1.trans ((off_new (Off.refl _ _) n2 hD2).trans o2)
  refine ⟨_, _, rfl, ?_⟩
  refine ⟨_, rfl, p, g, 4, rfl, c2, by decide, by decide, fun r1 H3 r10 r14 c3 o3 => ⟨r1, rfl, by omega, by omega, fun D3 hD3 => ?_⟩⟩
  have o3 := o2.trans o3
  have n3 := c3.notin hD3
  refine lc_range (lo := 0) (n := r1.toNat) (fun i H4 => ∃ ks : List Int, ks.length = i ∧ (∀ z ∈ ks, z.natAbs < 2 ^ 10) ∧ H4 D3 = some (.lst (ks.map V.int)) ∧ Box H4 p g ∧ Off [p, g] H H4) ⟨[], rfl, fun _ z => (List.not_mem_nil z).elim, upd_same, c3.put n3, off_new o3 n3 (o3.free hD3 n3)⟩ ?_ ?_
  · rintro i H4 hi ⟨ks, lk, sk, h1, c4, o4⟩
    refine ⟨rfl, _, rfl, p, g, 6, rfl, c4, by decide, by decide, fun r2 H5 r20 r26 c5 o5 => ?_⟩
    refine ⟨_, o5.get h1 n3, few (by rw [List.length_map]; omega), ks ++ [r2], by rw [List.length_append, List.length_singleton, lk], fun z hz => ?_, by rw [upd_same, List.map_append]; rfl, c5.put n3, off_new (o4.trans o5) n3 (o3.free hD3 n3)⟩
    · rcases List.mem_append.mp hz with h | h
      · exact sk z h
      · rw [List.mem_singleton.mp h]
        omega
  rintro H4 ⟨ks, lk, sk, h1, c4, o4⟩
  refine ⟨D3, ks.map V.int, rfl, .inl ⟨SqL.of h1, fun t ht => ?_⟩⟩
  have nt := c4.notin ht
  refine ⟨_, rfl, p, g, 4, rfl, c4.put nt, by decide, by decide, fun r3 H6 r30 r34 c6 o6 => ⟨_, _, rfl, ?_⟩⟩
  have hp6 := o6.get (upd_same (a := t)) nt
  have o6 := (off_new (o := .tup (ks.map V.int)) o4 nt (o4.free ht nt)).trans o6
  have t6 : Tr l H6 := tl.go o6 fun b hb => by
    have t := c6.tr
    simp only [List.mem_cons, List.not_mem_nil, or_false] at hb
    rcases hb with h | h
    · rw [h]; exact t.1
    · rw [h]; exact t.2
  have t4 : Tr l H4 := tl.go o4 fun b hb => by
    have t := c4.tr
    simp only [List.mem_cons, List.not_mem_nil, or_false] at hb
    rcases hb with h | h
    · rw [h]; exact t.1
    · rw [h]; exact t.2
  have tp := t4.out ht
  have gk := ints_gd ks sk
  have sw : Sm 20 wd ∧ qt wd = true := by
    obtain ⟨y, hy, ey⟩ := List.mem_map.mp mwd
    cases ey
    exact ⟨sw, List.all_eq_true.mp words3 _ hy⟩
  have e0 : Sm 20 ("" : Str) := Sm.of (by decide +kernel)
  have g0 : okI ⟨wd, "", .tuple []⟩ ∧ okI ⟨wd, rl, .tuple []⟩ := ⟨⟨sw, e0, by simp only [gd, gds], by simp only [nod, nods]; omega, by simp only [PyData.depth, PyData.depthAll]; omega⟩, ⟨sw, sr, by simp only [gd, gds], by simp only [nod, nods]; omega, by simp only [PyData.depth, PyData.depthAll]; omega⟩⟩
  have g1 : okI ⟨wd, "", .tuple (ks.map PyData.int)⟩ ∧ okI ⟨wd, rl, .tuple (ks.map PyData.int)⟩ := by
    have a1 : gd (.tuple (ks.map PyData.int)) = true := by simp only [gd]; exact gk.1
    have a2 : nod (.tuple (ks.map PyData.int)) ≤ 10 := by simp only [nod, gk.2.1]; omega
    have a3 : (PyData.tuple (ks.map PyData.int)).depth ≤ 1 := by simp only [PyData.depth, gk.2.2]; omega
    exact ⟨⟨sw, e0, a1, a2, a3⟩, ⟨sw, sr, a1, a2, a3⟩⟩
  refine ⟨_, rfl, rfl, _, rfl, ite2 (fun _ => ?f0) (fun _ => ⟨_, rfl, rfl, _, rfl, ite2 (fun _ => ?f1) (fun _ => ⟨_, rfl, rfl, _, rfl, ite2 (fun _ => ?f2) (fun _ => ?f3)⟩)⟩)⟩
  case f0 =>
    refine ⟨_, rfl, fun a dx ha hdx ne => ⟨a, dx, wd, .str "", .ref t0, rfl, upd_same, fun H7 e1 e2 => ⟨rfl, ?_⟩⟩⟩
    have s67 : Same H6 H7 := made_same ha hdx e2
    refine ⟨_, rfl, few (by simp), fun u hu => ⟨few (by simp), fun du hdu => ⟨few (by simp), fun t9 ht9 => ?_⟩⟩⟩
    exact fin_br s67 e1 ha t6 (same_new hu _) hdu (.tup (M.z _) .nil) (.tup (.inl (.inl (by rw [cut_out ((t6.same s67).out hu)]; exact upd_same))) .nil) ht9 g0.1 c6 o6 q
  case f1 =>
    refine ⟨_, rfl, _, rfl, fun a dx ha hdx ne => ⟨a, dx, wd, .str rl, .ref t0, rfl, upd_same, fun H7 e1 e2 => ⟨rfl, ?_⟩⟩⟩
    have s67 : Same H6 H7 := made_same ha hdx e2
    refine ⟨_, rfl, _, rfl, few (by simp), fun u hu => ⟨few (by simp), fun du hdu => ⟨few (by simp), fun t9 ht9 => ?_⟩⟩⟩
    exact fin_br s67 e1 ha t6 (same_new hu _) hdu (.tup (M.z _) .nil) (.tup (.inl (.inl (by rw [cut_out ((t6.same s67).out hu)]; exact upd_same))) .nil) ht9 g0.2 c6 o6 q
  case f2 =>
    refine ⟨_, rfl, _, rfl, rfl, rfl, fun a dx ha hdx ne => ⟨a, dx, wd, .str "", .ref t, rfl, upd_same, fun H7 e1 e2 => ⟨rfl, ?_⟩⟩⟩
    have s67 : Same H6 H7 := made_same ha hdx e2
    refine ⟨_, rfl, _, rfl, few (by simp), fun du hdu => ⟨few (by simp), fun t9 ht9 => ?_⟩⟩
    have d : Dp K (cut l H7) (.ref t) (.tuple (ks.map PyData.int)) := .tup (.inl (.inl (by rw [cut_out tp]; exact s67 _ _ hp6))) (ints_dp ks)
    exact fin_br s67 e1 ha t6 (Same.refl _) hdu d d ht9 g1.1 c6 o6 q
  case f3 =>
    refine ⟨_, rfl, _, rfl, _, rfl, fun a dx ha hdx ne => ⟨a, dx, wd, .str rl, .ref t, rfl, upd_same, fun H7 e1 e2 => ⟨rfl, ?_⟩⟩⟩
    have s67 : Same H6 H7 := made_same ha hdx e2
    refine ⟨_, rfl, _, rfl, _, rfl, few (by simp), fun du hdu => ⟨few (by simp), fun t9 ht9 => ?_⟩⟩
    have d : Dp K (cut l H7) (.ref t) (.tuple (ks.map PyData.int)) := .tup (.inl (.inl (by rw [cut_out tp]; exact s67 _ _ hp6))) (ints_dp ks)
    exact fin_br s67 e1 ha t6 (Same.refl _) hdu d d ht9 g1.2 c6 o6 q
end
abbrev sRight : Stmt := topS 7
theorem scRight : FnScope ["_law_fault_here", "_law_due", "_law_others", "_law_other"] ["_law_fault_here", "_law_due"] (defScope sRight) := ⟨rfl, rfl, rfl, by decide +kernel, rfl, by decide +kernel, by decide +kernel⟩
def spRight (K : PySem.W.Frag) (C : Addr) : Sp := fun vs H Q _ => ∃ a du p m, vs = [.ref a, .ref du] ∧ FaultAt C H a m.wd (.str m.rl) p ∧ Dp K H p m.pd ∧ Dp K H (.ref du) (dueD m) ∧ okI m ∧ ∀ H', Same H H' → Q (.bl true) H'
/-- the class's own ==, str, repr -/
structure Own4 (P : Program) (w : World) (K : PySem.W.Frag) (mg : Str → Option Value) (base : Heap) (C fE : Addr) (dE : FuncData) (fS : Addr) (dS : FuncData) (fR : Addr) (dR : FuncData) : Prop where
  fa : FaC K mg C fE
  ge : FnOk P w K mg base CX0 1 fE dE ["self", "other"] (spEqF K C)
  be : Binds K dE ["self", "other"] []
  ms : Meth K C "__str__" fS
  gs : FnOk P w K mg base CX0 1 fS dS ["self"] (spStrF C)
  bs : Binds K dS ["self"] []
  mr : Meth K C "__repr__" fR
  gr : FnOk P w K mg base CX0 1 fR dR ["self"] (spRepF C)
  br : Binds K dR ["self"] []
section
variable {X : Cx} {C fE : Addr} {k : Nat} {fd : FuncData} {sp : Sp} {K : PySem.W.Frag}
theorem op_eqLK (h : X.K = K) (O : OwnC K C fE) (F : FnOk X.prog X.w K X.mg X.base CX0 k fE fd ["self", "other"] sp) (hb : Binds K fd ["self", "other"] []) (hr : Room k X.A) : OpR X (compareOp .Eq) (rEqL C sp K) := by
  subst h
  exact op_eqL O F hb hr
theorem op_eqRK (h : X.K = K) (O : OwnC K C fE) (F : FnOk X.prog X.w K X.mg X.base CX0 k fE fd ["self", "other"] sp) (hb : Binds K fd ["self", "other"] []) (hr : Room k X.A) : OpR X (compareOp .Eq) (rEqR C sp K) := by
  subst h
  exact op_eqR O F hb hr
theorem op_neLK (h : X.K = K) (O : OwnC K C fE) (F : FnOk X.prog X.w K X.mg X.base CX0 k fE fd ["self", "other"] sp) (hb : Binds K fd ["self", "other"] []) (hr : Room (k + 1) X.A) : OpR X (compareOp .NotEq) (rNeL C sp K) := by
  subst h
  exact op_neL O F hb hr
end
section
variable {P : Program} {w : World} {K : PySem.W.Frag} {mg : Str → Option Value} {base : Heap} {f C fE fS fR : Addr} {fd dE dS dR : FuncData}
theorem ok_right {k : Nat} (F : Fun K "_law_right" "_law_right" sRight f fd) (B : Bi mg) (W : Own4 P w K mg base C fE dE fS dS fR dR) : FnG P w K mg base CX0 (k + 4) f fd ["_law_fault_here", "_law_due"] (spRight K C) := by
  refine okG F scRight (fun vs H Q E h => ?_) (fun cdv A outer s H vs Q E hgd hr h => ?_)
  · obtain ⟨a, du, p, m, rfl, _⟩ := h
    rfl
  obtain ⟨a, du, p, ⟨wd, rl, pd⟩, rfl, hf, dp, dd, ⟨⟨sw, hq⟩, sr, gp, np, pp⟩, q⟩ := h
  have hr1 : Room 1 _ := hr.mono (by omega)
  have hr2 : Room 2 _ := hr.mono (by omega)
  have hr3 : Room 3 _ := hr.mono (by omega)
  refine ⟨_, pss_cons (ps_if (pt_cmpR op_ne (pe_callB (call_rep hgd hr.units) (by rfl) B.rep b_rep (pa_cons (pe_tup (pa_cons (pe_fld (pv 0) rfl) (pa_cons (pe_fld (pv 0) rfl) (pa_cons (pe_fld (pv 0) rfl) pa_nil)))) pa_nil))
      (pe_callB (call_rep hgd hr.units) (by rfl) B.rep b_rep (pa_cons (pv 1) pa_nil)) (nomark _)) (pss_one (ps_ret pe_bl)) pss_nil)
    (pss_cons (ps_if (PW.pt (pw_or (pt_cmpR op_ne (pe_callTy (call_strO W.ms W.gs W.bs hr3) (by rfl) B.str b_str (pa_cons (pv 0) pa_nil)) (pe_op op_add_str pe_str (pe_ix ix_tup (pv 1) pe_int (fun _ _ => rfl))) (nomark _))
      (pw_or1 (pt_cmpR op_ne (pe_callB (call_repO W.mr W.gr W.br hr2) (by rfl) B.rep b_rep (pa_cons (pv 0) pa_nil)) (pe_op op_add_str (pe_op op_add_str pe_str (pe_ix ix_tup (pv 1) pe_int (fun _ _ => rfl))) pe_str) (nomark _))))) (pss_one (ps_ret pe_bl)) pss_nil)
    (pss_cons (ps_set (i := 2) scRight.nd rfl (.inl rfl) (pe_lst (pa_cons (pe_ix ix_tup (pv 1) pe_int (fun _ _ => rfl)) (pa_cons (pv 1) (pa_cons pe_non (pa_cons pe_int (pa_cons (pe_op op_add_str pe_str (pe_ix ix_tup (pv 1) pe_int (fun _ _ => rfl)))
      (pa_cons (pe_tup (pa_cons pe_str (pa_cons (pe_ix ix_tup (pv 1) pe_int (fun _ _ => rfl)) pa_nil))) (pa_cons (pe_lst (pa_cons (pe_ix ix_tup (pv 1) pe_int (fun _ _ => rfl)) pa_nil)) (pa_cons pe_bl pa_nil))))))))))
    (pss_one (ps_ret (pe_cmpR (op_eqD hr.units) (pe_lc (own := [("_law_other", 3)]) (g := gName 3) (by rfl) scRight.nd (pi_list (pv 2))
        (blkOk_by (own := [("_law_other", 3)]) (N := ["_law_fault_here", "_law_due", "_law_others", "_law_other"]) (sc := defScope sRight) (by decide +kernel))
        (fun _ _ _ _ _ => pg_name (i := 3) scRight.nd rfl (Or.inl rfl))
        (fun _ _ _ _ _ => pts_one (PW.pt (pw_or (pt_cmpR (op_eqLK (K := K) rfl W.fa.o W.ge W.be hr1) (pv 0) (pv 3) (nomark _)) (pw_or (pt_cmpR (op_eqRK (K := K) rfl W.fa.o W.ge W.be hr1) (pv 3) (pv 0) (nomark _)) (pw_or1 (pt_not (pt_cmpR (op_neLK (K := K) rfl W.fa.o W.ge W.be hr2) (pv 0) (pv 3) (nomark _))))))))
        (fun _ _ _ _ _ => pe_int)) (pe_lst pa_nil) (nomark _)))))), ?_⟩
  have sw : Sm 20 wd := sw
  have sr : Sm 20 rl := sr
  have hq : qt wd = true := hq
  have gp : gd pd = true := gp
  have np : nod pd ≤ 10 := np
  have pp : pd.depth ≤ 1 := pp
  have hg0 : gd (.str wd) = true := sw.gd (by decide)
  obtain ⟨dx, ha⟩ := hf
  have dd0 := dd
  cases dd with
  | tup hdu dds =>
  cases dds with
  | cons d1 dds =>
  cases dds with
  | cons d2 dds =>
  cases dds with
  | cons d3 dds =>
  cases dds
  cases d1
  cases d2
  rename_i vp
  have T := W.fa
  have prd : Prn (.tuple [.str wd, .str rl, pd]) := prn_of (by
    have g2 := sr.gd (by decide)
    simp only [gd, gds] at hg0 g2 ⊢
    rw [hg0, g2, gp]
    rfl) (by simp only [nod, nods]; omega) (by simp only [PyData.depth, PyData.depthAll]; omega)
  refine ⟨_, rfl, a, C, dx, _, _, rfl, ha, T.o.c.cl, T.nw, fl_word _ _ _, _, rfl, a, C, dx, _, _, rfl, ha, T.o.c.cl, T.nr, fl_rule _ _ _, _, rfl, a, C, dx, _, _, rfl, ha, T.o.c.cl, T.np, fl_path _ _ _, few (by simp), fun u hu => ?_⟩
  have s1 := same_new (o := .tup [.str wd, .str rl, p]) hu
  refine ⟨_, .tuple [.str wd, .str rl, pd], rfl, .tup (.inl (.inl upd_same)) (.cons (.str _) (.cons (.str _) (.cons (Dp.up s1 _ _ dp) .nil))), prd, ?_⟩
  refine ⟨_, rfl, _, .tuple [.str wd, .str rl, pd], rfl, Dp.up s1 _ _ dd0, prd, rfl, _, rfl, ?_⟩
  rw [decide_eq_true rfl]
  refine iteF ?_
  have sh := seqT_up s1 hdu
  have h0 : atI [V.str wd, V.str rl, vp] 0 = some (.str wd) := rfl
  have ha1 := s1 _ _ ha
  have l6 : (("fault " : Str)).length = 6 := by decide +kernel
  have l7 : (("Fault('" : Str)).length = 7 := by decide +kernel
  have l2 : (("')" : Str)).length = 2 := by decide +kernel
  have lw := sw.le
  unfold qt at hq
  rw [Bool.and_eq_true] at hq
  have q1 := of_decide_eq_true hq.1
  have q2 := of_decide_eq_true hq.2
  refine ⟨_, rfl, a, dx, _, rfl, ha1, a, wd, .str rl, p, rfl, ⟨dx, ha1⟩, sw, _, rfl, ?_⟩
  rw [q1]
  refine ⟨_, rfl, du, _, 0, _, rfl, rfl, sh, h0, _, _, rfl, rfl, few (by rw [l6]; omega), rfl, _, rfl, ?_⟩
  rw [decide_eq_true rfl]
  refine iteF ?_
  refine ⟨_, rfl, a, dx, _, rfl, ha1, a, wd, .str rl, p, rfl, ⟨dx, ha1⟩, sw, _, rfl, ?_⟩
  rw [q2]
  refine ⟨_, rfl, du, _, 0, _, rfl, rfl, sh, h0, _, _, rfl, rfl, few (by rw [l7]; omega), _, _, rfl, rfl, few (by rw [Str.length_append, l7, l2]; omega), rfl, _, rfl, ?_⟩
  rw [decide_eq_true rfl]
  refine iteF ?_
  have st : (("fault " : Str)).length + wd.length ≤ sizeLine := few (by rw [l6]; omega)
  refine ⟨_, rfl, du, _, 0, _, rfl, rfl, sh, h0, _, rfl, _, rfl, du, _, 0, _, rfl, rfl, sh, h0, _, _, rfl, rfl, st, _, rfl, du, _, 0, _, rfl, rfl, sh, h0, few (by simp), fun t2 ht2 => ?_⟩
  have s2 := s1.trans (same_new (o := .tup [V.str "fault", V.str wd]) ht2)
  refine ⟨_, rfl, du, _, 0, _, rfl, rfl, seqT_up s2 hdu, h0, few (by simp), fun t3 ht3 => ⟨few (by simp), fun L hL => ?_⟩⟩
  have s3 := same_new (o := .lst [V.str wd]) ht3
  have s4 := same_new (o := .lst [V.str wd, V.ref du, V.non, V.int 0, V.str (("fault " : Str) ++ wd), V.ref t2, V.ref t3, V.bl true]) hL
  have sL := s2.trans (s3.trans s4)
  have dL : DpAll K (upd (upd (upd (upd H u (.tup [V.str wd, V.str rl, p])) t2 (.tup [V.str "fault", V.str wd])) t3 (.lst [V.str wd])) L (.lst [V.str wd, V.ref du, V.non, V.int 0, V.str (("fault " : Str) ++ wd), V.ref t2, V.ref t3, V.bl true])) [V.str wd, V.ref du, V.non, V.int 0, V.str (("fault " : Str) ++ wd), V.ref t2, V.ref t3, V.bl true]
      [.str wd, dueD ⟨wd, rl, pd⟩, .none, .int 0, .str (("fault " : Str) ++ wd), .tuple [.str "fault", .str wd], .list [.str wd], .bool true] := by
    exact .cons (.str _) (.cons (Dp.up sL _ _ dd0) (.cons .non (.cons (.int _) (.cons (.str _) (.cons (.tup (.inl (.inl (s4 _ _ (s3 _ _ upd_same)))) (.cons (.str _) (.cons (.str _) .nil))) (.cons (.lst (SqL.of (s4 _ _ upd_same)) (.cons (.str _) .nil)) (.cons (.bl _) .nil)))))))
  have hLx := upd_same (H := upd (upd (upd H u (.tup [V.str wd, V.str rl, p])) t2 (.tup [V.str "fault", V.str wd])) t3 (.lst [V.str wd])) (a := L) (o := .lst [V.str wd, V.ref du, V.non, V.int 0, V.str (("fault " : Str) ++ wd), V.ref t2, V.ref t3, V.bl true])
  generalize hHL : upd (upd (upd (upd H u (.tup [V.str wd, V.str rl, p])) t2 (.tup [V.str "fault", V.str wd])) t3 (.lst [V.str wd])) L (.lst [V.str wd, V.ref du, V.non, V.int 0, V.str (("fault " : Str) ++ wd), V.ref t2, V.ref t3, V.bl true]) = HL at *
  refine ⟨_, rfl, L, rfl, ⟨_, SqL.of hLx⟩, fun D hD => along (walk_list (K := K) (a := L) (xs := [V.str wd, V.ref du, V.non, V.int 0, V.str (("fault " : Str) ++ wd), V.ref t2, V.ref t3, V.bl true])) (fun i H2 => H2 D = some (.lst []) ∧ Same HL H2) ⟨upd_same, same_new hD _⟩ (fun i H2 _ ⟨_, h⟩ => SqL.of (h _ _ hLx)) ?_ ?_⟩
  · rintro i y H2 H3 hi ⟨h1, h2⟩ ⟨rfl, hy⟩
    obtain ⟨e, he, de⟩ := DpAll.get dL hy
    have de2 := Dp.up h2 _ _ de
    have ha2 := h2 _ _ (sL _ _ ha)
    refine ⟨rfl, _, rfl, _, rfl, a, dx, _, rfl, ha2, .inl ⟨e, de2⟩, ⟨a, wd, _, _, y, rfl, ⟨dx, ha2⟩, .inl ⟨e, de2, false, rfl, ?_⟩⟩⟩
    refine ⟨_, rfl, iteF ?_⟩
    refine ⟨_, rfl, _, rfl, a, dx, _, e, rfl, ha2, de2, ⟨a, wd, _, _, y, rfl, ⟨dx, ha2⟩, .inl ⟨e, de2, false, rfl, ?_⟩⟩⟩
    refine ⟨_, rfl, iteF ?_⟩
    refine ⟨_, rfl, _, rfl, a, dx, _, rfl, ha2, .inl ⟨e, de2⟩, ⟨a, wd, _, _, y, rfl, ⟨dx, ha2⟩, .inl ⟨e, de2, false, rfl, ?_⟩⟩⟩
    exact ⟨_, rfl, iteF ⟨h1, h2⟩⟩
  · rintro H2 ⟨h1, h2⟩
    refine ⟨by decide, fun t ht2 => ?_⟩
    have s5 := same_new (o := .lst []) ht2
    refine ⟨.list [], .list [], .lst (SqL.of (s5 _ _ h1)) .nil, .lst (SqL.of upd_same) .nil, by decide +kernel, by decide +kernel, ?_⟩
    have e : PyData.eqv (.list []) (.list []) = true := by simp only [PyData.eqv, PyData.eqvAll]
    rw [e]
    exact q _ (sL.trans (h2.trans s5))
end
abbrev sLaw : Stmt := topS 8
theorem scLaw : FnScope ["_law_script", "_law_box_here", "_law_turn", "_law_pairs", "_law_one", "_law_due", "_law_other", "_law_there", "_law_twin", "_law_k", "_law_fault_here"] ["_law_script"] (defScope sLaw) :=
  ⟨rfl, rfl, rfl, by decide +kernel, rfl, by decide +kernel, by decide +kernel⟩
def spLaw (K : PySem.W.Frag) : Sp := fun vs H Q _ => ∃ (a : Addr) (ns : List Int), vs = [.ref a] ∧ SqL K H a (ns.map V.int) ∧ ns.length ≤ 63 ∧ ∀ H', Q (.bl true) H'
def Ents (K : PySem.W.Frag) (C : Addr) (H : Hp) (vs : List V) : Prop := ∀ v ∈ vs, ∃ m, Ent K C H v m ∧ okI m
theorem Ents.up {K : PySem.W.Frag} {C : Addr} {H H' : Hp} {vs : List V} (s : Same H H') (h : Ents K C H vs) : Ents K C H' vs := fun v hv => by
  obtain ⟨m, h1, h2⟩ := h v hv
  exact ⟨m, h1.up s, h2⟩
theorem pg_tupK {X : Cx} {K : PySem.W.Frag} {pos : Pos} {es : List Expr} {k : Nat} {t : TGs} {n : Nat} (h0 : X.K = K) (hc : X.calm = true) (h : PGs X es t)
    (hn : (assignEach es X.env).length = n := by rfl) (hst : (assignEach es X.env).findIdx? (·.1) = none := by rfl) : PG X (.Tuple es k pos) (gTup K n t) := by
  subst h0
  exact pg_tup hc h hn hst
theorem due_sq {K : PySem.W.Frag} {H : Hp} {d : Addr} {m : Inf} (h : Dp K H (.ref d) (dueD m)) : ∃ vp, SqT K H d [.str m.wd, .str m.rl, vp] := by
  cases h with
  | tup h1 ds =>
  cases ds with
  | cons d1 ds =>
  cases ds with
  | cons d2 ds =>
  cases ds with
  | cons d3 ds =>
  cases ds
  cases d1
  cases d2
  exact ⟨_, h1⟩
theorem str_dec (x y : Str) : decide (V.str x = V.str y) = decide (x = y) := by
  by_cases h : x = y
  · rw [decide_eq_true h, decide_eq_true (congrArg V.str h)]
  · rw [decide_eq_false h, decide_eq_false fun z => h (V.str.inj z)]
theorem two_prn (b c : Bool) : Prn (.list [.bool b, .bool c]) := prn_of (by simp only [gd, gds]; rfl) (by simp only [nod, nods]; omega) (by simp only [PyData.depth, PyData.depthAll]; omega)
section
variable {P : Program} {w : World} {K : PySem.W.Frag} {mg : Str → Option Value} {base : Heap}
theorem ok_law {f fB fT fF fR fE fS fQ C : Addr} {fd dB dT dF dR dE dS dQ : FuncData} (F : Fun K "law" "law" sLaw f fd) (B : Bi mg)
    (GB : Dn P w K mg base 1 "_law_box" ["_law_script", "_law_base"] (spBox K) fB dB) (T : Tk P w K mg base fT dT)
    (GF : Dn P w K mg base 3 "_law_fault" ["_law_box_here"] (spFault K C) fF dF) (W : Own4 P w K mg base C fE dE fS dS fQ dQ)
    (GR : FnG P w K mg base CX0 4 fR dR ["_law_fault_here", "_law_due"] (spRight K C)) (kR : PySem.W.keepIn K (.ref fR) = true) (bR : Binds K dR ["_law_fault_here", "_law_due"] []) (mR : mg "_law_right" = some (.ref fR)) :
    FnG P w K mg base CX0 5 f fd ["_law_script"] (spLaw K) := by
  refine okG F scLaw (fun vs H Q E h => ?_) (fun cdv A outer s H vs Q E hgd hr h => ?_)
  · obtain ⟨a, ns, rfl, _⟩ := h
    rfl
  obtain ⟨a, ns, rfl, hS, hlen, q⟩ := h
  have hr1 : Room 1 _ := hr.mono (by decide)
  have hr2 : Room 2 _ := hr.mono (by decide)
  have hr3 : Room 3 _ := hr.mono (by decide)
  refine ⟨_, pss_cons (ps_set (i := 1) scLaw.nd rfl (.inr rfl) (pe_call GB.ok hr1 (by rfl) GB.mg GB.kp GB.bd .nil pass0 (pa_cons (pv 0) (pa_cons pe_int pa_nil))))
    (pss_cons (ps_for PassesOwn.never rfl (pi_range1 (by rfl) B.rng (pa_cons pe_int pa_nil)) (pg_name (i := 2) scLaw.nd rfl (.inl rfl))
      (pss_cons (ps_setLc (i := 3) (own := [("_law_k", 9)]) (g := gName 9) (by rfl) scLaw.nd rfl rfl (sw_true rfl rfl rfl (by decide +kernel))
          (pi_range1 (by rfl) B.rng (pa_cons (pe_op op_add pe_int (pe_call T.ok hr1 (by rfl) T.mg T.kp T.bd .nil pass0 (pa_cons (pv 1) (pa_cons pe_int pa_nil)))) pa_nil))
          (blkOk_by (own := [("_law_k", 9)]) (N := ["_law_script", "_law_box_here", "_law_turn", "_law_pairs", "_law_one", "_law_due", "_law_other", "_law_there", "_law_twin", "_law_k", "_law_fault_here"]) (sc := defScope sLaw) (by decide +kernel))
          (fun _ _ _ _ _ => pg_name (i := 9) scLaw.nd rfl (Or.inl rfl)) (fun _ _ _ _ _ => pts_nil)
          (fun _ _ _ _ _ => pe_call GF.ok hr3 (by rfl) GF.mg GF.kp GF.bd .nil pass0 (pa_cons (pv 1) pa_nil)))
      (pss_cons (ps_for PassesOwn.never rfl (pi_list (pv 3)) (pg_tup (by rfl) (pgs_cons (pg_name (i := 4) scLaw.nd rfl (.inl rfl)) (pgs_cons (pg_name (i := 5) scLaw.nd rfl (.inl rfl)) pgs_nil)))
        (pss_one (ps_for PassesOwn.never rfl (pi_list (pv 3)) (pg_tup (by rfl) (pgs_cons (pg_name (i := 6) scLaw.nd rfl (.inl rfl)) (pgs_cons (pg_name (i := 7) scLaw.nd rfl (.inl rfl)) pgs_nil)))
          (pss_cons (ps_set (i := 8) scLaw.nd rfl (.inl rfl) (pe_cmpR op_eq (pe_ix ix_tup (pv 5) pe_int (fun _ _ => rfl)) (pe_ix ix_tup (pv 7) pe_int (fun _ _ => rfl)) (nomark _)))
          (pss_one (ps_if (pt_cmpR op_ne (pe_callB (call_rep hgd hr.units) (by rfl) B.rep b_rep (pa_cons (pe_lst (pa_cons (pe_cmpR (op_eqL W.fa.o W.ge W.be hr1) (pv 4) (pv 6) (nomark _)) (pa_cons (pe_cmpR (op_neL W.fa.o W.ge W.be hr2) (pv 4) (pv 6) (nomark _)) pa_nil))) pa_nil))
              (pe_callB (call_rep hgd hr.units) (by rfl) B.rep b_rep (pa_cons (pe_lst (pa_cons (pv 8) (pa_cons (pe_not (pv 8)) pa_nil))) pa_nil)) (nomark _)) (pss_one (ps_ret pe_bl)) pss_nil))))))
      (pss_one (ps_if (pt_not (pt_val (pe_callB (cr_all rfl) (by rfl) B.all b_all (pa_cons (pe_lc (own := [("_law_fault_here", 10), ("_law_due", 5)]) (g := gTup K 2 (gCons (gName 10) (gCons (gName 5) gNil))) (by rfl) scLaw.nd
          (pi_list (pe_op op_cat (pv 3) (pe_slice sl_list (pv 3) po_none (po_some pe_int))))
          (blkOk_by (own := [("_law_fault_here", 10), ("_law_due", 5)]) (N := ["_law_script", "_law_box_here", "_law_turn", "_law_pairs", "_law_one", "_law_due", "_law_other", "_law_there", "_law_twin", "_law_k", "_law_fault_here"]) (sc := defScope sLaw) (by decide +kernel))
          (fun _ _ _ _ _ => pg_tupK rfl (by rfl) (pgs_cons (pg_name (i := 10) scLaw.nd rfl (.inl rfl)) (pgs_cons (pg_name (i := 5) scLaw.nd rfl (.inl rfl)) pgs_nil))) (fun _ _ _ _ _ => pts_nil)
          (fun _ _ _ _ _ => pe_callG GR hgd hr (by rfl) mR kR bR .nil pass0 (pa_cons (pv 10) (pa_cons (pv 5) pa_nil)))) pa_nil)))) (pss_one (ps_ret pe_bl)) pss_nil)))))
    (pss_one (ps_ret pe_bl))), ?_⟩
  refine ⟨_, rfl, a, ns, 0, rfl, hS, hlen, Int.le_refl _, by decide, fun p g H1 b1 s1 np ng => ?_⟩
  refine ⟨3, rfl, by decide, by decide, for_range (n := 3) (fun i σ H2 => ∃ o2 o3 o4 o5 o6 o7 o8, σ = [some (.ref a), some (.ref p), o2, o3, o4, o5, o6, o7, o8, none, none] ∧ Box H2 p g) ⟨none, none, none, none, none, none, none, rfl, b1⟩ ?_ ?_⟩
  · rintro i σ H2 hi ⟨o2, o3, o4, o5, o6, o7, o8, rfl, b2⟩
    refine ⟨_, rfl, p, g, 5, rfl, b2, by decide, by decide, fun r H3 r0 r5 b3 off3 => ?_⟩
    refine ⟨_, _, rfl, rfl, 2 + r, rfl, by omega, by omega, fun D hD => ?_⟩
    have nD := b3.notin hD
    have pD : D ≠ p ∧ D ≠ g := by
      simp only [List.mem_cons, List.not_mem_nil, or_false, not_or] at nD
      exact nD
    refine lc_range (lo := 0) (n := (2 + r).toNat) (fun i H4 => ∃ vs : List V, vs.length = i ∧ H4 D = some (.lst vs) ∧ Ents K C (cut [D, p, g] H4) vs ∧ Box H4 p g) ⟨[], rfl, upd_same, fun _ z => (List.not_mem_nil z).elim, b3.put nD⟩ ?_ ?_
    · rintro i H4 hi ⟨vs, lv, h1, ev, b4⟩
      have tr : Tr [D, p, g] H4 := fun b hb => by
        have t := b4.tr
        simp only [List.mem_cons, List.not_mem_nil, or_false] at hb
        rcases hb with h | h | h
        · rw [h, h1]; exact fun z => nomatch z
        · rw [h]; exact t.1
        · rw [h]; exact t.2
      refine ⟨rfl, _, rfl, p, g, [D, p, g], rfl, b4, tr, fun v m H5 e5 k5 b5 off5 => ?_⟩
      have put5 : Off [D, p, g] H5 (upd H5 D (.lst (vs ++ [v]))) := Off.put (by simp)
      refine ⟨_, off5.get h1 nD, few (by omega), vs ++ [v], by rw [List.length_append, List.length_singleton, lv], upd_same, fun x hx => ?_, b5.put nD⟩
      rcases List.mem_append.mp hx with h | h
      · exact (ev.up ((off5.mono fun b hb => List.mem_cons_of_mem _ hb).trans put5)) x h
      · rw [List.mem_singleton.mp h]
        exact ⟨m, e5.up put5, k5⟩
    rintro H4 ⟨vs, lv, h1, ev, b4⟩
    have ev := ev.up (cut_same _ _)
    refine ⟨_, rfl, D, rfl, ⟨_, SqL.of h1⟩, for_list (K := K) (a := D) (xs := vs) (fun i σ H5 => ∃ o2 o4 o5 o6 o7 o8, σ = [some (.ref a), some (.ref p), o2, some (.ref D), o4, o5, o6, o7, o8, none, none] ∧ Same H4 H5)
      ⟨_, _, _, _, _, _, rfl, Same.refl _⟩ (fun i σ H5 _ ⟨_, _, _, _, _, _, _, h⟩ => SqL.of (h _ _ h1)) ?_ ?_⟩
    · rintro i y σ H5 hy ⟨o2, o4, o5, o6, o7, o8, rfl, s5⟩
      obtain ⟨m1, ⟨t1, a1, d1, p1, rfl, st1, ⟨dx1, fa1⟩, dp1, dd1⟩, k1⟩ := ev y (List.mem_of_getElem? hy)
      refine ⟨t1, _, rfl, seqT_up s5 st1, rfl, _, _, rfl, _, _, rfl, rfl, ?_⟩
      refine ⟨_, rfl, D, rfl, ⟨_, SqL.of (s5 _ _ h1)⟩, for_list (K := K) (a := D) (xs := vs) (fun i σ H6 => ∃ o6 o7 o8, σ = [some (.ref a), some (.ref p), o2, some (.ref D), some (.ref a1), some (.ref d1), o6, o7, o8, none, none] ∧ Same H4 H6)
        ⟨_, _, _, rfl, s5⟩ (fun i σ H6 _ ⟨_, _, _, _, h⟩ => SqL.of (h _ _ h1)) ?_ ?_⟩
      · rintro j y σ H6 hy2 ⟨o6, o7, o8, rfl, s6⟩
        obtain ⟨m2, ⟨t2, a2, d2, p2, rfl, st2, ⟨dx2, fa2⟩, dp2, dd2⟩, k2⟩ := ev y (List.mem_of_getElem? hy2)
        refine ⟨t2, _, rfl, seqT_up s6 st2, rfl, _, _, rfl, _, _, rfl, rfl, ?_⟩
        obtain ⟨w1, sq1⟩ := due_sq dd1
        obtain ⟨w2, sq2⟩ := due_sq dd2
        have ga1 := s6 _ _ fa1
        have ga2 := s6 _ _ fa2
        refine ⟨_, rfl, d1, _, 0, _, rfl, rfl, seqT_up s6 sq1, rfl, _, rfl, d2, _, 0, _, rfl, rfl, seqT_up s6 sq2, rfl, rfl, ?_⟩
        rw [str_dec]
        refine ⟨_, rfl, _, rfl, a1, dx1, _, rfl, ga1, .inr ⟨a2, dx2, _, rfl, ga2⟩, ⟨a1, m1.wd, _, _, _, rfl, ⟨dx1, ga1⟩, .inr ⟨a2, m2.wd, _, _, rfl, ⟨dx2, ga2⟩, _, rfl, ?_⟩⟩⟩
        refine ⟨_, rfl, _, rfl, a1, dx1, _, rfl, ga1, .inr ⟨a2, dx2, _, rfl, ga2⟩, ⟨a1, m1.wd, _, _, _, rfl, ⟨dx1, ga1⟩, .inr ⟨a2, m2.wd, _, _, rfl, ⟨dx2, ga2⟩, _, rfl, ?_⟩⟩⟩
        refine ⟨few (by simp), fun L1 hL1 => ⟨_, .list [.bool (decide (m1.wd = m2.wd)), .bool (!decide (m1.wd = m2.wd))], rfl, .lst (SqL.of upd_same) (.cons (.bl _) (.cons (.bl _) .nil)), two_prn _ _, ?_⟩⟩
        refine ⟨_, rfl, _, rfl, ?_⟩
        have s7 := s6.trans (same_new (o := .lst [V.bl (decide (m1.wd = m2.wd)), V.bl (!decide (m1.wd = m2.wd))]) hL1)
        refine ⟨_, rfl, few (by simp), fun L2 hL2 => ⟨_, .list [.bool (decide (m1.wd = m2.wd)), .bool (!decide (m1.wd = m2.wd))], rfl, .lst (SqL.of upd_same) (.cons (.bl _) (.cons (.bl _) .nil)), two_prn _ _, rfl, _, rfl, ?_⟩⟩
        rw [decide_eq_true rfl]
        exact iteF ⟨_, _, _, rfl, s7.trans (same_new hL2 _)⟩
      · rintro σ H6 ⟨o6, o7, o8, rfl, s6⟩
        exact ⟨_, _, _, _, _, _, rfl, s6⟩
    · rintro σ H5 ⟨o2, o4, o5, o6, o7, o8, rfl, s5⟩
      refine ⟨_, rfl, _, rfl, 1, rfl, D, vs, rfl, SqL.of (s5 _ _ h1), fun L3 hL3 => ?_⟩
      have lc := cutV_length vs none (some 1)
      have g3 := s5.trans (same_new (o := .lst (cutV vs none (some 1))) hL3)
      refine ⟨D, L3, _, _, rfl, rfl, g3 _ _ h1, upd_same, few2 (by omega), fun L4 hL4 => ?_⟩
      have g4 := g3.trans (same_new (o := .lst (vs ++ cutV vs none (some 1))) hL4)
      have ev4 : Ents K C H4 (vs ++ cutV vs none (some 1)) := fun v hv => by
        rcases List.mem_append.mp hv with h | h
        · exact ev v h
        · unfold cutV at h
          exact ev v (List.mem_of_mem_drop (List.mem_of_mem_take h))
      generalize hHL : upd (upd H5 L3 (.lst (cutV vs none (some 1)))) L4 (.lst (vs ++ cutV vs none (some 1))) = HL at g4
      have hL : HL L4 = some (.lst (vs ++ cutV vs none (some 1))) := by rw [← hHL]; exact upd_same
      refine ⟨L4, rfl, ⟨_, SqL.of hL⟩, fun D2 hD2 => along (walk_list (K := K) (a := L4) (xs := vs ++ cutV vs none (some 1))) (fun j H8 => H8 D2 = some (.lst ((List.replicate j true).map V.bl)) ∧ Same HL H8) ⟨upd_same, same_new hD2 _⟩ (fun j H8 _ ⟨_, h⟩ => SqL.of (h _ _ hL)) ?_ ?_⟩
      · rintro j u H8 H8' hj ⟨h1, h2⟩ ⟨rfl, hu⟩
        obtain ⟨m1, ⟨t1, a1, d1, p1, rfl, st1, ⟨dx1, fa1⟩, dp1, dd1⟩, k1⟩ := ev4 u (List.mem_of_getElem? hu)
        have s8 := g4.trans h2
        refine ⟨t1, _, rfl, seqT_up s8 st1, rfl, _, _, rfl, _, _, rfl, rfl, rfl, ?_⟩
        refine ⟨_, rfl, _, rfl, a1, d1, p1, m1, rfl, ⟨dx1, s8 _ _ fa1⟩, Dp.up s8 _ _ dp1, Dp.up s8 _ _ dd1, k1, fun H9 s9 => ⟨_, s9 _ _ h1, ?_, ?_, ?_⟩⟩
        · rw [List.length_map, List.length_replicate]
          have hj := hj
          rw [List.length_append] at hj
          exact few2 (by omega)
        · rw [upd_same, List.replicate_succ', List.map_append]
          rfl
        · intro b2 o z
          rw [upd_ne (ne_of_none z hD2)]
          exact s9 b2 o (h2 b2 o z)
      · rintro H8 ⟨h1, h2⟩
        refine ⟨D2, _, rfl, SqL.of h1, _, rfl, ?_⟩
        have all1 : ∀ n : Nat, (List.replicate n true).all id = true := fun n => by
          induction n with
          | zero => rfl
          | succ n ih => simp [List.replicate_succ, ih]
        rw [all1]
        exact iteF ⟨_, _, _, _, _, _, _, rfl, b4.same (g4.trans h2)⟩
  · rintro σ H2 ⟨o2, o3, o4, o5, o6, o7, o8, rfl, b2⟩
    exact q H2
end
theorem kit_me {K : PySem.W.Frag} {C : Addr} : PySem.W.kitOne K (.ref C) (.ref C) = some true := by
  unfold PySem.W.kitOne
  simp
theorem kit_own {K : PySem.W.Frag} {C : Addr} {T : String} (c : (PySem.W.clsIn K C).isSome = true) (t : PySem.W.typeIn K (.ref C) = some (.type "type")) (s : PySem.W.subIn K (.type T) (.ref C) = some false) : PySem.W.kitOne K (.type T) (.ref C) = some false := by
  unfold PySem.W.kitOne PySem.W.kitCls
  rw [if_neg (show ¬ (Value.type T == Value.ref C) = true from by intro z; cases z)]
  show (if ((PySem.W.clsIn K C).isSome && PySem.W.typeIn K (.ref C) == some (.type "type")) = true then PySem.W.subIn K (.type T) (.ref C) else none) = some false
  rw [c, t]
  simp only [beq_self_eq_true, Bool.and_self, if_true]
  exact s
theorem kit_ofC {K : PySem.W.Frag} {C : Addr} {T : String} (m : PySem.W.kitMeta T = true) (s : PySem.W.subIn K (.ref C) (.type T) = some false) : PySem.W.kitOne K (.ref C) (.type T) = some false := by
  unfold PySem.W.kitOne PySem.W.kitCls
  rw [if_neg (show ¬ (Value.ref C == Value.type T) = true from by intro z; cases z)]
  show (if PySem.W.kitMeta T = true then _ else _) = _
  rw [if_pos m]
  exact s
theorem kmt1 : PySem.W.kitMeta "NoneType" = true := by decide +kernel
theorem kmt2 : PySem.W.kitMeta "bool" = true := by decide +kernel
theorem kmt3 : PySem.W.kitMeta "int" = true := by decide +kernel
theorem kmt4 : PySem.W.kitMeta "str" = true := by decide +kernel
theorem kmt5 : PySem.W.kitMeta "list" = true := by decide +kernel
theorem kmt6 : PySem.W.kitMeta "tuple" = true := by decide +kernel
theorem all_mk {l : PySem.W.OpenLaw} {w : World} {K : PySem.W.Frag} {h : Heap} {mg : Str → Option Value} {fa f1 f2 f3 f4 f5 f6 : Addr} (X : K.In h) (G : h.Ns mainGlobals mg) (hfa : mg "law" = some (.ref fa))
    {C g1 g2 g3 g4 T t0 : Addr} {oT ou1 ou2 ou3 ou4 : Value} {oTd o0d od1' od2' od3' od4' an1' an2' an3' an4' : Option Addr} {sT s0 sl1' sl2' sl3' sl4' : Array (Option Value)} {nT n0 : Nat} {tk : Tok} {cdC : ClassData}
    {kV1' dc1' pm1' cd1' ct1' kV2' dc2' pm2' cd2' ct2' kV3' dc3' pm3' cd3' ct3' kV4' dc4' pm4' cd4' ct4' : Value}
    {od1 an1 od2 an2 od3 an3 od4 an4 od5 an5 od6 an6 : Option Addr} {sl1 sl2 sl3 sl4 sl5 sl6 : Array (Option Value)} {oc1 kV1 dc1 pm1 cd1 ct1 oc2 kV2 dc2 pm2 cd2 ct2 oc3 kV3 dc3 pm3 cd3 ct3 oc4 kV4 dc4 pm4 cd4 ct4 oc5 kV5 dc5 pm5 cd5 ct5 oc6 kV6 dc6 pm6 cd6 ct6 : Value}
    (aC : PySem.W.nsIn K mainGlobals "Fault" = some (some (.ref C)))
    (am1 : PySem.W.findIn K (.ref C) "__init__" = some (some (.ref g1)))
    (im1 : PySem.W.isFn K (.ref g1) = true)
    (lm1 : K.lookup g1 = some ⟨ou1, od1', .func (PySem.W.fnOf "__init__" "Fault.__init__" (defArgs sInit) (defBody sInit) (defScope sInit) (.ref T) kV1' dc1' pm1' an1' cd1' ct1'), sl1'⟩)
    (cm1 : PySem.W.codeIn K cd1' "Fault.__init__" = true)
    (km1 : PySem.W.keepIn K (.ref g1) = true)
    (lT : K.lookup T = some ⟨oT, oTd, .seq #[.str "" tk, .ref t0] nT, sT⟩)
    (l0 : K.lookup t0 = some ⟨.type "tuple", o0d, .seq #[] n0, s0⟩)
    (am2 : PySem.W.findIn K (.ref C) "__eq__" = some (some (.ref g2)))
    (im2 : PySem.W.isFn K (.ref g2) = true)
    (lm2 : K.lookup g2 = some ⟨ou2, od2', .func (PySem.W.fnOf "__eq__" "Fault.__eq__" (defArgs sEq) (defBody sEq) (defScope sEq) .none kV2' dc2' pm2' an2' cd2' ct2'), sl2'⟩)
    (cm2 : PySem.W.codeIn K cd2' "Fault.__eq__" = true)
    (km2 : PySem.W.keepIn K (.ref g2) = true)
    (am3 : PySem.W.findIn K (.ref C) "__str__" = some (some (.ref g3)))
    (im3 : PySem.W.isFn K (.ref g3) = true)
    (lm3 : K.lookup g3 = some ⟨ou3, od3', .func (PySem.W.fnOf "__str__" "Fault.__str__" (defArgs sStr) (defBody sStr) (defScope sStr) .none kV3' dc3' pm3' an3' cd3' ct3'), sl3'⟩)
    (cm3 : PySem.W.codeIn K cd3' "Fault.__str__" = true)
    (km3 : PySem.W.keepIn K (.ref g3) = true)
    (am4 : PySem.W.findIn K (.ref C) "__repr__" = some (some (.ref g4)))
    (im4 : PySem.W.isFn K (.ref g4) = true)
    (lm4 : K.lookup g4 = some ⟨ou4, od4', .func (PySem.W.fnOf "__repr__" "Fault.__repr__" (defArgs sRep) (defBody sRep) (defScope sRep) .none kV4' dc4' pm4' an4' cd4' ct4'), sl4'⟩)
    (cm4 : PySem.W.codeIn K cd4' "Fault.__repr__" = true)
    (km4 : PySem.W.keepIn K (.ref g4) = true)
    (pg : PySem.W.plainGet K C Str.empty = true)
    (hd : PySem.W.hasDictIn K C = true)
    (po : PySem.W.plainOver K C = true)
    (sa : PySem.W.findIn K (.ref C) "__setattr__" = some (some (.builtin "object.__setattr__")))
    (mk : PySem.W.makesIn K C = true)
    (kc : PySem.W.keepIn K (.ref C) = true)
    (nw : PySem.W.findIn K (.ref C) "word" = some none)
    (nr : PySem.W.findIn K (.ref C) "rule" = some none)
    (np : PySem.W.findIn K (.ref C) "path" = some none)
    (ha : PySem.W.findIn K (.ref C) "__class__" = some (some (.builtin "object.__class__")))
    (hn : PySem.W.specialIn K (.builtin "object.__class__") "__get__" = some (some (.builtin "getset_descriptor.__get__")))
    (htk : PySem.W.takesIn K (.builtin "object.__class__") = some true)
    (hm : PySem.W.mroIn K C (.type "object") = some true)
    (tC : PySem.W.typeIn K (.ref C) = some (.type "type"))
    (cC : PySem.W.clsIn K C = some cdC)
    (ne : PySem.W.findIn K (.ref C) "__ne__" = some (some (.builtin "object.__ne__")))
    (ka1 : PySem.W.subIn K (.type "NoneType") (.ref C) = some false)
    (ja1 : PySem.W.subIn K (.ref C) (.type "NoneType") = some false)
    (ka2 : PySem.W.subIn K (.type "bool") (.ref C) = some false)
    (ja2 : PySem.W.subIn K (.ref C) (.type "bool") = some false)
    (ka3 : PySem.W.subIn K (.type "int") (.ref C) = some false)
    (ja3 : PySem.W.subIn K (.ref C) (.type "int") = some false)
    (ka4 : PySem.W.subIn K (.type "str") (.ref C) = some false)
    (ja4 : PySem.W.subIn K (.ref C) (.type "str") = some false)
    (ka5 : PySem.W.subIn K (.type "list") (.ref C) = some false)
    (ja5 : PySem.W.subIn K (.ref C) (.type "list") = some false)
    (ka6 : PySem.W.subIn K (.type "tuple") (.ref C) = some false)
    (ja6 : PySem.W.subIn K (.ref C) (.type "tuple") = some false)
    (a1 : PySem.W.nsIn K mainGlobals "_law_box" = some (some (.ref f1)))
    (l1 : K.lookup f1 = some ⟨oc1, od1, .func (PySem.W.fnOf "_law_box" "_law_box" (defArgs sBox) (defBody sBox) (defScope sBox) .none kV1 dc1 pm1 an1 cd1 ct1), sl1⟩)
    (c1 : PySem.W.codeIn K cd1 "_law_box" = true) (k1 : PySem.W.keepIn K (.ref f1) = true)
    (a2 : PySem.W.nsIn K mainGlobals "_law_take" = some (some (.ref f2)))
    (l2 : K.lookup f2 = some ⟨oc2, od2, .func (PySem.W.fnOf "_law_take" "_law_take" (defArgs sTake) (defBody sTake) (defScope sTake) .none kV2 dc2 pm2 an2 cd2 ct2), sl2⟩)
    (c2 : PySem.W.codeIn K cd2 "_law_take" = true) (k2 : PySem.W.keepIn K (.ref f2) = true)
    (a3 : PySem.W.nsIn K mainGlobals "_law_pick" = some (some (.ref f3)))
    (l3 : K.lookup f3 = some ⟨oc3, od3, .func (PySem.W.fnOf "_law_pick" "_law_pick" (defArgs sPick) (defBody sPick) (defScope sPick) .none kV3 dc3 pm3 an3 cd3 ct3), sl3⟩)
    (c3 : PySem.W.codeIn K cd3 "_law_pick" = true) (k3 : PySem.W.keepIn K (.ref f3) = true)
    (a4 : PySem.W.nsIn K mainGlobals "_law_fault" = some (some (.ref f4)))
    (l4 : K.lookup f4 = some ⟨oc4, od4, .func (PySem.W.fnOf "_law_fault" "_law_fault" (defArgs sFault) (defBody sFault) (defScope sFault) .none kV4 dc4 pm4 an4 cd4 ct4), sl4⟩)
    (c4 : PySem.W.codeIn K cd4 "_law_fault" = true) (k4 : PySem.W.keepIn K (.ref f4) = true)
    (a5 : PySem.W.nsIn K mainGlobals "_law_right" = some (some (.ref f5)))
    (l5 : K.lookup f5 = some ⟨oc5, od5, .func (PySem.W.fnOf "_law_right" "_law_right" (defArgs sRight) (defBody sRight) (defScope sRight) .none kV5 dc5 pm5 an5 cd5 ct5), sl5⟩)
    (c5 : PySem.W.codeIn K cd5 "_law_right" = true) (k5 : PySem.W.keepIn K (.ref f5) = true)
    (a6 : PySem.W.nsIn K mainGlobals "law" = some (some (.ref f6)))
    (l6 : K.lookup f6 = some ⟨oc6, od6, .func (PySem.W.fnOf "law" "law" (defArgs sLaw) (defBody sLaw) (defScope sLaw) .none kV6 dc6 pm6 an6 cd6 ct6), sl6⟩)
    (c6 : PySem.W.codeIn K cd6 "law" = true) (k6 : PySem.W.keepIn K (.ref f6) = true)
    (z1 : PySem.W.nsIn K mainGlobals "isinstance" = some none)
    (z2 : PySem.W.nsIn K mainGlobals "len" = some none)
    (z3 : PySem.W.nsIn K mainGlobals "all" = some none)
    (z4 : PySem.W.nsIn K mainGlobals "str" = some none)
    (z5 : PySem.W.nsIn K mainGlobals "tuple" = some none)
    (z6 : PySem.W.nsIn K mainGlobals "int" = some none)
    (z7 : PySem.W.nsIn K mainGlobals "bool" = some none)
    (z8 : PySem.W.nsIn K mainGlobals "range" = some none)
    (z9 : PySem.W.nsIn K mainGlobals "repr" = some none)
    (z10 : PySem.W.nsIn K mainGlobals "abs" = some none)
    : ∃ fd : FuncData, (∀ (s : Shared) (v : Value), BindsTo s fd ⟨[v], []⟩ [("_law_script", v)]) ∧ ∀ base : Heap, K.In base → base.Ns mainGlobals mg → FnG l.prog w K mg base CX0 5 fa fd ["_law_script"] (spLaw K) := by
  have e := hfa.symm.trans (PySem.W.mg_of X G a6)
  cases e
  have F1 := fun_mk (st := sBox) l1 c1 k1
  have b1 := F1.binds (ps := ["_law_script", "_law_base"]) fun _ _ _ _ _ _ us hl => match us, hl with | [_, _], _ => rfl
  have m1 := PySem.W.mg_of X G a1
  have F2 := fun_mk (st := sTake) l2 c2 k2
  have b2 := F2.binds (ps := ["_law_box_here", "_law_many"]) fun _ _ _ _ _ _ us hl => match us, hl with | [_, _], _ => rfl
  have m2 := PySem.W.mg_of X G a2
  have F3 := fun_mk (st := sPick) l3 c3 k3
  have b3 := F3.binds (ps := ["_law_box_here", "_law_items"]) fun _ _ _ _ _ _ us hl => match us, hl with | [_, _], _ => rfl
  have m3 := PySem.W.mg_of X G a3
  have F4 := fun_mk (st := sFault) l4 c4 k4
  have b4 := F4.binds (ps := ["_law_box_here"]) fun _ _ _ _ _ _ us hl => match us, hl with | [_], _ => rfl
  have m4 := PySem.W.mg_of X G a4
  have F5 := fun_mk (st := sRight) l5 c5 k5
  have b5 := F5.binds (ps := ["_law_fault_here", "_law_due"]) fun _ _ _ _ _ _ us hl => match us, hl with | [_, _], _ => rfl
  have m5 := PySem.W.mg_of X G a5
  have F6 := fun_mk (st := sLaw) l6 c6 k6
  have n_isinstance := PySem.W.mg_none_of X G z1
  have n_len := PySem.W.mg_none_of X G z2
  have n_all := PySem.W.mg_none_of X G z3
  have n_str := PySem.W.mg_none_of X G z4
  have n_tuple := PySem.W.mg_none_of X G z5
  have n_int := PySem.W.mg_none_of X G z6
  have n_bool := PySem.W.mg_none_of X G z7
  have n_range := PySem.W.mg_none_of X G z8
  have n_repr := PySem.W.mg_none_of X G z9
  have n_abs := PySem.W.mg_none_of X G z10
  refine ⟨PySem.W.fnOf "law" "law" (defArgs sLaw) (defBody sLaw) (defScope sLaw) .none kV6 dc6 pm6 an6 cd6 ct6, fun s v => .of_eq rfl, fun base _ _ => ?_⟩
  have B : Bi mg := ⟨n_isinstance, n_len, n_all, n_str, n_tuple, n_int, n_bool, n_range, n_repr, n_abs⟩
  have Tt : Tk l.prog w K mg base f2 _ := ⟨ok_take (k := 0) F2 n_len, k2, b2, m2⟩
  have mC := PySem.W.mg_of X G aC
  have ko : ∀ {T : String}, PySem.W.subIn K (.type T) (.ref C) = some false → PySem.W.kitOne K (.type T) (.ref C) = some false := fun s => kit_own (by rw [cC]; rfl) tC s
  have O : OwnC K C g2 := ⟨⟨⟨pg, hd, po, sa⟩, ha, hn, htk, hm, kit_me⟩, ⟨am2, im2, km2⟩, ne, ko ka1, ko ka2, ko ka3, ko ka4, ko ka5, ko ka6, kit_ofC kmt1 ja1, kit_ofC kmt2 ja2, kit_ofC kmt3 ja3, kit_ofC kmt4 ja4, kit_ofC kmt5 ja5, kit_ofC kmt6 ja6⟩
  have FC : FaC K mg C g2 := ⟨O, nw, nr, np, mC, kc⟩
  obtain ⟨dI, FD⟩ : ∃ dI, FunD K "__init__" "Fault.__init__" (defArgs sInit) (defBody sInit) (defScope sInit) [.str "", .ref t0] [] g1 dI := ⟨_, ⟨_, _, _, _, _, _, _, _, _, _, rfl, lm1, cm1, .inr ⟨(fun z => nomatch z), T, _, [.str "" tk, .ref t0], nT, rfl, lT, rfl, .cons ⟨tk, rfl⟩ (.cons rfl .nil)⟩, .inl rfl⟩, km1⟩
  have E2 := fun_mk (st := sEq) lm2 cm2 km2
  have E3 := fun_mk (st := sStr) lm3 cm3 km3
  have E4 := fun_mk (st := sRep) lm4 cm4 km4
  have be := E2.binds (ps := ["self", "other"]) fun _ _ _ _ _ _ us hl => match us, hl with | [_, _], _ => rfl
  have bs := E3.binds (ps := ["self"]) fun _ _ _ _ _ _ us hl => match us, hl with | [_], _ => rfl
  have br := E4.binds (ps := ["self"]) fun _ _ _ _ _ _ us hl => match us, hl with | [_], _ => rfl
  have W4 : Own4 l.prog w K mg base C g2 _ g3 _ g4 _ := ⟨FC, ok_eqF (k := 0) E2 FC B, be, ⟨am3, im3, km3⟩, ok_strF (k := 0) E3 FC, bs, ⟨am4, im4, km4⟩, ok_repF (k := 0) E4 FC, br⟩
  have z0 : ∀ H : Hp, SqT K H t0 [] := fun H => .inr ⟨_, _, _, l0, rfl, rfl, by decide, .nil⟩
  have MF : MkF l.prog w K mg base C g1 dI t0 := by
    refine ⟨⟨mk, am1, im1, kc⟩, ok_initF (k := 0) FD FC, ?_, ?_, ?_, ?_, z0⟩
    · exact FD.binds1 2 0 (fun z => nomatch z) rfl fun _ _ _ _ _ _ _ us its h1 h2 => match us, its, h1, h2 with | [_, _], [_, _], _, _ => ⟨_, rfl, rfl⟩
    · exact FD.binds1 3 1 (fun z => nomatch z) rfl fun _ _ _ _ _ _ _ us its h1 h2 => match us, its, h1, h2 with | [_, _, _], [_, _], _, _ => ⟨_, rfl, rfl⟩
    · exact FD.binds1 4 2 (fun z => nomatch z) rfl fun _ _ _ _ _ _ _ us its h1 h2 => match us, its, h1, h2 with | [_, _, _, _], [_, _], _, _ => ⟨_, rfl, rfl⟩
    · exact FD.kbindsD 1 ["path", "word"] (fun us its ws => us ++ (ws.drop 1 ++ (its.take 1 ++ ws.take 1))) (fun z => nomatch z) (fun r1 r2 r3 => r1.append ((r3.drop 1).append ((r2.take 1).append (r3.take 1))))
        fun _ _ _ _ _ _ _ us its ws h1 h2 h3 => match us, its, ws, h1, h2, h3 with | [_], [_, _], [_, _], _, _, _ => ⟨_, rfl, rfl⟩
  have GP := ok_pick (P := l.prog) (w := w) (base := base) (k := 0) F3 B Tt
  have GF := ok_fault (k := 0) F4 B Tt ⟨GP, k3, b3, m3⟩ MF mC
  have GR := ok_right (P := l.prog) (w := w) (base := base) (k := 0) F5 B W4
  exact ok_law F6 B ⟨ok_box (k := 0) F1 n_abs, k1, b1, m1⟩ Tt ⟨GF, k4, b4, m4⟩ W4 GR k5 b5 m5
end Rl
open PySem PySem.W PyProof.Rows in
set_option maxRecDepth 100000 in
set_option maxHeartbeats 0 in
theorem PySem.Challenge.cw_runlore_k04_faults_holds : PySem.Challenge.rw_runlore_k04_faults.Holds := by
  w_on; o_law; k_head; (case hw => w_witness2)
  k_fill
  refine Rl.walkG (l := PySem.Challenge.rw_runlore_k04_faults) (n := 63) (k := 5) (x := "_law_script") (sp := Rl.spLaw) rfl (by decide) rfl ⟨rfl, by decide, by decide⟩ (fun w h Y => PySem.W.kIn_of Y) ?F (fun K H a ns hl _ hS => ⟨a, ns, rfl, hS, hl, fun _ => rfl⟩)
  case F =>
    intro w mg fa h KX G hmg
    refine' Rl.all_mk KX G hmg ?aC ?am1 ?im1 ?lm1 ?cm1 ?km1 ?lT ?l0 ?am2 ?im2 ?lm2 ?cm2 ?km2 ?am3 ?im3 ?lm3 ?cm3 ?km3 ?am4 ?im4 ?lm4 ?cm4 ?km4 ?pg ?hd ?po ?sa ?mk ?kc ?nw ?nr ?np ?ha ?hn ?htk ?hm ?tC ?cC ?ne ?ka1 ?ja1 ?ka2 ?ja2 ?ka3 ?ja3 ?ka4 ?ja4 ?ka5 ?ja5 ?ka6 ?ja6 ?a1 ?l1 ?c1 ?k1 ?a2 ?l2 ?c2 ?k2 ?a3 ?l3 ?c3 ?k3 ?a4 ?l4 ?c4 ?k4 ?a5 ?l5 ?c5 ?k5 ?a6 ?l6 ?c6 ?k6 ?z1 ?z2 ?z3 ?z4 ?z5 ?z6 ?z7 ?z8 ?z9 ?z10
    (case aC => k_is)
    (case am1 => k_is)
    (case im1 => k_is)
    (case lm1 => k_is)
    (case cm1 => k_is)
    (case km1 => k_is)
    (case lT => k_is)
    (case l0 => k_is)
    (case am2 => k_is)
    (case im2 => k_is)
    (case lm2 => k_is)
    (case cm2 => k_is)
    (case km2 => k_is)
    (case am3 => k_is)
    (case im3 => k_is)
    (case lm3 => k_is)
    (case cm3 => k_is)
    (case km3 => k_is)
    (case am4 => k_is)
    (case im4 => k_is)
    (case lm4 => k_is)
    (case cm4 => k_is)
    (case km4 => k_is)
    (case pg => k_is)
    (case hd => k_is)
    (case po => k_is)
    (case sa => k_is)
    (case mk => k_is)
    (case kc => k_is)
    (case nw => k_is)
    (case nr => k_is)
    (case np => k_is)
    (case ha => k_is)
    (case hn => k_is)
    (case htk => k_is)
    (case hm => k_is)
    (case tC => k_is)
    (case cC => k_is)
    (case ne => k_is)
    (case ka1 => k_is)
    (case ja1 => k_is)
    (case ka2 => k_is)
    (case ja2 => k_is)
    (case ka3 => k_is)
    (case ja3 => k_is)
    (case ka4 => k_is)
    (case ja4 => k_is)
    (case ka5 => k_is)
    (case ja5 => k_is)
    (case ka6 => k_is)
    (case ja6 => k_is)
    (case a1 => k_is)
    (case l1 => k_is)
    (case c1 => k_is)
    (case k1 => k_is)
    (case a2 => k_is)
    (case l2 => k_is)
    (case c2 => k_is)
    (case k2 => k_is)
    (case a3 => k_is)
    (case l3 => k_is)
    (case c3 => k_is)
    (case k3 => k_is)
    (case a4 => k_is)
    (case l4 => k_is)
    (case c4 => k_is)
    (case k4 => k_is)
    (case a5 => k_is)
    (case l5 => k_is)
    (case c5 => k_is)
    (case k5 => k_is)
    (case a6 => k_is)
    (case l6 => k_is)
    (case c6 => k_is)
    (case k6 => k_is)
    (case z1 => k_is)
    (case z2 => k_is)
    (case z3 => k_is)
    (case z4 => k_is)
    (case z5 => k_is)
    (case z6 => k_is)
    (case z7 => k_is)
    (case z8 => k_is)
    (case z9 => k_is)
    (case z10 => k_is)

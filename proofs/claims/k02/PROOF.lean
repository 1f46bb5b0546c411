import PyProof.Rows.All
import Wide.All
import OpenK.AllK
import Wide.FinOn
import PyProof.ReprRoads
import PyProof.StrLawsRepr
import PyProof.ReprLen
import PyProof.Rows.RegStrFacts
import PyProof.Rows.StrCase
import PyProof.Rows.ReprOcc
import HandS.ForMost
import HandS.IsInst
import HandS.Wide
import HandS.Style
import HandS.Flow
import HandS.Conv
import HandS.Walk
import HandS.Codes
import HandS.TupAny
import PySem.Challenge.RW_runlore_k02_values_told
set_option Elab.async false
set_option linter.all false
set_option maxRecDepth 100000
set_option exponentiation.threshold 2000
namespace Rl
open PySem PySem.Spec PyProof.Rows L2
/-- what can be printed: data of bounded depth whose text is short enough -/
structure Prn (d : PyData) : Prop where
  sh : d.showable = true
  nd : d.hasDict = false
  dp : d.depth ≤ 60
  sz : d.shown.length ≤ sizeLine
def rRep (K : PySem.W.Frag) : List V → Hp → VK → Prop := fun xs H Q =>
  ∃ v d, xs = [v] ∧ Dp K H v d ∧ Prn d ∧ Q (.str d.shown) H
theorem meets_extT (l b : Addr) (items items2 : Array Value) (n : Nat) (hlong : (!items.isEmpty && Builtin.List.listTooLong (items.size + items2.size)) = false) (h1 : items.size ≤ sizeLine) (h2 : items.size + items2.size ≤ sizeLine + 1) :
    Meets (Builtin.«list.extend» ⟨[.ref l, .ref b], []⟩) (fun _ R s => s.heap.get? l = some { cls := .type "list", data := .seq items n } ∧ IsTup s.heap b items2 ∧
      R (.ok (.ret .none)) { s with heap := s.heap.update l (Obj.mapSeq fun x => x ++ items2) }) := by
  intro prog w A R s ⟨hl, ⟨o, ho, hc, n2, hd⟩, hR⟩
  show wpAny _ A.in1 (Builtin.List.listExtendWith (.ref l) (.ref b) .none) _ _ s
  unfold Builtin.List.listExtendWith
  refine wpAny_bind (wpAny_typeOf ⟨o, ho, hc⟩ ?_)
  have e1 : (Builtin.List.listSameRef (.ref l) (.ref b) || Value.type "tuple" == Value.type "list" || Value.type "tuple" == Value.type "tuple") = true := by simp
  simp only [e1, if_true]
  refine wpAny_bind ?_
  unfold Builtin.List.listItems
  refine wpAny_bind (wpAny_seqItems ho hd (wpAny_pure ?_))
  refine wpAny_bind ?_
  refine wpAny_bind (wpAny_seqItems hl rfl (wpAny_pure ?_))
  rw [hlong]
  show wpAny _ A.in1 (updateSeq l (· ++ items2) >>= fun _ => ret .none) _ _ s
  have h3 : (items ++ items2).size ≤ sizeLine + 1 := by rw [Array.size_append]; exact h2
  refine wpAny_bind (wpAny_updateSeq hl rfl ?_ h1 h3)
  exact wpAny_pure hR
section
variable {X : Cx}
theorem call_rep (hg : X.A.guards = some []) (hu : X.A.units + 64 < cLine) : CallR X (.builtin "repr") (rRep X.K) := by
  intro pins s σ H xs us Q I r h
  obtain ⟨v, d, rfl, hd, ⟨hs, hnd, hdep, hsz⟩, q⟩ := h
  obtain ⟨u, rfl, ru⟩ := vals1 r
  obtain ⟨as, rd⟩ := Dp.reads I d v u hd ru
  cases hd with
  | non =>
    cases ru
    exact PySem.P.repr_of_none ⟨.str _, H, I.tok _, ⟨_, rfl⟩, q⟩
  | bl b =>
    cases ru
    refine PySem.P.repr_of_bool ⟨.str (if b then "True" else "False"), H, I.tok _, ⟨_, rfl⟩, ?_⟩
    cases b <;> exact q
  | int i =>
    obtain ⟨t, rfl⟩ := ru
    exact PySem.P.repr_of_int (of_decide_eq_true (by simpa only [PyData.showable] using hs)) ⟨.str _, H, I.tok _, ⟨_, rfl⟩, q⟩
  | str x =>
    obtain ⟨t, rfl⟩ := ru
    exact PySem.P.repr_of_str ⟨.str _, H, I.tok _, ⟨_, rfl⟩, q⟩ hsz
  | lst h1 h2 =>
    cases ru
    exact repr_of_reads' rd hs (PyData.noDict_hsm hnd) hg (by omega) (fun _ _ e => e) (fun h' u tk hk => ⟨.str _, H, I.kept hk, ⟨_, rfl⟩, q⟩) hsz
  | tup h1 h2 =>
    cases ru
    exact repr_of_reads' rd hs (PyData.noDict_hsm hnd) hg (by omega) (fun _ _ e => e) (fun h' u tk hk => ⟨.str _, H, I.kept hk, ⟨_, rfl⟩, q⟩) hsz
/-- xs.extend(t), t a tuple -/
def rExtT (K : PySem.W.Frag) : V → List V → Hp → VK → Prop := fun x vs H Q =>
  ∃ l b xs zs, x = .ref l ∧ vs = [.ref b] ∧ H l = some (.lst xs) ∧ SqT K H b zs ∧ xs.length + zs.length ≤ sizeLine ∧ Q .non (upd H l (.lst (xs ++ zs)))
theorem mt_extT : MtM X "list.extend" (rExtT X.K) := by
  intro pins s σ H x vs v us Q I rx rv h
  obtain ⟨l, b, xs, zs, rfl, rfl, hH, hB, hz, q⟩ := h
  cases rx
  obtain ⟨u, rfl, ru⟩ := rv.one
  cases ru
  obtain ⟨z, its, n, r, hl, e⟩ := I.lstM hH
  obtain ⟨its2, r2, tp, hl2⟩ := I.tuple hB
  have hl3 := r2.length
  have hl4 := r.length
  have hsz : its.toArray.size + its2.toArray.size ≤ sizeLine := by rw [List.size_toArray, List.size_toArray]; omega
  have hlong : (!its.toArray.isEmpty && Builtin.List.listTooLong (its.toArray.size + its2.toArray.size)) = false := by
    rw [notLongL hsz, Bool.and_false]
  refine call_meets F.slot_list_extend ⟨_, e, rfl⟩ F.entry_list_extend (F.args_list_extend_2 _ _)
    (meets_extT l b its.toArray its2.toArray n hlong (by omega) (by omega)) ⟨e, tp, ?_⟩
  refine ⟨.non, _, I.lset (its' := its ++ its2) hH e (by simp) (r.append r2) ?_, rfl, q⟩
  rw [List.length_append]
  omega
end
/-! a def that may print (repr): called where nothing is being printed -/
section
variable {P : Program} {w : World} {K : PySem.W.Frag} {mg : Str → Option Value} {base : Heap} {CX : CXT}
structure FnG (P : Program) (w : World) (K : PySem.W.Frag) (mg : Str → Option Value) (base : Heap)
    (CX : CXT) (k : Nat) (f : Addr) (fd : FuncData) (ps : List Str) (sp : Sp) : Prop where
  len : ∀ ws H Q E, sp ws H Q E → ws.length = ps.length
  go : ∀ (B : Around) (out : List Env) (t : Shared) (H : Hp) (as : Args) (us : List Value) (ws : List V) (Q : VK) (E : XK), B.guards = some [] → Room k B →
    Env0 P w K mg base B out t H → BindsTo t fd as (ps.zip us) → Vals ws us → sp ws H Q E →
    codeAny (model P w) B (.call (.ref f) as) (CR CX out P w H t Q E) t
theorem FnOk.toG {k : Nat} {f : Addr} {fd : FuncData} {ps : List Str} {sp : Sp} (F : FnOk P w K mg base CX k f fd ps sp) : FnG P w K mg base CX k f fd ps sp :=
  ⟨F.len, fun B out t H as us ws Q E _ => F.run B out t H as us ws Q E⟩
theorem FnG.mono {j k : Nat} {f : Addr} {fd : FuncData} {ps : List Str} {sp : Sp} (F : FnG P w K mg base CX j f fd ps sp) (h : j ≤ k) : FnG P w K mg base CX k f fd ps sp :=
  ⟨F.len, fun B out t H as us ws Q E g r => F.go B out t H as us ws Q E g (r.mono h)⟩
theorem fnG_of {k : Nat} {f : Addr} {name qual : Str} {params : Arguments} {body : List Stmt} {scope : Scope} {dV kV doc pm cdv ct oc : Value} {an od : Option Addr} {osl : Array (Option Value)} {N ps : List Str} {sp : Sp}
    (lk : K.lookup f = some ⟨oc, od, .func (PySem.W.fnOf name qual params body scope dV kV doc pm an cdv ct), osl⟩) (hcd : PySem.W.codeIn K cdv qual = true) (S : FnScope N ps scope)
    (len : ∀ ws H Q E, sp ws H Q E → ws.length = ps.length)
    (hb : ∀ (B : Around) (out : List Env) (t : Shared) (H : Hp) (ws : List V) (Q : VK) (E : XK), B.guards = some [] → Room k (B.deeper (envOfC qual scope t.heap.objs.size f cdv)) → sp ws H Q E →
      ∃ r, PSs (cxOf CX P w K mg base N qual scope f cdv B out t H E) body r ∧ r { nx := fun _ H' => Q .non H', rt := Q } (start N ws) H) :
    FnG P w K mg base CX (k + 1) f (PySem.W.fnOf name qual params body scope dV kV doc pm an cdv ct) ps sp := by
  refine ⟨len, ?_⟩
  intro B out t H as us ws Q E hg hr ee bb rr hsp
  have hl := len _ _ _ _ hsp
  have kx : K.In t.heap := ee.mod.kin.keeps fun b o z => (ee.bs b o z).1
  have lm : t.heap.NoLimit := ee.mod.nolimit.keeps fun b o z => (ee.bs b o z).1
  have kinds : ∀ y ∈ ps.zip us, scope.names.lookup y.1 = some .local ∨ (scope.names.lookup y.1 = some .cell ∧
      ((cellsFrom (t.heap.objs.size + 1) scope.names []).lookup y.1).isSome = true) := by
    rintro ⟨n, v⟩ hy
    rcases S.par n (List.of_mem_zip hy).1 with q | q
    · exact Or.inl q
    · exact Or.inr ⟨q, PySem.W.cellsFrom_some _ _ _ (Or.inl q)⟩
  refine codeAny_call_function hr.depth (kx _ _ lk) rfl S.co S.gen rfl (PySem.W.codeRec_of kx hcd) (bb _ _ _ _ ?_)
  refine wpAny_newFunctionEnv_cells S.kind kinds fun env he t1 x => ?_
  subst he
  refine ⟨lm.keeps x.toInCall.keep, codeAny_func ?_⟩
  obtain ⟨r, ht, hq⟩ := hb B out t H ws Q E hg (hr.deeper _) hsp
  have J := inv_start (CX := CX) (E := E) S hr.hd ee hl rr x
  refine wpAny_mono (ht.run [] t1 (start N ws) H _ J hq) (fun fl t' hs => ?_) (fun _ _ hs => hs)
  cases fl with
  | brk => exact hs.elim fun _ z => z.elim fun _ z => z.2.elim
  | cont => exact hs.elim fun _ z => z.elim fun _ z => z.2.elim
  | ret u =>
    obtain ⟨v, _, H', J', rv, q⟩ := hs
    exact ⟨v, H', J'.os, J'.bare, J'.base, J'.hok, rv, q⟩
  | next =>
    obtain ⟨_, H', J', q⟩ := hs
    exact ⟨.non, H', J'.os, J'.bare, J'.base, J'.hok, rfl, q⟩
end
section
variable {X : Cx} {CX : CXT} {k : Nat} {f : Addr} {fd : FuncData} {ps : List Str} {sp : Sp} {ds : List Value} {dvs : List V} {E : XK} {x : Str} {p pos : Pos} {e : Expr} {es : List Expr} {t : TA}
theorem pe_callG (F : FnG X.prog X.w X.K X.mg X.base CX k f fd ps sp) (gd : X.A.guards = some []) (hr : Room k X.A) (hg : Gl X x) (hm : X.mg x = some (.ref f)) (hk : PySem.W.keepIn X.K (.ref f) = true)
    (hb : Binds X.K fd ps ds) (hd : Vals dvs ds) (hx : Passes CX X E) (ha : PA X (e :: es) t) (hdb : (x == ("__debug__" : Str)) = false := by decide)
    (he : starEach (e :: es) X.env = (false, eval e X.env) :: starEach es X.env := by rfl) (hpl : (backTo pos (starEach es X.env)).any (·.1) = false := by rfl) :
    PE X (.Call (.Name x p) (e :: es) [] pos) (tCall sp dvs E t) := by
  refine ⟨fun pins s σ H Q I h => wpAny_Call_Name_kw (ld_glob I hg hm ?_ hdb)⟩
  refine PySem.W.callWith_K (h₀ := X.base) I.ok.mod.kin hk ?_ he hpl
  refine thn (ha.run pos pins s σ H _ I h) fun us t1 ⟨ws, H1, J, r, q⟩ => ⟨J.kIn, ?_⟩
  have r2 : Vals (ws ++ dvs) (us ++ ds) := r.append hd
  have hl : (us ++ ds).length = ps.length := r2.length.symm.trans (F.len _ _ _ _ q)
  refine wpAny_call (codeAny_mono (F.go X.A X.stack t1 H1 ⟨us, []⟩ (us ++ ds) (ws ++ dvs) Q E gd hr J.env0 (hb t1 us J.kIn hl) r2 q) ?_)
  intro r t' hq
  cases r with
  | error z => exact hx pins σ H1 t1 z t' J hq
  | ok fl =>
    cases fl with
    | ret u => exact J.after hq
    | next => exact False.elim hq
    | brk => exact False.elim hq
    | cont => exact False.elim hq
end
/-! the law's own call, where its def may print -/
abbrev Tru (s₁ : Shared) (r : Result) (t : Shared) : Prop := r = .ok (.ret (.bool true)) ∧ OldK s₁.heap t.heap ∧ t.os = s₁.os ∧ AllBare t.gens
theorem law_core {P : Program} {w : World} {K : PySem.W.Frag} {mg mb : Str → Option Value} {k : Nat} {fa a : Addr} {fd : FuncData} {x : Str} {sp : Sp} {s₁ : Shared} {vs : List Value} {ns : List Int}
    (kx : K.In s₁.heap) (n1 : s₁.heap.Ns mainGlobals mg) (n2 : s₁.heap.Ns builtinsNs mb) (n3 : ∀ x : Str, x ≠ "__name__" → mb x = bootBuiltins x) (n4 : s₁.heap.NoLimit) (g0 : s₁.gens = #[])
    (oa : s₁.heap.get? a = some { cls := .type "list", data := .seq vs.toArray }) (hr : Room k callerA)
    (F : ∀ base : Heap, K.In base → base.Ns mainGlobals mg → FnG P w K mg base CX0 k fa fd [x] sp) (bd : ∀ (s : Shared) (u : Value), BindsTo s fd ⟨[u], []⟩ [(x, u)])
    (hsp : ∀ H : Hp, Only H → SqL K H a (ns.map V.int) → sp [.ref a] H (fun v _ => v = .bl true) fun _ _ _ => False)
    (H : Hp) (hO : Only H) (hS : SqL K H a (ns.map V.int)) (ok : HOk P w H s₁.heap) (hA : ∀ b, H b ≠ none → b = a) (hK : H a ≠ none → K.lookup a = none) :
    codeAny (model P w) callerA (.call (.ref fa) ⟨[.ref a], []⟩) (Tru s₁) s₁ := by
  have out : ∀ {b : Addr} {o : Obj} {es : Array DictEntry} {ep : Nat}, s₁.heap.get? b = some o → o.data = .dict es ep → H b = none := by
    intro b o es ep e d
    by_cases q : H b = none
    · exact q
    · have z := hA b q
      subst z
      rw [oa] at e
      cases e
      exact nomatch d
  have nsK : ∀ {b : Addr} {m : Str → Option Value}, s₁.heap.Ns b m → (hidT s₁.heap H).Ns b m := by
    rintro b m ⟨o, es, ep, e, d, r⟩
    exact ⟨o, es, ep, hidT_get e (out e d), d, r⟩
  have kb : K.In (hidT s₁.heap H) := by
    intro b o e
    refine hidT_get (kx b o e) ?_
    by_cases q : H b = none
    · exact q
    · have z := hA b q
      subst z
      have y := hK q
      rw [y] at e
      cases e
  have lim : (hidT s₁.heap H).NoLimit := by
    obtain ⟨mc, h1, h2⟩ := n4
    exact ⟨mc, nsK h1, h2⟩
  have md : Mod K mg (hidT s₁.heap H) := ⟨kb, nsK n1, ⟨mb, nsK n2, n3⟩, lim⟩
  have ee : Env0 P w K mg (hidT s₁.heap H) callerA [] s₁ H := by
    refine ⟨rfl, md, fun b o e => of_hidT e, Nat.le_of_eq (hidT_size _ _), trivial, ?_, ok, .of_eq g0⟩
    intro b hb
    exact absurd (show b ∈ ([] : List Addr) from hb) (by simp)
  have run := (F _ kb (nsK n1)).go callerA [] s₁ H ⟨[.ref a], []⟩ [.ref a] [.ref a] _ _ rfl hr ee (bd s₁ (.ref a)) (.cons rfl .nil) (hsp H hO hS)
  refine codeAny_mono run ?_
  intro r t h
  cases r with
  | error e => exact False.elim h
  | ok fl =>
    cases fl with
    | brk => exact False.elim h
    | cont => exact False.elim h
    | next => exact False.elim h
    | ret u =>
      obtain ⟨v, H', os, bare, un, ok', rv, q⟩ := h
      have q' : v = .bl true := q
      subst q'
      obtain rfl : u = Value.bool true := rv
      refine ⟨rfl, OldK.of_keep ?_, os, bare⟩
      intro b o e
      rcases hO b with z | ⟨ob, xs, z⟩
      · exact un.keep b o e z (fun y => absurd (show b ∈ ([] : List Addr) from y) (by simp)) (by simp)
      · obtain ⟨e1, _⟩ := ok b _ z
        obtain ⟨e2, _⟩ := ok' b _ (un.frzs b ob _ z)
        rw [e] at e1
        cases e1
        exact e2
theorem law_callG {P : Program} {w : World} {K : PySem.W.Frag} {mg mb : Str → Option Value} {k : Nat} {fa a : Addr} {fd : FuncData} {x : Str} {sp : Sp} {s₁ : Shared} {vs : List Value} {ns : List Int}
    (kx : K.In s₁.heap) (n1 : s₁.heap.Ns mainGlobals mg) (n2 : s₁.heap.Ns builtinsNs mb) (n3 : ∀ x : Str, x ≠ "__name__" → mb x = bootBuiltins x) (n4 : s₁.heap.NoLimit) (g0 : s₁.gens = #[])
    (oa : s₁.heap.get? a = some { cls := .type "list", data := .seq vs.toArray }) (hi : IntsAre vs ns) (hl : ns.length ≤ sizeLine) (hr : Room k callerA)
    (F : ∀ base : Heap, K.In base → base.Ns mainGlobals mg → FnG P w K mg base CX0 k fa fd [x] sp) (bd : ∀ (s : Shared) (u : Value), BindsTo s fd ⟨[u], []⟩ [(x, u)])
    (hsp : ∀ H : Hp, Only H → SqL K H a (ns.map V.int) → sp [.ref a] H (fun v _ => v = .bl true) fun _ _ _ => False) :
    codeAny (model P w) callerA (.call (.ref fa) ⟨[.ref a], []⟩) (Tru s₁) s₁ := by
  have rv := vals_ints hi
  have lv := rv.length
  rw [List.length_map] at lv
  have go := law_core (ns := ns) kx n1 n2 n3 n4 g0 oa hr F bd hsp
  by_cases hk : K.lookup a = none
  · refine go (fun b => if b = a then some (.frz { cls := .type "list", data := .seq vs.toArray } (.lst (ns.map V.int))) else none) ?_ ?_ ?_ ?_ (fun _ => hk)
    · intro b
      by_cases hb : b = a
      · exact Or.inr ⟨_, _, if_pos hb⟩
      · exact Or.inl (if_neg hb)
    · exact .inl (.inr ⟨{ cls := .type "list", data := .seq vs.toArray }, if_pos rfl⟩)
    · intro b u z
      by_cases hb : b = a
      · cases (if_pos hb).symm.trans z
        subst hb
        exact ⟨oa, by rw [List.length_map]; exact hl, vs, _, rv, oa⟩
      · cases (if_neg hb).symm.trans z
    · intro b z
      by_cases hb : b = a
      · exact hb
      · exact absurd (if_neg hb) z
  · obtain ⟨o, hk⟩ := Option.ne_none_iff_exists'.mp hk
    have e := kx a o hk
    rw [oa] at e
    cases e
    refine go (fun _ => none) (fun _ => .inl rfl) ?_ ?_ (fun b z => absurd rfl z) (fun z => absurd rfl z)
    · exact .inr ⟨_, vs.toArray, _, hk, rfl, rfl, rfl, by rw [List.size_toArray, ← lv]; exact hl, by simpa using rv⟩
    · intro b u z
      exact nomatch (show (none : Option HO) = some u from z)
theorem walkG {l : PySem.W.OpenLaw} {n k : Nat} {q : Program} {loose : List Str} {XP : (Str → Option Value) → Heap → Prop} {YP : World → Heap → Prop} {d : DefRec} {K : Params → PySem.W.Frag} {sp : PySem.W.Frag → Sp} {x : Str}
    (hn : l.most = some n) (hn2 : n ≤ sizeLine) (hdf : d.params.defaults = []) (hr : Room k callerA) (hY : ∀ (w : World) (h : Heap), YP w h → (K w.params).In h)
    (F : ∀ (w : World) (mg : Str → Option Value) (fa : Addr) (h : Heap), (K w.params).In h → h.Ns mainGlobals mg → mg d.name = some (.ref fa) →
      ∃ fd : FuncData, (∀ (s : Shared) (u : Value), BindsTo s fd ⟨[u], []⟩ [(x, u)]) ∧ ∀ base : Heap, (K w.params).In base → base.Ns mainGlobals mg → FnG l.prog w (K w.params) mg base CX0 k fa fd [x] (sp (K w.params)))
    (hsp : ∀ (K : PySem.W.Frag) (H : Hp) (a : Addr) (ns : List Int), ns.length ≤ n → Only H → SqL K H a (ns.map V.int) → sp K [.ref a] H (fun v _ => v = .bl true) fun _ _ _ => False) :
    PySem.W.WalkO q loose XP YP l.row.toRowW d [] (fun f vs => PySem.call f vs) := by
  refine Att.attach_call hn hdf ?_
  intro w s₀ s₁ mg mb fa o pm cd doc a vs ns G Y ho hd hcd hmg hobj hints hlen hg
  obtain ⟨fd, hb, hF⟩ := F w mg fa _ (hY w _ Y) G.T.g hmg
  exact law_callG (hY w _ Y) G.T.g G.T.b G.T.builtins G.T.nolimit hg hobj hints (Nat.le_trans hlen hn2) hr hF hb (fun H hO hS => hsp (K w.params) H a ns hlen hO hS)
/-! heaps: what is kept, but for some addresses -/
def cut (l : List Addr) (H : Hp) : Hp := fun b => if b ∈ l then none else H b
def Off (l : List Addr) (H H' : Hp) : Prop := Same (cut l H) (cut l H')
theorem cut_out {l : List Addr} {H : Hp} {b : Addr} (h : b ∉ l) : cut l H b = H b := if_neg h
theorem cut_in {l : List Addr} {H : Hp} {b : Addr} (h : b ∈ l) : cut l H b = none := if_pos h
theorem cut_some {l : List Addr} {H : Hp} {b : Addr} {o : HO} (h : cut l H b = some o) : b ∉ l ∧ H b = some o := by
  by_cases e : b ∈ l
  · rw [cut_in e] at h
    cases h
  · rw [cut_out e] at h
    exact ⟨e, h⟩
theorem same_new {H : Hp} {p : Addr} (h : H p = none) (o : HO) : Same H (upd H p o) := fun b u q => by
  rw [upd_ne (ne_of_none q h)]
  exact q
theorem cut_same (l : List Addr) (H : Hp) : Same (cut l H) H := fun _ _ h => (cut_some h).2
theorem Off.refl (l : List Addr) (H : Hp) : Off l H H := Same.refl _
theorem Off.trans {l : List Addr} {H H1 H2 : Hp} (a : Off l H H1) (b : Off l H1 H2) : Off l H H2 := Same.trans a b
theorem Off.of {l : List Addr} {H H' : Hp} (s : Same H H') : Off l H H' := fun b o h => by
  obtain ⟨n, e⟩ := cut_some h
  rw [cut_out n]
  exact s b o e
theorem Off.get {l : List Addr} {H H' : Hp} (s : Off l H H') {b : Addr} {o : HO} (h : H b = some o) (n : b ∉ l) : H' b = some o := by
  have q := s b o (by rw [cut_out n]; exact h)
  exact (cut_some q).2
theorem Off.mono {l m : List Addr} {H H' : Hp} (s : Off l H H') (h : ∀ b ∈ l, b ∈ m) : Off m H H' := fun b o e => by
  obtain ⟨n, e⟩ := cut_some e
  rw [cut_out n]
  exact s.get e fun z => n (h b z)
/-- a change at an address that is not counted -/
theorem Off.put {l : List Addr} {H : Hp} {p : Addr} {o : HO} (h : p ∈ l) : Off l H (upd H p o) := fun b u e => by
  obtain ⟨n, e⟩ := cut_some e
  rw [cut_out n, upd_ne (fun z => n (by rw [z]; exact h))]
  exact e
/-- an address that was free then -/
theorem Off.free {l : List Addr} {H H' : Hp} (s : Off l H H') {b : Addr} (h : H' b = none) (n : b ∉ l) : H b = none := by
  cases q : H b with
  | none => rfl
  | some o =>
    rw [s.get q n] at h
    cases h
/-! data -/
theorem seqT_up {K : PySem.W.Frag} {H H' : Hp} {a : Addr} {xs : List V} (s : Same H H') (h : SqT K H a xs) : SqT K H' a xs := by
  rcases h with (h | ⟨o, h⟩) | h
  · exact .inl (.inl (s _ _ h))
  · exact .inl (.inr ⟨o, s _ _ h⟩)
  · exact .inr h
mutual
theorem Dp.up {K : PySem.W.Frag} {H H' : Hp} (s : Same H H') : ∀ (d : PyData) (v : V), Dp K H v d → Dp K H' v d
  | .none, _, h => by cases h; exact .non
  | .bool b, _, h => by cases h; exact .bl b
  | .int i, _, h => by cases h; exact .int i
  | .str x, _, h => by cases h; exact .str x
  | .list ds, _, h => by
    cases h with
    | lst h1 h2 => exact .lst (s.seq h1) (Dp.ups s ds _ h2)
  | .tuple ds, _, h => by
    cases h with
    | tup h1 h2 => exact .tup (seqT_up s h1) (Dp.ups s ds _ h2)
  | .dict _, _, h => by cases h
theorem Dp.ups {K : PySem.W.Frag} {H H' : Hp} (s : Same H H') : ∀ (ds : List PyData) (vs : List V), DpAll K H vs ds → DpAll K H' vs ds
  | [], _, h => by cases h; exact .nil
  | d :: ds, _, h => by
    cases h with
    | cons h1 h2 => exact .cons (Dp.up s d _ h1) (Dp.ups s ds _ h2)
end
theorem DpAll.len {K : PySem.W.Frag} {H : Hp} : ∀ {vs : List V} {ds : List PyData}, DpAll K H vs ds → vs.length = ds.length
  | _, _, .nil => rfl
  | _, _, .cons _ t => congrArg (· + 1) (DpAll.len t)
theorem DpAll.get {K : PySem.W.Frag} {H : Hp} : ∀ {vs : List V} {ds : List PyData} {i : Nat} {v : V}, DpAll K H vs ds → vs[i]? = some v → ∃ d, ds[i]? = some d ∧ Dp K H v d
  | _, _, _, _, .nil, e => by simp at e
  | _, _, 0, _, .cons h _, e => by simp at e; subst e; exact ⟨_, rfl, h⟩
  | _, _, i + 1, _, .cons _ t, e => by
    obtain ⟨d, a, b⟩ := DpAll.get (i := i) t (by simpa using e)
    exact ⟨d, by simpa using a, b⟩
theorem DpAll.app {K : PySem.W.Frag} {H : Hp} : ∀ {vs ws : List V} {ds es : List PyData}, DpAll K H vs ds → DpAll K H ws es → DpAll K H (vs ++ ws) (ds ++ es)
  | _, _, _, _, .nil, s => s
  | _, _, _, _, .cons r t, s => .cons r (DpAll.app t s)
/-- the name of a thing's type -/
def tyN : PyData → String
  | .none => "NoneType"
  | .bool _ => "bool"
  | .int _ => "int"
  | .str _ => "str"
  | .list _ => "list"
  | .tuple _ => "tuple"
  | .dict _ => "dict"
theorem tyD {K : PySem.W.Frag} {H : Hp} {v : V} {d : PyData} (h : Dp K H v d) : TyX K H v (.type (tyN d)) := by
  cases h with
  | non => exact .base .non
  | bl b => exact .base (.bl b)
  | int i => exact .base (.int i)
  | str x => exact .base (.str x)
  | lst h _ =>
    rcases h with (h | ⟨o, h⟩) | ⟨o, its, n, h, c, _⟩
    · exact .base (.lst h)
    · exact .base (.frz h)
    · exact .kList h c
  | tup h _ =>
    rcases h with (h | ⟨o, h⟩) | ⟨o, its, n, h, c, _⟩
    · exact .base (.tup h)
    · exact .fTuple h
    · exact .kTuple h c
/-- isinstance(x, T) of data -/
def rIsD (K : PySem.W.Frag) : List V → Hp → VK → Prop := fun xs H Q =>
  ∃ v d T b, xs = [v, .ty T] ∧ Dp K H v d ∧ kitB (tyN d) T = some b ∧ Q (.bl b) H
theorem call_isD {X : Cx} : CallR X (.builtin "isinstance") (rIsD X.K) := by
  intro pins s σ H xs us Q I r h
  obtain ⟨v, d, T, b, rfl, hd, hk, q⟩ := h
  exact call_isi pins s σ H _ us Q I r ⟨v, .ty T, _, _, b, rfl, .ty T, tyD hd, kit_ty hk, q⟩
/-! the box that a law draws from -/
def bx (g : Addr) (n s t : Int) : List (Key × V) := [(Sum.inr "great", .ref g), (Sum.inr "now", .int n), (Sum.inr "seed", .int s), (Sum.inr "turn", .int t)]
structure Box (H : Hp) (p g : Addr) : Prop where
  ex : ∃ n s t gs, H p = some (.dK (bx g n s t)) ∧ H g = some (.lst (List.map V.int gs)) ∧ gs.length ≤ 1000
theorem Box.ne {H : Hp} {p g : Addr} (b : Box H p g) : p ≠ g := by
  obtain ⟨n, s, t, gs, h1, h2, _⟩ := b.ex
  exact ne_of h1 h2 (by intro z; cases z)
theorem Box.off {H H' : Hp} {p g : Addr} {l : List Addr} (b : Box H p g) (h : Off l H H') (n1 : p ∉ l) (n2 : g ∉ l) : Box H' p g := by
  obtain ⟨n, s, t, gs, h1, h2, h3⟩ := b.ex
  exact ⟨n, s, t, gs, h.get h1 n1, h.get h2 n2, h3⟩
theorem Box.same {H H' : Hp} {p g : Addr} (b : Box H p g) (h : Same H H') : Box H' p g := by
  obtain ⟨n, s, t, gs, h1, h2, h3⟩ := b.ex
  exact ⟨n, s, t, gs, h _ _ h1, h _ _ h2, h3⟩
theorem kgn : ¬ ((Sum.inr "great" : Key) = (Sum.inr "now" : Key)) := by decide +kernel
theorem kgs : ¬ ((Sum.inr "great" : Key) = (Sum.inr "seed" : Key)) := by decide +kernel
theorem kgt : ¬ ((Sum.inr "great" : Key) = (Sum.inr "turn" : Key)) := by decide +kernel
theorem kns : ¬ ((Sum.inr "now" : Key) = (Sum.inr "seed" : Key)) := by decide +kernel
theorem knt : ¬ ((Sum.inr "now" : Key) = (Sum.inr "turn" : Key)) := by decide +kernel
theorem kst : ¬ ((Sum.inr "seed" : Key) = (Sum.inr "turn" : Key)) := by decide +kernel
theorem knf (a b : Key) (h : ¬ a = b) : ¬ b = a := fun z => h z.symm
section
variable (g : Addr) (n s t : Int)
theorem bx_great : valV (bx g n s t) (Sum.inr "great" : Key) = some (.ref g) := by
  simp [valV, bx]
theorem bx_now : valV (bx g n s t) (Sum.inr "now" : Key) = some (.int n) := by
  simp only [valV, bx, List.find?_cons, decide_eq_false kgn, decide_true, Option.map_some]
theorem bx_seed : valV (bx g n s t) (Sum.inr "seed" : Key) = some (.int s) := by
  simp only [valV, bx, List.find?_cons, decide_eq_false kgs, decide_eq_false kns, decide_true, Option.map_some]
theorem bx_turn : valV (bx g n s t) (Sum.inr "turn" : Key) = some (.int t) := by
  simp only [valV, bx, List.find?_cons, decide_eq_false kgt, decide_eq_false knt, decide_eq_false kst, decide_true, Option.map_some]
theorem put_now (y : Int) : putK (bx g n s t) (Sum.inr "now" : Key) (.int y) = bx g y s t := by
  simp only [putK, bx, List.any_cons, List.map_cons, List.map_nil, decide_true, Bool.true_or, Bool.or_true, if_true, if_neg kgn, if_neg (knf _ _ kns), if_neg (knf _ _ knt)]
theorem put_seed (y : Int) : putK (bx g n s t) (Sum.inr "seed" : Key) (.int y) = bx g n y t := by
  simp only [putK, bx, List.any_cons, List.map_cons, List.map_nil, decide_true, Bool.true_or, Bool.or_true, if_true, if_neg kgs, if_neg kns, if_neg (knf _ _ kst)]
theorem put_turn (y : Int) : putK (bx g n s t) (Sum.inr "turn" : Key) (.int y) = bx g n s y := by
  simp only [putK, bx, List.any_cons, List.map_cons, List.map_nil, decide_true, Bool.true_or, Bool.or_true, if_true, if_neg kgt, if_neg knt, if_neg kst]
theorem mer_box : mergeK [] (bx g n s t) = bx g n s t := by
  simp only [mergeK, bx, List.foldl_cons, List.foldl_nil, putK, List.any_nil, List.any_cons, List.nil_append, List.cons_append, decide_eq_false kgn, decide_eq_false kgs, decide_eq_false kgt, decide_eq_false kns, decide_eq_false knt, decide_eq_false kst, Bool.or_false, if_neg Bool.false_ne_true]
end
/-! data that can be printed: small ints, short texts, few nodes -/
mutual
def gd : PyData → Bool
  | .none => true
  | .bool _ => true
  | .int i => decide (i.natAbs.log2 < 1920)
  | .str x => decide (x.length ≤ 100) && x.cps.toList.all fun c => decide (c < 128)
  | .list ds => gds ds
  | .tuple ds => gds ds
  | .dict _ => false
def gds : List PyData → Bool
  | [] => true
  | d :: ds => gd d && gds ds
end
mutual
def nod : PyData → Nat
  | .list ds => 1 + nods ds
  | .tuple ds => 1 + nods ds
  | .none => 1
  | .bool _ => 1
  | .int _ => 1
  | .str _ => 1
  | .dict _ => 1
def nods : List PyData → Nat
  | [] => 0
  | d :: ds => nod d + nods ds
end
mutual
theorem gd_sh : ∀ d : PyData, gd d = true → d.showable = true ∧ d.hasDict = false
  | .none, _ => ⟨by simp only [PyData.showable], by simp only [PyData.hasDict]⟩
  | .bool _, _ => ⟨by simp only [PyData.showable], by simp only [PyData.hasDict]⟩
  | .int i, h => ⟨by simpa only [PyData.showable, gd] using h, by simp only [PyData.hasDict]⟩
  | .str _, _ => ⟨by simp only [PyData.showable], by simp only [PyData.hasDict]⟩
  | .list ds, h => by
    have q := gds_sh ds (by simpa only [gd] using h)
    exact ⟨by simpa only [PyData.showable] using q.1, by simpa only [PyData.hasDict] using q.2⟩
  | .tuple ds, h => by
    have q := gds_sh ds (by simpa only [gd] using h)
    exact ⟨by simpa only [PyData.showable] using q.1, by simpa only [PyData.hasDict] using q.2⟩
  | .dict _, h => by simp [gd] at h
theorem gds_sh : ∀ ds : List PyData, gds ds = true → PyData.showableAll ds = true ∧ PyData.hasDictAll ds = false
  | [], _ => ⟨by simp only [PyData.showableAll], by simp only [PyData.hasDictAll]⟩
  | d :: ds, h => by
    simp only [gds, Bool.and_eq_true] at h
    have q1 := gd_sh d h.1
    have q2 := gds_sh ds h.2
    exact ⟨by simp only [PyData.showableAll, q1.1, q2.1, Bool.and_self], by simp only [PyData.hasDictAll, q1.2, q2.2, Bool.or_self]⟩
end
mutual
theorem gd_sz : ∀ d : PyData, gd d = true → d.shown.length + 2 ≤ 2000 * nod d
  | .none, _ => by
    simp only [PyData.shown, nod]
    decide +kernel
  | .bool b, _ => by
    simp only [PyData.shown, nod]
    cases b <;> decide +kernel
  | .int i, h => by
    have h1 : i.natAbs.log2 < 1920 := by simpa only [gd, decide_eq_true_eq] using h
    have q := int_text_len_1921 h1
    simp only [PyData.shown, nod]
    show (Str.ofString (toString i)).length + 2 ≤ _
    omega
  | .str x, h => by
    simp only [gd, Bool.and_eq_true, decide_eq_true_eq, List.all_eq_true] at h
    have q := StrLaws.reprText_len x (fun c hc => Nat.lt_of_lt_of_le (h.2 c hc) (by decide))
    simp only [PyData.shown, nod]
    omega
  | .list ds, h => by
    have q := gds_sz ds (by simpa only [gd] using h)
    have q2 := listText_len_le (PyData.shownAll ds)
    simp only [PyData.shown, nod]
    omega
  | .tuple ds, h => by
    have q := gds_sz ds (by simpa only [gd] using h)
    have q2 := tupleText_len_le (PyData.shownAll ds)
    simp only [PyData.shown, nod]
    omega
  | .dict _, h => by simp [gd] at h
theorem gds_sz : ∀ ds : List PyData, gds ds = true → ((PyData.shownAll ds).map (·.length)).sum + 2 * (PyData.shownAll ds).length ≤ 2000 * nods ds
  | [], _ => by simp [PyData.shownAll, nods]
  | d :: ds, h => by
    simp only [gds, Bool.and_eq_true] at h
    have q1 := gd_sz d h.1
    have q2 := gds_sz ds h.2
    simp only [PyData.shownAll, nods, List.map_cons, List.sum_cons, List.length_cons]
    omega
end
theorem prn_of {d : PyData} (h : gd d = true) (hn : nod d ≤ 8000) (hd : d.depth ≤ 60) : Prn d :=
  ⟨(gd_sh d h).1, (gd_sh d h).2, hd, by
    have q := gd_sz d h
    have e : sizeLine = 16777216 := by decide
    omega⟩
theorem gds_app : ∀ ds es : List PyData, gds (ds ++ es) = (gds ds && gds es)
  | [], es => by simp [gds]
  | d :: ds, es => by simp only [List.cons_append, gds, gds_app ds es, Bool.and_assoc]
theorem nods_app : ∀ ds es : List PyData, nods (ds ++ es) = nods ds + nods es
  | [], es => by simp [nods]
  | d :: ds, es => by simp only [List.cons_append, nods, nods_app ds es, Nat.add_assoc]
theorem nod_pos : ∀ d : PyData, 1 ≤ nod d
  | .list _ => by simp only [nod]; omega
  | .tuple _ => by simp only [nod]; omega
  | .none => by simp only [nod]; omega
  | .bool _ => by simp only [nod]; omega
  | .int _ => by simp only [nod]; omega
  | .str _ => by simp only [nod]; omega
  | .dict _ => by simp only [nod]; omega
theorem nods_len : ∀ ds : List PyData, ds.length ≤ nods ds
  | [] => Nat.le_refl _
  | d :: ds => by
    have := nod_pos d
    have := nods_len ds
    simp only [nods, List.length_cons]
    omega
theorem gds_mem : ∀ {ds : List PyData} {d : PyData}, gds ds = true → d ∈ ds → gd d = true
  | _ :: _, _, h, m => by
    simp only [gds, Bool.and_eq_true] at h
    rcases List.mem_cons.mp m with e | e
    · rw [e]
      exact h.1
    · exact gds_mem h.2 e
theorem nods_mem : ∀ {ds : List PyData} {d : PyData}, d ∈ ds → nod d ≤ nods ds
  | _ :: _, _, m => by
    simp only [nods]
    rcases List.mem_cons.mp m with e | e
    · rw [e]
      omega
    · have := nods_mem e
      omega
theorem depth_mem : ∀ {ds : List PyData} {d : PyData}, d ∈ ds → d.depth ≤ PyData.depthAll ds
  | _ :: _, _, m => by
    simp only [PyData.depthAll]
    rcases List.mem_cons.mp m with e | e
    · rw [e]
      omega
    · have := depth_mem e
      omega
theorem depthAll_app : ∀ ds es : List PyData, PyData.depthAll (ds ++ es) = max (PyData.depthAll ds) (PyData.depthAll es)
  | [], es => by simp [PyData.depthAll]
  | d :: ds, es => by simp only [List.cons_append, PyData.depthAll, depthAll_app ds es, Nat.max_assoc]
/-- built-in names that the top leaves as they are -/
structure Bi (mg : Str → Option Value) : Prop where
  ii : mg "isinstance" = none
  len : mg "len" = none
  all : mg "all" = none
  str : mg "str" = none
  tup : mg "tuple" = none
  int : mg "int" = none
  bool : mg "bool" = none
  rng : mg "range" = none
  rep : mg "repr" = none
  abs : mg "abs" = none
/-! names -/
def lowOk (c : Nat) : Bool := decide (97 ≤ c) && decide (c ≤ 122)
def isNm (x : Str) : Bool := decide (1 ≤ x.length) && decide (x.length ≤ 8) && x.cps.toList.all lowOk
mutual
def isVal : PyData → Bool
  | .int _ => true
  | .str x => isNm x
  | .tuple ds => isVals ds
  | .none => false
  | .bool _ => false
  | .list _ => false
  | .dict _ => false
def isVals : List PyData → Bool
  | [] => true
  | d :: ds => isVal d && isVals ds
end
theorem isVals_app : ∀ ds es : List PyData, isVals (ds ++ es) = (isVals ds && isVals es)
  | [], es => by simp [isVals]
  | d :: ds, es => by simp only [List.cons_append, isVals, isVals_app ds es, Bool.and_assoc]
def isTup : PyData → Bool
  | .tuple _ => true
  | _ => false
def nmD : PyData → Bool
  | .str x => isNm x
  | _ => false
def inD : PyData → Bool
  | .int _ => true
  | _ => false
def isStr : PyData → Bool
  | .str _ => true
  | _ => false
def isIntB : PyData → Bool
  | .int _ => true
  | .bool _ => true
  | _ => false
def isBool : PyData → Bool
  | .bool _ => true
  | _ => false
theorem kit_tup : ∀ d : PyData, kitB (tyN d) "tuple" = some (isTup d)
  | .none => (by decide +kernel : kitB "NoneType" "tuple" = some false)
  | .bool _ => (by decide +kernel : kitB "bool" "tuple" = some false)
  | .int _ => (by decide +kernel : kitB "int" "tuple" = some false)
  | .str _ => (by decide +kernel : kitB "str" "tuple" = some false)
  | .list _ => (by decide +kernel : kitB "list" "tuple" = some false)
  | .tuple _ => (by decide +kernel : kitB "tuple" "tuple" = some true)
  | .dict _ => (by decide +kernel : kitB "dict" "tuple" = some false)
theorem kit_str : ∀ d : PyData, kitB (tyN d) "str" = some (isStr d)
  | .none => (by decide +kernel : kitB "NoneType" "str" = some false)
  | .bool _ => (by decide +kernel : kitB "bool" "str" = some false)
  | .int _ => (by decide +kernel : kitB "int" "str" = some false)
  | .str _ => (by decide +kernel : kitB "str" "str" = some true)
  | .list _ => (by decide +kernel : kitB "list" "str" = some false)
  | .tuple _ => (by decide +kernel : kitB "tuple" "str" = some false)
  | .dict _ => (by decide +kernel : kitB "dict" "str" = some false)
theorem kit_int : ∀ d : PyData, kitB (tyN d) "int" = some (isIntB d)
  | .none => (by decide +kernel : kitB "NoneType" "int" = some false)
  | .bool _ => (by decide +kernel : kitB "bool" "int" = some true)
  | .int _ => (by decide +kernel : kitB "int" "int" = some true)
  | .str _ => (by decide +kernel : kitB "str" "int" = some false)
  | .list _ => (by decide +kernel : kitB "list" "int" = some false)
  | .tuple _ => (by decide +kernel : kitB "tuple" "int" = some false)
  | .dict _ => (by decide +kernel : kitB "dict" "int" = some false)
theorem kit_bool : ∀ d : PyData, kitB (tyN d) "bool" = some (isBool d)
  | .none => (by decide +kernel : kitB "NoneType" "bool" = some false)
  | .bool _ => (by decide +kernel : kitB "bool" "bool" = some true)
  | .int _ => (by decide +kernel : kitB "int" "bool" = some false)
  | .str _ => (by decide +kernel : kitB "str" "bool" = some false)
  | .list _ => (by decide +kernel : kitB "list" "bool" = some false)
  | .tuple _ => (by decide +kernel : kitB "tuple" "bool" = some false)
  | .dict _ => (by decide +kernel : kitB "dict" "bool" = some false)
theorem one_lt (c d : Nat) : (([c] : List Nat) < [d]) ↔ c < d := by
  constructor
  · intro h
    cases h with
    | rel h => exact h
    | cons h => cases h
  · intro h
    exact .rel h
theorem cps_a : (("a" : Str)).cps.toList = [97] := by decide +kernel
theorem cps_z : (("z" : Str)).cps.toList = [122] := by decide +kernel
theorem ge_a (c : Nat) : (!decide ((⟨#[c]⟩ : Str).cps.toList < ("a" : Str).cps.toList)) = decide (97 ≤ c) := by
  rw [cps_a]
  by_cases h : 97 ≤ c
  · have : ¬ ((⟨#[c]⟩ : Str).cps.toList < [97]) := fun z => by
      have := (one_lt c 97).mp z
      omega
    rw [decide_eq_false this, decide_eq_true h]
    rfl
  · have : ((⟨#[c]⟩ : Str).cps.toList < [97]) := (one_lt c 97).mpr (by omega)
    rw [decide_eq_true this, decide_eq_false h]
    rfl
theorem le_z (c : Nat) : (!decide (("z" : Str).cps.toList < (⟨#[c]⟩ : Str).cps.toList)) = decide (c ≤ 122) := by
  rw [cps_z]
  by_cases h : c ≤ 122
  · have : ¬ (([122] : List Nat) < (⟨#[c]⟩ : Str).cps.toList) := fun z => by
      have := (one_lt 122 c).mp z
      omega
    rw [decide_eq_false this, decide_eq_true h]
    rfl
  · have : (([122] : List Nat) < (⟨#[c]⟩ : Str).cps.toList) := (one_lt 122 c).mpr (by omega)
    rw [decide_eq_true this, decide_eq_false h]
    rfl
theorem gd_str {x : Str} (h : gd (.str x) = true) : x.length ≤ 100 := by
  simp only [gd, Bool.and_eq_true, decide_eq_true_eq] at h
  exact h.1
theorem len_cps (x : Str) : x.length = x.cps.size := rfl
theorem cps_at {x : Str} {i c : Nat} (h : x.cps[i]? = some c) : x.cps.toList[i]? = some c := by simpa using h
/-- what is found going along a list -/
theorem take_snoc {α β : Type} (f : α → β) {l : List α} {i : Nat} {a : α} (h : l[i]? = some a) : (l.take (i + 1)).map f = (l.take i).map f ++ [f a] := by
  rw [List.take_add_one, h, List.map_append]
  rfl
theorem all_map {α : Type} (f : α → Bool) : ∀ l : List α, (l.map f).all id = l.all f
  | [] => rfl
  | a :: l => by simp only [List.map_cons, List.all_cons, all_map f l, id]
/-! promises of those that only look -/
def spLook (K : PySem.W.Frag) (ok : PyData → Prop) (g : PyData → V) : Sp := fun vs H Q _ => ∃ v d, vs = [v] ∧ Dp K H v d ∧ ok d ∧ ∀ H', Same H H' → Q (g d) H'
theorem DpAll.unapp {K : PySem.W.Frag} {H : Hp} : ∀ {xs ys : List V} {ds : List PyData}, DpAll K H (xs ++ ys) ds → ∃ d1 d2, ds = d1 ++ d2 ∧ DpAll K H xs d1 ∧ DpAll K H ys d2
  | [], _, ds, h => ⟨[], ds, rfl, .nil, h⟩
  | x :: xs, _, _, h => by
    cases h with
    | cons h1 h2 =>
      obtain ⟨d1, d2, e, a, b⟩ := DpAll.unapp (xs := xs) h2
      exact ⟨_ :: d1, d2, by rw [e]; rfl, .cons h1 a, b⟩
theorem DpAll.last {K : PySem.W.Frag} {H : Hp} {xs : List V} {ds : List PyData} (h : DpAll K H xs ds) (hx : xs ≠ []) : ∃ xs' v ds' d, xs = xs' ++ [v] ∧ ds = ds' ++ [d] ∧ DpAll K H xs' ds' ∧ Dp K H v d := by
  have e := (List.dropLast_concat_getLast hx).symm
  rw [e] at h
  obtain ⟨d1, d2, e2, a, b⟩ := DpAll.unapp h
  cases b with
  | cons b1 b2 =>
    cases b2
    exact ⟨_, _, d1, _, e, e2, a, b1⟩
theorem last_at (xs : List V) (v : V) : (xs ++ [v])[(xs ++ [v]).length - 1]? = some v := by simp
theorem drop_last (xs : List V) (v : V) : (xs ++ [v]).dropLast = xs := by simp
theorem tup_of {K : PySem.W.Frag} {H : Hp} {v : V} {d : PyData} (h : Dp K H v d) (ht : isTup d = true) : ∃ a xs ds, v = .ref a ∧ d = .tuple ds ∧ SqT K H a xs ∧ DpAll K H xs ds := by
  cases h with
  | tup h1 h2 => exact ⟨_, _, _, rfl, rfl, h1, h2⟩
  | non => cases ht
  | bl b => cases ht
  | int i => cases ht
  | str x => cases ht
  | lst h1 h2 => cases ht
theorem isVal_no {d : PyData} (h1 : isTup d = false) : isVal d = (inD d || nmD d) := by
  cases d with
  | tuple ds => exact absurd (show true = false from h1) (by decide)
  | str x => simp only [isVal, inD, nmD, Bool.false_or]
  | int i => simp only [isVal, inD, nmD, Bool.true_or]
  | none => simp only [isVal, inD, nmD, Bool.or_self]
  | bool b => simp only [isVal, inD, nmD, Bool.or_self]
  | list b => simp only [isVal, inD, nmD, Bool.or_self]
  | dict b => simp only [isVal, inD, nmD, Bool.or_self]
/-- going along anything: what one turn does is B -/
theorem along {J : It} {n : Nat} {G : Hp → Prop} {Y : Nat → Hp → V → Hp → Prop} (w : Walk J n G Y) {B : (Hp → Prop) → V → Hp → Prop} {H0 : Hp} {Qd : Hp → Prop} (Pv : Nat → Hp → Prop) (h0 : Pv 0 H0) (hG : ∀ i H, i ≤ n → Pv i H → G H)
    (hs : ∀ i x H H', i < n → Pv i H → Y i H x H' → B (Pv (i + 1)) x H') (hd : ∀ H, Pv n H → Qd H) :
    ∃ W : Nat → Nat → Hp → Prop, (∃ m, W 0 m H0) ∧ ∀ i m H, W i m H → (J.stop i H ∧ Qd H) ∨ (J.go i H ∧ ∃ Nx : Hp → Prop, (∀ H', Nx H' → ∃ m', m' < m ∧ W (i + 1) m' H') ∧ ∀ x H', J.yld i H x H' → B Nx x H') := by
  refine ⟨fun i m H => i ≤ n ∧ m + i = n ∧ Pv i H, ⟨n, Nat.zero_le _, rfl, h0⟩, ?_⟩
  rintro i m H ⟨hi, hm, p⟩
  have gg := hG i H hi p
  by_cases lt : i < n
  · refine Or.inr ⟨w.goes i H lt gg, Pv (i + 1), ?_, ?_⟩
    · intro H' p'
      exact ⟨m - 1, by omega, by omega, by omega, p'⟩
    · intro x H' y
      exact hs i x H H' lt p (w.yields i H x H' lt gg y)
  · have e : i = n := by omega
    subst e
    exact Or.inl ⟨w.stops H gg, hd H p⟩
mutual
def dep : PyData → Nat
  | .tuple ds => 1 + deps ds
  | .none => 0
  | .bool _ => 0
  | .int _ => 0
  | .str _ => 0
  | .list _ => 0
  | .dict _ => 0
def deps : List PyData → Nat
  | [] => 0
  | d :: ds => max (dep d) (deps ds)
end
def kids : PyData → List PyData
  | .tuple ds => ds
  | _ => []
theorem deps_app : ∀ ds es : List PyData, deps (ds ++ es) = max (deps ds) (deps es)
  | [], es => by simp [deps]
  | d :: ds, es => by simp only [List.cons_append, deps, deps_app ds es, Nat.max_assoc]
theorem dep_no {d : PyData} (h : isTup d = false) : dep d = 0 := by
  cases d with
  | tuple ds => exact absurd (show true = false from h) (by decide)
  | str x => simp only [dep]
  | int i => simp only [dep]
  | none => simp only [dep]
  | bool b => simp only [dep]
  | list b => simp only [dep]
  | dict b => simp only [dep]
theorem deps_filter : ∀ ds : List PyData, deps (ds.filter isTup) = deps ds
  | [] => rfl
  | d :: ds => by
    cases h : isTup d with
    | true => simp only [List.filter_cons, h, if_true, deps, deps_filter ds]
    | false => simp only [List.filter_cons, h, Bool.false_eq_true, if_false, deps, deps_filter ds, dep_no h, Nat.zero_max]
theorem deps_kids : ∀ ds : List PyData, (∀ d ∈ ds, isTup d = true) → ds ≠ [] → deps ds = 1 + deps (ds.flatMap kids)
  | [], _, h => absurd rfl h
  | d :: ds, h, _ => by
    have hd := h d List.mem_cons_self
    have e1 : dep d = 1 + deps (kids d) := by
      cases d with
      | tuple es => simp only [dep, kids]
      | _ => cases hd
    rw [List.flatMap_cons, deps_app]
    simp only [deps]
    by_cases e : ds = []
    · subst e
      simp only [deps, List.flatMap_nil, e1]
      omega
    · have ih := deps_kids ds (fun x hx => h x (List.mem_cons_of_mem _ hx)) e
      rw [ih, e1]
      omega
theorem nods_kids : ∀ ds : List PyData, nods (ds.flatMap kids) ≤ nods ds
  | [] => Nat.le_refl _
  | d :: ds => by
    rw [List.flatMap_cons, nods_app]
    have ih := nods_kids ds
    have e : nods (kids d) ≤ nod d := by
      cases d <;> simp only [kids, nods, nod] <;> omega
    simp only [nods]
    omega
theorem nods_filter (p : PyData → Bool) : ∀ ds : List PyData, nods (ds.filter p) ≤ nods ds
  | [] => Nat.le_refl _
  | d :: ds => by
    have ih := nods_filter p ds
    have := nod_pos d
    cases h : p d with
    | true =>
      simp only [List.filter_cons, h, if_true, nods]
      omega
    | false =>
      simp only [List.filter_cons, h, Bool.false_eq_true, if_false, nods]
      omega
theorem nods_take (ds : List PyData) (i : Nat) : nods (ds.take i) ≤ nods ds := by
  have e := congrArg nods (List.take_append_drop i ds)
  rw [nods_app] at e
  omega
theorem get_take {α : Type} {l : List α} {i : Nat} {a : α} (h : l[i]? = some a) : l.take (i + 1) = l.take i ++ [a] := by
  rw [List.take_add_one, h]
  rfl
theorem call_isK {X : Cx} {K : PySem.W.Frag} (h : X.K = K) : CallR X (.builtin "isinstance") (rIsD K) := by
  subst h
  exact call_isD
theorem pi_tupK {X : Cx} {K : PySem.W.Frag} {tg l : Expr} {tl : TE} (h : X.K = K) (hl : PE X l tl) : PI X tg l (iTup K tl) := by
  subst h
  exact pi_tup hl
theorem pi_listK {X : Cx} {K : PySem.W.Frag} {tg l : Expr} {tl : TE} (h : X.K = K) (hl : PE X l tl) : PI X tg l (iList K tl) := by
  subst h
  exact pi_list hl
theorem b_ii : bootBuiltins "isinstance" = some (.builtin "isinstance") := by decide +kernel
theorem b_tup : bootBuiltins "tuple" = some (.type "tuple") := by decide +kernel
theorem b_all : bootBuiltins "all" = some (.builtin "all") := by decide +kernel
theorem b_str : bootBuiltins "str" = some (.type "str") := by decide +kernel
theorem b_int : bootBuiltins "int" = some (.type "int") := by decide +kernel
theorem b_bool : bootBuiltins "bool" = some (.type "bool") := by decide +kernel
theorem b_abs : bootBuiltins "abs" = some (.builtin "abs") := by decide +kernel
theorem b_rep : bootBuiltins "repr" = some (.builtin "repr") := by decide +kernel
theorem b_max : bootBuiltins "max" = some (.builtin "max") := by decide +kernel
theorem b_list : bootBuiltins "list" = some (.type "list") := by decide +kernel
/-! short texts of plain signs -/
structure Sm (n : Nat) (x : Str) : Prop where
  le : x.length ≤ n
  lo : ∀ c ∈ x.cps.toList, c < 128
theorem Sm.gd {n : Nat} {x : Str} (h : Sm n x) (hn : n ≤ 100) : Rl.gd (.str x) = true := by
  have h1 := h.le
  have h3 : x.length ≤ 100 := by omega
  have h2 : (x.cps.toList.all fun c => decide (c < 128)) = true := List.all_eq_true.mpr fun c hc => decide_eq_true (h.lo c hc)
  simp only [Rl.gd, decide_eq_true h3, h2, Bool.and_self]
theorem Sm.mono {n m : Nat} {x : Str} (h : Sm n x) (hn : n ≤ m) : Sm m x := ⟨Nat.le_trans h.le hn, h.lo⟩
theorem Sm.fits {n : Nat} {x : Str} (h : Sm n x) (hn : n ≤ 1000) : x.length ≤ sizeLine := Nat.le_trans h.le (Nat.le_of_lt (small1000 hn))
theorem app_cps (x y : Str) : (x ++ y).cps.toList = x.cps.toList ++ y.cps.toList := by
  show (x.cps ++ y.cps).toList = _
  simp
theorem Sm.app {n m : Nat} {x y : Str} (h : Sm n x) (g : Sm m y) : Sm (n + m) (x ++ y) := by
  refine ⟨?_, fun c hc => ?_⟩
  · rw [Str.length_append]
    have := h.le
    have := g.le
    omega
  · rw [app_cps] at hc
    rcases List.mem_append.mp hc with z | z
    · exact h.lo c z
    · exact g.lo c z
theorem Sm.cut {n : Nat} {x : Str} (h : Sm n x) (lo hi : Option Int) : Sm n (cutS x lo hi) := by
  refine ⟨Nat.le_trans (cutS_length x lo hi) h.le, fun c hc => h.lo c ?_⟩
  unfold cutS at hc
  exact List.mem_of_mem_drop (List.mem_of_mem_take (by simpa using hc))
theorem Sm.up {n : Nat} {x : Str} (h : Sm n x) : Sm n (Txt.upper x) := by
  rw [upper_ascii h.lo]
  refine ⟨?_, fun c hc => ?_⟩
  · have := h.le
    show (x.cps.map up1).size ≤ n
    rw [Array.size_map]
    exact this
  · rw [Array.toList_map] at hc
    obtain ⟨b, hb, rfl⟩ := List.mem_map.mp hc
    have := h.lo b hb
    unfold up1
    split <;> omega
theorem Sm.of {x : Str} {n : Nat} (h : (decide (x.length ≤ n) && x.cps.toList.all fun c => decide (c < 128)) = true) : Sm n x := by
  rw [Bool.and_eq_true] at h
  exact ⟨of_decide_eq_true h.1, fun c hc => of_decide_eq_true (List.all_eq_true.mp h.2 c hc)⟩
theorem Sm.join : ∀ (ys : List Str), (∀ y ∈ ys, Sm 1 y) → Sm ys.length (Txt.join "" ys) := by
  intro ys h
  rw [show Txt.join "" ys = Str.join "" ys from StrLaws.glued_eq_join "" ys]
  refine ⟨?_, fun c hc => ?_⟩
  · have q := StrLaws.join_length_le "" ys
    have e0 : (("" : Str)).length = 0 := by decide +kernel
    have s : (ys.map (·.length)).sum ≤ ys.length := by
      clear q
      induction ys with
      | nil => exact Nat.le_refl _
      | cons y r ih =>
        have h1 := (h y List.mem_cons_self).le
        have h2 := ih fun z hz => h z (List.mem_cons_of_mem _ hz)
        simp only [List.map_cons, List.sum_cons, List.length_cons]
        omega
    rw [e0] at q
    exact Nat.le_trans q (by simpa using s)
  · have q := (mem_join "" c ys).mp hc
    rcases q with ⟨t, ht, hc⟩ | ⟨_, hc⟩
    · exact (h t ht).lo c hc
    · have e0 : (("" : Str)).cps.toList = [] := by decide +kernel
      rw [e0] at hc
      cases hc
mutual
theorem gd_lay : ∀ d : PyData, gd d = true → d.canLay0 = true
  | .none, _ => by simp only [PyData.canLay0]
  | .bool _, _ => by simp only [PyData.canLay0]
  | .int _, _ => by simp only [PyData.canLay0]
  | .str x, h => by
    simp only [gd, Bool.and_eq_true, List.all_eq_true, decide_eq_true_eq] at h
    simp only [PyData.canLay0, PyData.strOk, Array.all_eq_true]
    intro i hi
    exact decide_eq_true (Nat.lt_trans (h.2 _ (by simp)) (by decide))
  | .list ds, h => by
    simp only [PyData.canLay0]
    exact gds_lay ds (by simpa only [gd] using h)
  | .tuple ds, h => by
    simp only [PyData.canLay0]
    exact gds_lay ds (by simpa only [gd] using h)
  | .dict _, h => by simp [gd] at h
theorem gds_lay : ∀ ds : List PyData, gds ds = true → PyData.canLayAll0 ds = true
  | [], _ => by simp only [PyData.canLayAll0]
  | d :: ds, h => by
    simp only [gds, Bool.and_eq_true] at h
    simp only [PyData.canLayAll0, gd_lay d h.1, gds_lay ds h.2, Bool.and_self]
end
theorem shaped_of {d : PyData} (h : gd d = true) (hd : d.depth ≤ 64) : SeqAt.shaped d = true := by
  show (d.canLay0 && decide (d.depth ≤ 64)) = true
  rw [gd_lay d h, decide_eq_true hd]
  rfl
theorem Box.notin {H : Hp} {p g a : Addr} (b : Box H p g) (h : H a = none) : a ∉ [p, g] := by
  obtain ⟨n, s, t, gs, h1, h2, _⟩ := b.ex
  intro z
  rcases List.mem_cons.mp z with e | z
  · rw [e, h1] at h
    cases h
  · rcases List.mem_cons.mp z with e | z
    · rw [e, h2] at h
      cases h
    · cases z
/-- all of these are tracked -/
def Tr (l : List Addr) (H : Hp) : Prop := ∀ b ∈ l, H b ≠ none
theorem off_new {l : List Addr} {H H' : Hp} {a : Addr} {o : HO} (h : Off l H H') (n : a ∉ l) (hn : H a = none) : Off l H (upd H' a o) := by
  intro b u e
  obtain ⟨nb, e⟩ := cut_some e
  rw [cut_out nb, upd_ne (ne_of_none e hn)]
  exact h.get e nb
theorem Box.put {H : Hp} {p g a : Addr} {o : HO} (b : Box H p g) (n : a ∉ [p, g]) : Box (upd H a o) p g := by
  obtain ⟨x, s, t, gs, h1, h2, h3⟩ := b.ex
  exact ⟨x, s, t, gs, by rw [upd_ne (fun z => n (by simp [← z]))]; exact h1, by rw [upd_ne (fun z => n (by simp [← z]))]; exact h2, h3⟩
theorem few {n : Nat} (h : n ≤ 1000) : n ≤ sizeLine := Nat.le_of_lt (small1000 h)
theorem cut_new {l : List Addr} {H : Hp} {a : Addr} {o : HO} (h : H a = none) : Same (cut l H) (cut l (upd H a o)) := Off.of (same_new h o)
theorem Tr.go {l m : List Addr} {H H' : Hp} (t : Tr l H) (o : Off m H H') (hm : ∀ b ∈ m, H' b ≠ none) : Tr l H' := fun b hb => by
  by_cases e : b ∈ m
  · exact hm b e
  · intro z
    exact t b hb (o.free z e)
theorem Box.tr {H : Hp} {p g : Addr} (b : Box H p g) : H p ≠ none ∧ H g ≠ none := by
  obtain ⟨x, s, t, gs, h1, h2, _⟩ := b.ex
  constructor
  · rw [h1]
    exact fun z => nomatch z
  · rw [h2]
    exact fun z => nomatch z
theorem ne_mem {l : List Addr} {a b : Addr} (n : a ∉ l) (h : b ∈ l) : b ≠ a := fun e => n (by rw [← e]; exact h)
theorem few2 {n : Nat} (h : n ≤ 100000) : n ≤ sizeLine := Nat.le_trans h (by decide)
theorem Tr.out {l : List Addr} {H : Hp} (t : Tr l H) {a : Addr} (h : H a = none) : a ∉ l := fun z => t a z h
theorem Tr.same {l : List Addr} {H H' : Hp} (t : Tr l H) (s : Same H H') : Tr l H' := fun b hb z => by
  cases q : H b with
  | none => exact t b hb q
  | some o =>
    rw [s b o q] at z
    cases z
theorem seqT_cut {K : PySem.W.Frag} {l : List Addr} {H : Hp} {a : Addr} {xs : List V} (h : SqT K (cut l H) a xs) : SqT K H a xs := seqT_up (cut_same l H) h
theorem cutV_all (xs : List V) (lo hi : Option Int) (h : HT.sIx xs.length 0 lo = 0 ∧ HT.sIx xs.length xs.length hi = xs.length) : cutV xs lo hi = xs := by
  unfold cutV
  rw [h.1, h.2]
  simp
/-- t + u, what comes of it, apart from the addresses l -/
def rCatU (K : PySem.W.Frag) : R2 := fun x y H Q => ∃ a b xs ys l, x = .ref a ∧ y = .ref b ∧ SqT K (cut l H) a xs ∧ SqT K (cut l H) b ys ∧ Tr l H ∧ xs.length + ys.length ≤ sizeLine ∧
  ∀ c H', Same H H' → SqT K (cut l H') c (xs ++ ys) → Q (.ref c) H'
theorem op_catU {X : Cx} : OpR X (binaryOp .Add) (rCatU X.K) := by
  intro pins s σ H x y v u Q I rx ry h
  obtain ⟨a, b, xs, ys, l, rfl, rfl, ha, hb, tl, hz, q⟩ := h
  refine op_catA pins s σ H _ _ v u Q I rx ry ⟨a, b, xs, ys, rfl, rfl, seqT_cut ha, seqT_cut hb, hz, ?_, ?_, ?_⟩
  · intro e
    exact q b H (Same.refl H) (by rw [e]; exact hb)
  · intro _ e
    exact q a H (Same.refl H) (by rw [e, List.append_nil]; exact ha)
  · intro _ _ c hc
    exact q c _ (same_new hc _) (.inl (.inl (by rw [cut_out (tl.out hc)]; exact upd_same)))
def rSlU (K : PySem.W.Frag) : V → Option Int → Option Int → Hp → VK → Prop := fun x lo hi H Q => ∃ a xs l, x = .ref a ∧ SqT K (cut l H) a xs ∧ Tr l H ∧
  ∀ c H', Same H H' → SqT K (cut l H') c (cutV xs lo hi) → Q (.ref c) H'
theorem sl_tupU {X : Cx} : SlR X (rSlU X.K) := by
  intro pins s σ H x v vl vu lo hi sl Q I rx hs pl pu h
  obtain ⟨a, xs, l, rfl, ha, tl, q⟩ := h
  refine sl_tupA pins s σ H _ v vl vu lo hi sl Q I rx hs pl pu ⟨a, xs, rfl, seqT_cut ha, ?_, ?_⟩
  · intro e
    exact q a H (Same.refl H) (by rw [cutV_all xs lo hi e]; exact ha)
  · intro _ c hc
    exact q c _ (same_new hc _) (.inl (.inl (by rw [cut_out (tl.out hc)]; exact upd_same)))
theorem cutV_take (xs : List V) {r : Int} (h0 : 0 ≤ r) (h : r ≤ (xs.length : Int)) : cutV xs none (some r) = xs.take r.toNat := by
  obtain ⟨n, rfl⟩ := Int.eq_ofNat_of_zero_le h0
  unfold cutV
  rw [HT.sIx_none, HT.sIx_nat]
  have : min n xs.length = n := by omega
  rw [this]
  rfl
theorem cutV_drop (xs : List V) {r : Int} (h0 : 0 ≤ r) (h : r ≤ (xs.length : Int)) : cutV xs (some r) none = xs.drop r.toNat := by
  obtain ⟨n, rfl⟩ := Int.eq_ofNat_of_zero_le h0
  unfold cutV
  rw [HT.sIx_none, HT.sIx_nat]
  have : min n xs.length = n := by omega
  rw [this]
  exact List.take_of_length_le (by rw [List.length_drop]; exact Nat.le_refl _)
def topS (i : Nat) : Stmt := PySem.Challenge.pw_runlore_k02_values_told.main.body.getD i (.Pass ⟨0, 0, 0, 0⟩)
abbrev sBox : Stmt := topS 7
abbrev sTake : Stmt := topS 8
theorem c47 : (0 : Int) < 2147483647 := by decide
theorem c29 : (0 : Int) < 2147483629 := by decide
/-! _law_take: some number below many; the box stays a box -/
def spTake : Sp := fun vs H Q _ => ∃ (p g : Addr) (m : Int), vs = [.ref p, .int m] ∧ Box H p g ∧ 0 < m ∧ m.natAbs < 2 ^ 200 ∧
  ∀ (r : Int) (H' : Hp), 0 ≤ r → r < m → Box H' p g → Off [p, g] H H' → Q (.int r) H'
def spBox (K : PySem.W.Frag) : Sp := fun vs H Q _ => ∃ (a : Addr) (ns : List Int) (c : Int), vs = [.ref a, .int c] ∧ SqL K H a (ns.map V.int) ∧ ns.length ≤ 63 ∧ 0 ≤ c ∧ c < 1000 ∧
  ∀ (p g : Addr) (H' : Hp), Box H' p g → Same H H' → H p = none → H g = none → Q (.ref p) H'
theorem scTake : FnScope ["_law_box_here", "_law_many", "_law_digit", "_law_one"] ["_law_box_here", "_law_many"] (defScope sTake) :=
  ⟨rfl, rfl, rfl, by decide +kernel, rfl, by decide +kernel, by decide +kernel⟩
section
variable {P : Program} {w : World} {K : PySem.W.Frag} {mg : Str → Option Value} {base : Heap} {f : Addr} {fd : FuncData}
theorem get_now {H : Hp} {p g : Addr} {n s t : Int} (h : H p = some (.dK (bx g n s t))) : DGet H p (.str "now") (some (.int n)) := by
  have q := DGet.k (k := (Sum.inr "now" : Key)) h
  rw [bx_now] at q
  exact q
theorem get_great {H : Hp} {p g : Addr} {n s t : Int} (h : H p = some (.dK (bx g n s t))) : DGet H p (.str "great") (some (.ref g)) := by
  have q := DGet.k (k := (Sum.inr "great" : Key)) h
  rw [bx_great] at q
  exact q
theorem get_seed {H : Hp} {p g : Addr} {n s t : Int} (h : H p = some (.dK (bx g n s t))) : DGet H p (.str "seed") (some (.int s)) := by
  have q := DGet.k (k := (Sum.inr "seed" : Key)) h
  rw [bx_seed] at q
  exact q
theorem get_turn {H : Hp} {p g : Addr} {n s t : Int} (h : H p = some (.dK (bx g n s t))) : DGet H p (.str "turn") (some (.int t)) := by
  have q := DGet.k (k := (Sum.inr "turn" : Key)) h
  rw [bx_turn] at q
  exact q
theorem set_now {H : Hp} {p g : Addr} {n s t : Int} (y : Int) (h : H p = some (.dK (bx g n s t))) : DPut H p (.str "now") (.int y) (upd H p (.dK (bx g y s t))) := by
  have q := DPut.k (k := (Sum.inr "now" : Key)) (v := .int y) h (by show 4 < sizeLine; decide)
  rw [put_now] at q
  exact q
theorem set_seed {H : Hp} {p g : Addr} {n s t : Int} (y : Int) (h : H p = some (.dK (bx g n s t))) : DPut H p (.str "seed") (.int y) (upd H p (.dK (bx g n y t))) := by
  have q := DPut.k (k := (Sum.inr "seed" : Key)) (v := .int y) h (by show 4 < sizeLine; decide)
  rw [put_seed] at q
  exact q
theorem set_turn {H : Hp} {p g : Addr} {n s t : Int} (y : Int) (h : H p = some (.dK (bx g n s t))) : DPut H p (.str "turn") (.int y) (upd H p (.dK (bx g n s y))) := by
  have q := DPut.k (k := (Sum.inr "turn" : Key)) (v := .int y) h (by show 4 < sizeLine; decide)
  rw [put_turn] at q
  exact q
theorem ok_take {k : Nat} (F : Fun K "_law_take" "_law_take" sTake f fd) (ml : mg "len" = none) : FnOk P w K mg base CX0 (k + 1) f fd ["_law_box_here", "_law_many"] spTake := by
  refine F.ok scTake (fun vs H Q E h => ?_) (fun cdv A outer s H vs Q E hr h => ?_)
  · obtain ⟨p, g, m, rfl, _⟩ := h
    rfl
  obtain ⟨p, g, m, rfl, ⟨n, sd, t, gs, hp, hg, hl⟩, m0, m9, q⟩ := h
  have hu := hu_of hr
  have npg : p ≠ g := ne_of hp hg (by intro z; cases z)
  refine ⟨_, C8.pss_cut (ps_if (PW.pt (pw_and (pt_cmpR op_eq (pe_dget hu (pv 0) pe_str (fun _ _ => rfl)) pe_int (nomark _))
        (pw_and1 (pt_cmpR op_gt (pe_callB call_len_seq (by rfl) ml PySem.boot_len (pa_cons (pe_dget hu (pv 0) pe_str (fun _ _ => rfl)) pa_nil)) pe_int (nomark _)))))
        (pss_one (ps_dput hu (pv 0) pe_str (pe_bm0 PySem.F.plainAttrs_list PySem.F.slot_list_pop PySem.F.type_list_pop mt_pop (pe_dget hu (pv 0) pe_str (fun _ _ => rfl))) rfl)) pss_nil)
    (pss_cons (ps_if (pt_cmpR op_gt (pe_dget hu (pv 0) pe_str (fun _ _ => rfl)) pe_int (nomark _))
        (pss_cons (ps_set (i := 2) scTake.nd rfl (.inl rfl) (pe_op op_mod (pe_dget hu (pv 0) pe_str (fun _ _ => rfl)) (pv 1)))
        (pss_cons (ps_dput hu (pv 0) pe_str (pe_op op_fdivW (pe_dget hu (pv 0) pe_str (fun _ _ => rfl)) (pv 1)) rfl)
        (pss_one (ps_ret (pv 2))))) pss_nil)
    (pss_cons (ps_dput hu (pv 0) pe_str (pe_op op_add (pe_dget hu (pv 0) pe_str (fun _ _ => rfl)) pe_int) rfl)
    (pss_cons (ps_set (i := 3) scTake.nd rfl (.inl rfl) (pe_op op_mod (pe_op op_mul (pe_op op_mod (pe_op op_add (pe_dget hu (pv 0) pe_str (fun _ _ => rfl))
        (pe_op op_mul pe_int (pe_dget hu (pv 0) pe_str (fun _ _ => rfl)))) pe_int) pe_int) pe_int))
    (pss_cons (ps_dput hu (pv 0) pe_str (pe_op op_add (pe_op op_mod (pe_op op_add (pv 3) (pe_op op_mul pe_int (pe_dget hu (pv 0) pe_str (fun _ _ => rfl)))) pe_int) pe_int) rfl)
    (pss_one (ps_ret (pe_op op_mod (pe_op op_fdiv (pe_op op_add (pe_op op_mul (pv 3) pe_int) (pe_dget hu (pv 0) pe_str (fun _ _ => rfl))) pe_int) (pv 1)))))))), ?_⟩
  refine ⟨fun σ H1 => ∃ n1 gs1, σ = [some (.ref p), some (.int m), none, none] ∧ H1 p = some (.dK (bx g n1 sd t)) ∧ H1 g = some (.lst (List.map V.int gs1)) ∧ gs1.length ≤ 1000 ∧ Off [p, g] H H1, ?_, ?_⟩
  · refine ⟨_, rfl, p, _, rfl, get_now hp, rfl, _, rfl, ite2 (fun c => ?_) (fun c => iteF ⟨n, gs, rfl, hp, hg, hl, Off.refl _ _⟩)⟩
    refine ⟨_, rfl, p, _, rfl, get_great hp, g, _, rfl, .inl (SqL.of hg), _, _, rfl, rfl, _, rfl, ite2 (fun c2 => ?_) (fun c2 => ⟨n, gs, rfl, hp, hg, hl, Off.refl _ _⟩)⟩
    have c3 : (0 : Int) < (((List.map V.int gs).length : Nat) : Int) := of_decide_eq_true c2
    rw [List.length_map] at c3
    have hlast : (List.map V.int gs)[(List.map V.int gs).length - 1]? = some (V.int (gs[gs.length - 1]'(by omega))) := by
      rw [List.length_map, List.getElem?_map, List.getElem?_eq_getElem (by omega)]
      rfl
    have hp1 : (upd H g (.lst (List.map V.int gs).dropLast)) p = some (.dK (bx g n sd t)) := by rw [upd_ne npg]; exact hp
    refine ⟨_, rfl, p, _, rfl, get_great hp, .inl ⟨rfl, _, .inl (.inl hg)⟩, g, _, _, rfl, rfl, hg, hlast, _, rfl, p, _, rfl, set_now _ hp1, ?_⟩
    refine ⟨_, gs.dropLast, rfl, upd_same, ?_, ?_, ?_⟩
    · rw [upd_ne npg.symm, upd_same, List.map_dropLast]
    · rw [List.length_dropLast]
      omega
    · exact (Off.put (by simp)).trans (Off.put (by simp))
  · rintro σ H1 ⟨n1, gs1, rfl, hp1, hg1, hl1, of1⟩
    refine ⟨_, rfl, p, _, rfl, get_now hp1, _, _, rfl, rfl, _, rfl, ite2 (fun c => ?_) (fun c => ?_)⟩
    · refine ⟨_, rfl, p, _, rfl, get_now hp1, _, rfl, _, _, rfl, rfl, m0, ?_⟩
      refine ⟨_, rfl, p, _, rfl, get_now hp1, _, rfl, _, _, rfl, rfl, wide_div m0 m9 (by decide) (by decide), _, rfl, p, _, rfl, set_now _ hp1, ?_⟩
      refine ⟨_, rfl, q _ _ (Int.emod_nonneg _ (by omega)) (Int.emod_lt_of_pos _ m0) ⟨_, sd, t, gs1, upd_same, by rw [upd_ne npg.symm]; exact hg1, hl1⟩ (of1.trans (Off.put (by simp)))⟩
    · refine ⟨_, rfl, p, _, rfl, get_turn hp1, _, _, rfl, rfl, _, rfl, p, _, rfl, set_turn _ hp1, ?_⟩
      refine ⟨_, rfl, p, _, rfl, get_seed upd_same, _, rfl, p, _, rfl, get_turn upd_same, _, _, rfl, rfl, .inl ⟨by decide, by decide⟩, _, _, rfl, rfl, _, _, rfl, rfl, c47, _, _, rfl, rfl, .inr ⟨by decide, by decide⟩, _, _, rfl, rfl, c47, ?_⟩
      refine ⟨_, rfl, _, rfl, p, _, rfl, get_seed upd_same, _, _, rfl, rfl, .inl ⟨by decide, by decide⟩, _, _, rfl, rfl, _, _, rfl, rfl, c29, _, _, rfl, rfl, _, rfl, p, _, rfl, set_seed _ upd_same, ?_⟩
      refine ⟨_, rfl, _, _, rfl, rfl, .inr ⟨by decide, by decide⟩, _, rfl, p, _, rfl, get_seed upd_same, _, _, rfl, rfl, _, _, rfl, rfl, ⟨by decide, by decide⟩, _, rfl, _, _, rfl, rfl, m0, ?_⟩
      refine q _ _ (Int.emod_nonneg _ (by omega)) (Int.emod_lt_of_pos _ m0) ⟨n1, _, _, gs1, upd_same, ?_, hl1⟩ (of1.trans ((Off.put (by simp)).trans (Off.put (by simp))))
      rw [upd_ne npg.symm, upd_ne npg.symm]
      exact hg1
end
theorem cutV_ints (ns : List Int) (lo hi : Option Int) : ∃ ms : List Int, cutV (ns.map V.int) lo hi = ms.map V.int ∧ ms.length ≤ ns.length := by
  refine ⟨(ns.drop (HT.sIx ns.length 0 lo)).take (HT.sIx ns.length ns.length hi - HT.sIx ns.length 0 lo), ?_, ?_⟩
  · unfold cutV
    rw [List.length_map, List.map_take, List.map_drop]
  · rw [List.length_take, List.length_drop]
    omega
theorem int_at {ms : List Int} {i : Nat} {y : V} (h : (ms.map V.int)[i]? = some y) : ∃ z, y = V.int z := by
  rw [List.getElem?_map] at h
  cases e : ms[i]? with
  | none =>
    rw [e] at h
    cases h
  | some z =>
    rw [e] at h
    exact ⟨z, (Option.some.inj h).symm⟩
theorem scBox : FnScope ["_law_script", "_law_base", "_law_seed", "_law_cell", "_law_great"] ["_law_script", "_law_base"] (defScope sBox) :=
  ⟨rfl, rfl, rfl, by decide +kernel, rfl, by decide +kernel, by decide +kernel⟩
section
variable {P : Program} {w : World} {K : PySem.W.Frag} {mg : Str → Option Value} {base : Heap} {f : Addr} {fd : FuncData}
theorem ok_box {k : Nat} (F : Fun K "_law_box" "_law_box" sBox f fd) (mab : mg "abs" = none) : FnOk P w K mg base CX0 (k + 1) f fd ["_law_script", "_law_base"] (spBox K) := by
  refine F.ok scBox (fun vs H Q E h => ?_) (fun cdv A outer s H vs Q E hr h => ?_)
  · obtain ⟨a, ns, c, rfl, _⟩ := h
    rfl
  obtain ⟨a, ns, c, rfl, hS, hlen, c0, c9, q⟩ := h
  have hu := hu_of hr
  refine ⟨_, pss_cons (ps_set (i := 2) scBox.nd rfl (.inl rfl) (pe_op op_add pe_int (pe_op op_mul pe_int (pv 1))))
    (pss_cons (ps_for PassesOwn.never rfl (pi_list (pe_slice sl_list (pv 0) po_none (po_some pe_int))) (pg_name (i := 3) scBox.nd rfl (.inl rfl))
      (pss_one (ps_set (i := 2) scBox.nd rfl (.inl rfl) (pe_op op_mod (pe_op op_add (pe_op op_add (pe_op op_mul (pv 2) pe_int)
        (pe_op op_mod (pe_callB call_abs (by rfl) mab (by decide +kernel) (pa_cons (pv 3) pa_nil)) pe_int)) pe_int) pe_int))))
    (pss_cons (ps_setLc (i := 4) (own := [("_law_cell", 3)]) (g := gName 3) (by rfl) scBox.nd rfl rfl (sw_true rfl rfl rfl (by decide +kernel))
      (pi_list (pe_slice sl_list (pv 0) (po_some (pv 1)) (po_some pe_int)))
      (blkOk_by (own := [("_law_cell", 3)]) (N := ["_law_script", "_law_base", "_law_seed", "_law_cell", "_law_great"]) (sc := defScope sBox) (by decide +kernel))
      (fun _ _ _ _ _ => pg_name (i := 3) scBox.nd rfl (Or.inl rfl))
      (fun _ _ _ _ _ => pts_one (pt_cmpR op_ge (pe_callB call_abs (by rfl) mab (by decide +kernel) (pa_cons (pv 3) pa_nil)) (pe_op op_pow pe_int pe_int) (nomark _)))
      (fun _ _ _ _ _ => pe_callB call_abs (by rfl) mab (by decide +kernel) (pa_cons (pv 3) pa_nil)))
    (pss_one (ps_ret (pe_disp (pps_cons pe_str (pe_revL (pv 4)) (pps_cons pe_str pe_int (pps_cons pe_str (pe_op op_add (pv 2) pe_int) (pps_cons pe_str pe_int pps_nil))))
      (by rfl) (by rfl) (fun z => by cases z) (by decide)))))), ?_⟩
  refine ⟨_, rfl, _, _, rfl, rfl, .inl ⟨by decide, by decide⟩, _, _, rfl, rfl, ?_⟩
  refine ⟨_, rfl, 50, rfl, a, _, rfl, hS, fun q0 hq0 => ?_⟩
  obtain ⟨ms, em, lm⟩ := cutV_ints ns none (some 50)
  rw [em]
  have s1 : Same H (upd H q0 (.lst (ms.map V.int))) := same_new hq0 _
  refine ⟨q0, rfl, ⟨_, SqL.of upd_same⟩, for_list (K := K) (a := q0) (xs := ms.map V.int) (fun i σ H2 => ∃ (z : Int) (v : Option V), σ = [some (.ref a), some (.int c), some (.int z), v, none] ∧ -(2 ^ 40) < z ∧ z < 2 ^ 40 ∧ H2 = upd H q0 (.lst (ms.map V.int)))
    ⟨7001 + 211 * c, none, rfl, by omega, by omega, rfl⟩ (fun i σ H2 _ ⟨_, _, _, _, _, e⟩ => by rw [e]; exact SqL.of upd_same) ?_ ?_⟩
  · rintro i y σ H2 hi ⟨z, v, rfl, z0, z1, rfl⟩
    obtain ⟨x, rfl⟩ := int_at hi
    refine ⟨_, rfl, _, _, rfl, rfl, .inr ⟨by decide, by decide⟩, _, rfl, _, rfl, _, _, rfl, rfl, c29, _, _, rfl, rfl, _, _, rfl, rfl, _, _, rfl, rfl, c47, ?_⟩
    exact ⟨_, _, rfl, Int.lt_of_lt_of_le (by decide) (Int.emod_nonneg _ (by decide)), Int.lt_trans (Int.emod_lt_of_pos _ c47) (by decide), rfl⟩
  · rintro σ H2 ⟨z, v, rfl, z0, z1, rfl⟩
    refine ⟨_, rfl, _, rfl, c, rfl, 50, rfl, a, _, rfl, s1.seq hS, fun q1 hq1 => ?_⟩
    obtain ⟨ks, ek, lk⟩ := cutV_ints ns (some c) (some 50)
    rw [ek]
    have s2 := s1.trans (same_new hq1 (.lst (ks.map V.int)))
    refine ⟨q1, rfl, ⟨_, SqL.of upd_same⟩, fun D hD => lc_list (K := K) (a := q1) (xs := ks.map V.int) (fun i H3 => ∃ gs : List Int, gs.length ≤ i ∧ H3 D = some (.lst (gs.map V.int)) ∧ H3 q1 = some (.lst (ks.map V.int)) ∧ Same H H3)
      ⟨[], Nat.le_refl _, upd_same, by rw [upd_ne (ne_of_none upd_same hD), upd_same], s2.trans (same_new hD _)⟩ (fun i H3 _ ⟨_, _, _, h, _⟩ => SqL.of h) ?_ ?_⟩
    · rintro i y H3 hi ⟨gs, lg, h1, h2, h3⟩
      have hik := (List.getElem?_eq_some_iff.mp hi).1
      rw [List.length_map] at hik
      obtain ⟨x, rfl⟩ := int_at hi
      refine ⟨rfl, _, rfl, _, rfl, _, _, rfl, rfl, ⟨by decide, by decide, by decide⟩, _, _, rfl, rfl, _, rfl, ite2 (fun _ => ?_) (fun _ => ?_)⟩
      · refine ⟨_, rfl, _, rfl, _, h1, ?_, gs ++ [if x < 0 then -x else x], ?_, ?_, ?_, ?_⟩
        · rw [List.length_map]
          exact small1000 (by omega)
        · rw [List.length_append, List.length_singleton]
          omega
        · rw [upd_same, List.map_append]
          rfl
        · rw [upd_ne (ne_of_none upd_same hD)]
          exact h2
        · intro b o e
          rw [upd_ne (ne_of_none e (s2.free hD))]
          exact h3 b o e
      · exact ⟨gs, by omega, h1, h2, h3⟩
    · rintro H3 ⟨gs, lg, h1, h2, h3⟩
      rw [List.length_map] at lg
      refine fun p hp => ⟨_, rfl, D, _, rfl, SqL.of (by rw [upd_ne (ne_of_none h1 hp)]; exact h1), fun g hg => ?_⟩
      have ngp : g ≠ p := fun e => by
        rw [e, upd_same] at hg
        cases hg
      have hp2 : (upd (upd H3 p (.dK [])) g (.lst (gs.map V.int).reverse)) p = some (.dK []) := by rw [upd_ne ngp.symm, upd_same]
      refine ⟨_, rfl, _, _, rfl, rfl, hp2, bx g 0 (z + 1) 0, rfl, by show 4 ≤ 15; decide, ?_⟩
      rw [mer_box]
      have hg3 : H3 g = none := by
        rw [upd_ne ngp] at hg
        exact hg
      refine q p g _ ⟨0, z + 1, 0, gs.reverse, upd_same, ?_, ?_⟩ ?_ (h3.free hp) (h3.free hg3)
      · rw [upd_ne ngp, upd_same, List.map_reverse]
      · rw [List.length_reverse]
        omega
      · intro b o e
        have e3 := h3 b o e
        rw [upd_ne (ne_of_none e3 hp), upd_ne (ne_of_none e3 hg3), upd_ne (ne_of_none e3 hp)]
        exact e3
end
abbrev sName : Stmt := topS 1
abbrev sInteger : Stmt := topS 2
abbrev sIsVal : Stmt := topS 3
abbrev sKind : Stmt := topS 4
abbrev sDepth : Stmt := topS 5
theorem scName : FnScope ["thing", "letter"] ["thing"] (defScope sName) := ⟨rfl, rfl, rfl, by decide +kernel, rfl, by decide +kernel, by decide +kernel⟩
theorem scInteger : FnScope ["thing"] ["thing"] (defScope sInteger) := ⟨rfl, rfl, rfl, by decide +kernel, rfl, by decide +kernel, by decide +kernel⟩
theorem scKind : FnScope ["value"] ["value"] (defScope sKind) := ⟨rfl, rfl, rfl, by decide +kernel, rfl, by decide +kernel, by decide +kernel⟩
def kindS : PyData → Str
  | .tuple _ => "tuple"
  | .str _ => "atom"
  | _ => "integer"
section
variable {P : Program} {w : World} {K : PySem.W.Frag} {mg : Str → Option Value} {base : Heap} {f : Addr} {fd : FuncData}
theorem ok_name {k : Nat} (F : Fun K "is_name" "is_name" sName f fd) (B : Bi mg) : FnOk P w K mg base CX0 (k + 1) f fd ["thing"] (spLook K (fun d => gd d = true) fun d => .bl (nmD d)) := by
  refine F.ok scName (fun vs H Q E h => ?_) (fun cdv A outer s H vs Q E hr h => ?_)
  · obtain ⟨v, d, rfl, _⟩ := h
    rfl
  obtain ⟨v, d, rfl, hd, hg, q⟩ := h
  have q : ∀ H', Same H H' → Q (.bl (nmD d)) H' := q
  refine ⟨_, pss_cons (ps_if (PW.pt (pw_or (pt_not (pt_val (pe_callB call_isD (by rfl) B.ii (by decide +kernel) (pa_cons (pv 0) (pa_cons (pe_bltn (by rfl) B.str (by decide +kernel) (v := .ty "str") rfl) pa_nil)))))
      (pw_or1 (pt_not (pt_chain op_le op_le pe_int (pe_callB call_len_str (by rfl) B.len PySem.boot_len (pa_cons (pv 0) pa_nil)) pe_int))))) (pss_one (ps_ret pe_bl)) pss_nil)
    (pss_one (ps_ret (pe_callB (cr_all rfl) (by rfl) B.all (by decide +kernel) (pa_cons (pe_lc (own := [("letter", 1)]) (g := gName 1) (by rfl) scName.nd (pi_str (pv 0))
      (blkOk_by (own := [("letter", 1)]) (N := ["thing", "letter"]) (sc := defScope sName) (by decide +kernel))
      (fun _ _ _ _ _ => pg_name (i := 1) scName.nd rfl (Or.inl rfl)) (fun _ _ _ _ _ => pts_nil) (fun _ _ _ _ _ => pe_chain op_le_str op_le_str pe_str (pv 1) pe_str)) pa_nil)))), ?_⟩
  refine ⟨_, rfl, v, d, "str", _, rfl, hd, kit_str d, _, rfl, ?_⟩
  have same0 : Same H H := Same.refl H
  cases hs : isStr d with
  | false =>
    refine iteT ?_
    refine iteT ?_
    have e : nmD d = false := by cases d <;> first | rfl | cases hs
    rw [e] at q
    exact q H same0
  | true =>
    obtain ⟨x, rfl⟩ : ∃ x, d = .str x := by cases d <;> first | exact ⟨_, rfl⟩ | cases hs
    cases hd
    have hx := gd_str hg
    have hx2 : x.length ≤ sizeLine := Nat.le_trans hx (by decide)
    refine iteF ?_
    refine ⟨_, rfl, x, rfl, hx2, _, _, rfl, rfl, _, rfl, ite2 (fun c1 => ?_) (fun c1 => ?_)⟩
    · have c1 : 1 ≤ (x.length : Int) := of_decide_eq_true c1
      refine ⟨_, _, rfl, rfl, _, rfl, ?_⟩
      by_cases c2 : (x.length : Int) ≤ 8
      · rw [decide_eq_true c2]
        refine iteF ?_
        refine ⟨_, rfl, x, rfl, fun D hD => ?_⟩
        refine lc_it walk_str (fun i H2 => H2 D = some (.lst ((x.cps.toList.take i).map fun c => V.bl (lowOk c))) ∧ Same H H2) ⟨upd_same, same_new hD _⟩ (fun _ _ _ _ => True.intro) ?_ ?_
        · rintro i y H2 H3 hi ⟨h1, h2⟩ ⟨rfl, c, hc, rfl⟩
          refine ⟨rfl, ?_⟩
          refine ⟨_, rfl, _, _, rfl, rfl, _, rfl, ?_⟩
          have key : lowOk c = ((!decide ((⟨#[c]⟩ : Str).cps.toList < ("a" : Str).cps.toList)) && (!decide (("z" : Str).cps.toList < (⟨#[c]⟩ : Str).cps.toList))) := by
            rw [ge_a, le_z]
            rfl
          have fin : ∀ b : Bool, b = lowOk c → ∃ acc, H3 D = some (.lst acc) ∧ acc.length < sizeLine ∧ (upd H3 D (.lst (acc ++ [V.bl b]))) D = some (.lst ((x.cps.toList.take (i + 1)).map fun c => V.bl (lowOk c))) ∧ Same H (upd H3 D (.lst (acc ++ [V.bl b]))) := by
            intro b hb
            refine ⟨_, h1, ?_, ?_, ?_⟩
            · rw [List.length_map, List.length_take]
              have : x.cps.toList.length = x.length := by simp [len_cps]
              exact Nat.lt_of_le_of_lt (Nat.le_trans (Nat.min_le_right _ _) (by omega)) (small1000 (n := 100) (by decide))
            · rw [upd_same, take_snoc _ (cps_at hc), hb]
            · intro b2 o e
              rw [upd_ne (ne_of_none e hD)]
              exact h2 b2 o e
          by_cases ca : (!decide ((⟨#[c]⟩ : Str).cps.toList < ("a" : Str).cps.toList)) = true
          · rw [ca] at key ⊢
            refine iteT ?_
            refine ⟨_, _, rfl, rfl, fin _ ?_⟩
            rw [key, Bool.true_and]
          · have ca := Bool.eq_false_iff.mpr ca
            rw [ca] at key ⊢
            refine iteF (fin _ ?_)
            rw [key, Bool.false_and]
        · rintro H2 ⟨h1, h2⟩
          refine ⟨D, x.cps.toList.map lowOk, rfl, SqL.of ?_, ?_⟩
          · rw [h1, List.map_map]
            have : x.cps.toList.take x.cps.size = x.cps.toList := List.take_of_length_le (by simp)
            rw [this]
            rfl
          · rw [all_map]
            have e : nmD (.str x) = x.cps.toList.all lowOk := by
              have a1 : 1 ≤ x.length := by omega
              have a2 : x.length ≤ 8 := by omega
              show (decide (1 ≤ x.length) && decide (x.length ≤ 8) && x.cps.toList.all lowOk) = _
              rw [decide_eq_true a1, decide_eq_true a2]
              rfl
            rw [e] at q
            exact q H2 h2
      · rw [decide_eq_false c2]
        refine iteT ?_
        have e : nmD (.str x) = false := by
          have a2 : ¬ x.length ≤ 8 := by omega
          show (decide (1 ≤ x.length) && decide (x.length ≤ 8) && x.cps.toList.all lowOk) = _
          rw [decide_eq_false a2, Bool.and_false, Bool.false_and]
        rw [e] at q
        exact q H same0
    · have c1 : ¬ 1 ≤ (x.length : Int) := of_decide_eq_false (Bool.eq_false_iff.mpr c1)
      refine ⟨_, rfl, ?_⟩
      refine iteT ?_
      have e : nmD (.str x) = false := by
        have a2 : ¬ 1 ≤ x.length := by omega
        show (decide (1 ≤ x.length) && decide (x.length ≤ 8) && x.cps.toList.all lowOk) = _
        rw [decide_eq_false a2, Bool.false_and, Bool.false_and]
      rw [e] at q
      exact q H same0
theorem ok_integer {k : Nat} (F : Fun K "is_integer" "is_integer" sInteger f fd) (B : Bi mg) : FnOk P w K mg base CX0 (k + 1) f fd ["thing"] (spLook K (fun _ => True) fun d => .bl (inD d)) := by
  refine F.ok scInteger (fun vs H Q E h => ?_) (fun cdv A outer s H vs Q E hr h => ?_)
  · obtain ⟨v, d, rfl, _⟩ := h
    rfl
  obtain ⟨v, d, rfl, hd, _, q⟩ := h
  refine ⟨_, pss_one (ps_ret (pe_and (pe_callB call_isD (by rfl) B.ii (by decide +kernel) (pa_cons (pv 0) (pa_cons (pe_bltn (by rfl) B.int (by decide +kernel) (v := .ty "int") rfl) pa_nil)))
    (pe_one (pe_not (pe_callB call_isD (by rfl) B.ii (by decide +kernel) (pa_cons (pv 0) (pa_cons (pe_bltn (by rfl) B.bool (by decide +kernel) (v := .ty "bool") rfl) pa_nil))))))), ?_⟩
  refine ⟨_, rfl, v, d, "int", _, rfl, hd, kit_int d, _, rfl, ?_⟩
  have q : Q (.bl (inD d)) H := q H (Same.refl H)
  cases hs : isIntB d with
  | false =>
    refine iteF ?_
    have e : inD d = false := by cases d <;> first | rfl | cases hs
    rw [e] at q
    exact q
  | true =>
    refine iteT ?_
    refine ⟨_, rfl, v, d, "bool", _, rfl, hd, kit_bool d, _, rfl, ?_⟩
    have e : inD d = !isBool d := by cases d <;> first | rfl | cases hs
    rw [e] at q
    exact q
theorem ok_kind {k : Nat} (F : Fun K "kind_of" "kind_of" sKind f fd) (B : Bi mg) : FnOk P w K mg base CX0 (k + 1) f fd ["value"] (spLook K (fun _ => True) fun d => .str (kindS d)) := by
  refine F.ok scKind (fun vs H Q E h => ?_) (fun cdv A outer s H vs Q E hr h => ?_)
  · obtain ⟨v, d, rfl, _⟩ := h
    rfl
  obtain ⟨v, d, rfl, hd, _, q⟩ := h
  refine ⟨_, pss_cons (ps_if (pt_val (pe_callB call_isD (by rfl) B.ii (by decide +kernel) (pa_cons (pv 0) (pa_cons (pe_bltn (by rfl) B.tup (by decide +kernel) (v := .ty "tuple") rfl) pa_nil)))) (pss_one (ps_ret pe_str)) pss_nil)
    (pss_cons (ps_if (pt_val (pe_callB call_isD (by rfl) B.ii (by decide +kernel) (pa_cons (pv 0) (pa_cons (pe_bltn (by rfl) B.str (by decide +kernel) (v := .ty "str") rfl) pa_nil)))) (pss_one (ps_ret pe_str)) pss_nil)
    (pss_one (ps_ret pe_str))), ?_⟩
  refine ⟨_, rfl, v, d, "tuple", _, rfl, hd, kit_tup d, _, rfl, ?_⟩
  have q : Q (.str (kindS d)) H := q H (Same.refl H)
  cases hs : isTup d with
  | true =>
    refine iteT ?_
    have e : kindS d = "tuple" := by cases d <;> first | rfl | cases hs
    rw [e] at q
    exact q
  | false =>
    refine iteF ?_
    refine ⟨_, rfl, v, d, "str", _, rfl, hd, kit_str d, _, rfl, ?_⟩
    cases hs2 : isStr d with
    | true =>
      refine iteT ?_
      have e : kindS d = "atom" := by cases d <;> first | rfl | cases hs2
      rw [e] at q
      exact q
    | false =>
      refine iteF ?_
      have e : kindS d = "integer" := by cases d <;> first | rfl | exact absurd (show true = false from hs) (by decide) | exact absurd (show true = false from hs2) (by decide)
      rw [e] at q
      exact q
end
theorem scIsVal : FnScope ["thing", "todo", "one"] ["thing"] (defScope sIsVal) := ⟨rfl, rfl, rfl, by decide +kernel, rfl, by decide +kernel, by decide +kernel⟩
section
variable {P : Program} {w : World} {K : PySem.W.Frag} {mg : Str → Option Value} {base : Heap} {f fN fI : Addr} {fd dN dI : FuncData}
theorem ok_isVal {k : Nat} (F : Fun K "is_value" "is_value" sIsVal f fd) (B : Bi mg) (FN : Fun K "is_name" "is_name" sName fN dN) (bN : Binds K dN ["thing"] []) (mN : mg "is_name" = some (.ref fN))
    (FI : Fun K "is_integer" "is_integer" sInteger fI dI) (bI : Binds K dI ["thing"] []) (mI : mg "is_integer" = some (.ref fI)) :
    FnOk P w K mg base CX0 (k + 2) f fd ["thing"] (spLook K (fun d => gd d = true ∧ nod d ≤ 100000) fun d => .bl (isVal d)) := by
  refine F.ok scIsVal (fun vs H Q E h => ?_) (fun cdv A outer s H vs Q E hr h => ?_)
  · obtain ⟨v, d, rfl, _⟩ := h
    rfl
  obtain ⟨v, d, rfl, hd, ⟨hg, hn⟩, q⟩ := h
  have q : ∀ H', Same H H' → Q (.bl (isVal d)) H' := q
  have GN := ok_name (P := P) (w := w) (base := base) (k := k) FN B
  have GI := ok_integer (P := P) (w := w) (base := base) (k := k) FI B
  refine ⟨_, pss_cons (ps_set (i := 1) scIsVal.nd rfl (.inl rfl) (pe_lst (pa_cons (pv 0) pa_nil)))
    (pss_cons (ps_while PassesOwn.never (pt_truth (pv 1) (by intro _; rfl))
      (pss_cons (ps_set (i := 2) scIsVal.nd rfl (.inl rfl) (pe_bm0 PySem.F.plainAttrs_list PySem.F.slot_list_pop PySem.F.type_list_pop mt_pop (pv 1)))
      (pss_one (ps_if (pt_val (pe_callB call_isD (by rfl) B.ii (by decide +kernel) (pa_cons (pv 2) (pa_cons (pe_bltn (by rfl) B.tup (by decide +kernel) (v := .ty "tuple") rfl) pa_nil))))
        (pss_one (ps_expr (pe_bm PySem.F.plainAttrs_list PySem.F.slot_list_extend PySem.F.type_list_extend mt_extT (pv 1) (pa_cons (pv 2) pa_nil))))
        (pss_one (ps_if (PW.pt (pw_and (pt_not (pt_val (pe_call GI hr (by rfl) mI FI.kp bI .nil pass0 (pa_cons (pv 2) pa_nil)))) (pw_and1 (pt_not (pt_val (pe_call GN hr (by rfl) mN FN.kp bN .nil pass0 (pa_cons (pv 2) pa_nil)))))))
          (pss_one (ps_ret pe_bl)) pss_nil))))))
    (pss_one (ps_ret pe_bl))), ?_⟩
  refine ⟨_, rfl, by show 1 ≤ sizeLine; decide, fun L hL => ?_⟩
  refine ⟨fun m σ H2 => ∃ xs ds o, σ = [some v, some (.ref L), o] ∧ H2 L = some (.lst xs) ∧ DpAll K H xs ds ∧ gds ds = true ∧ nods ds ≤ 100000 ∧ m = nods ds ∧ isVals ds = isVal d ∧ Same H H2,
    ⟨nods [d], [v], [d], none, rfl, upd_same, .cons hd .nil, by simp only [gds, hg, Bool.and_self], by simpa only [nods, Nat.add_zero] using hn, rfl, by simp only [isVals, Bool.and_true], same_new hL _⟩, ?_⟩
  rintro m σ H2 ⟨xs, ds, o, rfl, hx, da, dg, dn, rfl, dv, sm⟩
  have lx := DpAll.len da
  have ln := nods_len ds
  refine ⟨_, rfl, _, .inl ⟨xs, SqL.of hx, rfl⟩, ?_⟩
  by_cases ex : xs = []
  · subst ex
    refine iteF ?_
    cases da
    have e : isVal d = true := by rw [← dv]; simp only [isVals]
    rw [e] at q
    exact q H2 sm
  · have e1 : (!xs.isEmpty) = true := by simp [ex]
    rw [e1]
    refine iteT ?_
    obtain ⟨xs', y, ds', e, rfl, rfl, da', de⟩ := DpAll.last da ex
    rw [gds_app] at dg
    rw [nods_app] at dn ⊢
    rw [isVals_app] at dv
    simp only [gds, nods, isVals, Bool.and_true, Nat.add_zero, Bool.and_eq_true] at dg dn dv ⊢
    have sm2 : Same H (upd H2 L (.lst xs')) := fun b u z => by
      rw [upd_ne (ne_of_none z hL)]
      exact sm b u z
    refine ⟨fun σ' H3 => ∃ m', m' < nods ds' + nod e ∧ ∃ xs ds o, σ' = [some v, some (.ref L), o] ∧ H3 L = some (.lst xs) ∧ DpAll K H xs ds ∧ gds ds = true ∧ nods ds ≤ 100000 ∧ m' = nods ds ∧ isVals ds = isVal d ∧ Same H H3, fun _ _ z => z, ?_⟩
    refine ⟨_, rfl, .inl ⟨rfl, _, SqL.of hx⟩, L, _, y, rfl, rfl, hx, last_at _ _, ?_⟩
    rw [drop_last]
    refine ⟨_, rfl, y, e, "tuple", _, rfl, Dp.up sm2 _ _ de, kit_tup e, _, rfl, ?_⟩
    cases ht : isTup e with
    | true =>
      refine iteT ?_
      obtain ⟨a, zs, es, rfl, rfl, hz, dz⟩ := tup_of de ht
      have lz := DpAll.len dz
      have lz2 := nods_len es
      have lz3 := nods_len ds'
      have lx' := DpAll.len da'
      simp only [nod, gd] at dn dg ⊢
      have hlim : xs'.length + zs.length ≤ sizeLine := Nat.le_trans (by omega) (by decide : 100000 ≤ sizeLine)
      refine ⟨_, rfl, .inl ⟨rfl, _, SqL.of upd_same⟩, _, rfl, L, a, xs', zs, rfl, rfl, upd_same, seqT_up sm2 hz, hlim, ?_⟩
      refine ⟨nods (ds' ++ es), by rw [nods_app]; omega, xs' ++ zs, ds' ++ es, _, rfl, by rw [upd_same], DpAll.app da' dz, by rw [gds_app, dg.1, dg.2]; rfl, by rw [nods_app]; omega, rfl, ?_, ?_⟩
      · rw [isVals_app, ← dv]
        simp only [isVal]
      · intro b u z
        rw [upd_ne (ne_of_none z hL)]
        exact sm2 b u z
    | false =>
      refine iteF ?_
      refine ⟨_, rfl, y, e, rfl, Dp.up sm2 _ _ de, True.intro, fun H4 sm4 => ?_⟩
      refine ⟨_, rfl, ?_⟩
      have hv := isVal_no ht
      have sm5 := sm2.trans sm4
      have h4 := sm4 _ _ (upd_same (H := H2) (a := L) (o := .lst xs'))
      have ps := nod_pos e
      cases hi : inD e with
      | true =>
        refine iteF ?_
        refine iteF ?_
        exact ⟨nods ds', by omega, xs', ds', _, rfl, h4, da', dg.1, by omega, rfl, by rw [← dv, hv, hi]; simp, sm5⟩
      | false =>
        refine iteT ?_
        refine ⟨_, rfl, y, e, rfl, Dp.up sm5 _ _ de, dg.2, fun H5 sm6 => ?_⟩
        have sm7 := sm5.trans sm6
        refine ⟨_, rfl, ?_⟩
        cases hm : nmD e with
        | true =>
          refine iteF ?_
          exact ⟨nods ds', by omega, xs', ds', _, rfl, sm6 _ _ h4, da', dg.1, by omega, rfl, by rw [← dv, hv, hm]; simp, sm7⟩
        | false =>
          refine iteT ?_
          have e2 : isVal d = false := by
            rw [← dv, hv, hi, hm]
            simp
          rw [e2] at q
          exact q H5 sm7
end
theorem scDepth : FnScope ["value", "depth", "layer", "one", "part"] ["value"] (defScope sDepth) := ⟨rfl, rfl, rfl, by decide +kernel, rfl, by decide +kernel, by decide +kernel⟩
section
variable {P : Program} {w : World} {K : PySem.W.Frag} {mg : Str → Option Value} {base : Heap} {f : Addr} {fd : FuncData}
theorem ok_depth {k : Nat} (F : Fun K "depth_of" "depth_of" sDepth f fd) (B : Bi mg) :
    FnOk P w K mg base CX0 (k + 1) f fd ["value"] (spLook K (fun d => nod d ≤ 100000) fun d => .int (dep d)) := by
  refine F.ok scDepth (fun vs H Q E h => ?_) (fun cdv A outer s H vs Q E hr h => ?_)
  · obtain ⟨v, d, rfl, _⟩ := h
    rfl
  obtain ⟨v, d, rfl, hd, hn, q⟩ := h
  have q : ∀ H', Same H H' → Q (.int (dep d)) H' := q
  have lim : 100000 < sizeLine := by decide
  refine ⟨_, pss_cons (ps_set (i := 1) scDepth.nd rfl (.inl rfl) pe_int)
    (pss_cons (ps_set (i := 2) scDepth.nd rfl (.inl rfl) (pe_lst (pa_cons (pv 0) pa_nil)))
    (pss_one (ps_while PassesOwn.never (pt_val pe_bl)
      (pss_cons (ps_setLc (i := 2) (own := [("one", 3)]) (g := gName 3) (by rfl) scDepth.nd rfl rfl (sw_true rfl rfl rfl (by decide +kernel)) (pi_list (pv 2))
        (blkOk_by (own := [("one", 3)]) (N := ["value", "depth", "layer", "one", "part"]) (sc := defScope sDepth) (by decide +kernel))
        (fun _ _ _ _ _ => pg_name (i := 3) scDepth.nd rfl (Or.inl rfl))
        (fun _ _ _ _ _ => pts_one (pt_val (pe_callB (call_isK (K := K) rfl) (by rfl) B.ii b_ii (pa_cons (pv 3) (pa_cons (pe_bltn (by rfl) B.tup b_tup (v := .ty "tuple") rfl) pa_nil)))))
        (fun _ _ _ _ _ => pv 3))
      (pss_cons (ps_if (pt_not (pt_truth (pv 2) (by intro _; rfl))) (pss_one (ps_ret (pv 1))) pss_nil)
      (pss_cons (ps_set (i := 1) scDepth.nd rfl (.inl rfl) (pe_op op_add (pv 1) pe_int))
      (pss_one (ps_setLc2 (i := 2) (own := [("one", 3), ("part", 4)]) (vs1 := [4]) (g := gName 3) (g1 := gName 4) (by rfl) scDepth.nd rfl rfl (by rfl) (pi_list (pv 2))
        (blkOk_by (own := [("one", 3), ("part", 4)]) (N := ["value", "depth", "layer", "one", "part"]) (sc := defScope sDepth) (by decide +kernel)) (by decide)
        (fun _ _ _ _ _ => pg_name (i := 3) scDepth.nd rfl (Or.inl rfl)) (fun _ _ _ _ _ => pts_nil) (fun _ _ _ _ _ => pi_tupK (K := K) rfl (pv 3))
        (fun _ _ _ _ _ => pg_name (i := 4) scDepth.nd rfl (Or.inl rfl)) (fun _ _ _ _ _ => pts_nil) (fun _ _ _ _ _ => pv 4))))))))), ?_⟩
  refine ⟨_, rfl, by show 1 ≤ sizeLine; decide, fun L hL => ?_⟩
  refine ⟨fun m σ H2 => ∃ (z : Nat) (L2 : Addr) (xs : List V) (ds : List PyData) (o3 o4 : Option V), σ = [some v, some (.int z), some (.ref L2), o3, o4] ∧ H2 L2 = some (.lst xs) ∧ DpAll K H xs ds ∧ nods ds ≤ 100000 ∧ m = deps ds ∧ z + deps ds = dep d ∧ Same H H2,
    ⟨deps [d], 0, L, [v], [d], none, none, rfl, upd_same, .cons hd .nil, by simpa only [nods, Nat.add_zero] using hn, rfl, by simp [deps], same_new hL _⟩, ?_⟩
  rintro m σ H2 ⟨z, L2, xs, ds, o3, o4, rfl, hx, da, dn, rfl, dz, sm⟩
  have lx := DpAll.len da
  have ln := nods_len ds
  refine ⟨_, rfl, iteT ?_⟩
  refine ⟨fun σ' H3 => ∃ m', m' < deps ds ∧ ∃ (z : Nat) (L2 : Addr) (xs : List V) (ds : List PyData) (o3 o4 : Option V), σ' = [some v, some (.int z), some (.ref L2), o3, o4] ∧ H3 L2 = some (.lst xs) ∧ DpAll K H xs ds ∧ nods ds ≤ 100000 ∧ m' = deps ds ∧ z + deps ds = dep d ∧ Same H H3, fun _ _ z => z, ?_⟩
  refine ⟨_, rfl, L2, rfl, ⟨_, SqL.of hx⟩, fun D hD => lc_list (K := K) (a := L2) (xs := xs) (fun i H3 => ∃ acc, acc.length ≤ i ∧ H3 D = some (.lst acc) ∧ DpAll K H acc ((ds.take i).filter isTup) ∧ H3 L2 = some (.lst xs) ∧ Same H H3)
    ⟨[], Nat.le_refl _, upd_same, .nil, by rw [upd_ne (ne_of_none hx hD)]; exact hx, sm.trans (same_new hD _)⟩ (fun i H3 _ ⟨_, _, _, _, h, _⟩ => SqL.of h) ?_ ?_⟩
  · rintro i y H3 hi ⟨acc, la, h1, h2, h3, h4⟩
    have hi2 := (List.getElem?_eq_some_iff.mp hi).1
    obtain ⟨e, he, de⟩ := DpAll.get da hi
    refine ⟨rfl, _, rfl, y, e, "tuple", _, rfl, Dp.up h4 _ _ de, kit_tup e, _, rfl, ?_⟩
    have tk := get_take he
    cases ht : isTup e with
    | true =>
      refine iteT ⟨_, rfl, acc, h1, by omega, acc ++ [y], ?_, upd_same, ?_, ?_, ?_⟩
      · rw [List.length_append, List.length_singleton]
        omega
      · rw [tk, List.filter_append]
        exact DpAll.app h2 (by simp only [List.filter_cons, ht, if_true, List.filter_nil]; exact .cons de .nil)
      · rw [upd_ne (ne_of_none hx hD)]
        exact h3
      · intro b u q2
        rw [upd_ne (ne_of_none q2 (sm.free hD))]
        exact h4 b u q2
    | false =>
      refine iteF ⟨acc, by omega, h1, ?_, h3, h4⟩
      rw [tk, List.filter_append]
      simp only [List.filter_cons, ht, Bool.false_eq_true, if_false, List.filter_nil, List.append_nil]
      exact h2
  · rintro H3 ⟨acc, la, h1, h2, h3, h4⟩
    rw [List.take_of_length_le (by omega)] at h2
    have e1 := deps_filter ds
    have e2 := nods_filter isTup ds
    have la2 := DpAll.len h2
    refine ⟨_, rfl, _, .inl ⟨acc, SqL.of h1, rfl⟩, ?_⟩
    by_cases ea : acc = []
    · subst ea
      refine iteT ⟨_, rfl, ?_⟩
      have e3 : ds.filter isTup = [] := List.length_eq_zero_iff.mp la2.symm
      rw [e3] at e1
      have e4 : deps ds = 0 := by rw [← e1]; simp only [deps]
      have e5 : z = dep d := by omega
      rw [← e5] at q
      exact q H3 h4
    · have e3 : acc.isEmpty = false := by simp [ea]
      rw [e3]
      refine iteF ⟨_, rfl, _, _, rfl, rfl, ?_⟩
      have ek := deps_kids (ds.filter isTup) (fun x hx => (List.mem_filter.mp hx).2) (fun e => by rw [e] at la2; exact ea (List.length_eq_zero_iff.mp la2))
      have nk := nods_kids (ds.filter isTup)
      refine ⟨_, rfl, D, rfl, ⟨_, SqL.of h1⟩, fun D2 hD2 => along (walk_list (K := K) (a := D) (xs := acc)) (fun i H5 => ∃ acc2, H5 D2 = some (.lst acc2) ∧ DpAll K H acc2 (((ds.filter isTup).take i).flatMap kids) ∧ H5 D = some (.lst acc) ∧ Same H H5)
        ⟨[], upd_same, .nil, by rw [upd_ne (ne_of_none h1 hD2)]; exact h1, h4.trans (same_new hD2 _)⟩ (fun i H5 _ ⟨_, _, _, h, _⟩ => SqL.of h) ?_ ?_⟩
      · rintro i y H5 H5' hi ⟨acc2, g1, g2, g3, g4⟩ ⟨rfl, hy⟩
        obtain ⟨e, he, de⟩ := DpAll.get h2 hy
        obtain ⟨a, zs, es, rfl, rfl, hz, dz2⟩ := tup_of de (List.mem_filter.mp (List.mem_of_getElem? he)).2
        have tk := get_take he
        refine ⟨rfl, _, rfl, a, rfl, ⟨zs, seqT_up g4 hz⟩, along (walk_tup (K := K) (a := a) (xs := zs)) (fun j H6 => ∃ acc3, H6 D2 = some (.lst acc3) ∧ DpAll K H acc3 ((((ds.filter isTup).take i).flatMap kids) ++ es.take j) ∧ H6 D = some (.lst acc) ∧ Same H H6)
          ⟨acc2, g1, by rw [List.take_zero, List.append_nil]; exact g2, g3, g4⟩ (fun j H6 _ ⟨_, _, _, _, h⟩ => seqT_up h hz) ?_ ?_⟩
        · rintro j u H6 H6' hj ⟨acc3, k1, k2, k3, k4⟩ ⟨rfl, hu⟩
          obtain ⟨e2, he2, de2⟩ := DpAll.get dz2 hu
          have lk := DpAll.len k2
          have nb : nods ((((ds.filter isTup).take i).flatMap kids) ++ es.take j) ≤ nods ds := by
            have a1 := nods_kids ((ds.filter isTup).take i ++ [PyData.tuple (es.take j)])
            have a2 : nods ((ds.filter isTup).take i ++ [PyData.tuple (es.take j)]) ≤ nods (ds.filter isTup) := by
              have a3 := nods_take (ds.filter isTup) (i + 1)
              rw [tk, nods_app] at a3
              rw [nods_app]
              have a4 := nods_take es j
              simp only [nods, nod] at a3 ⊢
              omega
            rw [List.flatMap_append] at a1
            simp only [List.flatMap_cons, List.flatMap_nil, kids, List.append_nil] at a1
            omega
          have lb := nods_len ((((ds.filter isTup).take i).flatMap kids) ++ es.take j)
          refine ⟨rfl, _, rfl, acc3, k1, by omega, acc3 ++ [u], upd_same, ?_, ?_, ?_⟩
          · rw [get_take he2, ← List.append_assoc]
            exact DpAll.app k2 (.cons de2 .nil)
          · rw [upd_ne (ne_of_none h1 hD2)]
            exact k3
          · intro b o q2
            rw [upd_ne (ne_of_none q2 (h4.free hD2))]
            exact k4 b o q2
        · rintro H6 ⟨acc3, k1, k2, k3, k4⟩
          refine ⟨acc3, k1, ?_, k3, k4⟩
          rw [tk, List.flatMap_append]
          rw [show es.take zs.length = es from List.take_of_length_le (Nat.le_of_eq (DpAll.len dz2).symm)] at k2
          simp only [List.flatMap_cons, List.flatMap_nil, kids, List.append_nil]
          exact k2
      · rintro H5 ⟨acc2, g1, g2, g3, g4⟩
        rw [List.take_of_length_le (by omega)] at g2
        exact ⟨_, by omega, z + 1, D2, acc2, _, _, _, rfl, g1, g2, by omega, rfl, by omega, g4⟩
end
abbrev sWord : Stmt := topS 10
abbrev sOdd : Stmt := topS 11
theorem scWord : FnScope ["_law_box_here", "_law_letters", "_law_k"] ["_law_box_here"] (defScope sWord) := ⟨rfl, rfl, rfl, by decide +kernel, rfl, by decide +kernel, by decide +kernel⟩
theorem scOdd : FnScope ["_law_box_here", "_law_word_here", "_law_form", "_law_some"] ["_law_box_here"] (defScope sOdd) := ⟨rfl, rfl, rfl, by decide +kernel, rfl, by decide +kernel, by decide +kernel⟩
def spWord : Sp := fun vs H Q _ => ∃ p g, vs = [.ref p] ∧ Box H p g ∧ ∀ x H', Sm 8 x → Box H' p g → Off [p, g] H H' → Q (.str x) H'
def spOdd (K : PySem.W.Frag) : Sp := fun vs H Q _ => ∃ p g l, vs = [.ref p] ∧ Box H p g ∧ Tr l H ∧ ∀ v d H', Dp K (cut l H') v d → gd d = true → nod d ≤ 2 → d.depth ≤ 1 → Box H' p g → Off [p, g] H H' → Q v H'
structure Tk (P : Program) (w : World) (K : PySem.W.Frag) (mg : Str → Option Value) (base : Heap) (f : Addr) (fd : FuncData) : Prop where
  ok : FnOk P w K mg base CX0 1 f fd ["_law_box_here", "_law_many"] spTake
  kp : PySem.W.keepIn K (.ref f) = true
  bd : Binds K fd ["_law_box_here", "_law_many"] []
  mg : mg "_law_take" = some (.ref f)
theorem alpha_sm : Sm 26 ("abcdefghijklmnopqrstuvwxyz" : Str) := Sm.of (by decide +kernel)
theorem alpha_len : ("abcdefghijklmnopqrstuvwxyz" : Str).cps.toList.length = 26 := by decide +kernel
theorem atI_ok {α : Type} {xs : List α} {r : Int} (h0 : 0 ≤ r) (h : r < (xs.length : Int)) : ∃ x, atI xs r = some x ∧ x ∈ xs ∧ xs[r.toNat]? = some x := by
  have hr : r.toNat < xs.length := by omega
  have e : r = (r.toNat : Int) := by omega
  have q : atI xs ((r.toNat : Nat) : Int) = some xs[r.toNat] := atI_nat (List.getElem?_eq_getElem hr)
  rw [← e] at q
  exact ⟨xs[r.toNat], q, List.getElem_mem hr, List.getElem?_eq_getElem hr⟩
section
variable {P : Program} {w : World} {K : PySem.W.Frag} {mg : Str → Option Value} {base : Heap} {f fT fW : Addr} {fd dT dW : FuncData}
theorem ok_word {k : Nat} (F : Fun K "_law_word" "_law_word" sWord f fd) (B : Bi mg) (T : Tk P w K mg base fT dT) : FnOk P w K mg base CX0 (k + 2) f fd ["_law_box_here"] spWord := by
  refine F.ok scWord (fun vs H Q E h => ?_) (fun cdv A outer s H vs Q E hr h => ?_)
  · obtain ⟨p, g, rfl, _⟩ := h
    rfl
  obtain ⟨p, g, rfl, hb, q⟩ := h
  have hr1 : Room 1 _ := hr.mono (by omega)
  refine ⟨_, pss_cons (ps_set (i := 1) scWord.nd rfl (.inr rfl) pe_str)
    (pss_one (ps_ret (pe_join pe_str (pe_lc (own := [("_law_k", 2)]) (g := gName 2) (by rfl) scWord.nd
      (pi_range1 (by rfl) B.rng (pa_cons (pe_op op_add pe_int (pe_call T.ok hr1 (by rfl) T.mg T.kp T.bd .nil pass0 (pa_cons (pv 0) (pa_cons pe_int pa_nil)))) pa_nil))
      (blkOk_by (own := [("_law_k", 2)]) (N := ["_law_box_here", "_law_letters", "_law_k"]) (sc := defScope sWord) (by decide +kernel))
      (fun _ _ _ _ _ => pg_name (i := 2) scWord.nd rfl (Or.inl rfl)) (fun _ _ _ _ _ => pts_nil)
      (fun _ _ _ _ _ => pe_ix ix_str (pv 1) (pe_call T.ok hr1 (by rfl) T.mg T.kp T.bd .nil pass0 (pa_cons (pv 0) (pa_cons pe_int pa_nil))) (fun _ _ => rfl)))))), ?_⟩
  refine ⟨⟨_, rfl⟩, _, rfl, p, g, 8, rfl, hb, by decide, by decide, fun r H1 r0 r8 b1 o1 => ?_⟩
  refine ⟨1, r, rfl, rfl, 1 + r, rfl, by omega, by omega, fun D hD => ?_⟩
  have nD := b1.notin hD
  refine lc_range (lo := 0) (n := (1 + r).toNat) (fun i H2 => ∃ ys : List Str, ys.length ≤ i ∧ (∀ y ∈ ys, Sm 1 y) ∧ H2 D = some (.lst (ys.map V.str)) ∧ Box H2 p g ∧ Off [p, g] H H2)
    ⟨[], Nat.le_refl _, fun _ z => (List.not_mem_nil z).elim, upd_same, b1.same (same_new hD _), o1.trans (Off.of (same_new hD _))⟩ ?_ ?_
  · rintro i H2 hi ⟨ys, ly, sy, h1, b2, o2⟩
    refine ⟨rfl, _, rfl, _, rfl, p, g, 26, rfl, b2, by decide, by decide, fun r2 H3 s0 s26 b3 o3 => ?_⟩
    obtain ⟨c, hc, mc, _⟩ := atI_ok (xs := ("abcdefghijklmnopqrstuvwxyz" : Str).cps.toList) (r := r2) s0 (by rw [alpha_len]; exact s26)
    refine ⟨_, _, c, rfl, rfl, alpha_sm.fits (by decide), hc, _, o3.get h1 nD, ?_, ys ++ [⟨#[c]⟩], ?_, ?_, ?_, ?_, ?_⟩
    · rw [List.length_map]
      exact small1000 (by omega)
    · rw [List.length_append, List.length_singleton]
      omega
    · intro y hy
      rcases List.mem_append.mp hy with z | z
      · exact sy y z
      · rw [List.mem_singleton.mp z]
        exact ⟨Nat.le_refl _, fun d hd => by
          have hd : d ∈ [c] := hd
          rw [List.mem_singleton.mp hd]
          exact alpha_sm.lo c mc⟩
    · rw [upd_same, List.map_append]
      rfl
    · exact ⟨let ⟨n, s, t, gs, a, b, e⟩ := b3.ex; ⟨n, s, t, gs, by rw [upd_ne (fun z => nD (by simp [← z]))]; exact a, by rw [upd_ne (fun z => nD (by simp [← z]))]; exact b, e⟩⟩
    · exact off_new (o2.trans o3) nD (o1.free hD nD)
  · rintro H2 ⟨ys, ly, sy, h1, b2, o2⟩
    have j := Sm.join ys sy
    refine ⟨_, D, ys, rfl, rfl, .inl (SqL.of h1), ?_, q _ _ (j.mono (by omega)) b2 o2⟩
    have e0 : (("" : Str)).length = 0 := by decide +kernel
    rw [e0, Nat.mul_zero, Nat.add_zero]
    have : (ys.map (·.length)).sum ≤ ys.length := by
      clear h1 j ly
      induction ys with
      | nil => exact Nat.le_refl _
      | cons y r ih =>
        have h1 := (sy y List.mem_cons_self).le
        have h2 := ih fun z hz => sy z (List.mem_cons_of_mem _ hz)
        simp only [List.map_cons, List.sum_cons, List.length_cons]
        omega
    omega
end
section
variable {P : Program} {w : World} {K : PySem.W.Frag} {mg : Str → Option Value} {base : Heap} {f fT fW : Addr} {fd dT dW : FuncData}
theorem ok_odd {k : Nat} (F : Fun K "_law_odd" "_law_odd" sOdd f fd) (B : Bi mg) (T : Tk P w K mg base fT dT) (FW : Fun K "_law_word" "_law_word" sWord fW dW) (bW : Binds K dW ["_law_box_here"] []) (mW : mg "_law_word" = some (.ref fW)) :
    FnOk P w K mg base CX0 (k + 3) f fd ["_law_box_here"] (spOdd K) := by
  refine F.ok scOdd (fun vs H Q E h => ?_) (fun cdv A outer s H vs Q E hr h => ?_)
  · obtain ⟨p, g, l, rfl, _⟩ := h
    rfl
  obtain ⟨p, g, l, rfl, hb, tl, q⟩ := h
  have hr1 : Room 1 _ := hr.mono (by omega)
  have GW := ok_word (P := P) (w := w) (base := base) (k := k) FW B T
  refine ⟨_, pss_cons (ps_par (i := 1) (j := 2) (by rfl) scOdd.nd rfl rfl (by decide) rfl rfl (pa_cons (pe_call GW hr (by rfl) mW FW.kp bW .nil pass0 (pa_cons (pv 0) pa_nil))
      (pa_cons (pe_call T.ok hr1 (by rfl) T.mg T.kp T.bd .nil pass0 (pa_cons (pv 0) (pa_cons pe_int pa_nil))) pa_nil)) (by rfl))
    (pss_cons (ps_set (i := 3) scOdd.nd rfl (.inl rfl) (pe_lst (pa_cons pe_bl (pa_cons pe_bl (pa_cons pe_non (pa_cons (pe_upper (pv 1)) (pa_cons (pe_op op_add_str (pv 1) pe_str)
      (pa_cons pe_str (pa_cons (pe_op op_add_str (pv 1) pe_str) (pa_cons (pe_op op_add_str (pe_slice sl_str (pv 1) (po_some pe_int) po_none) pe_str)
      (pa_cons (pe_op op_add_str (pe_slice sl_str (pv 1) (po_some pe_int) po_none) pe_str) pa_nil)))))))))))
    (pss_one (ps_ret (pe_ix ix_list (pe_op op_cat (pv 3) (pe_lst (pa_cons (pe_op op_add_str (pe_slice sl_str (pv 1) (po_some pe_int) po_none) pe_str)
      (pa_cons (pe_op op_add_str (pe_slice sl_str (pv 1) (po_some pe_int) po_none) pe_str) (pa_cons (pe_lst pa_nil) (pa_cons (pe_lst (pa_cons pe_int pa_nil))
      (pa_cons (pe_op op_add_str (pe_slice sl_str (pv 1) (po_some pe_int) po_none) pe_str) pa_nil))))))) (pv 2) (fun _ _ => rfl))))), ?_⟩
  refine ⟨_, rfl, p, g, rfl, hb, fun x H1 sx b1 o1 => ⟨_, rfl, p, g, 14, rfl, b1, by decide, by decide, fun r H2 r0 r14 b2 o2 => ⟨_, _, rfl, ?_⟩⟩⟩
  have o2 := o1.trans o2
  have fx : ∀ y : Str, Sm 20 y → (x.length + y.length ≤ sizeLine) := fun y hy => by
    have := sx.le
    have := hy.le
    exact Nat.le_of_lt (small1000 (by omega))
  have fc : ∀ y : Str, Sm 20 y → ((cutS x (some 1) none).length + y.length ≤ sizeLine) := fun y hy => by
    have := (sx.cut (some 1) none).le
    have := hy.le
    exact Nat.le_of_lt (small1000 (by omega))
  have lit : ∀ y : Str, (decide (y.length ≤ 20) && y.cps.toList.all fun c => decide (c < 128)) = true → Sm 20 y := fun y h => Sm.of h
  have cx : ∀ y : Str, Sm 20 y → Sm 28 (cutS x (some 1) none ++ y) := fun y hy => (sx.cut (some 1) none).app hy
  have ax : ∀ y : Str, Sm 20 y → Sm 28 (x ++ y) := fun y hy => sx.app hy
  have l1 := lit "-" (by decide +kernel)
  have l2 := lit "abcdefgh" (by decide +kernel)
  have l3 := lit "A" (by decide +kernel)
  have l4 := lit " " (by decide +kernel)
  have l5 := lit "1" (by decide +kernel)
  have l6 := lit "_" (by decide +kernel)
  have l7 := lit "~" (by decide +kernel)
  have l8 := lit "" (by decide +kernel)
  have zx : x.length ≤ sizeLine := sx.fits (by decide)
  refine ⟨_, rfl, ⟨_, rfl⟩, x, rfl, rfl, Nat.le_trans sx.le (by decide : 8 ≤ 5592405), _, rfl, _, _, rfl, rfl, fx _ l1, _, rfl, _, _, rfl, rfl, fx _ l2, _, rfl, 1, rfl, x, rfl, zx, _, _, rfl, rfl, fc _ l3, _, rfl, 1, rfl, x, rfl, zx, _, _, rfl, rfl, fc _ l4, few (by simp), fun D1 h1 => ?_⟩
  have n1 := b2.notin h1
  have b3 := b2.put (o := .lst [V.bl true, V.bl false, V.non, V.str (Txt.upper x), V.str (x ++ "-"), V.str "", V.str (x ++ "abcdefgh"), V.str (cutS x (some 1) none ++ "A"), V.str (cutS x (some 1) none ++ " ")]) n1
  have o3 := off_new (o := .lst [V.bl true, V.bl false, V.non, V.str (Txt.upper x), V.str (x ++ "-"), V.str "", V.str (x ++ "abcdefgh"), V.str (cutS x (some 1) none ++ "A"), V.str (cutS x (some 1) none ++ " ")]) o2 n1 (o2.free h1 n1)
  refine ⟨_, rfl, _, rfl, 1, rfl, x, rfl, zx, _, _, rfl, rfl, fc _ l5, _, rfl, 1, rfl, x, rfl, zx, _, _, rfl, rfl, fc _ l6, by decide, fun E1 g1 => ⟨by decide, fun E2 g2 => ⟨_, rfl, 1, rfl, x, rfl, zx, _, _, rfl, rfl, fc _ l7, few (by simp), fun D2 h2 => ?_⟩⟩⟩
  have m1 := b3.notin g1
  have b4 := b3.put (o := .lst []) m1
  have m2 := b4.notin g2
  have b5 := b4.put (o := .lst [V.int 1]) m2
  have n2 := b5.notin h2
  have b6 := b5.put (o := .lst [V.str (cutS x (some 1) none ++ "1"), V.str (cutS x (some 1) none ++ "_"), V.ref E1, V.ref E2, V.str (cutS x (some 1) none ++ "~")]) n2
  have d1E : D1 ≠ E1 := ne_of_none upd_same g1
  have d1F : D1 ≠ E2 := ne_of_none (by rw [upd_ne d1E]; exact upd_same) g2
  have d1D : D1 ≠ D2 := ne_of_none (by rw [upd_ne d1F, upd_ne d1E]; exact upd_same) h2
  have e1F : E1 ≠ E2 := ne_of_none upd_same g2
  have e1D : E1 ≠ D2 := ne_of_none (by rw [upd_ne e1F]; exact upd_same) h2
  have e2D : E2 ≠ D2 := ne_of_none upd_same h2
  refine ⟨D1, D2, _, _, rfl, rfl, by rw [upd_ne d1D, upd_ne d1F, upd_ne d1E]; exact upd_same, upd_same, few (by simp), fun D3 h3 => ?_⟩
  have n3 := b6.notin h3
  have e1D3 : E1 ≠ D3 := ne_of_none (by rw [upd_ne e1D, upd_ne e1F]; exact upd_same) h3
  have e2D3 : E2 ≠ D3 := ne_of_none (by rw [upd_ne e2D]; exact upd_same) h3
  have o4 := off_new (o := .lst []) o3 m1 (o3.free g1 m1)
  have o5 := off_new (o := .lst [V.int 1]) o4 m2 (o4.free g2 m2)
  have o6 := off_new (o := .lst [V.str (cutS x (some 1) none ++ "1"), V.str (cutS x (some 1) none ++ "_"), V.ref E1, V.ref E2, V.str (cutS x (some 1) none ++ "~")]) o5 n2 (o5.free h2 n2)
  have o7 := fun o : HO => off_new (o := o) o6 n3 (o6.free h3 n3)
  obtain ⟨v, hv, mv, iv⟩ := atI_ok (xs := [V.bl true, V.bl false, V.non, V.str (Txt.upper x), V.str (x ++ "-"), V.str "", V.str (x ++ "abcdefgh"), V.str (cutS x (some 1) none ++ "A"), V.str (cutS x (some 1) none ++ " ")] ++
    [V.str (cutS x (some 1) none ++ "1"), V.str (cutS x (some 1) none ++ "_"), V.ref E1, V.ref E2, V.str (cutS x (some 1) none ++ "~")]) (r := r) r0 r14
  refine ⟨_, rfl, D3, _, _, v, rfl, rfl, SqL.of upd_same, hv, ?_⟩
  have all : DpAll K (cut l (upd (upd (upd (upd (upd H2 D1 (.lst [V.bl true, V.bl false, V.non, V.str (Txt.upper x), V.str (x ++ "-"), V.str "", V.str (x ++ "abcdefgh"), V.str (cutS x (some 1) none ++ "A"), V.str (cutS x (some 1) none ++ " ")])) E1 (.lst [])) E2 (.lst [V.int 1]))
      D2 (.lst [V.str (cutS x (some 1) none ++ "1"), V.str (cutS x (some 1) none ++ "_"), V.ref E1, V.ref E2, V.str (cutS x (some 1) none ++ "~")]))
      D3 (.lst ([V.bl true, V.bl false, V.non, V.str (Txt.upper x), V.str (x ++ "-"), V.str "", V.str (x ++ "abcdefgh"), V.str (cutS x (some 1) none ++ "A"), V.str (cutS x (some 1) none ++ " ")] ++
        [V.str (cutS x (some 1) none ++ "1"), V.str (cutS x (some 1) none ++ "_"), V.ref E1, V.ref E2, V.str (cutS x (some 1) none ++ "~")]))))
      ([V.bl true, V.bl false, V.non, V.str (Txt.upper x), V.str (x ++ "-"), V.str "", V.str (x ++ "abcdefgh"), V.str (cutS x (some 1) none ++ "A"), V.str (cutS x (some 1) none ++ " ")] ++
        [V.str (cutS x (some 1) none ++ "1"), V.str (cutS x (some 1) none ++ "_"), V.ref E1, V.ref E2, V.str (cutS x (some 1) none ++ "~")])
      [.bool true, .bool false, .none, .str (Txt.upper x), .str (x ++ "-"), .str "", .str (x ++ "abcdefgh"), .str (cutS x (some 1) none ++ "A"), .str (cutS x (some 1) none ++ " "),
        .str (cutS x (some 1) none ++ "1"), .str (cutS x (some 1) none ++ "_"), .list [], .list [.int 1], .str (cutS x (some 1) none ++ "~")] := by
    refine .cons (.bl _) (.cons (.bl _) (.cons .non (.cons (.str _) (.cons (.str _) (.cons (.str _) (.cons (.str _) (.cons (.str _) (.cons (.str _) (.cons (.str _) (.cons (.str _) (.cons ?_ (.cons ?_ (.cons (.str _) .nil)))))))))))))
    · exact .lst (SqL.of (by rw [cut_out (fun z => tl E1 z (o3.free g1 m1)), upd_ne e1D3, upd_ne e1D, upd_ne e1F]; exact upd_same)) .nil
    · exact .lst (SqL.of (by rw [cut_out (fun z => tl E2 z (o4.free g2 m2)), upd_ne e2D3, upd_ne e2D]; exact upd_same)) (.cons (.int 1) .nil)
  obtain ⟨d, hd, dd⟩ := DpAll.get all iv
  have md := List.mem_of_getElem? hd
  have good : gd d = true ∧ nod d ≤ 2 ∧ d.depth ≤ 1 := by
    have st : ∀ y n, Sm n y → n ≤ 100 → gd (.str y) = true ∧ nod (.str y) ≤ 2 ∧ (PyData.str y).depth ≤ 1 := fun y n h hn =>
      ⟨h.gd hn, by simp only [nod]; omega, by simp only [PyData.depth]; omega⟩
    simp only [List.mem_cons, List.not_mem_nil, or_false] at md
    rcases md with e | e | e | e | e | e | e | e | e | e | e | e | e | e <;> subst e
    · exact ⟨by simp only [gd], by simp only [nod]; omega, by simp only [PyData.depth]; omega⟩
    · exact ⟨by simp only [gd], by simp only [nod]; omega, by simp only [PyData.depth]; omega⟩
    · exact ⟨by simp only [gd], by simp only [nod]; omega, by simp only [PyData.depth]; omega⟩
    · exact st _ _ sx.up (by decide)
    · exact st _ _ (ax _ l1) (by decide)
    · exact st _ _ l8 (by decide)
    · exact st _ _ (ax _ l2) (by decide)
    · exact st _ _ (cx _ l3) (by decide)
    · exact st _ _ (cx _ l4) (by decide)
    · exact st _ _ (cx _ l5) (by decide)
    · exact st _ _ (cx _ l6) (by decide)
    · exact ⟨by simp only [gd, gds], by simp only [nod, nods]; omega, by simp only [PyData.depth, PyData.depthAll]; omega⟩
    · exact ⟨by simp only [gd, gds]; decide +kernel, by simp only [nod, nods]; omega, by simp only [PyData.depth, PyData.depthAll]; omega⟩
    · exact st _ _ (cx _ l7) (by decide)
  exact q v d _ dd good.1 good.2.1 good.2.2 (b6.put n3) (o7 _)
end
abbrev sValue : Stmt := topS 12
theorem scValue : FnScope ["_law_box_here", "_law_deep", "_law_wide", "_law_form", "_law_great", "_law_many", "_law_k"] ["_law_box_here", "_law_deep", "_law_wide"] (defScope sValue) :=
  ⟨rfl, rfl, rfl, by decide +kernel, rfl, by decide +kernel, by decide +kernel⟩
def phi (w : Int) : Nat := (max w 1).toNat
def spVal (K : PySem.W.Frag) (n : Nat) : Sp := fun vs H Q _ => ∃ p g wd e w0 l, vs = [.ref p, .int e, .ref wd] ∧ Box H p g ∧ H wd = some (.lst [.int w0]) ∧ wd ∉ [p, g] ∧ 0 ≤ e ∧ e < (n : Int) ∧ Tr l H ∧
  ∀ v d H' w1, Box H' p g → H' wd = some (.lst [.int w1]) → Off [p, g, wd] H H' → Dp K (cut l H') v d → gd d = true → (d.depth : Int) ≤ e → w1 ≤ w0 - 1 → nod d + 12 * phi w1 ≤ 1 + 12 * phi w0 → Q v H'
theorem at3 {a b c : V} {r : Int} (h0 : 0 ≤ r) (h : r < 3) : ∃ x, atI [a, b, c] r = some x ∧ x ∈ [a, b, c] := by
  obtain ⟨x, h1, h2, _⟩ := atI_ok (xs := [a, b, c]) h0 h
  exact ⟨x, h1, h2⟩
theorem at2 {a b : V} {r : Int} (h0 : 0 ≤ r) (h : r < 2) : ∃ x, atI [a, b] r = some x ∧ x ∈ [a, b] := by
  obtain ⟨x, h1, h2, _⟩ := atI_ok (xs := [a, b]) h0 h
  exact ⟨x, h1, h2⟩
theorem gd_int {i : Int} (h : i.natAbs < 2 ^ 1000) : gd (.int i) = true := by
  simp only [gd]
  exact decide_eq_true (Nat.lt_trans (PySem.Flt.log2_lt_of (by decide) h) (by decide))
section
variable {P : Program} {w : World} {K : PySem.W.Frag} {mg : Str → Option Value} {base : Heap} {f fT fW : Addr} {fd dT dW : FuncData}
theorem ok_value {k n : Nat} (F : Fun K "_law_value" "_law_value" sValue f fd) (B : Bi mg) (T : Tk P w K mg base fT dT) (FW : Fun K "_law_word" "_law_word" sWord fW dW) (bW : Binds K dW ["_law_box_here"] []) (mW : mg "_law_word" = some (.ref fW))
    (G : FnOk P w K mg base CX0 (k + 2) f fd ["_law_box_here", "_law_deep", "_law_wide"] (spVal K n)) (bV : Binds K fd ["_law_box_here", "_law_deep", "_law_wide"] []) (mV : mg "_law_value" = some (.ref f)) :
    FnOk P w K mg base CX0 (k + 3) f fd ["_law_box_here", "_law_deep", "_law_wide"] (spVal K (n + 1)) := by
  refine F.ok scValue (fun vs H Q E h => ?_) (fun cdv A outer s H vs Q E hr h => ?_)
  · obtain ⟨p, g, wd, e, w0, l, rfl, _⟩ := h
    rfl
  obtain ⟨p, g, wd, e, w0, l, rfl, hb, hw, nw, e0, en, tl, q⟩ := h
  have hr1 : Room 1 _ := hr.mono (by omega)
  have GW := ok_word (P := P) (w := w) (base := base) (k := k) FW B T
  refine ⟨_, pss_cons (ps_asg (pe_op op_sub (pe_ix ix_list (pv 2) pe_int (fun _ _ => rfl)) pe_int) (pg_sub (pv 2) pe_int set_list))
    (pss_cons (ps_set (i := 3) scValue.nd rfl (.inl rfl) (pe_call T.ok hr1 (by rfl) T.mg T.kp T.bd .nil pass0 (pa_cons (pv 0) (pa_cons pe_int pa_nil))))
    (pss_cons (ps_if (PW.pt (pw_or (pt_cmpR op_eq (pv 1) pe_int (nomark _)) (pw_or (pt_cmpR op_lt (pv 3) pe_int (nomark _)) (pw_or1 (pt_cmpR op_lt (pe_ix ix_list (pv 2) pe_int (fun _ _ => rfl)) pe_int (nomark _))))))
      (pss_cons (ps_set (i := 4) scValue.nd rfl (.inl rfl) (pe_ix ix_list (pe_lst (pa_cons (pe_op op_sub (pe_call T.ok hr1 (by rfl) T.mg T.kp T.bd .nil pass0 (pa_cons (pv 0) (pa_cons pe_int pa_nil))) pe_int)
          (pa_cons (pe_op op_sub (pe_call T.ok hr1 (by rfl) T.mg T.kp T.bd .nil pass0 (pa_cons (pv 0) (pa_cons (pe_op op_add (pe_op op_mul pe_int (pe_op op_pow pe_int pe_int)) pe_int) pa_nil))) (pe_op op_pow pe_int pe_int)) pa_nil)))
          (pe_op op_fdiv (pe_call T.ok hr1 (by rfl) T.mg T.kp T.bd .nil pass0 (pa_cons (pv 0) (pa_cons pe_int pa_nil))) pe_int) (fun _ _ => rfl)))
      (pss_one (ps_ret (pe_ifExp (pt_cmpR op_eq (pe_op op_mod (pv 3) pe_int) pe_int (nomark _)) (pv 4) (pe_call GW (hr.mono (by omega)) (by rfl) mW FW.kp bW .nil pass0 (pa_cons (pv 0) pa_nil))))))
      pss_nil)
    (pss_cons (ps_set (i := 5) scValue.nd rfl (.inl rfl) (pe_ix ix_list (pe_lst (pa_cons (pe_call T.ok hr1 (by rfl) T.mg T.kp T.bd .nil pass0 (pa_cons (pv 0) (pa_cons pe_int pa_nil)))
        (pa_cons (pe_op op_sub pe_int (pe_call T.ok hr1 (by rfl) T.mg T.kp T.bd .nil pass0 (pa_cons (pv 0) (pa_cons pe_int pa_nil)))) (pa_cons pe_int pa_nil))))
        (pe_op op_fdiv (pe_call T.ok hr1 (by rfl) T.mg T.kp T.bd .nil pass0 (pa_cons (pv 0) (pa_cons pe_int pa_nil))) pe_int) (fun _ _ => rfl)))
    (pss_one (ps_ret (pe_callTy call_tuple_of (by rfl) B.tup b_tup (pa_cons (pe_lc (own := [("_law_k", 6)]) (g := gName 6) (by rfl) scValue.nd (pi_range1 (by rfl) B.rng (pa_cons (pv 5) pa_nil))
      (blkOk_by (own := [("_law_k", 6)]) (N := ["_law_box_here", "_law_deep", "_law_wide", "_law_form", "_law_great", "_law_many", "_law_k"]) (sc := defScope sValue) (by decide +kernel))
      (fun _ _ _ _ _ => pg_name (i := 6) scValue.nd rfl (Or.inl rfl)) (fun _ _ _ _ _ => pts_nil)
      (fun _ _ _ _ _ => pe_call G hr (by rfl) mV F.kp bV .nil pass0 (pa_cons (pv 0) (pa_cons (pe_op op_sub (pv 1) pe_int) (pa_cons (pv 2) pa_nil))))) pa_nil))))))), ?_⟩
  refine ⟨_, rfl, wd, _, 0, _, rfl, rfl, SqL.of hw, rfl, _, _, rfl, rfl, _, rfl, wd, _, 0, 0, rfl, rfl, hw, rfl, ?_⟩
  have b1 := hb.put (o := .lst [.int (w0 - 1)]) nw
  have o1 : Off [p, g, wd] H (upd H wd (.lst [.int (w0 - 1)])) := Off.put (by simp)
  have sub : ∀ b ∈ [p, g], b ∈ [p, g, wd] := fun b hb => by
    simp only [List.mem_cons, List.not_mem_nil, or_false] at hb ⊢
    rcases hb with h | h
    · exact .inl h
    · exact .inr (.inl h)
  refine ⟨_, rfl, p, g, 6, rfl, b1, by decide, by decide, fun r H2 r0 r6 b2 o2 => ?_⟩
  have hw2 : H2 wd = some (.lst [.int (w0 - 1)]) := o2.get upd_same nw
  have o2 := o1.trans (o2.mono sub)
  refine ⟨_, rfl, rfl, _, rfl, ite2 (fun c1 => ?l1) (fun c1 => ⟨_, rfl, _, _, rfl, rfl, _, rfl, ite2 (fun c2 => ?l2) (fun c2 => ⟨_, rfl, wd, _, 0, _, rfl, rfl, SqL.of hw2, rfl, _, _, rfl, rfl, _, rfl, ite2 (fun c3 => ?l3) (fun c3 => ?r)⟩)⟩)⟩
  case r =>
    have e1 : e ≠ 0 := fun z => c1 (by rw [z]; exact decide_eq_true rfl)
    have w1' : ¬ w0 - 1 < 1 := of_decide_eq_false (Bool.eq_false_iff.mpr c3)
    refine ⟨_, rfl, p, g, 4, rfl, b2, by decide, by decide, fun s1 H3 s10 s14 b3 o3 => ⟨_, rfl, p, g, 13, rfl, b3, by decide, by decide, fun s2 H4 s20 s213 b4 o4 => ⟨_, _, rfl, rfl, few (by simp), fun D hD => ?_⟩⟩⟩
    have o34 := o3.trans o4
    have hw4 : H4 wd = some (.lst [.int (w0 - 1)]) := o34.get hw2 nw
    have o4 := o2.trans (o34.mono sub)
    have nD := b4.notin hD
    have nwD : wd ≠ D := ne_of_none hw4 hD
    have nD3 : D ∉ [p, g, wd] := by
      simp only [List.mem_cons, List.not_mem_nil, or_false, not_or] at nD ⊢
      exact ⟨nD.1, nD.2, fun z => nwD z.symm⟩
    have b5 := b4.put (o := .lst [V.int s1, V.int (12 - s2), V.int 1]) nD
    have o5 := off_new (o := .lst [V.int s1, V.int (12 - s2), V.int 1]) o4 nD3 (o4.free hD nD3)
    refine ⟨_, rfl, p, g, 9, rfl, b5, by decide, by decide, fun s3 H6 s30 s34 b6 o6 => ⟨_, _, rfl, rfl, ⟨by decide, by decide⟩, ?_⟩⟩
    have hD6 : H6 D = some (.lst [V.int s1, V.int (12 - s2), V.int 1]) := o6.get upd_same nD
    have hw6 : H6 wd = some (.lst [.int (w0 - 1)]) := o6.get (by rw [upd_ne nwD]; exact hw4) nw
    have o6 := o5.trans (o6.mono sub)
    obtain ⟨v, hv, mv⟩ := at3 (a := V.int s1) (b := V.int (12 - s2)) (c := V.int 1) (r := s3 / 4) (by omega) (by omega)
    refine ⟨D, _, _, v, rfl, rfl, SqL.of hD6, hv, ?_⟩
    obtain ⟨m, rfl, m0, m12⟩ : ∃ m : Int, v = .int m ∧ 0 ≤ m ∧ m ≤ 12 := by
      simp only [List.mem_cons, List.not_mem_nil, or_false] at mv
      rcases mv with e | e | e
      · exact ⟨_, e, by omega, by omega⟩
      · exact ⟨_, e, by omega, by omega⟩
      · exact ⟨_, e, by omega, by omega⟩
    have tr6 : Tr l H6 := tl.go o6 fun b hb => by
      have t := b6.tr
      simp only [List.mem_cons, List.not_mem_nil, or_false] at hb
      rcases hb with h | h | h
      · rw [h]; exact t.1
      · rw [h]; exact t.2
      · rw [h, hw6]; exact fun z => nomatch z
    refine ⟨_, rfl, m, rfl, by omega, by omega, fun D2 hD2 => ?_⟩
    have n2 := b6.notin hD2
    have nw2 : wd ≠ D2 := ne_of_none hw6 hD2
    have n23 : D2 ∉ [p, g, wd] := by
      simp only [List.mem_cons, List.not_mem_nil, or_false, not_or] at n2 ⊢
      exact ⟨n2.1, n2.2, fun z => nw2 z.symm⟩
    have nl2 : D2 ∉ l := fun z => tr6 D2 z hD2
    refine lc_range (lo := 0) (n := m.toNat) (fun i H7 => ∃ vs ds wi, vs.length = i ∧ H7 D2 = some (.lst vs) ∧ DpAll K (cut (D2 :: p :: g :: wd :: l) H7) vs ds ∧ gds ds = true ∧ (PyData.depthAll ds : Int) ≤ e - 1 ∧
        Box H7 p g ∧ H7 wd = some (.lst [.int wi]) ∧ Off [p, g, wd] H H7 ∧ Tr l H7 ∧ wi ≤ w0 - 1 ∧ nods ds + 12 * phi wi ≤ i + 12 * phi (w0 - 1))
      ⟨[], [], w0 - 1, rfl, upd_same, .nil, by simp only [gds], by simp only [PyData.depthAll]; omega, b6.put n2, by rw [upd_ne nw2]; exact hw6, off_new o6 n23 (o6.free hD2 n23), fun b hb => by rw [upd_ne (ne_mem nl2 hb)]; exact tr6 b hb, Int.le_refl _, by simp only [nods]; omega⟩ ?_ ?_
    · rintro i H7 hi ⟨vs, ds, wi, lv, h1, h2, h3, h4, h5, h6, h7, h8, h9, h10⟩
      have trk : Tr (D2 :: p :: g :: wd :: l) H7 := fun b hb => by
        have t := h5.tr
        simp only [List.mem_cons] at hb
        rcases hb with h | h | h | h | h
        · rw [h, h1]; exact fun z => nomatch z
        · rw [h]; exact t.1
        · rw [h]; exact t.2
        · rw [h, h6]; exact fun z => nomatch z
        · exact h8 b h
      refine ⟨rfl, _, rfl, _, rfl, _, _, rfl, rfl, _, rfl, p, g, wd, e - 1, wi, D2 :: p :: g :: wd :: l, rfl, h5, h6, nw, by omega, by omega, trk, fun v d H8 wj k1 k2 k3 k4 k5 k6 k7 k8 => ?_⟩
      have o8 : Off (D2 :: p :: g :: wd :: l) H7 H8 := k3.mono fun b hb => by
        simp only [List.mem_cons, List.not_mem_nil, or_false] at hb ⊢
        rcases hb with h | h | h
        · exact .inr (.inl h)
        · exact .inr (.inr (.inl h))
        · exact .inr (.inr (.inr (.inl h)))
      have put8 : Off (D2 :: p :: g :: wd :: l) H8 (upd H8 D2 (.lst (vs ++ [v]))) := Off.put (by simp)
      refine ⟨vs, k3.get h1 n23, few (by omega), vs ++ [v], ds ++ [d], wj, by rw [List.length_append, List.length_singleton, lv], upd_same, ?_, ?_, ?_, k1.put n2, by rw [upd_ne nw2]; exact k2, ?_, ?_, by omega, ?_⟩
      · exact DpAll.app (Dp.ups (o8.trans put8) _ _ h2) (.cons (Dp.up put8 _ _ k4) .nil)
      · rw [gds_app, h3]
        simp only [gds, k5, Bool.and_self]
      · rw [depthAll_app]
        simp only [PyData.depthAll]
        omega
      · exact off_new (h7.trans k3) n23 (o6.free hD2 n23)
      · intro b hb
        by_cases eb : b = D2
        · exact absurd eb (ne_mem nl2 hb)
        · rw [upd_ne eb]
          have q1 := trk.go k3 (fun b hb => by
            have t := k1.tr
            simp only [List.mem_cons, List.not_mem_nil, or_false] at hb
            rcases hb with h | h | h
            · rw [h]; exact t.1
            · rw [h]; exact t.2
            · rw [h, k2]; exact fun z => nomatch z)
          exact q1 b (by simp [hb])
      · rw [nods_app]
        simp only [nods]
        omega
    · rintro H7 ⟨vs, ds, wi, lv, h1, h2, h3, h4, h5, h6, h7, h8, h9, h10⟩
      refine ⟨D2, vs, rfl, .inl ⟨SqL.of h1, fun t ht => ?_⟩⟩
      have nt := h5.notin ht
      have nwt : wd ≠ t := ne_of_none h6 ht
      have nt3 : t ∉ [p, g, wd] := by
        simp only [List.mem_cons, List.not_mem_nil, or_false, not_or] at nt ⊢
        exact ⟨nt.1, nt.2, fun z => nwt z.symm⟩
      have ntl : t ∉ l := fun z => h8 t z ht
      have s1 : Same (cut (D2 :: p :: g :: wd :: l) H7) (cut l (upd H7 t (.tup vs))) := fun b o z => by
        obtain ⟨a1, a2⟩ := cut_some z
        rw [cut_out (fun y => a1 (by simp [y])), upd_ne (ne_of_none a2 ht)]
        exact a2
      refine q (.ref t) (.tuple ds) _ wi (h5.put nt) (by rw [upd_ne nwt]; exact h6) (off_new h7 nt3 (h7.free ht nt3)) (.tup (.inl (.inl (by rw [cut_out ntl]; exact upd_same))) (Dp.ups s1 _ _ h2)) (by simpa only [gd] using h3) (by simp only [PyData.depth]; omega) h9 ?_
      simp only [nod]
      have f0 : phi w0 = phi (w0 - 1) + 1 := by
        unfold phi
        omega
      have m1 : (m.toNat : Int) = m := by omega
      omega
  all_goals
    refine ⟨_, rfl, p, g, 9, rfl, b2, by decide, by decide, fun s1 H3 s10 s19 b3 o3 => ⟨_, _, rfl, rfl, ?_⟩⟩
    refine ⟨_, rfl, _, _, rfl, rfl, ⟨by decide, by decide, by decide⟩, _, _, rfl, rfl, .inl ⟨by decide, by decide⟩, _, _, rfl, rfl, p, g, _, rfl, b3, by decide, by decide, fun s2 H4 s20 s29 b4 o4 => ⟨_, _, rfl, rfl, ⟨by decide, by decide, by decide⟩, _, _, rfl, rfl, few (by simp), fun D hD => ?_⟩⟩
    have o34 := o3.trans o4
    have hw4 : H4 wd = some (.lst [.int (w0 - 1)]) := o34.get hw2 nw
    have o4 := o2.trans (o34.mono sub)
    have nD := b4.notin hD
    have nwD : wd ≠ D := ne_of_none hw4 hD
    have nD3 : D ∉ [p, g, wd] := by
      simp only [List.mem_cons, List.not_mem_nil, or_false, not_or] at nD ⊢
      exact ⟨nD.1, nD.2, fun z => nwD z.symm⟩
    have b5 := b4.put (o := .lst [V.int (s1 - 4), V.int (s2 - 10 ^ (9 : Int).toNat)]) nD
    have o5 := off_new (o := .lst [V.int (s1 - 4), V.int (s2 - 10 ^ (9 : Int).toNat)]) o4 nD3 (o4.free hD nD3)
    refine ⟨_, rfl, p, g, 4, rfl, b5, by decide, by decide, fun s3 H6 s30 s34 b6 o6 => ⟨_, _, rfl, rfl, ⟨by decide, by decide⟩, ?_⟩⟩
    have hD6 : H6 D = some (.lst [V.int (s1 - 4), V.int (s2 - 10 ^ (9 : Int).toNat)]) := o6.get upd_same nD
    have hw6 : H6 wd = some (.lst [.int (w0 - 1)]) := o6.get (by rw [upd_ne nwD]; exact hw4) nw
    have o6 := o5.trans (o6.mono sub)
    obtain ⟨v, hv, mv⟩ := at2 (a := V.int (s1 - 4)) (b := V.int (s2 - 10 ^ (9 : Int).toNat)) (r := s3 / 3) (by omega) (by omega)
    refine ⟨D, _, _, v, rfl, rfl, SqL.of hD6, hv, ?_⟩
    obtain ⟨z, rfl, hz⟩ : ∃ z : Int, v = .int z ∧ z.natAbs < 2 ^ 1000 := by
      have big : (10 : Int) ^ (9 : Int).toNat = 1000000000 := by decide
      have p2 : (2 : Nat) ^ 40 ≤ 2 ^ 1000 := Nat.pow_le_pow_right (by decide) (by decide)
      have s2' : s2 < 2 * 10 ^ (9 : Int).toNat + 1 := s29
      rw [big] at s2' mv
      simp only [List.mem_cons, List.not_mem_nil, or_false] at mv
      rcases mv with e | e
      · exact ⟨_, e, Nat.lt_of_lt_of_le (by omega) p2⟩
      · exact ⟨_, e, Nat.lt_of_lt_of_le (by omega) p2⟩
    have ph : phi (w0 - 1) ≤ phi w0 := by
      unfold phi
      omega
    refine ⟨_, rfl, _, _, rfl, rfl, (by show (0 : Int) < 2; decide), rfl, _, rfl, ite2 (fun c => ⟨_, rfl, ?_⟩) (fun c => ⟨_, rfl, p, g, rfl, b6, fun x H7 sx b7 o7 => ?_⟩)⟩
    · exact q _ _ _ _ b6 hw6 o6 (.int z) (gd_int hz) (by simp only [PyData.depth]; omega) (Int.le_refl _) (by simp only [nod]; omega)
    · exact q _ _ _ _ b7 (o7.get hw6 nw) (o6.trans (o7.mono sub)) (.str x) (sx.gd (by decide)) (by simp only [PyData.depth]; omega) (Int.le_refl _) (by simp only [nod]; omega)
end
abbrev sSpoilt : Stmt := topS 13
theorem scSpoilt : FnScope ["_law_box_here", "_law_value_here", "_law_at"] ["_law_box_here", "_law_value_here"] (defScope sSpoilt) :=
  ⟨rfl, rfl, rfl, by decide +kernel, rfl, by decide +kernel, by decide +kernel⟩
def spSpoil (K : PySem.W.Frag) (n : Nat) : Sp := fun vs H Q _ => ∃ p g v d l, vs = [.ref p, v] ∧ Box H p g ∧ Dp K (cut l H) v d ∧ gd d = true ∧ nod d ≤ 90000 ∧ d.depth < n ∧ p ∈ l ∧ g ∈ l ∧ Tr l H ∧
  ∀ v' d' H', Box H' p g → Off [p, g] H H' → Dp K (cut l H') v' d' → gd d' = true → d'.depth ≤ d.depth + 1 → nod d' ≤ nod d + 2 → Q v' H'
theorem eqv_nil (ds : List PyData) : PyData.eqv (.tuple ds) (.tuple []) = ds.isEmpty := by
  cases ds with
  | nil => simp only [PyData.eqv, PyData.eqvAll, List.isEmpty_nil]
  | cons d ds => simp only [PyData.eqv, PyData.eqvAll, List.isEmpty_cons]
theorem nods_split {ds : List PyData} {i : Nat} {e : PyData} (h : ds[i]? = some e) : nods ds = nods (ds.take i) + nod e + nods (ds.drop (i + 1)) := by
  have q := congrArg nods (List.take_append_drop (i + 1) ds)
  rw [nods_app, get_take h, nods_app] at q
  simp only [nods] at q
  omega
theorem gds_split {ds : List PyData} {i : Nat} {e : PyData} (h : ds[i]? = some e) (g : gds ds = true) : gds (ds.take i) = true ∧ gd e = true ∧ gds (ds.drop (i + 1)) = true := by
  have q := congrArg gds (List.take_append_drop (i + 1) ds)
  rw [gds_app, get_take h, gds_app, g] at q
  simp only [gds, Bool.and_true, Bool.and_eq_true] at q
  exact ⟨q.1.1, q.1.2, q.2⟩
theorem dps_split {ds : List PyData} {i : Nat} {e : PyData} (h : ds[i]? = some e) : PyData.depthAll (ds.take i) ≤ PyData.depthAll ds ∧ e.depth ≤ PyData.depthAll ds ∧ PyData.depthAll (ds.drop (i + 1)) ≤ PyData.depthAll ds := by
  have q := congrArg PyData.depthAll (List.take_append_drop (i + 1) ds)
  rw [depthAll_app, get_take h, depthAll_app] at q
  simp only [PyData.depthAll] at q
  omega
theorem DpAll.parts {K : PySem.W.Frag} {H : Hp} {xs : List V} {ds : List PyData} (h : DpAll K H xs ds) (i : Nat) : DpAll K H (xs.take i) (ds.take i) ∧ DpAll K H (xs.drop i) (ds.drop i) := by
  have lx := DpAll.len h
  obtain ⟨d1, d2, e, a, b⟩ := DpAll.unapp (xs := xs.take i) (ys := xs.drop i) (by rw [List.take_append_drop]; exact h)
  have la := DpAll.len a
  have lb := DpAll.len b
  rw [List.length_take] at la
  rw [List.length_drop] at lb
  subst e
  by_cases hi : i ≤ xs.length
  · have l1 : d1.length = i := by omega
    have e1 : (d1 ++ d2).take i = d1 := by rw [← l1]; exact List.take_left
    have e2 : (d1 ++ d2).drop i = d2 := by rw [← l1]; exact List.drop_left
    rw [e1, e2]
    exact ⟨a, b⟩
  · have l2 : d2 = [] := List.length_eq_zero_iff.mp (by omega)
    subst l2
    rw [List.append_nil, List.take_of_length_le (l := d1) (by omega), List.drop_of_length_le (l := d1) (by omega)]
    exact ⟨a, b⟩
section
variable {P : Program} {w : World} {K : PySem.W.Frag} {mg : Str → Option Value} {base : Heap} {f fT fO : Addr} {fd dT dO : FuncData}
theorem ok_spoilt {k n : Nat} (hn60 : n ≤ 60) (F : Fun K "_law_spoilt" "_law_spoilt" sSpoilt f fd) (B : Bi mg) (T : Tk P w K mg base fT dT) (GO : FnOk P w K mg base CX0 3 fO dO ["_law_box_here"] (spOdd K)) (kO : PySem.W.keepIn K (.ref fO) = true) (bO : Binds K dO ["_law_box_here"] []) (mO : mg "_law_odd" = some (.ref fO))
    (G : FnOk P w K mg base CX0 (k + 3) f fd ["_law_box_here", "_law_value_here"] (spSpoil K n)) (bS : Binds K fd ["_law_box_here", "_law_value_here"] []) (mS : mg "_law_spoilt" = some (.ref f)) :
    FnOk P w K mg base CX0 (k + 4) f fd ["_law_box_here", "_law_value_here"] (spSpoil K (n + 1)) := by
  refine F.ok scSpoilt (fun vs H Q E h => ?_) (fun cdv A outer s H vs Q E hr h => ?_)
  · obtain ⟨p, g, v, d, l, rfl, _⟩ := h
    rfl
  obtain ⟨p, g, v, d, l, rfl, hb, hd, hg, hn, hdep, pl, gl, tl, q⟩ := h
  have hr1 : Room 1 _ := hr.mono (by omega)
  have hrO : Room 3 _ := hr.mono (by omega)
  refine ⟨_, pss_cons (ps_if (PW.pt (pw_or (pt_not (pt_val (pe_callB call_isD (by rfl) B.ii b_ii (pa_cons (pv 1) (pa_cons (pe_bltn (by rfl) B.tup b_tup (v := .ty "tuple") rfl) pa_nil)))))
      (pw_or (pt_cmpR (op_eqD hr.units) (pv 1) (pe_tup pa_nil) (nomark _)) (pw_or1 (pt_cmpR op_eq (pe_call T.ok hr1 (by rfl) T.mg T.kp T.bd .nil pass0 (pa_cons (pv 0) (pa_cons pe_int pa_nil))) pe_int (nomark _))))))
      (pss_one (ps_ret (pe_call GO hrO (by rfl) mO kO bO .nil pass0 (pa_cons (pv 0) pa_nil)))) pss_nil)
    (pss_cons (ps_set (i := 2) scSpoilt.nd rfl (.inl rfl) (pe_call T.ok hr1 (by rfl) T.mg T.kp T.bd .nil pass0 (pa_cons (pv 0) (pa_cons (pe_callB call_len_seq (by rfl) B.len PySem.boot_len (pa_cons (pv 1) pa_nil)) pa_nil))))
    (pss_one (ps_ret (pe_op op_catU (pe_op op_catU (pe_slice sl_tupU (pv 1) po_none (po_some (pv 2)))
        (pe_tup (pa_cons (pe_call G hr (by rfl) mS F.kp bS .nil pass0 (pa_cons (pv 0) (pa_cons (pe_ix ix_tup (pv 1) (pv 2) (fun _ _ => rfl)) pa_nil))) pa_nil)))
        (pe_slice sl_tupU (pv 1) (po_some (pe_op op_add (pv 2) pe_int)) po_none))))), ?_⟩
  have npd := nod_pos d
  have odd : ∀ H2, Box H2 p g → Off [p, g] H H2 → spOdd K [.ref p] H2 Q E0 := fun H2 b2 o2 => by
    have t2 : Tr l H2 := tl.go o2 fun b hb => by
      have t := b2.tr
      simp only [List.mem_cons, List.not_mem_nil, or_false] at hb
      rcases hb with h | h
      · rw [h]; exact t.1
      · rw [h]; exact t.2
    exact ⟨p, g, l, rfl, b2, t2, fun v' d' H' k1 k2 k3 k4 k5 k6 => q v' d' H' k5 (o2.trans k6) k1 k2 (by omega) (by omega)⟩
  refine ⟨_, rfl, v, d, "tuple", _, rfl, Dp.up (cut_same l H) _ _ hd, kit_tup d, _, rfl, ?_⟩
  cases ht : isTup d with
  | false => exact iteT ⟨_, rfl, odd H hb (Off.refl _ _)⟩
  | true =>
    refine iteF ?_
    obtain ⟨a, xs, ds, rfl, rfl, hx, dx⟩ := tup_of hd ht
    simp only [gd] at hg
    simp only [nod] at hn
    simp only [PyData.depth] at hdep
    have sh : SeqAt.shaped (.tuple ds) = true := shaped_of (by simpa only [gd] using hg) (by simp only [PyData.depth]; omega)
    refine ⟨_, rfl, by decide, fun t ht2 => ?_⟩
    have s1 : Same H (upd H t (.tup [])) := same_new ht2 _
    have b1 := hb.same s1
    have o1 : Off [p, g] H (upd H t (.tup [])) := Off.of s1
    refine ⟨.tuple ds, .tuple [], Dp.up (Same.trans (cut_same l H) s1) _ _ hd, .tup (.inl (.inl upd_same)) .nil, sh, by decide +kernel, _, rfl, ?_⟩
    rw [eqv_nil]
    cases ds with
    | nil => exact iteT ⟨_, rfl, odd _ b1 o1⟩
    | cons d0 dr =>
      refine iteF ?_
      refine ⟨_, rfl, p, g, 5, rfl, b1, by decide, by decide, fun r5 H2 r50 r55 b2 o2 => ⟨rfl, _, rfl, ite2 (fun c => ⟨_, rfl, odd _ b2 (o1.trans o2)⟩) (fun c => ?_)⟩⟩
      have o2 := o1.trans o2
      have lsub : ∀ b ∈ [p, g], b ∈ l := fun b hb => by
        simp only [List.mem_cons, List.not_mem_nil, or_false] at hb
        rcases hb with h | h <;> rw [h] <;> assumption
      have trl : ∀ {H2 : Hp}, Box H2 p g → Off [p, g] H H2 → Tr l H2 := fun b2 o2 => tl.go o2 fun b hb => by
        have t := b2.tr
        simp only [List.mem_cons, List.not_mem_nil, or_false] at hb
        rcases hb with h | h
        · rw [h]; exact t.1
        · rw [h]; exact t.2
      have c2 := o2.mono lsub
      have lx := DpAll.len dx
      have ln := nods_len (d0 :: dr)
      have hx2 := seqT_up (c2.trans (Off.refl l H2)) hx
      have pos : 0 < xs.length := by rw [lx]; simp
      refine ⟨_, rfl, _, rfl, a, xs, rfl, .inr (seqT_cut hx2), p, g, _, rfl, b2, by omega, ?_, fun r H3 r0 r1 b3 o3 => ?_⟩
      · show xs.length < 2 ^ 200
        exact Nat.lt_of_le_of_lt (by omega : xs.length ≤ 100000) (by decide)
      have o3 := o2.trans o3
      have c3 := o3.mono lsub
      have hx3 := seqT_up c3 hx
      obtain ⟨y, hy, my, iy⟩ := atI_ok (xs := xs) r0 r1
      obtain ⟨e, he, de⟩ := DpAll.get dx iy
      -- value[:at]
      refine ⟨_, rfl, _, rfl, r, rfl, a, xs, l, rfl, hx3, trl b3 o3, fun c1 H4 s4 hc1 => ?_⟩
      rw [cutV_take xs r0 (by omega)] at hc1
      have b4 := b3.same s4
      have o4 := o3.trans (Off.of s4)
      have c4 := o4.mono lsub
      have sn := nods_split he
      have sg := gds_split he hg
      have sd := dps_split he
      refine ⟨_, rfl, _, rfl, _, rfl, a, xs, r, y, rfl, rfl, seqT_cut (seqT_up c4 hx), hy, p, g, y, e, l, rfl, b4, Dp.up c4 _ _ de, sg.2.1, by omega, by omega, pl, gl, trl b4 o4, fun v' d' H5 k1 k2 k3 k4 k5 k6 => ?_⟩
      have o5 := o4.trans k2
      refine ⟨few (by simp), fun t2 ht3 => ?_⟩
      have s6 : Same H5 (upd H5 t2 (.tup [v'])) := same_new ht3 _
      have b6 := k1.same s6
      have o6 := o5.trans (Off.of s6)
      have c6 := o6.mono lsub
      have tr6 := trl b6 o6
      have nt2 : t2 ∉ l := (trl k1 o5).out ht3
      have hc6 := seqT_up ((k2.mono lsub).trans (Off.of s6)) hc1
      have lt := List.length_take (i := r.toNat) (l := xs)
      refine ⟨c1, t2, _, _, l, rfl, rfl, hc6, .inl (.inl (by rw [cut_out nt2]; exact upd_same)), tr6, few2 (by rw [lt]; simp only [List.length_cons, List.length_nil]; omega), fun c2' H7 s7 hc7 => ?_⟩
      have b7 := b6.same s7
      have o7 := o6.trans (Off.of s7)
      have c7 := o7.mono lsub
      refine ⟨_, rfl, _, rfl, _, _, rfl, rfl, r + 1, rfl, a, xs, l, rfl, seqT_up c7 hx, trl b7 o7, fun c8 H8 s8 hc8 => ?_⟩
      rw [cutV_drop xs (by omega) (by omega)] at hc8
      have b8 := b7.same s8
      have o8 := o7.trans (Off.of s8)
      have c8' := o8.mono lsub
      have ld := List.length_drop (i := (r + 1).toNat) (l := xs)
      refine ⟨c2', c8, _, _, l, rfl, rfl, seqT_up (Off.of s8) hc7, hc8, trl b8 o8, few2 (by rw [List.length_append, ld, lt]; simp only [List.length_cons, List.length_nil]; omega), fun c9 H9 s9 hc9 => ?_⟩
      have b9 := b8.same s9
      have o9 := o8.trans (Off.of s9)
      have c9' := o9.mono lsub
      have er : (r + 1).toNat = r.toNat + 1 := by omega
      have da : DpAll K (cut l H9) (xs.take r.toNat ++ [v'] ++ xs.drop (r + 1).toNat) ((d0 :: dr).take r.toNat ++ [d'] ++ (d0 :: dr).drop (r.toNat + 1)) := by
        rw [er]
        have dx9 := Dp.ups c9' _ _ dx
        exact DpAll.app (DpAll.app (DpAll.parts dx9 _).1 (.cons (Dp.up ((((Off.of s6).trans (Off.of s7)).trans (Off.of s8)).trans (Off.of s9)) _ _ k3) .nil)) (DpAll.parts dx9 _).2
      refine q (.ref c9) _ H9 b9 o9 (.tup hc9 da) ?_ ?_ ?_
      · simp only [gd, gds_app, gds, sg.1, sg.2.2, k4, Bool.and_self]
      · simp only [PyData.depth, depthAll_app, PyData.depthAll] at sd ⊢
        omega
      · simp only [nod, nods_app, nods] at sn ⊢
        omega
end
abbrev sLIsVal : Stmt := topS 14
abbrev sLDepth : Stmt := topS 15
abbrev sInside : Stmt := topS 16
theorem scLIsVal : FnScope ["_law_thing", "_law_letters", "_law_part", "_law_one"] ["_law_thing"] (defScope sLIsVal) := ⟨rfl, rfl, rfl, by decide +kernel, rfl, by decide +kernel, by decide +kernel⟩
theorem scLDepth : FnScope ["_law_value_here", "_law_part"] ["_law_value_here"] (defScope sLDepth) := ⟨rfl, rfl, rfl, by decide +kernel, rfl, by decide +kernel, by decide +kernel⟩
theorem scInside : FnScope ["_law_thing", "_law_found", "_law_left", "_law_here"] ["_law_thing"] (defScope sInside) := ⟨rfl, rfl, rfl, by decide +kernel, rfl, by decide +kernel, by decide +kernel⟩
theorem isVals_all : ∀ ds : List PyData, isVals ds = (ds.map isVal).all id
  | [] => rfl
  | d :: ds => by simp only [isVals, List.map_cons, List.all_cons, isVals_all ds, id]
theorem alpha_list : ("abcdefghijklmnopqrstuvwxyz" : Str).cps.toList = (List.range 26).map (· + 97) := by decide +kernel
theorem alpha_mem (c : Nat) : decide (c ∈ ("abcdefghijklmnopqrstuvwxyz" : Str).cps.toList) = lowOk c := by
  rw [alpha_list]
  by_cases h : 97 ≤ c ∧ c ≤ 122
  · have m : c ∈ (List.range 26).map (· + 97) := List.mem_map.mpr ⟨c - 97, List.mem_range.mpr (by omega), by show c - 97 + 97 = c; omega⟩
    rw [decide_eq_true m]
    unfold lowOk
    rw [decide_eq_true h.1, decide_eq_true h.2]
    rfl
  · have m : ¬ c ∈ (List.range 26).map (· + 97) := fun z => by
      obtain ⟨b, hb, e⟩ := List.mem_map.mp z
      have := List.mem_range.mp hb
      have e : b + 97 = c := e
      omega
    rw [decide_eq_false m]
    unfold lowOk
    by_cases h1 : 97 ≤ c
    · rw [decide_eq_true h1, decide_eq_false (fun h2 => h ⟨h1, h2⟩)]
      rfl
    · rw [decide_eq_false h1]
      rfl
theorem eqv_nilL (ds : List PyData) : PyData.eqv (.list ds) (.list []) = ds.isEmpty := by
  cases ds with
  | nil => simp only [PyData.eqv, PyData.eqvAll, List.isEmpty_nil]
  | cons d ds => simp only [PyData.eqv, PyData.eqvAll, List.isEmpty_cons]
theorem strs_dp {K : PySem.W.Frag} {H : Hp} : ∀ cs : List Nat, DpAll K H (cs.map fun c => V.str ⟨#[c]⟩) (cs.map fun c => PyData.str ⟨#[c]⟩)
  | [] => .nil
  | _ :: cs => .cons (.str _) (strs_dp cs)
theorem strs_gd : ∀ cs : List Nat, (∀ c ∈ cs, c < 128) → gds (cs.map fun c => PyData.str ⟨#[c]⟩) = true ∧ PyData.depthAll (cs.map fun c => PyData.str ⟨#[c]⟩) = 0
  | [], _ => ⟨by simp only [List.map_nil, gds], by simp only [List.map_nil, PyData.depthAll]⟩
  | c :: cs, h => by
    have ih := strs_gd cs fun x hx => h x (List.mem_cons_of_mem _ hx)
    have hc : Sm 1 (⟨#[c]⟩ : Str) := ⟨Nat.le_refl _, fun d hd => by
      have hd : d ∈ [c] := hd
      rw [List.mem_singleton.mp hd]
      exact h c List.mem_cons_self⟩
    exact ⟨by simp only [List.map_cons, gds, ih.1, hc.gd (by decide), Bool.and_self], by simp only [List.map_cons, PyData.depthAll, PyData.depth, ih.2, Nat.max_self]⟩
section
variable {P : Program} {w : World} {K : PySem.W.Frag} {mg : Str → Option Value} {base : Heap} {f : Addr} {fd : FuncData}
theorem ok_lisVal {k n : Nat} (hn60 : n ≤ 60) (F : Fun K "_law_is_value" "_law_is_value" sLIsVal f fd) (B : Bi mg)
    (G : FnOk P w K mg base CX0 k f fd ["_law_thing"] (spLook K (fun d => gd d = true ∧ nod d ≤ 100000 ∧ d.depth < n) fun d => .bl (isVal d))) (bS : Binds K fd ["_law_thing"] []) (mS : mg "_law_is_value" = some (.ref f)) :
    FnOk P w K mg base CX0 (k + 1) f fd ["_law_thing"] (spLook K (fun d => gd d = true ∧ nod d ≤ 100000 ∧ d.depth < n + 1) fun d => .bl (isVal d)) := by
  refine F.ok scLIsVal (fun vs H Q E h => ?_) (fun cdv A outer s H vs Q E hr h => ?_)
  · obtain ⟨v, d, rfl, _⟩ := h
    rfl
  obtain ⟨v, d, rfl, hd, ⟨hg, hn, hdep⟩, q⟩ := h
  have q : ∀ H', Same H H' → Q (.bl (isVal d)) H' := q
  refine ⟨_, pss_cons (ps_if (pt_val (pe_callB call_isD (by rfl) B.ii b_ii (pa_cons (pv 0) (pa_cons (pe_bltn (by rfl) B.tup b_tup (v := .ty "tuple") rfl) pa_nil))))
      (pss_one (ps_ret (pe_callB (cr_all rfl) (by rfl) B.all b_all (pa_cons (pe_lc (own := [("_law_part", 2)]) (g := gName 2) (by rfl) scLIsVal.nd (pi_tup (pv 0))
        (blkOk_by (own := [("_law_part", 2)]) (N := ["_law_thing", "_law_letters", "_law_part", "_law_one"]) (sc := defScope sLIsVal) (by decide +kernel))
        (fun _ _ _ _ _ => pg_name (i := 2) scLIsVal.nd rfl (Or.inl rfl)) (fun _ _ _ _ _ => pts_nil) (fun _ _ _ _ _ => pe_call G hr (by rfl) mS F.kp bS .nil pass0 (pa_cons (pv 2) pa_nil))) pa_nil)))) pss_nil)
    (pss_cons (ps_if (PW.pt (pw_or (pt_val (pe_callB call_isD (by rfl) B.ii b_ii (pa_cons (pv 0) (pa_cons (pe_bltn (by rfl) B.bool b_bool (v := .ty "bool") rfl) pa_nil))))
        (pw_or1 (pt_val (pe_callB call_isD (by rfl) B.ii b_ii (pa_cons (pv 0) (pa_cons (pe_bltn (by rfl) B.int b_int (v := .ty "int") rfl) pa_nil)))))))
      (pss_one (ps_ret (pe_not (pe_callB call_isD (by rfl) B.ii b_ii (pa_cons (pv 0) (pa_cons (pe_bltn (by rfl) B.bool b_bool (v := .ty "bool") rfl) pa_nil)))))) pss_nil)
    (pss_cons (ps_set (i := 1) scLIsVal.nd rfl (.inr rfl) pe_str)
    (pss_one (ps_ret (pe_and (pe_callB call_isD (by rfl) B.ii b_ii (pa_cons (pv 0) (pa_cons (pe_bltn (by rfl) B.str b_str (v := .ty "str") rfl) pa_nil)))
      (pe_and (pe_chain op_le op_le pe_int (pe_callB call_len_str (by rfl) B.len PySem.boot_len (pa_cons (pv 0) pa_nil)) pe_int)
      (pe_one (pe_cmpR (op_eqD hr.units) (pe_lc (own := [("_law_one", 3)]) (g := gName 3) (by rfl) scLIsVal.nd (pi_str (pv 0))
        (blkOk_by (own := [("_law_one", 3)]) (N := ["_law_thing", "_law_letters", "_law_part", "_law_one"]) (sc := defScope sLIsVal) (by decide +kernel))
        (fun _ _ _ _ _ => pg_name (i := 3) scLIsVal.nd rfl (Or.inl rfl)) (fun _ _ _ _ _ => pts_one (pt_cmpR op_notIn_sign (pv 3) (pv 1) rfl)) (fun _ _ _ _ _ => pv 3)) (pe_lst pa_nil) (nomark _))))))))), ?_⟩
  refine ⟨_, rfl, v, d, "tuple", _, rfl, hd, kit_tup d, _, rfl, ?_⟩
  have same0 := Same.refl H
  cases ht : isTup d with
  | true =>
    obtain ⟨a, xs, ds, rfl, rfl, hx, dx⟩ := tup_of hd ht
    simp only [gd] at hg
    simp only [nod] at hn
    simp only [PyData.depth] at hdep
    have lx := DpAll.len dx
    have ln := nods_len ds
    refine iteT ⟨_, rfl, a, rfl, ⟨xs, hx⟩, fun D hD => along (walk_tup (K := K) (a := a) (xs := xs)) (fun i H2 => H2 D = some (.lst (((ds.take i).map isVal).map V.bl)) ∧ Same H H2) ⟨upd_same, same_new hD _⟩ (fun i H2 _ ⟨_, h⟩ => seqT_up h hx) ?_ ?_⟩
    · rintro i y H2 H3 hi ⟨h1, h2⟩ ⟨rfl, hy⟩
      obtain ⟨e, he, de⟩ := DpAll.get dx hy
      have me := List.mem_of_getElem? he
      have a1 := gds_mem hg me
      have a2 := nods_mem me
      have a3 := depth_mem me
      refine ⟨rfl, _, rfl, y, e, rfl, Dp.up h2 _ _ de, ⟨a1, by omega, by omega⟩, fun H4 s4 => ⟨_, s4 _ _ h1, ?_, ?_, ?_⟩⟩
      · rw [List.length_map, List.length_map, List.length_take]
        exact Nat.lt_of_le_of_lt (by omega : min i ds.length ≤ 100000) (by decide)
      · rw [upd_same, get_take he, List.map_append, List.map_append]
        rfl
      · intro b o z
        rw [upd_ne (ne_of_none z hD)]
        exact s4 b o (h2 b o z)
    · rintro H2 ⟨h1, h2⟩
      rw [List.take_of_length_le (by omega)] at h1
      refine ⟨D, _, rfl, SqL.of h1, ?_⟩
      have e : isVal (.tuple ds) = (ds.map isVal).all id := by
        rw [← isVals_all]
        simp only [isVal]
      rw [e] at q
      exact q H2 h2
  | false =>
    refine iteF ⟨_, rfl, v, d, "bool", _, rfl, hd, kit_bool d, _, rfl, ?_⟩
    cases hbo : isBool d with
    | true =>
      refine iteT ⟨_, rfl, v, d, "bool", _, rfl, hd, kit_bool d, _, rfl, ?_⟩
      have e : isVal d = !isBool d := by
        cases d with
        | bool b => simp only [isVal, isBool, Bool.not_true]
        | _ => cases hbo
      rw [e] at q
      exact q H same0
    | false =>
      refine iteF ⟨_, rfl, v, d, "int", _, rfl, hd, kit_int d, _, rfl, ?_⟩
      cases hin : isIntB d with
      | true =>
        refine iteT ⟨_, rfl, v, d, "bool", _, rfl, hd, kit_bool d, _, rfl, ?_⟩
        have e : isVal d = !isBool d := by
          cases d with
          | bool b => cases hbo
          | int i => simp only [isVal, isBool, Bool.not_false]
          | _ => cases hin
        rw [e] at q
        exact q H same0
      | false =>
        refine iteF ⟨_, rfl, v, d, "str", _, rfl, hd, kit_str d, _, rfl, ?_⟩
        cases hst : isStr d with
        | false =>
          refine iteF ?_
          have e : isVal d = false := by
            cases d with
            | tuple ds => cases ht
            | int i => cases hin
            | str x => cases hst
            | none => simp only [isVal]
            | bool b => simp only [isVal]
            | list b => simp only [isVal]
            | dict b => simp only [isVal]
          rw [e] at q
          exact q H same0
        | true =>
          obtain ⟨x, rfl⟩ : ∃ x, d = .str x := by cases d <;> first | exact ⟨_, rfl⟩ | cases hst
          cases hd
          have hx := gd_str hg
          have hlow : ∀ c ∈ x.cps.toList, c < 128 := by
            simp only [gd, Bool.and_eq_true, List.all_eq_true, decide_eq_true_eq] at hg
            exact hg.2
          have ev : isVal (.str x) = (decide (1 ≤ x.length) && decide (x.length ≤ 8) && x.cps.toList.all lowOk) := by simp only [isVal, isNm]
          rw [ev] at q
          refine iteT ⟨_, rfl, x, rfl, Nat.le_trans hx (by decide), _, _, rfl, rfl, _, rfl, ?_⟩
          by_cases c1 : 1 ≤ x.length
          · have c1' : (1 : Int) ≤ (x.length : Int) := by omega
            rw [decide_eq_true c1']
            refine iteT ⟨_, _, rfl, rfl, _, rfl, ?_⟩
            by_cases c2 : x.length ≤ 8
            · have c2' : (x.length : Int) ≤ 8 := by omega
              rw [decide_eq_true c2']
              refine iteT ⟨_, rfl, x, rfl, fun D hD => along walk_str (fun i H2 => ∃ cs : List Nat, cs = (x.cps.toList.take i).filter (fun c => !lowOk c) ∧ H2 D = some (.lst (cs.map fun c => V.str ⟨#[c]⟩)) ∧ Same H H2) ⟨[], rfl, upd_same, same_new hD _⟩ (fun _ _ _ _ => True.intro) ?_ ?_⟩
              · rintro i y H2 H3 hi ⟨cs, ec, h1, h2⟩ ⟨rfl, c, hc, rfl⟩
                refine ⟨rfl, _, rfl, _, rfl, c, _, rfl, rfl, ?_⟩
                have tk := get_take (cps_at hc)
                rw [alpha_mem]
                refine ⟨_, rfl, ?_⟩
                cases hl : lowOk c with
                | true =>
                  refine iteF ⟨cs, ?_, h1, h2⟩
                  rw [tk, List.filter_append, ec]
                  simp [hl]
                | false =>
                  refine iteT ⟨_, rfl, _, h1, ?_, cs ++ [c], ?_, ?_, ?_⟩
                  · rw [List.length_map, ec]
                    have := List.length_filter_le (fun c => !lowOk c) (x.cps.toList.take i)
                    rw [List.length_take] at this
                    have : x.cps.toList.length = x.length := by simp [len_cps]
                    exact small1000 (by omega)
                  · rw [tk, List.filter_append, ec]
                    simp [hl]
                  · rw [upd_same, List.map_append]
                    rfl
                  · intro b o z
                    rw [upd_ne (ne_of_none z hD)]
                    exact h2 b o z
              · rintro H2 ⟨cs, ec, h1, h2⟩
                rw [List.take_of_length_le (by simp)] at ec
                have sg := strs_gd cs (fun c hc => by rw [ec] at hc; exact hlow c (List.mem_filter.mp hc).1)
                refine ⟨by decide, fun t ht2 => ?_⟩
                have s3 : Same H2 (upd H2 t (.lst [])) := same_new ht2 _
                refine ⟨.list (cs.map fun c => PyData.str ⟨#[c]⟩), .list [], .lst (SqL.of (s3 _ _ h1)) (strs_dp cs), .lst (SqL.of upd_same) .nil, shaped_of (by simpa only [gd] using sg.1) (by simp only [PyData.depth, sg.2]; omega), by decide +kernel, ?_⟩
                rw [eqv_nilL]
                have e : (cs.map fun c => PyData.str ⟨#[c]⟩).isEmpty = x.cps.toList.all lowOk := by
                  rw [List.isEmpty_map, ec]
                  clear ec h1 sg q hlow c1 c2 c1' c2' ev
                  induction x.cps.toList with
                  | nil => rfl
                  | cons c l ih =>
                    cases hl : lowOk c with
                    | true => simpa [List.filter_cons, hl] using ih
                    | false => simp [List.filter_cons, hl]
                rw [e]
                rw [decide_eq_true c1, decide_eq_true c2, Bool.true_and, Bool.true_and] at q
                exact q _ (h2.trans s3)
            · have c2' : ¬ (x.length : Int) ≤ 8 := by omega
              rw [decide_eq_false c2']
              rw [decide_eq_false c2, Bool.and_false, Bool.false_and] at q
              exact iteF (q H same0)
          · have c1' : ¬ (1 : Int) ≤ (x.length : Int) := by omega
            rw [decide_eq_false c1']
            rw [decide_eq_false c1, Bool.false_and, Bool.false_and] at q
            exact iteF ⟨_, rfl, iteF (q H same0)⟩
theorem ok_ldepth {k n : Nat} (F : Fun K "_law_depth" "_law_depth" sLDepth f fd) (B : Bi mg) (mx : mg "max" = none)
    (G : FnOk P w K mg base CX0 k f fd ["_law_value_here"] (spLook K (fun d => nod d ≤ 90000 ∧ d.depth < n) fun d => .int (dep d))) (bS : Binds K fd ["_law_value_here"] []) (mS : mg "_law_depth" = some (.ref f)) :
    FnOk P w K mg base CX0 (k + 1) f fd ["_law_value_here"] (spLook K (fun d => nod d ≤ 90000 ∧ d.depth < n + 1) fun d => .int (dep d)) := by
  refine F.ok scLDepth (fun vs H Q E h => ?_) (fun cdv A outer s H vs Q E hr h => ?_)
  · obtain ⟨v, d, rfl, _⟩ := h
    rfl
  obtain ⟨v, d, rfl, hd, ⟨hn, hdep⟩, q⟩ := h
  have q : ∀ H', Same H H' → Q (.int (dep d)) H' := q
  refine ⟨_, pss_cons (ps_if (pt_not (pt_val (pe_callB call_isD (by rfl) B.ii b_ii (pa_cons (pv 0) (pa_cons (pe_bltn (by rfl) B.tup b_tup (v := .ty "tuple") rfl) pa_nil))))) (pss_one (ps_ret pe_int)) pss_nil)
    (pss_one (ps_ret (pe_op op_add pe_int (pe_callB (cr_max rfl) (by rfl) mx b_max (pa_cons (pe_op op_cat (pe_lc (own := [("_law_part", 1)]) (g := gName 1) (by rfl) scLDepth.nd (pi_tup (pv 0))
        (blkOk_by (own := [("_law_part", 1)]) (N := ["_law_value_here", "_law_part"]) (sc := defScope sLDepth) (by decide +kernel))
        (fun _ _ _ _ _ => pg_name (i := 1) scLDepth.nd rfl (Or.inl rfl)) (fun _ _ _ _ _ => pts_nil) (fun _ _ _ _ _ => pe_call G hr (by rfl) mS F.kp bS .nil pass0 (pa_cons (pv 1) pa_nil))) (pe_lst (pa_cons pe_int pa_nil))) pa_nil))))), ?_⟩
  refine ⟨_, rfl, v, d, "tuple", _, rfl, hd, kit_tup d, _, rfl, ?_⟩
  have same0 := Same.refl H
  cases ht : isTup d with
  | false =>
    rw [dep_no ht] at q
    exact iteT (q H same0)
  | true =>
    obtain ⟨a, xs, ds, rfl, rfl, hx, dx⟩ := tup_of hd ht
    simp only [nod] at hn
    simp only [PyData.depth] at hdep
    have lx := DpAll.len dx
    have ln := nods_len ds
    refine iteF ⟨_, rfl, a, rfl, ⟨xs, hx⟩, fun D hD => along (walk_tup (K := K) (a := a) (xs := xs)) (fun i H2 => H2 D = some (.lst (((ds.take i).map fun e => (dep e : Int)).map V.int)) ∧ Same H H2) ⟨upd_same, same_new hD _⟩ (fun i H2 _ ⟨_, h⟩ => seqT_up h hx) ?_ ?_⟩
    · rintro i y H2 H3 hi ⟨h1, h2⟩ ⟨rfl, hy⟩
      obtain ⟨e, he, de⟩ := DpAll.get dx hy
      have me := List.mem_of_getElem? he
      have a2 := nods_mem me
      have a3 := depth_mem me
      refine ⟨rfl, _, rfl, y, e, rfl, Dp.up h2 _ _ de, ⟨by omega, by omega⟩, fun H4 s4 => ⟨_, s4 _ _ h1, ?_, ?_, ?_⟩⟩
      · rw [List.length_map, List.length_map, List.length_take]
        exact Nat.lt_of_le_of_lt (by omega : min i ds.length ≤ 100000) (by decide)
      · rw [upd_same, get_take he, List.map_append, List.map_append]
        rfl
      · intro b o z
        rw [upd_ne (ne_of_none z hD)]
        exact s4 b o (h2 b o z)
    · rintro H2 ⟨h1, h2⟩
      rw [List.take_of_length_le (by omega)] at h1
      refine ⟨few (by simp), fun t ht2 => ?_⟩
      have s3 : Same H2 (upd H2 t (.lst [.int 0])) := same_new ht2 _
      refine ⟨D, t, _, _, rfl, rfl, s3 _ _ h1, upd_same, few2 (by rw [List.length_map, List.length_map]; simp only [List.length_cons, List.length_nil]; omega), fun u hu => ?_⟩
      have s4 := s3.trans (same_new hu (.lst (((ds.map fun e => (dep e : Int)).map V.int) ++ [.int 0])))
      refine ⟨u, (ds.map fun e => (dep e : Int)) ++ [0], rfl, SqL.of (by rw [upd_same, List.map_append]; rfl), by simp, fun m hm hle => ?_⟩
      have key : ∀ ds : List PyData, ∀ m : Int, m ∈ (ds.map fun e => (dep e : Int)) ++ [0] → (∀ x ∈ (ds.map fun e => (dep e : Int)) ++ [0], x ≤ m) → m = (deps ds : Int) := by
        intro ds
        induction ds with
        | nil =>
          intro m hm _
          simp at hm
          simp only [deps]
          omega
        | cons e r ih =>
          intro m hm hle
          have h0 := hle (dep e : Int) (by simp)
          have hr : ∀ x ∈ (r.map fun e => (dep e : Int)) ++ [0], x ≤ m := fun x hx => hle x (by simp only [List.map_cons, List.cons_append]; exact List.mem_cons_of_mem _ hx)
          simp only [List.map_cons, List.cons_append] at hm
          -- the greatest of the rest
          have up : ∀ l : List PyData, (∀ x ∈ (l.map fun e => (dep e : Int)) ++ [0], x ≤ m) → (deps l : Int) ≤ m := by
            intro l
            induction l with
            | nil =>
              intro h
              have := h 0 (by simp)
              simp only [deps]
              omega
            | cons e l ih =>
              intro h
              have h1 := h (dep e : Int) (by simp)
              have h2 := ih fun x hx => h x (by simp only [List.map_cons, List.cons_append]; exact List.mem_cons_of_mem _ hx)
              simp only [deps]
              omega
          have ur := up r hr
          rcases List.mem_cons.mp hm with z | z
          · simp only [deps]
            omega
          · have := ih m z hr
            simp only [deps]
            omega
      have em := key ds m hm (fun x hx => by first | exact hle x hx | exact Int.not_lt.mp (hle x hx))
      refine ⟨_, _, rfl, rfl, ?_⟩
      have e : ((dep (.tuple ds) : Nat) : Int) = 1 + m := by
        rw [em]
        simp only [dep]
        omega
      rw [e] at q
      exact q _ (h2.trans s4)
def spInside (K : PySem.W.Frag) : Sp := fun vs H Q _ => ∃ v d, vs = [v] ∧ Dp K H v d ∧ gd d = true ∧ nod d ≤ 90000 ∧ d.depth ≤ 60 ∧
  ∀ a H' xs ds, Same H H' → H a = none → H' a = some (.lst xs) → DpAll K H xs ds → gds ds = true → (∀ e ∈ ds, nod e ≤ nod d ∧ e.depth ≤ d.depth) → xs.length ≤ nod d → Q (.ref a) H'
theorem ok_inside {k : Nat} (F : Fun K "_law_inside" "_law_inside" sInside f fd) (B : Bi mg) (ml : mg "list" = none) : FnOk P w K mg base CX0 (k + 1) f fd ["_law_thing"] (spInside K) := by
  refine F.ok scInside (fun vs H Q E h => ?_) (fun cdv A outer s H vs Q E hr h => ?_)
  · obtain ⟨v, d, rfl, _⟩ := h
    rfl
  obtain ⟨v, d, rfl, hd, hg, hn, hdep, q⟩ := h
  refine ⟨_, pss_cons (ps_par (i := 1) (j := 2) (by rfl) scInside.nd rfl rfl (by decide) rfl rfl (pa_cons (pe_lst pa_nil) (pa_cons (pe_lst (pa_cons (pv 0) pa_nil)) pa_nil)) (by rfl))
    (pss_cons (ps_while PassesOwn.never (pt_cmpR (op_neD hr.units) (pv 2) (pe_lst pa_nil) (nomark _))
      (pss_cons (ps_set (i := 3) scInside.nd rfl (.inl rfl) (pe_bm0 PySem.F.plainAttrs_list PySem.F.slot_list_pop PySem.F.type_list_pop mt_pop (pv 2)))
      (pss_cons (ps_expr (pe_bm PySem.F.plainAttrs_list PySem.F.slot_list_append PySem.F.type_list_append mt_append (pv 1) (pa_cons (pv 3) pa_nil)))
      (pss_one (ps_if (pt_val (pe_callB call_isD (by rfl) B.ii b_ii (pa_cons (pv 3) (pa_cons (pe_bltn (by rfl) B.tup b_tup (v := .ty "tuple") rfl) pa_nil))))
        (pss_one (ps_expr (pe_bm PySem.F.plainAttrs_list PySem.F.slot_list_extend PySem.F.type_list_extend mt_extend (pv 2) (pa_cons (pe_callTy call_list_of (by rfl) ml b_list (pa_cons (pv 3) pa_nil)) pa_nil)))) pss_nil)))))
    (pss_one (ps_ret (pv 1)))), ?_⟩
  refine ⟨by decide, fun L1 h1 => ⟨_, rfl, few (by simp), fun L2 h2 => ⟨_, _, rfl, ?_⟩⟩⟩
  have n12 : L1 ≠ L2 := ne_of_none upd_same h2
  have hL2 : H L2 = none := (same_new (o := .lst []) h1).free h2
  refine ⟨fun m σ H2 => ∃ xs ys ds es o, σ = [some v, some (.ref L1), some (.ref L2), o] ∧ H2 L1 = some (.lst ys) ∧ H2 L2 = some (.lst xs) ∧ DpAll K H xs ds ∧ DpAll K H ys es ∧ gds ds = true ∧ gds es = true ∧
      (∀ e ∈ ds ++ es, nod e ≤ nod d ∧ e.depth ≤ d.depth) ∧ m = nods ds ∧ nods ds + ys.length ≤ nod d ∧ Same H H2,
    ⟨nods [d], [v], [], [d], [], none, rfl, by rw [upd_ne n12]; exact upd_same, upd_same, .cons hd .nil, .nil, by simp only [gds, hg, Bool.and_self], by simp only [gds], fun e he => by
      simp only [List.append_nil, List.mem_singleton] at he
      rw [he]
      exact ⟨Nat.le_refl _, Nat.le_refl _⟩, rfl, by simp only [nods, List.length_nil]; omega, (same_new h1 _).trans (same_new h2 _)⟩, ?_⟩
  rintro m σ H2 ⟨xs, ys, ds, es, o, rfl, hy, hx, dx, dy, gx, gy, sub, rfl, cnt, sm⟩
  have lx := DpAll.len dx
  have ln := nods_len ds
  have dpx : PyData.depthAll ds ≤ d.depth := by
    have key : ∀ l : List PyData, (∀ e ∈ l, e.depth ≤ d.depth) → PyData.depthAll l ≤ d.depth := by
      intro l
      induction l with
      | nil =>
        intro _
        simp only [PyData.depthAll]
        omega
      | cons e l ih =>
        intro h
        have h1 := h e List.mem_cons_self
        have h2 := ih fun x hx => h x (List.mem_cons_of_mem _ hx)
        simp only [PyData.depthAll]
        omega
    exact key ds fun e he => (sub e (List.mem_append_left _ he)).2
  refine ⟨_, rfl, by decide, fun t ht => ?_⟩
  have s3 : Same H2 (upd H2 t (.lst [])) := same_new ht _
  have sm3 := sm.trans s3
  refine ⟨.list ds, .list [], .lst (SqL.of (s3 _ _ hx)) (Dp.ups sm3 _ _ dx), .lst (SqL.of upd_same) .nil, shaped_of (by simpa only [gd] using gx) (by simp only [PyData.depth]; omega), by decide +kernel, _, rfl, ?_⟩
  rw [eqv_nilL]
  by_cases ex : xs = []
  · subst ex
    cases dx
    exact iteF ⟨_, rfl, q L1 _ ys es sm3 h1 (s3 _ _ hy) dy gy (fun e he => sub e (List.mem_append_right _ he)) (by omega)⟩
  · have e1 : ds.isEmpty = false := by
      cases ds with
      | nil => exact absurd (List.length_eq_zero_iff.mp lx) ex
      | cons d ds => rfl
    rw [e1]
    obtain ⟨xs', y, ds', e, rfl, rfl, da', de⟩ := DpAll.last dx ex
    rw [gds_app] at gx
    rw [nods_app] at cnt ⊢
    simp only [gds, nods, Bool.and_true, Nat.add_zero, Bool.and_eq_true] at gx cnt ⊢
    have pe := nod_pos e
    refine iteT ⟨fun σ' H4 => ∃ m', m' < nods ds' + nod e ∧ ∃ xs ys ds es o, σ' = [some v, some (.ref L1), some (.ref L2), o] ∧ H4 L1 = some (.lst ys) ∧ H4 L2 = some (.lst xs) ∧ DpAll K H xs ds ∧ DpAll K H ys es ∧ gds ds = true ∧ gds es = true ∧
      (∀ e ∈ ds ++ es, nod e ≤ nod d ∧ e.depth ≤ d.depth) ∧ m' = nods ds ∧ nods ds + ys.length ≤ nod d ∧ Same H H4, fun _ _ z => z, ?_⟩
    have hx3 := s3 _ _ hx
    have hy3 := s3 _ _ hy
    have sm4 : Same H (upd (upd H2 t (.lst [])) L2 (.lst xs')) := fun b u z => by
      rw [upd_ne (ne_of_none z hL2)]
      exact sm3 b u z
    refine ⟨_, rfl, .inl ⟨rfl, _, SqL.of hx3⟩, L2, _, y, rfl, rfl, hx3, last_at _ _, ?_⟩
    rw [drop_last]
    have hy4 : (upd (upd H2 t (.lst [])) L2 (.lst xs')) L1 = some (.lst ys) := by
      rw [upd_ne n12]
      exact hy3
    refine ⟨_, rfl, .inl ⟨rfl, _, SqL.of hy4⟩, _, rfl, L1, _, _, rfl, rfl, hy4, Nat.lt_of_le_of_lt (by omega : ys.length ≤ 100000) (by decide), ?_⟩
    have sm5 : Same H (upd (upd (upd H2 t (.lst [])) L2 (.lst xs')) L1 (.lst (ys ++ [y]))) := fun b u z => by
      rw [upd_ne (ne_of_none z h1)]
      exact sm4 b u z
    refine ⟨_, rfl, y, e, "tuple", _, rfl, Dp.up sm5 _ _ de, kit_tup e, _, rfl, ?_⟩
    have hy5 : (upd (upd (upd H2 t (.lst [])) L2 (.lst xs')) L1 (.lst (ys ++ [y]))) L1 = some (.lst (ys ++ [y])) := upd_same
    have hx5 : (upd (upd (upd H2 t (.lst [])) L2 (.lst xs')) L1 (.lst (ys ++ [y]))) L2 = some (.lst xs') := by
      rw [upd_ne n12.symm]
      exact upd_same
    have sub2 : ∀ e' ∈ ds' ++ (es ++ [e]), nod e' ≤ nod d ∧ e'.depth ≤ d.depth := fun e' he => by
      simp only [List.mem_append, List.mem_singleton] at he
      apply sub
      simp only [List.mem_append, List.mem_singleton]
      rcases he with h | h | h
      · exact .inl (.inl h)
      · exact .inr h
      · exact .inl (.inr h)
    cases ht2 : isTup e with
    | false =>
      exact iteF ⟨nods ds', by omega, xs', ys ++ [y], ds', es ++ [e], _, rfl, hy5, hx5, da', DpAll.app dy (.cons de .nil), gx.1, by rw [gds_app, gy]; simp only [gds, gx.2, Bool.and_self], sub2, rfl, by rw [List.length_append, List.length_singleton]; omega, sm5⟩
    | true =>
      obtain ⟨a, zs, fs, rfl, rfl, hz, dz⟩ := tup_of de ht2
      have lz := DpAll.len dz
      have lf := nods_len fs
      have lx' := DpAll.len da'
      have lf' := nods_len ds'
      have sube := sub2 (.tuple fs) (by simp)
      simp only [nod, gd, PyData.depth] at cnt gx sube ⊢
      refine ⟨_, rfl, .inl ⟨rfl, _, SqL.of hx5⟩, _, rfl, a, zs, rfl, .inr (seqT_up sm5 hz), fun u hu => ?_⟩
      have nu2 : L2 ≠ u := ne_of_none hx5 hu
      have nu1 : L1 ≠ u := ne_of_none hy5 hu
      have hsz : xs'.length + zs.length ≤ sizeLine := few2 (by omega)
      refine ⟨L2, u, xs', zs, rfl, rfl, by rw [upd_ne nu2]; exact hx5, upd_same, hsz, ?_⟩
      refine ⟨nods (ds' ++ fs), by rw [nods_app]; omega, xs' ++ zs, ys ++ [.ref a], ds' ++ fs, es ++ [.tuple fs], _, rfl, ?_, upd_same, DpAll.app da' dz, DpAll.app dy (.cons de .nil), by rw [gds_app, gx.1, gx.2]; rfl, by rw [gds_app, gy]; simp only [gds, gd, gx.2, Bool.and_self], ?_, rfl, ?_, ?_⟩
      · rw [upd_ne n12, upd_ne nu1]
        exact hy5
      · intro e' he
        rcases List.mem_append.mp he with h | h
        · rcases List.mem_append.mp h with h | h
          · exact sub2 e' (List.mem_append_left _ h)
          · have a1 := nods_mem h
            have a2 := depth_mem h
            omega
        · exact sub2 e' (List.mem_append_right _ h)
      · rw [nods_app, List.length_append, List.length_singleton]
        omega
      · intro b o2 z
        rw [upd_ne (ne_of_none z hL2), upd_ne (ne_of_none (sm5 b o2 z) hu)]
        exact sm5 b o2 z
end
abbrev sRight : Stmt := topS 17
theorem scRight : FnScope ["_law_thing", "_law_due", "_law_kept", "_law_kind"] ["_law_thing"] (defScope sRight) := ⟨rfl, rfl, rfl, by decide +kernel, rfl, by decide +kernel, by decide +kernel⟩
theorem okG {P : Program} {w : World} {K : PySem.W.Frag} {mg : Str → Option Value} {base : Heap} {x qual : Str} {st : Stmt} {f : Addr} {fd : FuncData} {N ps : List Str} {k : Nat} {sp : Sp} (F : Fun K x qual st f fd) (S : FnScope N ps (defScope st))
    (len : ∀ ws H Q E, sp ws H Q E → ws.length = ps.length)
    (hb : ∀ (cdv : Value) (A : Around) (outer : List Env) (s : Shared) (H : Hp) (vs : List V) (Q : VK) (E : XK), A.guards = some [] → Room k (A.deeper (envOfC qual (defScope st) s.heap.objs.size f cdv)) → sp vs H Q E →
      ∃ t, PSs (cxOf CX0 P w K mg base N qual (defScope st) f cdv A outer s H E).nox (defBody st) t ∧ t { nx := fun _ H' => Q .non H', rt := Q } (start N vs) H) : FnG P w K mg base CX0 (k + 1) f fd ps sp := by
  obtain ⟨oc, od, kV, doc, pm, an, cdv, ct, osl, rfl, lk, hcd⟩ := F.ex
  refine fnG_of lk hcd S len ?_
  intro A outer s H vs Q E hg hr hsp
  obtain ⟨t, h, q⟩ := hb cdv A outer s H vs Q E hg hr hsp
  exact ⟨t, h.nox, q⟩
mutual
theorem dep_le : ∀ d : PyData, dep d ≤ d.depth
  | .tuple ds => by
    have := deps_le ds
    simp only [dep, PyData.depth]
    omega
  | .none => by simp only [dep]; omega
  | .bool _ => by simp only [dep]; omega
  | .int _ => by simp only [dep]; omega
  | .str _ => by simp only [dep]; omega
  | .list _ => by simp only [dep]; omega
  | .dict _ => by simp only [dep]; omega
theorem deps_le : ∀ ds : List PyData, deps ds ≤ PyData.depthAll ds
  | [] => Nat.le_refl _
  | d :: ds => by
    have h1 := dep_le d
    have h2 := deps_le ds
    simp only [deps, PyData.depthAll]
    omega
end
theorem kindS_sm (d : PyData) : Sm 8 (kindS d) := by
  have h1 : Sm 8 ("tuple" : Str) := Sm.of (by decide +kernel)
  have h2 : Sm 8 ("atom" : Str) := Sm.of (by decide +kernel)
  have h3 : Sm 8 ("integer" : Str) := Sm.of (by decide +kernel)
  cases d <;> assumption
theorem bool_prn (b : Bool) : Prn (.bool b) := prn_of (by simp only [gd]) (by simp only [nod]; omega) (by simp only [PyData.depth]; omega)
section
variable {P : Program} {w : World} {K : PySem.W.Frag} {mg : Str → Option Value} {base : Heap}
def okRight (d : PyData) : Prop := gd d = true ∧ nod d ≤ 8000 ∧ d.depth < 40
theorem ok_right {f fV fK fD fL fE : Addr} {fd dV dK dD dL dE : FuncData} (F : Fun K "_law_right" "_law_right" sRight f fd) (B : Bi mg)
    (GV : FnOk P w K mg base CX0 2 fV dV ["thing"] (spLook K (fun d => gd d = true ∧ nod d ≤ 100000) fun d => .bl (isVal d))) (kV : PySem.W.keepIn K (.ref fV) = true) (bV : Binds K dV ["thing"] []) (mV : mg "is_value" = some (.ref fV))
    (GK : FnOk P w K mg base CX0 1 fK dK ["value"] (spLook K (fun _ => True) fun d => .str (kindS d))) (kK : PySem.W.keepIn K (.ref fK) = true) (bK : Binds K dK ["value"] []) (mK : mg "kind_of" = some (.ref fK))
    (GD : FnOk P w K mg base CX0 1 fD dD ["value"] (spLook K (fun d => nod d ≤ 100000) fun d => .int (dep d))) (kD : PySem.W.keepIn K (.ref fD) = true) (bD : Binds K dD ["value"] []) (mD : mg "depth_of" = some (.ref fD))
    (GL : FnOk P w K mg base CX0 40 fL dL ["_law_thing"] (spLook K (fun d => gd d = true ∧ nod d ≤ 100000 ∧ d.depth < 40) fun d => .bl (isVal d))) (kL : PySem.W.keepIn K (.ref fL) = true) (bL : Binds K dL ["_law_thing"] []) (mL : mg "_law_is_value" = some (.ref fL))
    (GE : FnOk P w K mg base CX0 40 fE dE ["_law_value_here"] (spLook K (fun d => nod d ≤ 90000 ∧ d.depth < 40) fun d => .int (dep d))) (kE : PySem.W.keepIn K (.ref fE) = true) (bE : Binds K dE ["_law_value_here"] []) (mE : mg "_law_depth" = some (.ref fE)) :
    FnG P w K mg base CX0 41 f fd ["_law_thing"] (spLook K okRight fun _ => .bl true) := by
  refine okG F scRight (fun vs H Q E h => ?_) (fun cdv A outer s H vs Q E hgd hr h => ?_)
  · obtain ⟨v, d, rfl, _⟩ := h
    rfl
  obtain ⟨v, d, rfl, hd, ⟨hg, hn, hdep⟩, q⟩ := h
  have q : ∀ H', Same H H' → Q (.bl true) H' := q
  refine ⟨_, pss_cons (ps_par (i := 1) (j := 2) (by rfl) scRight.nd rfl rfl (by decide) rfl rfl (pa_cons (pe_call GL hr (by rfl) mL kL bL .nil pass0 (pa_cons (pv 0) pa_nil))
      (pa_cons (pe_callB (call_rep hgd hr.units) (by rfl) B.rep b_rep (pa_cons (pv 0) pa_nil)) pa_nil)) (by rfl))
    (pss_cons (ps_if (PW.pt (pw_or (pt_cmpR op_ne (pe_callB (call_rep hgd hr.units) (by rfl) B.rep b_rep (pa_cons (pe_call GV (hr.mono (by decide)) (by rfl) mV kV bV .nil pass0 (pa_cons (pv 0) pa_nil)) pa_nil))
        (pe_callB (call_rep hgd hr.units) (by rfl) B.rep b_rep (pa_cons (pv 1) pa_nil)) (nomark _))
        (pw_or1 (pt_cmpR op_ne (pe_callB (call_rep hgd hr.units) (by rfl) B.rep b_rep (pa_cons (pv 0) pa_nil)) (pv 2) (nomark _))))) (pss_one (ps_ret pe_bl)) pss_nil)
    (pss_cons (ps_if (pt_not (pt_val (pv 1))) (pss_one (ps_ret pe_bl)) pss_nil)
    (pss_cons (ps_set (i := 3) scRight.nd rfl (.inl rfl) (pe_ifExp (pt_val (pe_callB call_isD (by rfl) B.ii b_ii (pa_cons (pv 0) (pa_cons (pe_bltn (by rfl) B.tup b_tup (v := .ty "tuple") rfl) pa_nil)))) pe_str
        (pe_ifExp (pt_val (pe_callB call_isD (by rfl) B.ii b_ii (pa_cons (pv 0) (pa_cons (pe_bltn (by rfl) B.str b_str (v := .ty "str") rfl) pa_nil)))) pe_str pe_str)))
    (pss_one (ps_ret (pe_cmpR op_eq (pe_callB (call_rep hgd hr.units) (by rfl) B.rep b_rep (pa_cons (pe_lst (pa_cons (pe_call GK (hr.mono (by decide)) (by rfl) mK kK bK .nil pass0 (pa_cons (pv 0) pa_nil))
        (pa_cons (pe_call GD (hr.mono (by decide)) (by rfl) mD kD bD .nil pass0 (pa_cons (pv 0) pa_nil)) pa_nil))) pa_nil))
        (pe_callB (call_rep hgd hr.units) (by rfl) B.rep b_rep (pa_cons (pe_lst (pa_cons (pv 3) (pa_cons (pe_call GE hr (by rfl) mE kE bE .nil pass0 (pa_cons (pv 0) pa_nil)) pa_nil))) pa_nil)) (nomark _))))))), ?_⟩
  have pr : Prn d := prn_of hg hn (by omega)
  refine ⟨_, rfl, v, d, rfl, hd, ⟨hg, by omega, by omega⟩, fun H1 s1 => ⟨_, rfl, v, d, rfl, Dp.up s1 _ _ hd, pr, ⟨_, _, rfl, ?_⟩⟩⟩
  refine ⟨_, rfl, v, d, rfl, Dp.up s1 _ _ hd, ⟨hg, by omega⟩, fun H2 s2 => ⟨_, .bool (isVal d), rfl, .bl _, bool_prn _, _, rfl, _, .bool (isVal d), rfl, .bl _, bool_prn _, rfl, _, rfl, ?_⟩⟩
  have s2 := s1.trans s2
  rw [decide_eq_true rfl]
  refine iteF ⟨_, rfl, v, d, rfl, Dp.up s2 _ _ hd, pr, _, rfl, rfl, _, rfl, ?_⟩
  rw [decide_eq_true rfl]
  refine iteF ?_
  refine ⟨_, rfl, _, rfl, ?_⟩
  cases hv : isVal d with
  | false => exact iteT (q H2 s2)
  | true =>
    refine iteF ⟨_, rfl, v, d, "tuple", _, rfl, Dp.up s2 _ _ hd, kit_tup d, _, rfl, ?_⟩
    have pl : Prn (.list [.str (kindS d), .int (dep d)]) := by
      have dl := dep_le d
      have gi : gd (.int (dep d)) = true := gd_int (Nat.lt_of_le_of_lt (by omega : (((dep d : Nat) : Int)).natAbs ≤ 40) (Nat.lt_of_lt_of_le (by decide : 40 < 2 ^ 10) (Nat.pow_le_pow_right (by decide) (by decide))))
      have gk := (kindS_sm d).gd (by decide)
      refine prn_of ?_ ?_ ?_
      · simp only [gd, gds] at gi gk ⊢
        rw [gi, gk]
        rfl
      · simp only [nod, nods]
        omega
      · simp only [PyData.depth, PyData.depthAll]
        omega
    cases ht : isTup d with
    | true =>
      have ek : kindS d = "tuple" := by cases d <;> first | rfl | exact absurd (show false = true from ht) (by decide)
      refine iteT ?_
      rw [← ek]
      refine ⟨_, rfl, v, d, rfl, Dp.up s2 _ _ hd, True.intro, fun H3 s3 => ⟨_, rfl, v, d, rfl, Dp.up (s2.trans s3) _ _ hd, by omega, fun H4 s4 => ⟨few (by simp), fun p1 hp1 => ?_⟩⟩⟩
      have s5 := s2.trans (s3.trans (s4.trans (same_new (o := .lst [V.str (kindS d), V.int (dep d)]) hp1)))
      refine ⟨_, _, rfl, .lst (SqL.of upd_same) (.cons (.str _) (.cons (.int _) .nil)), pl, ?_⟩
      refine ⟨_, rfl, _, rfl, v, d, rfl, Dp.up s5 _ _ hd, ⟨by omega, hdep⟩, fun H6 s6 => ⟨few (by simp), fun p2 hp2 => ?_⟩⟩
      refine ⟨_, _, rfl, .lst (SqL.of upd_same) (.cons (.str _) (.cons (.int _) .nil)), pl, rfl, ?_⟩
      rw [decide_eq_true rfl]
      exact q _ (s5.trans (s6.trans (same_new hp2 _)))
    | false =>
      refine iteF ⟨_, rfl, v, d, "str", _, rfl, Dp.up s2 _ _ hd, kit_str d, _, rfl, ?_⟩
      cases hs : isStr d with
      | true =>
        have ek : kindS d = "atom" := by cases d <;> first | rfl | exact absurd (show false = true from hs) (by decide)
        refine iteT ?_
        rw [← ek]
        refine ⟨_, rfl, v, d, rfl, Dp.up s2 _ _ hd, True.intro, fun H3 s3 => ⟨_, rfl, v, d, rfl, Dp.up (s2.trans s3) _ _ hd, by omega, fun H4 s4 => ⟨few (by simp), fun p1 hp1 => ?_⟩⟩⟩
        have s5 := s2.trans (s3.trans (s4.trans (same_new (o := .lst [V.str (kindS d), V.int (dep d)]) hp1)))
        refine ⟨_, _, rfl, .lst (SqL.of upd_same) (.cons (.str _) (.cons (.int _) .nil)), pl, ?_⟩
        refine ⟨_, rfl, _, rfl, v, d, rfl, Dp.up s5 _ _ hd, ⟨by omega, hdep⟩, fun H6 s6 => ⟨few (by simp), fun p2 hp2 => ?_⟩⟩
        refine ⟨_, _, rfl, .lst (SqL.of upd_same) (.cons (.str _) (.cons (.int _) .nil)), pl, rfl, ?_⟩
        rw [decide_eq_true rfl]
        exact q _ (s5.trans (s6.trans (same_new hp2 _)))
      | false =>
        have ek : kindS d = "integer" := by cases d <;> first | rfl | exact absurd (show true = false from ht) (by decide) | exact absurd (show true = false from hs) (by decide)
        refine iteF ?_
        rw [← ek]
        refine ⟨_, rfl, v, d, rfl, Dp.up s2 _ _ hd, True.intro, fun H3 s3 => ⟨_, rfl, v, d, rfl, Dp.up (s2.trans s3) _ _ hd, by omega, fun H4 s4 => ⟨few (by simp), fun p1 hp1 => ?_⟩⟩⟩
        have s5 := s2.trans (s3.trans (s4.trans (same_new (o := .lst [V.str (kindS d), V.int (dep d)]) hp1)))
        refine ⟨_, _, rfl, .lst (SqL.of upd_same) (.cons (.str _) (.cons (.int _) .nil)), pl, ?_⟩
        refine ⟨_, rfl, _, rfl, v, d, rfl, Dp.up s5 _ _ hd, ⟨by omega, hdep⟩, fun H6 s6 => ⟨few (by simp), fun p2 hp2 => ?_⟩⟩
        refine ⟨_, _, rfl, .lst (SqL.of upd_same) (.cons (.str _) (.cons (.int _) .nil)), pl, rfl, ?_⟩
        rw [decide_eq_true rfl]
        exact q _ (s5.trans (s6.trans (same_new hp2 _)))
end
abbrev sLaw : Stmt := topS 18
theorem scLaw : FnScope ["_law_script", "_law_box_here", "_law_things", "_law_great", "_law_turn", "_law_value_here", "_law_thing", "_law_inner"] ["_law_script"] (defScope sLaw) :=
  ⟨rfl, rfl, rfl, by decide +kernel, rfl, by decide +kernel, by decide +kernel⟩
/-- a def of the top that keeps a promise -/
structure Dn (P : Program) (w : World) (K : PySem.W.Frag) (mg : Str → Option Value) (base : Heap) (lvl : Nat) (nm : Str) (ps : List Str) (sp : Sp) (f : Addr) (fd : FuncData) : Prop where
  ok : FnOk P w K mg base CX0 lvl f fd ps sp
  kp : PySem.W.keepIn K (.ref f) = true
  bd : Binds K fd ps []
  mg : mg nm = some (.ref f)
def spLaw (K : PySem.W.Frag) : Sp := fun vs H Q _ => ∃ (a : Addr) (ns : List Int), vs = [.ref a] ∧ SqL K H a (ns.map V.int) ∧ ns.length ≤ 63 ∧ ∀ H', Q (.bl true) H'
def okThing (d : PyData) : Prop := gd d = true ∧ nod d ≤ 8000 ∧ d.depth < 40
theorem cut_less {l m : List Addr} {H : Hp} (h : ∀ b ∈ m, b ∈ l) : Same (cut l H) (cut m H) := fun b o e => by
  obtain ⟨n, e⟩ := cut_some e
  rw [cut_out (fun z => n (h b z))]
  exact e
theorem cut_more {l : List Addr} {H : Hp} {a : Addr} {o : HO} (h : H a = none) : Same (cut l H) (cut (a :: l) (upd H a o)) := fun b u e => by
  obtain ⟨n, e⟩ := cut_some e
  have nb := ne_of_none e h
  rw [cut_out (fun z => (List.mem_cons.mp z).elim nb n), upd_ne nb]
  exact e
theorem dp_true {K : PySem.W.Frag} {H : Hp} {b : Bool} (h : b = true) : Dp K H (.bl b) (.bool true) := by
  rw [h]
  exact .bl true
theorem cutV_dp {K : PySem.W.Frag} {H : Hp} {xs : List V} {ds : List PyData} (h : DpAll K H xs ds) (lo hi : Option Int) : ∃ es, DpAll K H (cutV xs lo hi) es ∧ ∀ e ∈ es, e ∈ ds := by
  unfold cutV
  exact ⟨_, (DpAll.parts (DpAll.parts h _).2 _).1, fun e he => List.mem_of_mem_drop (List.mem_of_mem_take he)⟩
section
variable {P : Program} {w : World} {K : PySem.W.Frag} {mg : Str → Option Value} {base : Heap}
theorem ok_law {f fB fT fI fV fS fN fR : Addr} {fd dB dT dI dV dS dN dR : FuncData} (F : Fun K "law" "law" sLaw f fd) (B : Bi mg)
    (GB : Dn P w K mg base 1 "_law_box" ["_law_script", "_law_base"] (spBox K) fB dB) (T : Tk P w K mg base fT dT)
    (GI : Dn P w K mg base 2 "is_value" ["thing"] (spLook K (fun d => gd d = true ∧ nod d ≤ 100000) fun d => .bl (isVal d)) fI dI)
    (GV : Dn P w K mg base 11 "_law_value" ["_law_box_here", "_law_deep", "_law_wide"] (spVal K 9) fV dV)
    (GS : Dn P w K mg base 12 "_law_spoilt" ["_law_box_here", "_law_value_here"] (spSpoil K 9) fS dS)
    (GN : Dn P w K mg base 1 "_law_inside" ["_law_thing"] (spInside K) fN dN)
    (GR : FnG P w K mg base CX0 41 fR dR ["_law_thing"] (spLook K okRight fun _ => .bl true)) (kR : PySem.W.keepIn K (.ref fR) = true) (bR : Binds K dR ["_law_thing"] []) (mR : mg "_law_right" = some (.ref fR)) :
    FnG P w K mg base CX0 42 f fd ["_law_script"] (spLaw K) := by
  refine okG F scLaw (fun vs H Q E h => ?_) (fun cdv A outer s H vs Q E hgd hr h => ?_)
  · obtain ⟨a, ns, rfl, _⟩ := h
    rfl
  obtain ⟨a, ns, rfl, hS, hlen, q⟩ := h
  have hr1 : Room 1 _ := hr.mono (by decide)
  have hr2 : Room 2 _ := hr.mono (by decide)
  have hr11 : Room 11 _ := hr.mono (by decide)
  have hr12 : Room 12 _ := hr.mono (by decide)
  refine ⟨_, pss_cons (ps_set (i := 1) scLaw.nd rfl (.inl rfl) (pe_call GB.ok hr1 (by rfl) GB.mg GB.kp GB.bd .nil pass0 (pa_cons (pv 0) (pa_cons pe_int pa_nil))))
    (pss_cons (ps_set (i := 2) scLaw.nd rfl (.inl rfl) (pe_lst (pa_cons (pe_tup pa_nil) (pa_cons pe_bl (pa_cons pe_int (pa_cons pe_str (pa_cons pe_str (pa_cons pe_str (pa_cons (pe_tup (pa_cons pe_str (pa_cons (pe_tup (pa_cons pe_bl pa_nil)) pa_nil))) pa_nil)))))))))
    (pss_cons (ps_set (i := 3) scLaw.nd rfl (.inl rfl) (pe_op op_add (pe_ix ix_list (pe_lst (pa_cons (pe_op op_pow pe_int pe_int) (pa_cons (pe_op op_pow pe_int pe_int) (pa_cons (pe_op op_pow pe_int pe_int) pa_nil))))
        (pe_call T.ok hr1 (by rfl) T.mg T.kp T.bd .nil pass0 (pa_cons (pv 1) (pa_cons pe_int pa_nil))) (fun _ _ => rfl)) (pe_call T.ok hr1 (by rfl) T.mg T.kp T.bd .nil pass0 (pa_cons (pv 1) (pa_cons (pe_op op_pow pe_int pe_int) pa_nil)))))
    (pss_cons (ps_if (pt_cmpR op_ne (pe_callB (call_rep hgd hr.units) (by rfl) B.rep b_rep (pa_cons (pe_lst (pa_cons (pe_call GI.ok hr2 (by rfl) GI.mg GI.kp GI.bd .nil pass0 (pa_cons (pv 3) pa_nil))
          (pa_cons (pe_call GI.ok hr2 (by rfl) GI.mg GI.kp GI.bd .nil pass0 (pa_cons (pe_op op_sub pe_int (pv 3)) pa_nil))
          (pa_cons (pe_call GI.ok hr2 (by rfl) GI.mg GI.kp GI.bd .nil pass0 (pa_cons (pe_tup (pa_cons (pv 3) (pa_cons (pe_tup (pa_cons pe_str (pa_cons (pv 3) pa_nil))) pa_nil))) pa_nil)) pa_nil)))) pa_nil))
        (pe_callB (call_rep hgd hr.units) (by rfl) B.rep b_rep (pa_cons (pe_op op_rep (pe_lst (pa_cons pe_bl pa_nil)) pe_int) pa_nil)) (nomark _)) (pss_one (ps_ret pe_bl)) pss_nil)
    (pss_cons (ps_for PassesOwn.never rfl (pi_range1 (by rfl) B.rng (pa_cons pe_int pa_nil)) (pg_name (i := 4) scLaw.nd rfl (.inl rfl))
      (pss_cons (ps_set (i := 5) scLaw.nd rfl (.inl rfl) (pe_call GV.ok hr11 (by rfl) GV.mg GV.kp GV.bd .nil pass0 (pa_cons (pv 1) (pa_cons (pe_ix ix_list (pe_lst (pa_cons pe_int (pa_cons pe_int (pa_cons pe_int pa_nil))))
          (pe_call T.ok hr1 (by rfl) T.mg T.kp T.bd .nil pass0 (pa_cons (pv 1) (pa_cons pe_int pa_nil))) (fun _ _ => rfl)) (pa_cons (pe_lst (pa_cons pe_int pa_nil)) pa_nil)))))
      (pss_one (ps_expr (pe_bm PySem.F.plainAttrs_list PySem.F.slot_list_extend PySem.F.type_list_extend mt_extend (pv 2)
        (pa_cons (pe_lst (pa_cons (pv 5) (pa_cons (pe_call GS.ok hr12 (by rfl) GS.mg GS.kp GS.bd .nil pass0 (pa_cons (pv 1) (pa_cons (pv 5) pa_nil))) pa_nil))) pa_nil))))))
    (pss_cons (ps_for PassesOwn.never rfl (pi_list (pe_op op_cat (pv 2) (pe_slice sl_list (pv 2) po_none (po_some pe_int)))) (pg_name (i := 6) scLaw.nd rfl (.inl rfl))
      (pss_one (ps_if (pt_not (pt_val (pe_callB (cr_all rfl) (by rfl) B.all b_all (pa_cons (pe_lc (own := [("_law_inner", 7)]) (g := gName 7) (by rfl) scLaw.nd
          (pi_list (pe_slice sl_list (pe_call GN.ok hr1 (by rfl) GN.mg GN.kp GN.bd .nil pass0 (pa_cons (pv 6) pa_nil)) po_none (po_some pe_int)))
          (blkOk_by (own := [("_law_inner", 7)]) (N := ["_law_script", "_law_box_here", "_law_things", "_law_great", "_law_turn", "_law_value_here", "_law_thing", "_law_inner"]) (sc := defScope sLaw) (by decide +kernel))
          (fun _ _ _ _ _ => pg_name (i := 7) scLaw.nd rfl (Or.inl rfl)) (fun _ _ _ _ _ => pts_nil)
          (fun _ _ _ _ _ => pe_callG GR hgd hr (by rfl) mR kR bR .nil pass0 (pa_cons (pv 7) pa_nil))) pa_nil)))) (pss_one (ps_ret pe_bl)) pss_nil)))
    (pss_one (ps_ret pe_bl))))))), ?_⟩
  refine ⟨_, rfl, a, ns, 0, rfl, hS, hlen, Int.le_refl _, by decide, fun p g H1 b1 s1 np ng => ?_⟩
  refine ⟨by decide, fun t1 ht1 => ⟨few (by simp), fun t2 ht2 => ⟨few (by simp), fun t3 ht3 => ⟨few (by simp), fun T1 hT1 => ?_⟩⟩⟩⟩
  have e1 := same_new (o := .tup []) ht1
  have e2 := same_new (o := .tup [V.bl true]) ht2
  have e3 := same_new (o := .tup [V.str "a", V.ref t2]) ht3
  have e4 := same_new (o := .lst [V.ref t1, V.bl true, V.int 0, V.str "a", V.str "abcdefgh", V.str "abcdefghi", V.ref t3]) hT1
  have bT := (((b1.same e1).same e2).same e3)
  have nT := bT.notin hT1
  have bA := bT.same e4
  have nt1 : t1 ≠ T1 := ne_of_none (e3 _ _ (e2 _ _ upd_same)) hT1
  have nt2 : t2 ≠ T1 := ne_of_none (e3 _ _ upd_same) hT1
  have nt3 : t3 ≠ T1 := ne_of_none upd_same hT1
  have m1 : t1 ∉ [T1, p, g] := fun z => (List.mem_cons.mp z).elim nt1 (b1.notin ht1)
  have m2 : t2 ∉ [T1, p, g] := fun z => (List.mem_cons.mp z).elim nt2 ((b1.same e1).notin ht2)
  have m3 : t3 ∉ [T1, p, g] := fun z => (List.mem_cons.mp z).elim nt3 (((b1.same e1).same e2).notin ht3)
  have gda : gd (.str "a") = true := by simp only [gd]; decide +kernel
  have gdh : gd (.str "abcdefgh") = true := by simp only [gd]; decide +kernel
  have gdi : gd (.str "abcdefghi") = true := by simp only [gd]; decide +kernel
  have gd0 : gd (.int 0) = true := gd_int (Nat.lt_of_lt_of_le (by decide : (0 : Int).natAbs < 2 ^ 10) (Nat.pow_le_pow_right (by decide) (by decide)))
  generalize hHA : upd (upd (upd (upd H1 t1 (.tup [])) t2 (.tup [V.bl true])) t3 (.tup [V.str "a", V.ref t2])) T1 (.lst [V.ref t1, V.bl true, V.int 0, V.str "a", V.str "abcdefgh", V.str "abcdefghi", V.ref t3]) = HA at bA e4 ⊢
  have d0 : DpAll K (cut [T1, p, g] HA) [V.ref t1, V.bl true, V.int 0, V.str "a", V.str "abcdefgh", V.str "abcdefghi", V.ref t3] [.tuple [], .bool true, .int 0, .str "a", .str "abcdefgh", .str "abcdefghi", .tuple [.str "a", .tuple [.bool true]]] := by
    have k1 : cut [T1, p, g] HA t1 = some (.tup []) := by
      rw [cut_out m1, ← hHA, upd_ne nt1]
      exact e3 _ _ (e2 _ _ upd_same)
    have k3 : cut [T1, p, g] HA t3 = some (.tup [V.str "a", V.ref t2]) := by
      rw [cut_out m3, ← hHA, upd_ne nt3]
      exact upd_same
    have k2 : cut [T1, p, g] HA t2 = some (.tup [V.bl true]) := by
      rw [cut_out m2, ← hHA, upd_ne nt2]
      exact e3 _ _ upd_same
    exact .cons (.tup (.inl (.inl k1)) .nil) (.cons (.bl _) (.cons (.int _) (.cons (.str _) (.cons (.str _) (.cons (.str _) (.cons (.tup (.inl (.inl k3)) (.cons (.str _) (.cons (.tup (.inl (.inl k2)) (.cons (.bl _) .nil)) .nil))) .nil))))))
  have ok0 : ∀ e ∈ ([.tuple [], .bool true, .int 0, .str "a", .str "abcdefgh", .str "abcdefghi", .tuple [.str "a", .tuple [.bool true]]] : List PyData), okRight e := by
    intro e he
    simp only [List.mem_cons, List.not_mem_nil, or_false] at he
    rcases he with h | h | h | h | h | h | h <;> subst h
    · exact ⟨by simp only [gd, gds], by simp only [nod, nods]; omega, by simp only [PyData.depth, PyData.depthAll]; omega⟩
    · exact ⟨by simp only [gd], by simp only [nod]; omega, by simp only [PyData.depth]; omega⟩
    · exact ⟨gd0, by simp only [nod]; omega, by simp only [PyData.depth]; omega⟩
    · exact ⟨gda, by simp only [nod]; omega, by simp only [PyData.depth]; omega⟩
    · exact ⟨gdh, by simp only [nod]; omega, by simp only [PyData.depth]; omega⟩
    · exact ⟨gdi, by simp only [nod]; omega, by simp only [PyData.depth]; omega⟩
    · refine ⟨?_, by simp only [nod, nods]; omega, by simp only [PyData.depth, PyData.depthAll]; omega⟩
      simp only [gd, gds] at gda ⊢
      rw [gda]
      rfl
  have hTA : HA T1 = some (.lst [V.ref t1, V.bl true, V.int 0, V.str "a", V.str "abcdefgh", V.str "abcdefghi", V.ref t3]) := by rw [← hHA]; exact upd_same
  clear hHA e4
  -- great
  refine ⟨_, _, rfl, rfl, ⟨by decide, by decide, by decide⟩, _, _, rfl, rfl, ⟨by decide, by decide, by decide⟩, _, _, rfl, rfl, ⟨by decide, by decide, by decide⟩, few (by simp), fun D1 hD1 => ?_⟩
  have f1 := same_new (o := .lst [V.int (10 ^ (9 : Int).toNat), V.int (10 ^ (18 : Int).toNat), V.int (10 ^ (60 : Int).toNat)]) hD1
  have nD1 := bA.notin hD1
  refine ⟨_, rfl, p, g, 3, rfl, bA.same f1, by decide, by decide, fun r H3 r0 r3 b3 o3 => ?_⟩
  obtain ⟨v, hv, mv⟩ := at3 (a := V.int (10 ^ (9 : Int).toNat)) (b := V.int (10 ^ (18 : Int).toNat)) (c := V.int (10 ^ (60 : Int).toNat)) r0 r3
  refine ⟨D1, _, _, v, rfl, rfl, SqL.of (o3.get upd_same nD1), hv, _, rfl, _, _, rfl, rfl, ⟨by decide, by decide, by decide⟩, p, g, _, rfl, b3, by decide, by decide, fun r2 H4 s0 s9 b4 o4 => ?_⟩
  obtain ⟨z, rfl, hz⟩ : ∃ z : Int, v = .int z ∧ 0 ≤ z ∧ z ≤ 10 ^ 60 := by
    simp only [List.mem_cons, List.not_mem_nil, or_false] at mv
    rcases mv with e | e | e
    · exact ⟨_, e, by decide, by decide⟩
    · exact ⟨_, e, by decide, by decide⟩
    · exact ⟨_, e, by decide, by decide⟩
  have oA : Off [p, g] HA H4 := ((Off.of f1).trans o3).trans o4
  refine ⟨_, _, rfl, rfl, ?_⟩
  have hy : 0 ≤ z + r2 ∧ z + r2 ≤ 2 * 10 ^ 60 := by
    have : r2 < 10 ^ (9 : Int).toNat := s9
    have e9 : (10 : Int) ^ (9 : Int).toNat = 1000000000 := by decide
    rw [e9] at this
    omega
  have gz : ∀ x : Int, x.natAbs ≤ 2 * 10 ^ 60 → gd (.int x) = true := fun x hx => gd_int (Nat.lt_of_le_of_lt hx (Nat.lt_of_lt_of_le (by decide : 2 * 10 ^ 60 < 2 ^ 210) (Nat.pow_le_pow_right (by decide) (by decide))))
  have gy := gz (z + r2) (by omega)
  refine ⟨_, rfl, _, .int (z + r2), rfl, .int _, ⟨gy, by simp only [nod]; omega⟩, fun H5 s5 => ⟨_, rfl, _, _, rfl, rfl, _, .int (0 - (z + r2)), rfl, .int _, ⟨gz _ (by omega), by simp only [nod]; omega⟩, fun H6 s6 => ⟨_, rfl, _, rfl, few (by simp), fun u1 hu1 => ⟨few (by simp), fun u2 hu2 => ?_⟩⟩⟩⟩
  have hu : (upd (upd H6 u1 (.tup [V.str "a", V.int (z + r2)])) u2 (.tup [V.int (z + r2), V.ref u1])) u1 = some (.tup [V.str "a", V.int (z + r2)]) := by
    rw [upd_ne (ne_of_none upd_same hu2)]
    exact upd_same
  refine ⟨_, .tuple [.int (z + r2), .tuple [.str "a", .int (z + r2)]], rfl, .tup (.inl (.inl upd_same)) (.cons (.int _) (.cons (.tup (.inl (.inl hu)) (.cons (.str _) (.cons (.int _) .nil))) .nil)), ⟨?_, by simp only [nod, nods]; omega⟩, fun H7 s7 => ?_⟩
  · simp only [gd, gds] at gy gda ⊢
    rw [gy, gda]
    rfl
  have iv : isVal (.tuple [.int (z + r2), .tuple [.str "a", .int (z + r2)]]) = true := by
    have ia : isNm "a" = true := by decide +kernel
    simp only [isVal, isVals, ia, Bool.and_self]
  refine ⟨few (by simp), fun D5 hD5 => ?_⟩
  have i1 : isVal (.int (z + r2)) = true := by simp only [isVal]
  have i2 : isVal (.int (0 - (z + r2))) = true := by simp only [isVal]
  have p3 : Prn (.list [.bool true, .bool true, .bool true]) := prn_of (by simp only [gd, gds]; rfl) (by simp only [nod, nods]; omega) (by simp only [PyData.depth, PyData.depthAll]; omega)
  refine ⟨_, .list [.bool true, .bool true, .bool true], rfl, .lst (SqL.of upd_same) (.cons (dp_true i1) (.cons (dp_true i2) (.cons (dp_true iv) .nil))), p3, few (by simp), fun D6 hD6 => ?_⟩
  refine ⟨D6, 3, _, rfl, rfl, upd_same, by decide, by decide, few (by simp), fun D7 hD7 => ?_⟩
  refine ⟨_, .list [.bool true, .bool true, .bool true], rfl, .lst (SqL.of upd_same) (.cons (.bl _) (.cons (.bl _) (.cons (.bl _) .nil))), p3, rfl, _, rfl, ?_⟩
  rw [decide_eq_true rfl]
  refine iteF ?_
  have sB : Same H4 _ := s5.trans (s6.trans ((same_new hu1 _).trans ((same_new hu2 _).trans (s7.trans ((same_new hD5 _).trans ((same_new hD6 _).trans (same_new hD7 (.lst (List.replicate (3 : Int).toNat [V.bl true]).flatten))))))))
  have bB := b4.same sB
  have oB := oA.trans (Off.of sB)
  have hTB := oB.get hTA nT
  have dB := Dp.ups (oB.mono (m := [T1, p, g]) fun b hb => List.mem_cons_of_mem _ hb) _ _ d0
  have pT : T1 ≠ p ∧ T1 ≠ g := by
    simp only [List.mem_cons, List.not_mem_nil, or_false, not_or] at nT
    exact nT
  refine ⟨8, rfl, by decide, by decide, for_range (n := 8) (fun i σ H2 => ∃ (xs : List V) (ds : List PyData) (o4 o5 : Option V), σ = [some (.ref a), some (.ref p), some (.ref T1), some (.int (z + r2)), o4, o5, none, none] ∧
      H2 T1 = some (.lst xs) ∧ DpAll K (cut [T1, p, g] H2) xs ds ∧ (∀ e ∈ ds, okRight e) ∧ xs.length = 7 + 2 * i ∧ Box H2 p g)
    ⟨_, _, none, none, rfl, hTB, dB, ok0, rfl, bB⟩ ?_ ?_⟩
  · rintro i σ H2 hi ⟨xs, ds, o4, o5, rfl, hx, dx, okd, lx, b2⟩
    -- the value
    refine ⟨_, rfl, few (by simp), fun L1 hL1 => ?_⟩
    have g1 := same_new (o := .lst [V.int 3, V.int 8, V.int 5]) hL1
    have bL := b2.same g1
    have nL1 := b2.notin hL1
    refine ⟨_, rfl, p, g, 3, rfl, bL, by decide, by decide, fun r H3 r0 r3 b3 o3 => ?_⟩
    obtain ⟨v, hv, mv⟩ := at3 (a := V.int 3) (b := V.int 8) (c := V.int 5) r0 r3
    refine ⟨L1, _, _, v, rfl, rfl, SqL.of (o3.get upd_same nL1), hv, few (by simp), fun wd hwd => ?_⟩
    obtain ⟨e, rfl, e0, e8⟩ : ∃ e : Int, v = .int e ∧ 0 ≤ e ∧ e ≤ 8 := by
      simp only [List.mem_cons, List.not_mem_nil, or_false] at mv
      rcases mv with h | h | h
      · exact ⟨_, h, by decide, by decide⟩
      · exact ⟨_, h, by decide, by decide⟩
      · exact ⟨_, h, by decide, by decide⟩
    have o3' : Off [p, g] H2 H3 := (Off.of g1).trans o3
    have hx3 := o3'.get hx nT
    have dx3 := Dp.ups (o3'.mono (m := [T1, p, g]) fun b hb => List.mem_cons_of_mem _ hb) _ _ dx
    have g2 := same_new (o := .lst [V.int 60]) hwd
    have bw := b3.same g2
    have nwd := b3.notin hwd
    have nTw : T1 ≠ wd := ne_of_none hx3 hwd
    have hx4 := g2 _ _ hx3
    have dx4 : DpAll K (cut [wd, T1, p, g] (upd H3 wd (.lst [V.int 60]))) xs ds := Dp.ups (cut_more hwd) _ _ dx3
    have tr4 : Tr [wd, T1, p, g] (upd H3 wd (.lst [V.int 60])) := fun b hb => by
      have t := bw.tr
      simp only [List.mem_cons, List.not_mem_nil, or_false] at hb
      rcases hb with h | h | h | h
      · rw [h, upd_same]; exact fun z => nomatch z
      · rw [h, hx4]; exact fun z => nomatch z
      · rw [h]; exact t.1
      · rw [h]; exact t.2
    have ph60 : phi 60 = 60 := by decide
    refine ⟨p, g, wd, e, 60, [wd, T1, p, g], rfl, bw, upd_same, nwd, e0, by omega, tr4, fun v d H5 w1 k1 k2 k3 k4 k5 k6 k7 k8 => ?_⟩
    have c5 : Off [wd, T1, p, g] (upd H3 wd (.lst [V.int 60])) H5 := k3.mono fun b hb => by
      simp only [List.mem_cons, List.not_mem_nil, or_false] at hb ⊢
      rcases hb with h | h | h
      · exact .inr (.inr (.inl h))
      · exact .inr (.inr (.inr h))
      · exact .inl h
    have hx5 : H5 T1 = some (.lst xs) := k3.get hx4 (by
      simp only [List.mem_cons, List.not_mem_nil, or_false, not_or]
      exact ⟨pT.1, pT.2, nTw⟩)
    have dx5 := Dp.ups c5 _ _ dx4
    have tr5 := tr4.go k3 (fun b hb => by
      have t := k1.tr
      simp only [List.mem_cons, List.not_mem_nil, or_false] at hb
      rcases hb with h | h | h
      · rw [h]; exact t.1
      · rw [h]; exact t.2
      · rw [h, k2]; exact fun z => nomatch z)
    refine ⟨_, rfl, .inl ⟨rfl, _, SqL.of hx5⟩, _, rfl, _, rfl, _, rfl, p, g, v, d, [wd, T1, p, g], rfl, k1, k4, k5, by omega, by omega, by simp, by simp, tr5, fun v' d' H6 j1 j2 j3 j4 j5 j6 => ⟨few (by simp), fun L2 hL2 => ?_⟩⟩
    have hx6 := j2.get hx5 nT
    have nTL : T1 ≠ L2 := ne_of_none hx6 hL2
    have g6 := same_new (o := .lst [v, v']) hL2
    have c6 : Off [wd, T1, p, g] H5 H6 := j2.mono fun b hb => List.mem_cons_of_mem _ (List.mem_cons_of_mem _ hb)
    have c7 : Off [wd, T1, p, g] H6 (upd H6 L2 (.lst [v, v'])) := Off.of g6
    refine ⟨T1, L2, xs, [v, v'], rfl, rfl, g6 _ _ hx6, upd_same, few2 (by rw [lx]; simp only [List.length_cons, List.length_nil]; omega), ?_⟩
    have c8 : Off [wd, T1, p, g] (upd H6 L2 (.lst [v, v'])) (upd (upd H6 L2 (.lst [v, v'])) T1 (.lst (xs ++ [v, v']))) := Off.put (by simp)
    have less : ∀ {H : Hp}, Same (cut [wd, T1, p, g] H) (cut [T1, p, g] H) := cut_less fun b hb => List.mem_cons_of_mem _ hb
    refine ⟨xs ++ [v, v'], ds ++ [d, d'], _, _, rfl, upd_same, ?_, ?_, ?_, ((j1.same g6).put nT)⟩
    · refine Dp.ups less _ _ (DpAll.app (Dp.ups (c6.trans (c7.trans c8)) _ _ dx5) (.cons (Dp.up (c6.trans (c7.trans c8)) _ _ k4) (.cons (Dp.up (c7.trans c8) _ _ j3) .nil)))
    · intro e he
      rcases List.mem_append.mp he with h | h
      · exact okd e h
      · simp only [List.mem_cons, List.not_mem_nil, or_false] at h
        rcases h with h | h
        · rw [h]
          exact ⟨k5, by omega, by omega⟩
        · rw [h]
          exact ⟨j4, by omega, by omega⟩
    · rw [List.length_append, lx]
      simp only [List.length_cons, List.length_nil]
      omega
  · rintro σ H2 ⟨xs, ds, o4, o5, rfl, hx, dx, okd, lx, b2⟩
    have dx2 := Dp.ups (cut_same [T1, p, g] H2) _ _ dx
    refine ⟨_, rfl, _, rfl, 9, rfl, T1, xs, rfl, SqL.of hx, fun D3 hD3 => ?_⟩
    obtain ⟨es, de, ee⟩ := cutV_dp dx2 none (some 9)
    have g3 := same_new (o := .lst (cutV xs none (some 9))) hD3
    have lc := cutV_length xs none (some 9)
    refine ⟨T1, D3, _, _, rfl, rfl, g3 _ _ hx, upd_same, few2 (by omega), fun D4 hD4 => ?_⟩
    have g4 := g3.trans (same_new (o := .lst (xs ++ cutV xs none (some 9))) hD4)
    have dL := Dp.ups g4 _ _ (DpAll.app dx2 de)
    have okL : ∀ e ∈ ds ++ es, okRight e := fun e he => (List.mem_append.mp he).elim (okd e) fun h => okd e (ee e h)
    generalize hHL : upd (upd H2 D3 (.lst (cutV xs none (some 9)))) D4 (.lst (xs ++ cutV xs none (some 9))) = HL at dL
    have hL4 : HL D4 = some (.lst (xs ++ cutV xs none (some 9))) := by rw [← hHL]; exact upd_same
    refine ⟨D4, rfl, ⟨_, SqL.of hL4⟩, for_list (K := K) (a := D4) (xs := xs ++ cutV xs none (some 9)) (fun i σ H5 => ∃ o6, σ = [some (.ref a), some (.ref p), some (.ref T1), some (.int (z + r2)), o4, o5, o6, none] ∧ Same HL H5)
      ⟨none, rfl, Same.refl _⟩ (fun i σ H5 _ ⟨_, _, h⟩ => SqL.of (h _ _ hL4)) ?_ ?_⟩
    · rintro i y σ H5 hi ⟨o6, rfl, s5⟩
      obtain ⟨e, he, dey⟩ := DpAll.get dL hi
      have oke := okL e (List.mem_of_getElem? he)
      refine ⟨_, rfl, y, e, rfl, Dp.up s5 _ _ dey, oke.1, by have := oke.2.1; omega, by have := oke.2.2; omega, fun b H6 zs fs s6 hb hz dz gzs sub lz => ⟨40, rfl, b, _, rfl, SqL.of hz, fun c hc => ?_⟩⟩
      obtain ⟨hs, dh, eh⟩ := cutV_dp dz none (some 40)
      have s7 := s6.trans (same_new (o := .lst (cutV zs none (some 40))) hc)
      have lc := cutV_length zs none (some 40)
      have dh7 := Dp.ups s7 _ _ dh
      refine ⟨c, rfl, ⟨_, SqL.of upd_same⟩, fun D hD => along (walk_list (K := K) (a := c) (xs := cutV zs none (some 40))) (fun j H8 => H8 D = some (.lst ((List.replicate j true).map V.bl)) ∧ Same (upd H6 c (.lst (cutV zs none (some 40)))) H8) ⟨upd_same, same_new hD _⟩ (fun j H8 _ ⟨_, h⟩ => SqL.of (h _ _ upd_same)) ?_ ?_⟩
      · rintro j u H8 H8' hj ⟨h1, h2⟩ ⟨rfl, hu⟩
        obtain ⟨e2, he2, de2⟩ := DpAll.get dh7 hu
        have m2 := eh e2 (List.mem_of_getElem? he2)
        have su := sub e2 m2
        have ok2 : okRight e2 := ⟨gds_mem gzs m2, Nat.le_trans su.1 oke.2.1, Nat.lt_of_le_of_lt su.2 oke.2.2⟩
        refine ⟨rfl, _, rfl, u, e2, rfl, Dp.up h2 _ _ de2, ok2, fun H9 s9 => ⟨_, s9 _ _ h1, ?_, ?_, ?_⟩⟩
        · rw [List.length_map, List.length_replicate]
          have := oke.2.1
          exact Nat.lt_of_le_of_lt (by omega : j ≤ 100000) (by decide)
        · rw [upd_same, List.replicate_succ', List.map_append]
          rfl
        · intro b2 o z
          rw [upd_ne (ne_of_none z hD)]
          exact s9 b2 o (h2 b2 o z)
      · rintro H8 ⟨h1, h2⟩
        refine ⟨D, _, rfl, SqL.of h1, _, rfl, ?_⟩
        have all1 : ∀ n : Nat, (List.replicate n true).all id = true := fun n => by
          induction n with
          | zero => rfl
          | succ n ih => simp [List.replicate_succ, ih]
        rw [all1]
        exact iteF ⟨_, rfl, s5.trans (s7.trans h2)⟩
    · rintro σ H5 ⟨o6, rfl, s5⟩
      exact q H5
end
theorem all_mk {l : PySem.W.OpenLaw} {w : World} {K : PySem.W.Frag} {h : Heap} {mg : Str → Option Value} {fa f1 f2 f3 f4 f5 f6 f7 f8 f9 f10 f11 f12 f13 f14 f15 f16 : Addr} (X : K.In h) (G : h.Ns mainGlobals mg) (hfa : mg "law" = some (.ref fa))
    {od1 an1 od2 an2 od3 an3 od4 an4 od5 an5 od6 an6 od7 an7 od8 an8 od9 an9 od10 an10 od11 an11 od12 an12 od13 an13 od14 an14 od15 an15 od16 an16 : Option Addr} {sl1 sl2 sl3 sl4 sl5 sl6 sl7 sl8 sl9 sl10 sl11 sl12 sl13 sl14 sl15 sl16 : Array (Option Value)} {oc1 kV1 dc1 pm1 cd1 ct1 oc2 kV2 dc2 pm2 cd2 ct2 oc3 kV3 dc3 pm3 cd3 ct3 oc4 kV4 dc4 pm4 cd4 ct4 oc5 kV5 dc5 pm5 cd5 ct5 oc6 kV6 dc6 pm6 cd6 ct6 oc7 kV7 dc7 pm7 cd7 ct7 oc8 kV8 dc8 pm8 cd8 ct8 oc9 kV9 dc9 pm9 cd9 ct9 oc10 kV10 dc10 pm10 cd10 ct10 oc11 kV11 dc11 pm11 cd11 ct11 oc12 kV12 dc12 pm12 cd12 ct12 oc13 kV13 dc13 pm13 cd13 ct13 oc14 kV14 dc14 pm14 cd14 ct14 oc15 kV15 dc15 pm15 cd15 ct15 oc16 kV16 dc16 pm16 cd16 ct16 : Value}
    (a1 : PySem.W.nsIn K mainGlobals "is_name" = some (some (.ref f1)))
    (l1 : K.lookup f1 = some ⟨oc1, od1, .func (PySem.W.fnOf "is_name" "is_name" (defArgs sName) (defBody sName) (defScope sName) .none kV1 dc1 pm1 an1 cd1 ct1), sl1⟩)
    (c1 : PySem.W.codeIn K cd1 "is_name" = true) (k1 : PySem.W.keepIn K (.ref f1) = true)
    (a2 : PySem.W.nsIn K mainGlobals "is_integer" = some (some (.ref f2)))
    (l2 : K.lookup f2 = some ⟨oc2, od2, .func (PySem.W.fnOf "is_integer" "is_integer" (defArgs sInteger) (defBody sInteger) (defScope sInteger) .none kV2 dc2 pm2 an2 cd2 ct2), sl2⟩)
    (c2 : PySem.W.codeIn K cd2 "is_integer" = true) (k2 : PySem.W.keepIn K (.ref f2) = true)
    (a3 : PySem.W.nsIn K mainGlobals "is_value" = some (some (.ref f3)))
    (l3 : K.lookup f3 = some ⟨oc3, od3, .func (PySem.W.fnOf "is_value" "is_value" (defArgs sIsVal) (defBody sIsVal) (defScope sIsVal) .none kV3 dc3 pm3 an3 cd3 ct3), sl3⟩)
    (c3 : PySem.W.codeIn K cd3 "is_value" = true) (k3 : PySem.W.keepIn K (.ref f3) = true)
    (a4 : PySem.W.nsIn K mainGlobals "kind_of" = some (some (.ref f4)))
    (l4 : K.lookup f4 = some ⟨oc4, od4, .func (PySem.W.fnOf "kind_of" "kind_of" (defArgs sKind) (defBody sKind) (defScope sKind) .none kV4 dc4 pm4 an4 cd4 ct4), sl4⟩)
    (c4 : PySem.W.codeIn K cd4 "kind_of" = true) (k4 : PySem.W.keepIn K (.ref f4) = true)
    (a5 : PySem.W.nsIn K mainGlobals "depth_of" = some (some (.ref f5)))
    (l5 : K.lookup f5 = some ⟨oc5, od5, .func (PySem.W.fnOf "depth_of" "depth_of" (defArgs sDepth) (defBody sDepth) (defScope sDepth) .none kV5 dc5 pm5 an5 cd5 ct5), sl5⟩)
    (c5 : PySem.W.codeIn K cd5 "depth_of" = true) (k5 : PySem.W.keepIn K (.ref f5) = true)
    (a6 : PySem.W.nsIn K mainGlobals "_law_box" = some (some (.ref f6)))
    (l6 : K.lookup f6 = some ⟨oc6, od6, .func (PySem.W.fnOf "_law_box" "_law_box" (defArgs sBox) (defBody sBox) (defScope sBox) .none kV6 dc6 pm6 an6 cd6 ct6), sl6⟩)
    (c6 : PySem.W.codeIn K cd6 "_law_box" = true) (k6 : PySem.W.keepIn K (.ref f6) = true)
    (a7 : PySem.W.nsIn K mainGlobals "_law_take" = some (some (.ref f7)))
    (l7 : K.lookup f7 = some ⟨oc7, od7, .func (PySem.W.fnOf "_law_take" "_law_take" (defArgs sTake) (defBody sTake) (defScope sTake) .none kV7 dc7 pm7 an7 cd7 ct7), sl7⟩)
    (c7 : PySem.W.codeIn K cd7 "_law_take" = true) (k7 : PySem.W.keepIn K (.ref f7) = true)
    (a8 : PySem.W.nsIn K mainGlobals "_law_word" = some (some (.ref f8)))
    (l8 : K.lookup f8 = some ⟨oc8, od8, .func (PySem.W.fnOf "_law_word" "_law_word" (defArgs sWord) (defBody sWord) (defScope sWord) .none kV8 dc8 pm8 an8 cd8 ct8), sl8⟩)
    (c8 : PySem.W.codeIn K cd8 "_law_word" = true) (k8 : PySem.W.keepIn K (.ref f8) = true)
    (a9 : PySem.W.nsIn K mainGlobals "_law_odd" = some (some (.ref f9)))
    (l9 : K.lookup f9 = some ⟨oc9, od9, .func (PySem.W.fnOf "_law_odd" "_law_odd" (defArgs sOdd) (defBody sOdd) (defScope sOdd) .none kV9 dc9 pm9 an9 cd9 ct9), sl9⟩)
    (c9 : PySem.W.codeIn K cd9 "_law_odd" = true) (k9 : PySem.W.keepIn K (.ref f9) = true)
    (a10 : PySem.W.nsIn K mainGlobals "_law_value" = some (some (.ref f10)))
    (l10 : K.lookup f10 = some ⟨oc10, od10, .func (PySem.W.fnOf "_law_value" "_law_value" (defArgs sValue) (defBody sValue) (defScope sValue) .none kV10 dc10 pm10 an10 cd10 ct10), sl10⟩)
    (c10 : PySem.W.codeIn K cd10 "_law_value" = true) (k10 : PySem.W.keepIn K (.ref f10) = true)
    (a11 : PySem.W.nsIn K mainGlobals "_law_spoilt" = some (some (.ref f11)))
    (l11 : K.lookup f11 = some ⟨oc11, od11, .func (PySem.W.fnOf "_law_spoilt" "_law_spoilt" (defArgs sSpoilt) (defBody sSpoilt) (defScope sSpoilt) .none kV11 dc11 pm11 an11 cd11 ct11), sl11⟩)
    (c11 : PySem.W.codeIn K cd11 "_law_spoilt" = true) (k11 : PySem.W.keepIn K (.ref f11) = true)
    (a12 : PySem.W.nsIn K mainGlobals "_law_is_value" = some (some (.ref f12)))
    (l12 : K.lookup f12 = some ⟨oc12, od12, .func (PySem.W.fnOf "_law_is_value" "_law_is_value" (defArgs sLIsVal) (defBody sLIsVal) (defScope sLIsVal) .none kV12 dc12 pm12 an12 cd12 ct12), sl12⟩)
    (c12 : PySem.W.codeIn K cd12 "_law_is_value" = true) (k12 : PySem.W.keepIn K (.ref f12) = true)
    (a13 : PySem.W.nsIn K mainGlobals "_law_depth" = some (some (.ref f13)))
    (l13 : K.lookup f13 = some ⟨oc13, od13, .func (PySem.W.fnOf "_law_depth" "_law_depth" (defArgs sLDepth) (defBody sLDepth) (defScope sLDepth) .none kV13 dc13 pm13 an13 cd13 ct13), sl13⟩)
    (c13 : PySem.W.codeIn K cd13 "_law_depth" = true) (k13 : PySem.W.keepIn K (.ref f13) = true)
    (a14 : PySem.W.nsIn K mainGlobals "_law_inside" = some (some (.ref f14)))
    (l14 : K.lookup f14 = some ⟨oc14, od14, .func (PySem.W.fnOf "_law_inside" "_law_inside" (defArgs sInside) (defBody sInside) (defScope sInside) .none kV14 dc14 pm14 an14 cd14 ct14), sl14⟩)
    (c14 : PySem.W.codeIn K cd14 "_law_inside" = true) (k14 : PySem.W.keepIn K (.ref f14) = true)
    (a15 : PySem.W.nsIn K mainGlobals "_law_right" = some (some (.ref f15)))
    (l15 : K.lookup f15 = some ⟨oc15, od15, .func (PySem.W.fnOf "_law_right" "_law_right" (defArgs sRight) (defBody sRight) (defScope sRight) .none kV15 dc15 pm15 an15 cd15 ct15), sl15⟩)
    (c15 : PySem.W.codeIn K cd15 "_law_right" = true) (k15 : PySem.W.keepIn K (.ref f15) = true)
    (a16 : PySem.W.nsIn K mainGlobals "law" = some (some (.ref f16)))
    (l16 : K.lookup f16 = some ⟨oc16, od16, .func (PySem.W.fnOf "law" "law" (defArgs sLaw) (defBody sLaw) (defScope sLaw) .none kV16 dc16 pm16 an16 cd16 ct16), sl16⟩)
    (c16 : PySem.W.codeIn K cd16 "law" = true) (k16 : PySem.W.keepIn K (.ref f16) = true)
    (z1 : PySem.W.nsIn K mainGlobals "isinstance" = some none)
    (z2 : PySem.W.nsIn K mainGlobals "len" = some none)
    (z3 : PySem.W.nsIn K mainGlobals "all" = some none)
    (z4 : PySem.W.nsIn K mainGlobals "str" = some none)
    (z5 : PySem.W.nsIn K mainGlobals "tuple" = some none)
    (z6 : PySem.W.nsIn K mainGlobals "int" = some none)
    (z7 : PySem.W.nsIn K mainGlobals "bool" = some none)
    (z8 : PySem.W.nsIn K mainGlobals "range" = some none)
    (z9 : PySem.W.nsIn K mainGlobals "repr" = some none)
    (z10 : PySem.W.nsIn K mainGlobals "abs" = some none)
    (z11 : PySem.W.nsIn K mainGlobals "max" = some none)
    (z12 : PySem.W.nsIn K mainGlobals "list" = some none)
    : ∃ fd : FuncData, (∀ (s : Shared) (v : Value), BindsTo s fd ⟨[v], []⟩ [("_law_script", v)]) ∧ ∀ base : Heap, K.In base → base.Ns mainGlobals mg → FnG l.prog w K mg base CX0 42 fa fd ["_law_script"] (spLaw K) := by
  have e := hfa.symm.trans (PySem.W.mg_of X G a16)
  cases e
  have F1 := fun_mk (st := sName) l1 c1 k1
  have b1 := F1.binds (ps := ["thing"]) fun _ _ _ _ _ _ us hl => match us, hl with | [_], _ => rfl
  have m1 := PySem.W.mg_of X G a1
  have F2 := fun_mk (st := sInteger) l2 c2 k2
  have b2 := F2.binds (ps := ["thing"]) fun _ _ _ _ _ _ us hl => match us, hl with | [_], _ => rfl
  have m2 := PySem.W.mg_of X G a2
  have F3 := fun_mk (st := sIsVal) l3 c3 k3
  have b3 := F3.binds (ps := ["thing"]) fun _ _ _ _ _ _ us hl => match us, hl with | [_], _ => rfl
  have m3 := PySem.W.mg_of X G a3
  have F4 := fun_mk (st := sKind) l4 c4 k4
  have b4 := F4.binds (ps := ["value"]) fun _ _ _ _ _ _ us hl => match us, hl with | [_], _ => rfl
  have m4 := PySem.W.mg_of X G a4
  have F5 := fun_mk (st := sDepth) l5 c5 k5
  have b5 := F5.binds (ps := ["value"]) fun _ _ _ _ _ _ us hl => match us, hl with | [_], _ => rfl
  have m5 := PySem.W.mg_of X G a5
  have F6 := fun_mk (st := sBox) l6 c6 k6
  have b6 := F6.binds (ps := ["_law_script", "_law_base"]) fun _ _ _ _ _ _ us hl => match us, hl with | [_, _], _ => rfl
  have m6 := PySem.W.mg_of X G a6
  have F7 := fun_mk (st := sTake) l7 c7 k7
  have b7 := F7.binds (ps := ["_law_box_here", "_law_many"]) fun _ _ _ _ _ _ us hl => match us, hl with | [_, _], _ => rfl
  have m7 := PySem.W.mg_of X G a7
  have F8 := fun_mk (st := sWord) l8 c8 k8
  have b8 := F8.binds (ps := ["_law_box_here"]) fun _ _ _ _ _ _ us hl => match us, hl with | [_], _ => rfl
  have m8 := PySem.W.mg_of X G a8
  have F9 := fun_mk (st := sOdd) l9 c9 k9
  have b9 := F9.binds (ps := ["_law_box_here"]) fun _ _ _ _ _ _ us hl => match us, hl with | [_], _ => rfl
  have m9 := PySem.W.mg_of X G a9
  have F10 := fun_mk (st := sValue) l10 c10 k10
  have b10 := F10.binds (ps := ["_law_box_here", "_law_deep", "_law_wide"]) fun _ _ _ _ _ _ us hl => match us, hl with | [_, _, _], _ => rfl
  have m10 := PySem.W.mg_of X G a10
  have F11 := fun_mk (st := sSpoilt) l11 c11 k11
  have b11 := F11.binds (ps := ["_law_box_here", "_law_value_here"]) fun _ _ _ _ _ _ us hl => match us, hl with | [_, _], _ => rfl
  have m11 := PySem.W.mg_of X G a11
  have F12 := fun_mk (st := sLIsVal) l12 c12 k12
  have b12 := F12.binds (ps := ["_law_thing"]) fun _ _ _ _ _ _ us hl => match us, hl with | [_], _ => rfl
  have m12 := PySem.W.mg_of X G a12
  have F13 := fun_mk (st := sLDepth) l13 c13 k13
  have b13 := F13.binds (ps := ["_law_value_here"]) fun _ _ _ _ _ _ us hl => match us, hl with | [_], _ => rfl
  have m13 := PySem.W.mg_of X G a13
  have F14 := fun_mk (st := sInside) l14 c14 k14
  have b14 := F14.binds (ps := ["_law_thing"]) fun _ _ _ _ _ _ us hl => match us, hl with | [_], _ => rfl
  have m14 := PySem.W.mg_of X G a14
  have F15 := fun_mk (st := sRight) l15 c15 k15
  have b15 := F15.binds (ps := ["_law_thing"]) fun _ _ _ _ _ _ us hl => match us, hl with | [_], _ => rfl
  have m15 := PySem.W.mg_of X G a15
  have F16 := fun_mk (st := sLaw) l16 c16 k16
  have n_isinstance := PySem.W.mg_none_of X G z1
  have n_len := PySem.W.mg_none_of X G z2
  have n_all := PySem.W.mg_none_of X G z3
  have n_str := PySem.W.mg_none_of X G z4
  have n_tuple := PySem.W.mg_none_of X G z5
  have n_int := PySem.W.mg_none_of X G z6
  have n_bool := PySem.W.mg_none_of X G z7
  have n_range := PySem.W.mg_none_of X G z8
  have n_repr := PySem.W.mg_none_of X G z9
  have n_abs := PySem.W.mg_none_of X G z10
  have n_max := PySem.W.mg_none_of X G z11
  have n_list := PySem.W.mg_none_of X G z12
  refine ⟨PySem.W.fnOf "law" "law" (defArgs sLaw) (defBody sLaw) (defScope sLaw) .none kV16 dc16 pm16 an16 cd16 ct16, fun s v => .of_eq rfl, fun base _ _ => ?_⟩
  have B : Bi mg := ⟨n_isinstance, n_len, n_all, n_str, n_tuple, n_int, n_bool, n_range, n_repr, n_abs⟩
  have T : Tk l.prog w K mg base f7 _ := ⟨ok_take (k := 0) F7 n_len, k7, b7, m7⟩
  have GO := ok_odd (P := l.prog) (w := w) (base := base) (k := 0) F9 B T F8 b8 m8
  have V : ∀ n : Nat, FnOk l.prog w K mg base CX0 (n + 2) f10 _ ["_law_box_here", "_law_deep", "_law_wide"] (spVal K n) := fun n => by
    induction n with
    | zero =>
      have no : ∀ vs H Q E, ¬ spVal K 0 vs H Q E := fun vs H Q E h => by
        obtain ⟨p, g, wd, e, w0, l, _, _, _, _, h1, h2, _⟩ := h
        omega
      exact ⟨fun vs H Q E h => absurd h (no vs H Q E), fun A outer s H args us vs Q E _ _ _ _ h => absurd h (no vs H Q E)⟩
    | succ n ih => exact ok_value F10 B T F8 b8 m8 ih b10 m10
  have S : ∀ n : Nat, n ≤ 60 → FnOk l.prog w K mg base CX0 (n + 3) f11 _ ["_law_box_here", "_law_value_here"] (spSpoil K n) := fun n => by
    induction n with
    | zero =>
      intro _
      have no : ∀ vs H Q E, ¬ spSpoil K 0 vs H Q E := fun vs H Q E h => by
        obtain ⟨p, g, v, d, l, _, _, _, _, _, h1, _⟩ := h
        omega
      exact ⟨fun vs H Q E h => absurd h (no vs H Q E), fun A outer s H args us vs Q E _ _ _ _ h => absurd h (no vs H Q E)⟩
    | succ n ih => exact fun hn => ok_spoilt (by omega) F11 B T GO k9 b9 m9 (ih (by omega)) b11 m11
  have L : ∀ n : Nat, n ≤ 60 → FnOk l.prog w K mg base CX0 n f12 _ ["_law_thing"] (spLook K (fun d => gd d = true ∧ nod d ≤ 100000 ∧ d.depth < n) fun d => .bl (isVal d)) := fun n => by
    induction n with
    | zero =>
      intro _
      have no : ∀ vs H Q E, ¬ spLook K (fun d => gd d = true ∧ nod d ≤ 100000 ∧ d.depth < 0) (fun d => .bl (isVal d)) vs H Q E := fun vs H Q E h => by
        obtain ⟨v, d, _, _, ⟨_, _, h1⟩, _⟩ := h
        omega
      exact ⟨fun vs H Q E h => absurd h (no vs H Q E), fun A outer s H args us vs Q E _ _ _ _ h => absurd h (no vs H Q E)⟩
    | succ n ih => exact fun hn => ok_lisVal (by omega) F12 B (ih (by omega)) b12 m12
  have D : ∀ n : Nat, FnOk l.prog w K mg base CX0 n f13 _ ["_law_value_here"] (spLook K (fun d => nod d ≤ 90000 ∧ d.depth < n) fun d => .int (dep d)) := fun n => by
    induction n with
    | zero =>
      have no : ∀ vs H Q E, ¬ spLook K (fun d => nod d ≤ 90000 ∧ d.depth < 0) (fun d => .int (dep d)) vs H Q E := fun vs H Q E h => by
        obtain ⟨v, d, _, _, ⟨_, h1⟩, _⟩ := h
        omega
      exact ⟨fun vs H Q E h => absurd h (no vs H Q E), fun A outer s H args us vs Q E _ _ _ _ h => absurd h (no vs H Q E)⟩
    | succ n ih => exact ok_ldepth F13 B n_max ih b13 m13
  have GI := ok_isVal (P := l.prog) (w := w) (base := base) (k := 0) F3 B F1 b1 m1 F2 b2 m2
  have GR := ok_right (P := l.prog) (w := w) (base := base) F15 B GI k3 b3 m3 (ok_kind (k := 0) F4 B) k4 b4 m4 (ok_depth (k := 0) F5 B) k5 b5 m5 (L 40 (by decide)) k12 b12 m12 (D 40) k13 b13 m13
  exact ok_law F16 B ⟨ok_box (k := 0) F6 n_abs, k6, b6, m6⟩ T ⟨GI, k3, b3, m3⟩ ⟨V 9, k10, b10, m10⟩ ⟨S 9 (by decide), k11, b11, m11⟩ ⟨ok_inside (k := 0) F14 B n_list, k14, b14, m14⟩ GR k15 b15 m15
end Rl
open PySem PySem.W PyProof.Rows in
set_option maxRecDepth 100000 in
set_option maxHeartbeats 0 in
theorem PySem.Challenge.cw_runlore_k02_values_told_holds : PySem.Challenge.rw_runlore_k02_values_told.Holds := by
  w_on; o_law; k_head; (case hw => w_witness2)
  k_fill
  refine Rl.walkG (l := PySem.Challenge.rw_runlore_k02_values_told) (n := 63) (k := 42) (x := "_law_script") (sp := Rl.spLaw) rfl (by decide) rfl ⟨rfl, by decide, by decide⟩ (fun w h Y => PySem.W.kIn_of Y) ?F (fun K H a ns hl _ hS => ⟨a, ns, rfl, hS, hl, fun _ => rfl⟩)
  case F =>
    intro w mg fa h KX G hmg
    refine' Rl.all_mk KX G hmg ?a1 ?l1 ?c1 ?k1 ?a2 ?l2 ?c2 ?k2 ?a3 ?l3 ?c3 ?k3 ?a4 ?l4 ?c4 ?k4 ?a5 ?l5 ?c5 ?k5 ?a6 ?l6 ?c6 ?k6 ?a7 ?l7 ?c7 ?k7 ?a8 ?l8 ?c8 ?k8 ?a9 ?l9 ?c9 ?k9 ?a10 ?l10 ?c10 ?k10 ?a11 ?l11 ?c11 ?k11 ?a12 ?l12 ?c12 ?k12 ?a13 ?l13 ?c13 ?k13 ?a14 ?l14 ?c14 ?k14 ?a15 ?l15 ?c15 ?k15 ?a16 ?l16 ?c16 ?k16 ?z1 ?z2 ?z3 ?z4 ?z5 ?z6 ?z7 ?z8 ?z9 ?z10 ?z11 ?z12
    (case a1 => k_is)
    (case l1 => k_is)
    (case c1 => k_is)
    (case k1 => k_is)
    (case a2 => k_is)
    (case l2 => k_is)
    (case c2 => k_is)
    (case k2 => k_is)
    (case a3 => k_is)
    (case l3 => k_is)
    (case c3 => k_is)
    (case k3 => k_is)
    (case a4 => k_is)
    (case l4 => k_is)
    (case c4 => k_is)
    (case k4 => k_is)
    (case a5 => k_is)
    (case l5 => k_is)
    (case c5 => k_is)
    (case k5 => k_is)
    (case a6 => k_is)
    (case l6 => k_is)
    (case c6 => k_is)
    (case k6 => k_is)
    (case a7 => k_is)
    (case l7 => k_is)
    (case c7 => k_is)
    (case k7 => k_is)
    (case a8 => k_is)
    (case l8 => k_is)
    (case c8 => k_is)
    (case k8 => k_is)
    (case a9 => k_is)
    (case l9 => k_is)
    (case c9 => k_is)
    (case k9 => k_is)
    (case a10 => k_is)
    (case l10 => k_is)
    (case c10 => k_is)
    (case k10 => k_is)
    (case a11 => k_is)
    (case l11 => k_is)
    (case c11 => k_is)
    (case k11 => k_is)
    (case a12 => k_is)
    (case l12 => k_is)
    (case c12 => k_is)
    (case k12 => k_is)
    (case a13 => k_is)
    (case l13 => k_is)
    (case c13 => k_is)
    (case k13 => k_is)
    (case a14 => k_is)
    (case l14 => k_is)
    (case c14 => k_is)
    (case k14 => k_is)
    (case a15 => k_is)
    (case l15 => k_is)
    (case c15 => k_is)
    (case k15 => k_is)
    (case a16 => k_is)
    (case l16 => k_is)
    (case c16 => k_is)
    (case k16 => k_is)
    (case z1 => k_is)
    (case z2 => k_is)
    (case z3 => k_is)
    (case z4 => k_is)
    (case z5 => k_is)
    (case z6 => k_is)
    (case z7 => k_is)
    (case z8 => k_is)
    (case z9 => k_is)
    (case z10 => k_is)
    (case z11 => k_is)
    (case z12 => k_is)

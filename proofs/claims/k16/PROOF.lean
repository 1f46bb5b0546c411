import PyProof.Rows.All
import Wide.All
import OpenK.AllK
import Wide.FinOn
import PyProof.ReprRoads
import PyProof.StrLawsRepr
import PyProof.ReprLen
import PyProof.Rows.RegStrFacts
import PyProof.Rows.StrCase
import PyProof.Rows.ReprOcc
import HandS.ForMost
import HandS.IsInst
import HandS.Wide
import HandS.Style
import HandS.Flow
import HandS.Conv
import HandS.Walk
import HandS.Codes
import HandS.TupAny
import HandS.FStr
import HandS.Defaults
import HandS.MakeKw
import HandS.MakeKwOnly
import HandS.Small
import HandS.ClsMeth
import HandS.SetFor
import HandS.Strs
import HandS.RaiseMore
import HandS.Text
import HandS.Star
import HandS.Property
import HandS.Steps
import PySem.Challenge.RW_runlore_k16_kind_sets_told
set_option Elab.async false
set_option linter.all false
set_option maxRecDepth 100000
set_option exponentiation.threshold 2000
set_option maxHeartbeats 4000000
namespace Rl
open PySem PySem.Spec PyProof.Rows L2
/-- what can be printed: data of bounded depth whose text is short enough -/
structure Prn (d : PyData) : Prop where
  sh : d.showable = true
  nd : d.hasDict = false
  dp : d.depth ≤ 60
  sz : d.shown.length ≤ sizeLine
def rRep (K : PySem.W.Frag) : List V → Hp → VK → Prop := fun xs H Q =>
  ∃ v d, xs = [v] ∧ Dp K H v d ∧ Prn d ∧ Q (.str d.shown) H
theorem meets_extT (l b : Addr) (items items2 : Array Value) (n : Nat) (hlong : (!items.isEmpty && Builtin.List.listTooLong (items.size + items2.size)) = false) (h1 : items.size ≤ sizeLine) (h2 : items.size + items2.size ≤ sizeLine + 1) :
    Meets (Builtin.«list.extend» ⟨[.ref l, .ref b], []⟩) (fun _ R s => s.heap.get? l = some { cls := .type "list", data := .seq items n } ∧ IsTup s.heap b items2 ∧
      R (.ok (.ret .none)) { s with heap := s.heap.update l (Obj.mapSeq fun x => x ++ items2) }) := by
  intro prog w A R s ⟨hl, ⟨o, ho, hc, n2, hd⟩, hR⟩
  show wpAny _ A.in1 (Builtin.List.listExtendWith (.ref l) (.ref b) .none) _ _ s
  unfold Builtin.List.listExtendWith
  refine wpAny_bind (wpAny_typeOf ⟨o, ho, hc⟩ ?_)
  have e1 : (Builtin.List.listSameRef (.ref l) (.ref b) || Value.type "tuple" == Value.type "list" || Value.type "tuple" == Value.type "tuple") = true := by simp
  simp only [e1, if_true]
  refine wpAny_bind ?_
  unfold Builtin.List.listItems
  refine wpAny_bind (wpAny_seqItems ho hd (wpAny_pure ?_))
  refine wpAny_bind ?_
  refine wpAny_bind (wpAny_seqItems hl rfl (wpAny_pure ?_))
  rw [hlong]
  show wpAny _ A.in1 (updateSeq l (· ++ items2) >>= fun _ => ret .none) _ _ s
  have h3 : (items ++ items2).size ≤ sizeLine + 1 := by rw [Array.size_append]; exact h2
  refine wpAny_bind (wpAny_updateSeq hl rfl ?_ h1 h3)
  exact wpAny_pure hR
section
variable {X : Cx}
theorem call_rep (hg : X.A.guards = some []) (hu : X.A.units + 64 < cLine) : CallR X (.builtin "repr") (rRep X.K) := by
  intro pins s σ H xs us Q I r h
  obtain ⟨v, d, rfl, hd, ⟨hs, hnd, hdep, hsz⟩, q⟩ := h
  obtain ⟨u, rfl, ru⟩ := vals1 r
  obtain ⟨as, rd⟩ := Dp.reads I d v u hd ru
  cases hd with
  | non =>
    cases ru
    exact PySem.P.repr_of_none ⟨.str _, H, I.tok _, ⟨_, rfl⟩, q⟩
  | bl b =>
    cases ru
    refine PySem.P.repr_of_bool ⟨.str (if b then "True" else "False"), H, I.tok _, ⟨_, rfl⟩, ?_⟩
    cases b <;> exact q
  | int i =>
    obtain ⟨t, rfl⟩ := ru
    exact PySem.P.repr_of_int (of_decide_eq_true (by simpa only [PyData.showable] using hs)) ⟨.str _, H, I.tok _, ⟨_, rfl⟩, q⟩
  | str x =>
    obtain ⟨t, rfl⟩ := ru
    exact PySem.P.repr_of_str ⟨.str _, H, I.tok _, ⟨_, rfl⟩, q⟩ hsz
  | lst h1 h2 =>
    cases ru
    exact repr_of_reads' rd hs (PyData.noDict_hsm hnd) hg (by omega) (fun _ _ e => e) (fun h' u tk hk => ⟨.str _, H, I.kept hk, ⟨_, rfl⟩, q⟩) hsz
  | tup h1 h2 =>
    cases ru
    exact repr_of_reads' rd hs (PyData.noDict_hsm hnd) hg (by omega) (fun _ _ e => e) (fun h' u tk hk => ⟨.str _, H, I.kept hk, ⟨_, rfl⟩, q⟩) hsz
/-- xs.extend(t), t a tuple -/
def rExtT (K : PySem.W.Frag) : V → List V → Hp → VK → Prop := fun x vs H Q =>
  ∃ l b xs zs, x = .ref l ∧ vs = [.ref b] ∧ H l = some (.lst xs) ∧ SqT K H b zs ∧ xs.length + zs.length ≤ sizeLine ∧ Q .non (upd H l (.lst (xs ++ zs)))
theorem mt_extT : MtM X "list.extend" (rExtT X.K) := by
  intro pins s σ H x vs v us Q I rx rv h
  obtain ⟨l, b, xs, zs, rfl, rfl, hH, hB, hz, q⟩ := h
  cases rx
  obtain ⟨u, rfl, ru⟩ := rv.one
  cases ru
  obtain ⟨z, its, n, r, hl, e⟩ := I.lstM hH
  obtain ⟨its2, r2, tp, hl2⟩ := I.tuple hB
  have hl3 := r2.length
  have hl4 := r.length
  have hsz : its.toArray.size + its2.toArray.size ≤ sizeLine := by rw [List.size_toArray, List.size_toArray]; omega
  have hlong : (!its.toArray.isEmpty && Builtin.List.listTooLong (its.toArray.size + its2.toArray.size)) = false := by
    rw [notLongL hsz, Bool.and_false]
  refine call_meets F.slot_list_extend ⟨_, e, rfl⟩ F.entry_list_extend (F.args_list_extend_2 _ _)
    (meets_extT l b its.toArray its2.toArray n hlong (by omega) (by omega)) ⟨e, tp, ?_⟩
  refine ⟨.non, _, I.lset (its' := its ++ its2) hH e (by simp) (r.append r2) ?_, rfl, q⟩
  rw [List.length_append]
  omega
end
/-! a def that may print (repr): called where nothing is being printed -/
section
variable {P : Program} {w : World} {K : PySem.W.Frag} {mg : Str → Option Value} {base : Heap} {CX : CXT}
structure FnG (P : Program) (w : World) (K : PySem.W.Frag) (mg : Str → Option Value) (base : Heap)
    (CX : CXT) (k : Nat) (f : Addr) (fd : FuncData) (ps : List Str) (sp : Sp) : Prop where
  len : ∀ ws H Q E, sp ws H Q E → ws.length = ps.length
  go : ∀ (B : Around) (out : List Env) (t : Shared) (H : Hp) (as : Args) (us : List Value) (ws : List V) (Q : VK) (E : XK), B.guards = some [] → Room k B →
    Env0 P w K mg base B out t H → BindsTo t fd as (ps.zip us) → Vals ws us → sp ws H Q E →
    codeAny (model P w) B (.call (.ref f) as) (CR CX out P w H t Q E) t
theorem FnOk.toG {k : Nat} {f : Addr} {fd : FuncData} {ps : List Str} {sp : Sp} (F : FnOk P w K mg base CX k f fd ps sp) : FnG P w K mg base CX k f fd ps sp :=
  ⟨F.len, fun B out t H as us ws Q E _ => F.run B out t H as us ws Q E⟩
theorem FnG.mono {j k : Nat} {f : Addr} {fd : FuncData} {ps : List Str} {sp : Sp} (F : FnG P w K mg base CX j f fd ps sp) (h : j ≤ k) : FnG P w K mg base CX k f fd ps sp :=
  ⟨F.len, fun B out t H as us ws Q E g r => F.go B out t H as us ws Q E g (r.mono h)⟩
theorem fnG_of {k : Nat} {f : Addr} {name qual : Str} {params : Arguments} {body : List Stmt} {scope : Scope} {dV kV doc pm cdv ct oc : Value} {an od : Option Addr} {osl : Array (Option Value)} {N ps : List Str} {sp : Sp}
    (lk : K.lookup f = some ⟨oc, od, .func (PySem.W.fnOf name qual params body scope dV kV doc pm an cdv ct), osl⟩) (hcd : PySem.W.codeIn K cdv qual = true) (S : FnScope N ps scope)
    (len : ∀ ws H Q E, sp ws H Q E → ws.length = ps.length)
    (hb : ∀ (B : Around) (out : List Env) (t : Shared) (H : Hp) (ws : List V) (Q : VK) (E : XK), B.guards = some [] → Room k (B.deeper (envOfC qual scope t.heap.objs.size f cdv)) → sp ws H Q E →
      ∃ r, PSs (cxOf CX P w K mg base N qual scope f cdv B out t H E) body r ∧ r { nx := fun _ H' => Q .non H', rt := Q } (start N ws) H) :
    FnG P w K mg base CX (k + 1) f (PySem.W.fnOf name qual params body scope dV kV doc pm an cdv ct) ps sp := by
  refine ⟨len, ?_⟩
  intro B out t H as us ws Q E hg hr ee bb rr hsp
  have hl := len _ _ _ _ hsp
  have kx : K.In t.heap := ee.mod.kin.keeps fun b o z => (ee.bs b o z).1
  have lm : t.heap.NoLimit := ee.mod.nolimit.keeps fun b o z => (ee.bs b o z).1
  have kinds : ∀ y ∈ ps.zip us, scope.names.lookup y.1 = some .local ∨ (scope.names.lookup y.1 = some .cell ∧
      ((cellsFrom (t.heap.objs.size + 1) scope.names []).lookup y.1).isSome = true) := by
    rintro ⟨n, v⟩ hy
    rcases S.par n (List.of_mem_zip hy).1 with q | q
    · exact Or.inl q
    · exact Or.inr ⟨q, PySem.W.cellsFrom_some _ _ _ (Or.inl q)⟩
  refine codeAny_call_function hr.depth (kx _ _ lk) rfl S.co S.gen rfl (PySem.W.codeRec_of kx hcd) (bb _ _ _ _ ?_)
  refine wpAny_newFunctionEnv_cells S.kind kinds fun env he t1 x => ?_
  subst he
  refine ⟨lm.keeps x.toInCall.keep, codeAny_func ?_⟩
  obtain ⟨r, ht, hq⟩ := hb B out t H ws Q E hg (hr.deeper _) hsp
  have J := inv_start (CX := CX) (E := E) S hr.hd ee hl rr x
  refine wpAny_mono (ht.run [] t1 (start N ws) H _ J hq) (fun fl t' hs => ?_) (fun _ _ hs => hs)
  cases fl with
  | brk => exact hs.elim fun _ z => z.elim fun _ z => z.2.elim
  | cont => exact hs.elim fun _ z => z.elim fun _ z => z.2.elim
  | ret u =>
    obtain ⟨v, _, H', J', rv, q⟩ := hs
    exact ⟨v, H', J'.os, J'.bare, J'.base, J'.hok, rv, q⟩
  | next =>
    obtain ⟨_, H', J', q⟩ := hs
    exact ⟨.non, H', J'.os, J'.bare, J'.base, J'.hok, rfl, q⟩
end
section
variable {X : Cx} {CX : CXT} {k : Nat} {f : Addr} {fd : FuncData} {ps : List Str} {sp : Sp} {ds : List Value} {dvs : List V} {E : XK} {x : Str} {p pos : Pos} {e : Expr} {es : List Expr} {t : TA}
theorem pe_callG (F : FnG X.prog X.w X.K X.mg X.base CX k f fd ps sp) (gd : X.A.guards = some []) (hr : Room k X.A) (hg : Gl X x) (hm : X.mg x = some (.ref f)) (hk : PySem.W.keepIn X.K (.ref f) = true)
    (hb : Binds X.K fd ps ds) (hd : Vals dvs ds) (hx : Passes CX X E) (ha : PA X (e :: es) t) (hdb : (x == ("__debug__" : Str)) = false := by decide)
    (he : starEach (e :: es) X.env = (false, eval e X.env) :: starEach es X.env := by rfl) (hpl : (backTo pos (starEach es X.env)).any (·.1) = false := by rfl) :
    PE X (.Call (.Name x p) (e :: es) [] pos) (tCall sp dvs E t) := by
  refine ⟨fun pins s σ H Q I h => wpAny_Call_Name_kw (ld_glob I hg hm ?_ hdb)⟩
  refine PySem.W.callWith_K (h₀ := X.base) I.ok.mod.kin hk ?_ he hpl
  refine thn (ha.run pos pins s σ H _ I h) fun us t1 ⟨ws, H1, J, r, q⟩ => ⟨J.kIn, ?_⟩
  have r2 : Vals (ws ++ dvs) (us ++ ds) := r.append hd
  have hl : (us ++ ds).length = ps.length := r2.length.symm.trans (F.len _ _ _ _ q)
  refine wpAny_call (codeAny_mono (F.go X.A X.stack t1 H1 ⟨us, []⟩ (us ++ ds) (ws ++ dvs) Q E gd hr J.env0 (hb t1 us J.kIn hl) r2 q) ?_)
  intro r t' hq
  cases r with
  | error z => exact hx pins σ H1 t1 z t' J hq
  | ok fl =>
    cases fl with
    | ret u => exact J.after hq
    | next => exact False.elim hq
    | brk => exact False.elim hq
    | cont => exact False.elim hq
end
/-! the law's own call, where its def may print -/
abbrev Tru (s₁ : Shared) (r : Result) (t : Shared) : Prop := r = .ok (.ret (.bool true)) ∧ OldK s₁.heap t.heap ∧ t.os = s₁.os ∧ AllBare t.gens
theorem law_core {P : Program} {w : World} {K : PySem.W.Frag} {mg mb : Str → Option Value} {k : Nat} {fa a : Addr} {fd : FuncData} {x : Str} {sp : Sp} {s₁ : Shared} {vs : List Value} {ns : List Int}
    (kx : K.In s₁.heap) (n1 : s₁.heap.Ns mainGlobals mg) (n2 : s₁.heap.Ns builtinsNs mb) (n3 : ∀ x : Str, x ≠ "__name__" → mb x = bootBuiltins x) (n4 : s₁.heap.NoLimit) (g0 : s₁.gens = #[])
    (oa : s₁.heap.get? a = some { cls := .type "list", data := .seq vs.toArray }) (hr : Room k callerA)
    (F : ∀ base : Heap, K.In base → base.Ns mainGlobals mg → FnG P w K mg base CX0 k fa fd [x] sp) (bd : ∀ (s : Shared) (u : Value), BindsTo s fd ⟨[u], []⟩ [(x, u)])
    (hsp : ∀ H : Hp, Only H → SqL K H a (ns.map V.int) → sp [.ref a] H (fun v _ => v = .bl true) fun _ _ _ => False)
    (H : Hp) (hO : Only H) (hS : SqL K H a (ns.map V.int)) (ok : HOk P w H s₁.heap) (hA : ∀ b, H b ≠ none → b = a) (hK : H a ≠ none → K.lookup a = none) :
    codeAny (model P w) callerA (.call (.ref fa) ⟨[.ref a], []⟩) (Tru s₁) s₁ := by
  have out : ∀ {b : Addr} {o : Obj} {es : Array DictEntry} {ep : Nat}, s₁.heap.get? b = some o → o.data = .dict es ep → H b = none := by
    intro b o es ep e d
    by_cases q : H b = none
    · exact q
    · have z := hA b q
      subst z
      rw [oa] at e
      cases e
      exact nomatch d
  have nsK : ∀ {b : Addr} {m : Str → Option Value}, s₁.heap.Ns b m → (hidT s₁.heap H).Ns b m := by
    rintro b m ⟨o, es, ep, e, d, r⟩
    exact ⟨o, es, ep, hidT_get e (out e d), d, r⟩
  have kb : K.In (hidT s₁.heap H) := by
    intro b o e
    refine hidT_get (kx b o e) ?_
    by_cases q : H b = none
    · exact q
    · have z := hA b q
      subst z
      have y := hK q
      rw [y] at e
      cases e
  have lim : (hidT s₁.heap H).NoLimit := by
    obtain ⟨mc, h1, h2⟩ := n4
    exact ⟨mc, nsK h1, h2⟩
  have md : Mod K mg (hidT s₁.heap H) := ⟨kb, nsK n1, ⟨mb, nsK n2, n3⟩, lim⟩
  have ee : Env0 P w K mg (hidT s₁.heap H) callerA [] s₁ H := by
    refine ⟨rfl, md, fun b o e => of_hidT e, Nat.le_of_eq (hidT_size _ _), trivial, ?_, ok, .of_eq g0⟩
    intro b hb
    exact absurd (show b ∈ ([] : List Addr) from hb) (by simp)
  have run := (F _ kb (nsK n1)).go callerA [] s₁ H ⟨[.ref a], []⟩ [.ref a] [.ref a] _ _ rfl hr ee (bd s₁ (.ref a)) (.cons rfl .nil) (hsp H hO hS)
  refine codeAny_mono run ?_
  intro r t h
  cases r with
  | error e => exact False.elim h
  | ok fl =>
    cases fl with
    | brk => exact False.elim h
    | cont => exact False.elim h
    | next => exact False.elim h
    | ret u =>
      obtain ⟨v, H', os, bare, un, ok', rv, q⟩ := h
      have q' : v = .bl true := q
      subst q'
      obtain rfl : u = Value.bool true := rv
      refine ⟨rfl, OldK.of_keep ?_, os, bare⟩
      intro b o e
      rcases hO b with z | ⟨ob, xs, z⟩
      · exact un.keep b o e z (fun y => absurd (show b ∈ ([] : List Addr) from y) (by simp)) (by simp)
      · obtain ⟨e1, _⟩ := ok b _ z
        obtain ⟨e2, _⟩ := ok' b _ (un.frzs b ob _ z)
        rw [e] at e1
        cases e1
        exact e2
theorem law_callG {P : Program} {w : World} {K : PySem.W.Frag} {mg mb : Str → Option Value} {k : Nat} {fa a : Addr} {fd : FuncData} {x : Str} {sp : Sp} {s₁ : Shared} {vs : List Value} {ns : List Int}
    (kx : K.In s₁.heap) (n1 : s₁.heap.Ns mainGlobals mg) (n2 : s₁.heap.Ns builtinsNs mb) (n3 : ∀ x : Str, x ≠ "__name__" → mb x = bootBuiltins x) (n4 : s₁.heap.NoLimit) (g0 : s₁.gens = #[])
    (oa : s₁.heap.get? a = some { cls := .type "list", data := .seq vs.toArray }) (hi : IntsAre vs ns) (hl : ns.length ≤ sizeLine) (hr : Room k callerA)
    (F : ∀ base : Heap, K.In base → base.Ns mainGlobals mg → FnG P w K mg base CX0 k fa fd [x] sp) (bd : ∀ (s : Shared) (u : Value), BindsTo s fd ⟨[u], []⟩ [(x, u)])
    (hsp : ∀ H : Hp, Only H → SqL K H a (ns.map V.int) → sp [.ref a] H (fun v _ => v = .bl true) fun _ _ _ => False) :
    codeAny (model P w) callerA (.call (.ref fa) ⟨[.ref a], []⟩) (Tru s₁) s₁ := by
  have rv := vals_ints hi
  have lv := rv.length
  rw [List.length_map] at lv
  have go := law_core (ns := ns) kx n1 n2 n3 n4 g0 oa hr F bd hsp
  by_cases hk : K.lookup a = none
  · refine go (fun b => if b = a then some (.frz { cls := .type "list", data := .seq vs.toArray } (.lst (ns.map V.int))) else none) ?_ ?_ ?_ ?_ (fun _ => hk)
    · intro b
      by_cases hb : b = a
      · exact Or.inr ⟨_, _, if_pos hb⟩
      · exact Or.inl (if_neg hb)
    · exact .inl (.inr ⟨{ cls := .type "list", data := .seq vs.toArray }, if_pos rfl⟩)
    · intro b u z
      by_cases hb : b = a
      · cases (if_pos hb).symm.trans z
        subst hb
        exact ⟨oa, by rw [List.length_map]; exact hl, vs, _, rv, oa⟩
      · cases (if_neg hb).symm.trans z
    · intro b z
      by_cases hb : b = a
      · exact hb
      · exact absurd (if_neg hb) z
  · obtain ⟨o, hk⟩ := Option.ne_none_iff_exists'.mp hk
    have e := kx a o hk
    rw [oa] at e
    cases e
    refine go (fun _ => none) (fun _ => .inl rfl) ?_ ?_ (fun b z => absurd rfl z) (fun z => absurd rfl z)
    · exact .inr ⟨_, vs.toArray, _, hk, rfl, rfl, rfl, by rw [List.size_toArray, ← lv]; exact hl, by simpa using rv⟩
    · intro b u z
      exact nomatch (show (none : Option HO) = some u from z)
theorem walkG {l : PySem.W.OpenLaw} {n k : Nat} {q : Program} {loose : List Str} {XP : (Str → Option Value) → Heap → Prop} {YP : World → Heap → Prop} {d : DefRec} {K : Params → PySem.W.Frag} {sp : PySem.W.Frag → Sp} {x : Str}
    (hn : l.most = some n) (hn2 : n ≤ sizeLine) (hdf : d.params.defaults = []) (hr : Room k callerA) (hY : ∀ (w : World) (h : Heap), YP w h → (K w.params).In h)
    (F : ∀ (w : World) (mg : Str → Option Value) (fa : Addr) (h : Heap), (K w.params).In h → h.Ns mainGlobals mg → mg d.name = some (.ref fa) →
      ∃ fd : FuncData, (∀ (s : Shared) (u : Value), BindsTo s fd ⟨[u], []⟩ [(x, u)]) ∧ ∀ base : Heap, (K w.params).In base → base.Ns mainGlobals mg → FnG l.prog w (K w.params) mg base CX0 k fa fd [x] (sp (K w.params)))
    (hsp : ∀ (K : PySem.W.Frag) (H : Hp) (a : Addr) (ns : List Int), ns.length ≤ n → Only H → SqL K H a (ns.map V.int) → sp K [.ref a] H (fun v _ => v = .bl true) fun _ _ _ => False) :
    PySem.W.WalkO q loose XP YP l.row.toRowW d [] (fun f vs => PySem.call f vs) := by
  refine Att.attach_call hn hdf ?_
  intro w s₀ s₁ mg mb fa o pm cd doc a vs ns G Y ho hd hcd hmg hobj hints hlen hg
  obtain ⟨fd, hb, hF⟩ := F w mg fa _ (hY w _ Y) G.T.g hmg
  exact law_callG (hY w _ Y) G.T.g G.T.b G.T.builtins G.T.nolimit hg hobj hints (Nat.le_trans hlen hn2) hr hF hb (fun H hO hS => hsp (K w.params) H a ns hlen hO hS)
/-! heaps: what is kept, but for some addresses -/
def cut (l : List Addr) (H : Hp) : Hp := fun b => if b ∈ l then none else H b
def Off (l : List Addr) (H H' : Hp) : Prop := Same (cut l H) (cut l H')
theorem cut_out {l : List Addr} {H : Hp} {b : Addr} (h : b ∉ l) : cut l H b = H b := if_neg h
theorem cut_in {l : List Addr} {H : Hp} {b : Addr} (h : b ∈ l) : cut l H b = none := if_pos h
theorem cut_some {l : List Addr} {H : Hp} {b : Addr} {o : HO} (h : cut l H b = some o) : b ∉ l ∧ H b = some o := by
  by_cases e : b ∈ l
  · rw [cut_in e] at h
    cases h
  · rw [cut_out e] at h
    exact ⟨e, h⟩
theorem same_new {H : Hp} {p : Addr} (h : H p = none) (o : HO) : Same H (upd H p o) := fun b u q => by
  rw [upd_ne (ne_of_none q h)]
  exact q
theorem cut_same (l : List Addr) (H : Hp) : Same (cut l H) H := fun _ _ h => (cut_some h).2
theorem Off.refl (l : List Addr) (H : Hp) : Off l H H := Same.refl _
theorem Off.trans {l : List Addr} {H H1 H2 : Hp} (a : Off l H H1) (b : Off l H1 H2) : Off l H H2 := Same.trans a b
theorem Off.of {l : List Addr} {H H' : Hp} (s : Same H H') : Off l H H' := fun b o h => by
  obtain ⟨n, e⟩ := cut_some h
  rw [cut_out n]
  exact s b o e
theorem Off.get {l : List Addr} {H H' : Hp} (s : Off l H H') {b : Addr} {o : HO} (h : H b = some o) (n : b ∉ l) : H' b = some o := by
  have q := s b o (by rw [cut_out n]; exact h)
  exact (cut_some q).2
theorem Off.mono {l m : List Addr} {H H' : Hp} (s : Off l H H') (h : ∀ b ∈ l, b ∈ m) : Off m H H' := fun b o e => by
  obtain ⟨n, e⟩ := cut_some e
  rw [cut_out n]
  exact s.get e fun z => n (h b z)
/-- a change at an address that is not counted -/
theorem Off.put {l : List Addr} {H : Hp} {p : Addr} {o : HO} (h : p ∈ l) : Off l H (upd H p o) := fun b u e => by
  obtain ⟨n, e⟩ := cut_some e
  rw [cut_out n, upd_ne (fun z => n (by rw [z]; exact h))]
  exact e
/-- an address that was free then -/
theorem Off.free {l : List Addr} {H H' : Hp} (s : Off l H H') {b : Addr} (h : H' b = none) (n : b ∉ l) : H b = none := by
  cases q : H b with
  | none => rfl
  | some o =>
    rw [s.get q n] at h
    cases h
/-! data -/
theorem seqT_up {K : PySem.W.Frag} {H H' : Hp} {a : Addr} {xs : List V} (s : Same H H') (h : SqT K H a xs) : SqT K H' a xs := by
  rcases h with (h | ⟨o, h⟩) | h
  · exact .inl (.inl (s _ _ h))
  · exact .inl (.inr ⟨o, s _ _ h⟩)
  · exact .inr h
mutual
theorem Dp.up {K : PySem.W.Frag} {H H' : Hp} (s : Same H H') : ∀ (d : PyData) (v : V), Dp K H v d → Dp K H' v d
  | .none, _, h => by cases h; exact .non
  | .bool b, _, h => by cases h; exact .bl b
  | .int i, _, h => by cases h; exact .int i
  | .str x, _, h => by cases h; exact .str x
  | .list ds, _, h => by
    cases h with
    | lst h1 h2 => exact .lst (s.seq h1) (Dp.ups s ds _ h2)
  | .tuple ds, _, h => by
    cases h with
    | tup h1 h2 => exact .tup (seqT_up s h1) (Dp.ups s ds _ h2)
  | .dict _, _, h => by cases h
theorem Dp.ups {K : PySem.W.Frag} {H H' : Hp} (s : Same H H') : ∀ (ds : List PyData) (vs : List V), DpAll K H vs ds → DpAll K H' vs ds
  | [], _, h => by cases h; exact .nil
  | d :: ds, _, h => by
    cases h with
    | cons h1 h2 => exact .cons (Dp.up s d _ h1) (Dp.ups s ds _ h2)
end
theorem DpAll.len {K : PySem.W.Frag} {H : Hp} : ∀ {vs : List V} {ds : List PyData}, DpAll K H vs ds → vs.length = ds.length
  | _, _, .nil => rfl
  | _, _, .cons _ t => congrArg (· + 1) (DpAll.len t)
theorem DpAll.get {K : PySem.W.Frag} {H : Hp} : ∀ {vs : List V} {ds : List PyData} {i : Nat} {v : V}, DpAll K H vs ds → vs[i]? = some v → ∃ d, ds[i]? = some d ∧ Dp K H v d
  | _, _, _, _, .nil, e => by simp at e
  | _, _, 0, _, .cons h _, e => by simp at e; subst e; exact ⟨_, rfl, h⟩
  | _, _, i + 1, _, .cons _ t, e => by
    obtain ⟨d, a, b⟩ := DpAll.get (i := i) t (by simpa using e)
    exact ⟨d, by simpa using a, b⟩
theorem DpAll.app {K : PySem.W.Frag} {H : Hp} : ∀ {vs ws : List V} {ds es : List PyData}, DpAll K H vs ds → DpAll K H ws es → DpAll K H (vs ++ ws) (ds ++ es)
  | _, _, _, _, .nil, s => s
  | _, _, _, _, .cons r t, s => .cons r (DpAll.app t s)
/-- the name of a thing's type -/
def tyN : PyData → String
  | .none => "NoneType"
  | .bool _ => "bool"
  | .int _ => "int"
  | .str _ => "str"
  | .list _ => "list"
  | .tuple _ => "tuple"
  | .dict _ => "dict"
theorem tyD {K : PySem.W.Frag} {H : Hp} {v : V} {d : PyData} (h : Dp K H v d) : TyX K H v (.type (tyN d)) := by
  cases h with
  | non => exact .base .non
  | bl b => exact .base (.bl b)
  | int i => exact .base (.int i)
  | str x => exact .base (.str x)
  | lst h _ =>
    rcases h with (h | ⟨o, h⟩) | ⟨o, its, n, h, c, _⟩
    · exact .base (.lst h)
    · exact .base (.frz h)
    · exact .kList h c
  | tup h _ =>
    rcases h with (h | ⟨o, h⟩) | ⟨o, its, n, h, c, _⟩
    · exact .base (.tup h)
    · exact .fTuple h
    · exact .kTuple h c
/-- isinstance(x, T) of data -/
def rIsD (K : PySem.W.Frag) : List V → Hp → VK → Prop := fun xs H Q =>
  ∃ v d T b, xs = [v, .ty T] ∧ Dp K H v d ∧ kitB (tyN d) T = some b ∧ Q (.bl b) H
theorem call_isD {X : Cx} : CallR X (.builtin "isinstance") (rIsD X.K) := by
  intro pins s σ H xs us Q I r h
  obtain ⟨v, d, T, b, rfl, hd, hk, q⟩ := h
  exact call_isi pins s σ H _ us Q I r ⟨v, .ty T, _, _, b, rfl, .ty T, tyD hd, kit_ty hk, q⟩
/-! the box that a law draws from -/
def bx (g : Addr) (n s t : Int) : List (Key × V) := [(Sum.inr "great", .ref g), (Sum.inr "now", .int n), (Sum.inr "seed", .int s), (Sum.inr "turn", .int t)]
structure Box (H : Hp) (p g : Addr) : Prop where
  ex : ∃ n s t gs, H p = some (.dK (bx g n s t)) ∧ H g = some (.lst (List.map V.int gs)) ∧ gs.length ≤ 1000
theorem Box.ne {H : Hp} {p g : Addr} (b : Box H p g) : p ≠ g := by
  obtain ⟨n, s, t, gs, h1, h2, _⟩ := b.ex
  exact ne_of h1 h2 (by intro z; cases z)
theorem Box.off {H H' : Hp} {p g : Addr} {l : List Addr} (b : Box H p g) (h : Off l H H') (n1 : p ∉ l) (n2 : g ∉ l) : Box H' p g := by
  obtain ⟨n, s, t, gs, h1, h2, h3⟩ := b.ex
  exact ⟨n, s, t, gs, h.get h1 n1, h.get h2 n2, h3⟩
theorem Box.same {H H' : Hp} {p g : Addr} (b : Box H p g) (h : Same H H') : Box H' p g := by
  obtain ⟨n, s, t, gs, h1, h2, h3⟩ := b.ex
  exact ⟨n, s, t, gs, h _ _ h1, h _ _ h2, h3⟩
theorem kgn : ¬ ((Sum.inr "great" : Key) = (Sum.inr "now" : Key)) := by decide +kernel
theorem kgs : ¬ ((Sum.inr "great" : Key) = (Sum.inr "seed" : Key)) := by decide +kernel
theorem kgt : ¬ ((Sum.inr "great" : Key) = (Sum.inr "turn" : Key)) := by decide +kernel
theorem kns : ¬ ((Sum.inr "now" : Key) = (Sum.inr "seed" : Key)) := by decide +kernel
theorem knt : ¬ ((Sum.inr "now" : Key) = (Sum.inr "turn" : Key)) := by decide +kernel
theorem kst : ¬ ((Sum.inr "seed" : Key) = (Sum.inr "turn" : Key)) := by decide +kernel
theorem knf (a b : Key) (h : ¬ a = b) : ¬ b = a := fun z => h z.symm
section
variable (g : Addr) (n s t : Int)
theorem bx_great : valV (bx g n s t) (Sum.inr "great" : Key) = some (.ref g) := by
  simp [valV, bx]
theorem bx_now : valV (bx g n s t) (Sum.inr "now" : Key) = some (.int n) := by
  simp only [valV, bx, List.find?_cons, decide_eq_false kgn, decide_true, Option.map_some]
theorem bx_seed : valV (bx g n s t) (Sum.inr "seed" : Key) = some (.int s) := by
  simp only [valV, bx, List.find?_cons, decide_eq_false kgs, decide_eq_false kns, decide_true, Option.map_some]
theorem bx_turn : valV (bx g n s t) (Sum.inr "turn" : Key) = some (.int t) := by
  simp only [valV, bx, List.find?_cons, decide_eq_false kgt, decide_eq_false knt, decide_eq_false kst, decide_true, Option.map_some]
theorem put_now (y : Int) : putK (bx g n s t) (Sum.inr "now" : Key) (.int y) = bx g y s t := by
  simp only [putK, bx, List.any_cons, List.map_cons, List.map_nil, decide_true, Bool.true_or, Bool.or_true, if_true, if_neg kgn, if_neg (knf _ _ kns), if_neg (knf _ _ knt)]
theorem put_seed (y : Int) : putK (bx g n s t) (Sum.inr "seed" : Key) (.int y) = bx g n y t := by
  simp only [putK, bx, List.any_cons, List.map_cons, List.map_nil, decide_true, Bool.true_or, Bool.or_true, if_true, if_neg kgs, if_neg kns, if_neg (knf _ _ kst)]
theorem put_turn (y : Int) : putK (bx g n s t) (Sum.inr "turn" : Key) (.int y) = bx g n s y := by
  simp only [putK, bx, List.any_cons, List.map_cons, List.map_nil, decide_true, Bool.true_or, Bool.or_true, if_true, if_neg kgt, if_neg knt, if_neg kst]
theorem mer_box : mergeK [] (bx g n s t) = bx g n s t := by
  simp only [mergeK, bx, List.foldl_cons, List.foldl_nil, putK, List.any_nil, List.any_cons, List.nil_append, List.cons_append, decide_eq_false kgn, decide_eq_false kgs, decide_eq_false kgt, decide_eq_false kns, decide_eq_false knt, decide_eq_false kst, Bool.or_false, if_neg Bool.false_ne_true]
end
/-! data that can be printed: small ints, short texts, few nodes -/
mutual
def gd : PyData → Bool
  | .none => true
  | .bool _ => true
  | .int i => decide (i.natAbs.log2 < 1920)
  | .str x => decide (x.length ≤ 100) && x.cps.toList.all fun c => decide (c < 128)
  | .list ds => gds ds
  | .tuple ds => gds ds
  | .dict _ => false
def gds : List PyData → Bool
  | [] => true
  | d :: ds => gd d && gds ds
end
mutual
def nod : PyData → Nat
  | .list ds => 1 + nods ds
  | .tuple ds => 1 + nods ds
  | .none => 1
  | .bool _ => 1
  | .int _ => 1
  | .str _ => 1
  | .dict _ => 1
def nods : List PyData → Nat
  | [] => 0
  | d :: ds => nod d + nods ds
end
mutual
theorem gd_sh : ∀ d : PyData, gd d = true → d.showable = true ∧ d.hasDict = false
  | .none, _ => ⟨by simp only [PyData.showable], by simp only [PyData.hasDict]⟩
  | .bool _, _ => ⟨by simp only [PyData.showable], by simp only [PyData.hasDict]⟩
  | .int i, h => ⟨by simpa only [PyData.showable, gd] using h, by simp only [PyData.hasDict]⟩
  | .str _, _ => ⟨by simp only [PyData.showable], by simp only [PyData.hasDict]⟩
  | .list ds, h => by
    have q := gds_sh ds (by simpa only [gd] using h)
    exact ⟨by simpa only [PyData.showable] using q.1, by simpa only [PyData.hasDict] using q.2⟩
  | .tuple ds, h => by
    have q := gds_sh ds (by simpa only [gd] using h)
    exact ⟨by simpa only [PyData.showable] using q.1, by simpa only [PyData.hasDict] using q.2⟩
  | .dict _, h => by simp [gd] at h
theorem gds_sh : ∀ ds : List PyData, gds ds = true → PyData.showableAll ds = true ∧ PyData.hasDictAll ds = false
  | [], _ => ⟨by simp only [PyData.showableAll], by simp only [PyData.hasDictAll]⟩
  | d :: ds, h => by
    simp only [gds, Bool.and_eq_true] at h
    have q1 := gd_sh d h.1
    have q2 := gds_sh ds h.2
    exact ⟨by simp only [PyData.showableAll, q1.1, q2.1, Bool.and_self], by simp only [PyData.hasDictAll, q1.2, q2.2, Bool.or_self]⟩
end
mutual
theorem gd_sz : ∀ d : PyData, gd d = true → d.shown.length + 2 ≤ 2000 * nod d
  | .none, _ => by
    simp only [PyData.shown, nod]
    decide +kernel
  | .bool b, _ => by
    simp only [PyData.shown, nod]
    cases b <;> decide +kernel
  | .int i, h => by
    have h1 : i.natAbs.log2 < 1920 := by simpa only [gd, decide_eq_true_eq] using h
    have q := int_text_len_1921 h1
    simp only [PyData.shown, nod]
    show (Str.ofString (toString i)).length + 2 ≤ _
    omega
  | .str x, h => by
    simp only [gd, Bool.and_eq_true, decide_eq_true_eq, List.all_eq_true] at h
    have q := StrLaws.reprText_len x (fun c hc => Nat.lt_of_lt_of_le (h.2 c hc) (by decide))
    simp only [PyData.shown, nod]
    omega
  | .list ds, h => by
    have q := gds_sz ds (by simpa only [gd] using h)
    have q2 := listText_len_le (PyData.shownAll ds)
    simp only [PyData.shown, nod]
    omega
  | .tuple ds, h => by
    have q := gds_sz ds (by simpa only [gd] using h)
    have q2 := tupleText_len_le (PyData.shownAll ds)
    simp only [PyData.shown, nod]
    omega
  | .dict _, h => by simp [gd] at h
theorem gds_sz : ∀ ds : List PyData, gds ds = true → ((PyData.shownAll ds).map (·.length)).sum + 2 * (PyData.shownAll ds).length ≤ 2000 * nods ds
  | [], _ => by simp [PyData.shownAll, nods]
  | d :: ds, h => by
    simp only [gds, Bool.and_eq_true] at h
    have q1 := gd_sz d h.1
    have q2 := gds_sz ds h.2
    simp only [PyData.shownAll, nods, List.map_cons, List.sum_cons, List.length_cons]
    omega
end
theorem prn_of {d : PyData} (h : gd d = true) (hn : nod d ≤ 8000) (hd : d.depth ≤ 60) : Prn d :=
  ⟨(gd_sh d h).1, (gd_sh d h).2, hd, by
    have q := gd_sz d h
    have e : sizeLine = 16777216 := by decide
    omega⟩
theorem gds_app : ∀ ds es : List PyData, gds (ds ++ es) = (gds ds && gds es)
  | [], es => by simp [gds]
  | d :: ds, es => by simp only [List.cons_append, gds, gds_app ds es, Bool.and_assoc]
theorem nods_app : ∀ ds es : List PyData, nods (ds ++ es) = nods ds + nods es
  | [], es => by simp [nods]
  | d :: ds, es => by simp only [List.cons_append, nods, nods_app ds es, Nat.add_assoc]
theorem nod_pos : ∀ d : PyData, 1 ≤ nod d
  | .list _ => by simp only [nod]; omega
  | .tuple _ => by simp only [nod]; omega
  | .none => by simp only [nod]; omega
  | .bool _ => by simp only [nod]; omega
  | .int _ => by simp only [nod]; omega
  | .str _ => by simp only [nod]; omega
  | .dict _ => by simp only [nod]; omega
theorem nods_len : ∀ ds : List PyData, ds.length ≤ nods ds
  | [] => Nat.le_refl _
  | d :: ds => by
    have := nod_pos d
    have := nods_len ds
    simp only [nods, List.length_cons]
    omega
theorem gds_mem : ∀ {ds : List PyData} {d : PyData}, gds ds = true → d ∈ ds → gd d = true
  | _ :: _, _, h, m => by
    simp only [gds, Bool.and_eq_true] at h
    rcases List.mem_cons.mp m with e | e
    · rw [e]
      exact h.1
    · exact gds_mem h.2 e
theorem nods_mem : ∀ {ds : List PyData} {d : PyData}, d ∈ ds → nod d ≤ nods ds
  | _ :: _, _, m => by
    simp only [nods]
    rcases List.mem_cons.mp m with e | e
    · rw [e]
      omega
    · have := nods_mem e
      omega
theorem depth_mem : ∀ {ds : List PyData} {d : PyData}, d ∈ ds → d.depth ≤ PyData.depthAll ds
  | _ :: _, _, m => by
    simp only [PyData.depthAll]
    rcases List.mem_cons.mp m with e | e
    · rw [e]
      omega
    · have := depth_mem e
      omega
theorem depthAll_app : ∀ ds es : List PyData, PyData.depthAll (ds ++ es) = max (PyData.depthAll ds) (PyData.depthAll es)
  | [], es => by simp [PyData.depthAll]
  | d :: ds, es => by simp only [List.cons_append, PyData.depthAll, depthAll_app ds es, Nat.max_assoc]
/-- built-in names that the top leaves as they are -/
structure Bi (mg : Str → Option Value) : Prop where
  ii : mg "isinstance" = none
  len : mg "len" = none
  all : mg "all" = none
  str : mg "str" = none
  tup : mg "tuple" = none
  int : mg "int" = none
  bool : mg "bool" = none
  rng : mg "range" = none
  rep : mg "repr" = none
  abs : mg "abs" = none
/-! names -/
def lowOk (c : Nat) : Bool := decide (97 ≤ c) && decide (c ≤ 122)
def isNm (x : Str) : Bool := decide (1 ≤ x.length) && decide (x.length ≤ 8) && x.cps.toList.all lowOk
mutual
def isVal : PyData → Bool
  | .int _ => true
  | .str x => isNm x
  | .tuple ds => isVals ds
  | .none => false
  | .bool _ => false
  | .list _ => false
  | .dict _ => false
def isVals : List PyData → Bool
  | [] => true
  | d :: ds => isVal d && isVals ds
end
theorem isVals_app : ∀ ds es : List PyData, isVals (ds ++ es) = (isVals ds && isVals es)
  | [], es => by simp [isVals]
  | d :: ds, es => by simp only [List.cons_append, isVals, isVals_app ds es, Bool.and_assoc]
def isTup : PyData → Bool
  | .tuple _ => true
  | _ => false
def nmD : PyData → Bool
  | .str x => isNm x
  | _ => false
def inD : PyData → Bool
  | .int _ => true
  | _ => false
def isStr : PyData → Bool
  | .str _ => true
  | _ => false
def isIntB : PyData → Bool
  | .int _ => true
  | .bool _ => true
  | _ => false
def isBool : PyData → Bool
  | .bool _ => true
  | _ => false
theorem kit_tup : ∀ d : PyData, kitB (tyN d) "tuple" = some (isTup d)
  | .none => (by decide +kernel : kitB "NoneType" "tuple" = some false)
  | .bool _ => (by decide +kernel : kitB "bool" "tuple" = some false)
  | .int _ => (by decide +kernel : kitB "int" "tuple" = some false)
  | .str _ => (by decide +kernel : kitB "str" "tuple" = some false)
  | .list _ => (by decide +kernel : kitB "list" "tuple" = some false)
  | .tuple _ => (by decide +kernel : kitB "tuple" "tuple" = some true)
  | .dict _ => (by decide +kernel : kitB "dict" "tuple" = some false)
theorem kit_str : ∀ d : PyData, kitB (tyN d) "str" = some (isStr d)
  | .none => (by decide +kernel : kitB "NoneType" "str" = some false)
  | .bool _ => (by decide +kernel : kitB "bool" "str" = some false)
  | .int _ => (by decide +kernel : kitB "int" "str" = some false)
  | .str _ => (by decide +kernel : kitB "str" "str" = some true)
  | .list _ => (by decide +kernel : kitB "list" "str" = some false)
  | .tuple _ => (by decide +kernel : kitB "tuple" "str" = some false)
  | .dict _ => (by decide +kernel : kitB "dict" "str" = some false)
theorem kit_int : ∀ d : PyData, kitB (tyN d) "int" = some (isIntB d)
  | .none => (by decide +kernel : kitB "NoneType" "int" = some false)
  | .bool _ => (by decide +kernel : kitB "bool" "int" = some true)
  | .int _ => (by decide +kernel : kitB "int" "int" = some true)
  | .str _ => (by decide +kernel : kitB "str" "int" = some false)
  | .list _ => (by decide +kernel : kitB "list" "int" = some false)
  | .tuple _ => (by decide +kernel : kitB "tuple" "int" = some false)
  | .dict _ => (by decide +kernel : kitB "dict" "int" = some false)
theorem kit_bool : ∀ d : PyData, kitB (tyN d) "bool" = some (isBool d)
  | .none => (by decide +kernel : kitB "NoneType" "bool" = some false)
  | .bool _ => (by decide +kernel : kitB "bool" "bool" = some true)
  | .int _ => (by decide +kernel : kitB "int" "bool" = some false)
  | .str _ => (by decide +kernel : kitB "str" "bool" = some false)
  | .list _ => (by decide +kernel : kitB "list" "bool" = some false)
  | .tuple _ => (by decide +kernel : kitB "tuple" "bool" = some false)
  | .dict _ => (by decide +kernel : kitB "dict" "bool" = some false)
theorem one_lt (c d : Nat) : (([c] : List Nat) < [d]) ↔ c < d := by
  constructor
  · intro h
    cases h with
    | rel h => exact h
    | cons h => cases h
  · intro h
    exact .rel h
theorem cps_a : (("a" : Str)).cps.toList = [97] := by decide +kernel
theorem cps_z : (("z" : Str)).cps.toList = [122] := by decide +kernel
theorem ge_a (c : Nat) : (!decide ((⟨#[c]⟩ : Str).cps.toList < ("a" : Str).cps.toList)) = decide (97 ≤ c) := by
  rw [cps_a]
  by_cases h : 97 ≤ c
  · have : ¬ ((⟨#[c]⟩ : Str).cps.toList < [97]) := fun z => by
      have := (one_lt c 97).mp z
      omega
    rw [decide_eq_false this, decide_eq_true h]
    rfl
  · have : ((⟨#[c]⟩ : Str).cps.toList < [97]) := (one_lt c 97).mpr (by omega)
    rw [decide_eq_true this, decide_eq_false h]
    rfl
theorem le_z (c : Nat) : (!decide (("z" : Str).cps.toList < (⟨#[c]⟩ : Str).cps.toList)) = decide (c ≤ 122) := by
  rw [cps_z]
  by_cases h : c ≤ 122
  · have : ¬ (([122] : List Nat) < (⟨#[c]⟩ : Str).cps.toList) := fun z => by
      have := (one_lt 122 c).mp z
      omega
    rw [decide_eq_false this, decide_eq_true h]
    rfl
  · have : (([122] : List Nat) < (⟨#[c]⟩ : Str).cps.toList) := (one_lt 122 c).mpr (by omega)
    rw [decide_eq_true this, decide_eq_false h]
    rfl
theorem gd_str {x : Str} (h : gd (.str x) = true) : x.length ≤ 100 := by
  simp only [gd, Bool.and_eq_true, decide_eq_true_eq] at h
  exact h.1
theorem len_cps (x : Str) : x.length = x.cps.size := rfl
theorem cps_at {x : Str} {i c : Nat} (h : x.cps[i]? = some c) : x.cps.toList[i]? = some c := by simpa using h
/-- what is found going along a list -/
theorem take_snoc {α β : Type} (f : α → β) {l : List α} {i : Nat} {a : α} (h : l[i]? = some a) : (l.take (i + 1)).map f = (l.take i).map f ++ [f a] := by
  rw [List.take_add_one, h, List.map_append]
  rfl
theorem all_map {α : Type} (f : α → Bool) : ∀ l : List α, (l.map f).all id = l.all f
  | [] => rfl
  | a :: l => by simp only [List.map_cons, List.all_cons, all_map f l, id]
/-! promises of those that only look -/
def spLook (K : PySem.W.Frag) (ok : PyData → Prop) (g : PyData → V) : Sp := fun vs H Q _ => ∃ v d, vs = [v] ∧ Dp K H v d ∧ ok d ∧ ∀ H', Same H H' → Q (g d) H'
theorem DpAll.unapp {K : PySem.W.Frag} {H : Hp} : ∀ {xs ys : List V} {ds : List PyData}, DpAll K H (xs ++ ys) ds → ∃ d1 d2, ds = d1 ++ d2 ∧ DpAll K H xs d1 ∧ DpAll K H ys d2
  | [], _, ds, h => ⟨[], ds, rfl, .nil, h⟩
  | x :: xs, _, _, h => by
    cases h with
    | cons h1 h2 =>
      obtain ⟨d1, d2, e, a, b⟩ := DpAll.unapp (xs := xs) h2
      exact ⟨_ :: d1, d2, by rw [e]; rfl, .cons h1 a, b⟩
theorem DpAll.last {K : PySem.W.Frag} {H : Hp} {xs : List V} {ds : List PyData} (h : DpAll K H xs ds) (hx : xs ≠ []) : ∃ xs' v ds' d, xs = xs' ++ [v] ∧ ds = ds' ++ [d] ∧ DpAll K H xs' ds' ∧ Dp K H v d := by
  have e := (List.dropLast_concat_getLast hx).symm
  rw [e] at h
  obtain ⟨d1, d2, e2, a, b⟩ := DpAll.unapp h
  cases b with
  | cons b1 b2 =>
    cases b2
    exact ⟨_, _, d1, _, e, e2, a, b1⟩
theorem last_at (xs : List V) (v : V) : (xs ++ [v])[(xs ++ [v]).length - 1]? = some v := by simp
theorem drop_last (xs : List V) (v : V) : (xs ++ [v]).dropLast = xs := by simp
theorem tup_of {K : PySem.W.Frag} {H : Hp} {v : V} {d : PyData} (h : Dp K H v d) (ht : isTup d = true) : ∃ a xs ds, v = .ref a ∧ d = .tuple ds ∧ SqT K H a xs ∧ DpAll K H xs ds := by
  cases h with
  | tup h1 h2 => exact ⟨_, _, _, rfl, rfl, h1, h2⟩
  | non => cases ht
  | bl b => cases ht
  | int i => cases ht
  | str x => cases ht
  | lst h1 h2 => cases ht
theorem isVal_no {d : PyData} (h1 : isTup d = false) : isVal d = (inD d || nmD d) := by
  cases d with
  | tuple ds => exact absurd (show true = false from h1) (by decide)
  | str x => simp only [isVal, inD, nmD, Bool.false_or]
  | int i => simp only [isVal, inD, nmD, Bool.true_or]
  | none => simp only [isVal, inD, nmD, Bool.or_self]
  | bool b => simp only [isVal, inD, nmD, Bool.or_self]
  | list b => simp only [isVal, inD, nmD, Bool.or_self]
  | dict b => simp only [isVal, inD, nmD, Bool.or_self]
/-- going along anything: what one turn does is B -/
theorem along {J : It} {n : Nat} {G : Hp → Prop} {Y : Nat → Hp → V → Hp → Prop} (w : Walk J n G Y) {B : (Hp → Prop) → V → Hp → Prop} {H0 : Hp} {Qd : Hp → Prop} (Pv : Nat → Hp → Prop) (h0 : Pv 0 H0) (hG : ∀ i H, i ≤ n → Pv i H → G H)
    (hs : ∀ i x H H', i < n → Pv i H → Y i H x H' → B (Pv (i + 1)) x H') (hd : ∀ H, Pv n H → Qd H) :
    ∃ W : Nat → Nat → Hp → Prop, (∃ m, W 0 m H0) ∧ ∀ i m H, W i m H → (J.stop i H ∧ Qd H) ∨ (J.go i H ∧ ∃ Nx : Hp → Prop, (∀ H', Nx H' → ∃ m', m' < m ∧ W (i + 1) m' H') ∧ ∀ x H', J.yld i H x H' → B Nx x H') := by
  refine ⟨fun i m H => i ≤ n ∧ m + i = n ∧ Pv i H, ⟨n, Nat.zero_le _, rfl, h0⟩, ?_⟩
  rintro i m H ⟨hi, hm, p⟩
  have gg := hG i H hi p
  by_cases lt : i < n
  · refine Or.inr ⟨w.goes i H lt gg, Pv (i + 1), ?_, ?_⟩
    · intro H' p'
      exact ⟨m - 1, by omega, by omega, by omega, p'⟩
    · intro x H' y
      exact hs i x H H' lt p (w.yields i H x H' lt gg y)
  · have e : i = n := by omega
    subst e
    exact Or.inl ⟨w.stops H gg, hd H p⟩
mutual
def dep : PyData → Nat
  | .tuple ds => 1 + deps ds
  | .none => 0
  | .bool _ => 0
  | .int _ => 0
  | .str _ => 0
  | .list _ => 0
  | .dict _ => 0
def deps : List PyData → Nat
  | [] => 0
  | d :: ds => max (dep d) (deps ds)
end
def kids : PyData → List PyData
  | .tuple ds => ds
  | _ => []
theorem deps_app : ∀ ds es : List PyData, deps (ds ++ es) = max (deps ds) (deps es)
  | [], es => by simp [deps]
  | d :: ds, es => by simp only [List.cons_append, deps, deps_app ds es, Nat.max_assoc]
theorem dep_no {d : PyData} (h : isTup d = false) : dep d = 0 := by
  cases d with
  | tuple ds => exact absurd (show true = false from h) (by decide)
  | str x => simp only [dep]
  | int i => simp only [dep]
  | none => simp only [dep]
  | bool b => simp only [dep]
  | list b => simp only [dep]
  | dict b => simp only [dep]
theorem deps_filter : ∀ ds : List PyData, deps (ds.filter isTup) = deps ds
  | [] => rfl
  | d :: ds => by
    cases h : isTup d with
    | true => simp only [List.filter_cons, h, if_true, deps, deps_filter ds]
    | false => simp only [List.filter_cons, h, Bool.false_eq_true, if_false, deps, deps_filter ds, dep_no h, Nat.zero_max]
theorem deps_kids : ∀ ds : List PyData, (∀ d ∈ ds, isTup d = true) → ds ≠ [] → deps ds = 1 + deps (ds.flatMap kids)
  | [], _, h => absurd rfl h
  | d :: ds, h, _ => by
    have hd := h d List.mem_cons_self
    have e1 : dep d = 1 + deps (kids d) := by
      cases d with
      | tuple es => simp only [dep, kids]
      | _ => cases hd
    rw [List.flatMap_cons, deps_app]
    simp only [deps]
    by_cases e : ds = []
    · subst e
      simp only [deps, List.flatMap_nil, e1]
      omega
    · have ih := deps_kids ds (fun x hx => h x (List.mem_cons_of_mem _ hx)) e
      rw [ih, e1]
      omega
theorem nods_kids : ∀ ds : List PyData, nods (ds.flatMap kids) ≤ nods ds
  | [] => Nat.le_refl _
  | d :: ds => by
    rw [List.flatMap_cons, nods_app]
    have ih := nods_kids ds
    have e : nods (kids d) ≤ nod d := by
      cases d <;> simp only [kids, nods, nod] <;> omega
    simp only [nods]
    omega
theorem nods_filter (p : PyData → Bool) : ∀ ds : List PyData, nods (ds.filter p) ≤ nods ds
  | [] => Nat.le_refl _
  | d :: ds => by
    have ih := nods_filter p ds
    have := nod_pos d
    cases h : p d with
    | true =>
      simp only [List.filter_cons, h, if_true, nods]
      omega
    | false =>
      simp only [List.filter_cons, h, Bool.false_eq_true, if_false, nods]
      omega
theorem nods_take (ds : List PyData) (i : Nat) : nods (ds.take i) ≤ nods ds := by
  have e := congrArg nods (List.take_append_drop i ds)
  rw [nods_app] at e
  omega
theorem get_take {α : Type} {l : List α} {i : Nat} {a : α} (h : l[i]? = some a) : l.take (i + 1) = l.take i ++ [a] := by
  rw [List.take_add_one, h]
  rfl
theorem call_isK {X : Cx} {K : PySem.W.Frag} (h : X.K = K) : CallR X (.builtin "isinstance") (rIsD K) := by
  subst h
  exact call_isD
theorem pi_tupK {X : Cx} {K : PySem.W.Frag} {tg l : Expr} {tl : TE} (h : X.K = K) (hl : PE X l tl) : PI X tg l (iTup K tl) := by
  subst h
  exact pi_tup hl
theorem pi_listK {X : Cx} {K : PySem.W.Frag} {tg l : Expr} {tl : TE} (h : X.K = K) (hl : PE X l tl) : PI X tg l (iList K tl) := by
  subst h
  exact pi_list hl
theorem b_ii : bootBuiltins "isinstance" = some (.builtin "isinstance") := by decide +kernel
theorem b_tup : bootBuiltins "tuple" = some (.type "tuple") := by decide +kernel
theorem b_all : bootBuiltins "all" = some (.builtin "all") := by decide +kernel
theorem b_str : bootBuiltins "str" = some (.type "str") := by decide +kernel
theorem b_int : bootBuiltins "int" = some (.type "int") := by decide +kernel
theorem b_bool : bootBuiltins "bool" = some (.type "bool") := by decide +kernel
theorem b_abs : bootBuiltins "abs" = some (.builtin "abs") := by decide +kernel
theorem b_rep : bootBuiltins "repr" = some (.builtin "repr") := by decide +kernel
theorem b_max : bootBuiltins "max" = some (.builtin "max") := by decide +kernel
theorem b_list : bootBuiltins "list" = some (.type "list") := by decide +kernel
/-! short texts of plain signs -/
structure Sm (n : Nat) (x : Str) : Prop where
  le : x.length ≤ n
  lo : ∀ c ∈ x.cps.toList, c < 128
theorem Sm.gd {n : Nat} {x : Str} (h : Sm n x) (hn : n ≤ 100) : Rl.gd (.str x) = true := by
  have h1 := h.le
  have h3 : x.length ≤ 100 := by omega
  have h2 : (x.cps.toList.all fun c => decide (c < 128)) = true := List.all_eq_true.mpr fun c hc => decide_eq_true (h.lo c hc)
  simp only [Rl.gd, decide_eq_true h3, h2, Bool.and_self]
theorem Sm.mono {n m : Nat} {x : Str} (h : Sm n x) (hn : n ≤ m) : Sm m x := ⟨Nat.le_trans h.le hn, h.lo⟩
theorem Sm.fits {n : Nat} {x : Str} (h : Sm n x) (hn : n ≤ 1000) : x.length ≤ sizeLine := Nat.le_trans h.le (Nat.le_of_lt (small1000 hn))
theorem app_cps (x y : Str) : (x ++ y).cps.toList = x.cps.toList ++ y.cps.toList := by
  show (x.cps ++ y.cps).toList = _
  simp
theorem Sm.app {n m : Nat} {x y : Str} (h : Sm n x) (g : Sm m y) : Sm (n + m) (x ++ y) := by
  refine ⟨?_, fun c hc => ?_⟩
  · rw [Str.length_append]
    have := h.le
    have := g.le
    omega
  · rw [app_cps] at hc
    rcases List.mem_append.mp hc with z | z
    · exact h.lo c z
    · exact g.lo c z
theorem Sm.cut {n : Nat} {x : Str} (h : Sm n x) (lo hi : Option Int) : Sm n (cutS x lo hi) := by
  refine ⟨Nat.le_trans (cutS_length x lo hi) h.le, fun c hc => h.lo c ?_⟩
  unfold cutS at hc
  exact List.mem_of_mem_drop (List.mem_of_mem_take (by simpa using hc))
theorem Sm.up {n : Nat} {x : Str} (h : Sm n x) : Sm n (Txt.upper x) := by
  rw [upper_ascii h.lo]
  refine ⟨?_, fun c hc => ?_⟩
  · have := h.le
    show (x.cps.map up1).size ≤ n
    rw [Array.size_map]
    exact this
  · rw [Array.toList_map] at hc
    obtain ⟨b, hb, rfl⟩ := List.mem_map.mp hc
    have := h.lo b hb
    unfold up1
    split <;> omega
theorem Sm.of {x : Str} {n : Nat} (h : (decide (x.length ≤ n) && x.cps.toList.all fun c => decide (c < 128)) = true) : Sm n x := by
  rw [Bool.and_eq_true] at h
  exact ⟨of_decide_eq_true h.1, fun c hc => of_decide_eq_true (List.all_eq_true.mp h.2 c hc)⟩
theorem Sm.join : ∀ (ys : List Str), (∀ y ∈ ys, Sm 1 y) → Sm ys.length (Txt.join "" ys) := by
  intro ys h
  rw [show Txt.join "" ys = Str.join "" ys from StrLaws.glued_eq_join "" ys]
  refine ⟨?_, fun c hc => ?_⟩
  · have q := StrLaws.join_length_le "" ys
    have e0 : (("" : Str)).length = 0 := by decide +kernel
    have s : (ys.map (·.length)).sum ≤ ys.length := by
      clear q
      induction ys with
      | nil => exact Nat.le_refl _
      | cons y r ih =>
        have h1 := (h y List.mem_cons_self).le
        have h2 := ih fun z hz => h z (List.mem_cons_of_mem _ hz)
        simp only [List.map_cons, List.sum_cons, List.length_cons]
        omega
    rw [e0] at q
    exact Nat.le_trans q (by simpa using s)
  · have q := (mem_join "" c ys).mp hc
    rcases q with ⟨t, ht, hc⟩ | ⟨_, hc⟩
    · exact (h t ht).lo c hc
    · have e0 : (("" : Str)).cps.toList = [] := by decide +kernel
      rw [e0] at hc
      cases hc
mutual
theorem gd_lay : ∀ d : PyData, gd d = true → d.canLay0 = true
  | .none, _ => by simp only [PyData.canLay0]
  | .bool _, _ => by simp only [PyData.canLay0]
  | .int _, _ => by simp only [PyData.canLay0]
  | .str x, h => by
    simp only [gd, Bool.and_eq_true, List.all_eq_true, decide_eq_true_eq] at h
    simp only [PyData.canLay0, PyData.strOk, Array.all_eq_true]
    intro i hi
    exact decide_eq_true (Nat.lt_trans (h.2 _ (by simp)) (by decide))
  | .list ds, h => by
    simp only [PyData.canLay0]
    exact gds_lay ds (by simpa only [gd] using h)
  | .tuple ds, h => by
    simp only [PyData.canLay0]
    exact gds_lay ds (by simpa only [gd] using h)
  | .dict _, h => by simp [gd] at h
theorem gds_lay : ∀ ds : List PyData, gds ds = true → PyData.canLayAll0 ds = true
  | [], _ => by simp only [PyData.canLayAll0]
  | d :: ds, h => by
    simp only [gds, Bool.and_eq_true] at h
    simp only [PyData.canLayAll0, gd_lay d h.1, gds_lay ds h.2, Bool.and_self]
end
theorem shaped_of {d : PyData} (h : gd d = true) (hd : d.depth ≤ 64) : SeqAt.shaped d = true := by
  show (d.canLay0 && decide (d.depth ≤ 64)) = true
  rw [gd_lay d h, decide_eq_true hd]
  rfl
theorem Box.notin {H : Hp} {p g a : Addr} (b : Box H p g) (h : H a = none) : a ∉ [p, g] := by
  obtain ⟨n, s, t, gs, h1, h2, _⟩ := b.ex
  intro z
  rcases List.mem_cons.mp z with e | z
  · rw [e, h1] at h
    cases h
  · rcases List.mem_cons.mp z with e | z
    · rw [e, h2] at h
      cases h
    · cases z
/-- all of these are tracked -/
def Tr (l : List Addr) (H : Hp) : Prop := ∀ b ∈ l, H b ≠ none
theorem off_new {l : List Addr} {H H' : Hp} {a : Addr} {o : HO} (h : Off l H H') (n : a ∉ l) (hn : H a = none) : Off l H (upd H' a o) := by
  intro b u e
  obtain ⟨nb, e⟩ := cut_some e
  rw [cut_out nb, upd_ne (ne_of_none e hn)]
  exact h.get e nb
theorem Box.put {H : Hp} {p g a : Addr} {o : HO} (b : Box H p g) (n : a ∉ [p, g]) : Box (upd H a o) p g := by
  obtain ⟨x, s, t, gs, h1, h2, h3⟩ := b.ex
  exact ⟨x, s, t, gs, by rw [upd_ne (fun z => n (by simp [← z]))]; exact h1, by rw [upd_ne (fun z => n (by simp [← z]))]; exact h2, h3⟩
theorem few {n : Nat} (h : n ≤ 1000) : n ≤ sizeLine := Nat.le_of_lt (small1000 h)
theorem cut_new {l : List Addr} {H : Hp} {a : Addr} {o : HO} (h : H a = none) : Same (cut l H) (cut l (upd H a o)) := Off.of (same_new h o)
theorem Tr.go {l m : List Addr} {H H' : Hp} (t : Tr l H) (o : Off m H H') (hm : ∀ b ∈ m, H' b ≠ none) : Tr l H' := fun b hb => by
  by_cases e : b ∈ m
  · exact hm b e
  · intro z
    exact t b hb (o.free z e)
theorem Box.tr {H : Hp} {p g : Addr} (b : Box H p g) : H p ≠ none ∧ H g ≠ none := by
  obtain ⟨x, s, t, gs, h1, h2, _⟩ := b.ex
  constructor
  · rw [h1]
    exact fun z => nomatch z
  · rw [h2]
    exact fun z => nomatch z
theorem ne_mem {l : List Addr} {a b : Addr} (n : a ∉ l) (h : b ∈ l) : b ≠ a := fun e => n (by rw [← e]; exact h)
theorem few2 {n : Nat} (h : n ≤ 100000) : n ≤ sizeLine := Nat.le_trans h (by decide)
theorem Tr.out {l : List Addr} {H : Hp} (t : Tr l H) {a : Addr} (h : H a = none) : a ∉ l := fun z => t a z h
theorem Tr.same {l : List Addr} {H H' : Hp} (t : Tr l H) (s : Same H H') : Tr l H' := fun b hb z => by
  cases q : H b with
  | none => exact t b hb q
  | some o =>
    rw [s b o q] at z
    cases z
theorem seqT_cut {K : PySem.W.Frag} {l : List Addr} {H : Hp} {a : Addr} {xs : List V} (h : SqT K (cut l H) a xs) : SqT K H a xs := seqT_up (cut_same l H) h
theorem cutV_all (xs : List V) (lo hi : Option Int) (h : HT.sIx xs.length 0 lo = 0 ∧ HT.sIx xs.length xs.length hi = xs.length) : cutV xs lo hi = xs := by
  unfold cutV
  rw [h.1, h.2]
  simp
/-- t + u, what comes of it, apart from the addresses l -/
def rCatU (K : PySem.W.Frag) : R2 := fun x y H Q => ∃ a b xs ys l, x = .ref a ∧ y = .ref b ∧ SqT K (cut l H) a xs ∧ SqT K (cut l H) b ys ∧ Tr l H ∧ xs.length + ys.length ≤ sizeLine ∧
  ∀ c H', Same H H' → SqT K (cut l H') c (xs ++ ys) → Q (.ref c) H'
theorem op_catU {X : Cx} : OpR X (binaryOp .Add) (rCatU X.K) := by
  intro pins s σ H x y v u Q I rx ry h
  obtain ⟨a, b, xs, ys, l, rfl, rfl, ha, hb, tl, hz, q⟩ := h
  refine op_catA pins s σ H _ _ v u Q I rx ry ⟨a, b, xs, ys, rfl, rfl, seqT_cut ha, seqT_cut hb, hz, ?_, ?_, ?_⟩
  · intro e
    exact q b H (Same.refl H) (by rw [e]; exact hb)
  · intro _ e
    exact q a H (Same.refl H) (by rw [e, List.append_nil]; exact ha)
  · intro _ _ c hc
    exact q c _ (same_new hc _) (.inl (.inl (by rw [cut_out (tl.out hc)]; exact upd_same)))
def rSlU (K : PySem.W.Frag) : V → Option Int → Option Int → Hp → VK → Prop := fun x lo hi H Q => ∃ a xs l, x = .ref a ∧ SqT K (cut l H) a xs ∧ Tr l H ∧
  ∀ c H', Same H H' → SqT K (cut l H') c (cutV xs lo hi) → Q (.ref c) H'
theorem sl_tupU {X : Cx} : SlR X (rSlU X.K) := by
  intro pins s σ H x v vl vu lo hi sl Q I rx hs pl pu h
  obtain ⟨a, xs, l, rfl, ha, tl, q⟩ := h
  refine sl_tupA pins s σ H _ v vl vu lo hi sl Q I rx hs pl pu ⟨a, xs, rfl, seqT_cut ha, ?_, ?_⟩
  · intro e
    exact q a H (Same.refl H) (by rw [cutV_all xs lo hi e]; exact ha)
  · intro _ c hc
    exact q c _ (same_new hc _) (.inl (.inl (by rw [cut_out (tl.out hc)]; exact upd_same)))
theorem cutV_take (xs : List V) {r : Int} (h0 : 0 ≤ r) (h : r ≤ (xs.length : Int)) : cutV xs none (some r) = xs.take r.toNat := by
  obtain ⟨n, rfl⟩ := Int.eq_ofNat_of_zero_le h0
  unfold cutV
  rw [HT.sIx_none, HT.sIx_nat]
  have : min n xs.length = n := by omega
  rw [this]
  rfl
theorem cutV_drop (xs : List V) {r : Int} (h0 : 0 ≤ r) (h : r ≤ (xs.length : Int)) : cutV xs (some r) none = xs.drop r.toNat := by
  obtain ⟨n, rfl⟩ := Int.eq_ofNat_of_zero_le h0
  unfold cutV
  rw [HT.sIx_none, HT.sIx_nat]
  have : min n xs.length = n := by omega
  rw [this]
  exact List.take_of_length_le (by rw [List.length_drop]; exact Nat.le_refl _)
/-! own classes: ==, !=, str, repr by the class's own defs -/
section
variable {X : Cx} {pins : List (Addr × Obj)} {σ : L2.St} {H : Hp} {s : Shared}
theorem run_at {A' : Around} {k : Nat} {f : Addr} {fd : FuncData} {ps : List Str} {sp : Sp} {us : List Value} {vs : List V} {Q : VK} {E' : Value → Shared → Prop}
    (F : FnOk X.prog X.w X.K X.mg X.base CX0 k f fd ps sp) (hr : Room k A') (ee : Env0 X.prog X.w X.K X.mg X.base A' X.stack s H) (hb : Binds X.K fd ps []) (I : Inv X pins σ H s) (r : Vals vs us) (h : sp vs H Q E0) :
    wpAny (model X.prog X.w) A' (call (.ref f) us) (EP X pins σ Q) E' s := by
  have hl : us.length = ps.length := r.length.symm.trans (F.len _ _ _ _ h)
  have bd := hb s us I.kIn (by rw [List.append_nil]; exact hl)
  rw [List.append_nil] at bd
  refine wpAny_call (codeAny_mono (F.run A' X.stack s H ⟨us, []⟩ us vs Q E0 hr ee bd r h) ?_)
  intro x t hq
  cases x with
  | error z => exact False.elim hq
  | ok fl =>
    cases fl with
    | ret u => exact I.after hq
    | next => exact False.elim hq
    | brk => exact False.elim hq
    | cont => exact False.elim hq
theorem dp_type {v : V} {d : PyData} {u : Value} (I : Inv X pins σ H s) (h : Dp X.K H v d) (r : RelV v u) : s.TypeIs u (tyN d) := by
  cases h with
  | non => cases r; rfl
  | bl b => cases r; rfl
  | int i => obtain ⟨t, rfl⟩ := r; rfl
  | str x => obtain ⟨t, rfl⟩ := r; rfl
  | lst h1 h2 =>
    cases r
    obtain ⟨its, _, ⟨o, n, ho, hc, _, _⟩, _⟩ := I.list h1
    exact ⟨o, ho, hc⟩
  | tup h1 h2 =>
    cases r
    obtain ⟨its, _, ⟨o, ho, hc, _⟩, _⟩ := I.tuple h1
    exact ⟨o, ho, hc⟩
theorem sub_looks {K : PySem.W.Frag} {h : Heap} {t c : Value} {b : Bool} (X : K.In h) (hk : PySem.W.kitOne K t c = some b) (hn : (t == c) = false) (M : Model) : PySem.W.Looks M h (isSubtype t c) b := by
  unfold PySem.W.kitOne at hk
  rw [hn] at hk
  exact (PySem.W.kit_cls X (by simpa using hk)).2.2
end
/-- what an own class says of its special names, and that built-in data are none of it -/
structure OwnC (K : PySem.W.Frag) (C fE : Addr) : Prop where
  c : C8.InsC K C
  eq : Meth K C "__eq__" fE
  ne : PySem.W.findIn K (.ref C) "__ne__" = some (some (.builtin "object.__ne__"))
  k1 : PySem.W.kitOne K (.type "NoneType") (.ref C) = some false
  k2 : PySem.W.kitOne K (.type "bool") (.ref C) = some false
  k3 : PySem.W.kitOne K (.type "int") (.ref C) = some false
  k4 : PySem.W.kitOne K (.type "str") (.ref C) = some false
  k5 : PySem.W.kitOne K (.type "list") (.ref C) = some false
  k6 : PySem.W.kitOne K (.type "tuple") (.ref C) = some false
  j1 : PySem.W.kitOne K (.ref C) (.type "NoneType") = some false
  j2 : PySem.W.kitOne K (.ref C) (.type "bool") = some false
  j3 : PySem.W.kitOne K (.ref C) (.type "int") = some false
  j4 : PySem.W.kitOne K (.ref C) (.type "str") = some false
  j5 : PySem.W.kitOne K (.ref C) (.type "list") = some false
  j6 : PySem.W.kitOne K (.ref C) (.type "tuple") = some false
theorem OwnC.of {K : PySem.W.Frag} {C fE : Addr} (o : OwnC K C fE) {H : Hp} {v : V} {d : PyData} (h : Dp K H v d) : PySem.W.kitOne K (.type (tyN d)) (.ref C) = some false ∧ PySem.W.kitOne K (.ref C) (.type (tyN d)) = some false := by
  cases h with
  | non => exact ⟨o.k1, o.j1⟩
  | bl b => exact ⟨o.k2, o.j2⟩
  | int i => exact ⟨o.k3, o.j3⟩
  | str x => exact ⟨o.k4, o.j4⟩
  | lst h1 h2 => exact ⟨o.k5, o.j5⟩
  | tup h1 h2 => exact ⟨o.k6, o.j6⟩
section
variable {X : Cx} {C fE : Addr} {k : Nat} {fd : FuncData} {sp : Sp}
theorem inst_at {pins : List (Addr × Obj)} {σ : L2.St} {H : Hp} {s : Shared} {a dx : Addr} {fs : List (Str × V)} (I : Inv X pins σ H s) (ha : H a = some (.ins C dx fs)) : ∃ ox od, PySem.W.InstAt s.heap a ox C od := by
  obtain ⟨mA, O, _⟩ := ins_get I.hok ha
  obtain ⟨od, J, _⟩ := O.look
  exact ⟨_, od, J⟩
/-- x == y, x of the class: its own __eq__ tells -/
def rEqL (C : Addr) (sp : Sp) (K : PySem.W.Frag) : R2 := fun x y H Q => ∃ a dx fs, x = .ref a ∧ H a = some (.ins C dx fs) ∧ ((∃ d, Dp K H y d) ∨ ∃ b dy gs, y = .ref b ∧ H b = some (.ins C dy gs)) ∧
  sp [x, y] H (fun v H' => ∃ b, v = .bl b ∧ Q (.bl b) H') E0
theorem op_eqL (O : OwnC X.K C fE) (F : FnOk X.prog X.w X.K X.mg X.base CX0 k fE fd ["self", "other"] sp) (hb : Binds X.K fd ["self", "other"] []) (hr : Room k X.A) : OpR X (compareOp .Eq) (rEqL C sp X.K) := by
  intro pins s σ H x y v u Q I rx ry h
  obtain ⟨a, dx, fs, rfl, ha, hy, q⟩ := h
  cases (show v = Value.ref a from rx)
  obtain ⟨ox, od, J⟩ := inst_at I ha
  have run := run_at (E' := X.xe) F hr I.env0 hb I (.cons rx (.cons ry .nil)) q
  have fin : wpAny (model X.prog X.w) X.A (tryCompare (.ref a) (Str.ofString "__eq__") u) (fun r t => ∃ b, r = some (Value.bool b) ∧ EP X pins σ Q (.bool b) t) X.xe s := by
    unfold tryCompare
    refine wpAny_bind (PySem.W.ifBound_K I.kIn J O.eq.at_ O.eq.fn (wpAny_mono run (fun r t hq => ?_) fun _ _ z => z))
    obtain ⟨v', H', I', rv, b, rfl, q'⟩ := hq
    cases (show r = Value.bool b from rv)
    exact wpAny_pure ⟨b, rfl, .bl b, H', I', rfl, q'⟩
  show wpAny _ _ (richCompare .Eq (.ref a) u) _ _ _
  unfold richCompare
  simp only [oneThing_ref]
  refine wpAny_holding ?_
  refine wpAny_bind (wpAny_cRoomFor hr.units0 ?_)
  refine wpAny_bind (J.type.here ?_)
  rcases hy with ⟨d, hd⟩ | ⟨b, dy, gs, rfl, hb2⟩
  · have ty := dp_type I hd ry
    have kk := O.of hd
    refine wpAny_bind (wpAny_typeOf ty ?_)
    have ne : (Value.ref C != Value.type (tyN d)) = true := rfl
    simp only [ne, if_true]
    refine wpAny_bind ((sub_looks I.kIn kk.1 rfl _).here ?_)
    simp only [Bool.false_eq_true, if_false]
    refine wpAny_bind (m := tryCompare (.ref a) (Str.ofString "__eq__") u) (wpAny_mono fin (fun r t hq => ?_) fun _ _ z => z)
    obtain ⟨b, rfl, hq⟩ := hq
    exact wpAny_pure hq
  · cases (show u = Value.ref b from ry)
    obtain ⟨oy, oe, J2⟩ := inst_at I hb2
    refine wpAny_bind (J2.type.here ?_)
    have ne : (Value.ref C != Value.ref C) = false := by simp
    simp only [ne, Bool.false_eq_true, if_false]
    refine wpAny_bind (wpAny_pure ?_)
    simp only [Bool.false_eq_true, if_false]
    refine wpAny_bind (m := tryCompare (.ref a) (Str.ofString "__eq__") (.ref b)) (wpAny_mono fin (fun r t hq => ?_) fun _ _ z => z)
    obtain ⟨b, rfl, hq⟩ := hq
    exact wpAny_pure hq
end
open AutoSeq1 (wpAny_loadPart')
/-! == of built-in data and an instance: the data decline -/
abbrev plainObj (C : Addr) (dd : Option Addr) (sl : Array (Option Value)) : Obj := { cls := .ref C, dict := dd, data := .plain, slots := sl }
theorem str_declines (b : Str) (u : Tok) (l C : Addr) (dd : Option Addr) (sl : Array (Option Value)) :
    Meets (Builtin.«str.__eq__» ⟨[.str b u, .ref l], []⟩) (fun _ R s => s.heap.get? l = some (plainObj C dd sl) ∧ R (.ok (.ret .notImplemented)) s) :=
  .of_wp fun prog w A R s h => by
    obtain ⟨hp, g, d, tk, os⟩ := s
    obtain ⟨hl, h⟩ := h
    wp_walk using wpAny_loadPart' hl, wpAny_load hl
    exact ⟨_, rfl, h⟩
theorem int_declines (b : Int) (u : Tok) (l C : Addr) (dd : Option Addr) (sl : Array (Option Value)) :
    Meets (Builtin.«int.__eq__» ⟨[.int b u, .ref l], []⟩) (fun _ R s => s.heap.get? l = some (plainObj C dd sl) ∧ R (.ok (.ret .notImplemented)) s) :=
  .of_wp fun prog w A R s h => by
    obtain ⟨hp, g, d, tk, os⟩ := s
    obtain ⟨hl, h⟩ := h
    wp_walk using wpAny_loadPart' hl, wpAny_load hl
    exact ⟨_, rfl, h⟩
theorem bool_declines (b : Bool) (l C : Addr) (dd : Option Addr) (sl : Array (Option Value)) :
    Meets (Builtin.«int.__eq__» ⟨[.bool b, .ref l], []⟩) (fun _ R s => s.heap.get? l = some (plainObj C dd sl) ∧ R (.ok (.ret .notImplemented)) s) :=
  .of_wp fun prog w A R s h => by
    obtain ⟨hp, g, d, tk, os⟩ := s
    obtain ⟨hl, h⟩ := h
    wp_walk using wpAny_loadPart' hl, wpAny_load hl
    exact ⟨_, rfl, h⟩
theorem sub_wp {M : Model} {A : Around} {E : Value → Shared → Prop} {s : Shared} {c t : Value} {b : Bool} {Q : Bool → Shared → Prop} (h : ∀ M, PySem.W.Looks M s.heap (isSubtype c t) b) (q : Q b s) : wpAny M A (isSubtype c t) Q E s := (h M).here q
theorem list_declines (a l C : Addr) (dd : Option Addr) (sl : Array (Option Value)) (o : Obj) :
    Meets (Builtin.«list.__eq__» ⟨[.ref a, .ref l], []⟩) (fun _ R s => s.heap.get? a = some o ∧ s.heap.get? l = some (plainObj C dd sl) ∧ (∀ M, PySem.W.Looks M s.heap (isSubtype (.ref C) (.type "list")) false) ∧ R (.ok (.ret .notImplemented)) s) :=
  .of_wp fun prog w A R s h => by
    obtain ⟨hp, g, d, tk, os⟩ := s
    obtain ⟨ha, hl, hs, h⟩ := h
    wp_walk using wpAny_loadPart' hl, wpAny_load hl, sub_wp hs
    exact ⟨_, rfl, h⟩
theorem tuple_declines (a l C : Addr) (dd : Option Addr) (sl : Array (Option Value)) (o : Obj) :
    Meets (Builtin.«tuple.__eq__» ⟨[.ref a, .ref l], []⟩) (fun _ R s => s.heap.get? a = some o ∧ s.heap.get? l = some (plainObj C dd sl) ∧ (∀ M, PySem.W.Looks M s.heap (isSubtype (.ref C) (.type "tuple")) false) ∧ R (.ok (.ret .notImplemented)) s) :=
  .of_wp fun prog w A R s h => by
    obtain ⟨hp, g, d, tk, os⟩ := s
    obtain ⟨ha, hl, hs, h⟩ := h
    wp_walk using wpAny_loadPart' hl, wpAny_load hl, sub_wp hs
    exact ⟨_, rfl, h⟩
section
variable {X : Cx} {C fE : Addr} {k : Nat} {fd : FuncData} {sp : Sp}
/-- the built-in type's own __eq__ declines -/
theorem data_declines {pins : List (Addr × Obj)} {σ : L2.St} {H : Hp} {s : Shared} {A : Around} {E : Value → Shared → Prop} {x : V} {d : PyData} {v : Value} {b dx : Addr} {fs : List (Str × V)} {Q : Option Value → Shared → Prop} (I : Inv X pins σ H s)
    (hs : ∀ M, PySem.W.Looks M s.heap (isSubtype (.ref C) (.type (tyN d))) false)
    (hd : Dp X.K H x d) (rx : RelV x v) (hb : H b = some (.ins C dx fs)) (q : Q none s) : wpAny (model X.prog X.w) A (tryCompare v (Str.ofString "__eq__") (.ref b)) Q E s := by
  obtain ⟨mA, O, _⟩ := ins_get I.hok hb
  have ob := O.obj
  cases hd with
  | non =>
    cases rx
    exact wpAny_tryCompare_declines (T := "NoneType") rfl F.slot_NoneType_eq (call_gives F.slot_NoneType_eq rfl F.entry_NoneType_eq (F.args_NoneType_eq_2 _ _) (SeqAt.NoneType___eq___none_ref_0 b) ⟨rfl, q⟩)
  | bl z =>
    cases rx
    exact wpAny_tryCompare_declines (T := "bool") rfl F.slot_bool_eq (call_meets F.slot_bool_eq rfl F.entry_int_eq (F.args_int_eq_2 _ _) (bool_declines z b C _ _) ⟨ob, ⟨rfl, q⟩⟩)
  | int i =>
    obtain ⟨t, rfl⟩ := rx
    exact wpAny_tryCompare_declines (T := "int") rfl F.slot_int_eq (call_meets F.slot_int_eq rfl F.entry_int_eq (F.args_int_eq_2 _ _) (int_declines i t b C _ _) ⟨ob, ⟨rfl, q⟩⟩)
  | str y =>
    obtain ⟨t, rfl⟩ := rx
    exact wpAny_tryCompare_declines (T := "str") rfl F.slot_str_eq (call_meets F.slot_str_eq rfl F.entry_str_eq (F.args_str_eq_2 _ _) (str_declines y t b C _ _) ⟨ob, ⟨rfl, q⟩⟩)
  | lst h1 h2 =>
    cases rx
    obtain ⟨its, _, ⟨o, n, ho, hc, _, _⟩, _⟩ := I.list h1
    exact wpAny_tryCompare_declines (T := "list") ⟨o, ho, hc⟩ F.slot_list_eq (call_meets F.slot_list_eq ⟨o, ho, hc⟩ F.entry_list_eq (F.args_list_eq_2 _ _) (list_declines _ b C _ _ o) ⟨ho, ob, hs, ⟨rfl, q⟩⟩)
  | tup h1 h2 =>
    cases rx
    obtain ⟨its, _, ⟨o, ho, hc, _⟩, _⟩ := I.tuple h1
    exact wpAny_tryCompare_declines (T := "tuple") ⟨o, ho, hc⟩ F.slot_tuple_eq (call_meets F.slot_tuple_eq ⟨o, ho, hc⟩ F.entry_tuple_eq (F.args_tuple_eq_2 _ _) (tuple_declines _ b C _ _ o) ⟨ho, ob, hs, ⟨rfl, q⟩⟩)
/-- x == y, y of the class, x built-in data: y's own __eq__ tells -/
def rEqR (C : Addr) (sp : Sp) (K : PySem.W.Frag) : R2 := fun x y H Q => ∃ b dy gs d, y = .ref b ∧ H b = some (.ins C dy gs) ∧ Dp K H x d ∧ sp [y, x] H (fun v H' => ∃ z, v = .bl z ∧ Q (.bl z) H') E0
theorem op_eqR (O : OwnC X.K C fE) (F : FnOk X.prog X.w X.K X.mg X.base CX0 k fE fd ["self", "other"] sp) (hb : Binds X.K fd ["self", "other"] []) (hr : Room k X.A) : OpR X (compareOp .Eq) (rEqR C sp X.K) := by
  intro pins s σ H x y v u Q I rx ry h
  obtain ⟨b, dy, gs, d, rfl, ha, hd, q⟩ := h
  cases (show u = Value.ref b from ry)
  obtain ⟨ox, od, J⟩ := inst_at I ha
  have run := run_at (E' := X.xe) F hr I.env0 hb I (.cons ry (.cons rx .nil)) q
  have ty := dp_type I hd rx
  have kk := O.of hd
  have sb := sub_looks I.kIn kk.2 rfl
  have fin : wpAny (model X.prog X.w) X.A (tryCompare (.ref b) (Str.ofString "__eq__") v) (fun r t => ∃ b, r = some (Value.bool b) ∧ EP X pins σ Q (.bool b) t) X.xe s := by
    unfold tryCompare
    refine wpAny_bind (PySem.W.ifBound_K I.kIn J O.eq.at_ O.eq.fn (wpAny_mono run (fun r t hq => ?_) fun _ _ z => z))
    obtain ⟨v', H', I', rv, b, rfl, q'⟩ := hq
    cases (show r = Value.bool b from rv)
    exact wpAny_pure ⟨b, rfl, .bl b, H', I', rfl, q'⟩
  show wpAny _ _ (richCompare .Eq v (.ref b)) _ _ _
  unfold richCompare
  simp only [ty.oneThing_none]
  refine wpAny_holding ?_
  refine wpAny_bind (wpAny_cRoomFor hr.units0 ?_)
  refine wpAny_bind (wpAny_typeOf ty ?_)
  refine wpAny_bind (J.type.here ?_)
  have ne : (Value.type (tyN d) != Value.ref C) = true := rfl
  simp only [ne, if_true]
  refine wpAny_bind ((sb _).here ?_)
  simp only [Bool.false_eq_true, if_false]
  refine wpAny_bind (m := tryCompare v (Str.ofString "__eq__") (.ref b)) (data_declines I sb hd rx ha ?_)
  simp only [Bool.not_false, if_true]
  refine wpAny_bind (m := tryCompare (.ref b) (Str.ofString "__eq__") v) (wpAny_mono fin (fun r t hq => ?_) fun _ _ z => z)
  obtain ⟨z, rfl, hq⟩ := hq
  exact wpAny_pure hq
theorem ifBound_b {M : Model} {A : Around} {E : Value → Shared → Prop} {s : Shared} {K : PySem.W.Frag} {x C : Addr} {ox : Obj} {od : Option Obj} {name : Str} {id : String} {args : List Value} {Q : Option Value → Shared → Prop} (X : K.In s.heap) (I : PySem.W.InstAt s.heap x ox C od)
    (hs : PySem.W.findIn K (.ref C) name = some (some (.builtin id))) (hb : ∀ self, bindSpecial (.builtin id) self = pure (.builtin id, [self])) (h : wpAny M A (call (.builtin id) (.ref x :: args)) (fun v => Q (some v)) E s) :
    wpAny M A (callSpecialIfBound? (.ref x) name args) Q E s := by
  simp only [callSpecialIfBound?, bindSpecialIfBound?]
  refine wpAny_holding (wpAny_bind (wpAny_bind (wpAny_bind (I.type.here ((PySem.W.looks_findIn X hs).here ?_)))))
  refine wpAny_bind (wpAny_askSetting (wpAny_ite ?_))
  have fin : wpAny M A (call (.builtin id) ([.ref x] ++ args) >>= fun v => pure (some v)) Q E s := wpAny_bind (wpAny_mono h (fun _ _ z => wpAny_pure z) fun _ _ z => z)
  split
  · exact wpAny_bind ((PySem.W.Looks.of_pure (hb _)).here (wpAny_pure (by exact fin)))
  · exact wpAny_tryCatch (wpAny_bind ((PySem.W.Looks.of_pure (hb _)).here (wpAny_pure (by exact fin))))
/-- x != y, x of the class (which has no own __ne__): not what its own __eq__ tells -/
def rNeL (C : Addr) (sp : Sp) (K : PySem.W.Frag) : R2 := fun x y H Q => ∃ a dx fs, x = .ref a ∧ H a = some (.ins C dx fs) ∧ ((∃ d, Dp K H y d) ∨ ∃ b dy gs, y = .ref b ∧ H b = some (.ins C dy gs)) ∧
  sp [x, y] H (fun v H' => ∃ b, v = .bl b ∧ Q (.bl (!b)) H') E0
theorem op_neL (O : OwnC X.K C fE) (F : FnOk X.prog X.w X.K X.mg X.base CX0 k fE fd ["self", "other"] sp) (hb : Binds X.K fd ["self", "other"] []) (hr : Room (k + 1) X.A) : OpR X (compareOp .NotEq) (rNeL C sp X.K) := by
  intro pins s σ H x y v u Q I rx ry h
  obtain ⟨a, dx, fs, rfl, ha, hy, q⟩ := h
  cases (show v = Value.ref a from rx)
  obtain ⟨ox, od, J⟩ := inst_at I ha
  have run := run_at (E' := X.xe) F hr.in1 I.env0.in1 hb I (.cons rx (.cons ry .nil)) q
  have body : wpAny (model X.prog X.w) X.A (call (.builtin "object.__ne__") [.ref a, u]) (fun v t => ∃ b, v = Value.bool b ∧ EP X pins σ Q (.bool b) t) X.xe s := by
    refine wpAny_call (codeAny_call_builtin PySem.F.slot_object_ne.plain PySem.F.entry_object_ne (PySem.W.check_slot (i := "object.__ne__") (owner := "object") (n := "__ne__") (by decide +kernel) (by decide +kernel) (J.type.andThen (PySem.W.looks_mroIn I.kIn O.c.hm)) (PySem.F.args_object_ne_2 _ _) ?_))
    unfold Builtin.«object.__ne__»
    refine wpAny_bind (m := slotArgs "__ne__" 1 _) (wpAny_pure ?_)
    refine wpAny_bind (m := cRoomFor _ _) (wpAny_cRoomFor (by have := hr.units; show X.A.units + 1 < cLine; omega) ?_)
    refine wpAny_bind (m := callSpecialIfBound? (.ref a) (Str.ofString "__eq__") [u]) (PySem.W.ifBound_K I.kIn J O.eq.at_ O.eq.fn (wpAny_mono run (fun r t hq => ?_) fun _ _ z => z))
    obtain ⟨v', H', I', rv, b, rfl, q'⟩ := hq
    cases (show r = Value.bool b from rv)
    refine wpAny_bind (m := truthy (.bool b)) (wpAny_truthy_bool ?_)
    exact wpAny_pure ⟨!b, rfl, .bl (!b), H', I', rfl, q'⟩
  have fin : wpAny (model X.prog X.w) X.A (tryCompare (.ref a) (Str.ofString "__ne__") u) (fun r t => ∃ b, r = some (Value.bool b) ∧ EP X pins σ Q (.bool b) t) X.xe s := by
    unfold tryCompare
    refine wpAny_bind (ifBound_b I.kIn J O.ne PySem.F.slot_object_ne.bind (wpAny_mono body (fun r t hq => ?_) fun _ _ z => z))
    obtain ⟨b, rfl, hq⟩ := hq
    exact wpAny_pure ⟨b, rfl, hq⟩
  show wpAny _ _ (richCompare .NotEq (.ref a) u) _ _ _
  unfold richCompare
  simp only [oneThing_ref]
  refine wpAny_holding ?_
  refine wpAny_bind (wpAny_cRoomFor hr.units0 ?_)
  refine wpAny_bind (J.type.here ?_)
  rcases hy with ⟨d, hd⟩ | ⟨b, dy, gs, rfl, hb2⟩
  · have ty := dp_type I hd ry
    have kk := O.of hd
    refine wpAny_bind (wpAny_typeOf ty ?_)
    have ne : (Value.ref C != Value.type (tyN d)) = true := rfl
    simp only [ne, if_true]
    refine wpAny_bind ((sub_looks I.kIn kk.1 rfl _).here ?_)
    simp only [Bool.false_eq_true, if_false]
    refine wpAny_bind (m := tryCompare (.ref a) (Str.ofString "__ne__") u) (wpAny_mono fin (fun r t hq => ?_) fun _ _ z => z)
    obtain ⟨b, rfl, hq⟩ := hq
    exact wpAny_pure hq
  · cases (show u = Value.ref b from ry)
    obtain ⟨oy, oe, J2⟩ := inst_at I hb2
    refine wpAny_bind (J2.type.here ?_)
    have ne : (Value.ref C != Value.ref C) = false := by simp
    simp only [ne, Bool.false_eq_true, if_false]
    refine wpAny_bind (wpAny_pure ?_)
    simp only [Bool.false_eq_true, if_false]
    refine wpAny_bind (m := tryCompare (.ref a) (Str.ofString "__ne__") (.ref b)) (wpAny_mono fin (fun r t hq => ?_) fun _ _ z => z)
    obtain ⟨b, rfl, hq⟩ := hq
    exact wpAny_pure hq
/-- repr(x), x of a class with its own __repr__ -/
def rRepO (C : Addr) (sp : Sp) : List V → Hp → VK → Prop := fun xs H Q => ∃ a dx fs, xs = [.ref a] ∧ H a = some (.ins C dx fs) ∧ sp [.ref a] H (fun v H' => ∃ y, v = .str y ∧ Q (.str y) H') E0
theorem call_repO {fR : Addr} (m : Meth X.K C "__repr__" fR) (F : FnOk X.prog X.w X.K X.mg X.base CX0 k fR fd ["self"] sp) (hb : Binds X.K fd ["self"] []) (hr : Room (k + 1) X.A) : CallR X (.builtin "repr") (rRepO C sp) := by
  intro pins s σ H xs us Q I r h
  obtain ⟨a, dx, fs, rfl, ha, q⟩ := h
  obtain ⟨u, rfl, ru⟩ := vals1 r
  cases (show u = Value.ref a from ru)
  obtain ⟨ox, od, J⟩ := inst_at I ha
  have run := run_at (E' := X.xe) F hr.in1 I.env0.in1 hb I (.cons ru .nil) q
  refine Calls.call_function_entry PySem.F.kind_repr PySem.F.plain_repr PySem.F.entry_repr (PySem.F.args_repr1 _) ?_
  unfold Builtin.«repr»
  refine wpAny_bind (m := oneArg "repr" _) (wpAny_pure ?_)
  refine wpAny_bind (wpAny_cRoomFor (by have := hr.units; show X.A.units + 1 < cLine; omega) ?_)
  refine wpAny_bind (m := specialOf (.ref a) (Str.ofString "__repr__")) (wpAny_bind (J.type.here ((PySem.W.looks_findIn I.kIn m.at_).here ?_)))
  show wpAny _ _ (if (some (Value.ref fR)).isNone = true then _ else _) _ _ _
  rw [if_neg (by simp)]
  refine wpAny_bind (m := callSpecialIfBound? (.ref a) (Str.ofString "__repr__") _) (PySem.W.ifBound_K I.kIn J m.at_ m.fn (wpAny_mono run (fun r t hq => ?_) fun _ _ z => z))
  obtain ⟨v', H', I', rv, y, rfl, q'⟩ := hq
  obtain ⟨tk, rfl⟩ := (show ∃ t, r = Value.str y t from rv)
  refine wpAny_bind (wpAny_isInstance (typeIs_str _ _ _) isSubtype_str_str ?_)
  have fin : EP X pins σ Q (.str y tk) t := ⟨.str y, H', I', ⟨tk, rfl⟩, q'⟩
  first
    | exact wpAny_pure ⟨_, rfl, fin⟩
    | (rw [if_pos rfl]; exact wpAny_pure ⟨_, rfl, fin⟩)
    | (simp only [if_true]; exact wpAny_pure ⟨_, rfl, fin⟩)
    | (simp only [if_true]; exact wpAny_pure fin)
/-- str(x), x of a class with its own __str__ -/
theorem call_strO {fS : Addr} (m : Meth X.K C "__str__" fS) (F : FnOk X.prog X.w X.K X.mg X.base CX0 k fS fd ["self"] sp) (hb : Binds X.K fd ["self"] []) (hr : Room (k + 2) X.A) : CallR X (.type "str") (rRepO C sp) := by
  intro pins s σ H xs us Q I r h
  obtain ⟨a, dx, fs, rfl, ha, q⟩ := h
  obtain ⟨u, rfl, ru⟩ := vals1 r
  cases (show u = Value.ref a from ru)
  obtain ⟨ox, od, J⟩ := inst_at I ha
  have run := run_at (A' := X.A.in1.in1) (E' := X.xe) F hr.in1.in1 I.env0.in1.in1 hb I (.cons ru .nil) q
  have un := hr.units
  refine callType_codes (T := "str") (Bi := Builtin.«object.__init__») (Q₁ := fun r s₁ => ∃ y u, r = .str y u ∧ EP X pins σ Q r s₁) PySem.F.called_str (PySem.F.typeCall_str_1 _) PySem.F.entry_object_init ?_ ?_
  · refine codeAny_of_tree ?_
    show wpAny _ X.A.in1.in1 (do checkBuiltinCall "str.__new__" ⟨[.type "str", .ref a], []⟩; again (.builtin "str.__new__" ⟨[.type "str", .ref a], []⟩)) _ _ s
    refine wpAny_bind (wpAny_of_eq (PySem.F.newCall_str_1 _) (wpAny_pure ⟨plainId_quiet (by decide +kernel) _, codeAny_builtin PySem.F.entry_str_new ?_⟩))
    rw [Around.under_plainId (by decide +kernel) _]
    rw [str_new_tree]
    refine wpAny_bind (wpAny_pure ?_)
    refine wpAny_bind (wpAny_of_eq isSubtype_str_str ?_)
    have key : wpAny (model X.prog X.w) X.A.in1.in1 (PySem.Builtin.Str.strOf (.ref a)) (fun r s₁ => ∃ y u, r = .str y u ∧ EP X pins σ Q r s₁) X.xe s := by
      unfold PySem.Builtin.Str.strOf
      rw [show Builtin.Str.isExactStr (.ref a) = false from rfl]
      refine wpAny_bind (m := cRoomFor _ _) (wpAny_cRoomFor (by show X.A.units + 1 + 1 < cLine; omega) ?_)
      refine wpAny_bind (m := callSpecial? (.ref a) (Str.ofString "__str__")) (PySem.W.special_fn I.kIn J m.at_ (beq_iff_eq.mp m.fn) (wpAny_mono run (fun r t hq => ?_) fun _ _ z => z))
      obtain ⟨v', H', I', rv, y, rfl, q'⟩ := hq
      obtain ⟨tk, rfl⟩ := (show ∃ t, r = Value.str y t from rv)
      exact wpAny_pure ⟨_, _, rfl, .str y, H', I', ⟨tk, rfl⟩, q'⟩
    exact wpAny_bind (wpAny_mono key (fun r s₁ hr => wpAny_pure hr) fun _ _ y => y)
  · rintro obj s₁ ⟨y, u, rfl, hq⟩
    exact ⟨typeIs_str _ _ _, PySem.F.args_object_init_2 _ _, object_init_meets PySem.F.called_str.init.lookup PySem.F.called_str.made (by decide) X.prog X.w X.A.in1 _ s₁ ⟨typeIs_str _ _ _, rfl, hq⟩⟩
end
/-! own classes: &, |, -, in, bool by the class's own defs -/
section
variable {X : Cx} {C f : Addr} {k : Nat} {fd : FuncData} {ps : List Str} {sp : Sp} {nm : Str}
/-- x op y, both of the class -/
def rBinO (C : Addr) (sp : Sp) : R2 := fun x y H Q => ∃ a dx fs b dy gs, x = .ref a ∧ y = .ref b ∧ H a = some (.ins C dx fs) ∧ H b = some (.ins C dy gs) ∧ sp [x, y] H (fun v H' => (∃ c, v = .ref c) ∧ Q v H') E0
theorem op_binO {op : Operator} (hd : PySem.dunder op.info.2 = nm) (hc : PySem.W.selfFirst X.K C = true) (M : Meth X.K C nm f) (F : FnOk X.prog X.w X.K X.mg X.base CX0 k f fd ps sp) (hb : Binds X.K fd ps []) (hr : Room k X.A) : OpR X (binaryOp op) (rBinO C sp) := by
  intro pins s σ H x y v u Q I rx ry h
  obtain ⟨a, dx, fs, b, dy, gs, rfl, rfl, ha, hb2, q⟩ := h
  cases (show v = Value.ref a from rx)
  cases (show u = Value.ref b from ry)
  obtain ⟨ox, od, J⟩ := inst_at I ha
  obtain ⟨oy, oe, J2⟩ := inst_at I hb2
  obtain ⟨m, fr⟩ := I.fr
  refine PySem.W.binop_K fr I.ok.mod.kin J J2.type hc (by rw [hd]; exact M.at_) M.fn (wpAny_mono (run_at (E' := X.xe) F hr I.env0 hb I (.cons rx (.cons ry .nil)) q) (fun r t hq => ?_) fun _ _ z => z)
  obtain ⟨v', H', I', rv, ⟨c, rfl⟩, q'⟩ := hq
  cases (show r = Value.ref c from rv)
  exact ⟨.ref c, H', I', rfl, q'⟩
/-- x in y, y of the class -/
def rInO (C : Addr) (sp : Sp) : R2 := fun x y H Q => ∃ b dy gs, y = .ref b ∧ H b = some (.ins C dy gs) ∧ sp [y, x] H (fun v H' => ∃ c, v = .bl c ∧ Q (.bl c) H') E0
theorem op_inO (M : Meth X.K C "__contains__" f) (F : FnOk X.prog X.w X.K X.mg X.base CX0 k f fd ps sp) (hb : Binds X.K fd ps []) (hr : Room k X.A) : OpR X (compareOp .In) (rInO C sp) := by
  intro pins s σ H x y v u Q I rx ry h
  obtain ⟨b, dy, gs, rfl, hb2, q⟩ := h
  cases (show u = Value.ref b from ry)
  obtain ⟨oy, oe, J2⟩ := inst_at I hb2
  obtain ⟨m, fr⟩ := I.fr
  refine PySem.W.in_K fr I.ok.mod.kin J2 M.at_ M.fn (wpAny_mono (run_at (E' := X.xe) F hr I.env0 hb I (.cons ry (.cons rx .nil)) q) (fun r t hq => ?_) fun _ _ z => z)
  obtain ⟨v', H', I', rv, c, rfl, q'⟩ := hq
  cases (show r = Value.bool c from rv)
  exact wpAny_truthy_bool ⟨.bl c, H', I', rfl, q'⟩
theorem meets_boolT {prog : Program} {w : World} (x : Value) : MeetsIn prog w (Builtin.«bool.__new__» ⟨[.type "bool", x], []⟩)
    (fun A R s => wpAny (model prog w) A.in1 (truthy x) (fun b s' => ∀ tk, R (.ok (.ret (.bool b))) { s' with toks := tk }) (fun e s' => R (.error e) s') s) := fun A R s h => by
  have f1 := F.conv_sub_bool
  obtain ⟨hp, g, d, tk, os⟩ := s
  unfold Builtin.«bool.__new__»
  repeat (any_goals (first | assumption | wp_step))
  show wpAny _ _ (truthy x) _ _ _
  refine wpAny_mono h (fun b s' hq => ?_) fun _ _ z => z
  obtain ⟨hp', g', d', tk', os'⟩ := s'
  repeat (any_goals (first | assumption | wp_step))
  exact hq _
theorem call_boolT {x : Value} {prog : Program} {w : World} {A : Around} {E : Value → Shared → Prop} {s : Shared} {Q : Value → Shared → Prop} (h : wpAny (model prog w) A.in1.in1 (truthy x) (fun b s' => ∀ tk, Q (.bool b) { s' with toks := tk }) E s) : wpAny (model prog w) A (call (.type "bool") [x]) Q E s := by
  refine callType_newIn F.called_bool F.newNe_bool (F.typeCall_bool_1 x) (F.newCall_bool_1 x) (fun obj => F.args_object_init_2 obj x) F.entry_bool_new (meets_boolT x) ?_
  exact wpAny_mono h (fun b s' hq tk => ⟨rfl, hq tk⟩) fun _ _ z => z
/-- bool(x), x of the class -/
def rBoolO (C : Addr) (sp : Sp) : List V → Hp → VK → Prop := fun xs H Q => ∃ a dx fs, xs = [.ref a] ∧ H a = some (.ins C dx fs) ∧ sp [.ref a] H (fun v H' => ∃ c, v = .bl c ∧ Q (.bl c) H') E0
theorem call_boolO (M : Meth X.K C "__bool__" f) (F : FnOk X.prog X.w X.K X.mg X.base CX0 k f fd ps sp) (hb : Binds X.K fd ps []) (hr : Room (k + 2) X.A) : CallR X (.type "bool") (rBoolO C sp) := by
  intro pins s σ H xs us Q I r h
  obtain ⟨a, dx, fs, rfl, ha, q⟩ := h
  obtain rfl := Vals.ref1 r
  obtain ⟨ox, od, J⟩ := inst_at I ha
  obtain ⟨m, fr⟩ := I.fr
  refine call_boolT (PySem.W.truthy_K fr I.ok.mod.kin J M.at_ M.fn (wpAny_mono (run_at (E' := X.xe) F hr.in1.in1 I.env0.in1.in1 hb I r q) (fun r t hq => ?_) fun _ _ z => z))
  obtain ⟨v', H', I', rv, c, rfl, q'⟩ := hq
  cases (show r = Value.bool c from rv)
  exact fun tk => ⟨.bl c, H', I'.tok _, rfl, q'⟩
/-- bool(a tuple) -/
theorem call_boolTu : CallR X (.type "bool") (fun xs H Q => ∃ a zs, xs = [.ref a] ∧ SqT X.K H a zs ∧ Q (.bl (!zs.isEmpty)) H) := by
  intro pins s σ H xs us Q I r h
  obtain ⟨a, zs, rfl, hq, q⟩ := h
  obtain rfl := Vals.ref1 r
  obtain ⟨its, rv, pl, hz⟩ := I.tuple hq
  have hlen := rv.length
  have hl := line63
  exact call_boolT (truthy_tuple pl (by simp only [List.size_toArray]; omega) fun tk => ⟨.bl (!zs.isEmpty), H, I.tok _, by rw [isEmpty_of rv]; rfl, q⟩)
end
/-! a classmethod without arguments -/
section
variable {X : Cx} {CX : CXT} {k : Nat} {C p g : Addr} {mc : Value} {sp : Sp} {E : XK} {o : Expr} {m : Str} {pos apos : Pos} {ta : TE} {pl : Sem Bool}
theorem pe_cmeth0 (he : PE X o ta) (r : ClX.CRead X.K C mc) (c : ClX.CMet X.K C mc m p g) (F : FnR X.prog X.w X.K X.mg X.base CX k g sp) (hr : Room k X.A) (hx : Passes CX X E)
    (ht : eval (.Call (.Attribute o m apos) [] [] pos) X.env = (do
      let ov ← eval o X.env
      standAt apos.atName
      let (f, first) ← holding [ov] (getMethod ov m pl)
      callWith pos f first (backTo pos (starEach [] X.env)) (backToKw pos (keywordEach [] X.env))) := by rfl) : PE X (.Call (.Attribute o m apos) [] [] pos) (ClX.tCMeth C sp E ta tNil) := by
  refine ⟨fun pins s σ H Q I h => ?_⟩
  refine PySem.W.methodCall_KW (pl := pl) (thn (he.run pins s σ H _ I h) fun u s1 ⟨x, H1, I1, rx, ex, q⟩ => ?_) ht
  subst ex
  obtain rfl : u = Value.ref C := rx
  refine ClX.getmethcm_ok I1 r c fun s2 I2 => ?_
  refine PySem.W.callWith_M0 (K := X.K) ⟨ClX.pin_at I2, I2.kIn⟩ c.fi ?_
  exact ClX.run_cm F hr hx I2 .nil q
end
/-! set(list of ints), sorted(tuple of ints) -/
/-- the set that set() starts with -/
abbrev st0 (w : World) : Obj := { cls := .type "set", dict := none, data := .set #[] 0 (.fresh 0 0 (!w.params.followText "set-order")) }
section
variable {P : Program} {w : World} {A : Around} {E : Value → Shared → Prop} {s : Shared}
theorem set_ofL {l : Addr} {items : Array Value} (ns : List Int) {Q : Value → Shared → Prop} (hh : A.handled = none) (hl : s.heap.IsList l items) (hit : IntsAre items.toList ns) (hb : ns.length + 1 < scanBound)
    (h : ∀ (h' : Heap) (tk c : Nat), SetR w h' s.heap.objs.size (fun j => decide (j ∈ ns)) c → c ≤ ns.length → (∀ b o, s.heap.get? b = some o → h'.get? b = some o) → Q (.ref s.heap.objs.size) { s with heap := h', toks := tk }) :
    wpAny (model P w) A (call (.type "set") [.ref l]) Q E s := by
  have hisz : items.size = ns.length := Array.length_toList.symm.trans (IntsAre.length hit)
  have FS := F.called_set
  obtain ⟨c, tl, hmro⟩ := FS.mro
  have hmade := FS.made
  have hsub := FS.sub
  have h1 := FS.notType
  have h2 := FS.canCreate
  have hct := F.typeCall_set_1 (Value.ref l)
  refine wpAny_call (codeAny_of_tree ?_)
  show wpAny _ _ (callAny (Value.type "set") _) _ _ _
  refine wpAny_pure ⟨Code.quiet_builtin _ (by decide +kernel), (codeAny_builtin F.entry_type_call ?_)⟩
  rw [Around.under_plain (weight_type_call_type "set" [Value.ref l] []) rfl]
  repeat (any_goals (first | assumption | wp_step))
  refine codeAny_mono (code_set_led1 (.ref l) (E := E) (Q₁ := fun obj s₁ => obj = .ref s.heap.objs.size ∧ s₁ = { s with heap := s.heap.push (st0 w) }) ⟨rfl, rfl⟩) fun r s₁ hr => ?_
  cases r with
  | error e => exact hr
  | ok fl =>
    cases fl with
    | ret obj =>
      obtain ⟨rfl, rfl⟩ := hr
      have hS : (s.heap.push (st0 w)).get? s.heap.objs.size = some (st0 w) := Heap.get?_push_size _ rfl
      have hT : Shared.TypeIs { s with heap := s.heap.push (st0 w) } (.ref s.heap.objs.size) "set" := ⟨_, hS, rfl⟩
      have hli := FS.init.lookup
      have hbi := FS.init.bind (Value.ref s.heap.objs.size)
      repeat (any_goals (first | assumption | wp_step))
      refine codeAny_mono (codeAny_call_builtin (R := wants (fun r s₂ => r = .none ∧ ∃ h' tk c, s₂ = { s with heap := h', toks := tk } ∧ SetR w h' s.heap.objs.size (fun j => decide (j ∈ ns)) c ∧ c ≤ ns.length ∧ (∀ b o, s.heap.get? b = some o → h'.get? b = some o)) E) FS.init.plain F.entry_set_init (check_set_init_1 hT ?_)) fun r₂ s₂ hr₂ => ?_
      · obtain ⟨⟨ocls, odict, odata, oslots⟩, hol, hcl, nl, hdl⟩ := hl
        dsimp only at hcl hdl
        subst hcl hdl
        have hol' : (s.heap.push (st0 w)).get? l = some { cls := .type "list", dict := odict, data := .seq items nl, slots := oslots } := Heap.get?_push_of_some _ hol
        have hsls := F.sub_list_set
        have hslf := F.sub_list_frozenset
        have hne : (Value.type "list" == Value.type "dict") = false := by decide
        have hl1 : (s.heap.push (st0 w)).IsList l items := ⟨_, hol', rfl, nl, rfl⟩
        have hl0 : s.heap.IsList l items := ⟨_, hol, rfl, nl, rfl⟩
        unfold Builtin.«set.__init__» noKeywords Builtin.Frozenset.updateFrom
        generalize hPI : pyIter = PI
        wp_walk
        subst hPI
        refine wpAny_pyIter_list hl1 ?_
        refine wpAny_bind (wpAny_runValue ?_)
        have hlS : l < s.heap.objs.size := Heap.lt_size hol
        have hh3 : A.in1.in1.in1.handled = none := by simp [hh]
        have hz1 : (s.heap.push (st0 w)).objs.size = s.heap.objs.size + 1 := Heap.size_push ..
        have hneI : l ≠ (s.heap.push (st0 w)).objs.size := by (rw [hz1]; exact Nat.ne_of_lt (Nat.lt_succ_of_lt hlS))
        have hSf : s.heap.objs.size ∉ [(s.heap.push (st0 w)).objs.size, l] := by
          rw [hz1]
          simp only [List.mem_cons, List.not_mem_nil, or_false, not_or]
          exact ⟨Nat.ne_of_lt (Nat.lt_succ_self _), Nat.ne_of_gt hlS⟩
        have hval : ∀ (i : Nat) (v : Value), items[i]? = some v → ∃ k t, ns[i]? = some k ∧ v = .int k t := fun i v hv => by
          have hi : i < ns.length := by (rw [← hisz]; exact (Array.getElem?_eq_some_iff.mp hv).1)
          obtain ⟨t, e⟩ := IntsAre.int_at hit i v (by (rw [Array.getElem?_toList]; exact hv))
          refine ⟨ns[i], t, List.getElem?_eq_getElem hi, e.trans ?_⟩
          rw [List.getD_eq_getElem?_getD, List.getElem?_eq_getElem hi] <;> rfl
        refine set_update_ints ((Walks.list hh3 _ l hneI items).toS) s.heap.objs.size hSf ns hisz hb hval (items.size - 0) 0 _ (by omega) (Nat.zero_le _) ⟨⟨_, Heap.get?_push_size _ rfl, rfl, rfl⟩, (hl1.push _)⟩ ?hS0 ?hR
        case hS0 => exact ⟨0, Nat.le_refl 0, setR_new_at (Heap.get?_push_of_some _ hS)⟩
        case hR =>
          intro s' c' hm hc' hS'
          obtain ⟨h', g2, d', tk', os'⟩ := s'
          obtain rfl : g2 = s.gens := hm.gens
          obtain rfl : d' = s.drawn := hm.drawn
          obtain rfl : os' = s.os := hm.os
          show wpAny _ _ _ _ _ _
          refine wpAny_pure ?_
          show wpAny _ _ (ret Value.none) _ _ _
          refine wpAny_pure ⟨rfl, h', tk', c', rfl, hS', hisz ▸ hc', fun b o e => ?_⟩
          have hb0 : b < s.heap.objs.size := Heap.lt_size e
          refine hm.heap b o ?_ (Heap.get?_push_of_some _ (Heap.get?_push_of_some _ e))
          rw [hz1]
          simp only [List.mem_cons, List.not_mem_nil, or_false, not_or]
          exact ⟨Nat.ne_of_lt hb0, Nat.ne_of_lt (Nat.lt_succ_of_lt hb0)⟩
      · cases r₂ with
        | error e => exact hr₂
        | ok fl₂ =>
          cases fl₂ with
          | ret r =>
            obtain ⟨rfl, h', tk, c', rfl, hS', hc', hk'⟩ := hr₂
            repeat (any_goals (first | assumption | wp_step))
            exact h _ _ _ hS' hc' hk'
          | _ => exact hr₂.elim
    | _ => exact hr.elim
end
section
variable {X : Cx}
def rSetI (K : PySem.W.Frag) (w : World) : List V → Hp → VK → Prop := fun vs H Q => ∃ (a : Addr) (ns : List Int), vs = [.ref a] ∧ (SqL K H a (ns.map V.int) ∨ SqT K H a (ns.map V.int)) ∧ ns.length ≤ 1000 ∧
  ∀ p c, H p = none → c ≤ ns.length → Q (.ref p) (upd H p (SetO w p (fun j => decide (j ∈ ns)) c))
theorem cr_setI (hc : X.calm = true) : CallR X (.type "set") (rSetI X.K X.w) := by
  intro pins s σ H vs us Q I r h
  obtain ⟨a, ns, rfl, hs, hl, q⟩ := h
  obtain rfl := Vals.ref1 r
  have hd := I.ok.hd hc
  have fin : ∀ (h' : Heap) (tk c : Nat), SetR X.w h' s.heap.objs.size (fun j => decide (j ∈ ns)) c → c ≤ ns.length → (∀ b o, s.heap.get? b = some o → h'.get? b = some o) → EP X pins σ Q (.ref s.heap.objs.size) { s with heap := h', toks := tk } :=
    fun h' tk c R hcn k => ⟨.ref _, _, I.laid (t' := tk) k (Nat.le_refl _) (setO_new R), rfl, q _ c (I.hok.fresh (Nat.le_refl _)) hcn⟩
  rcases hs with hs | hs
  · obtain ⟨its, rv, pl, _⟩ := I.list hs
    exact set_ofL ns hd pl.isList (ints_of_vals rv) (by unfold scanBound; omega) fin
  · obtain ⟨its, rv, pt, _⟩ := I.tuple hs
    exact call_set_tupI ns hd pt (ints_of_vals rv) (by unfold scanBound; omega) fin
end
/-! sorted(tuple of ints) -/
section
variable {prog : Program} {w : World} {A : Around} {E : Value → Shared → Prop} {s : Shared}
theorem collect_tu {l : Addr} {vs : List Value} {Q : List Value → Shared → Prop} (hl : s.heap.IsTuple l vs.toArray) (hsz : vs.length ≤ sizeLine)
    (h : Q vs { s with heap := (s.heap.push (seqObj "list" #[] 0)).update s.heap.objs.size (Obj.mapSeq (· ++ vs.toArray)) }) : wpAny (model prog w) A (collect (.ref l)) Q E s := by
  obtain ⟨o, ho, hc, n, hd⟩ := id hl
  have h0 : (s.heap.push (seqObj "list" #[] 0)).get? s.heap.objs.size = some (seqObj "list" #[] 0) := Heap.get?_push_size _ rfl
  have ho' : (s.heap.push (seqObj "list" #[] 0)).get? l = some o := Heap.get?_push_of_some _ ho
  unfold collect
  refine wpAny_bind (wpAny_runValue (codeAny_builtin PyProof.Rows.entry_proto_collect' ?_))
  show wpAny _ _ (do again (Code.builtin "list.__iadd__" ⟨[← newList [], Value.ref l], []⟩)) _ _ s
  refine wpAny_bind (wpAny_newList (wpAny_pure ⟨Code.quiet_builtin _ (by decide +kernel), (codeAny_builtin PyProof.Rows.entry_list_iadd' ?_)⟩))
  show wpAny _ _ (Builtin.List.listExtendWith (Value.ref s.heap.objs.size) (Value.ref l) (Value.ref s.heap.objs.size)) _ _ { s with heap := s.heap.push (seqObj "list" #[] 0) }
  unfold Builtin.List.listExtendWith
  refine wpAny_bind (wpAny_typeOf (T := "tuple") ⟨o, ho', hc⟩ ?_)
  have ht : (Value.type "tuple" == Value.type "tuple") = true := rfl
  rw [if_pos (by (rw [ht]; simp))]
  refine wpAny_bind (PyProof.Rows.listItems_at ho' hd ?_)
  refine wpAny_bind (PyProof.Rows.listItems_at (xs := #[]) (n := 0) h0 rfl ?_)
  rw [if_neg (by simp)]
  refine wpAny_bind (PyProof.Rows.listUpdate_at (xs := #[]) (n := 0) h0 rfl ?_ (Nat.zero_le _) (by (simp only [Array.size_append, List.size_toArray, List.size_toArray]; show 0 + vs.length ≤ sizeLine + 1; omega)))
  refine wpAny_pure ?_
  show wpAny (model prog w) A (do
      let o ← load s.heap.objs.size
      match o.data with
      | .seq xs _ => pure xs.toList
      | _ => unsupported "internal:collect") Q E { s with heap := (s.heap.push (seqObj "list" #[] 0)).update s.heap.objs.size (Obj.mapSeq (· ++ vs.toArray)) }
  refine wpAny_bind (wpAny_load (PyProof.Rows.get?_update_seq h0 _) ?_)
  show wpAny _ _ (pure ((#[] : Array Value) ++ vs.toArray).toList) Q E _
  rw [show ((#[] : Array Value) ++ vs.toArray).toList = vs by simp]
  exact wpAny_pure h
theorem sorted_tu {l : Addr} {vs : List Value} {ns : List Int} {Q : Value → Shared → Prop} (hl : s.heap.IsTuple l vs.toArray) (hI : IntsAre vs ns) (h64 : vs.length < 64)
    (h : ∀ (out : Array Value) (ns' : List Int), IntsAre out.toList ns' → ns'.Perm ns → ns'.Pairwise (· ≤ ·) → Q (.ref (s.heap.objs.size + 1)) { s with heap := PyProof.Rows.sortedAll s.heap vs out }) : wpAny (model prog w) A (call (.builtin "sorted") [.ref l]) Q E s := by
  refine Calls.call_function_entry PyProof.Rows.kind_sorted PyProof.Rows.plain_sorted PyProof.Rows.entry_sorted (PyProof.Rows.args_sorted1 _) ?_
  unfold Builtin.«sorted»
  refine wpAny_bind (m := checkCount "sorted" 1 1 _) (wpAny_pure (wpAny_bind (collect_tu hl (by (rw [sizeLine_eq]; omega)) (wpAny_bind (wpAny_newList ?_)))))
  have hsz : ((s.heap.push (seqObj "list" #[] 0)).update s.heap.objs.size (Obj.mapSeq (· ++ vs.toArray))).objs.size = s.heap.objs.size + 1 := by rw [Heap.size_update, PyProof.Rows.size_push']
  have hoL : (((s.heap.push (seqObj "list" #[] 0)).update s.heap.objs.size (Obj.mapSeq (· ++ vs.toArray))).push (seqObj "list" vs.toArray 0)).get? (s.heap.objs.size + 1) = some (seqObj "list" vs.toArray 0) := by
    rw [← hsz]
    exact Heap.get?_push_size _ rfl
  show wpAny _ _ _ _ _ { s with heap := ((s.heap.push (seqObj "list" #[] 0)).update s.heap.objs.size (Obj.mapSeq (· ++ vs.toArray))).push (seqObj "list" vs.toArray 0) }
  rw [hsz]
  refine wpAny_bind (wpAny_holding (wpAny_call_entry PyProof.Rows.slot_list_sort ⟨_, hoL, rfl⟩ PyProof.Rows.entry_list_sort (PyProof.Rows.list_sort_tree hoL hI h64 fun out ns' a1 a2 a3 => ⟨_, rfl, wpAny_pure ⟨_, rfl, h out ns' a1 a2 a3⟩⟩) (PyProof.Rows.args_list_sort _)))
end
section
variable {X : Cx}
def rSortedTu (K : PySem.W.Frag) : List V → Hp → VK → Prop := fun vs H Q => ∃ (a : Addr) (ns : List Int), vs = [V.ref a] ∧ SqT K H a (ns.map V.int) ∧ ns.length < 64 ∧
  ∀ (ns' : List Int) (p : Addr), ns'.Perm ns → ns'.Pairwise (· ≤ ·) → H p = none → Q (.ref p) (upd H p (.lst (ns'.map V.int)))
theorem cr_sortedTu : CallR X (.builtin "sorted") (rSortedTu X.K) := by
  intro pins s σ H vs us Q I r h
  obtain ⟨a, ns, rfl, hs, h64, q⟩ := h
  obtain ⟨its, rv, hl, _⟩ := I.tuple hs
  obtain rfl := Vals.ref1 r
  have hi := rv.ints
  refine sorted_tu hl hi (by (rw [hi.length]; exact h64)) fun out ns' h1 h2 h3 => ?_
  obtain ⟨ep, he'⟩ := PyProof.Rows.sortedAll_at s.heap its out
  have hlen : (ns'.map V.int).length ≤ sizeLine := by (rw [List.length_map, h2.length_eq, sizeLine_eq]; omega)
  exact ⟨.ref _, upd H (s.heap.objs.size + 1) (.lst (ns'.map V.int)), I.laid (t' := s.toks) (fun _ _ => PyProof.Rows.sortedAll_old) (Nat.le_succ _) ⟨hlen, out.toList, ep, vals_of_ints h1, he'⟩, rfl, q ns' _ h2 h3 (I.hok.fresh (Nat.le_succ _))⟩
end
def topS (i : Nat) : Stmt := PySem.Challenge.pw_runlore_k16_kind_sets_told.main.body.getD i (.Pass ⟨0, 0, 0, 0⟩)
/-! kind sets as they are written -/
structure Ks where
  ws : List Str
  but : Bool
  sz : List Int
abbrev kW : List Str := ["integer", "atom", "fault"]
def Ks.hasS (m : Ks) (k : Int) : Bool := decide (k ∈ m.sz) != m.but
/-- m is the kind set that has the words f and the sizes g -/
structure Rep (m : Ks) (f : Str → Bool) (g : Int → Bool) : Prop where
  w : m.ws = kW.filter f
  srt : m.sz.Pairwise (· < ·)
  bd : ∀ k ∈ m.sz, 0 ≤ k ∧ k ≤ 20
  s : ∀ k, m.hasS k = g k
theorem srt_ext : ∀ {a b : List Int}, a.Pairwise (· < ·) → b.Pairwise (· < ·) → (∀ k, k ∈ a ↔ k ∈ b) → a = b
  | [], [], _, _, _ => rfl
  | [], y :: b, _, _, h => absurd ((h y).mpr List.mem_cons_self) (List.not_mem_nil)
  | x :: a, [], _, _, h => absurd ((h x).mp List.mem_cons_self) (List.not_mem_nil)
  | x :: a, y :: b, p, q, h => by
    have p1 := List.pairwise_cons.mp p
    have q1 := List.pairwise_cons.mp q
    have e : x = y := by
      rcases List.mem_cons.mp ((h x).mp List.mem_cons_self) with e | m
      · exact e
      · rcases List.mem_cons.mp ((h y).mpr List.mem_cons_self) with e | m'
        · exact e.symm
        · have := q1.1 x m
          have := p1.1 y m'
          omega
    subst e
    rw [srt_ext p1.2 q1.2 fun k => ⟨fun m => ?_, fun m => ?_⟩]
    · rcases List.mem_cons.mp ((h k).mp (List.mem_cons_of_mem _ m)) with e | z
      · have := p1.1 k m
        omega
      · exact z
    · rcases List.mem_cons.mp ((h k).mpr (List.mem_cons_of_mem _ m)) with e | z
      · have := q1.1 k m
        omega
      · exact z
theorem srt_len : ∀ {a : List Int} (lo hi : Int), a.Pairwise (· < ·) → (∀ k ∈ a, lo ≤ k ∧ k ≤ hi) → (a.length : Int) ≤ max 0 (hi - lo + 1)
  | [], lo, hi, _, _ => by simp only [List.length_nil]; omega
  | x :: a, lo, hi, p, h => by
    have p1 := List.pairwise_cons.mp p
    have hx := h x List.mem_cons_self
    have ih := srt_len (a := a) (x + 1) hi p1.2 fun k hk => ⟨by have := p1.1 k hk; omega, (h k (List.mem_cons_of_mem _ hk)).2⟩
    rw [List.length_cons]
    omega
theorem srt_of {a b : List Int} (p : b.Perm a) (q : b.Pairwise (· ≤ ·)) (n : a.Nodup) : b.Pairwise (· < ·) :=
  (List.Pairwise.and q (p.nodup_iff.mpr n)).imp fun {x y} z => by
    have h1 := z.1
    have h2 := z.2
    omega
theorem srt_nodup {a : List Int} (p : a.Pairwise (· < ·)) : a.Nodup := p.imp fun {x y} h => by omega
section
variable {m n : Ks} {f f' : Str → Bool} {g g' : Int → Bool}
theorem Rep.but (r : Rep m f g) : m.but = g 21 := by
  have h : decide ((21 : Int) ∈ m.sz) = false := decide_eq_false fun z => by
    have := r.bd _ z
    omega
  have q := r.s 21
  unfold Ks.hasS at q
  rw [h] at q
  rw [← q]
  cases m.but <;> rfl
theorem Rep.mem (r : Rep m f g) (k : Int) : decide (k ∈ m.sz) = (g k != g 21) := by
  rw [← r.but, ← r.s k]
  unfold Ks.hasS
  cases decide (k ∈ m.sz) <;> cases m.but <;> rfl
theorem Rep.len (r : Rep m f g) : m.sz.length ≤ 21 := by
  have h := srt_len 0 20 r.srt r.bd
  omega
theorem Rep.uniq (r : Rep m f g) (r' : Rep n f g) : m = n := by
  obtain ⟨ws, b, sz⟩ := m
  obtain ⟨ws', b', sz'⟩ := n
  have e1 : ws = ws' := r.w.trans r'.w.symm
  have e2 : b = b' := r.but.trans r'.but.symm
  have e3 : sz = sz' := srt_ext r.srt r'.srt fun k => by
    have h := (r.mem k).trans (r'.mem k).symm
    exact decide_eq_decide.mp h
  rw [e1, e2, e3]
theorem Rep.congr {f2 : Str → Bool} {g2 : Int → Bool} (r : Rep m f g) (hf : ∀ w, f w = f2 w) (hg : ∀ k, g k = g2 k) : Rep m f2 g2 := by
  rw [← funext hf, ← funext hg]
  exact r
theorem kW_mem {f : Str → Bool} {w : Str} (h : w ∈ kW) : decide (w ∈ kW.filter f) = f w := by
  cases e : f w with
  | true => exact decide_eq_true (List.mem_filter.mpr ⟨h, e⟩)
  | false => exact decide_eq_false fun z => absurd ((List.mem_filter.mp z).2) (by rw [e]; exact Bool.false_ne_true)
theorem ws_and : ((kW.filter f).filter fun w => decide (w ∈ kW.filter f')) = kW.filter fun w => f w && f' w := by
  rw [List.filter_filter]
  refine List.filter_congr fun w hw => ?_
  rw [kW_mem hw, Bool.and_comm]
theorem ws_not : (kW.filter fun w => !decide (w ∈ kW.filter f)) = kW.filter fun w => !f w := List.filter_congr fun w hw => by rw [kW_mem hw]
theorem srt_filter {a : List Int} (p : Int → Bool) (h : a.Pairwise (· < ·)) : (a.filter p).Pairwise (· < ·) := h.sublist List.filter_sublist
/-- all sizes but those of both -/
theorem rep_bb {s : List Int} {fw : Str → Bool} (r : Rep m f g) (r' : Rep n f' g') (hm : m.but = true) (hn : n.but = true) (hs : s.Pairwise (· < ·)) (hk : ∀ k, k ∈ s ↔ k ∈ m.sz ∨ k ∈ n.sz) : Rep ⟨kW.filter fw, true, s⟩ fw (fun k => g k && g' k) := by
  refine ⟨rfl, hs, fun k h => ((hk k).mp h).elim (r.bd k) (r'.bd k), fun k => ?_⟩
  rw [← r.s k, ← r'.s k]
  unfold Ks.hasS
  rw [hm, hn]
  have e : decide (k ∈ s) = (decide (k ∈ m.sz) || decide (k ∈ n.sz)) := by
    rw [← Bool.decide_or]
    exact decide_eq_decide.mpr (hk k)
  show (decide (k ∈ s) != true) = _
  rw [e]
  cases decide (k ∈ m.sz) <;> cases decide (k ∈ n.sz) <;> rfl
theorem rep_f {fw : Str → Bool} (r : Rep m f g) (p : Int → Bool) (hm : m.but = false) (h : ∀ k, p k = g' k) : Rep ⟨kW.filter fw, false, m.sz.filter p⟩ fw (fun k => g k && g' k) := by
  refine ⟨rfl, srt_filter _ r.srt, fun k h => r.bd k (List.mem_filter.mp h).1, fun k => ?_⟩
  rw [← r.s k, ← h k]
  unfold Ks.hasS
  rw [hm]
  show (decide (k ∈ m.sz.filter p) != false) = _
  have e : decide (k ∈ m.sz.filter p) = (decide (k ∈ m.sz) && p k) := by
    cases hp : p k with
    | true => rw [Bool.and_true]; exact decide_eq_decide.mpr (by rw [List.mem_filter]; exact ⟨fun z => z.1, fun z => ⟨z, hp⟩⟩)
    | false => rw [Bool.and_false]; exact decide_eq_false fun z => by rw [(List.mem_filter.mp z).2] at hp; cases hp
  rw [e]
  cases decide (k ∈ m.sz) <;> cases p k <;> rfl
theorem rep_not (r : Rep m f g) : Rep ⟨kW.filter fun w => !f w, !m.but, m.sz⟩ (fun w => !f w) (fun k => !g k) := by
  refine ⟨rfl, r.srt, r.bd, fun k => ?_⟩
  rw [← r.s k]
  unfold Ks.hasS
  show (decide (k ∈ m.sz) != !m.but) = _
  cases decide (k ∈ m.sz) <;> cases m.but <;> rfl
end
theorem inV_str (x : Str) : ∀ xs : List Str, inV (.str x) (xs.map V.str) = decide (x ∈ xs)
  | [] => rfl
  | y :: xs => by
    have ih := inV_str x xs
    have e : inV (.str x) ((y :: xs).map V.str) = (eqV (.str y) (.str x) || inV (.str x) (xs.map V.str)) := rfl
    have e2 : eqV (.str y) (.str x) = decide (x = y) := by
      show (y == x) = decide (x = y)
      by_cases h : x = y
      · rw [h, decide_eq_true rfl, beq_self_eq_true]
      · rw [decide_eq_false h]
        exact beq_eq_false_iff_ne.mpr fun z => h z.symm
    rw [e, ih, e2, ← Bool.decide_or]
    exact decide_eq_decide.mpr List.mem_cons.symm
theorem inV_int (x : Int) : ∀ xs : List Int, inV (.int x) (xs.map V.int) = decide (x ∈ xs)
  | [] => rfl
  | y :: xs => by
    have ih := inV_int x xs
    have e : inV (.int x) ((y :: xs).map V.int) = (eqV (.int y) (.int x) || inV (.int x) (xs.map V.int)) := rfl
    have e2 : eqV (.int y) (.int x) = decide (x = y) := by
      show (y == x) = decide (x = y)
      by_cases h : x = y
      · rw [h, decide_eq_true rfl, beq_self_eq_true]
      · rw [decide_eq_false h]
        exact beq_eq_false_iff_ne.mpr fun z => h z.symm
    rw [e, ih, e2, ← Bool.decide_or]
    exact decide_eq_decide.mpr List.mem_cons.symm
theorem flat_strs (xs : List Str) : (xs.map V.str).all flatV = true := by rw [List.all_map]; exact List.all_eq_true.mpr fun _ _ => rfl
theorem flat_ints (xs : List Int) : (xs.map V.int).all flatV = true := by rw [List.all_map]; exact List.all_eq_true.mpr fun _ _ => rfl
abbrev sBox : Stmt := topS 11
abbrev sTake : Stmt := topS 12
theorem c47 : (0 : Int) < 2147483647 := by decide
theorem c29 : (0 : Int) < 2147483629 := by decide
/-! _law_take: some number below many; the box stays a box -/
def spTake : Sp := fun vs H Q _ => ∃ (p g : Addr) (m : Int), vs = [.ref p, .int m] ∧ Box H p g ∧ 0 < m ∧ m.natAbs < 2 ^ 200 ∧
  ∀ (r : Int) (H' : Hp), 0 ≤ r → r < m → Box H' p g → Off [p, g] H H' → Q (.int r) H'
def spBox (K : PySem.W.Frag) : Sp := fun vs H Q _ => ∃ (a : Addr) (ns : List Int) (c : Int), vs = [.ref a, .int c] ∧ SqL K H a (ns.map V.int) ∧ ns.length ≤ 63 ∧ 0 ≤ c ∧ c < 1000 ∧
  ∀ (p g : Addr) (H' : Hp), Box H' p g → Same H H' → H p = none → H g = none → Q (.ref p) H'
theorem scTake : FnScope ["_law_box_here", "_law_many", "_law_digit", "_law_one"] ["_law_box_here", "_law_many"] (defScope sTake) :=
  ⟨rfl, rfl, rfl, by decide +kernel, rfl, by decide +kernel, by decide +kernel⟩
section
variable {P : Program} {w : World} {K : PySem.W.Frag} {mg : Str → Option Value} {base : Heap} {f : Addr} {fd : FuncData}
theorem get_now {H : Hp} {p g : Addr} {n s t : Int} (h : H p = some (.dK (bx g n s t))) : DGet H p (.str "now") (some (.int n)) := by
  have q := DGet.k (k := (Sum.inr "now" : Key)) h
  rw [bx_now] at q
  exact q
theorem get_great {H : Hp} {p g : Addr} {n s t : Int} (h : H p = some (.dK (bx g n s t))) : DGet H p (.str "great") (some (.ref g)) := by
  have q := DGet.k (k := (Sum.inr "great" : Key)) h
  rw [bx_great] at q
  exact q
theorem get_seed {H : Hp} {p g : Addr} {n s t : Int} (h : H p = some (.dK (bx g n s t))) : DGet H p (.str "seed") (some (.int s)) := by
  have q := DGet.k (k := (Sum.inr "seed" : Key)) h
  rw [bx_seed] at q
  exact q
theorem get_turn {H : Hp} {p g : Addr} {n s t : Int} (h : H p = some (.dK (bx g n s t))) : DGet H p (.str "turn") (some (.int t)) := by
  have q := DGet.k (k := (Sum.inr "turn" : Key)) h
  rw [bx_turn] at q
  exact q
theorem set_now {H : Hp} {p g : Addr} {n s t : Int} (y : Int) (h : H p = some (.dK (bx g n s t))) : DPut H p (.str "now") (.int y) (upd H p (.dK (bx g y s t))) := by
  have q := DPut.k (k := (Sum.inr "now" : Key)) (v := .int y) h (by show 4 < sizeLine; decide)
  rw [put_now] at q
  exact q
theorem set_seed {H : Hp} {p g : Addr} {n s t : Int} (y : Int) (h : H p = some (.dK (bx g n s t))) : DPut H p (.str "seed") (.int y) (upd H p (.dK (bx g n y t))) := by
  have q := DPut.k (k := (Sum.inr "seed" : Key)) (v := .int y) h (by show 4 < sizeLine; decide)
  rw [put_seed] at q
  exact q
theorem set_turn {H : Hp} {p g : Addr} {n s t : Int} (y : Int) (h : H p = some (.dK (bx g n s t))) : DPut H p (.str "turn") (.int y) (upd H p (.dK (bx g n s y))) := by
  have q := DPut.k (k := (Sum.inr "turn" : Key)) (v := .int y) h (by show 4 < sizeLine; decide)
  rw [put_turn] at q
  exact q
theorem ok_take {k : Nat} (F : Fun K "_law_take" "_law_take" sTake f fd) (ml : mg "len" = none) : FnOk P w K mg base CX0 (k + 1) f fd ["_law_box_here", "_law_many"] spTake := by
  refine F.ok scTake (fun vs H Q E h => ?_) (fun cdv A outer s H vs Q E hr h => ?_)
  · obtain ⟨p, g, m, rfl, _⟩ := h
    rfl
  obtain ⟨p, g, m, rfl, ⟨n, sd, t, gs, hp, hg, hl⟩, m0, m9, q⟩ := h
  have hu := hu_of hr
  have npg : p ≠ g := ne_of hp hg (by intro z; cases z)
  refine ⟨_, C8.pss_cut (ps_if (PW.pt (pw_and (pt_cmpR op_eq (pe_dget hu (pv 0) pe_str (fun _ _ => rfl)) pe_int (nomark _))
        (pw_and1 (pt_cmpR op_gt (pe_callB call_len_seq (by rfl) ml PySem.boot_len (pa_cons (pe_dget hu (pv 0) pe_str (fun _ _ => rfl)) pa_nil)) pe_int (nomark _)))))
        (pss_one (ps_dput hu (pv 0) pe_str (pe_bm0 PySem.F.plainAttrs_list PySem.F.slot_list_pop PySem.F.type_list_pop mt_pop (pe_dget hu (pv 0) pe_str (fun _ _ => rfl))) rfl)) pss_nil)
    (pss_cons (ps_if (pt_cmpR op_gt (pe_dget hu (pv 0) pe_str (fun _ _ => rfl)) pe_int (nomark _))
        (pss_cons (ps_set (i := 2) scTake.nd rfl (.inl rfl) (pe_op op_mod (pe_dget hu (pv 0) pe_str (fun _ _ => rfl)) (pv 1)))
        (pss_cons (ps_dput hu (pv 0) pe_str (pe_op op_fdivW (pe_dget hu (pv 0) pe_str (fun _ _ => rfl)) (pv 1)) rfl)
        (pss_one (ps_ret (pv 2))))) pss_nil)
    (pss_cons (ps_dput hu (pv 0) pe_str (pe_op op_add (pe_dget hu (pv 0) pe_str (fun _ _ => rfl)) pe_int) rfl)
    (pss_cons (ps_set (i := 3) scTake.nd rfl (.inl rfl) (pe_op op_mod (pe_op op_mul (pe_op op_mod (pe_op op_add (pe_dget hu (pv 0) pe_str (fun _ _ => rfl))
        (pe_op op_mul pe_int (pe_dget hu (pv 0) pe_str (fun _ _ => rfl)))) pe_int) pe_int) pe_int))
    (pss_cons (ps_dput hu (pv 0) pe_str (pe_op op_add (pe_op op_mod (pe_op op_add (pv 3) (pe_op op_mul pe_int (pe_dget hu (pv 0) pe_str (fun _ _ => rfl)))) pe_int) pe_int) rfl)
    (pss_one (ps_ret (pe_op op_mod (pe_op op_fdiv (pe_op op_add (pe_op op_mul (pv 3) pe_int) (pe_dget hu (pv 0) pe_str (fun _ _ => rfl))) pe_int) (pv 1)))))))), ?_⟩
  refine ⟨fun σ H1 => ∃ n1 gs1, σ = [some (.ref p), some (.int m), none, none] ∧ H1 p = some (.dK (bx g n1 sd t)) ∧ H1 g = some (.lst (List.map V.int gs1)) ∧ gs1.length ≤ 1000 ∧ Off [p, g] H H1, ?_, ?_⟩
  · refine ⟨_, rfl, p, _, rfl, get_now hp, rfl, _, rfl, ite2 (fun c => ?_) (fun c => iteF ⟨n, gs, rfl, hp, hg, hl, Off.refl _ _⟩)⟩
    refine ⟨_, rfl, p, _, rfl, get_great hp, g, _, rfl, .inl (SqL.of hg), _, _, rfl, rfl, _, rfl, ite2 (fun c2 => ?_) (fun c2 => ⟨n, gs, rfl, hp, hg, hl, Off.refl _ _⟩)⟩
    have c3 : (0 : Int) < (((List.map V.int gs).length : Nat) : Int) := of_decide_eq_true c2
    rw [List.length_map] at c3
    have hlast : (List.map V.int gs)[(List.map V.int gs).length - 1]? = some (V.int (gs[gs.length - 1]'(by omega))) := by
      rw [List.length_map, List.getElem?_map, List.getElem?_eq_getElem (by omega)]
      rfl
    have hp1 : (upd H g (.lst (List.map V.int gs).dropLast)) p = some (.dK (bx g n sd t)) := by rw [upd_ne npg]; exact hp
    refine ⟨_, rfl, p, _, rfl, get_great hp, .inl ⟨rfl, _, .inl (.inl hg)⟩, g, _, _, rfl, rfl, hg, hlast, _, rfl, p, _, rfl, set_now _ hp1, ?_⟩
    refine ⟨_, gs.dropLast, rfl, upd_same, ?_, ?_, ?_⟩
    · rw [upd_ne npg.symm, upd_same, List.map_dropLast]
    · rw [List.length_dropLast]
      omega
    · exact (Off.put (by simp)).trans (Off.put (by simp))
  · rintro σ H1 ⟨n1, gs1, rfl, hp1, hg1, hl1, of1⟩
    refine ⟨_, rfl, p, _, rfl, get_now hp1, _, _, rfl, rfl, _, rfl, ite2 (fun c => ?_) (fun c => ?_)⟩
    · refine ⟨_, rfl, p, _, rfl, get_now hp1, _, rfl, _, _, rfl, rfl, m0, ?_⟩
      refine ⟨_, rfl, p, _, rfl, get_now hp1, _, rfl, _, _, rfl, rfl, wide_div m0 m9 (by decide) (by decide), _, rfl, p, _, rfl, set_now _ hp1, ?_⟩
      refine ⟨_, rfl, q _ _ (Int.emod_nonneg _ (by omega)) (Int.emod_lt_of_pos _ m0) ⟨_, sd, t, gs1, upd_same, by rw [upd_ne npg.symm]; exact hg1, hl1⟩ (of1.trans (Off.put (by simp)))⟩
    · refine ⟨_, rfl, p, _, rfl, get_turn hp1, _, _, rfl, rfl, _, rfl, p, _, rfl, set_turn _ hp1, ?_⟩
      refine ⟨_, rfl, p, _, rfl, get_seed upd_same, _, rfl, p, _, rfl, get_turn upd_same, _, _, rfl, rfl, .inl ⟨by decide, by decide⟩, _, _, rfl, rfl, _, _, rfl, rfl, c47, _, _, rfl, rfl, .inr ⟨by decide, by decide⟩, _, _, rfl, rfl, c47, ?_⟩
      refine ⟨_, rfl, _, rfl, p, _, rfl, get_seed upd_same, _, _, rfl, rfl, .inl ⟨by decide, by decide⟩, _, _, rfl, rfl, _, _, rfl, rfl, c29, _, _, rfl, rfl, _, rfl, p, _, rfl, set_seed _ upd_same, ?_⟩
      refine ⟨_, rfl, _, _, rfl, rfl, .inr ⟨by decide, by decide⟩, _, rfl, p, _, rfl, get_seed upd_same, _, _, rfl, rfl, _, _, rfl, rfl, ⟨by decide, by decide⟩, _, rfl, _, _, rfl, rfl, m0, ?_⟩
      refine q _ _ (Int.emod_nonneg _ (by omega)) (Int.emod_lt_of_pos _ m0) ⟨n1, _, _, gs1, upd_same, ?_, hl1⟩ (of1.trans ((Off.put (by simp)).trans (Off.put (by simp))))
      rw [upd_ne npg.symm, upd_ne npg.symm]
      exact hg1
end
theorem cutV_ints (ns : List Int) (lo hi : Option Int) : ∃ ms : List Int, cutV (ns.map V.int) lo hi = ms.map V.int ∧ ms.length ≤ ns.length := by
  refine ⟨(ns.drop (HT.sIx ns.length 0 lo)).take (HT.sIx ns.length ns.length hi - HT.sIx ns.length 0 lo), ?_, ?_⟩
  · unfold cutV
    rw [List.length_map, List.map_take, List.map_drop]
  · rw [List.length_take, List.length_drop]
    omega
theorem int_at {ms : List Int} {i : Nat} {y : V} (h : (ms.map V.int)[i]? = some y) : ∃ z, y = V.int z := by
  rw [List.getElem?_map] at h
  cases e : ms[i]? with
  | none =>
    rw [e] at h
    cases h
  | some z =>
    rw [e] at h
    exact ⟨z, (Option.some.inj h).symm⟩
theorem scBox : FnScope ["_law_script", "_law_base", "_law_seed", "_law_cell", "_law_great"] ["_law_script", "_law_base"] (defScope sBox) :=
  ⟨rfl, rfl, rfl, by decide +kernel, rfl, by decide +kernel, by decide +kernel⟩
section
variable {P : Program} {w : World} {K : PySem.W.Frag} {mg : Str → Option Value} {base : Heap} {f : Addr} {fd : FuncData}
theorem ok_box {k : Nat} (F : Fun K "_law_box" "_law_box" sBox f fd) (mab : mg "abs" = none) : FnOk P w K mg base CX0 (k + 1) f fd ["_law_script", "_law_base"] (spBox K) := by
  refine F.ok scBox (fun vs H Q E h => ?_) (fun cdv A outer s H vs Q E hr h => ?_)
  · obtain ⟨a, ns, c, rfl, _⟩ := h
    rfl
  obtain ⟨a, ns, c, rfl, hS, hlen, c0, c9, q⟩ := h
  have hu := hu_of hr
  refine ⟨_, pss_cons (ps_set (i := 2) scBox.nd rfl (.inl rfl) (pe_op op_add pe_int (pe_op op_mul pe_int (pv 1))))
    (pss_cons (ps_for PassesOwn.never rfl (pi_list (pe_slice sl_list (pv 0) po_none (po_some pe_int))) (pg_name (i := 3) scBox.nd rfl (.inl rfl))
      (pss_one (ps_set (i := 2) scBox.nd rfl (.inl rfl) (pe_op op_mod (pe_op op_add (pe_op op_add (pe_op op_mul (pv 2) pe_int)
        (pe_op op_mod (pe_callB call_abs (by rfl) mab (by decide +kernel) (pa_cons (pv 3) pa_nil)) pe_int)) pe_int) pe_int))))
    (pss_cons (ps_setLc (i := 4) (own := [("_law_cell", 3)]) (g := gName 3) (by rfl) scBox.nd rfl rfl (sw_true rfl rfl rfl (by decide +kernel))
      (pi_list (pe_slice sl_list (pv 0) (po_some (pv 1)) (po_some pe_int)))
      (blkOk_by (own := [("_law_cell", 3)]) (N := ["_law_script", "_law_base", "_law_seed", "_law_cell", "_law_great"]) (sc := defScope sBox) (by decide +kernel))
      (fun _ _ _ _ _ => pg_name (i := 3) scBox.nd rfl (Or.inl rfl))
      (fun _ _ _ _ _ => pts_one (pt_cmpR op_ge (pe_callB call_abs (by rfl) mab (by decide +kernel) (pa_cons (pv 3) pa_nil)) (pe_op op_pow pe_int pe_int) (nomark _)))
      (fun _ _ _ _ _ => pe_callB call_abs (by rfl) mab (by decide +kernel) (pa_cons (pv 3) pa_nil)))
    (pss_one (ps_ret (pe_disp (pps_cons pe_str (pe_revL (pv 4)) (pps_cons pe_str pe_int (pps_cons pe_str (pe_op op_add (pv 2) pe_int) (pps_cons pe_str pe_int pps_nil))))
      (by rfl) (by rfl) (fun z => by cases z) (by decide)))))), ?_⟩
  refine ⟨_, rfl, _, _, rfl, rfl, .inl ⟨by decide, by decide⟩, _, _, rfl, rfl, ?_⟩
  refine ⟨_, rfl, 50, rfl, a, _, rfl, hS, fun q0 hq0 => ?_⟩
  obtain ⟨ms, em, lm⟩ := cutV_ints ns none (some 50)
  rw [em]
  have s1 : Same H (upd H q0 (.lst (ms.map V.int))) := same_new hq0 _
  refine ⟨q0, rfl, ⟨_, SqL.of upd_same⟩, for_list (K := K) (a := q0) (xs := ms.map V.int) (fun i σ H2 => ∃ (z : Int) (v : Option V), σ = [some (.ref a), some (.int c), some (.int z), v, none] ∧ -(2 ^ 40) < z ∧ z < 2 ^ 40 ∧ H2 = upd H q0 (.lst (ms.map V.int)))
    ⟨7001 + 211 * c, none, rfl, by omega, by omega, rfl⟩ (fun i σ H2 _ ⟨_, _, _, _, _, e⟩ => by rw [e]; exact SqL.of upd_same) ?_ ?_⟩
  · rintro i y σ H2 hi ⟨z, v, rfl, z0, z1, rfl⟩
    obtain ⟨x, rfl⟩ := int_at hi
    refine ⟨_, rfl, _, _, rfl, rfl, .inr ⟨by decide, by decide⟩, _, rfl, _, rfl, _, _, rfl, rfl, c29, _, _, rfl, rfl, _, _, rfl, rfl, _, _, rfl, rfl, c47, ?_⟩
    exact ⟨_, _, rfl, Int.lt_of_lt_of_le (by decide) (Int.emod_nonneg _ (by decide)), Int.lt_trans (Int.emod_lt_of_pos _ c47) (by decide), rfl⟩
  · rintro σ H2 ⟨z, v, rfl, z0, z1, rfl⟩
    refine ⟨_, rfl, _, rfl, c, rfl, 50, rfl, a, _, rfl, s1.seq hS, fun q1 hq1 => ?_⟩
    obtain ⟨ks, ek, lk⟩ := cutV_ints ns (some c) (some 50)
    rw [ek]
    have s2 := s1.trans (same_new hq1 (.lst (ks.map V.int)))
    refine ⟨q1, rfl, ⟨_, SqL.of upd_same⟩, fun D hD => lc_list (K := K) (a := q1) (xs := ks.map V.int) (fun i H3 => ∃ gs : List Int, gs.length ≤ i ∧ H3 D = some (.lst (gs.map V.int)) ∧ H3 q1 = some (.lst (ks.map V.int)) ∧ Same H H3)
      ⟨[], Nat.le_refl _, upd_same, by rw [upd_ne (ne_of_none upd_same hD), upd_same], s2.trans (same_new hD _)⟩ (fun i H3 _ ⟨_, _, _, h, _⟩ => SqL.of h) ?_ ?_⟩
    · rintro i y H3 hi ⟨gs, lg, h1, h2, h3⟩
      have hik := (List.getElem?_eq_some_iff.mp hi).1
      rw [List.length_map] at hik
      obtain ⟨x, rfl⟩ := int_at hi
      refine ⟨rfl, _, rfl, _, rfl, _, _, rfl, rfl, ⟨by decide, by decide, by decide⟩, _, _, rfl, rfl, _, rfl, ite2 (fun _ => ?_) (fun _ => ?_)⟩
      · refine ⟨_, rfl, _, rfl, _, h1, ?_, gs ++ [if x < 0 then -x else x], ?_, ?_, ?_, ?_⟩
        · rw [List.length_map]
          exact small1000 (by omega)
        · rw [List.length_append, List.length_singleton]
          omega
        · rw [upd_same, List.map_append]
          rfl
        · rw [upd_ne (ne_of_none upd_same hD)]
          exact h2
        · intro b o e
          rw [upd_ne (ne_of_none e (s2.free hD))]
          exact h3 b o e
      · exact ⟨gs, by omega, h1, h2, h3⟩
    · rintro H3 ⟨gs, lg, h1, h2, h3⟩
      rw [List.length_map] at lg
      refine fun p hp => ⟨_, rfl, D, _, rfl, SqL.of (by rw [upd_ne (ne_of_none h1 hp)]; exact h1), fun g hg => ?_⟩
      have ngp : g ≠ p := fun e => by
        rw [e, upd_same] at hg
        cases hg
      have hp2 : (upd (upd H3 p (.dK [])) g (.lst (gs.map V.int).reverse)) p = some (.dK []) := by rw [upd_ne ngp.symm, upd_same]
      refine ⟨_, rfl, _, _, rfl, rfl, hp2, bx g 0 (z + 1) 0, rfl, by show 4 ≤ 15; decide, ?_⟩
      rw [mer_box]
      have hg3 : H3 g = none := by
        rw [upd_ne ngp] at hg
        exact hg
      refine q p g _ ⟨0, z + 1, 0, gs.reverse, upd_same, ?_, ?_⟩ ?_ (h3.free hp) (h3.free hg3)
      · rw [upd_ne ngp, upd_same, List.map_reverse]
      · rw [List.length_reverse]
        omega
      · intro b o e
        have e3 := h3 b o e
        rw [upd_ne (ne_of_none e3 hp), upd_ne (ne_of_none e3 hg3), upd_ne (ne_of_none e3 hp)]
        exact e3
end
structure Tk (P : Program) (w : World) (K : PySem.W.Frag) (mg : Str → Option Value) (base : Heap) (f : Addr) (fd : FuncData) : Prop where
  ok : FnOk P w K mg base CX0 1 f fd ["_law_box_here", "_law_many"] spTake
  kp : PySem.W.keepIn K (.ref f) = true
  bd : Binds K fd ["_law_box_here", "_law_many"] []
  mg : mg "_law_take" = some (.ref f)
theorem atI_ok {α : Type} {xs : List α} {r : Int} (h0 : 0 ≤ r) (h : r < (xs.length : Int)) : ∃ x, atI xs r = some x ∧ x ∈ xs ∧ xs[r.toNat]? = some x := by
  have hr : r.toNat < xs.length := by omega
  have e : r = (r.toNat : Int) := by omega
  have q : atI xs ((r.toNat : Nat) : Int) = some xs[r.toNat] := atI_nat (List.getElem?_eq_getElem hr)
  rw [← e] at q
  exact ⟨xs[r.toNat], q, List.getElem_mem hr, List.getElem?_eq_getElem hr⟩
theorem okG {P : Program} {w : World} {K : PySem.W.Frag} {mg : Str → Option Value} {base : Heap} {x qual : Str} {st : Stmt} {f : Addr} {fd : FuncData} {N ps : List Str} {k : Nat} {sp : Sp} (F : Fun K x qual st f fd) (S : FnScope N ps (defScope st))
    (len : ∀ ws H Q E, sp ws H Q E → ws.length = ps.length)
    (hb : ∀ (cdv : Value) (A : Around) (outer : List Env) (s : Shared) (H : Hp) (vs : List V) (Q : VK) (E : XK), A.guards = some [] → Room k (A.deeper (envOfC qual (defScope st) s.heap.objs.size f cdv)) → sp vs H Q E →
      ∃ t, PSs (cxOf CX0 P w K mg base N qual (defScope st) f cdv A outer s H E).nox (defBody st) t ∧ t { nx := fun _ H' => Q .non H', rt := Q } (start N vs) H) : FnG P w K mg base CX0 (k + 1) f fd ps sp := by
  obtain ⟨oc, od, kV, doc, pm, an, cdv, ct, osl, rfl, lk, hcd⟩ := F.ex
  refine fnG_of lk hcd S len ?_
  intro A outer s H vs Q E hg hr hsp
  obtain ⟨t, h, q⟩ := hb cdv A outer s H vs Q E hg hr hsp
  exact ⟨t, h.nox, q⟩
theorem bool_prn (b : Bool) : Prn (.bool b) := prn_of (by simp only [gd]) (by simp only [nod]; omega) (by simp only [PyData.depth]; omega)
/-- a def of the top that keeps a promise -/
structure Dn (P : Program) (w : World) (K : PySem.W.Frag) (mg : Str → Option Value) (base : Heap) (lvl : Nat) (nm : Str) (ps : List Str) (sp : Sp) (f : Addr) (fd : FuncData) : Prop where
  ok : FnOk P w K mg base CX0 lvl f fd ps sp
  kp : PySem.W.keepIn K (.ref f) = true
  bd : Binds K fd ps []
  mg : mg nm = some (.ref f)
theorem cut_less {l m : List Addr} {H : Hp} (h : ∀ b ∈ m, b ∈ l) : Same (cut l H) (cut m H) := fun b o e => by
  obtain ⟨n, e⟩ := cut_some e
  rw [cut_out (fun z => n (h b z))]
  exact e
theorem cut_more {l : List Addr} {H : Hp} {a : Addr} {o : HO} (h : H a = none) : Same (cut l H) (cut (a :: l) (upd H a o)) := fun b u e => by
  obtain ⟨n, e⟩ := cut_some e
  have nb := ne_of_none e h
  rw [cut_out (fun z => (List.mem_cons.mp z).elim nb n), upd_ne nb]
  exact e
theorem dp_true {K : PySem.W.Frag} {H : Hp} {b : Bool} (h : b = true) : Dp K H (.bl b) (.bool true) := by
  rw [h]
  exact .bl true
theorem DpAll.parts {K : PySem.W.Frag} {H : Hp} {xs : List V} {ds : List PyData} (h : DpAll K H xs ds) (i : Nat) : DpAll K H (xs.take i) (ds.take i) ∧ DpAll K H (xs.drop i) (ds.drop i) := by
  have lx := DpAll.len h
  obtain ⟨d1, d2, e, a, b⟩ := DpAll.unapp (xs := xs.take i) (ys := xs.drop i) (by rw [List.take_append_drop]; exact h)
  have la := DpAll.len a
  have lb := DpAll.len b
  rw [List.length_take] at la
  rw [List.length_drop] at lb
  subst e
  by_cases hi : i ≤ xs.length
  · have l1 : d1.length = i := by omega
    have e1 : (d1 ++ d2).take i = d1 := by rw [← l1]; exact List.take_left
    have e2 : (d1 ++ d2).drop i = d2 := by rw [← l1]; exact List.drop_left
    rw [e1, e2]
    exact ⟨a, b⟩
  · have l2 : d2 = [] := List.length_eq_zero_iff.mp (by omega)
    subst l2
    rw [List.append_nil, List.take_of_length_le (l := d1) (by omega), List.drop_of_length_le (l := d1) (by omega)]
    exact ⟨a, b⟩
theorem cutV_dp {K : PySem.W.Frag} {H : Hp} {xs : List V} {ds : List PyData} (h : DpAll K H xs ds) (lo hi : Option Int) : ∃ es, DpAll K H (cutV xs lo hi) es ∧ ∀ e ∈ es, e ∈ ds := by
  unfold cutV
  exact ⟨_, (DpAll.parts (DpAll.parts h _).2 _).1, fun e he => List.mem_of_mem_drop (List.mem_of_mem_take he)⟩
theorem gd_int {i : Int} (h : i.natAbs < 2 ^ 1000) : gd (.int i) = true := by
  simp only [gd]
  exact decide_eq_true (Nat.lt_trans (PySem.Flt.log2_lt_of (by decide) h) (by decide))
theorem made_same {H6 H7 : Hp} {a dx : Addr} {o1 o2 : HO} (ha : H6 a = none) (hdx : H6 dx = none) (e : ∀ b, b ≠ a → H7 b = upd (upd H6 dx o1) a o2 b) : Same H6 H7 := fun b o z => by
  rw [e b (ne_of_none z ha), upd_ne (ne_of_none z ha), upd_ne (ne_of_none z hdx)]
  exact z
abbrev kcl (i : Nat) : Stmt := inClass (topS 5) i
abbrev sInt : Stmt := topS 2
abbrev sIni : Stmt := kcl 0
abbrev sEvr : Stmt := kcl 1
abbrev sOf : Stmt := kcl 3
abbrev sSzd : Stmt := kcl 4
abbrev sAnd : Stmt := kcl 5
abbrev sOr : Stmt := kcl 6
abbrev sSub : Stmt := kcl 7
abbrev sHas : Stmt := kcl 8
abbrev sEqK : Stmt := kcl 9
abbrev sBol : Stmt := kcl 10
abbrev sStrK : Stmt := kcl 11
abbrev sWth : Stmt := kcl 16
abbrev sPts : Stmt := topS 6
abbrev sBut : Stmt := topS 7
abbrev sLft : Stmt := topS 8
abbrev sTxt : Stmt := topS 9
theorem scInt : FnScope ["thing"] ["thing"] (defScope sInt) := ⟨rfl, rfl, rfl, by decide +kernel, rfl, by decide +kernel, by decide +kernel⟩
theorem scIni : FnScope ["self", "words", "but", "sizes"] ["self", "words", "but", "sizes"] (defScope sIni) := ⟨rfl, rfl, rfl, by decide +kernel, rfl, by decide +kernel, by decide +kernel⟩
theorem scEvr : FnScope ["cls"] ["cls"] (defScope sEvr) := ⟨rfl, rfl, rfl, by decide +kernel, rfl, by decide +kernel, by decide +kernel⟩
theorem scOf : FnScope ["cls", "word"] ["cls", "word"] (defScope sOf) := ⟨rfl, rfl, rfl, by decide +kernel, rfl, by decide +kernel, by decide +kernel⟩
theorem scSzd : FnScope ["cls", "k"] ["cls", "k"] (defScope sSzd) := ⟨rfl, rfl, rfl, by decide +kernel, rfl, by decide +kernel, by decide +kernel⟩
theorem scAnd : FnScope ["self", "other", "words", "word", "k"] ["self", "other"] (defScope sAnd) := ⟨rfl, rfl, rfl, by decide +kernel, rfl, by decide +kernel, by decide +kernel⟩
theorem scOr : FnScope ["self", "other"] ["self", "other"] (defScope sOr) := ⟨rfl, rfl, rfl, by decide +kernel, rfl, by decide +kernel, by decide +kernel⟩
theorem scSub : FnScope ["self", "other"] ["self", "other"] (defScope sSub) := ⟨rfl, rfl, rfl, by decide +kernel, rfl, by decide +kernel, by decide +kernel⟩
theorem scHas : FnScope ["self", "kind"] ["self", "kind"] (defScope sHas) := ⟨rfl, rfl, rfl, by decide +kernel, rfl, by decide +kernel, by decide +kernel⟩
theorem scEqK : FnScope ["self", "other"] ["self", "other"] (defScope sEqK) := ⟨rfl, rfl, rfl, by decide +kernel, rfl, by decide +kernel, by decide +kernel⟩
theorem scBol : FnScope ["self"] ["self"] (defScope sBol) := ⟨rfl, rfl, rfl, by decide +kernel, rfl, by decide +kernel, by decide +kernel⟩
theorem scStrK : FnScope ["self"] ["self"] (defScope sStrK) := ⟨rfl, rfl, rfl, by decide +kernel, rfl, by decide +kernel, by decide +kernel⟩
theorem scWth : FnScope ["self", "other"] ["self", "other"] (defScope sWth) := ⟨rfl, rfl, rfl, by decide +kernel, rfl, by decide +kernel, by decide +kernel⟩
theorem scPts : FnScope ["kinds"] ["kinds"] (defScope sPts) := ⟨rfl, rfl, rfl, by decide +kernel, rfl, by decide +kernel, by decide +kernel⟩
theorem scBut : FnScope ["kinds", "words", "but", "sizes", "word"] ["kinds"] (defScope sBut) := ⟨rfl, rfl, rfl, by decide +kernel, rfl, by decide +kernel, by decide +kernel⟩
theorem scLft : FnScope ["sizes", "others", "k"] ["sizes", "others"] (defScope sLft) := ⟨rfl, rfl, rfl, by decide +kernel, rfl, by decide +kernel, by decide +kernel⟩
/-- the attributes of a kind set -/
def ksf (tw : V) (b : Bool) (ts : V) : List (Str × V) := putF "_sizes" ts (putF "_but" (.bl b) (putF "_words" tw []))
theorem nwb : ¬ (("_words" : Str) = "_but") := by decide +kernel
theorem nws : ¬ (("_words" : Str) = "_sizes") := by decide +kernel
theorem nbs : ¬ (("_but" : Str) = "_sizes") := by decide +kernel
theorem ksf_w (tw : V) (b : Bool) (ts : V) : (ksf tw b ts).lookup ("_words" : Str) = some tw := by
  unfold ksf
  rw [lookup_putF, if_neg nws, lookup_putF, if_neg nwb, lookup_putF, if_pos rfl]
theorem ksf_b (tw : V) (b : Bool) (ts : V) : (ksf tw b ts).lookup ("_but" : Str) = some (.bl b) := by
  unfold ksf
  rw [lookup_putF, if_neg nbs, lookup_putF, if_pos rfl]
theorem ksf_s (tw : V) (b : Bool) (ts : V) : (ksf tw b ts).lookup ("_sizes" : Str) = some ts := by
  unfold ksf
  rw [lookup_putF, if_pos rfl]
/-- the kind set m stands at a -/
def KAt (K : PySem.W.Frag) (C : Addr) (H : Hp) (a : Addr) (m : Ks) : Prop := ∃ dx tw ts, H a = some (.ins C dx (ksf (.ref tw) m.but (.ref ts))) ∧ SqT K H tw (m.ws.map V.str) ∧ SqT K H ts (m.sz.map V.int)
theorem KAt.up {K : PySem.W.Frag} {C : Addr} {H H' : Hp} {a : Addr} {m : Ks} (s : Same H H') (h : KAt K C H a m) : KAt K C H' a m := by
  obtain ⟨dx, tw, ts, h1, h2, h3⟩ := h
  exact ⟨dx, tw, ts, s _ _ h1, seqT_up s h2, seqT_up s h3⟩
structure KC (K : PySem.W.Frag) (mg : Str → Option Value) (C fE : Addr) : Prop where
  o : OwnC K C fE
  nw : NoAttr K C "_words"
  nb : NoAttr K C "_but"
  ns : NoAttr K C "_sizes"
  mg : mg "Kinds" = some (.ref C)
  kc : PySem.W.keepIn K (.ref C) = true
  sf : PySem.W.selfFirst K C = true
def spIni (C : Addr) : Sp := fun vs H Q _ => ∃ (a dx : Addr) (tw ts : V) (b : Bool), vs = [.ref a, tw, .bl b, ts] ∧ H a = some (.ins C dx []) ∧ ∀ H', H' a = some (.ins C dx (ksf tw b ts)) → (∀ b, b ≠ a → H' b = H b) → Q .non H'
/-- how a kind set is made -/
structure MkK (P : Program) (w : World) (K : PySem.W.Frag) (mg : Str → Option Value) (base : Heap) (C fI : Addr) (dI : FuncData) : Prop where
  mkr : Mk K C fI
  ok : FnOk P w K mg base CX0 1 fI dI ["self", "words", "but", "sizes"] (spIni C)
  bd : Binds K dI ["self", "words", "but", "sizes"] []
def spLft (K : PySem.W.Frag) : Sp := fun vs H Q _ => ∃ (a b : Addr) (xs ys : List Int), vs = [.ref a, .ref b] ∧ SqT K H a (xs.map V.int) ∧ SqT K H b (ys.map V.int) ∧ xs.length ≤ 1000 ∧ ∀ p H', Same H H' → H' p = some (.tup ((xs.filter fun k => !decide (k ∈ ys)).map V.int)) → Q (.ref p) H'
def spPts (K : PySem.W.Frag) (C : Addr) : Sp := fun vs H Q _ => ∃ a m, vs = [.ref a] ∧ KAt K C H a m ∧ ∀ t tw ts H', Same H H' → H' t = some (.tup [.ref tw, .bl m.but, .ref ts]) → SqT K H' tw (m.ws.map V.str) → SqT K H' ts (m.sz.map V.int) → Q (.ref t) H'
def spBut (K : PySem.W.Frag) (C : Addr) : Sp := fun vs H Q _ => ∃ a m f g, vs = [.ref a] ∧ KAt K C H a m ∧ Rep m f g ∧ ∀ c r H', Same H H' → KAt K C H' c r → Rep r (fun w => !f w) (fun k => !g k) → Q (.ref c) H'
def spKK (K : PySem.W.Frag) (C : Addr) (op : Bool → Bool → Bool) : Sp := fun vs H Q _ => ∃ a b m n f g f' g', vs = [.ref a, .ref b] ∧ KAt K C H a m ∧ KAt K C H b n ∧ Rep m f g ∧ Rep n f' g' ∧
  ∀ c r H', Same H H' → KAt K C H' c r → Rep r (fun w => op (f w) (f' w)) (fun k => op (g k) (g' k)) → Q (.ref c) H'
theorem op_inK {X : Cx} {K : PySem.W.Frag} (h : X.K = K) : OpR X (compareOp .In) (rIn K false) := by
  subst h
  exact op_in_seq
theorem op_notInK {X : Cx} {K : PySem.W.Frag} (h : X.K = K) : OpR X (compareOp .NotIn) (rIn K true) := by
  subst h
  exact op_notIn_seq
theorem few3 {n : Nat} (h : n ≤ 3) : n ≤ sizeLine := Nat.le_trans h (by decide)
theorem cut_nil {H : Hp} : cut [] H = H := by
  funext b
  exact cut_out List.not_mem_nil
/-- the next item of a filtered list -/
theorem take_filter {α : Type} {xs : List α} {i : Nat} {x : α} {p : α → Bool} (h : xs[i]? = some x) : (xs.take (i + 1)).filter p = (xs.take i).filter p ++ (if p x then [x] else []) := by
  rw [get_take h, List.filter_append]
  congr 1
  cases hp : p x <;> simp [hp]
theorem map_get {α β : Type} {f : α → β} {xs : List α} {i : Nat} {v : β} (h : (xs.map f)[i]? = some v) : ∃ x, xs[i]? = some x ∧ v = f x := by
  rw [List.getElem?_map] at h
  cases e : xs[i]? with
  | none =>
    rw [e] at h
    cases h
  | some x =>
    rw [e] at h
    exact ⟨x, rfl, (Option.some.inj h).symm⟩
section
variable {P : Program} {w : World} {K : PySem.W.Frag} {mg : Str → Option Value} {base : Heap} {f C fE fI : Addr} {fd dI : FuncData}
theorem ok_ini {k : Nat} (F : Fun K "__init__" "Kinds.__init__" sIni f fd) (T : KC K mg C fE) : FnOk P w K mg base CX0 (k + 1) f fd ["self", "words", "but", "sizes"] (spIni C) := by
  refine F.ok scIni (fun vs H Q E h => ?_) (fun cdv A outer s H vs Q E hr h => ?_)
  · obtain ⟨a, dx, tw, ts, b, rfl, _⟩ := h
    rfl
  obtain ⟨a, dx, tw, ts, b, rfl, ha, q⟩ := h
  refine ⟨_, pss_cons (ps_fld (pv 0) (pv 1) rfl) (pss_cons (ps_fld (pv 0) (pv 2) rfl) (pss_one (ps_fld (pv 0) (pv 3) rfl))), ?_⟩
  refine ⟨_, rfl, _, rfl, a, C, dx, [], rfl, ha, T.o.c.cl, T.nw, (by show 0 < 1000; decide), _, rfl, _, rfl, a, C, dx, _, rfl, upd_same, T.o.c.cl, T.nb, ?_, _, rfl, _, rfl, a, C, dx, _, rfl, upd_same, T.o.c.cl, T.ns, ?_, q _ upd_same fun b hb => by rw [upd_ne hb, upd_ne hb, upd_ne hb]⟩
  · show 1 < 1000
    decide
  · have e : (putF "_but" (.bl b) (putF "_words" tw [])).length = 2 := by
      show (if ("_words" : Str) = "_but" then _ else _ : List (Str × V)).length = 2
      rw [if_neg nwb]
      rfl
    rw [e]
    decide
/-- behind the making -/
theorem kat_made {H6 H7 : Hp} {a dx tw ts : Addr} {m : Ks} (ha : H6 a = none) (hdx : H6 dx = none) (e1 : H7 a = some (.ins C dx (ksf (.ref tw) m.but (.ref ts)))) (e2 : ∀ b, b ≠ a → H7 b = upd (upd H6 dx (.own a)) a (.ins C dx []) b)
    (h1 : SqT K H6 tw (m.ws.map V.str)) (h2 : SqT K H6 ts (m.sz.map V.int)) : Same H6 H7 ∧ KAt K C H7 a m := by
  have s : Same H6 H7 := made_same ha hdx e2
  exact ⟨s, dx, tw, ts, e1, seqT_up s h1, seqT_up s h2⟩
theorem ok_pts {k : Nat} (F : Fun K "parts_of" "parts_of" sPts f fd) (T : KC K mg C fE) : FnOk P w K mg base CX0 (k + 1) f fd ["kinds"] (spPts K C) := by
  refine F.ok scPts (fun vs H Q E h => ?_) (fun cdv A outer s H vs Q E hr h => ?_)
  · obtain ⟨a, m, rfl, _⟩ := h
    rfl
  obtain ⟨a, m, rfl, ⟨dx, tw, ts, ha, hw, hs⟩, q⟩ := h
  refine ⟨_, pss_one (ps_ret (pe_tup (pa_cons (pe_fld (pv 0) rfl) (pa_cons (pe_fld (pv 0) rfl) (pa_cons (pe_fld (pv 0) rfl) pa_nil))))), ?_⟩
  refine ⟨_, rfl, a, C, dx, _, _, rfl, ha, T.o.c.cl, T.nw, ksf_w _ _ _, _, rfl, a, C, dx, _, _, rfl, ha, T.o.c.cl, T.nb, ksf_b _ _ _, _, rfl, a, C, dx, _, _, rfl, ha, T.o.c.cl, T.ns, ksf_s _ _ _, few (by simp), fun t ht => ?_⟩
  have s1 := same_new (o := .tup [.ref tw, .bl m.but, .ref ts]) ht
  exact q t tw ts _ s1 upd_same (seqT_up s1 hw) (seqT_up s1 hs)
theorem ok_lft {k : Nat} (F : Fun K "left_out" "left_out" sLft f fd) (B : Bi mg) : FnOk P w K mg base CX0 (k + 1) f fd ["sizes", "others"] (spLft K) := by
  refine F.ok scLft (fun vs H Q E h => ?_) (fun cdv A outer s H vs Q E hr h => ?_)
  · obtain ⟨a, b, xs, ys, rfl, _⟩ := h
    rfl
  obtain ⟨a, b, xs, ys, rfl, ha, hb, hl, q⟩ := h
  refine ⟨_, pss_one (ps_ret (pe_callTy call_tuple_of (by rfl) B.tup b_tup (pa_cons (pe_lc (own := [("k", 2)]) (g := gName 2) (by rfl) scLft.nd (pi_tup (pv 0))
      (blkOk_by (own := [("k", 2)]) (N := ["sizes", "others", "k"]) (sc := defScope sLft) (by decide +kernel))
      (fun _ _ _ _ _ => pg_name (i := 2) scLft.nd rfl (Or.inl rfl)) (fun _ _ _ _ _ => pts_one (pt_cmpR (op_notInK (K := K) rfl) (pv 2) (pv 1) rfl)) (fun _ _ _ _ _ => pv 2)) pa_nil))), ?_⟩
  refine ⟨_, rfl, a, rfl, ⟨_, ha⟩, fun D hD => along (walk_tup (K := K) (a := a) (xs := xs.map V.int)) (fun i H2 => H2 D = some (.lst (((xs.take i).filter fun k => !decide (k ∈ ys)).map V.int)) ∧ Same H H2) ⟨upd_same, same_new hD _⟩ (fun i H2 _ ⟨_, h⟩ => seqT_up h ha) ?_ ?_⟩
  · rintro i y H2 H3 hi ⟨h1, h2⟩ ⟨rfl, hy⟩
    obtain ⟨x, hx, rfl⟩ := map_get hy
    refine ⟨rfl, _, rfl, _, rfl, b, _, rfl, .inr (seqT_up h2 hb), rfl, flat_ints ys, _, rfl, ?_⟩
    show if (!inV (.int x) (ys.map V.int)) = true then _ else _
    rw [inV_int]
    have tf := take_filter (p := fun k => !decide (k ∈ ys)) hx
    refine ite2 (fun c => ?_) (fun c => ?_)
    · refine ⟨_, rfl, _, h1, ?_, ?_, fun b o z => ?_⟩
      · rw [List.length_map]
        have := List.length_filter_le (fun k => !decide (k ∈ ys)) (xs.take i)
        rw [List.length_take] at this
        exact small1000 (by omega)
      · rw [upd_same, tf, if_pos c, List.map_append]
        rfl
      · rw [upd_ne (ne_of_none z hD)]
        exact h2 b o z
    · refine ⟨?_, h2⟩
      rw [tf, if_neg c, List.append_nil]
      exact h1
  · rintro H2 ⟨h1, h2⟩
    rw [List.length_map, List.take_of_length_le (Nat.le_refl _)] at h1
    exact ⟨D, _, rfl, .inl ⟨SqL.of h1, fun t ht => q t _ (h2.trans (same_new ht _)) upd_same⟩⟩
end
theorem pe_fldK {X : Cx} {K : PySem.W.Frag} {e : Expr} {ta : TE} {f : Str} {pos : Pos} (h : X.K = K) (he : PE X e ta) (hb : attributeBase e f X.env (eval e X.env) = eval e X.env) : PE X (.Attribute e f pos) (tFld K ta f) := by
  subst h
  exact pe_fld he hb
section
variable {P : Program} {w : World} {K : PySem.W.Frag} {mg : Str → Option Value} {base : Heap} {f C fE fI tW fP fL fN fA fB : Addr} {fd dI dP dL dN dA dB : FuncData}
theorem ok_but {k : Nat} (F : Fun K "all_but" "all_but" sBut f fd) (B : Bi mg) (T : KC K mg C fE) (M : MkK P w K mg base C fI dI) (mW : mg "WORDS" = some (.ref tW)) (hW : ∀ H, SqT K H tW (kW.map V.str))
    (GP : Dn P w K mg base 1 "parts_of" ["kinds"] (spPts K C) fP dP) : FnOk P w K mg base CX0 (k + 3) f fd ["kinds"] (spBut K C) := by
  refine F.ok scBut (fun vs H Q E h => ?_) (fun cdv A outer s H vs Q E hr h => ?_)
  · obtain ⟨a, m, f, g, rfl, _⟩ := h
    rfl
  obtain ⟨a, m, f, g, rfl, ha, rm, q⟩ := h
  have hr1 : Room 1 _ := hr.mono (by omega)
  have hr2 : Room (1 + 1) _ := hr.mono (by omega)
  refine ⟨_, pss_cons (ps_asg (pe_call GP.ok hr1 (by rfl) GP.mg GP.kp GP.bd .nil pass0 (pa_cons (pv 0) pa_nil)) (pg_tup (by rfl) (pgs_cons (pg_name (i := 1) scBut.nd rfl (.inr rfl)) (pgs_cons (pg_name (i := 2) scBut.nd rfl (.inl rfl)) (pgs_cons (pg_name (i := 3) scBut.nd rfl (.inl rfl)) pgs_nil)))))
    (pss_one (ps_ret (pe_make M.mkr M.ok hr2 (by rfl) T.mg M.bd .nil pass0 (pa_cons (pe_callTy call_tuple_of (by rfl) B.tup b_tup (pa_cons (pe_lc (own := [("word", 4)]) (g := gName 4) (by rfl) scBut.nd (pi_tup (pe_glob (by rfl) mW (v := .ref tW) rfl))
      (blkOk_by (own := [("word", 4)]) (N := ["kinds", "words", "but", "sizes", "word"]) (sc := defScope sBut) (by decide +kernel))
      (fun _ _ _ _ _ => pg_name (i := 4) scBut.nd rfl (Or.inl rfl)) (fun _ _ _ _ _ => pts_one (pt_cmpR (op_notInK (K := K) rfl) (pv 4) (pv 1) rfl)) (fun _ _ _ _ _ => pv 4)) pa_nil)) (pa_cons (pe_not (pv 2)) (pa_cons (pv 3) pa_nil)))))), ?_⟩
  refine ⟨_, rfl, a, m, rfl, ha, fun t tw ts H1 s1 ht hw hs => ?_⟩
  refine ⟨t, _, rfl, .inl (.inl ht), rfl, _, _, rfl, _, _, rfl, _, _, rfl, rfl, ?_⟩
  refine ⟨tW, rfl, ⟨_, hW _⟩, fun D hD => along (walk_tup (K := K) (a := tW) (xs := kW.map V.str)) (fun i H2 => H2 D = some (.lst (((kW.take i).filter fun k => !decide (k ∈ m.ws)).map V.str)) ∧ Same H1 H2) ⟨upd_same, same_new hD _⟩ (fun i H2 _ _ => hW _) ?_ ?_⟩
  · rintro i y H2 H3 hi ⟨h1, h2⟩ ⟨rfl, hy⟩
    obtain ⟨x, hx, rfl⟩ := map_get hy
    refine ⟨rfl, _, rfl, _, rfl, tw, _, rfl, .inr (seqT_up h2 hw), rfl, flat_strs m.ws, _, rfl, ?_⟩
    show if (!inV (.str x) (m.ws.map V.str)) = true then _ else _
    rw [inV_str]
    have tf := take_filter (p := fun k => !decide (k ∈ m.ws)) hx
    refine ite2 (fun c => ?_) (fun c => ?_)
    · refine ⟨_, rfl, _, h1, ?_, ?_, fun b o z => ?_⟩
      · rw [List.length_map]
        have := List.length_filter_le (fun k => !decide (k ∈ m.ws)) (kW.take i)
        rw [List.length_take] at this
        have e3 : kW.length = 3 := rfl
        exact small1000 (by omega)
      · rw [upd_same, tf, if_pos c, List.map_append]
        rfl
      · rw [upd_ne (ne_of_none z hD)]
        exact h2 b o z
    · refine ⟨?_, h2⟩
      rw [tf, if_neg c, List.append_nil]
      exact h1
  · rintro H2 ⟨h1, h2⟩
    have e0 : (kW.take (kW.map V.str).length) = kW := rfl
    rw [e0, rm.w, ws_not] at h1
    refine ⟨D, _, rfl, .inl ⟨SqL.of h1, fun t2 ht2 => ?_⟩⟩
    have s3 := h2.trans (same_new (o := .tup ((kW.filter fun w => !f w).map V.str)) ht2)
    refine ⟨_, rfl, _, rfl, _, rfl, fun x dx hx hdx ne => ⟨x, dx, .ref t2, .ref ts, !m.but, rfl, upd_same, fun H7 e1 e2 => ⟨rfl, ?_⟩⟩⟩
    obtain ⟨s4, kt⟩ := kat_made (m := ⟨kW.filter fun w => !f w, !m.but, m.sz⟩) hx hdx e1 e2 (.inl (.inl upd_same)) (seqT_up s3 hs)
    exact q x _ _ (s1.trans (s3.trans s4)) kt (rep_not rm)
theorem ok_or {k : Nat} (F : Fun K "__or__" "Kinds.__or__" sOr f fd) (T : KC K mg C fE) (GN : Dn P w K mg base 3 "all_but" ["kinds"] (spBut K C) fN dN) (A : Meth K C "__and__" fA)
    (GA : FnOk P w K mg base CX0 3 fA dA ["self", "other"] (spKK K C and)) (bA : Binds K dA ["self", "other"] []) : FnOk P w K mg base CX0 (k + 4) f fd ["self", "other"] (spKK K C or) := by
  refine F.ok scOr (fun vs H Q E h => ?_) (fun cdv A' outer s H vs Q E hr h => ?_)
  · obtain ⟨a, b, m, n, f, g, f', g', rfl, _⟩ := h
    rfl
  obtain ⟨a, b, m, n, f, g, f', g', rfl, ha, hb, rm, rn, q⟩ := h
  have hr3 : Room 3 _ := hr.mono (by omega)
  refine ⟨_, pss_one (ps_ret (pe_call GN.ok hr3 (by rfl) GN.mg GN.kp GN.bd .nil pass0 (pa_cons (pe_op (op_binO rfl T.sf A GA bA hr3) (pe_call GN.ok hr3 (by rfl) GN.mg GN.kp GN.bd .nil pass0 (pa_cons (pv 0) pa_nil))
    (pe_call GN.ok hr3 (by rfl) GN.mg GN.kp GN.bd .nil pass0 (pa_cons (pv 1) pa_nil))) pa_nil))), ?_⟩
  refine ⟨_, rfl, a, m, f, g, rfl, ha, rm, fun c1 r1 H1 s1 k1 p1 => ?_⟩
  refine ⟨_, rfl, b, n, f', g', rfl, hb.up s1, rn, fun c2 r2 H2 s2 k2 p2 => ?_⟩
  have k1' := k1.up s2
  obtain ⟨dx1, tw1, ts1, i1, _⟩ := id k1'
  obtain ⟨dx2, tw2, ts2, i2, _⟩ := id k2
  refine ⟨c1, dx1, _, c2, dx2, _, rfl, rfl, i1, i2, c1, c2, r1, r2, _, _, _, _, rfl, k1', k2, p1, p2, fun c3 r3 H3 s3 k3 p3 => ⟨⟨c3, rfl⟩, ?_⟩⟩
  refine ⟨c3, r3, _, _, rfl, k3, p3, fun c4 r4 H4 s4 k4 p4 => q c4 r4 H4 (s1.trans (s2.trans (s3.trans s4))) k4 (p4.congr (fun w => ?_) (fun k => ?_))⟩
  · cases f w <;> cases f' w <;> rfl
  · cases g k <;> cases g' k <;> rfl
theorem ok_sub {k : Nat} (F : Fun K "__sub__" "Kinds.__sub__" sSub f fd) (T : KC K mg C fE) (GN : Dn P w K mg base 3 "all_but" ["kinds"] (spBut K C) fN dN) (A : Meth K C "__and__" fA)
    (GA : FnOk P w K mg base CX0 3 fA dA ["self", "other"] (spKK K C and)) (bA : Binds K dA ["self", "other"] []) : FnOk P w K mg base CX0 (k + 4) f fd ["self", "other"] (spKK K C fun x y => x && !y) := by
  refine F.ok scSub (fun vs H Q E h => ?_) (fun cdv A' outer s H vs Q E hr h => ?_)
  · obtain ⟨a, b, m, n, f, g, f', g', rfl, _⟩ := h
    rfl
  obtain ⟨a, b, m, n, f, g, f', g', rfl, ha, hb, rm, rn, q⟩ := h
  have hr3 : Room 3 _ := hr.mono (by omega)
  refine ⟨_, pss_one (ps_ret (pe_op (op_binO rfl T.sf A GA bA hr3) (pv 0) (pe_call GN.ok hr3 (by rfl) GN.mg GN.kp GN.bd .nil pass0 (pa_cons (pv 1) pa_nil)))), ?_⟩
  refine ⟨_, rfl, _, rfl, b, n, f', g', rfl, hb, rn, fun c2 r2 H2 s2 k2 p2 => ?_⟩
  have k1 := ha.up s2
  obtain ⟨dx1, tw1, ts1, i1, _⟩ := id k1
  obtain ⟨dx2, tw2, ts2, i2, _⟩ := id k2
  exact ⟨a, dx1, _, c2, dx2, _, rfl, rfl, i1, i2, a, c2, m, r2, _, _, _, _, rfl, k1, k2, rm, p2, fun c3 r3 H3 s3 k3 p3 => ⟨⟨c3, rfl⟩, q c3 r3 H3 (s2.trans s3) k3 p3⟩⟩
end
theorem lft_nodup {a b : List Int} (ha : a.Pairwise (· < ·)) (hb : b.Pairwise (· < ·)) : (a ++ b.filter fun k => !decide (k ∈ a)).Nodup := by
  refine List.nodup_append.mpr ⟨srt_nodup ha, srt_nodup (srt_filter _ hb), fun x hx y hy e => ?_⟩
  have h := (List.mem_filter.mp hy).2
  rw [← e, decide_eq_true hx] at h
  cases h
theorem mem_lft {a b : List Int} (k : Int) : k ∈ a ++ b.filter (fun k => !decide (k ∈ a)) ↔ k ∈ a ∨ k ∈ b := by
  rw [List.mem_append, List.mem_filter]
  by_cases h : k ∈ a
  · exact ⟨fun _ => .inl h, fun _ => .inl h⟩
  · rw [decide_eq_false h]
    exact ⟨fun z => z.elim .inl fun z => .inr z.1, fun z => z.elim .inl fun z => .inr ⟨z, rfl⟩⟩
section
variable {P : Program} {w : World} {K : PySem.W.Frag} {mg : Str → Option Value} {base : Heap} {f C fE fI fL : Addr} {fd dI dL : FuncData}
theorem ok_and {k : Nat} (F : Fun K "__and__" "Kinds.__and__" sAnd f fd) (B : Bi mg) (T : KC K mg C fE) (M : MkK P w K mg base C fI dI) (hso : mg "sorted" = none)
    (GL : Dn P w K mg base 1 "left_out" ["sizes", "others"] (spLft K) fL dL) : FnOk P w K mg base CX0 (k + 3) f fd ["self", "other"] (spKK K C and) := by
  refine F.ok scAnd (fun vs H Q E h => ?_) (fun cdv A outer s H vs Q E hr h => ?_)
  · obtain ⟨a, b, m, n, f, g, f', g', rfl, _⟩ := h
    rfl
  obtain ⟨a, b, m, n, f, g, f', g', rfl, ha, hb, rm, rn, q⟩ := h
  have hr1 : Room 1 _ := hr.mono (by omega)
  have hr2 : Room (1 + 1) _ := hr.mono (by omega)
  refine ⟨_, pss_cons (ps_set (i := 2) scAnd.nd rfl (.inl rfl) (pe_callTy call_tuple_of (by rfl) B.tup b_tup (pa_cons (pe_lc (own := [("word", 3)]) (g := gName 3) (by rfl) scAnd.nd (pi_tup (pe_fld (pv 0) rfl))
      (blkOk_by (own := [("word", 3)]) (N := ["self", "other", "words", "word", "k"]) (sc := defScope sAnd) (by decide +kernel))
      (fun _ _ _ _ _ => pg_name (i := 3) scAnd.nd rfl (Or.inl rfl)) (fun _ _ _ _ _ => pts_one (pt_cmpR (op_inK (K := K) rfl) (pv 3) (pe_fldK (K := K) rfl (pv 1) rfl) rfl)) (fun _ _ _ _ _ => pv 3)) pa_nil)))
    (pss_cons (ps_if (PW.pt (pw_and (pt_val (pe_fld (pv 0) rfl)) (pw_and1 (pt_val (pe_fld (pv 1) rfl)))))
      (pss_one (ps_ret (pe_make M.mkr M.ok hr2 (by rfl) T.mg M.bd .nil pass0 (pa_cons (pv 2) (pa_cons pe_bl (pa_cons (pe_callTy call_tuple_of (by rfl) B.tup b_tup (pa_cons (pe_callB cr_sortedTu (by rfl) hso (by decide +kernel)
        (pa_cons (pe_op op_catU (pe_fld (pv 0) rfl) (pe_call GL.ok hr1 (by rfl) GL.mg GL.kp GL.bd .nil pass0 (pa_cons (pe_fld (pv 1) rfl) (pa_cons (pe_fld (pv 0) rfl) pa_nil)))) pa_nil)) pa_nil)) pa_nil)))))) pss_nil)
    (pss_cons (ps_if (pt_val (pe_fld (pv 0) rfl)) (pss_one (ps_ret (pe_make M.mkr M.ok hr2 (by rfl) T.mg M.bd .nil pass0 (pa_cons (pv 2) (pa_cons pe_bl (pa_cons (pe_call GL.ok hr1 (by rfl) GL.mg GL.kp GL.bd .nil pass0 (pa_cons (pe_fld (pv 1) rfl) (pa_cons (pe_fld (pv 0) rfl) pa_nil))) pa_nil)))))) pss_nil)
    (pss_cons (ps_if (pt_val (pe_fld (pv 1) rfl)) (pss_one (ps_ret (pe_make M.mkr M.ok hr2 (by rfl) T.mg M.bd .nil pass0 (pa_cons (pv 2) (pa_cons pe_bl (pa_cons (pe_call GL.ok hr1 (by rfl) GL.mg GL.kp GL.bd .nil pass0 (pa_cons (pe_fld (pv 0) rfl) (pa_cons (pe_fld (pv 1) rfl) pa_nil))) pa_nil)))))) pss_nil)
    (pss_one (ps_ret (pe_make M.mkr M.ok hr2 (by rfl) T.mg M.bd .nil pass0 (pa_cons (pv 2) (pa_cons pe_bl (pa_cons (pe_callTy call_tuple_of (by rfl) B.tup b_tup (pa_cons (pe_lc (own := [("k", 4)]) (g := gName 4) (by rfl) scAnd.nd (pi_tup (pe_fld (pv 0) rfl))
      (blkOk_by (own := [("k", 4)]) (N := ["self", "other", "words", "word", "k"]) (sc := defScope sAnd) (by decide +kernel))
      (fun _ _ _ _ _ => pg_name (i := 4) scAnd.nd rfl (Or.inl rfl)) (fun _ _ _ _ _ => pts_one (pt_cmpR (op_inK (K := K) rfl) (pv 4) (pe_fldK (K := K) rfl (pv 1) rfl) rfl)) (fun _ _ _ _ _ => pv 4)) pa_nil)) pa_nil))))))))), ?_⟩
  obtain ⟨dx, tw, ts, ia, hwa, hsa⟩ := id ha
  obtain ⟨dy, tw', ts', ib, hwb, hsb⟩ := id hb
  -- the words
  refine ⟨_, rfl, a, C, dx, _, _, rfl, ia, T.o.c.cl, T.nw, ksf_w _ _ _, tw, rfl, ⟨_, hwa⟩, fun D hD => along (walk_tup (K := K) (a := tw) (xs := m.ws.map V.str)) (fun i H2 => H2 D = some (.lst (((m.ws.take i).filter fun k => decide (k ∈ n.ws)).map V.str)) ∧ Same H H2) ⟨upd_same, same_new hD _⟩ (fun i H2 _ ⟨_, h⟩ => seqT_up h hwa) ?_ ?_⟩
  · rintro i y H2 H3 hi ⟨h1, h2⟩ ⟨rfl, hy⟩
    obtain ⟨x, hx, rfl⟩ := map_get hy
    refine ⟨rfl, _, rfl, _, rfl, b, C, dy, _, _, rfl, h2 _ _ ib, T.o.c.cl, T.nw, ksf_w _ _ _, tw', _, rfl, .inr (seqT_up h2 hwb), rfl, flat_strs n.ws, _, rfl, ?_⟩
    show if inV (.str x) (n.ws.map V.str) = true then _ else _
    rw [inV_str]
    have tf := take_filter (p := fun k => decide (k ∈ n.ws)) hx
    have lw : m.ws.length ≤ 3 := by rw [rm.w]; exact List.length_filter_le _ kW
    refine ite2 (fun c => ?_) (fun c => ?_)
    · refine ⟨_, rfl, _, h1, ?_, ?_, fun b o z => ?_⟩
      · rw [List.length_map]
        have := List.length_filter_le (fun k => decide (k ∈ n.ws)) (m.ws.take i)
        rw [List.length_take] at this
        exact small1000 (by omega)
      · rw [upd_same, tf, if_pos c, List.map_append]
        rfl
      · rw [upd_ne (ne_of_none z hD)]
        exact h2 b o z
    · refine ⟨?_, h2⟩
      rw [tf, if_neg c, List.append_nil]
      exact h1
  · rintro H2 ⟨h1, h2⟩
    rw [List.length_map, List.take_of_length_le (Nat.le_refl _), rm.w, rn.w, ws_and] at h1
    refine ⟨D, _, rfl, .inl ⟨SqL.of h1, fun t ht => ?_⟩⟩
    have s3 := h2.trans (same_new (o := .tup ((kW.filter fun w => f w && f' w).map V.str)) ht)
    have htw : SqT K (upd H2 t (.tup ((kW.filter fun w => f w && f' w).map V.str))) t ((kW.filter fun w => f w && f' w).map V.str) := .inl (.inl upd_same)
    generalize upd H2 t (.tup ((kW.filter fun w => f w && f' w).map V.str)) = H3 at s3 htw
    have ia3 := s3 _ _ ia
    have ib3 := s3 _ _ ib
    have hsa3 := seqT_up s3 hsa
    have hsb3 := seqT_up s3 hsb
    have lm := rm.len
    have ln := rn.len
    have mk : ∀ {H4 H7 : Hp} {x d0 t3 : Addr} {bb : Bool} {zs : List Int}, Same H3 H4 → H4 x = none → H4 d0 = none → SqT K H4 t3 (zs.map V.int) → H7 x = some (.ins C d0 (ksf (.ref t) bb (.ref t3))) → (∀ b, b ≠ x → H7 b = upd (upd H4 d0 (.own x)) x (.ins C d0 []) b) →
        Rep ⟨kW.filter fun w => f w && f' w, bb, zs⟩ (fun w => f w && f' w) (fun k => g k && g' k) → Q (.ref x) H7 := fun {H4 H7 x d0 t3 bb zs} s4 hx hd h3 e1 e2 rp => by
      obtain ⟨s5, kt⟩ := kat_made (m := ⟨kW.filter fun w => f w && f' w, bb, zs⟩) hx hd e1 e2 (seqT_up s4 htw) h3
      exact q x _ _ (s3.trans (s4.trans s5)) kt rp
    refine ⟨_, rfl, a, C, dx, _, _, rfl, ia3, T.o.c.cl, T.nb, ksf_b _ _ _, m.but, rfl, ite2 (fun c => ?A) (fun c => ?B)⟩
    case A =>
      have gm : ∀ k, (!decide (k ∈ m.sz)) = g k := fun k => by
        rw [← rm.s k]
        unfold Ks.hasS
        rw [c]
        cases decide (k ∈ m.sz) <;> rfl
      refine ⟨_, rfl, b, C, dy, _, _, rfl, ib3, T.o.c.cl, T.nb, ksf_b _ _ _, n.but, rfl, ite2 (fun d => ?AA) (fun d => ?AB)⟩
      case AA =>
        refine ⟨_, rfl, _, rfl, a, C, dx, _, _, rfl, ia3, T.o.c.cl, T.ns, ksf_s _ _ _, _, rfl, b, C, dy, _, _, rfl, ib3, T.o.c.cl, T.ns, ksf_s _ _ _, _, rfl, a, C, dx, _, _, rfl, ia3, T.o.c.cl, T.ns, ksf_s _ _ _, ts', ts, n.sz, m.sz, rfl, hsb3, hsa3, by omega, fun p H4 s4 hp => ?_⟩
        refine ⟨ts, p, _, _, [], rfl, rfl, by rw [cut_nil]; exact seqT_up s4 hsa3, by rw [cut_nil]; exact .inl (.inl hp), fun _ z => absurd z List.not_mem_nil, few2 (by rw [List.length_map, List.length_map]; have := List.length_filter_le (fun k => !decide (k ∈ m.sz)) n.sz; omega), fun c4 H5 s5 hc => ?_⟩
        rw [cut_nil, ← List.map_append] at hc
        refine ⟨c4, _, rfl, hc, by rw [List.length_append]; have := List.length_filter_le (fun k => !decide (k ∈ m.sz)) n.sz; omega, fun ns' p2 perm le hp2 => ?_⟩
        refine ⟨p2, _, rfl, .inl ⟨SqL.of upd_same, fun t3 ht3 => ?_⟩⟩
        refine fun x d0 hx hdx ne => ⟨x, d0, .ref t, .ref t3, true, rfl, upd_same, fun H7 e1 e2 => ⟨rfl, ?_⟩⟩
        exact mk (s4.trans (s5.trans ((same_new hp2 _).trans (same_new ht3 _)))) hx hdx (.inl (.inl upd_same)) e1 e2 (rep_bb rm rn c d (srt_of perm le (lft_nodup rm.srt rn.srt)) fun k => by rw [perm.mem_iff]; exact mem_lft k)
      case AB =>
        have d := Bool.eq_false_iff.mpr d
        refine ⟨_, rfl, a, C, dx, _, _, rfl, ia3, T.o.c.cl, T.nb, ksf_b _ _ _, m.but, rfl, ite2 (fun _ => ?_) (fun e => absurd c e)⟩
        refine ⟨_, rfl, _, rfl, b, C, dy, _, _, rfl, ib3, T.o.c.cl, T.ns, ksf_s _ _ _, _, rfl, a, C, dx, _, _, rfl, ia3, T.o.c.cl, T.ns, ksf_s _ _ _, ts', ts, n.sz, m.sz, rfl, hsb3, hsa3, by omega, fun p H4 s4 hp => ?_⟩
        refine fun x d0 hx hdx ne => ⟨x, d0, .ref t, .ref p, false, rfl, upd_same, fun H7 e1 e2 => ⟨rfl, ?_⟩⟩
        exact mk s4 hx hdx (.inl (.inl hp)) e1 e2 ((rep_f rn _ d gm).congr (fun _ => rfl) fun k => Bool.and_comm _ _)
    case B =>
      have c' := Bool.eq_false_iff.mpr c
      refine ⟨_, rfl, a, C, dx, _, _, rfl, ia3, T.o.c.cl, T.nb, ksf_b _ _ _, m.but, rfl, ite2 (fun e => absurd e c) (fun _ => ?_)⟩
      refine ⟨_, rfl, b, C, dy, _, _, rfl, ib3, T.o.c.cl, T.nb, ksf_b _ _ _, n.but, rfl, ite2 (fun d => ?BA) (fun d => ?BB)⟩
      case BA =>
        have gn : ∀ k, (!decide (k ∈ n.sz)) = g' k := fun k => by
          rw [← rn.s k]
          unfold Ks.hasS
          rw [d]
          cases decide (k ∈ n.sz) <;> rfl
        refine ⟨_, rfl, _, rfl, a, C, dx, _, _, rfl, ia3, T.o.c.cl, T.ns, ksf_s _ _ _, _, rfl, b, C, dy, _, _, rfl, ib3, T.o.c.cl, T.ns, ksf_s _ _ _, ts, ts', m.sz, n.sz, rfl, hsa3, hsb3, by omega, fun p H4 s4 hp => ?_⟩
        refine fun x d0 hx hdx ne => ⟨x, d0, .ref t, .ref p, false, rfl, upd_same, fun H7 e1 e2 => ⟨rfl, ?_⟩⟩
        exact mk s4 hx hdx (.inl (.inl hp)) e1 e2 (rep_f rm _ c' gn)
      case BB =>
        have d' := Bool.eq_false_iff.mpr d
        have gn : ∀ k, decide (k ∈ n.sz) = g' k := fun k => by
          rw [← rn.s k]
          unfold Ks.hasS
          rw [d']
          cases decide (k ∈ n.sz) <;> rfl
        refine ⟨_, rfl, _, rfl, a, C, dx, _, _, rfl, ia3, T.o.c.cl, T.ns, ksf_s _ _ _, ts, rfl, ⟨_, hsa3⟩, fun D4 hD4 => along (walk_tup (K := K) (a := ts) (xs := m.sz.map V.int)) (fun i H4 => H4 D4 = some (.lst (((m.sz.take i).filter fun k => decide (k ∈ n.sz)).map V.int)) ∧ Same H3 H4) ⟨upd_same, same_new hD4 _⟩ (fun i H4 _ ⟨_, h⟩ => seqT_up h hsa3) ?_ ?_⟩
        · rintro i y H4 H5 hi ⟨h1, h2⟩ ⟨rfl, hy⟩
          obtain ⟨x, hx, rfl⟩ := map_get hy
          refine ⟨rfl, _, rfl, _, rfl, b, C, dy, _, _, rfl, h2 _ _ ib3, T.o.c.cl, T.ns, ksf_s _ _ _, ts', _, rfl, .inr (seqT_up h2 hsb3), rfl, flat_ints n.sz, _, rfl, ?_⟩
          show if inV (.int x) (n.sz.map V.int) = true then _ else _
          rw [inV_int]
          have tf := take_filter (p := fun k => decide (k ∈ n.sz)) hx
          refine ite2 (fun c => ?_) (fun c => ?_)
          · refine ⟨_, rfl, _, h1, ?_, ?_, fun b o z => ?_⟩
            · rw [List.length_map]
              have := List.length_filter_le (fun k => decide (k ∈ n.sz)) (m.sz.take i)
              rw [List.length_take] at this
              exact small1000 (by omega)
            · rw [upd_same, tf, if_pos c, List.map_append]
              rfl
            · rw [upd_ne (ne_of_none z hD4)]
              exact h2 b o z
          · refine ⟨?_, h2⟩
            rw [tf, if_neg c, List.append_nil]
            exact h1
        · rintro H4 ⟨h1, h2⟩
          rw [List.length_map, List.take_of_length_le (Nat.le_refl _)] at h1
          refine ⟨D4, _, rfl, .inl ⟨SqL.of h1, fun t3 ht3 => ?_⟩⟩
          refine fun x d0 hx hdx ne => ⟨x, d0, .ref t, .ref t3, false, rfl, upd_same, fun H7 e1 e2 => ⟨rfl, ?_⟩⟩
          exact mk (h2.trans (same_new ht3 _)) hx hdx (.inl (.inl upd_same)) e1 e2 (rep_f rm _ c' gn)
end
def inI : PyData → Bool
  | .int _ => true
  | _ => false
/-- whether a thing is a kind in a kind set -/
def hasD (m : Ks) : PyData → Bool
  | .str x => decide (x ∈ m.ws)
  | .int k => decide (0 ≤ k) && m.hasS k
  | _ => false
def ptsD (m : Ks) : PyData := .tuple [.tuple (m.ws.map .str), .bool m.but, .tuple (m.sz.map .int)]
theorem strD {K : PySem.W.Frag} {H : Hp} : ∀ xs : List Str, DpAll K H (xs.map V.str) (xs.map PyData.str)
  | [] => .nil
  | _ :: xs => .cons (.str _) (strD xs)
theorem intD {K : PySem.W.Frag} {H : Hp} : ∀ xs : List Int, DpAll K H (xs.map V.int) (xs.map PyData.int)
  | [] => .nil
  | _ :: xs => .cons (.int _) (intD xs)
theorem pts_dp {K : PySem.W.Frag} {H : Hp} {t tw ts : Addr} {m : Ks} (h : H t = some (.tup [.ref tw, .bl m.but, .ref ts])) (h1 : SqT K H tw (m.ws.map V.str)) (h2 : SqT K H ts (m.sz.map V.int)) : Dp K H (.ref t) (ptsD m) :=
  .tup (.inl (.inl h)) (.cons (.tup h1 (strD _)) (.cons (.bl _) (.cons (.tup h2 (intD _)) .nil)))
theorem gds_str : ∀ xs : List Str, (∀ x ∈ xs, gd (.str x) = true) → gds (xs.map PyData.str) = true ∧ PyData.depthAll (xs.map PyData.str) = 0
  | [], _ => ⟨by simp only [List.map_nil, gds], by simp only [List.map_nil, PyData.depthAll]⟩
  | x :: xs, h => by
    have ih := gds_str xs fun y hy => h y (List.mem_cons_of_mem _ hy)
    exact ⟨by simp only [List.map_cons, gds, h x List.mem_cons_self, ih.1, Bool.and_self], by simp only [List.map_cons, PyData.depthAll, PyData.depth, ih.2, Nat.max_self]⟩
theorem gds_int : ∀ xs : List Int, (∀ x ∈ xs, 0 ≤ x ∧ x ≤ 20) → gds (xs.map PyData.int) = true ∧ PyData.depthAll (xs.map PyData.int) = 0
  | [], _ => ⟨by simp only [List.map_nil, gds], by simp only [List.map_nil, PyData.depthAll]⟩
  | x :: xs, h => by
    have ih := gds_int xs fun y hy => h y (List.mem_cons_of_mem _ hy)
    have hx := h x List.mem_cons_self
    have g := gd_int (i := x) (Nat.lt_of_lt_of_le (by omega : x.natAbs < 2 ^ 10) (Nat.pow_le_pow_right (by decide) (by decide)))
    exact ⟨by simp only [List.map_cons, gds, g, ih.1, Bool.and_self], by simp only [List.map_cons, PyData.depthAll, PyData.depth, ih.2, Nat.max_self]⟩
theorem kW_gd : ∀ x ∈ kW, gd (.str x) = true := by
  intro x hx
  simp only [List.mem_cons, List.not_mem_nil, or_false] at hx
  rcases hx with h | h | h <;> rw [h] <;> simp only [gd] <;> decide +kernel
theorem pts_sh {m : Ks} {f : Str → Bool} {g : Int → Bool} (r : Rep m f g) : SeqAt.shaped (ptsD m) = true := by
  have h1 := gds_str m.ws fun x hx => kW_gd x (by rw [r.w] at hx; exact (List.mem_filter.mp hx).1)
  have h2 := gds_int m.sz r.bd
  refine shaped_of (by simp only [ptsD, gd, gds, h1.1, h2.1, Bool.and_self]) ?_
  simp only [ptsD, PyData.depth, PyData.depthAll, h1.2, h2.2]
  omega
theorem eqv_strs : ∀ a b : List Str, PyData.eqvAll (a.map PyData.str) (b.map PyData.str) = decide (a = b)
  | [], [] => by simp only [List.map_nil, PyData.eqvAll]; rfl
  | [], _ :: _ => by simp only [List.map_nil, List.map_cons, PyData.eqvAll]; rfl
  | _ :: _, [] => by simp only [List.map_nil, List.map_cons, PyData.eqvAll]; rfl
  | x :: a, y :: b => by
    simp only [List.map_cons, PyData.eqvAll, PyData.eqv, eqv_strs a b]
    by_cases h : x = y
    · rw [h, beq_self_eq_true, Bool.true_and]
      exact decide_eq_decide.mpr ⟨fun z => by rw [z], fun z => (List.cons.inj z).2⟩
    · rw [beq_eq_false_iff_ne.mpr h, Bool.false_and, decide_eq_false fun z => h (List.cons.inj z).1]
theorem eqv_ints : ∀ a b : List Int, PyData.eqvAll (a.map PyData.int) (b.map PyData.int) = decide (a = b)
  | [], [] => by simp only [List.map_nil, PyData.eqvAll]; rfl
  | [], _ :: _ => by simp only [List.map_nil, List.map_cons, PyData.eqvAll]; rfl
  | _ :: _, [] => by simp only [List.map_nil, List.map_cons, PyData.eqvAll]; rfl
  | x :: a, y :: b => by
    simp only [List.map_cons, PyData.eqvAll, PyData.eqv, eqv_ints a b]
    by_cases h : x = y
    · rw [h, beq_self_eq_true, Bool.true_and]
      exact decide_eq_decide.mpr ⟨fun z => by rw [z], fun z => (List.cons.inj z).2⟩
    · rw [beq_eq_false_iff_ne.mpr h, Bool.false_and, decide_eq_false fun z => h (List.cons.inj z).1]
instance : DecidableEq Ks := fun a b => by
  cases a; cases b
  rw [Ks.mk.injEq]
  infer_instance
theorem pts_eqv (m n : Ks) : PyData.eqv (ptsD m) (ptsD n) = decide (m = n) := by
  simp only [ptsD, PyData.eqv, PyData.eqvAll, eqv_strs, eqv_ints, Bool.and_true]
  obtain ⟨a, b, c⟩ := m
  obtain ⟨a', b', c'⟩ := n
  by_cases h1 : a = a'
  · by_cases h2 : b = b'
    · by_cases h3 : c = c'
      · subst h1 h2 h3
        simp
      · rw [decide_eq_false h3, Bool.and_false, Bool.and_false, decide_eq_false fun z => h3 (Ks.mk.inj z).2.2]
    · rw [beq_eq_false_iff_ne.mpr h2, Bool.false_and, Bool.and_false, decide_eq_false fun z => h2 (Ks.mk.inj z).2.1]
  · rw [decide_eq_false h1, Bool.false_and, decide_eq_false fun z => h1 (Ks.mk.inj z).1]
def Ks.any (m : Ks) : Bool := !m.ws.isEmpty || (m.but || !m.sz.isEmpty)
def spHas (K : PySem.W.Frag) (C : Addr) : Sp := fun vs H Q _ => ∃ a y m d, vs = [.ref a, y] ∧ KAt K C H a m ∧ Dp K H y d ∧ ∀ H', Same H H' → Q (.bl (hasD m d)) H'
def spEqK (K : PySem.W.Frag) (C : Addr) : Sp := fun vs H Q _ => ∃ a y m f g, vs = [.ref a, y] ∧ KAt K C H a m ∧ Rep m f g ∧
  ((∃ d, Dp K H y d ∧ ∀ H', Same H H' → Q (.bl false) H') ∨ ∃ b n f' g', y = .ref b ∧ KAt K C H b n ∧ Rep n f' g' ∧ ∀ H', Same H H' → Q (.bl (decide (m = n))) H')
def spBol (K : PySem.W.Frag) (C : Addr) : Sp := fun vs H Q _ => ∃ a m, vs = [.ref a] ∧ KAt K C H a m ∧ ∀ H', Same H H' → Q (.bl m.any) H'
def spWth (K : PySem.W.Frag) (C : Addr) : Sp := fun vs H Q _ => ∃ a b m n f g f' g', vs = [.ref a, .ref b] ∧ KAt K C H a m ∧ KAt K C H b n ∧ Rep m f g ∧ Rep n f' g' ∧
  ∀ r H', Same H H' → Rep r (fun w => f w && !f' w) (fun k => g k && !g' k) → Q (.bl (!r.any)) H'
section
variable {P : Program} {w : World} {K : PySem.W.Frag} {mg : Str → Option Value} {base : Heap} {f C fE fI tW fP fS fB fN : Addr} {fd dI dP dS dB dN : FuncData}
theorem ok_int {k : Nat} (F : Fun K "is_integer" "is_integer" sInt f fd) (B : Bi mg) : FnOk P w K mg base CX0 (k + 1) f fd ["thing"] (spLook K (fun _ => True) fun d => .bl (inI d)) := by
  refine F.ok scInt (fun vs H Q E h => ?_) (fun cdv A outer s H vs Q E hr h => ?_)
  · obtain ⟨v, d, rfl, _⟩ := h
    rfl
  obtain ⟨v, d, rfl, hd, _, q⟩ := h
  refine ⟨_, pss_one (ps_ret (pe_and (pe_callB call_isD (by rfl) B.ii b_ii (pa_cons (pv 0) (pa_cons (pe_bltn (by rfl) B.int b_int (v := .ty "int") rfl) pa_nil)))
    (pe_one (pe_not (pe_callB call_isD (by rfl) B.ii b_ii (pa_cons (pv 0) (pa_cons (pe_bltn (by rfl) B.bool b_bool (v := .ty "bool") rfl) pa_nil))))))), ?_⟩
  refine ⟨_, rfl, v, d, "int", _, rfl, hd, kit_int d, _, rfl, ?_⟩
  have q : Q (.bl (inI d)) H := q H (Same.refl H)
  cases hs : isIntB d with
  | false =>
    have e : inI d = false := by cases d <;> first | rfl | cases hs
    rw [e] at q
    exact iteF q
  | true =>
    refine iteT ⟨_, rfl, v, d, "bool", _, rfl, hd, kit_bool d, _, rfl, ?_⟩
    have e : inI d = !isBool d := by cases d <;> first | rfl | cases hs
    rw [e] at q
    exact q
theorem ok_has {k : Nat} (F : Fun K "__contains__" "Kinds.__contains__" sHas f fd) (B : Bi mg) (T : KC K mg C fE) (GN : Dn P w K mg base 1 "is_integer" ["thing"] (spLook K (fun _ => True) fun d => .bl (inI d)) fN dN) :
    FnOk P w K mg base CX0 (k + 2) f fd ["self", "kind"] (spHas K C) := by
  refine F.ok scHas (fun vs H Q E h => ?_) (fun cdv A outer s H vs Q E hr h => ?_)
  · obtain ⟨a, y, m, d, rfl, _⟩ := h
    rfl
  obtain ⟨a, y, m, d, rfl, ⟨dx, tw, ts, ia, hw, hs⟩, hd, q⟩ := h
  have hr1 : Room 1 _ := hr.mono (by omega)
  refine ⟨_, pss_cons (ps_if (pt_val (pe_callB call_isD (by rfl) B.ii b_ii (pa_cons (pv 1) (pa_cons (pe_bltn (by rfl) B.str b_str (v := .ty "str") rfl) pa_nil)))) (pss_one (ps_ret (pe_cmpR op_in_seq (pv 1) (pe_fld (pv 0) rfl) rfl))) pss_nil)
    (pss_cons (ps_if (PW.pt (pw_or (pt_not (pt_val (pe_call GN.ok hr1 (by rfl) GN.mg GN.kp GN.bd .nil pass0 (pa_cons (pv 1) pa_nil)))) (pw_or1 (pt_cmpR op_lt (pv 1) pe_int (nomark _))))) (pss_one (ps_ret pe_bl)) pss_nil)
    (pss_one (ps_ret (pe_cmpR op_ne (pe_cmpR op_in_seq (pv 1) (pe_fld (pv 0) rfl) rfl) (pe_fld (pv 0) rfl) (nomark _))))), ?_⟩
  refine ⟨_, rfl, y, d, "str", _, rfl, hd, kit_str d, _, rfl, ?_⟩
  cases hst : isStr d with
  | true =>
    obtain ⟨x, rfl⟩ : ∃ x, d = .str x := by cases d <;> first | exact ⟨_, rfl⟩ | cases hst
    cases hd
    refine iteT ⟨_, rfl, _, rfl, a, C, dx, _, _, rfl, ia, T.o.c.cl, T.nw, ksf_w _ _ _, tw, _, rfl, .inr hw, rfl, flat_strs _, ?_⟩
    show Q (.bl (inV (.str x) (m.ws.map V.str))) H
    rw [inV_str]
    exact q H (Same.refl H)
  | false =>
    refine iteF ⟨_, rfl, y, d, rfl, hd, True.intro, fun H1 s1 => ⟨_, rfl, ?_⟩⟩
    cases hi : inI d with
    | false =>
      refine iteT (iteT ?_)
      have e : hasD m d = false := by cases d <;> first | rfl | (cases hst; done) | (cases hi; done)
      rw [e] at q
      exact q H1 s1
    | true =>
      obtain ⟨x, rfl⟩ : ∃ x, d = .int x := by cases d <;> first | exact ⟨_, rfl⟩ | cases hi
      cases hd
      refine iteF ⟨_, rfl, _, _, rfl, rfl, _, rfl, ?_⟩
      by_cases c : x < 0
      · rw [decide_eq_true c]
        have e : hasD m (.int x) = false := by
          show (decide (0 ≤ x) && m.hasS x) = false
          rw [decide_eq_false (by omega), Bool.false_and]
        rw [e] at q
        exact iteT (q H1 s1)
      · rw [decide_eq_false c]
        have e : hasD m (.int x) = m.hasS x := by
          show (decide (0 ≤ x) && m.hasS x) = _
          rw [decide_eq_true (by omega), Bool.true_and]
        rw [e] at q
        refine iteF ⟨_, rfl, _, rfl, a, C, dx, _, _, rfl, s1 _ _ ia, T.o.c.cl, T.ns, ksf_s _ _ _, ts, _, rfl, .inr (seqT_up s1 hs), rfl, flat_ints _, _, rfl, a, C, dx, _, _, rfl, s1 _ _ ia, T.o.c.cl, T.nb, ksf_b _ _ _, rfl, ?_⟩
        show Q (.bl (!decide (V.bl (inV (.int x) (m.sz.map V.int)) = V.bl m.but))) H1
        rw [inV_int]
        have e2 : (!decide (V.bl (decide (x ∈ m.sz)) = V.bl m.but)) = m.hasS x := by
          unfold Ks.hasS
          cases decide (x ∈ m.sz) <;> cases m.but <;> rfl
        rw [e2]
        exact q H1 s1
theorem ok_eqK {k : Nat} (F : Fun K "__eq__" "Kinds.__eq__" sEqK f fd) (B : Bi mg) (T : KC K mg C fE) (GP : Dn P w K mg base 1 "parts_of" ["kinds"] (spPts K C) fP dP) : FnOk P w K mg base CX0 (k + 2) f fd ["self", "other"] (spEqK K C) := by
  refine F.ok scEqK (fun vs H Q E h => ?_) (fun cdv A outer s H vs Q E hr h => ?_)
  · obtain ⟨a, y, m, f, g, rfl, _⟩ := h
    rfl
  obtain ⟨a, y, m, f, g, rfl, ha, rm, q⟩ := h
  have hr1 : Room 1 _ := hr.mono (by omega)
  refine ⟨_, pss_one (ps_ret (pe_and (pe_callB call_isi (by rfl) B.ii b_ii (pa_cons (pv 1) (pa_cons (pe_glob (by rfl) T.mg (v := .ref C) rfl) pa_nil)))
    (pe_one (pe_cmpR (op_eqD hr.units) (pe_call GP.ok hr1 (by rfl) GP.mg GP.kp GP.bd .nil pass0 (pa_cons (pv 0) pa_nil)) (pe_call GP.ok hr1 (by rfl) GP.mg GP.kp GP.bd .nil pass0 (pa_cons (pv 1) pa_nil)) (nomark _))))), ?_⟩
  rcases q with ⟨d, hd, q⟩ | ⟨b, n, f', g', rfl, hb, rn, q⟩
  · refine ⟨_, rfl, y, .ref C, _, _, false, rfl, .own C, tyD hd, (T.o.of hd).1, _, rfl, iteF (q H (Same.refl H))⟩
  · obtain ⟨dy, tw', ts', ib, hwb, hsb⟩ := id hb
    refine ⟨_, rfl, .ref b, .ref C, _, _, true, rfl, .own C, .base (.ins ib T.o.c.cl T.o.c.ha T.o.c.hn T.o.c.htk T.o.c.hm), T.o.c.me, _, rfl, iteT ?_⟩
    refine ⟨_, rfl, a, m, rfl, ha, fun t tw ts H1 s1 h1 h2 h3 => ⟨_, rfl, b, n, rfl, hb.up s1, fun t2 tw2 ts2 H2 s2 k1 k2 k3 => ?_⟩⟩
    refine ⟨ptsD m, ptsD n, Dp.up s2 _ _ (pts_dp h1 h2 h3), pts_dp k1 k2 k3, pts_sh rm, pts_sh rn, ?_⟩
    rw [pts_eqv]
    exact q H2 (s1.trans s2)
theorem ok_bol {k : Nat} (F : Fun K "__bool__" "Kinds.__bool__" sBol f fd) (B : Bi mg) (T : KC K mg C fE) : FnOk P w K mg base CX0 (k + 1) f fd ["self"] (spBol K C) := by
  refine F.ok scBol (fun vs H Q E h => ?_) (fun cdv A outer s H vs Q E hr h => ?_)
  · obtain ⟨a, m, rfl, _⟩ := h
    rfl
  obtain ⟨a, m, rfl, ⟨dx, tw, ts, ia, hw, hs⟩, q⟩ := h
  refine ⟨_, pss_one (ps_ret (pe_or (pe_callTy call_boolTu (by rfl) B.bool b_bool (pa_cons (pe_fld (pv 0) rfl) pa_nil)) (pe_or (pe_callTy call_bool1 (by rfl) B.bool b_bool (pa_cons (pe_fld (pv 0) rfl) pa_nil))
    (pe_one (pe_callTy call_boolTu (by rfl) B.bool b_bool (pa_cons (pe_fld (pv 0) rfl) pa_nil)))))), ?_⟩
  have q : Q (.bl m.any) H := q H (Same.refl H)
  unfold Ks.any at q
  refine ⟨_, rfl, a, C, dx, _, _, rfl, ia, T.o.c.cl, T.nw, ksf_w _ _ _, tw, _, rfl, hw, _, rfl, ?_⟩
  rw [List.isEmpty_map]
  cases he : m.ws.isEmpty with
  | false =>
    rw [he] at q
    exact iteT q
  | true =>
    rw [he] at q
    refine iteF ⟨_, rfl, a, C, dx, _, _, rfl, ia, T.o.c.cl, T.nb, ksf_b _ _ _, .inr ⟨_, rfl, _, rfl, ?_⟩⟩
    refine ite2 (fun c => ?_) (fun c => ?_)
    · rw [c] at q
      exact q
    · rw [Bool.eq_false_iff.mpr c] at q
      refine ⟨_, rfl, a, C, dx, _, _, rfl, ia, T.o.c.cl, T.ns, ksf_s _ _ _, ts, _, rfl, hs, ?_⟩
      rw [List.isEmpty_map]
      exact q
end
theorem rep_all : Rep ⟨kW, true, []⟩ (fun _ => true) (fun _ => true) := ⟨rfl, .nil, fun k h => absurd h List.not_mem_nil, fun k => by simp [Ks.hasS]⟩
theorem rep_tup : Rep ⟨[], true, []⟩ (fun _ => false) (fun _ => true) := ⟨rfl, .nil, fun k h => absurd h List.not_mem_nil, fun k => by simp [Ks.hasS]⟩
theorem rep_size {k : Int} (h0 : 0 ≤ k) (h : k ≤ 20) : Rep ⟨[], false, [k]⟩ (fun _ => false) (fun j => decide (j = k)) := ⟨rfl, List.pairwise_singleton _ _, fun j hj => by
  rw [List.mem_singleton.mp hj]
  exact ⟨h0, h⟩, fun j => by simp [Ks.hasS]⟩
theorem rep_word {x : Str} (h : x ∈ kW) : Rep ⟨[x], false, []⟩ (fun w => decide (w = x)) (fun _ => false) := by
  refine ⟨?_, .nil, fun k h => absurd h List.not_mem_nil, fun k => by simp [Ks.hasS]⟩
  simp only [List.mem_cons, List.not_mem_nil, or_false] at h
  rcases h with h | h | h <;> subst h <;> decide +kernel
def spEvr (K : PySem.W.Frag) (C : Addr) : Sp := fun vs H Q _ => vs = [.ref C] ∧ ∀ c r H', Same H H' → KAt K C H' c r → Rep r (fun _ => true) (fun _ => true) → Q (.ref c) H'
def spOf (K : PySem.W.Frag) (C : Addr) : Sp := fun vs H Q _ => ∃ x, vs = [.ref C, .str x] ∧ ((x = "tuple" ∧ ∀ c r H', Same H H' → KAt K C H' c r → Rep r (fun _ => false) (fun _ => true) → Q (.ref c) H') ∨
  (x ∈ kW ∧ ∀ c r H', Same H H' → KAt K C H' c r → Rep r (fun w => decide (w = x)) (fun _ => false) → Q (.ref c) H'))
def spSzd (K : PySem.W.Frag) (C : Addr) : Sp := fun vs H Q _ => ∃ k, vs = [.ref C, .int k] ∧ 0 ≤ k ∧ k ≤ 20 ∧ ∀ c r H', Same H H' → KAt K C H' c r → Rep r (fun _ => false) (fun j => decide (j = k)) → Q (.ref c) H'
section
variable {P : Program} {w : World} {K : PySem.W.Frag} {mg : Str → Option Value} {base : Heap} {f C fE fI tW : Addr} {fd dI : FuncData}
theorem ok_evr {k : Nat} (F : Fun K "everything" "Kinds.everything" sEvr f fd) (T : KC K mg C fE) (M : MkK P w K mg base C fI dI) (mW : mg "WORDS" = some (.ref tW)) (hW : ∀ H, SqT K H tW (kW.map V.str)) : FnOk P w K mg base CX0 (k + 3) f fd ["cls"] (spEvr K C) := by
  refine F.ok scEvr (fun vs H Q E h => ?_) (fun cdv A outer s H vs Q E hr h => ?_)
  · rw [h.1]
    rfl
  obtain ⟨rfl, q⟩ := h
  have hr2 : Room (1 + 1) _ := hr.mono (by omega)
  refine ⟨_, pss_one (ps_ret (pe_make M.mkr M.ok hr2 (by rfl) T.mg M.bd .nil pass0 (pa_cons (pe_glob (by rfl) mW (v := .ref tW) rfl) (pa_cons pe_bl (pa_cons (pe_tup pa_nil) pa_nil))))), ?_⟩
  refine ⟨by decide, fun t ht => fun x d0 hx hdx ne => ⟨x, d0, .ref tW, .ref t, true, rfl, upd_same, fun H7 e1 e2 => ⟨rfl, ?_⟩⟩⟩
  obtain ⟨s5, kt⟩ := kat_made (m := ⟨kW, true, []⟩) hx hdx e1 e2 (hW _) (.inl (.inl upd_same))
  exact q x _ _ ((same_new ht _).trans s5) kt rep_all
theorem ok_of {k : Nat} (F : Fun K "of" "Kinds.of" sOf f fd) (T : KC K mg C fE) (M : MkK P w K mg base C fI dI) : FnOk P w K mg base CX0 (k + 3) f fd ["cls", "word"] (spOf K C) := by
  refine F.ok scOf (fun vs H Q E h => ?_) (fun cdv A outer s H vs Q E hr h => ?_)
  · obtain ⟨x, rfl, _⟩ := h
    rfl
  obtain ⟨x, rfl, q⟩ := h
  have hr2 : Room (1 + 1) _ := hr.mono (by omega)
  refine ⟨_, pss_cons (ps_if (pt_cmpR op_eq (pv 1) pe_str (nomark _)) (pss_one (ps_ret (pe_make M.mkr M.ok hr2 (by rfl) T.mg M.bd .nil pass0 (pa_cons (pe_tup pa_nil) (pa_cons pe_bl (pa_cons (pe_tup pa_nil) pa_nil)))))) pss_nil)
    (pss_one (ps_ret (pe_make M.mkr M.ok hr2 (by rfl) T.mg M.bd .nil pass0 (pa_cons (pe_tup (pa_cons (pv 1) pa_nil)) (pa_cons pe_bl (pa_cons (pe_tup pa_nil) pa_nil)))))), ?_⟩
  have dst : ∀ y : Str, decide (V.str x = V.str y) = decide (x = y) := fun y => by
    by_cases h : x = y
    · rw [decide_eq_true h, decide_eq_true (congrArg V.str h)]
    · rw [decide_eq_false h, decide_eq_false fun z => h (V.str.inj z)]
  refine ⟨_, rfl, rfl, _, rfl, ?_⟩
  rw [dst]
  rcases q with ⟨rfl, q⟩ | ⟨hx, q⟩
  · rw [decide_eq_true rfl]
    refine iteT ⟨by decide, fun t ht => ⟨by decide, fun t2 ht2 => fun x d0 hx hdx ne => ⟨x, d0, .ref t, .ref t2, true, rfl, upd_same, fun H7 e1 e2 => ⟨rfl, ?_⟩⟩⟩⟩
    have s2 := same_new (o := .tup []) ht2
    obtain ⟨s5, kt⟩ := kat_made (m := ⟨[], true, []⟩) hx hdx e1 e2 (.inl (.inl (s2 _ _ upd_same))) (.inl (.inl upd_same))
    exact q x _ _ ((same_new ht _).trans (s2.trans s5)) kt rep_tup
  · have nx : ¬ x = "tuple" := fun z => by
      rw [z] at hx
      revert hx
      decide +kernel
    rw [decide_eq_false nx]
    refine iteF ⟨_, rfl, few (by simp), fun t ht => ⟨by decide, fun t2 ht2 => fun y d0 hy hdx ne => ⟨y, d0, .ref t, .ref t2, false, rfl, upd_same, fun H7 e1 e2 => ⟨rfl, ?_⟩⟩⟩⟩
    have s2 := same_new (o := .tup []) ht2
    obtain ⟨s5, kt⟩ := kat_made (m := ⟨[x], false, []⟩) hy hdx e1 e2 (.inl (.inl (s2 _ _ upd_same))) (.inl (.inl upd_same))
    exact q y _ _ ((same_new ht _).trans (s2.trans s5)) kt (rep_word hx)
theorem ok_szd {k : Nat} (F : Fun K "sized" "Kinds.sized" sSzd f fd) (T : KC K mg C fE) (M : MkK P w K mg base C fI dI) : FnOk P w K mg base CX0 (k + 3) f fd ["cls", "k"] (spSzd K C) := by
  refine F.ok scSzd (fun vs H Q E h => ?_) (fun cdv A outer s H vs Q E hr h => ?_)
  · obtain ⟨x, rfl, _⟩ := h
    rfl
  obtain ⟨x, rfl, h0, h20, q⟩ := h
  have hr2 : Room (1 + 1) _ := hr.mono (by omega)
  refine ⟨_, pss_one (ps_ret (pe_make M.mkr M.ok hr2 (by rfl) T.mg M.bd .nil pass0 (pa_cons (pe_tup pa_nil) (pa_cons pe_bl (pa_cons (pe_tup (pa_cons (pv 1) pa_nil)) pa_nil))))), ?_⟩
  refine ⟨by decide, fun t ht => ⟨_, rfl, few (by simp), fun t2 ht2 => fun y d0 hy hdx ne => ⟨y, d0, .ref t, .ref t2, false, rfl, upd_same, fun H7 e1 e2 => ⟨rfl, ?_⟩⟩⟩⟩
  have s2 := same_new (o := .tup [.int x]) ht2
  obtain ⟨s5, kt⟩ := kat_made (m := ⟨[], false, [x]⟩) hy hdx e1 e2 (.inl (.inl (s2 _ _ upd_same))) (.inl (.inl upd_same))
  exact q y _ _ ((same_new ht _).trans (s2.trans s5)) kt (rep_size h0 h20)
end
abbrev sAll : Stmt := topS 13
abbrev sVal : Stmt := topS 14
abbrev sOne : Stmt := topS 15
abbrev sMeet : Stmt := topS 16
abbrev sLess : Stmt := topS 17
abbrev sEmp : Stmt := topS 18
abbrev sKin : Stmt := topS 19
abbrev sMade : Stmt := topS 20
theorem scAll : FnScope [] [] (defScope sAll) := ⟨rfl, rfl, rfl, by decide +kernel, rfl, by decide +kernel, by decide +kernel⟩
theorem scVal : FnScope [] [] (defScope sVal) := ⟨rfl, rfl, rfl, by decide +kernel, rfl, by decide +kernel, by decide +kernel⟩
theorem scOne : FnScope ["_law_kind"] ["_law_kind"] (defScope sOne) := ⟨rfl, rfl, rfl, by decide +kernel, rfl, by decide +kernel, by decide +kernel⟩
theorem scMeet : FnScope ["_law_one", "_law_other", "_law_words", "_law_word", "_law_k"] ["_law_one", "_law_other"] (defScope sMeet) := ⟨rfl, rfl, rfl, by decide +kernel, rfl, by decide +kernel, by decide +kernel⟩
theorem scLess : FnScope ["_law_one", "_law_other", "_law_words", "_law_word"] ["_law_one", "_law_other"] (defScope sLess) := ⟨rfl, rfl, rfl, by decide +kernel, rfl, by decide +kernel, by decide +kernel⟩
theorem scEmp : FnScope ["_law_one"] ["_law_one"] (defScope sEmp) := ⟨rfl, rfl, rfl, by decide +kernel, rfl, by decide +kernel, by decide +kernel⟩
theorem scKin : FnScope ["_law_one", "_law_kind"] ["_law_one", "_law_kind"] (defScope sKin) := ⟨rfl, rfl, rfl, by decide +kernel, rfl, by decide +kernel, by decide +kernel⟩
theorem scMade : FnScope ["_law_one", "_law_found", "_law_word", "_law_k"] ["_law_one"] (defScope sMade) := ⟨rfl, rfl, rfl, by decide +kernel, rfl, by decide +kernel, by decide +kernel⟩
/-- the model of m stands at t: words, sizes, whether these are left out -/
def MAt (K : PySem.W.Frag) (H : Hp) (t : Addr) (m : Ks) : Prop := ∃ tw ts, SqT K H t [.ref tw, .ref ts, .bl m.but] ∧ SqT K H tw (m.ws.map V.str) ∧ SqT K H ts (m.sz.map V.int)
theorem MAt.up {K : PySem.W.Frag} {H H' : Hp} {t : Addr} {m : Ks} (s : Same H H') (h : MAt K H t m) : MAt K H' t m := by
  obtain ⟨tw, ts, h1, h2, h3⟩ := h
  exact ⟨tw, ts, seqT_up s h1, seqT_up s h2, seqT_up s h3⟩
theorem MAt.of {K : PySem.W.Frag} {H : Hp} {t tw ts : Addr} {m : Ks} (h : H t = some (.tup [.ref tw, .ref ts, .bl m.but])) (h1 : SqT K H tw (m.ws.map V.str)) (h2 : SqT K H ts (m.sz.map V.int)) : MAt K H t m := ⟨tw, ts, .inl (.inl h), h1, h2⟩
def spCon (K : PySem.W.Frag) (m : Ks) : Sp := fun vs H Q _ => vs = [] ∧ ∀ t H', Same H H' → MAt K H' t m → Q (.ref t) H'
def mAll : Ks := ⟨kW, true, []⟩
def mVal : Ks := ⟨["integer", "atom"], true, []⟩
theorem rep_val : Rep mVal (fun w => decide (w = "integer") || decide (w = "atom")) (fun _ => true) := ⟨by decide +kernel, .nil, fun k h => absurd h List.not_mem_nil, fun k => by simp [Ks.hasS, mVal]⟩
def spOne (K : PySem.W.Frag) : Sp := fun vs H Q _ => ∃ y, vs = [y] ∧ ((∃ k, y = .int k ∧ ∀ t H', Same H H' → MAt K H' t ⟨[], false, [k]⟩ → Q (.ref t) H') ∨ (y = .str "tuple" ∧ ∀ t H', Same H H' → MAt K H' t ⟨[], true, []⟩ → Q (.ref t) H') ∨
  ∃ x, y = .str x ∧ x ∈ kW ∧ ∀ t H', Same H H' → MAt K H' t ⟨[x], false, []⟩ → Q (.ref t) H')
def spMeet (K : PySem.W.Frag) (op : Bool → Bool → Bool) : Sp := fun vs H Q _ => ∃ a b m n f g f' g', vs = [.ref a, .ref b] ∧ MAt K H a m ∧ MAt K H b n ∧ Rep m f g ∧ Rep n f' g' ∧
  ∀ t r H', Same H H' → MAt K H' t r → Rep r (fun w => op (f w) (f' w)) (fun k => op (g k) (g' k)) → Q (.ref t) H'
def spEmp (K : PySem.W.Frag) : Sp := fun vs H Q _ => ∃ a m f g, vs = [.ref a] ∧ MAt K H a m ∧ Rep m f g ∧ ∀ H', Same H H' → Q (.bl (!m.any)) H'
def spKin (K : PySem.W.Frag) : Sp := fun vs H Q _ => ∃ a m y, vs = [.ref a, y] ∧ MAt K H a m ∧ ((∃ x, y = .str x ∧ ∀ H', Same H H' → Q (.bl (decide (x ∈ m.ws))) H') ∨ ∃ k, y = .int k ∧ ∀ H', Same H H' → Q (.bl (m.hasS k)) H')
section
variable {P : Program} {w : World} {K : PySem.W.Frag} {mg : Str → Option Value} {base : Heap} {f fM : Addr} {fd dM : FuncData}
theorem ok_all {k : Nat} (F : Fun K "_law_all_kinds" "_law_all_kinds" sAll f fd) : FnOk P w K mg base CX0 (k + 1) f fd [] (spCon K mAll) := by
  refine F.ok scAll (fun vs H Q E h => ?_) (fun cdv A outer s H vs Q E hr h => ?_)
  · rw [h.1]
    rfl
  obtain ⟨rfl, q⟩ := h
  refine ⟨_, pss_one (ps_ret (pe_tup (pa_cons (pe_tup (pa_cons pe_str (pa_cons pe_str (pa_cons pe_str pa_nil)))) (pa_cons (pe_tup pa_nil) (pa_cons pe_bl pa_nil))))), ?_⟩
  refine ⟨few (by simp), fun t1 h1 => ⟨by decide, fun t2 h2 => ⟨few (by simp), fun t3 h3 => ?_⟩⟩⟩
  have s2 := same_new (o := .tup []) h2
  have s3 := same_new (o := .tup [.ref t1, .ref t2, .bl true]) h3
  exact q t3 _ ((same_new h1 _).trans (s2.trans s3)) (MAt.of upd_same (.inl (.inl ((s2.trans s3) _ _ upd_same))) (.inl (.inl (s3 _ _ upd_same))))
theorem ok_val {k : Nat} (F : Fun K "_law_value_kinds" "_law_value_kinds" sVal f fd) : FnOk P w K mg base CX0 (k + 1) f fd [] (spCon K mVal) := by
  refine F.ok scVal (fun vs H Q E h => ?_) (fun cdv A outer s H vs Q E hr h => ?_)
  · rw [h.1]
    rfl
  obtain ⟨rfl, q⟩ := h
  refine ⟨_, pss_one (ps_ret (pe_tup (pa_cons (pe_tup (pa_cons pe_str (pa_cons pe_str pa_nil))) (pa_cons (pe_tup pa_nil) (pa_cons pe_bl pa_nil))))), ?_⟩
  refine ⟨few (by simp), fun t1 h1 => ⟨by decide, fun t2 h2 => ⟨few (by simp), fun t3 h3 => ?_⟩⟩⟩
  have s2 := same_new (o := .tup []) h2
  have s3 := same_new (o := .tup [.ref t1, .ref t2, .bl true]) h3
  exact q t3 _ ((same_new h1 _).trans (s2.trans s3)) (MAt.of upd_same (.inl (.inl ((s2.trans s3) _ _ upd_same))) (.inl (.inl (s3 _ _ upd_same))))
theorem ok_one {k : Nat} (F : Fun K "_law_one_kind" "_law_one_kind" sOne f fd) (B : Bi mg) : FnOk P w K mg base CX0 (k + 1) f fd ["_law_kind"] (spOne K) := by
  refine F.ok scOne (fun vs H Q E h => ?_) (fun cdv A outer s H vs Q E hr h => ?_)
  · obtain ⟨y, rfl, _⟩ := h
    rfl
  obtain ⟨y, rfl, q⟩ := h
  refine ⟨_, pss_cons (ps_if (pt_val (pe_callB call_isD (by rfl) B.ii b_ii (pa_cons (pv 0) (pa_cons (pe_bltn (by rfl) B.int b_int (v := .ty "int") rfl) pa_nil)))) (pss_one (ps_ret (pe_tup (pa_cons (pe_tup pa_nil) (pa_cons (pe_tup (pa_cons (pv 0) pa_nil)) (pa_cons pe_bl pa_nil)))))) pss_nil)
    (pss_one (ps_ret (pe_ifExp (pt_cmpR op_eq (pv 0) pe_str (nomark _)) (pe_tup (pa_cons (pe_tup pa_nil) (pa_cons (pe_tup pa_nil) (pa_cons pe_bl pa_nil)))) (pe_tup (pa_cons (pe_tup (pa_cons (pv 0) pa_nil)) (pa_cons (pe_tup pa_nil) (pa_cons pe_bl pa_nil))))))), ?_⟩
  have dst : ∀ x y : Str, decide (V.str x = V.str y) = decide (x = y) := fun x y => by
    by_cases h : x = y
    · rw [decide_eq_true h, decide_eq_true (congrArg V.str h)]
    · rw [decide_eq_false h, decide_eq_false fun z => h (V.str.inj z)]
  rcases q with ⟨k, rfl, q⟩ | ⟨rfl, q⟩ | ⟨x, rfl, hx, q⟩
  · refine ⟨_, rfl, _, .int k, "int", _, rfl, .int k, kit_int _, _, rfl, iteT ?_⟩
    refine ⟨by decide, fun t1 h1 => ⟨_, rfl, few (by simp), fun t2 h2 => ⟨few (by simp), fun t3 h3 => ?_⟩⟩⟩
    have s2 := same_new (o := .tup [.int k]) h2
    have s3 := same_new (o := .tup [.ref t1, .ref t2, .bl false]) h3
    exact q t3 _ ((same_new h1 _).trans (s2.trans s3)) (MAt.of upd_same (.inl (.inl ((s2.trans s3) _ _ upd_same))) (.inl (.inl (s3 _ _ upd_same))))
  · refine ⟨_, rfl, _, .str "tuple", "int", _, rfl, .str _, kit_int _, _, rfl, iteF ⟨_, rfl, rfl, _, rfl, ?_⟩⟩
    rw [decide_eq_true rfl]
    refine iteT ⟨by decide, fun t1 h1 => ⟨by decide, fun t2 h2 => ⟨few (by simp), fun t3 h3 => ?_⟩⟩⟩
    have s2 := same_new (o := .tup []) h2
    have s3 := same_new (o := .tup [.ref t1, .ref t2, .bl true]) h3
    exact q t3 _ ((same_new h1 _).trans (s2.trans s3)) (MAt.of upd_same (.inl (.inl ((s2.trans s3) _ _ upd_same))) (.inl (.inl (s3 _ _ upd_same))))
  · have nx : ¬ x = "tuple" := fun z => by
      rw [z] at hx
      revert hx
      decide +kernel
    refine ⟨_, rfl, _, .str x, "int", _, rfl, .str _, kit_int _, _, rfl, iteF ⟨_, rfl, rfl, _, rfl, ?_⟩⟩
    rw [dst, decide_eq_false nx]
    refine iteF ⟨_, rfl, few (by simp), fun t1 h1 => ⟨by decide, fun t2 h2 => ⟨few (by simp), fun t3 h3 => ?_⟩⟩⟩
    have s2 := same_new (o := .tup []) h2
    have s3 := same_new (o := .tup [.ref t1, .ref t2, .bl false]) h3
    exact q t3 _ ((same_new h1 _).trans (s2.trans s3)) (MAt.of upd_same (.inl (.inl ((s2.trans s3) _ _ upd_same))) (.inl (.inl (s3 _ _ upd_same))))
theorem ok_kin {k : Nat} (F : Fun K "_law_kind_in" "_law_kind_in" sKin f fd) (B : Bi mg) : FnOk P w K mg base CX0 (k + 1) f fd ["_law_one", "_law_kind"] (spKin K) := by
  refine F.ok scKin (fun vs H Q E h => ?_) (fun cdv A outer s H vs Q E hr h => ?_)
  · obtain ⟨a, m, y, rfl, _⟩ := h
    rfl
  obtain ⟨a, m, y, rfl, ⟨tw, ts, h1, h2, h3⟩, q⟩ := h
  refine ⟨_, pss_cons (ps_if (pt_val (pe_callB call_isD (by rfl) B.ii b_ii (pa_cons (pv 1) (pa_cons (pe_bltn (by rfl) B.str b_str (v := .ty "str") rfl) pa_nil)))) (pss_one (ps_ret (pe_cmpR op_in_seq (pv 1) (pe_ix ix_tup (pv 0) pe_int (fun _ _ => rfl)) rfl))) pss_nil)
    (pss_one (ps_ret (pe_cmpR op_ne (pe_cmpR op_in_seq (pv 1) (pe_ix ix_tup (pv 0) pe_int (fun _ _ => rfl)) rfl) (pe_ix ix_tup (pv 0) pe_int (fun _ _ => rfl)) (nomark _)))), ?_⟩
  rcases q with ⟨x, rfl, q⟩ | ⟨k, rfl, q⟩
  · refine ⟨_, rfl, _, .str x, "str", _, rfl, .str _, kit_str _, _, rfl, iteT ⟨_, rfl, _, rfl, a, _, 0, _, rfl, rfl, h1, rfl, tw, _, rfl, .inr h2, rfl, flat_strs _, ?_⟩⟩
    show Q (.bl (inV (.str x) (m.ws.map V.str))) H
    rw [inV_str]
    exact q H (Same.refl H)
  · refine ⟨_, rfl, _, .int k, "str", _, rfl, .int _, kit_str _, _, rfl, iteF ⟨_, rfl, _, rfl, a, _, 1, _, rfl, rfl, h1, rfl, ts, _, rfl, .inr h3, rfl, flat_ints _, _, rfl, a, _, 2, _, rfl, rfl, h1, rfl, rfl, ?_⟩⟩
    show Q (.bl (!decide (V.bl (inV (.int k) (m.sz.map V.int)) = V.bl m.but))) H
    rw [inV_int]
    have e2 : (!decide (V.bl (decide (k ∈ m.sz)) = V.bl m.but)) = m.hasS k := by
      unfold Ks.hasS
      cases decide (k ∈ m.sz) <;> cases m.but <;> rfl
    rw [e2]
    exact q H (Same.refl H)
end
theorem ix_tupK {X : Cx} {K : PySem.W.Frag} (h : X.K = K) : IxR X (rIxT K) := by
  subst h
  exact ix_tup
theorem Rep.congrW {m : Ks} {f f2 : Str → Bool} {g g2 : Int → Bool} (r : Rep m f g) (hf : ∀ w ∈ kW, f w = f2 w) (hg : ∀ k, g k = g2 k) : Rep m f2 g2 :=
  ⟨r.w.trans (List.filter_congr hf), r.srt, r.bd, fun k => (r.s k).trans (hg k)⟩
section
variable {P : Program} {w : World} {K : PySem.W.Frag} {mg : Str → Option Value} {base : Heap} {f fM C fE : Addr} {fd dM : FuncData}
theorem tup_nil {xs : List Str} : PyData.eqv (.tuple (xs.map .str)) (.tuple []) = xs.isEmpty := by
  have h := eqv_strs xs []
  rw [List.map_nil] at h
  simp only [PyData.eqv, h]
  cases xs <;> rfl
theorem tup_nilI {xs : List Int} : PyData.eqv (.tuple (xs.map .int)) (.tuple []) = xs.isEmpty := by
  have h := eqv_ints xs []
  rw [List.map_nil] at h
  simp only [PyData.eqv, h]
  cases xs <;> rfl
theorem ok_meet {k : Nat} (F : Fun K "_law_meet" "_law_meet" sMeet f fd) (B : Bi mg) (hso : mg "sorted" = none) (hse : mg "set" = none) : FnOk P w K mg base CX0 (k + 1) f fd ["_law_one", "_law_other"] (spMeet K and) := by
  refine F.ok scMeet (fun vs H Q E h => ?_) (fun cdv A outer s H vs Q E hr h => ?_)
  · obtain ⟨a, b, m, n, f, g, f', g', rfl, _⟩ := h
    rfl
  obtain ⟨a, b, m, n, f, g, f', g', rfl, ⟨tw, ts, ha, hwa, hsa⟩, ⟨tw', ts', hb, hwb, hsb⟩, rm, rn, q⟩ := h
  refine ⟨_, pss_cons (ps_set (i := 2) scMeet.nd rfl (.inl rfl) (pe_callTy call_tuple_of (by rfl) B.tup b_tup (pa_cons (pe_lc (own := [("_law_word", 3)]) (g := gName 3) (by rfl) scMeet.nd (pi_tup (pe_ix ix_tup (pv 0) pe_int (fun _ _ => rfl)))
      (blkOk_by (own := [("_law_word", 3)]) (N := ["_law_one", "_law_other", "_law_words", "_law_word", "_law_k"]) (sc := defScope sMeet) (by decide +kernel))
      (fun _ _ _ _ _ => pg_name (i := 3) scMeet.nd rfl (Or.inl rfl)) (fun _ _ _ _ _ => pts_one (pt_cmpR (op_inK (K := K) rfl) (pv 3) (pe_ix (ix_tupK (K := K) rfl) (pv 1) pe_int (fun _ _ => rfl)) rfl)) (fun _ _ _ _ _ => pv 3)) pa_nil)))
    (pss_cons (ps_if (PW.pt (pw_and (pt_val (pe_ix ix_tup (pv 0) pe_int (fun _ _ => rfl))) (pw_and1 (pt_val (pe_ix ix_tup (pv 1) pe_int (fun _ _ => rfl))))))
      (pss_one (ps_ret (pe_tup (pa_cons (pv 2) (pa_cons (pe_callTy call_tuple_of (by rfl) B.tup b_tup (pa_cons (pe_callB (cr_sortedSet rfl) (by rfl) hso (by decide +kernel)
        (pa_cons (pe_callTy (cr_setI rfl) (by rfl) hse PyProof.Rows.boot_set (pa_cons (pe_op op_catU (pe_ix ix_tup (pv 0) pe_int (fun _ _ => rfl)) (pe_ix ix_tup (pv 1) pe_int (fun _ _ => rfl))) pa_nil)) pa_nil)) pa_nil)) (pa_cons pe_bl pa_nil)))))) pss_nil)
    (pss_cons (ps_if (pt_val (pe_ix ix_tup (pv 0) pe_int (fun _ _ => rfl))) (pss_one (ps_ret (pe_tup (pa_cons (pv 2) (pa_cons (pe_callTy call_tuple_of (by rfl) B.tup b_tup (pa_cons (pe_lc (own := [("_law_k", 4)]) (g := gName 4) (by rfl) scMeet.nd (pi_tup (pe_ix ix_tup (pv 1) pe_int (fun _ _ => rfl)))
      (blkOk_by (own := [("_law_k", 4)]) (N := ["_law_one", "_law_other", "_law_words", "_law_word", "_law_k"]) (sc := defScope sMeet) (by decide +kernel))
      (fun _ _ _ _ _ => pg_name (i := 4) scMeet.nd rfl (Or.inl rfl)) (fun _ _ _ _ _ => pts_one (pt_cmpR (op_notInK (K := K) rfl) (pv 4) (pe_ix (ix_tupK (K := K) rfl) (pv 0) pe_int (fun _ _ => rfl)) rfl)) (fun _ _ _ _ _ => pv 4)) pa_nil)) (pa_cons pe_bl pa_nil)))))) pss_nil)
    (pss_one (ps_ret (pe_tup (pa_cons (pv 2) (pa_cons (pe_callTy call_tuple_of (by rfl) B.tup b_tup (pa_cons (pe_lc (own := [("_law_k", 4)]) (g := gName 4) (by rfl) scMeet.nd (pi_tup (pe_ix ix_tup (pv 0) pe_int (fun _ _ => rfl)))
      (blkOk_by (own := [("_law_k", 4)]) (N := ["_law_one", "_law_other", "_law_words", "_law_word", "_law_k"]) (sc := defScope sMeet) (by decide +kernel))
      (fun _ _ _ _ _ => pg_name (i := 4) scMeet.nd rfl (Or.inl rfl)) (fun _ _ _ _ _ => pts_one (pt_cmpR op_ne (pe_cmpR (op_inK (K := K) rfl) (pv 4) (pe_ix (ix_tupK (K := K) rfl) (pv 1) pe_int (fun _ _ => rfl)) rfl) (pe_ix (ix_tupK (K := K) rfl) (pv 1) pe_int (fun _ _ => rfl)) (nomark _))) (fun _ _ _ _ _ => pv 4)) pa_nil)) (pa_cons pe_bl pa_nil)))))))), ?_⟩
  refine ⟨_, rfl, a, _, 0, _, rfl, rfl, ha, rfl, tw, rfl, ⟨_, hwa⟩, fun D hD => along (walk_tup (K := K) (a := tw) (xs := m.ws.map V.str)) (fun i H2 => H2 D = some (.lst (((m.ws.take i).filter fun k => decide (k ∈ n.ws)).map V.str)) ∧ Same H H2) ⟨upd_same, same_new hD _⟩ (fun i H2 _ ⟨_, h⟩ => seqT_up h hwa) ?_ ?_⟩
  · rintro i y H2 H3 hi ⟨h1, h2⟩ ⟨rfl, hy⟩
    obtain ⟨x, hx, rfl⟩ := map_get hy
    refine ⟨rfl, _, rfl, _, rfl, b, _, 0, _, rfl, rfl, seqT_up h2 hb, rfl, tw', _, rfl, .inr (seqT_up h2 hwb), rfl, flat_strs n.ws, _, rfl, ?_⟩
    show if inV (.str x) (n.ws.map V.str) = true then _ else _
    rw [inV_str]
    have tf := take_filter (p := fun k => decide (k ∈ n.ws)) hx
    have lw : m.ws.length ≤ 3 := by rw [rm.w]; exact List.length_filter_le _ kW
    refine ite2 (fun c => ?_) (fun c => ?_)
    · refine ⟨_, rfl, _, h1, ?_, ?_, fun b o z => ?_⟩
      · rw [List.length_map]
        have := List.length_filter_le (fun k => decide (k ∈ n.ws)) (m.ws.take i)
        rw [List.length_take] at this
        exact small1000 (by omega)
      · rw [upd_same, tf, if_pos c, List.map_append]
        rfl
      · rw [upd_ne (ne_of_none z hD)]
        exact h2 b o z
    · refine ⟨?_, h2⟩
      rw [tf, if_neg c, List.append_nil]
      exact h1
  rintro H2 ⟨h1, h2⟩
  rw [List.length_map, List.take_of_length_le (Nat.le_refl _), rm.w, rn.w, ws_and] at h1
  refine ⟨D, _, rfl, .inl ⟨SqL.of h1, fun t ht => ?_⟩⟩
  have s3 := h2.trans (same_new (o := .tup ((kW.filter fun w => f w && f' w).map V.str)) ht)
  have htw : SqT K (upd H2 t (.tup ((kW.filter fun w => f w && f' w).map V.str))) t ((kW.filter fun w => f w && f' w).map V.str) := .inl (.inl upd_same)
  generalize upd H2 t (.tup ((kW.filter fun w => f w && f' w).map V.str)) = H3 at s3 htw
  have ha3 := seqT_up s3 ha
  have hb3 := seqT_up s3 hb
  have hsa3 := seqT_up s3 hsa
  have hsb3 := seqT_up s3 hsb
  have lm := rm.len
  have ln := rn.len
  have mk : ∀ {H4 : Hp} {t3 t9 : Addr} {bb : Bool} {zs : List Int}, Same H3 H4 → H4 t9 = none → SqT K H4 t3 (zs.map V.int) → Rep ⟨kW.filter fun w => f w && f' w, bb, zs⟩ (fun w => f w && f' w) (fun k => g k && g' k) → Q (.ref t9) (upd H4 t9 (.tup [.ref t, .ref t3, .bl bb])) := fun {H4 t3 t9 bb zs} s4 h9 h3 rp => by
    have s9 := same_new (o := .tup [.ref t, .ref t3, .bl bb]) h9
    exact q t9 _ _ (s3.trans (s4.trans s9)) (MAt.of (m := ⟨kW.filter fun w => f w && f' w, bb, zs⟩) upd_same (seqT_up (s4.trans s9) htw) (seqT_up s9 h3)) rp
  refine ⟨_, rfl, a, _, 2, _, rfl, rfl, ha3, rfl, m.but, rfl, ite2 (fun c => ?A) (fun c => ?B)⟩
  case A =>
    have gm : ∀ k, (!decide (k ∈ m.sz)) = g k := fun k => by
      rw [← rm.s k]
      unfold Ks.hasS
      rw [c]
      cases decide (k ∈ m.sz) <;> rfl
    refine ⟨_, rfl, b, _, 2, _, rfl, rfl, hb3, rfl, n.but, rfl, ite2 (fun d => ?AA) (fun d => ?AB)⟩
    case AA =>
      refine ⟨_, rfl, _, rfl, a, _, 1, _, rfl, rfl, ha3, rfl, _, rfl, b, _, 1, _, rfl, rfl, hb3, rfl, ts, ts', _, _, [], rfl, rfl, by rw [cut_nil]; exact hsa3, by rw [cut_nil]; exact hsb3, fun _ z => absurd z List.not_mem_nil, few2 (by rw [List.length_map, List.length_map]; omega), fun c4 H5 s5 hc => ?_⟩
      rw [cut_nil, ← List.map_append] at hc
      refine ⟨c4, _, rfl, .inr hc, by rw [List.length_append]; omega, fun p c0 hp hc0 => ?_⟩
      have s6 := same_new (o := SetO w p (fun j => decide (j ∈ m.sz ++ n.sz)) c0) hp
      refine ⟨p, _, c0, rfl, upd_same, by (rw [List.length_append] at hc0; omega), fun ns' p2 srt mem hlen hp2 => ?_⟩
      refine ⟨p2, _, rfl, .inl ⟨SqL.of upd_same, fun t3 ht3 => ⟨few (by simp), fun t9 ht9 => ?_⟩⟩⟩
      exact mk (s5.trans (s6.trans ((same_new hp2 _).trans (same_new ht3 _)))) ht9 (.inl (.inl upd_same)) (rep_bb rm rn c d srt fun k => by rw [mem k, decide_eq_true_eq, List.mem_append])
    case AB =>
      have d := Bool.eq_false_iff.mpr d
      refine ⟨_, rfl, a, _, 2, _, rfl, rfl, ha3, rfl, m.but, rfl, ite2 (fun _ => ?_) (fun e => absurd c e)⟩
      refine ⟨_, rfl, _, rfl, b, _, 1, _, rfl, rfl, hb3, rfl, ts', rfl, ⟨_, hsb3⟩, fun D4 hD4 => along (walk_tup (K := K) (a := ts') (xs := n.sz.map V.int)) (fun i H4 => H4 D4 = some (.lst (((n.sz.take i).filter fun k => !decide (k ∈ m.sz)).map V.int)) ∧ Same H3 H4) ⟨upd_same, same_new hD4 _⟩ (fun i H4 _ ⟨_, h⟩ => seqT_up h hsb3) ?_ ?_⟩
      · rintro i y H4 H5 hi ⟨h1, h2⟩ ⟨rfl, hy⟩
        obtain ⟨x, hx, rfl⟩ := map_get hy
        refine ⟨rfl, _, rfl, _, rfl, a, _, 1, _, rfl, rfl, seqT_up h2 ha3, rfl, ts, _, rfl, .inr (seqT_up h2 hsa3), rfl, flat_ints m.sz, _, rfl, ?_⟩
        show if (!inV (.int x) (m.sz.map V.int)) = true then _ else _
        rw [inV_int]
        have tf := take_filter (p := fun k => !decide (k ∈ m.sz)) hx
        refine ite2 (fun c => ?_) (fun c => ?_)
        · refine ⟨_, rfl, _, h1, ?_, ?_, fun b o z => ?_⟩
          · rw [List.length_map]
            have := List.length_filter_le (fun k => !decide (k ∈ m.sz)) (n.sz.take i)
            rw [List.length_take] at this
            exact small1000 (by omega)
          · rw [upd_same, tf, if_pos c, List.map_append]
            rfl
          · rw [upd_ne (ne_of_none z hD4)]
            exact h2 b o z
        · refine ⟨?_, h2⟩
          rw [tf, if_neg c, List.append_nil]
          exact h1
      · rintro H4 ⟨h1, h2⟩
        rw [List.length_map, List.take_of_length_le (Nat.le_refl _)] at h1
        refine ⟨D4, _, rfl, .inl ⟨SqL.of h1, fun t3 ht3 => ⟨few (by simp), fun t9 ht9 => ?_⟩⟩⟩
        exact mk (h2.trans (same_new ht3 _)) ht9 (.inl (.inl upd_same)) ((rep_f rn _ d gm).congr (fun _ => rfl) fun k => Bool.and_comm _ _)
  case B =>
    have c' := Bool.eq_false_iff.mpr c
    refine ⟨_, rfl, a, _, 2, _, rfl, rfl, ha3, rfl, m.but, rfl, ite2 (fun e => absurd e c) (fun _ => ?_)⟩
    have gn : ∀ k, n.hasS k = g' k := rn.s
    refine ⟨_, rfl, _, rfl, a, _, 1, _, rfl, rfl, ha3, rfl, ts, rfl, ⟨_, hsa3⟩, fun D4 hD4 => along (walk_tup (K := K) (a := ts) (xs := m.sz.map V.int)) (fun i H4 => H4 D4 = some (.lst (((m.sz.take i).filter fun k => n.hasS k).map V.int)) ∧ Same H3 H4) ⟨upd_same, same_new hD4 _⟩ (fun i H4 _ ⟨_, h⟩ => seqT_up h hsa3) ?_ ?_⟩
    · rintro i y H4 H5 hi ⟨h1, h2⟩ ⟨rfl, hy⟩
      obtain ⟨x, hx, rfl⟩ := map_get hy
      refine ⟨rfl, _, rfl, _, rfl, b, _, 1, _, rfl, rfl, seqT_up h2 hb3, rfl, ts', _, rfl, .inr (seqT_up h2 hsb3), rfl, flat_ints n.sz, _, rfl, b, _, 2, _, rfl, rfl, seqT_up h2 hb3, rfl, rfl, _, rfl, ?_⟩
      show if (!decide (V.bl (inV (.int x) (n.sz.map V.int)) = V.bl n.but)) = true then _ else _
      rw [inV_int]
      have e2 : (!decide (V.bl (decide (x ∈ n.sz)) = V.bl n.but)) = n.hasS x := by
        unfold Ks.hasS
        cases decide (x ∈ n.sz) <;> cases n.but <;> rfl
      rw [e2]
      have tf := take_filter (p := fun k => n.hasS k) hx
      refine ite2 (fun c => ?_) (fun c => ?_)
      · refine ⟨_, rfl, _, h1, ?_, ?_, fun b o z => ?_⟩
        · rw [List.length_map]
          have := List.length_filter_le (fun k => n.hasS k) (m.sz.take i)
          rw [List.length_take] at this
          exact small1000 (by omega)
        · rw [upd_same, tf, if_pos c, List.map_append]
          rfl
        · rw [upd_ne (ne_of_none z hD4)]
          exact h2 b o z
      · refine ⟨?_, h2⟩
        rw [tf, if_neg c, List.append_nil]
        exact h1
    · rintro H4 ⟨h1, h2⟩
      rw [List.length_map, List.take_of_length_le (Nat.le_refl _)] at h1
      refine ⟨D4, _, rfl, .inl ⟨SqL.of h1, fun t3 ht3 => ⟨few (by simp), fun t9 ht9 => ?_⟩⟩⟩
      exact mk (h2.trans (same_new ht3 _)) ht9 (.inl (.inl upd_same)) (rep_f rm _ c' gn)
theorem ok_less {k : Nat} (F : Fun K "_law_less" "_law_less" sLess f fd) (B : Bi mg) (GM : Dn P w K mg base 1 "_law_meet" ["_law_one", "_law_other"] (spMeet K and) fM dM) : FnOk P w K mg base CX0 (k + 2) f fd ["_law_one", "_law_other"] (spMeet K fun x y => x && !y) := by
  refine F.ok scLess (fun vs H Q E h => ?_) (fun cdv A outer s H vs Q E hr h => ?_)
  · obtain ⟨a, b, m, n, f, g, f', g', rfl, _⟩ := h
    rfl
  obtain ⟨a, b, m, n, f, g, f', g', rfl, hma, ⟨tw', ts', hb, hwb, hsb⟩, rm, rn, q⟩ := h
  have hr1 : Room 1 _ := hr.mono (by omega)
  refine ⟨_, pss_cons (ps_set (i := 2) scLess.nd rfl (.inl rfl) (pe_callTy call_tuple_of (by rfl) B.tup b_tup (pa_cons (pe_lc (own := [("_law_word", 3)]) (g := gName 3) (by rfl) scLess.nd (pi_tup (pe_tup (pa_cons pe_str (pa_cons pe_str (pa_cons pe_str pa_nil)))))
      (blkOk_by (own := [("_law_word", 3)]) (N := ["_law_one", "_law_other", "_law_words", "_law_word"]) (sc := defScope sLess) (by decide +kernel))
      (fun _ _ _ _ _ => pg_name (i := 3) scLess.nd rfl (Or.inl rfl)) (fun _ _ _ _ _ => pts_one (pt_cmpR (op_notInK (K := K) rfl) (pv 3) (pe_ix (ix_tupK (K := K) rfl) (pv 1) pe_int (fun _ _ => rfl)) rfl)) (fun _ _ _ _ _ => pv 3)) pa_nil)))
    (pss_one (ps_ret (pe_call GM.ok hr1 (by rfl) GM.mg GM.kp GM.bd .nil pass0 (pa_cons (pv 0) (pa_cons (pe_tup (pa_cons (pv 2) (pa_cons (pe_ix ix_tup (pv 1) pe_int (fun _ _ => rfl)) (pa_cons (pe_not (pe_ix ix_tup (pv 1) pe_int (fun _ _ => rfl))) pa_nil)))) pa_nil))))), ?_⟩
  refine ⟨few (by simp), fun t0 ht0 => ?_⟩
  have s0 := same_new (o := .tup [.str "integer", .str "atom", .str "fault"]) ht0
  have hW : (upd H t0 (.tup [.str "integer", .str "atom", .str "fault"])) t0 = some (.tup (kW.map V.str)) := upd_same
  generalize upd H t0 (.tup [.str "integer", .str "atom", .str "fault"]) = H1 at s0 hW
  refine ⟨t0, rfl, ⟨_, .inl (.inl hW)⟩, fun D hD => along (walk_tup (K := K) (a := t0) (xs := kW.map V.str)) (fun i H2 => H2 D = some (.lst (((kW.take i).filter fun k => !decide (k ∈ n.ws)).map V.str)) ∧ Same H1 H2) ⟨upd_same, same_new hD _⟩ (fun i H2 _ ⟨_, h⟩ => .inl (.inl (h _ _ hW))) ?_ ?_⟩
  · rintro i y H2 H3 hi ⟨h1, h2⟩ ⟨rfl, hy⟩
    obtain ⟨x, hx, rfl⟩ := map_get hy
    have s02 := s0.trans h2
    refine ⟨rfl, _, rfl, _, rfl, b, _, 0, _, rfl, rfl, seqT_up s02 hb, rfl, tw', _, rfl, .inr (seqT_up s02 hwb), rfl, flat_strs n.ws, _, rfl, ?_⟩
    show if (!inV (.str x) (n.ws.map V.str)) = true then _ else _
    rw [inV_str]
    have tf := take_filter (p := fun k => !decide (k ∈ n.ws)) hx
    refine ite2 (fun c => ?_) (fun c => ?_)
    · refine ⟨_, rfl, _, h1, ?_, ?_, fun b o z => ?_⟩
      · rw [List.length_map]
        have := List.length_filter_le (fun k => !decide (k ∈ n.ws)) (kW.take i)
        rw [List.length_take] at this
        have e3 : kW.length = 3 := rfl
        exact small1000 (by omega)
      · rw [upd_same, tf, if_pos c, List.map_append]
        rfl
      · rw [upd_ne (ne_of_none z hD)]
        exact h2 b o z
    · refine ⟨?_, h2⟩
      rw [tf, if_neg c, List.append_nil]
      exact h1
  · rintro H2 ⟨h1, h2⟩
    have e0 : (kW.take (kW.map V.str).length) = kW := rfl
    rw [e0, rn.w, ws_not] at h1
    refine ⟨D, _, rfl, .inl ⟨SqL.of h1, fun t2 ht2 => ?_⟩⟩
    have s3 := s0.trans (h2.trans (same_new (o := .tup ((kW.filter fun w => !f' w).map V.str)) ht2))
    refine ⟨_, rfl, _, rfl, _, rfl, b, _, 1, _, rfl, rfl, seqT_up s3 hb, rfl, _, rfl, b, _, 2, _, rfl, rfl, seqT_up s3 hb, rfl, _, rfl, few (by simp), fun t9 ht9 => ?_⟩
    have s9 := same_new (o := .tup [.ref t2, .ref ts', .bl (!n.but)]) ht9
    refine ⟨a, t9, m, ⟨kW.filter fun w => !f' w, !n.but, n.sz⟩, _, _, _, _, rfl, hma.up (s3.trans s9), MAt.of upd_same (.inl (.inl (s9 _ _ upd_same))) (seqT_up (s3.trans s9) hsb), rm, rep_not rn, fun t r H' s' k' p' => ?_⟩
    exact q t r H' (s3.trans (s9.trans s')) k' p'
end
/-- a classmethod of the kind sets -/
structure KM (P : Program) (w : World) (K : PySem.W.Frag) (mg : Str → Option Value) (base : Heap) (C : Addr) (mc : Value) (m : Str) (ps : List Str) (sp : Sp) (p g : Addr) (fd : FuncData) : Prop where
  c : ClX.CMet K C mc m p g
  ok : FnOk P w K mg base CX0 3 g fd ps sp
  bd : Binds K fd ps []
theorem KM.r {P : Program} {w : World} {K : PySem.W.Frag} {mg : Str → Option Value} {base : Heap} {C : Addr} {mc : Value} {m : Str} {ps : List Str} {sp : Sp} {p g : Addr} {fd : FuncData} (M : KM P w K mg base C mc m ps sp p g fd) : FnR P w K mg base CX0 3 g sp :=
  (FnOk.raw M.ok M.bd .nil).imp fun vs H Q E h => by
    rw [List.append_nil]
    exact h
/-- an operator of the kind sets -/
structure KO (P : Program) (w : World) (K : PySem.W.Frag) (mg : Str → Option Value) (base : Heap) (C : Addr) (lvl : Nat) (m : Str) (ps : List Str) (sp : Sp) (g : Addr) (fd : FuncData) : Prop where
  m : Meth K C m g
  ok : FnOk P w K mg base CX0 lvl g fd ps sp
  bd : Binds K fd ps []
abbrev kS (K : PySem.W.Frag) (C : Addr) : Sp := spKK K C fun x y => x && !y
abbrev so2 : List Str := ["self", "other"]
theorem KAt.ins {K : PySem.W.Frag} {C : Addr} {H : Hp} {a : Addr} {m : Ks} (h : KAt K C H a m) : ∃ dx fs, H a = some (.ins C dx fs) := by
  obtain ⟨dx, tw, ts, i, _⟩ := h
  exact ⟨dx, _, i⟩
/-- the reading of x op y of kind sets -/
theorem rb {K : PySem.W.Frag} {C : Addr} {op : Bool → Bool → Bool} {H : Hp} {a b : Addr} {m n : Ks} {f f' : Str → Bool} {g g' : Int → Bool} {Q : VK} (ha : KAt K C H a m) (hb : KAt K C H b n) (rm : Rep m f g) (rn : Rep n f' g')
    (q : ∀ c r H', Same H H' → KAt K C H' c r → Rep r (fun w => op (f w) (f' w)) (fun k => op (g k) (g' k)) → Q (.ref c) H') : rBinO C (spKK K C op) (.ref a) (.ref b) H Q := by
  obtain ⟨dx, fs, ia⟩ := ha.ins
  obtain ⟨dy, gs, ib⟩ := hb.ins
  exact ⟨a, dx, fs, b, dy, gs, rfl, rfl, ia, ib, a, b, m, n, _, _, _, _, rfl, ha, hb, rm, rn, fun c r H' s k p => ⟨⟨c, rfl⟩, q c r H' s k p⟩⟩
theorem take_one {α : Type} [DecidableEq α] {xs : List α} {i : Nat} {x y : α} (h : xs[i]? = some x) : decide (y ∈ xs.take (i + 1)) = (decide (y ∈ xs.take i) || decide (y = x)) := by
  rw [get_take h, ← Bool.decide_or]
  exact decide_eq_decide.mpr (by rw [List.mem_append, List.mem_singleton])
def spMade (K : PySem.W.Frag) (C : Addr) : Sp := fun vs H Q _ => ∃ t m f g, vs = [.ref t] ∧ MAt K H t m ∧ Rep m f g ∧ ∀ c H', Same H H' → KAt K C H' c m → Q (.ref c) H'
section
variable {P : Program} {w : World} {K : PySem.W.Frag} {mg : Str → Option Value} {base : Heap} {f C fE fO fS p1 p3 p4 g1 g3 g4 : Addr} {fd dO dS d1 d3 d4 : FuncData} {mc : Value}
theorem ok_made {k : Nat} (F : Fun K "_law_made" "_law_made" sMade f fd) (T : KC K mg C fE) (R : ClX.CRead K C mc) (O : KO P w K mg base C 4 "__or__" so2 (spKK K C or) fO dO) (S : KO P w K mg base C 4 "__sub__" so2 (kS K C) fS dS)
    (M1 : KM P w K mg base C mc "everything" ["cls"] (spEvr K C) p1 g1 d1) (M3 : KM P w K mg base C mc "of" ["cls", "word"] (spOf K C) p3 g3 d3) (M4 : KM P w K mg base C mc "sized" ["cls", "k"] (spSzd K C) p4 g4 d4) :
    FnOk P w K mg base CX0 (k + 5) f fd ["_law_one"] (spMade K C) := by
  refine F.ok scMade (fun vs H Q E h => ?_) (fun cdv A outer s H vs Q E hr h => ?_)
  · obtain ⟨t, m, f, g, rfl, _⟩ := h
    rfl
  obtain ⟨t, m, f, g, rfl, ⟨tw, ts, ht, hw, hs⟩, rm, q⟩ := h
  have hr4 : Room 4 _ := hr.mono (by omega)
  have hr3 : Room 3 _ := hr.mono (by omega)
  refine ⟨_, pss_cons (ps_set (i := 1) scMade.nd rfl (.inl rfl) (pe_op (op_binO rfl T.sf S.m S.ok S.bd hr4) (pe_cmeth0 (pe_glob (by rfl) T.mg (v := .ref C) rfl) R M1.c M1.r hr3 pass0) (pe_cmeth0 (pe_glob (by rfl) T.mg (v := .ref C) rfl) R M1.c M1.r hr3 pass0)))
    (pss_cons (ps_for PassesOwn.never rfl (pi_tup (pe_ix ix_tup (pv 0) pe_int (fun _ _ => rfl))) (pg_name (i := 2) scMade.nd rfl (.inl rfl))
      (pss_one (ps_set (i := 1) scMade.nd rfl (.inl rfl) (pe_op (op_binO rfl T.sf O.m O.ok O.bd hr4) (pv 1) (ClX.pe_cmeth (pe_glob (by rfl) T.mg (v := .ref C) rfl) R M3.c M3.r hr3 pass0 (pa_cons (pv 2) pa_nil))))))
    (pss_cons (ps_if (pt_val (pe_ix ix_tup (pv 0) pe_int (fun _ _ => rfl))) (pss_one (ps_set (i := 1) scMade.nd rfl (.inl rfl) (pe_op (op_binO rfl T.sf O.m O.ok O.bd hr4) (pv 1) (ClX.pe_cmeth (pe_glob (by rfl) T.mg (v := .ref C) rfl) R M3.c M3.r hr3 pass0 (pa_cons pe_str pa_nil))))) pss_nil)
    (pss_cons (ps_for PassesOwn.never rfl (pi_tup (pe_ix ix_tup (pv 0) pe_int (fun _ _ => rfl))) (pg_name (i := 3) scMade.nd rfl (.inl rfl))
      (pss_one (ps_set (i := 1) scMade.nd rfl (.inl rfl) (pe_ifExp (pt_val (pe_ix ix_tup (pv 0) pe_int (fun _ _ => rfl)))
        (pe_op (op_binO rfl T.sf S.m S.ok S.bd hr4) (pv 1) (ClX.pe_cmeth (pe_glob (by rfl) T.mg (v := .ref C) rfl) R M4.c M4.r hr3 pass0 (pa_cons (pv 3) pa_nil)))
        (pe_op (op_binO rfl T.sf O.m O.ok O.bd hr4) (pv 1) (ClX.pe_cmeth (pe_glob (by rfl) T.mg (v := .ref C) rfl) R M4.c M4.r hr3 pass0 (pa_cons (pv 3) pa_nil)))))))
    (pss_one (ps_ret (pv 1)))))), ?_⟩
  have fin : ∀ c9 r9 H9 o2, Same H H9 → KAt K C H9 c9 r9 → Rep r9 (fun w => decide (w ∈ m.ws)) (fun _ => m.but) →
      tSeq (tFor (iTup K (tOp (rIxT K) (tVar 0) (tC (.int 1)))) (gName 3) (tAsg (tIf (tB (tOp (rIxT K) (tVar 0) (tC (.int 2)))) (tOp (rBinO C (kS K C)) (tVar 1) (ClX.tCMeth C (spSzd K C) E0 (tC (.ref C)) (tCons (tVar 3) tNil)))
        (tOp (rBinO C (spKK K C or)) (tVar 1) (ClX.tCMeth C (spSzd K C) E0 (tC (.ref C)) (tCons (tVar 3) tNil)))) (gName 1))) (tRet (tVar 1)) { nx := fun _ H' => Q .non H', rt := Q } [some (.ref t), some (.ref c9), o2, none] H9 := fun c9 r9 H9 o2 s9 k9 e9 => by
    refine ⟨_, rfl, t, _, 1, _, rfl, rfl, seqT_up s9 ht, rfl, ts, rfl, ⟨_, seqT_up s9 hs⟩, for_tup (K := K) (a := ts) (xs := m.sz.map V.int) (fun i σ H4 => ∃ c r o3, σ = [some (.ref t), some (.ref c), o2, o3] ∧ Same H H4 ∧ KAt K C H4 c r ∧ Rep r (fun w => decide (w ∈ m.ws)) (fun k => decide (k ∈ m.sz.take i) != m.but))
      ⟨c9, r9, none, rfl, s9, k9, e9.congr (fun _ => rfl) (fun k => by rw [List.take_zero]; cases m.but <;> rfl)⟩ (fun i σ H4 _ ⟨_, _, _, _, h, _⟩ => seqT_up h hs) ?_ ?_⟩
    · rintro i y σ H4 hy ⟨c, r, o3, rfl, s4, k4, e4⟩
      obtain ⟨x, hx, rfl⟩ := map_get hy
      have bx := rm.bd x (List.mem_of_getElem? hx)
      refine ⟨_, rfl, t, _, 2, _, rfl, rfl, seqT_up s4 ht, rfl, m.but, rfl, ite2 (fun b => ?_) (fun b => ?_)⟩
      all_goals
        refine ⟨_, rfl, rfl, _, rfl, x, rfl, bx.1, bx.2, fun c5 r5 H5 s5 k5 e5 => rb (k4.up s5) k5 e4 e5 fun c6 r6 H6 s6 k6 e6 => ?_⟩
        refine ⟨c6, r6, _, rfl, s4.trans (s5.trans s6), k6, e6.congr (fun w => ?_) (fun j => ?_)⟩
      · simp
      · rw [take_one hx, b]
        cases decide (j ∈ m.sz.take i) <;> cases decide (j = x) <;> rfl
      · simp
      · rw [take_one hx, Bool.eq_false_iff.mpr b]
        cases decide (j ∈ m.sz.take i) <;> cases decide (j = x) <;> rfl
    · rintro σ H4 ⟨c, r, o3, rfl, s4, k4, e4⟩
      rw [List.length_map, List.take_of_length_le (Nat.le_refl _)] at e4
      have e : r = m := e4.uniq ((rm.congrW (fun w hw => by rw [rm.w, kW_mem hw]) fun k => (rm.s k).symm))
      rw [e] at k4
      exact ⟨_, rfl, q c H4 s4 k4⟩
  refine ⟨rfl, rfl, fun c1 r1 H1 s1 k1 e1 => ⟨rfl, rfl, fun c2 r2 H2 s2 k2 e2 => rb (k1.up s2) k2 e1 e2 fun c3 r3 H3 s3 k3 e3 => ?_⟩⟩
  have s03 := s1.trans (s2.trans s3)
  refine ⟨_, rfl, t, _, 0, _, rfl, rfl, seqT_up s03 ht, rfl, tw, rfl, ⟨_, seqT_up s03 hw⟩, for_tup (K := K) (a := tw) (xs := m.ws.map V.str) (fun i σ H4 => ∃ c r o2, σ = [some (.ref t), some (.ref c), o2, none] ∧ Same H H4 ∧ KAt K C H4 c r ∧ Rep r (fun w => decide (w ∈ m.ws.take i)) (fun _ => false))
    ⟨c3, r3, none, rfl, s03, k3, e3.congr (fun w => by rw [List.take_zero]; rfl) (fun _ => rfl)⟩ (fun i σ H4 _ ⟨_, _, _, _, h, _⟩ => seqT_up h hw) ?_ ?_⟩
  · rintro i y σ H4 hy ⟨c, r, o2, rfl, s4, k4, e4⟩
    obtain ⟨x, hx, rfl⟩ := map_get hy
    have mx : x ∈ kW := by
      have z := List.mem_of_getElem? hx
      rw [rm.w] at z
      exact (List.mem_filter.mp z).1
    refine ⟨_, rfl, rfl, _, rfl, x, rfl, .inr ⟨mx, fun c5 r5 H5 s5 k5 e5 => rb (k4.up s5) k5 e4 e5 fun c6 r6 H6 s6 k6 e6 => ?_⟩⟩
    exact ⟨c6, r6, _, rfl, s4.trans (s5.trans s6), k6, e6.congr (fun w => (take_one hx).symm) (fun _ => rfl)⟩
  rintro σ H9 ⟨c9, r9, o2, rfl, s9, k9, e4⟩
  rw [List.length_map, List.take_of_length_le (Nat.le_refl _)] at e4
  refine ⟨_, rfl, t, _, 2, _, rfl, rfl, seqT_up s9 ht, rfl, m.but, rfl, ite2 (fun b => ?_) (fun b => ?_)⟩
  · refine ⟨_, rfl, rfl, _, rfl, .inl ⟨rfl, fun c5 r5 H5 s5 k5 e5 => rb (k9.up s5) k5 e4 e5 fun c6 r6 H6 s6 k6 e6 => ?_⟩⟩
    have e9 : Rep r6 (fun w => decide (w ∈ m.ws)) (fun _ => m.but) := e6.congr (fun w => Bool.or_false _) (fun _ => by rw [b]; rfl)
    have s9 := s9.trans (s5.trans s6)
    exact fin c6 r6 H6 o2 s9 k6 e9
  · have e9 : Rep r9 (fun w => decide (w ∈ m.ws)) (fun _ => m.but) := e4.congr (fun _ => rfl) (fun _ => (Bool.eq_false_iff.mpr b).symm)
    exact fin c9 r9 H9 o2 s9 k9 e9
end
abbrev sSome : Stmt := topS 21
theorem scSome : FnScope ["_law_box_here", "_law_form", "_law_k"] ["_law_box_here"] (defScope sSome) := ⟨rfl, rfl, rfl, by decide +kernel, rfl, by decide +kernel, by decide +kernel⟩
theorem seqT_box {K : PySem.W.Frag} {H : Hp} {p g t : Addr} {xs : List V} (b : Box H p g) (h : SqT K H t xs) : SqT K (cut [p, g] H) t xs := by
  obtain ⟨n, s, u, gs, h1, h2, _⟩ := b.ex
  have out : ∀ {o : HO}, H t = some o → (∀ d, o ≠ .dK d) → (∀ l, o ≠ .lst l) → cut [p, g] H t = some o := fun {o} e n1 n2 => by
    rw [cut_out fun z => ?_]
    · exact e
    rcases List.mem_cons.mp z with z | z
    · rw [z, h1] at e
      exact n1 _ (Option.some.inj e).symm
    · rw [List.mem_singleton.mp z, h2] at e
      exact n2 _ (Option.some.inj e).symm
  rcases h with (h | ⟨u, h⟩) | h
  · exact .inl (.inl (out h (fun _ z => nomatch z) (fun _ z => nomatch z)))
  · exact .inl (.inr ⟨u, out h (fun _ z => nomatch z) (fun _ z => nomatch z)⟩)
  · exact .inr h
theorem MAt.cut {K : PySem.W.Frag} {H : Hp} {p g t : Addr} {m : Ks} (h : MAt K H t m) (b : Box H p g) : MAt K (cut [p, g] H) t m := by
  obtain ⟨tw, ts, h1, h2, h3⟩ := h
  exact ⟨tw, ts, seqT_box b h1, seqT_box b h2, seqT_box b h3⟩
theorem MAt.off {K : PySem.W.Frag} {H H' : Hp} {p g t : Addr} {m : Ks} (h : MAt K H t m) (b : Box H p g) (o : Off [p, g] H H') : MAt K H' t m := ((h.cut b).up o).up (cut_same _ _)
/-- a kind that one_kind knows -/
def Gk (y : V) : Prop := (∃ k : Int, y = .int k ∧ 0 ≤ k ∧ k ≤ 20) ∨ y = .str "tuple" ∨ ∃ x, x ∈ kW ∧ y = .str x
theorem rep_own {b : Bool} {f : Str → Bool} {zs : List Int} (h : zs.Pairwise (· < ·)) (hb : ∀ k ∈ zs, 0 ≤ k ∧ k ≤ 20) : Rep ⟨kW.filter f, b, zs⟩ f (fun k => decide (k ∈ zs) != b) := ⟨rfl, h, hb, fun _ => rfl⟩
theorem one_good {K : PySem.W.Frag} {H : Hp} {y : V} {Q : VK} {E : XK} (h : Gk y) (q : ∀ t m f g H', Same H H' → MAt K H' t m → Rep m f g → Q (.ref t) H') : spOne K [y] H Q E := by
  refine ⟨y, rfl, ?_⟩
  rcases h with ⟨k, rfl, h0, h1⟩ | rfl | ⟨x, hx, rfl⟩
  · exact .inl ⟨k, rfl, fun t H' s h => q t _ _ _ H' s h (rep_size h0 h1)⟩
  · exact .inr (.inl ⟨rfl, fun t H' s h => q t _ _ _ H' s h rep_tup⟩)
  · exact .inr (.inr ⟨x, rfl, hx, fun t H' s h => q t _ _ _ H' s h (rep_word hx)⟩)
/-- a drawn model -/
def spSome (K : PySem.W.Frag) : Sp := fun vs H Q _ => ∃ p g, vs = [.ref p] ∧ Box H p g ∧ ∀ t m f g' H', Off [p, g] H H' → Box H' p g → MAt K H' t m → Rep m f g' → Q (.ref t) H'
theorem gkI {k : Int} (h0 : 0 ≤ k) (h : k < 4) : Gk (.int k) := .inl ⟨k, rfl, h0, by omega⟩
theorem gkW {x : Str} (h : x ∈ kW) : Gk (.str x) := .inr (.inr ⟨x, h, rfl⟩)
theorem mI : ("integer" : Str) ∈ kW := by decide +kernel
theorem mA : ("atom" : Str) ∈ kW := by decide +kernel
theorem mF : ("fault" : Str) ∈ kW := by decide +kernel
theorem rep_ia : Rep ⟨["integer", "atom"], false, []⟩ (fun w => decide (w = "integer") || decide (w = "atom")) (fun _ => false) := ⟨by decide +kernel, .nil, fun k h => absurd h List.not_mem_nil, fun k => by simp [Ks.hasS]⟩
section
variable {P : Program} {w : World} {K : PySem.W.Frag} {mg : Str → Option Value} {base : Heap} {f fT f1 fL fA fV : Addr} {fd dT d1 dL dA dV : FuncData}
theorem ok_some {k : Nat} (F : Fun K "_law_some_kinds" "_law_some_kinds" sSome f fd) (B : Bi mg) (hso : mg "sorted" = none) (hse : mg "set" = none) (T : Tk P w K mg base fT dT) (G1 : Dn P w K mg base 1 "_law_one_kind" ["_law_kind"] (spOne K) f1 d1)
    (GL : Dn P w K mg base 2 "_law_less" ["_law_one", "_law_other"] (spMeet K fun x y => x && !y) fL dL) (GA : Dn P w K mg base 1 "_law_all_kinds" [] (spCon K mAll) fA dA) (GV : Dn P w K mg base 1 "_law_value_kinds" [] (spCon K mVal) fV dV) :
    FnOk P w K mg base CX0 (k + 3) f fd ["_law_box_here"] (spSome K) := by
  refine F.ok scSome (fun vs H Q E h => ?_) (fun cdv A outer s H vs Q E hr h => ?_)
  · obtain ⟨p, g, rfl, _⟩ := h
    rfl
  obtain ⟨p, g, rfl, b0, q⟩ := h
  have hr1 : Room 1 _ := hr.mono (by omega)
  have hr2 : Room 2 _ := hr.mono (by omega)
  refine ⟨_, pss_cons (ps_par (i := 1) (j := 2) rfl scSome.nd rfl rfl (by decide) rfl rfl (pa_cons (pe_call T.ok hr1 (by rfl) T.mg T.kp T.bd .nil pass0 (pa_cons (pv 0) (pa_cons pe_int pa_nil))) (pa_cons (pe_call T.ok hr1 (by rfl) T.mg T.kp T.bd .nil pass0 (pa_cons (pv 0) (pa_cons pe_int pa_nil))) pa_nil)) (by rfl))
    (pss_cons (ps_if (pt_cmpR op_lt (pv 1) pe_int (nomark _)) (pss_one (ps_ret (pe_call G1.ok hr1 (by rfl) G1.mg G1.kp G1.bd .nil pass0 (pa_cons (pe_ix ix_list (pe_lst (pa_cons pe_str (pa_cons pe_str (pa_cons pe_str (pa_cons pe_str (pa_cons pe_str (pa_cons (pv 2) (pa_cons (pv 2) (pa_cons (pv 2) (pa_cons pe_int pa_nil)))))))))) (pv 1) (fun _ _ => rfl)) pa_nil)))) pss_nil)
    (pss_cons (ps_if (pt_cmpR op_eq (pv 1) pe_int (nomark _)) (pss_one (ps_ret (pe_call GL.ok hr2 (by rfl) GL.mg GL.kp GL.bd .nil pass0 (pa_cons (pe_call0 GA.ok hr1 (by rfl) GA.mg GA.kp GA.bd .nil pass0) (pa_cons (pe_call G1.ok hr1 (by rfl) G1.mg G1.kp G1.bd .nil pass0
        (pa_cons (pe_ix ix_list (pe_lst (pa_cons pe_str (pa_cons pe_str (pa_cons pe_str (pa_cons (pv 2) pa_nil))))) (pe_call T.ok hr1 (by rfl) T.mg T.kp T.bd .nil pass0 (pa_cons (pv 0) (pa_cons pe_int pa_nil))) (fun _ _ => rfl)) pa_nil)) pa_nil))))) pss_nil)
    (pss_cons (ps_if (pt_cmpR op_eq (pv 1) pe_int (nomark _)) (pss_one (ps_ret (pe_tup (pa_cons (pe_tup (pa_cons pe_str (pa_cons pe_str pa_nil))) (pa_cons (pe_tup pa_nil) (pa_cons pe_bl pa_nil)))))) pss_nil)
    (pss_cons (ps_if (pt_cmpR op_eq (pv 1) pe_int (nomark _)) (pss_one (ps_ret (pe_tup (pa_cons (pe_tup pa_nil) (pa_cons (pe_callTy call_tuple_of (by rfl) B.tup b_tup (pa_cons (pe_callB (cr_sortedSet rfl) (by rfl) hso (by decide +kernel)
        (pa_cons (pe_callTy (cr_setI rfl) (by rfl) hse PyProof.Rows.boot_set (pa_cons (pe_lst (pa_cons (pv 2) (pa_cons (pe_call T.ok hr1 (by rfl) T.mg T.kp T.bd .nil pass0 (pa_cons (pv 0) (pa_cons pe_int pa_nil))) pa_nil))) pa_nil)) pa_nil)) pa_nil)) (pa_cons pe_bl pa_nil)))))) pss_nil)
    (pss_cons (ps_if (pt_cmpR op_eq (pv 1) pe_int (nomark _)) (pss_one (ps_ret (pe_call G1.ok hr1 (by rfl) G1.mg G1.kp G1.bd .nil pass0
        (pa_cons (pe_ix ix_list (pe_lst (pa_cons pe_str (pa_cons pe_str pa_nil))) (pe_call T.ok hr1 (by rfl) T.mg T.kp T.bd .nil pass0 (pa_cons (pv 0) (pa_cons pe_int pa_nil))) (fun _ _ => rfl)) pa_nil)))) pss_nil)
    (pss_cons (ps_if (pt_cmpR op_eq (pv 1) pe_int (nomark _)) (pss_one (ps_ret (pe_tup (pa_cons (pe_tup pa_nil) (pa_cons (pe_tup (pa_cons (pv 2) pa_nil)) (pa_cons pe_bl pa_nil)))))) pss_nil)
    (pss_one (ps_ret (pe_ix ix_list (pe_lst (pa_cons (pe_call0 GV.ok hr1 (by rfl) GV.mg GV.kp GV.bd .nil pass0) (pa_cons (pe_tup (pa_cons (pe_tup (pa_cons pe_str (pa_cons pe_str pa_nil))) (pa_cons (pe_tup (pa_cons (pv 2) pa_nil)) (pa_cons pe_bl pa_nil)))) (pa_cons (pe_call0 GA.ok hr1 (by rfl) GA.mg GA.kp GA.bd .nil pass0) pa_nil)))) (pe_op op_sub (pv 1) pe_int) (fun _ _ => rfl)))))))))), ?_⟩
  refine ⟨_, rfl, p, g, 17, rfl, b0, by decide, by decide, fun r H1 r0 r17 b1 o1 => ⟨_, rfl, p, g, 4, rfl, b1, by decide, by decide, fun z H3 z0 z4 b3 o2 => ⟨_, _, rfl, ?_⟩⟩⟩
  have o3 : Off [p, g] H H3 := o1.trans o2
  have fin : ∀ {t : Addr} {m : Ks} {f : Str → Bool} {g' : Int → Bool} {H' : Hp}, Same H3 H' → MAt K H' t m → Rep m f g' → Q (.ref t) H' := fun s h r => q _ _ _ _ _ (o3.trans (Off.of s)) (b3.same s) h r
  refine ⟨_, rfl, _, _, rfl, rfl, _, rfl, ?_⟩
  refine ite2 (fun c => ?_) (fun c => ?_)
  · have gl : ∀ y ∈ [V.str "integer", .str "integer", .str "integer", .str "atom", .str "atom", .int z, .int z, .int z, .int 2], Gk y := by
      intro y hy
      simp only [List.mem_cons, List.not_mem_nil, or_false] at hy
      rcases hy with h | h | h | h | h | h | h | h | h <;> rw [h] <;> first | exact gkW mI | exact gkW mA | exact gkI z0 z4 | exact gkI (by decide) (by decide)
    obtain ⟨y, hy, my, _⟩ := atI_ok (xs := [V.str "integer", .str "integer", .str "integer", .str "atom", .str "atom", .int z, .int z, .int z, .int 2]) r0 (by simpa using c)
    refine ⟨_, rfl, _, rfl, _, rfl, few (by simp), fun L hL => ⟨_, rfl, L, _, r, _, rfl, rfl, SqL.of upd_same, hy, one_good (E := E0) (gl y my) fun t m f' g' H' s' k' e' => ?_⟩⟩
    exact fin ((same_new hL _).trans s') k' e'
  have n9 : ¬ r < 9 := fun e => c (decide_eq_true e)
  refine ⟨_, rfl, rfl, _, rfl, ite2 (fun _ => ?_) (fun c => ?_)⟩
  · refine ⟨rfl, fun t1 H4 s4 k4 => ?_⟩
    have gl : ∀ y ∈ [V.str "integer", .str "atom", .str "fault", .int z], Gk y := by
      intro y hy
      simp only [List.mem_cons, List.not_mem_nil, or_false] at hy
      rcases hy with h | h | h | h <;> rw [h] <;> first | exact gkW mI | exact gkW mA | exact gkW mF | exact gkI z0 z4
    refine ⟨_, rfl, few (by simp), fun L hL => ?_⟩
    have b4 := b3.same s4
    have nL := b4.notin hL
    have b5 := b4.put (o := .lst [V.str "integer", .str "atom", .str "fault", .int z]) nL
    have s5 := same_new (o := .lst [V.str "integer", .str "atom", .str "fault", .int z]) hL
    refine ⟨_, rfl, p, g, 4, rfl, b5, by decide, by decide, fun r2 H6 r20 r24 b6 o6 => ?_⟩
    obtain ⟨y, hy, my, _⟩ := atI_ok (xs := [V.str "integer", .str "atom", .str "fault", .int z]) r20 (by simpa using r24)
    have fin2 : ∀ {t2 : Addr} {m2 : Ks} {f2 : Str → Bool} {g2 : Int → Bool} {H7 : Hp}, Same H6 H7 → MAt K H7 t2 m2 → Rep m2 f2 g2 → spMeet K (fun x y => x && !y) [.ref t1, .ref t2] H7 Q E0 := fun {t2 m2 f2 g2 H7} s7 k7 e7 => by
      have k16 := ((k4.up s5).off b5 o6).up s7
      refine ⟨t1, t2, mAll, m2, _, _, _, _, rfl, k16, k7, rep_all, e7, fun t r' H' s' k' e' => ?_⟩
      exact q _ _ _ _ _ (o3.trans ((Off.of (s4.trans s5)).trans (o6.trans (Off.of (s7.trans s'))))) (b6.same (s7.trans s')) k' e'
    refine ⟨L, _, r2, _, rfl, rfl, SqL.of (o6.get upd_same nL), hy, y, rfl, ?_⟩
    rcases gl y my with ⟨k, rfl, h0, h1⟩ | rfl | ⟨x, hx, rfl⟩
    · exact .inl ⟨k, rfl, fun t2 H7 s7 k7 => fin2 s7 k7 (rep_size h0 h1)⟩
    · exact .inr (.inl ⟨rfl, fun t2 H7 s7 k7 => fin2 s7 k7 rep_tup⟩)
    · exact .inr (.inr ⟨x, rfl, hx, fun t2 H7 s7 k7 => fin2 s7 k7 (rep_word hx)⟩)
  have n9' : r ≠ 9 := fun e => c (by rw [e]; rfl)
  refine ⟨_, rfl, rfl, _, rfl, ite2 (fun _ => ?_) (fun c => ?_)⟩
  · refine ⟨few (by simp), fun t1 h1 => ⟨by decide, fun t2 h2 => ⟨few (by simp), fun t3 h3 => ?_⟩⟩⟩
    have s2 := same_new (o := .tup []) h2
    have s3 := same_new (o := .tup [.ref t1, .ref t2, .bl false]) h3
    exact fin ((same_new h1 _).trans (s2.trans s3)) (MAt.of (m := ⟨["integer", "atom"], false, []⟩) upd_same (.inl (.inl ((s2.trans s3) _ _ upd_same))) (.inl (.inl (s3 _ _ upd_same)))) rep_ia
  have n10 : r ≠ 10 := fun e => c (by rw [e]; rfl)
  refine ⟨_, rfl, rfl, _, rfl, ite2 (fun _ => ?_) (fun c => ?_)⟩
  · refine ⟨by decide, fun t1 h1 => ⟨_, rfl, _, rfl, p, g, 4, rfl, b3.same (same_new h1 _), by decide, by decide, fun r2 H6 r20 r24 b6 o6 => ⟨few (by simp), fun L hL => ?_⟩⟩⟩
    have s5 := same_new (o := .lst [V.int z, .int r2]) hL
    refine ⟨L, [z, r2], rfl, .inl (SqL.of upd_same), by simp, fun u c0 hu hc0 => ?_⟩
    have s6 := same_new (o := SetO w u (fun j => decide (j ∈ [z, r2])) c0) hu
    refine ⟨u, _, c0, rfl, upd_same, by (have : [z, r2].length = 2 := rfl); omega, fun ns' p2 srt mem hlen hp2 => ?_⟩
    have s7 := same_new (o := .lst (ns'.map V.int)) hp2
    refine ⟨p2, _, rfl, .inl ⟨SqL.of upd_same, fun t3 ht3 => ⟨few (by simp), fun t9 ht9 => ?_⟩⟩⟩
    have s8 := same_new (o := .tup (ns'.map V.int)) ht3
    have s9 := same_new (o := .tup [.ref t1, .ref t3, .bl false]) ht9
    have n1 := b3.notin h1
    have g1 := (s5.trans (s6.trans (s7.trans (s8.trans s9)))) _ _ (o6.get (upd_same (H := H3) (a := t1) (o := .tup [])) n1)
    have sa := s5.trans (s6.trans (s7.trans (s8.trans s9)))
    refine q _ _ _ _ _ (o3.trans ((Off.of (same_new h1 _)).trans (o6.trans (Off.of sa)))) (b6.same sa) (MAt.of (m := ⟨[], false, ns'⟩) upd_same (.inl (.inl g1)) (.inl (.inl (s9 _ _ upd_same)))) (rep_own (f := fun _ => false) srt fun k hk => ?_)
    have hk := of_decide_eq_true ((mem k).mp hk)
    simp only [List.mem_cons, List.not_mem_nil, or_false] at hk
    omega
  have n11 : r ≠ 11 := fun e => c (by rw [e]; rfl)
  refine ⟨_, rfl, rfl, _, rfl, ite2 (fun _ => ?_) (fun c => ?_)⟩
  · have gl : ∀ y ∈ [V.str "tuple", .str "fault"], Gk y := by
      intro y hy
      simp only [List.mem_cons, List.not_mem_nil, or_false] at hy
      rcases hy with h | h <;> rw [h] <;> first | exact gkW mF | exact .inr (.inl rfl)
    refine ⟨few (by simp), fun L hL => ?_⟩
    have nL := b3.notin hL
    have b5 := b3.put (o := .lst [V.str "tuple", .str "fault"]) nL
    have s5 := same_new (o := .lst [V.str "tuple", .str "fault"]) hL
    refine ⟨_, rfl, p, g, 2, rfl, b5, by decide, by decide, fun r2 H6 r20 r24 b6 o6 => ?_⟩
    obtain ⟨y, hy, my, _⟩ := atI_ok (xs := [V.str "tuple", .str "fault"]) r20 (by simpa using r24)
    refine ⟨L, _, r2, _, rfl, rfl, SqL.of (o6.get upd_same nL), hy, one_good (E := E0) (gl y my) fun t m f2 g2 H7 s7 k7 e7 => ?_⟩
    exact q _ _ _ _ _ (o3.trans ((Off.of s5).trans (o6.trans (Off.of s7)))) (b6.same s7) k7 e7
  have n12 : r ≠ 12 := fun e => c (by rw [e]; rfl)
  refine ⟨_, rfl, rfl, _, rfl, ite2 (fun _ => ?_) (fun c => ?_)⟩
  · refine ⟨by decide, fun t1 h1 => ⟨_, rfl, few (by simp), fun t2 h2 => ⟨few (by simp), fun t3 h3 => ?_⟩⟩⟩
    have s2 := same_new (o := .tup [.int z]) h2
    have s3 := same_new (o := .tup [.ref t1, .ref t2, .bl true]) h3
    exact fin ((same_new h1 _).trans (s2.trans s3)) (MAt.of (m := ⟨[], true, [z]⟩) upd_same (.inl (.inl ((s2.trans s3) _ _ upd_same))) (.inl (.inl (s3 _ _ upd_same)))) (rep_own (f := fun _ => false) (List.pairwise_singleton _ _) fun k hk => by (rw [List.mem_singleton.mp hk]); omega)
  have n13 : r ≠ 13 := fun e => c (by rw [e]; rfl)
  refine ⟨rfl, fun t1 H4 s4 k4 => ?_⟩
  refine ⟨few (by simp), fun u1 h1 => ⟨_, rfl, few (by simp), fun u2 h2 => ⟨few (by simp), fun u3 h3 => ?_⟩⟩⟩
  have g1 := same_new (o := .tup [.str "integer", .str "fault"]) h1
  have g2 := same_new (o := .tup [.int z]) h2
  have g3 := same_new (o := .tup [.ref u1, .ref u2, .bl false]) h3
  have k5 : MAt K (upd (upd (upd H4 u1 (.tup [.str "integer", .str "fault"])) u2 (.tup [.int z])) u3 (.tup [.ref u1, .ref u2, .bl false])) u3 ⟨["integer", "fault"], false, [z]⟩ := MAt.of upd_same (.inl (.inl ((g2.trans g3) _ _ upd_same))) (.inl (.inl (g3 _ _ upd_same)))
  refine ⟨rfl, fun t2 H5 s5 k6 => ⟨few (by simp), fun L hL => ⟨_, rfl, _, _, rfl, rfl, ?_⟩⟩⟩
  have s6 := same_new (o := .lst [.ref t1, .ref u3, .ref t2]) hL
  obtain ⟨y, hy, my, _⟩ := atI_ok (xs := [V.ref t1, .ref u3, .ref t2]) (r := r - 14) (by omega) (by simp only [List.length_cons, List.length_nil]; omega)
  refine ⟨L, _, r - 14, y, rfl, rfl, SqL.of upd_same, hy, ?_⟩
  have s3L := s4.trans (g1.trans (g2.trans (g3.trans (s5.trans s6))))
  simp only [List.mem_cons, List.not_mem_nil, or_false] at my
  rcases my with h | h | h <;> rw [h]
  · exact fin s3L (k4.up (g1.trans (g2.trans (g3.trans (s5.trans s6))))) rep_val
  · exact fin s3L (k5.up (s5.trans s6)) (rep_own (f := fun w => decide (w = "integer") || decide (w = "fault")) (List.pairwise_singleton _ _) fun k hk => by (rw [List.mem_singleton.mp hk]); omega)
  · exact fin s3L (k6.up s6) rep_all
end
abbrev sWide : Stmt := topS 22
theorem scWide : FnScope ["_law_box_here", "_law_found", "_law_turn", "_law_other"] ["_law_box_here"] (defScope sWide) := ⟨rfl, rfl, rfl, by decide +kernel, rfl, by decide +kernel, by decide +kernel⟩
section
variable {P : Program} {w : World} {K : PySem.W.Frag} {mg : Str → Option Value} {base : Heap} {f fT fL fM fS : Addr} {fd dT dL dM dS : FuncData}
theorem ok_wide {k : Nat} (F : Fun K "_law_wide" "_law_wide" sWide f fd) (B : Bi mg) (hso : mg "sorted" = none) (hse : mg "set" = none) (hli : mg "list" = none) (T : Tk P w K mg base fT dT) (GS : Dn P w K mg base 3 "_law_some_kinds" ["_law_box_here"] (spSome K) fS dS)
    (GM : Dn P w K mg base 1 "_law_meet" ["_law_one", "_law_other"] (spMeet K and) fM dM) (GL : Dn P w K mg base 2 "_law_less" ["_law_one", "_law_other"] (spMeet K fun x y => x && !y) fL dL) :
    FnOk P w K mg base CX0 (k + 4) f fd ["_law_box_here"] (spSome K) := by
  refine F.ok scWide (fun vs H Q E h => ?_) (fun cdv A outer s H vs Q E hr h => ?_)
  · obtain ⟨p, g, rfl, _⟩ := h
    rfl
  obtain ⟨p, g, rfl, b0, q⟩ := h
  have hr1 : Room 1 _ := hr.mono (by omega)
  have hr2 : Room 2 _ := hr.mono (by omega)
  have hr3 : Room 3 _ := hr.mono (by omega)
  refine ⟨_, pss_cons (ps_set (i := 1) scWide.nd rfl (.inl rfl) (pe_call GS.ok hr3 (by rfl) GS.mg GS.kp GS.bd .nil pass0 (pa_cons (pv 0) pa_nil)))
    (pss_cons (ps_for PassesOwn.never rfl (pi_range1 (by rfl) B.rng (pa_cons (pe_call T.ok hr1 (by rfl) T.mg T.kp T.bd .nil pass0 (pa_cons (pv 0) (pa_cons pe_int pa_nil))) pa_nil)) (pg_name (i := 2) scWide.nd rfl (.inl rfl))
      (pss_cons (ps_set (i := 3) scWide.nd rfl (.inl rfl) (pe_call GS.ok hr3 (by rfl) GS.mg GS.kp GS.bd .nil pass0 (pa_cons (pv 0) pa_nil)))
      (pss_cons (ps_if (pt_cmpR op_eq (pe_call T.ok hr1 (by rfl) T.mg T.kp T.bd .nil pass0 (pa_cons (pv 0) (pa_cons pe_int pa_nil))) pe_int (nomark _))
        (pss_one (ps_set (i := 3) scWide.nd rfl (.inl rfl) (pe_tup (pa_cons (pe_ix ix_tup (pv 3) pe_int (fun _ _ => rfl)) (pa_cons (pe_callTy call_tuple_of (by rfl) B.tup b_tup (pa_cons (pe_callB (cr_sortedSet rfl) (by rfl) hso (by decide +kernel)
          (pa_cons (pe_callTy (cr_setI rfl) (by rfl) hse PyProof.Rows.boot_set (pa_cons (pe_op op_cat (pe_callTy call_list_of (by rfl) hli PyProof.Rows.boot_list (pa_cons (pe_ix ix_tup (pv 3) pe_int (fun _ _ => rfl)) pa_nil))
            (pe_lst (pa_cons (pe_op op_add pe_int (pe_call T.ok hr1 (by rfl) T.mg T.kp T.bd .nil pass0 (pa_cons (pv 0) (pa_cons pe_int pa_nil)))) pa_nil))) pa_nil)) pa_nil)) pa_nil)) (pa_cons (pe_ix ix_tup (pv 3) pe_int (fun _ _ => rfl)) pa_nil)))))) pss_nil)
      (pss_one (ps_set (i := 1) scWide.nd rfl (.inl rfl) (pe_ix ix_list (pe_lst (pa_cons (pe_call GM.ok hr1 (by rfl) GM.mg GM.kp GM.bd .nil pass0 (pa_cons (pv 1) (pa_cons (pv 3) pa_nil))) (pa_cons (pe_call GL.ok hr2 (by rfl) GL.mg GL.kp GL.bd .nil pass0 (pa_cons (pv 1) (pa_cons (pv 3) pa_nil))) (pa_cons (pv 3) pa_nil))))
        (pe_call T.ok hr1 (by rfl) T.mg T.kp T.bd .nil pass0 (pa_cons (pv 0) (pa_cons pe_int pa_nil))) (fun _ _ => rfl)))))))
    (pss_one (ps_ret (pv 1)))), ?_⟩
  refine ⟨_, rfl, p, g, rfl, b0, fun t1 m1 f1 g1 H1 o1 b1 k1 e1 => ?_⟩
  refine ⟨_, rfl, p, g, 4, rfl, b1, by decide, by decide, fun r H2 r0 r4 b2 o2 => ?_⟩
  refine ⟨r, rfl, by omega, by omega, for_range (n := r.toNat) (fun i σ H2 => ∃ t m f g' o2 o3, σ = [some (.ref p), some (.ref t), o2, o3] ∧ Off [p, g] H H2 ∧ Box H2 p g ∧ MAt K H2 t m ∧ Rep m f g') ⟨t1, m1, _, _, none, none, rfl, o1.trans o2, b2, k1.off b1 o2, e1⟩ ?_ ?_⟩
  · rintro i σ H2 hi ⟨t, m, f, g', o2, o3, rfl, of2, b2, k2, e2⟩
    have rest : ∀ (D : Ends) (x2 : Option V) (t' : Addr) (m' : Ks) (f' : Str → Bool) (g'' : Int → Bool) (H5 : Hp), Off [p, g] H H5 → Box H5 p g → MAt K H5 t m → MAt K H5 t' m' → Rep m' f' g'' → (∀ t9 m9 f9 g9 H9, Off [p, g] H H9 → Box H9 p g → MAt K H9 t9 m9 → Rep m9 f9 g9 → D.nx [some (.ref p), some (.ref t9), x2, some (.ref t')] H9) →
        tAsg (tOp (rIxL K) (tLst (tCons (tCall (spMeet K and) [] E0 (tCons (tVar 1) (tCons (tVar 3) tNil))) (tCons (tCall (spMeet K fun x y => x && !y) [] E0 (tCons (tVar 1) (tCons (tVar 3) tNil))) (tCons (tVar 3) tNil)))) (tCall spTake [] E0 (tCons (tVar 0) (tCons (tC (.int 3)) tNil)))) (gName 1) D [some (.ref p), some (.ref t), x2, some (.ref t')] H5 :=
      fun D x2 t' m' f' g'' H5 of5 b5 k5 k5' e5' qq => by
        refine ⟨_, rfl, _, rfl, t, t', m, m', _, _, _, _, rfl, k5, k5', e2, e5', fun u1 n1 H6 s6 k6 e6 => ?_⟩
        refine ⟨_, rfl, _, rfl, t, t', m, m', _, _, _, _, rfl, k5.up s6, k5'.up s6, e2, e5', fun u2 n2 H7 s7 k7 e7 => ?_⟩
        refine ⟨_, rfl, few (by simp), fun L hL => ?_⟩
        have s8 := same_new (o := .lst [.ref u1, .ref u2, .ref t']) hL
        have s58 := s6.trans (s7.trans s8)
        have b8 := b5.same s58
        have nL := (b5.same (s6.trans s7)).notin hL
        refine ⟨_, rfl, p, g, 3, rfl, b8, by decide, by decide, fun r2 H9 r20 r23 b9 o9 => ?_⟩
        obtain ⟨y, hy, my, _⟩ := atI_ok (xs := [V.ref u1, .ref u2, .ref t']) r20 (by simpa using r23)
        refine ⟨L, _, r2, y, rfl, rfl, SqL.of (o9.get upd_same nL), hy, ?_⟩
        have of9 := of5.trans ((Off.of s58).trans o9)
        simp only [List.mem_cons, List.not_mem_nil, or_false] at my
        rcases my with h | h | h <;> rw [h]
        · exact qq u1 n1 _ _ H9 of9 b9 ((k6.up (s7.trans s8)).off b8 o9) e6
        · exact qq u2 n2 _ _ H9 of9 b9 ((k7.up s8).off b8 o9) e7
        · exact qq t' m' _ _ H9 of9 b9 ((k5'.up s58).off b8 o9) e5'
    refine ⟨_, rfl, p, g, rfl, b2, fun t' m' f' g'' H3 oo3 b3 k3 e3 => ?_⟩
    refine ⟨_, rfl, p, g, 4, rfl, b3, by decide, by decide, fun r2 H4 r20 r24 b4 o4 => ⟨rfl, _, rfl, ?_⟩⟩
    have k4 := (k2.off b2 oo3).off b3 o4
    have k4' := k3.off b3 o4
    have of4 := of2.trans (oo3.trans o4)
    refine ite2 (fun _ => ?_) (fun _ => ?_)
    · obtain ⟨tw, ts, ht, hw, hs⟩ := id k4'
      refine ⟨_, rfl, t', _, 0, _, rfl, rfl, ht, rfl, ?_⟩
      refine ⟨_, rfl, t', _, 1, _, rfl, rfl, ht, rfl, ts, _, rfl, .inr hs, fun L1 hL1 => ?_⟩
      have s5 := same_new (o := .lst (m'.sz.map V.int)) hL1
      have nL1 := b4.notin hL1
      have b5 := b4.same s5
      refine ⟨_, rfl, p, g, 17, rfl, b5, by decide, by decide, fun r3 H6 r30 r37 b6 o6 => ⟨_, _, rfl, rfl, few (by simp), fun L2 hL2 => ?_⟩⟩
      have s7 := same_new (o := .lst [V.int (4 + r3)]) hL2
      have lz := e3.len
      refine ⟨L1, L2, _, _, rfl, rfl, s7 _ _ (o6.get upd_same nL1), upd_same, few2 (by rw [List.length_map]; simp only [List.length_cons, List.length_nil]; omega), fun L3 hL3 => ?_⟩
      have s8 := same_new (o := .lst (m'.sz.map V.int ++ [V.int (4 + r3)])) hL3
      refine ⟨L3, m'.sz ++ [4 + r3], rfl, .inl (SqL.of (by rw [upd_same, List.map_append]; rfl)), by rw [List.length_append, List.length_singleton]; omega, fun u c0 hu hc0 => ?_⟩
      rw [List.length_append, List.length_singleton] at hc0
      have s9 := same_new (o := SetO w u (fun j => decide (j ∈ m'.sz ++ [4 + r3])) c0) hu
      refine ⟨u, _, c0, rfl, upd_same, by omega, fun ns' p2 srt mem hlen hp2 => ?_⟩
      have s10 := same_new (o := .lst (ns'.map V.int)) hp2
      refine ⟨p2, _, rfl, .inl ⟨SqL.of upd_same, fun t3 ht3 => ?_⟩⟩
      have s11 := same_new (o := .tup (ns'.map V.int)) ht3
      have s6b := s7.trans (s8.trans (s9.trans (s10.trans s11)))
      have k6 := (((k4'.up s5).off b5 o6).up s6b)
      have kf := (((k4.up s5).off b5 o6).up s6b)
      have b12 := b6.same s6b
      have of12 := of4.trans ((Off.of s5).trans (o6.trans (Off.of s6b)))
      have ht12 : SqT K _ t' _ := seqT_up s6b (seqT_up (cut_same _ _) (seqT_up o6 (seqT_box b5 (seqT_up s5 ht))))
      have hw12 : SqT K _ tw _ := seqT_up s6b (seqT_up (cut_same _ _) (seqT_up o6 (seqT_box b5 (seqT_up s5 hw))))
      refine ⟨_, rfl, t', _, 2, _, rfl, rfl, ht12, rfl, few (by simp), fun t9 ht9 => ?_⟩
      have s13 := same_new (o := .tup [.ref tw, .ref t3, .bl m'.but]) ht9
      refine rest _ _ t9 ⟨m'.ws, m'.but, ns'⟩ f' (fun k => decide (k ∈ ns') != m'.but) _ (of12.trans (Off.of s13)) (b12.same s13) (kf.up s13) (MAt.of (m := ⟨m'.ws, m'.but, ns'⟩) upd_same (seqT_up s13 hw12) (.inl (.inl (s13 _ _ upd_same)))) ⟨e3.w, srt, fun k hk => ?_, fun _ => rfl⟩ fun t9 m9 f9 g9 H9 a1 a2 a3 a4 => ⟨t9, m9, f9, g9, _, _, rfl, a1, a2, a3, a4⟩
      have hk := of_decide_eq_true ((mem k).mp hk)
      rcases List.mem_append.mp hk with h | h
      · exact e3.bd k h
      · rw [List.mem_singleton.mp h]
        omega
    · exact rest _ _ t' m' f' g'' _ of4 b4 k4 k4' e3 fun t9 m9 f9 g9 H9 a1 a2 a3 a4 => ⟨t9, m9, f9, g9, _, _, rfl, a1, a2, a3, a4⟩
  · rintro σ H2 ⟨t, m, f, g', o2, o3, rfl, of2, b2, k2, e2⟩
    exact ⟨_, rfl, q t m f g' H2 of2 b2 k2 e2⟩
end
theorem scTxt : FnScope ["kinds", "words", "but", "sizes", "texts", "heads", "word", "k"] ["kinds"] (defScope sTxt) := ⟨rfl, rfl, rfl, by decide +kernel, rfl, by decide +kernel, by decide +kernel⟩
theorem joinL_len {S : List Nat} {b : Nat} : ∀ ps : List (List Nat), (∀ p ∈ ps, p.length ≤ b) → (TL.joinL S ps).length ≤ ps.length * (b + S.length)
  | [], _ => Nat.zero_le _
  | [p], h => by
    have := h p List.mem_cons_self
    show p.length ≤ 1 * (b + S.length)
    omega
  | p :: q :: r, h => by
    have ih := joinL_len (S := S) (b := b) (q :: r) fun x hx => h x (List.mem_cons_of_mem _ hx)
    have := h p List.mem_cons_self
    show (p ++ (S ++ TL.joinL S (q :: r))).length ≤ _
    rw [List.length_append, List.length_append, List.length_cons (a := p), Nat.succ_mul]
    omega
theorem join_len {a : Str} {b : Nat} (ys : List Str) (h : ∀ y ∈ ys, y.length ≤ b) : (Txt.join a ys).length ≤ ys.length * (b + a.length) := by
  rw [TL.join_eq, TL.len_tl, TL.tl_join, TL.len_tl a]
  have q := joinL_len (S := TL.tl a) (b := b) (ys.map TL.tl) fun p hp => by
    obtain ⟨y, hy, rfl⟩ := List.mem_map.mp hp
    rw [← TL.len_tl]
    exact h y hy
  rwa [List.length_map] at q
theorem sum_len {b : Nat} : ∀ ys : List Str, (∀ y ∈ ys, y.length ≤ b) → (ys.map (·.length)).sum ≤ ys.length * b
  | [], _ => Nat.zero_le _
  | y :: ys, h => by
    have ih := sum_len ys fun z hz => h z (List.mem_cons_of_mem _ hz)
    have := h y List.mem_cons_self
    rw [List.map_cons, List.sum_cons, List.length_cons, Nat.succ_mul]
    omega
theorem small_txt : ∀ n : Fin 21, (toString ((n.val : Nat) : Int) : Str).length ≤ 5 := by decide +kernel
theorem small_int {k : Int} (h0 : 0 ≤ k) (h : k ≤ 20) : (toString k : Str).length ≤ 5 := by
  have e : k = ((k.toNat : Nat) : Int) := by omega
  rw [e]
  exact small_txt ⟨k.toNat, by omega⟩
theorem kW_len : ∀ x ∈ kW, x.length ≤ 200 := by decide +kernel
theorem seqT_putL {K : PySem.W.Frag} {H : Hp} {D tw : Addr} {xs ws : List V} {o : HO} (hD : H D = some (.lst xs)) (h : SqT K H tw ws) : SqT K (upd H D o) tw ws := by
  rcases h with (h | ⟨u, h⟩) | h
  · exact .inl (.inl (by rw [upd_ne (fun z => by rw [z, hD] at h; cases h)]; exact h))
  · exact .inl (.inr ⟨u, by rw [upd_ne (fun z => by rw [z, hD] at h; cases h)]; exact h⟩)
  · exact .inr h
def midM (b : Bool) (z : List Int) : List Str := if z.isEmpty then (if b then [Txt.join " " ["tuple"]] else []) else [Txt.join " " ((if b then (["tuple", "but"] : List Str) else ["tuple"]) ++ z.map fun k => (toString k : Str))]
def ptsM (m : Ks) : List Str := (m.ws.filter fun w : Str => !decide (w = ("fault" : Str))) ++ midM m.but m.sz ++ (if decide (("fault" : Str) ∈ m.ws) then [("fault" : Str)] else ([] : List Str))
def txtM (m : Ks) : Str := if (ptsM m).isEmpty then "nothing" else Txt.join "|" (ptsM m)
theorem dst (x y : Str) : decide (V.str x = V.str y) = decide (x = y) := by
  by_cases h : x = y
  · rw [decide_eq_true h, decide_eq_true (congrArg V.str h)]
  · rw [decide_eq_false h, decide_eq_false fun z => h (V.str.inj z)]
def spTxt (K : PySem.W.Frag) (C : Addr) : Sp := fun vs H Q _ => ∃ a m f g, vs = [.ref a] ∧ KAt K C H a m ∧ Rep m f g ∧ ∀ H', Same H H' → Q (.str (txtM m)) H'
section
variable {P : Program} {w : World} {K : PySem.W.Frag} {mg : Str → Option Value} {base : Heap} {f C fE fI fP fT : Addr} {fd dI dP dT : FuncData}
theorem ok_txt {k : Nat} (F : Fun K "text_of" "text_of" sTxt f fd) (B : Bi mg) (T : KC K mg C fE) (GP : Dn P w K mg base 1 "parts_of" ["kinds"] (spPts K C) fP dP) : FnOk P w K mg base CX0 (k + 2) f fd ["kinds"] (spTxt K C) := by
  refine F.ok scTxt (fun vs H Q E h => ?_) (fun cdv A outer s H vs Q E hr h => ?_)
  · obtain ⟨a, m, f, g, rfl, _⟩ := h
    rfl
  obtain ⟨a, m, f, g, rfl, ha, rm, q⟩ := h
  have hr1 : Room 1 _ := hr.mono (by omega)
  refine ⟨_, pss_cons (ps_asg (pe_call GP.ok hr1 (by rfl) GP.mg GP.kp GP.bd .nil pass0 (pa_cons (pv 0) pa_nil)) (pg_tup (by rfl) (pgs_cons (pg_name (i := 1) scTxt.nd rfl (.inl rfl)) (pgs_cons (pg_name (i := 2) scTxt.nd rfl (.inl rfl)) (pgs_cons (pg_name (i := 3) scTxt.nd rfl (.inl rfl)) pgs_nil)))))
    (pss_cons (ps_setLc (i := 4) (own := [("word", 6)]) (g := gName 6) (by rfl) scTxt.nd rfl rfl (sw_true rfl rfl rfl (by decide +kernel)) (pi_tup (pv 1))
      (blkOk_by (own := [("word", 6)]) (N := ["kinds", "words", "but", "sizes", "texts", "heads", "word", "k"]) (sc := defScope sTxt) (by decide +kernel))
      (fun _ _ _ _ _ => pg_name (i := 6) scTxt.nd rfl (Or.inl rfl)) (fun _ _ _ _ _ => pts_one (pt_cmpR op_ne (pv 6) pe_str (nomark _))) (fun _ _ _ _ _ => pv 6))
    (pss_cons (ps_if (PW.pt (pw_or (pt_val (pv 2)) (pw_or1 (pt_truth (pv 3) (fun _ => rfl)))))
      (pss_cons (ps_set (i := 5) scTxt.nd rfl (.inl rfl) (pe_ifExp (PW.pt (pw_and (pt_val (pv 2)) (pw_and1 (pt_truth (pv 3) (fun _ => rfl))))) (pe_lst (pa_cons pe_str (pa_cons pe_str pa_nil))) (pe_lst (pa_cons pe_str pa_nil))))
      (pss_one (ps_expr (pe_bm PySem.F.plainAttrs_list PySem.F.slot_list_append PySem.F.type_list_append mt_append (pv 4) (pa_cons (pe_join pe_str (pe_op op_cat (pv 5) (pe_lc (own := [("k", 7)]) (g := gName 7) (by rfl) scTxt.nd (pi_tup (pv 3))
        (blkOk_by (own := [("k", 7)]) (N := ["kinds", "words", "but", "sizes", "texts", "heads", "word", "k"]) (sc := defScope sTxt) (by decide +kernel))
        (fun _ _ _ _ _ => pg_name (i := 7) scTxt.nd rfl (Or.inl rfl)) (fun _ _ _ _ _ => pts_nil) (fun _ _ _ _ _ => pe_callTy call_str_int (by rfl) B.str b_str (pa_cons (pv 7) pa_nil))))) pa_nil))))) pss_nil)
    (pss_cons (ps_if (pt_cmpR op_in_seq pe_str (pv 1) rfl) (pss_one (ps_expr (pe_bm PySem.F.plainAttrs_list PySem.F.slot_list_append PySem.F.type_list_append mt_append (pv 4) (pa_cons pe_str pa_nil)))) pss_nil)
    (pss_one (ps_ret (pe_ifExp (pt_truth (pv 4) (fun _ => rfl)) (pe_join pe_str (pv 4)) pe_str)))))), ?_⟩
  refine ⟨_, rfl, a, m, rfl, ha, fun t tw ts H1 s1 ht hw hs => ?_⟩
  refine ⟨t, _, rfl, .inl (.inl ht), rfl, _, _, rfl, _, _, rfl, _, _, rfl, rfl, ?_⟩
  have lw : m.ws.length ≤ 3 := by rw [rm.w]; exact List.length_filter_le _ kW
  have lz := rm.len
  refine ⟨_, rfl, tw, rfl, ⟨_, hw⟩, fun D hD => along (walk_tup (K := K) (a := tw) (xs := m.ws.map V.str)) (fun i H2 => H2 D = some (.lst (((m.ws.take i).filter fun w : Str => !decide (w = ("fault" : Str))).map V.str)) ∧ Same H1 H2) ⟨upd_same, same_new hD _⟩ (fun i H2 _ ⟨_, h⟩ => seqT_up h hw) ?_ ?_⟩
  · rintro i y H2 H3 hi ⟨h1, h2⟩ ⟨rfl, hy⟩
    rw [List.length_map] at hi
    obtain ⟨x, hx, rfl⟩ := map_get hy
    have tf := take_filter (p := fun w : Str => !decide (w = ("fault" : Str))) hx
    refine ⟨rfl, _, rfl, rfl, _, rfl, ?_⟩
    rw [dst]
    refine ite2 (fun c => ?_) (fun c => ?_)
    · refine ⟨_, rfl, _, h1, ?_, ?_, fun b o z => ?_⟩
      · rw [List.length_map]
        have := List.length_filter_le (fun w : Str => !decide (w = ("fault" : Str))) (m.ws.take i)
        rw [List.length_take] at this
        exact small1000 (by omega)
      · rw [upd_same, tf, if_pos c, List.map_append]
        rfl
      · rw [upd_ne (ne_of_none z hD)]
        exact h2 b o z
    · refine ⟨?_, h2⟩
      rw [tf, if_neg c, List.append_nil]
      exact h1
  rintro H2 ⟨h1, h2⟩
  rw [List.length_map, List.take_of_length_le (Nat.le_refl _)] at h1
  have hys : ∃ ys, ys = m.ws.filter fun w : Str => !decide (w = ("fault" : Str)) := ⟨_, rfl⟩
  obtain ⟨ys, eys⟩ := hys
  rw [← eys] at h1
  have hl : ys.length ≤ 3 := by
    rw [eys]
    exact Nat.le_trans (List.length_filter_le _ _) lw
  have hlen : ∀ y ∈ ys, y.length ≤ 200 := fun y hy => kW_len y (by
    rw [eys] at hy
    have := (List.mem_filter.mp hy).1
    rw [rm.w] at this
    exact (List.mem_filter.mp this).1)
  have hw2 := seqT_up h2 hw
  have hs2 := seqT_up h2 hs
  have s02 := s1.trans h2
  refine ⟨_, rfl, m.but, rfl, ?_⟩
  have one : ("|" : Str).length = 1 := by decide +kernel
  have one2 : (" " : Str).length = 1 := by decide +kernel
  have fin2 : ∀ (H6 : Hp) (zs : List Str) (o5 : Option V), Same H H6 → H6 D = some (.lst (zs.map V.str)) → zs.length ≤ 7 → (∀ y ∈ zs, y.length ≤ 200) → zs = ptsM m →
      tRet (tIf (fun σ H Q => tVar 4 σ H fun x H' => ∃ k, TruV K x H' k ∧ Q k H') (tM1 (fun x xs H Q => ∃ a p, ∃ ys : List Str, x = .str a ∧ xs = [.ref p] ∧ (SqL K H p (ys.map V.str) ∨ SqT K H p (ys.map V.str)) ∧ (ys.map (·.length)).sum + ys.length * a.length ≤ 16777216 ∧ Q (.str (Txt.join a ys)) H) (tC (.str "|")) (tVar 4)) (tC (.str "nothing")))
        { nx := fun _ H' => Q .non H', rt := Q } [some (.ref a), some (.ref tw), some (.bl m.but), some (.ref ts), some (.ref D), o5, none, none] H6 := fun H6 zs o5 s6 hz lz hlen ez => by
    have sl := sum_len zs hlen
    have q6 := q H6 s6
    unfold txtM at q6
    rw [← ez] at q6
    refine ⟨_, rfl, _, .inl ⟨_, SqL.of hz, rfl⟩, ite2 (fun c => ?_) (fun c => ?_)⟩
    · refine ⟨⟨_, rfl⟩, _, rfl, _, D, zs, rfl, rfl, .inl (SqL.of hz), by (rw [one]; omega), ?_⟩
      rw [List.isEmpty_map] at c
      rw [if_neg (fun z => by rw [z] at c; cases c)] at q6
      exact q6
    · rw [List.isEmpty_map] at c
      rw [if_pos (by cases e : zs.isEmpty with | true => rfl | false => exact absurd (by rw [e]; rfl) c)] at q6
      exact q6
  have fin : ∀ (H5 : Hp) (zs : List Str) (o5 : Option V), Same H H5 → H D = none → H5 D = some (.lst (zs.map V.str)) → zs.length ≤ 6 → (∀ y ∈ zs, y.length ≤ 200) → SqT K H5 tw (m.ws.map V.str) → zs = ys ++ midM m.but m.sz →
      tSeq (tIfS (tB (tOp (rIn K false) (tC (.str "fault")) (tVar 1))) (tDrop (tBM K "list" rAppend (tVar 4) (tCons (tC (.str "fault")) tNil))) tNext) (tRet (tIf (fun σ H Q => tVar 4 σ H fun x H' => ∃ k, TruV K x H' k ∧ Q k H') (tM1 (fun x xs H Q => ∃ a p, ∃ ys : List Str, x = .str a ∧ xs = [.ref p] ∧ (SqL K H p (ys.map V.str) ∨ SqT K H p (ys.map V.str)) ∧ (ys.map (·.length)).sum + ys.length * a.length ≤ 16777216 ∧ Q (.str (Txt.join a ys)) H) (tC (.str "|")) (tVar 4)) (tC (.str "nothing"))))
        { nx := fun _ H' => Q .non H', rt := Q } [some (.ref a), some (.ref tw), some (.bl m.but), some (.ref ts), some (.ref D), o5, none, none] H5 := fun H5 zs o5 s5 hD0 hz lz hlen hw5 ez => by
    refine ⟨_, rfl, tw, _, rfl, .inr hw5, rfl, flat_strs _, _, rfl, ?_⟩
    show if inV (.str "fault") (m.ws.map V.str) = true then _ else _
    rw [inV_str]
    refine ite2 (fun c => ?_) (fun c => fin2 H5 zs o5 s5 hz (by omega) hlen (by unfold ptsM; rw [if_neg c, List.append_nil, ez, eys]))
    refine ⟨_, rfl, .inl ⟨rfl, _, SqL.of hz⟩, D, _, _, rfl, rfl, hz, small1000 (by rw [List.length_map]; omega), ?_⟩
    refine fin2 _ (zs ++ [("fault" : Str)]) o5 (fun b o z => ?_) ?_ (by rw [List.length_append, List.length_singleton]; omega) (fun y hy => ?_) (by unfold ptsM; rw [if_pos c, ez, eys])
    · rw [upd_ne (ne_of_none z hD0)]
      exact s5 b o z
    · rw [upd_same, List.map_append]
      rfl
    · rcases List.mem_append.mp hy with h | h
      · exact hlen y h
      · rw [List.mem_singleton.mp h]
        decide +kernel
  have hD0 : H D = none := by
    cases e : H D with
    | none => rfl
    | some o =>
      rw [s1 _ _ e] at hD
      cases hD
  have body : ∀ (hs0 : List Str) (H5 : Hp) (L5 : Addr), Same H2 H5 → H5 L5 = some (.lst (hs0.map V.str)) → hs0.length ≤ 2 → (∀ y ∈ hs0, y.length ≤ 5) → midM m.but m.sz = [Txt.join " " (hs0 ++ m.sz.map fun k => (toString k : Str))] →
      tSeq (tDrop (tBM K "list" rAppend (tVar 4) (tCons (tM1 (fun x xs H Q => ∃ a p, ∃ ys : List Str, x = .str a ∧ xs = [.ref p] ∧ (SqL K H p (ys.map V.str) ∨ SqT K H p (ys.map V.str)) ∧ (ys.map (·.length)).sum + ys.length * a.length ≤ 16777216 ∧ Q (.str (Txt.join a ys)) H) (tC (.str " ")) (tOp rCat (tVar 5) (tLc (iTup K (tVar 3)) (gName 7) tYes (tCB (fun xs H Q => ∃ i, xs = [V.int i] ∧ i.natAbs.log2 < 1920 ∧ Q (V.str (toString i)) H) (tCons (tVar 7) tNil)) [7]))) tNil)))
        (tSeq (tIfS (tB (tOp (rIn K false) (tC (.str "fault")) (tVar 1))) (tDrop (tBM K "list" rAppend (tVar 4) (tCons (tC (.str "fault")) tNil))) tNext) (tRet (tIf (fun σ H Q => tVar 4 σ H fun x H' => ∃ k, TruV K x H' k ∧ Q k H') (tM1 (fun x xs H Q => ∃ a p, ∃ ys : List Str, x = .str a ∧ xs = [.ref p] ∧ (SqL K H p (ys.map V.str) ∨ SqT K H p (ys.map V.str)) ∧ (ys.map (·.length)).sum + ys.length * a.length ≤ 16777216 ∧ Q (.str (Txt.join a ys)) H) (tC (.str "|")) (tVar 4)) (tC (.str "nothing")))))
        { nx := fun _ H' => Q .non H', rt := Q } [some (.ref a), some (.ref tw), some (.bl m.but), some (.ref ts), some (.ref D), some (.ref L5), none, none] H5 := fun hs0 H5 L5 s5 h5 l5 len5 em => by
    have h15 := s5 _ _ h1
    refine ⟨_, rfl, .inl ⟨rfl, _, SqL.of h15⟩, ⟨_, rfl⟩, _, rfl, _, rfl, ts, rfl, ⟨_, seqT_up s5 hs2⟩, fun D7 hD7 => along (walk_tup (K := K) (a := ts) (xs := m.sz.map V.int)) (fun i H6 => H6 D7 = some (.lst (((m.sz.take i).map fun k => (toString k : Str)).map V.str)) ∧ Same H5 H6) ⟨upd_same, same_new hD7 _⟩ (fun i H6 _ ⟨_, h⟩ => seqT_up h (seqT_up s5 hs2)) ?_ ?_⟩
    · rintro i y H6 H7 hi ⟨k1, k4⟩ ⟨rfl, hy⟩
      rw [List.length_map] at hi
      obtain ⟨x, hx, rfl⟩ := map_get hy
      have bx := rm.bd x (List.mem_of_getElem? hx)
      refine ⟨rfl, _, rfl, x, rfl, ?_, _, k1, small1000 (by rw [List.length_map, List.length_map, List.length_take]; omega), ?_, fun b o z => ?_⟩
      · have e : x.natAbs < 2 ^ 1000 := Nat.lt_of_lt_of_le (by omega : x.natAbs < 2 ^ 10) (Nat.pow_le_pow_right (by decide) (by decide))
        exact Nat.lt_trans (PySem.Flt.log2_lt_of (by decide) e) (by decide)
      · rw [upd_same, get_take hx, List.map_append, List.map_append]
        rfl
      · rw [upd_ne (ne_of_none z hD7)]
        exact k4 b o z
    · rintro H6 ⟨k1, k4⟩
      rw [List.length_map, List.take_of_length_le (Nat.le_refl _)] at k1
      have hks : ∃ ks, ks = m.sz.map fun k => (toString k : Str) := ⟨_, rfl⟩
      obtain ⟨ks, eks⟩ := hks
      rw [← eks] at k1 em
      have k2 : ks.length ≤ 21 := by rw [eks, List.length_map]; exact lz
      have k3 : ∀ y ∈ ks, y.length ≤ 5 := fun y hy => by
        rw [eks] at hy
        obtain ⟨k, hk, rfl⟩ := List.mem_map.mp hy
        exact small_int (rm.bd k hk).1 (rm.bd k hk).2
      refine ⟨L5, D7, _, _, rfl, rfl, k4 _ _ h5, k1, few2 (by rw [List.length_map, List.length_map]; omega), fun D8 hD8 => ?_⟩
      have s8 := same_new (o := .lst (hs0.map V.str ++ ks.map V.str)) hD8
      have len8 : ∀ y ∈ hs0 ++ ks, y.length ≤ 5 := fun y hy => (List.mem_append.mp hy).elim (len5 y) (k3 y)
      have sl := sum_len (hs0 ++ ks) len8
      have ll : (hs0 ++ ks).length ≤ 23 := by rw [List.length_append]; omega
      refine ⟨_, D8, hs0 ++ ks, rfl, rfl, .inl (SqL.of (by rw [upd_same, List.map_append])), by (rw [one2]; omega), ?_⟩
      have s28 := s5.trans (k4.trans s8)
      have h18 := s28 _ _ h1
      refine ⟨D, _, _, rfl, rfl, h18, small1000 (by rw [List.length_map]; omega), ?_⟩
      have jl := join_len (a := " ") (hs0 ++ ks) len8
      rw [one2] at jl
      have s08 := s02.trans s28
      refine fin _ (ys ++ [Txt.join " " (hs0 ++ ks)]) _ (fun b o z => ?_) hD0 ?_ (by rw [List.length_append, List.length_singleton]; omega) (fun y hy => ?_) ?_ (by rw [em])
      · rw [upd_ne (ne_of_none z hD0)]
        exact s08 b o z
      · rw [upd_same, List.map_append]
        rfl
      · rcases List.mem_append.mp hy with h | h
        · exact hlen y h
        · rw [List.mem_singleton.mp h]
          omega
      · exact seqT_putL h18 (seqT_up s28 hw2)
  have two : ∀ y ∈ (["tuple", "but"] : List Str), y.length ≤ 5 := by decide +kernel
  have onl : ∀ y ∈ (["tuple"] : List Str), y.length ≤ 5 := by decide +kernel
  have ise : (m.sz.map V.int).isEmpty = m.sz.isEmpty := List.isEmpty_map
  refine ite2 (fun c => iteT ?A) (fun c => ⟨_, rfl, _, .inr (.inl ⟨_, hs2, rfl⟩), ite2 (fun d => ?A2) (fun d => ?A3)⟩)
  case A =>
    refine ⟨_, rfl, m.but, rfl, ite2 (fun _ => ⟨_, rfl, _, .inr (.inl ⟨_, hs2, rfl⟩), ite2 (fun d => ?_) (fun d => ?_)⟩) (fun e => absurd c e)⟩
    · rw [ise] at d
      refine ⟨few (by simp), fun L5 hL5 => body ["tuple", "but"] _ L5 (same_new hL5 _) upd_same (by simp) two ?_⟩
      unfold midM
      rw [if_neg (fun z => by rw [z] at d; cases d), if_pos c]
    · rw [ise] at d
      have z : m.sz = [] := by
        cases e : m.sz with
        | nil => rfl
        | cons x y => exact absurd (by rw [e]; rfl) d
      refine ⟨few (by simp), fun L5 hL5 => body ["tuple"] _ L5 (same_new hL5 _) upd_same (by simp) onl ?_⟩
      unfold midM
      rw [z, c]
      rfl
  case A2 =>
    rw [ise] at d
    refine ⟨_, rfl, m.but, rfl, ite2 (fun e => absurd e c) (fun _ => iteF ?_)⟩
    refine ⟨few (by simp), fun L5 hL5 => body ["tuple"] _ L5 (same_new hL5 _) upd_same (by simp) onl ?_⟩
    unfold midM
    rw [if_neg (fun z => by rw [z] at d; cases d), if_neg c]
  case A3 =>
    rw [ise] at d
    refine fin H2 ys none s02 hD0 h1 (by omega) hlen hw2 ?_
    have z : m.sz = [] := by
      cases e : m.sz with
      | nil => rfl
      | cons x y => exact absurd (by rw [e]; rfl) d
    unfold midM
    rw [z, Bool.eq_false_iff.mpr c]
    exact (List.append_nil _).symm
theorem ok_strK {k : Nat} (F : Fun K "__str__" "Kinds.__str__" sStrK f fd) (B : Bi mg) (GT : Dn P w K mg base 2 "text_of" ["kinds"] (spTxt K C) fT dT) : FnOk P w K mg base CX0 (k + 3) f fd ["self"] (spTxt K C) := by
  refine F.ok scStrK (fun vs H Q E h => ?_) (fun cdv A outer s H vs Q E hr h => ?_)
  · obtain ⟨a, m, f, g, rfl, _⟩ := h
    rfl
  obtain ⟨a, m, f, g, rfl, ha, rm, q⟩ := h
  have hr2 : Room 2 _ := hr.mono (by omega)
  refine ⟨_, pss_one (ps_ret (pe_callTy SkE.call_str_str (by rfl) B.str b_str (pa_cons (pe_call GT.ok hr2 (by rfl) GT.mg GT.kp GT.bd .nil pass0 (pa_cons (pv 0) pa_nil)) pa_nil))), ?_⟩
  exact ⟨_, rfl, a, m, f, g, rfl, ha, rm, fun H1 s1 => ⟨_, rfl, q H1 s1⟩⟩
end
/-- a kind -/
inductive Pb where
  | w (x : Str)
  | s (k : Int)
def Pb.v : Pb → V
  | .w x => .str x
  | .s k => .int k
def Pb.d : Pb → PyData
  | .w x => .str x
  | .s k => .int k
def oV : Option Pb → V
  | some b => b.v
  | none => .non
def oD : Option Pb → PyData
  | some b => b.d
  | none => .none
def allP (m : Ks) : List Pb := m.ws.map .w ++ m.sz.map .s
theorem all_v (m : Ks) : m.ws.map V.str ++ m.sz.map V.int = (allP m).map Pb.v := by
  unfold allP
  rw [List.map_append, List.map_map, List.map_map]
  rfl
def onlyP (m : Ks) : Option Pb := if (allP m).length = 1 ∧ m.but = false then (allP m)[0]? else none
def sizeP (m : Ks) : Option Pb := if m.sz.length = 1 ∧ m.ws = [] ∧ m.but = false then (m.sz.map Pb.s)[0]? else none
/-- the first kind -/
inductive Lst (m : Ks) : Option Pb → Prop where
  | i (h : ("integer" : Str) ∈ m.ws) : Lst m (some (.w "integer"))
  | a (h : ¬ ("integer" : Str) ∈ m.ws) (h2 : ("atom" : Str) ∈ m.ws) : Lst m (some (.w "atom"))
  | s (k : Int) (h : ¬ ("integer" : Str) ∈ m.ws) (h2 : ¬ ("atom" : Str) ∈ m.ws) (k0 : 0 ≤ k) (hk : m.hasS k = true) (no : ∀ j, 0 ≤ j → j < k → m.hasS j = false) : Lst m (some (.s k))
  | f (h : ¬ ("integer" : Str) ∈ m.ws) (h2 : ¬ ("atom" : Str) ∈ m.ws) (no : ∀ j, 0 ≤ j → m.hasS j = false) (h3 : ("fault" : Str) ∈ m.ws) : Lst m (some (.w "fault"))
  | n (h : ¬ ("integer" : Str) ∈ m.ws) (h2 : ¬ ("atom" : Str) ∈ m.ws) (no : ∀ j, 0 ≤ j → m.hasS j = false) (h3 : ¬ ("fault" : Str) ∈ m.ws) : Lst m none
theorem Lst.uniq {m : Ks} {x y : Option Pb} (p : Lst m x) (q : Lst m y) : x = y := by
  cases p with
  | i h => cases q with
    | i => rfl
    | a h' => exact absurd h h'
    | s _ h' => exact absurd h h'
    | f h' => exact absurd h h'
    | n h' => exact absurd h h'
  | a h h2 => cases q with
    | i h' => exact absurd h' h
    | a => rfl
    | s _ _ h' => exact absurd h2 h'
    | f _ h' => exact absurd h2 h'
    | n _ h' => exact absurd h2 h'
  | s k h h2 k0 hk no => cases q with
    | i h' => exact absurd h' h
    | a _ h' => exact absurd h' h2
    | s k' _ _ k0' hk' no' =>
      have e : k = k' := by
        rcases Int.lt_trichotomy k k' with z | z | z
        · rw [no' k k0 z] at hk
          cases hk
        · exact z
        · rw [no k' k0' z] at hk'
          cases hk'
      rw [e]
    | f _ _ no' => rw [no' k k0] at hk; cases hk
    | n _ _ no' => rw [no' k k0] at hk; cases hk
  | f h h2 no h3 => cases q with
    | i h' => exact absurd h' h
    | a _ h' => exact absurd h' h2
    | s k' _ _ k0' hk' => rw [no k' k0'] at hk'; cases hk'
    | f => rfl
    | n _ _ _ h' => exact absurd h3 h'
  | n h h2 no h3 => cases q with
    | i h' => exact absurd h' h
    | a _ h' => exact absurd h' h2
    | s k' _ _ k0' hk' => rw [no k' k0'] at hk'; cases hk'
    | f _ _ _ h' => exact absurd h' h3
    | n => rfl
abbrev sOnl : Stmt := kcl 13
abbrev sSiz : Stmt := kcl 14
abbrev sLea : Stmt := kcl 15
theorem scOnl : FnScope ["self", "kinds"] ["self"] (defScope sOnl) := ⟨rfl, rfl, rfl, by decide +kernel, rfl, by decide +kernel, by decide +kernel⟩
theorem scSiz : FnScope ["self"] ["self"] (defScope sSiz) := ⟨rfl, rfl, rfl, by decide +kernel, rfl, by decide +kernel, by decide +kernel⟩
theorem scLea : FnScope ["self", "word", "k"] ["self"] (defScope sLea) := ⟨rfl, rfl, rfl, by decide +kernel, rfl, by decide +kernel, by decide +kernel⟩
def spPrp (K : PySem.W.Frag) (C : Addr) (F : Ks → Option Pb) : Sp := fun vs H Q _ => ∃ a m f g, vs = [.ref a] ∧ KAt K C H a m ∧ Rep m f g ∧ ∀ H', Same H H' → Q (oV (F m)) H'
def spLea (K : PySem.W.Frag) (C : Addr) : Sp := fun vs H Q _ => ∃ a m f g, vs = [.ref a] ∧ KAt K C H a m ∧ Rep m f g ∧ ∀ x H', Same H H' → Lst m x → Q (oV x) H'
theorem at0 {α : Type} {xs : List α} {x : α} (h : xs[0]? = some x) : atI xs 0 = some x := by
  have q : atI xs ((0 : Nat) : Int) = some x := atI_nat h
  exact q
theorem int_dec (x y : Int) : decide (V.int x = V.int y) = decide (x = y) := by
  by_cases h : x = y
  · rw [decide_eq_true h, decide_eq_true (congrArg V.int h)]
  · rw [decide_eq_false h, decide_eq_false fun z => h (V.int.inj z)]
section
variable {P : Program} {w : World} {K : PySem.W.Frag} {mg : Str → Option Value} {base : Heap} {f C fE : Addr} {fd : FuncData}
theorem ok_onl {k : Nat} (F : Fun K "only" "Kinds.only" sOnl f fd) (B : Bi mg) (T : KC K mg C fE) : FnOk P w K mg base CX0 (k + 1) f fd ["self"] (spPrp K C onlyP) := by
  refine F.ok scOnl (fun vs H Q E h => ?_) (fun cdv A outer s H vs Q E hr h => ?_)
  · obtain ⟨a, m, f, g, rfl, _⟩ := h
    rfl
  obtain ⟨a, m, f, g, rfl, ⟨dx, tw, ts, ia, hw, hs⟩, rm, q⟩ := h
  refine ⟨_, pss_cons (ps_set (i := 1) scOnl.nd rfl (.inl rfl) (pe_op op_catU (pe_fld (pv 0) rfl) (pe_fld (pv 0) rfl)))
    (pss_one (ps_ret (pe_ifExp (PW.pt (pw_and (pt_cmpR op_eq (pe_callB call_len_seq (by rfl) B.len PySem.boot_len (pa_cons (pv 1) pa_nil)) pe_int (nomark _)) (pw_and1 (pt_not (pt_val (pe_fld (pv 0) rfl)))))) (pe_ix ix_tup (pv 1) pe_int (fun _ _ => rfl)) pe_non))), ?_⟩
  have lm := rm.len
  have lw : m.ws.length ≤ 3 := by rw [rm.w]; exact List.length_filter_le _ kW
  refine ⟨_, rfl, a, C, dx, _, _, rfl, ia, T.o.c.cl, T.nw, ksf_w _ _ _, _, rfl, a, C, dx, _, _, rfl, ia, T.o.c.cl, T.ns, ksf_s _ _ _, tw, ts, _, _, [], rfl, rfl, by rw [cut_nil]; exact hw, by rw [cut_nil]; exact hs, fun _ z => absurd z List.not_mem_nil, few2 (by rw [List.length_map, List.length_map]; omega), fun c4 H5 s5 hc => ?_⟩
  rw [cut_nil, all_v] at hc
  have q5 := q H5 s5
  unfold onlyP at q5
  refine ⟨_, rfl, c4, _, rfl, .inr hc, rfl, _, rfl, ?_⟩
  rw [int_dec, List.length_map]
  refine ite2 (fun c => ?_) (fun c => ?_)
  · have c := of_decide_eq_true c
    refine ⟨_, rfl, a, C, dx, _, _, rfl, s5 _ _ ia, T.o.c.cl, T.nb, ksf_b _ _ _, _, rfl, ite2 (fun d => ?_) (fun d => ?_)⟩
    · rw [if_pos ⟨by omega, by simpa using d⟩] at q5
      cases e : (allP m)[0]? with
      | none =>
        have := List.getElem?_eq_none_iff.mp e
        omega
      | some b =>
        rw [e] at q5
        exact ⟨_, rfl, c4, _, 0, b.v, rfl, rfl, hc, at0 (by rw [List.getElem?_map, e]; rfl), q5⟩
    · rw [if_neg (fun z => d (by rw [z.2]; rfl))] at q5
      exact q5
  · rw [if_neg (fun z => c (decide_eq_true (by omega)))] at q5
    exact q5
theorem ok_siz {k : Nat} (F : Fun K "size" "Kinds.size" sSiz f fd) (B : Bi mg) (T : KC K mg C fE) : FnOk P w K mg base CX0 (k + 1) f fd ["self"] (spPrp K C sizeP) := by
  refine F.ok scSiz (fun vs H Q E h => ?_) (fun cdv A outer s H vs Q E hr h => ?_)
  · obtain ⟨a, m, f, g, rfl, _⟩ := h
    rfl
  obtain ⟨a, m, f, g, rfl, ⟨dx, tw, ts, ia, hw, hs⟩, rm, q⟩ := h
  refine ⟨_, pss_one (ps_ret (pe_ifExp (PW.pt (pw_and (pt_cmpR op_eq (pe_callB call_len_seq (by rfl) B.len PySem.boot_len (pa_cons (pe_fld (pv 0) rfl) pa_nil)) pe_int (nomark _)) (pw_and (pt_not (pt_truth (pe_fld (pv 0) rfl) (fun _ => rfl))) (pw_and1 (pt_not (pt_val (pe_fld (pv 0) rfl)))))))
    (pe_ix ix_tup (pe_fld (pv 0) rfl) pe_int (fun _ _ => rfl)) pe_non)), ?_⟩
  have q5 := q H (Same.refl H)
  unfold sizeP at q5
  refine ⟨_, rfl, a, C, dx, _, _, rfl, ia, T.o.c.cl, T.ns, ksf_s _ _ _, ts, _, rfl, .inr hs, rfl, _, rfl, ?_⟩
  rw [int_dec, List.length_map]
  refine ite2 (fun c => ?_) (fun c => ?_)
  · have c := of_decide_eq_true c
    refine ⟨_, rfl, a, C, dx, _, _, rfl, ia, T.o.c.cl, T.nw, ksf_w _ _ _, _, .inr (.inl ⟨_, hw, rfl⟩), ite2 (fun d => ?_) (fun d => ?_)⟩
    · rw [List.isEmpty_map, Bool.not_not, List.isEmpty_iff] at d
      refine ⟨_, rfl, a, C, dx, _, _, rfl, ia, T.o.c.cl, T.nb, ksf_b _ _ _, _, rfl, ite2 (fun e => ?_) (fun e => ?_)⟩
      · rw [if_pos ⟨by omega, d, by simpa using e⟩] at q5
        cases e : m.sz with
        | nil =>
          rw [e] at c
          cases c
        | cons x r =>
          rw [e] at q5 hs
          exact ⟨_, rfl, a, C, dx, _, _, rfl, ia, T.o.c.cl, T.ns, ksf_s _ _ _, ts, _, 0, .int x, rfl, rfl, hs, at0 rfl, q5⟩
      · rw [if_neg (fun z => e (by rw [z.2.2]; rfl))] at q5
        exact q5
    · rw [List.isEmpty_map, Bool.not_not, List.isEmpty_iff] at d
      rw [if_neg (fun z => d z.2.1)] at q5
      exact q5
  · rw [if_neg (fun z => c (decide_eq_true (by omega)))] at q5
    exact q5
end
theorem ws_f {m : Ks} {f : Str → Bool} {g : Int → Bool} (r : Rep m f g) (h : ¬ ("integer" : Str) ∈ m.ws) (h2 : ¬ ("atom" : Str) ∈ m.ws) : (m.ws = (["fault"] : List Str) ∧ ("fault" : Str) ∈ m.ws) ∨ (m.ws = [] ∧ ¬ ("fault" : Str) ∈ m.ws) := by
  have e1 : f "integer" = false := by
    cases e : f "integer" with
    | false => rfl
    | true => exact absurd (by rw [r.w]; exact List.mem_filter.mpr ⟨mI, e⟩) h
  have e2 : f "atom" = false := by
    cases e : f "atom" with
    | false => rfl
    | true => exact absurd (by rw [r.w]; exact List.mem_filter.mpr ⟨mA, e⟩) h2
  cases e3 : f "fault" with
  | true =>
    have w : m.ws = (["fault"] : List Str) := by
      rw [r.w]
      show List.filter f ["integer", "atom", "fault"] = _
      simp only [List.filter, e1, e2, e3]
    exact .inl ⟨w, by rw [w]; exact List.mem_singleton.mpr rfl⟩
  | false =>
    have w : m.ws = [] := by
      rw [r.w]
      show List.filter f ["integer", "atom", "fault"] = _
      simp only [List.filter, e1, e2, e3]
    exact .inr ⟨w, by rw [w]; exact List.not_mem_nil⟩
theorem star_none {xs ys : List V} : (xs ++ (ys ++ [V.non]))[0]? = some ((xs ++ ys).headD .non) := by
  cases xs with
  | nil => cases ys <;> rfl
  | cons x xs => rfl
section
variable {P : Program} {w : World} {K : PySem.W.Frag} {mg : Str → Option Value} {base : Heap} {f C fE : Addr} {fd : FuncData}
theorem ok_lea {k : Nat} (F : Fun K "least" "Kinds.least" sLea f fd) (B : Bi mg) (T : KC K mg C fE) : FnOk P w K mg base CX0 (k + 1) f fd ["self"] (spLea K C) := by
  refine F.ok scLea (fun vs H Q E h => ?_) (fun cdv A outer s H vs Q E hr h => ?_)
  · obtain ⟨a, m, f, g, rfl, _⟩ := h
    rfl
  obtain ⟨a, m, f, g, rfl, ⟨dx, tw, ts, ia, hw, hs⟩, rm, q⟩ := h
  refine ⟨_, pss_cons (ps_for PassesOwn.never rfl (pi_tup (pe_tup (pa_cons pe_str (pa_cons pe_str pa_nil)))) (pg_name (i := 1) scLea.nd rfl (.inl rfl)) (pss_one (ps_if (pt_cmpR op_in_seq (pv 1) (pe_fld (pv 0) rfl) rfl) (pss_one (ps_ret (pv 1))) pss_nil)))
    (pss_cons (ps_if (pt_not (pt_val (pe_fld (pv 0) rfl))) (pss_one (ps_ret (pe_ix ix_tup (pe_tup (StX.pa_star (pe_fld (pv 0) rfl) (StX.pa_star (pe_fld (pv 0) rfl) (pa_cons pe_non pa_nil)))) pe_int (fun _ _ => rfl)))) pss_nil)
    (pss_cons (ps_set (i := 2) scLea.nd rfl (.inl rfl) pe_int)
    (pss_cons (ps_while PassesOwn.never (pt_cmpR op_in_seq (pv 2) (pe_fld (pv 0) rfl) rfl) (pss_one (ps_set (i := 2) scLea.nd rfl (.inl rfl) (pe_op op_add (pv 2) pe_int))))
    (pss_one (ps_ret (pv 2)))))), ?_⟩
  have lm := rm.len
  have lw : m.ws.length ≤ 3 := by rw [rm.w]; exact List.length_filter_le _ kW
  refine ⟨few (by simp), fun t ht => ⟨t, rfl, ⟨_, .inl (.inl upd_same)⟩, for_tup (K := K) (a := t) (xs := (["integer", "atom"] : List Str).map V.str) (fun i σ H2 => ∃ o1, σ = [some (.ref a), o1, none] ∧ Same (upd H t (.tup [.str "integer", .str "atom"])) H2 ∧ ∀ w ∈ (["integer", "atom"] : List Str).take i, ¬ w ∈ m.ws)
    ⟨none, rfl, Same.refl _, fun w z => absurd z List.not_mem_nil⟩ (fun i σ H2 _ ⟨_, _, h, _⟩ => .inl (.inl (h _ _ upd_same))) ?_ ?_⟩⟩
  · rintro i y σ H2 hy ⟨o1, rfl, s2, no⟩
    obtain ⟨x, hx, rfl⟩ := map_get hy
    have s02 := (same_new ht _).trans s2
    refine ⟨_, rfl, _, rfl, a, C, dx, _, _, rfl, s02 _ _ ia, T.o.c.cl, T.nw, ksf_w _ _ _, tw, _, rfl, .inr (seqT_up s02 hw), rfl, flat_strs _, _, rfl, ?_⟩
    show if inV (.str x) (m.ws.map V.str) = true then _ else _
    rw [inV_str]
    refine ite2 (fun c => ?_) (fun c => ?_)
    · have c := of_decide_eq_true c
      refine ⟨_, rfl, ?_⟩
      have lx : Lst m (some (.w x)) := by
        rcases i with _ | _ | i
        · cases hx
          exact .i c
        · cases hx
          exact .a (no _ (by decide +kernel)) c
        · cases hx
      exact q (some (.w x)) H2 s02 lx
    · refine ⟨_, rfl, s2, fun w hw => ?_⟩
      rw [get_take hx] at hw
      rcases List.mem_append.mp hw with h | h
      · exact no w h
      · rw [List.mem_singleton.mp h]
        exact fun z => c (decide_eq_true z)
  rintro σ H2 ⟨o1, rfl, s2, no⟩
  have s02 := (same_new ht _).trans s2
  have nI : ¬ ("integer" : Str) ∈ m.ws := no _ (by decide +kernel)
  have nA : ¬ ("atom" : Str) ∈ m.ws := no _ (by decide +kernel)
  refine ⟨_, rfl, a, C, dx, _, _, rfl, s02 _ _ ia, T.o.c.cl, T.nb, ksf_b _ _ _, _, rfl, ite2 (fun c => ?_) (fun c => ?_)⟩
  · have nb : m.but = false := by simpa using c
    refine ⟨_, rfl, a, C, dx, _, _, rfl, s02 _ _ ia, T.o.c.cl, T.ns, ksf_s _ _ _, ts, _, rfl, .inl (seqT_up s02 hs), _, rfl, a, C, dx, _, _, rfl, s02 _ _ ia, T.o.c.cl, T.nw, ksf_w _ _ _, tw, _, rfl, .inl (seqT_up s02 hw), few (by simp only [List.length_append, List.length_map, List.length_cons, List.length_nil]; omega), fun t2 ht2 => ?_⟩
    refine ⟨t2, _, 0, _, rfl, rfl, .inl (.inl upd_same), at0 star_none, ?_⟩
    have hno : ∀ j, m.hasS j = decide (j ∈ m.sz) := fun j => by
      unfold Ks.hasS
      rw [nb]
      cases decide (j ∈ m.sz) <;> rfl
    have sL := s02.trans (same_new (o := .tup (m.sz.map V.int ++ (m.ws.map V.str ++ [V.non]))) ht2)
    generalize upd H2 t2 (.tup (m.sz.map V.int ++ (m.ws.map V.str ++ [V.non]))) = HX at sL
    cases e : m.sz with
    | cons x r =>
      refine q (some (.s x)) _ sL (.s x nI nA (rm.bd x (by rw [e]; exact List.mem_cons_self)).1 ?_ fun j j0 jx => ?_)
      · rw [hno, e]
        exact decide_eq_true List.mem_cons_self
      · rw [hno, e]
        refine decide_eq_false fun z => ?_
        have p := rm.srt
        rw [e] at p
        rcases List.mem_cons.mp z with z | z
        · omega
        · have := (List.pairwise_cons.mp p).1 j z
          omega
    | nil =>
      have none : ∀ j, 0 ≤ j → m.hasS j = false := fun j _ => by
        rw [hno, e]
        exact decide_eq_false List.not_mem_nil
      rcases ws_f rm nI nA with ⟨w1, w2⟩ | ⟨w1, w2⟩
      · rw [w1]
        exact q (some (.w "fault")) _ sL (.f nI nA none w2)
      · rw [w1]
        exact q Option.none _ sL (.n nI nA none w2)
  · have bt : m.but = true := by
      cases e : m.but with
      | true => rfl
      | false => exact absurd (by rw [e]; rfl) c
    have hno : ∀ j, m.hasS j = !decide (j ∈ m.sz) := fun j => by
      unfold Ks.hasS
      rw [bt]
      cases decide (j ∈ m.sz) <;> rfl
    refine ⟨fun n σ H3 => ∃ k : Int, σ = [some (.ref a), o1, some (.int k)] ∧ H3 = H2 ∧ 0 ≤ k ∧ k ≤ 21 ∧ n = (21 - k).toNat ∧ ∀ j, 0 ≤ j → j < k → j ∈ m.sz, ⟨21, 0, rfl, rfl, by decide, by decide, rfl, fun j a b => by omega⟩, ?_⟩
    rintro n σ H3 ⟨k, rfl, rfl, k0, k21, rfl, al⟩
    refine ⟨_, rfl, _, rfl, a, C, dx, _, _, rfl, s02 _ _ ia, T.o.c.cl, T.ns, ksf_s _ _ _, ts, _, rfl, .inr (seqT_up s02 hs), rfl, flat_ints _, _, rfl, ?_⟩
    show if inV (.int k) (m.sz.map V.int) = true then _ else _
    rw [inV_int]
    refine ite2 (fun c => ?_) (fun c => ?_)
    · have c := of_decide_eq_true c
      have := rm.bd k c
      refine ⟨fun σ H4 => σ = [some (.ref a), o1, some (.int (k + 1))] ∧ H4 = H3, fun σ H4 z => ⟨(21 - (k + 1)).toNat, by omega, k + 1, z.1, z.2, by omega, by omega, rfl, fun j j0 jk => ?_⟩, _, rfl, _, _, rfl, rfl, rfl, rfl⟩
      by_cases e : j = k
      · rw [e]
        exact c
      · exact al j j0 (by omega)
    · refine ⟨_, rfl, q (some (.s k)) _ s02 (.s k nI nA k0 ?_ fun j j0 jk => ?_)⟩
      · rw [hno]
        cases e : decide (k ∈ m.sz) with
        | true => exact absurd e c
        | false => rfl
      · rw [hno, decide_eq_true (al j j0 jk)]
        rfl
end
abbrev sOnlyL : Stmt := topS 18
abbrev sTextL : Stmt := topS 23
theorem scOnlyL : FnScope ["_law_one", "_law_some"] ["_law_one"] (defScope sOnlyL) := ⟨rfl, rfl, rfl, by decide +kernel, rfl, by decide +kernel, by decide +kernel⟩
theorem scTextL : FnScope ["_law_one", "_law_parts", "_law_listed", "_law_word", "_law_k"] ["_law_one"] (defScope sTextL) := ⟨rfl, rfl, rfl, by decide +kernel, rfl, by decide +kernel, by decide +kernel⟩
theorem ws8 {m : Ks} {f : Str → Bool} {g : Int → Bool} (r : Rep m f g) : m.ws = (if f "integer" then (["integer"] : List Str) else []) ++ (if f "atom" then (["atom"] : List Str) else []) ++ (if f "fault" then (["fault"] : List Str) else []) := by
  rw [r.w]
  show List.filter f ["integer", "atom", "fault"] = _
  cases e1 : f "integer" <;> cases e2 : f "atom" <;> cases e3 : f "fault" <;> simp only [List.filter, e1, e2, e3] <;> rfl
def headA (f : Str → Bool) : List Str := (if f "integer" then (["integer"] : List Str) else []) ++ (if f "atom" then (["atom"] : List Str) else [])
theorem ws_head {m : Ks} {f : Str → Bool} {g : Int → Bool} (r : Rep m f g) : (m.ws.filter fun w : Str => !decide (w = ("fault" : Str))) = headA f := by
  rw [ws8 r]
  unfold headA
  cases f "integer" <;> cases f "atom" <;> cases f "fault" <;> decide +kernel
theorem ws_law {m : Ks} {f : Str → Bool} {g : Int → Bool} (r : Rep m f g) : ((["integer", "atom"] : List Str).filter fun w => decide (w ∈ m.ws)) = headA f := by
  rw [ws8 r]
  unfold headA
  cases f "integer" <;> cases f "atom" <;> cases f "fault" <;> decide +kernel
def ksT (z : List Int) : List Str := z.map fun k => (toString k : Str)
theorem joinL_sum {S : List Nat} : ∀ ps : List (List Nat), (TL.joinL S ps).length ≤ (ps.map fun p => p.length + S.length).sum
  | [] => Nat.zero_le _
  | [p] => by
    show p.length ≤ (p.length + S.length) + 0
    omega
  | p :: q :: r => by
    have ih := joinL_sum (S := S) (q :: r)
    show (p ++ (S ++ TL.joinL S (q :: r))).length ≤ _
    rw [List.length_append, List.length_append, List.map_cons, List.sum_cons]
    omega
theorem joinL_all {S : List Nat} {P : Nat → Prop} (hS : ∀ c ∈ S, P c) : ∀ ps : List (List Nat), (∀ p ∈ ps, ∀ c ∈ p, P c) → ∀ c ∈ TL.joinL S ps, P c
  | [], _ => fun c h => absurd h List.not_mem_nil
  | [p], h => fun c hc => h p List.mem_cons_self c hc
  | p :: q :: r, h => fun c hc => by
    have hc : c ∈ p ++ (S ++ TL.joinL S (q :: r)) := hc
    rcases List.mem_append.mp hc with z | z
    · exact h p List.mem_cons_self c z
    · rcases List.mem_append.mp z with z | z
      · exact hS c z
      · exact joinL_all hS (q :: r) (fun x hx => h x (List.mem_cons_of_mem _ hx)) c z
theorem tl_txj (a : Str) (ys : List Str) : TL.tl (Txt.join a ys) = TL.joinL (TL.tl a) (ys.map TL.tl) := by rw [TL.join_eq, TL.tl_join]
/-- short and of plain signs -/
def Pl (b : Nat) (x : Str) : Prop := x.length ≤ b ∧ ∀ c ∈ TL.tl x, c < 128
theorem pl_gd {b : Nat} {x : Str} (h : Pl b x) (hb : b ≤ 100) : gd (.str x) = true := by
  simp only [gd, Bool.and_eq_true]
  exact ⟨decide_eq_true (Nat.le_trans h.1 hb), List.all_eq_true.mpr fun c hc => decide_eq_true (h.2 c hc)⟩
theorem small_pl : ∀ n : Fin 21, (toString ((n.val : Nat) : Int) : Str).length ≤ 2 ∧ (toString ((n.val : Nat) : Int) : Str).length ≠ 0 ∧ ((TL.tl (toString ((n.val : Nat) : Int) : Str)).all fun c => decide (c < 128)) = true := by decide +kernel
theorem int_pl {k : Int} (h0 : 0 ≤ k) (h : k ≤ 20) : Pl 2 (toString k : Str) ∧ (toString k : Str).length ≠ 0 := by
  have e : k = ((k.toNat : Nat) : Int) := by omega
  rw [e]
  have z := small_pl ⟨k.toNat, by omega⟩
  exact ⟨⟨z.1, fun c hc => of_decide_eq_true (List.all_eq_true.mp z.2.2 c hc)⟩, z.2.1⟩
theorem sp_pl : ∀ c ∈ TL.tl (" " : Str), c < 128 := by decide +kernel
theorem bar_pl : ∀ c ∈ TL.tl ("|" : Str), c < 128 := by decide +kernel
/-- the text of some sizes -/
theorem ks_pl {m : Ks} {f : Str → Bool} {g : Int → Bool} (r : Rep m f g) : ∀ y ∈ ksT m.sz, Pl 2 y ∧ y.length ≠ 0 := fun y hy => by
  obtain ⟨k, hk, rfl⟩ := List.mem_map.mp hy
  exact int_pl (r.bd k hk).1 (r.bd k hk).2
theorem sum_le {b : Nat} : ∀ l : List Str, (∀ y ∈ l, y.length ≤ b) → ((l.map TL.tl).map fun p => p.length + 1).sum ≤ l.length * (b + 1)
  | [], _ => Nat.zero_le _
  | y :: l, h => by
    have ih := sum_le l fun z hz => h z (List.mem_cons_of_mem _ hz)
    have h1 := h y List.mem_cons_self
    rw [TL.len_tl] at h1
    rw [List.map_cons, List.map_cons, List.sum_cons, List.length_cons, Nat.succ_mul]
    omega
theorem one_sp : (TL.tl (" " : Str)).length = 1 := by decide +kernel
theorem one_bar : (TL.tl ("|" : Str)).length = 1 := by decide +kernel
/-- some short texts, joined by a blank -/
theorem join_pl {hs ys : List Str} {b : Nat} (h1 : ((hs.map TL.tl).map fun p => p.length + 1).sum ≤ b) (h2 : ∀ x ∈ hs, ∀ c ∈ TL.tl x, c < 128) (h3 : ∀ y ∈ ys, Pl 2 y) (h4 : ys.length ≤ 21) : Pl (b + 63) (Txt.join " " (hs ++ ys)) := by
  refine ⟨?_, fun c hc => ?_⟩
  · rw [TL.len_tl, tl_txj]
    refine Nat.le_trans (joinL_sum _) ?_
    rw [one_sp, List.map_append, List.map_append, List.sum_append]
    have := sum_le ys fun y hy => (h3 y hy).1
    omega
  · rw [tl_txj] at hc
    refine joinL_all (P := fun c => c < 128) sp_pl _ (fun p hp => ?_) c hc
    obtain ⟨x, hx, rfl⟩ := List.mem_map.mp hp
    rcases List.mem_append.mp hx with h | h
    · exact h2 x h
    · exact (h3 x h).2
theorem mid_pl {m : Ks} {f : Str → Bool} {g : Int → Bool} (r : Rep m f g) : ∀ x ∈ midM m.but m.sz, Pl 73 x := by
  intro x hx
  have h3 : ∀ y ∈ ksT m.sz, Pl 2 y := fun y hy => (ks_pl r y hy).1
  have h4 : (ksT m.sz).length ≤ 21 := by unfold ksT; rw [List.length_map]; exact r.len
  unfold midM at hx
  cases e : m.sz.isEmpty with
  | true =>
    rw [e] at hx
    cases eb : m.but with
    | true =>
      rw [eb] at hx
      have hx := List.mem_singleton.mp hx
      rw [hx]
      have z := join_pl (hs := ["tuple"]) (ys := []) (b := 10) (by decide +kernel) (by decide +kernel) (fun _ z => absurd z List.not_mem_nil) (by decide)
      rw [List.append_nil] at z
      exact z
    | false =>
      rw [eb] at hx
      exact absurd hx List.not_mem_nil
  | false =>
    rw [e] at hx
    have hx := List.mem_singleton.mp hx
    rw [hx]
    cases m.but with
    | true => exact join_pl (hs := ["tuple", "but"]) (b := 10) (by decide +kernel) (by decide +kernel) h3 h4
    | false => exact join_pl (hs := ["tuple"]) (b := 10) (by decide +kernel) (by decide +kernel) h3 h4
theorem mid_len (b : Bool) (z : List Int) : (midM b z).length ≤ 1 := by
  unfold midM
  cases z.isEmpty <;> cases b <;> exact (by first | exact Nat.zero_le _ | exact Nat.le_refl _)
theorem headA_pl (f : Str → Bool) : ∀ x ∈ headA f, Pl 10 x := by
  intro x hx
  unfold headA at hx
  have k : x ∈ (["integer", "atom"] : List Str) := by
    cases e1 : f "integer" <;> cases e2 : f "atom" <;> rw [e1, e2] at hx
    · exact absurd hx List.not_mem_nil
    · exact List.mem_cons_of_mem _ hx
    · have hx := List.mem_singleton.mp hx
      rw [hx]
      exact List.mem_cons_self
    · exact hx
  simp only [List.mem_cons, List.not_mem_nil, or_false] at k
  rcases k with k | k <;> rw [k] <;> exact ⟨by decide +kernel, by decide +kernel⟩
theorem headA_sum (f : Str → Bool) : (((headA f).map TL.tl).map fun p => p.length + 1).sum ≤ 13 := by
  unfold headA
  cases f "integer" <;> cases f "atom" <;> decide +kernel
theorem fault_pl : Pl 5 ("fault" : Str) := ⟨by decide +kernel, by decide +kernel⟩
theorem txt_pl {m : Ks} {f : Str → Bool} {g : Int → Bool} (r : Rep m f g) : Pl 100 (txtM m) := by
  unfold txtM
  cases e : (ptsM m).isEmpty with
  | true => exact (⟨by decide +kernel, by decide +kernel⟩ : Pl 100 ("nothing" : Str))
  | false =>
    refine ⟨?_, fun c hc => ?_⟩
    · show (Txt.join "|" (ptsM m)).length ≤ 100
      rw [TL.len_tl, tl_txj]
      refine Nat.le_trans (joinL_sum _) ?_
      rw [one_bar]
      unfold ptsM
      rw [ws_head r, List.map_append, List.map_append, List.map_append, List.map_append, List.sum_append, List.sum_append]
      have h1 := headA_sum f
      have h2 := sum_le (midM m.but m.sz) fun y hy => (mid_pl r y hy).1
      have h3 := mid_len m.but m.sz
      have h4 : ((((if decide (("fault" : Str) ∈ m.ws) then [("fault" : Str)] else ([] : List Str))).map TL.tl).map fun p => p.length + 1).sum ≤ 6 := by
        cases decide (("fault" : Str) ∈ m.ws) <;> decide +kernel
      have h5 : (midM m.but m.sz).length * (73 + 1) ≤ 74 := by omega
      omega
    · have hc : c ∈ TL.tl (Txt.join "|" (ptsM m)) := hc
      rw [tl_txj] at hc
      refine joinL_all (P := fun c => c < 128) bar_pl _ (fun p hp => ?_) c hc
      obtain ⟨x, hx, rfl⟩ := List.mem_map.mp hp
      unfold ptsM at hx
      rw [ws_head r] at hx
      rcases List.mem_append.mp hx with h | h
      · rcases List.mem_append.mp h with h | h
        · exact (headA_pl f x h).2
        · exact (mid_pl r x h).2
      · cases e : decide (("fault" : Str) ∈ m.ws) with
        | true =>
          rw [e] at h
          rw [List.mem_singleton.mp h]
          exact fault_pl.2
        | false =>
          rw [e] at h
          exact absurd h List.not_mem_nil
/-- the law's way to the same text -/
theorem tl_inj {x y : Str} (h : TL.tl x = TL.tl y) : x = y := by
  cases x
  cases y
  congr 1
  exact Array.toList_inj.mp h
theorem join_tb (ks : List Str) (h : ks ≠ []) : Txt.join " " ((["tuple", "but"] : List Str) ++ ks) = ("tuple but " : Str) ++ Txt.join " " ks := by
  refine tl_inj ?_
  cases ks with
  | nil => exact absurd rfl h
  | cons k ks =>
    rw [tl_txj, TL.tl_append, tl_txj]
    show TL.tl ("tuple" : Str) ++ (TL.tl " " ++ (TL.tl ("but" : Str) ++ (TL.tl " " ++ TL.joinL (TL.tl " ") ((k :: ks).map TL.tl)))) = _
    rw [← List.append_assoc, ← List.append_assoc, ← List.append_assoc]
    congr 1
theorem join_t (ks : List Str) (h : ks ≠ []) : Txt.join " " ((["tuple"] : List Str) ++ ks) = ("tuple " : Str) ++ Txt.join " " ks := by
  refine tl_inj ?_
  cases ks with
  | nil => exact absurd rfl h
  | cons k ks =>
    rw [tl_txj, TL.tl_append, tl_txj]
    show TL.tl ("tuple" : Str) ++ (TL.tl " " ++ TL.joinL (TL.tl " ") ((k :: ks).map TL.tl)) = _
    rw [← List.append_assoc]
    congr 1
theorem join_1 : Txt.join " " ["tuple"] = "tuple" := by
  refine tl_inj ?_
  rw [tl_txj]
  rfl
theorem join_0 : Txt.join " " ([] : List Str) = "" := by
  refine tl_inj ?_
  rw [tl_txj]
  rfl
theorem join_ne {k : Str} {ks : List Str} (h : k.length ≠ 0) : ¬ Txt.join " " (k :: ks) = "" := fun z => by
  have e := congrArg (fun x => (TL.tl x).length) z
  simp only [tl_txj] at e
  rw [TL.len_tl] at h
  cases ks with
  | nil => exact h e
  | cons a ks =>
    have e : (TL.tl k ++ (TL.tl " " ++ TL.joinL (TL.tl " ") ((a :: ks).map TL.tl))).length = 0 := e
    rw [List.length_append] at e
    omega
def spModel (K : PySem.W.Frag) (F : Ks → V) : Sp := fun vs H Q _ => ∃ t m f g, vs = [.ref t] ∧ MAt K H t m ∧ Rep m f g ∧ ∀ H', Same H H' → Q (F m) H'
theorem gds_pl : ∀ l : List Str, (∀ x ∈ l, Pl 100 x) → gds (l.map PyData.str) = true ∧ PyData.depthAll (l.map PyData.str) = 0
  | [], _ => ⟨by simp only [List.map_nil, gds], by simp only [List.map_nil, PyData.depthAll]⟩
  | x :: l, h => by
    have ih := gds_pl l fun y hy => h y (List.mem_cons_of_mem _ hy)
    have g := pl_gd (h x List.mem_cons_self) (Nat.le_refl _)
    exact ⟨by simp only [List.map_cons, gds, g, ih.1, Bool.and_self], by simp only [List.map_cons, PyData.depthAll, PyData.depth, ih.2, Nat.max_self]⟩
theorem strs_sh (l : List Str) (h : ∀ x ∈ l, Pl 100 x) : SeqAt.shaped (.list (l.map PyData.str)) = true := by
  have g := gds_pl l h
  exact shaped_of (by simpa only [gd] using g.1) (by simp only [PyData.depth, g.2]; omega)
theorem sh_nil : SeqAt.shaped (.list []) = true := by decide +kernel
theorem strs_eqv (l : List Str) : PyData.eqv (.list (l.map PyData.str)) (.list []) = l.isEmpty := by
  cases l with
  | nil => simp only [List.map_nil, PyData.eqv, PyData.eqvAll]; rfl
  | cons b l => simp only [List.map_cons, PyData.eqv, PyData.eqvAll]; rfl
theorem Pl.mono {a b : Nat} {x : Str} (h : Pl a x) (hb : a ≤ b) : Pl b x := ⟨Nat.le_trans h.1 hb, h.2⟩
section
variable {P : Program} {w : World} {K : PySem.W.Frag} {mg : Str → Option Value} {base : Heap} {f C fE : Addr} {fd : FuncData}
theorem ok_onlyL {k : Nat} (F : Fun K "_law_only" "_law_only" sOnlyL f fd) (B : Bi mg) (hli : mg "list" = none) : FnOk P w K mg base CX0 (k + 1) f fd ["_law_one"] (spModel K fun m => oV (onlyP m)) := by
  refine F.ok scOnlyL (fun vs H Q E h => ?_) (fun cdv A outer s H vs Q E hr h => ?_)
  · obtain ⟨a, m, f, g, rfl, _⟩ := h
    rfl
  obtain ⟨a, m, f, g, rfl, ⟨tw, ts, ha, hwa, hsa⟩, rm, q⟩ := h
  refine ⟨_, pss_cons (ps_set (i := 1) scOnlyL.nd rfl (.inl rfl) (pe_op op_cat (pe_callTy call_list_of (by rfl) hli PyProof.Rows.boot_list (pa_cons (pe_ix ix_tup (pv 0) pe_int (fun _ _ => rfl)) pa_nil)) (pe_callTy call_list_of (by rfl) hli PyProof.Rows.boot_list (pa_cons (pe_ix ix_tup (pv 0) pe_int (fun _ _ => rfl)) pa_nil))))
    (pss_one (ps_ret (pe_ifExp (PW.pt (pw_and (pt_not (pt_val (pe_ix ix_tup (pv 0) pe_int (fun _ _ => rfl)))) (pw_and1 (pt_cmpR op_eq (pe_callB call_len_seq (by rfl) B.len PySem.boot_len (pa_cons (pv 1) pa_nil)) pe_int (nomark _))))) (pe_ix ix_list (pv 1) pe_int (fun _ _ => rfl)) pe_non))), ?_⟩
  have lm := rm.len
  have lw : m.ws.length ≤ 3 := by rw [rm.w]; exact List.length_filter_le _ kW
  refine ⟨_, rfl, a, _, 0, _, rfl, rfl, ha, rfl, tw, _, rfl, .inr hwa, fun L1 hL1 => ?_⟩
  have s1 := same_new (o := .lst (m.ws.map V.str)) hL1
  refine ⟨_, rfl, a, _, 1, _, rfl, rfl, seqT_up s1 ha, rfl, ts, _, rfl, .inr (seqT_up s1 hsa), fun L2 hL2 => ?_⟩
  have s2 := same_new (o := .lst (m.sz.map V.int)) hL2
  refine ⟨L1, L2, _, _, rfl, rfl, s2 _ _ upd_same, upd_same, few2 (by rw [List.length_map, List.length_map]; omega), fun L3 hL3 => ?_⟩
  have s3 := same_new (o := .lst (m.ws.map V.str ++ m.sz.map V.int)) hL3
  have s03 := s1.trans (s2.trans s3)
  have g3 : (upd (upd (upd H L1 (.lst (m.ws.map V.str))) L2 (.lst (m.sz.map V.int))) L3 (.lst (m.ws.map V.str ++ m.sz.map V.int))) L3 = some (.lst ((allP m).map Pb.v)) := by rw [upd_same, all_v]
  generalize upd (upd (upd H L1 (.lst (m.ws.map V.str))) L2 (.lst (m.sz.map V.int))) L3 (.lst (m.ws.map V.str ++ m.sz.map V.int)) = H3 at s03 g3
  have q5 : Q (oV (onlyP m)) H3 := q H3 s03
  unfold onlyP at q5
  refine ⟨_, rfl, a, _, 2, _, rfl, rfl, seqT_up s03 ha, rfl, _, rfl, ite2 (fun d => ?_) (fun d => ?_)⟩
  · refine ⟨_, rfl, L3, _, rfl, .inl (SqL.of g3), rfl, _, rfl, ?_⟩
    rw [int_dec, List.length_map]
    refine ite2 (fun c => ?_) (fun c => ?_)
    · have c := of_decide_eq_true c
      rw [if_pos ⟨by omega, by simpa using d⟩] at q5
      cases e : (allP m)[0]? with
      | none =>
        have := List.getElem?_eq_none_iff.mp e
        omega
      | some b =>
        rw [e] at q5
        exact ⟨_, rfl, L3, _, 0, b.v, rfl, rfl, SqL.of g3, at0 (by rw [List.getElem?_map, e]; rfl), q5⟩
    · rw [if_neg (fun z => c (decide_eq_true (by omega)))] at q5
      exact q5
  · rw [if_neg (fun z => d (by rw [z.2]; rfl))] at q5
    exact q5
theorem ok_textL {k : Nat} (F : Fun K "_law_text" "_law_text" sTextL f fd) (B : Bi mg) : FnOk P w K mg base CX0 (k + 1) f fd ["_law_one"] (spModel K fun m => .str (txtM m)) := by
  refine F.ok scTextL (fun vs H Q E h => ?_) (fun cdv A outer s H vs Q E hr h => ?_)
  · obtain ⟨a, m, f, g, rfl, _⟩ := h
    rfl
  obtain ⟨a, m, f, g, rfl, ⟨tw, ts, ha, hwa, hsa⟩, rm, q⟩ := h
  refine ⟨_, pss_cons (ps_setLc (i := 1) (own := [("_law_word", 3)]) (g := gName 3) (by rfl) scTextL.nd rfl rfl (sw_true rfl rfl rfl (by decide +kernel)) (pi_tup (pe_tup (pa_cons pe_str (pa_cons pe_str pa_nil))))
      (blkOk_by (own := [("_law_word", 3)]) (N := ["_law_one", "_law_parts", "_law_listed", "_law_word", "_law_k"]) (sc := defScope sTextL) (by decide +kernel))
      (fun _ _ _ _ _ => pg_name (i := 3) scTextL.nd rfl (Or.inl rfl)) (fun _ _ _ _ _ => pts_one (pt_cmpR (op_inK (K := K) rfl) (pv 3) (pe_ix (ix_tupK (K := K) rfl) (pv 0) pe_int (fun _ _ => rfl)) rfl)) (fun _ _ _ _ _ => pv 3))
    (pss_cons (ps_set (i := 2) scTextL.nd rfl (.inl rfl) (pe_join pe_str (pe_lc (own := [("_law_k", 4)]) (g := gName 4) (by rfl) scTextL.nd (pi_tup (pe_ix ix_tup (pv 0) pe_int (fun _ _ => rfl)))
      (blkOk_by (own := [("_law_k", 4)]) (N := ["_law_one", "_law_parts", "_law_listed", "_law_word", "_law_k"]) (sc := defScope sTextL) (by decide +kernel))
      (fun _ _ _ _ _ => pg_name (i := 4) scTextL.nd rfl (Or.inl rfl)) (fun _ _ _ _ _ => pts_nil) (fun _ _ _ _ _ => pe_callTy call_str_int (by rfl) B.str b_str (pa_cons (pv 4) pa_nil)))))
    (pss_cons (ps_if (pt_val (pe_ix ix_tup (pv 0) pe_int (fun _ _ => rfl)))
      (pss_one (ps_expr (pe_bm PySem.F.plainAttrs_list PySem.F.slot_list_append PySem.F.type_list_append mt_append (pv 1) (pa_cons (pe_ifExp (pt_cmpR op_eq (pv 2) pe_str (nomark _)) pe_str (pe_op op_add_str pe_str (pv 2))) pa_nil))))
      (pss_one (ps_if (pt_cmpR op_ne (pv 2) pe_str (nomark _)) (pss_one (ps_expr (pe_bm PySem.F.plainAttrs_list PySem.F.slot_list_append PySem.F.type_list_append mt_append (pv 1) (pa_cons (pe_op op_add_str pe_str (pv 2)) pa_nil)))) pss_nil)))
    (pss_cons (ps_if (pt_cmpR op_in_seq pe_str (pe_ix ix_tup (pv 0) pe_int (fun _ _ => rfl)) rfl) (pss_one (ps_expr (pe_bm PySem.F.plainAttrs_list PySem.F.slot_list_append PySem.F.type_list_append mt_append (pv 1) (pa_cons pe_str pa_nil)))) pss_nil)
    (pss_one (ps_ret (pe_ifExp (pt_cmpR (op_eqD hr.units) (pv 1) (pe_lst pa_nil) (nomark _)) pe_str (pe_join pe_str (pv 1)))))))), ?_⟩
  have lz := rm.len
  refine ⟨few (by simp), fun t ht => ?_⟩
  have s0 := same_new (o := .tup [.str "integer", .str "atom"]) ht
  have g0 : (upd H t (.tup [.str "integer", .str "atom"])) t = some (.tup ((["integer", "atom"] : List Str).map V.str)) := upd_same
  generalize upd H t (.tup [.str "integer", .str "atom"]) = H1 at s0 g0
  refine ⟨t, rfl, ⟨_, .inl (.inl g0)⟩, fun D hD => along (walk_tup (K := K) (a := t) (xs := (["integer", "atom"] : List Str).map V.str)) (fun i H2 => H2 D = some (.lst ((((["integer", "atom"] : List Str).take i).filter fun w => decide (w ∈ m.ws)).map V.str)) ∧ Same H1 H2) ⟨upd_same, same_new hD _⟩ (fun i H2 _ ⟨_, h⟩ => .inl (.inl (h _ _ g0))) ?_ ?_⟩
  · rintro i y H2 H3 hi ⟨h1, h2⟩ ⟨rfl, hy⟩
    rw [List.length_map] at hi
    have hi2 : i < 2 := hi
    obtain ⟨x, hx, rfl⟩ := map_get hy
    have tf := take_filter (p := fun w : Str => decide (w ∈ m.ws)) hx
    have s02 := s0.trans h2
    refine ⟨rfl, _, rfl, _, rfl, a, _, 0, _, rfl, rfl, seqT_up s02 ha, rfl, tw, _, rfl, .inr (seqT_up s02 hwa), rfl, flat_strs m.ws, _, rfl, ?_⟩
    show if inV (.str x) (m.ws.map V.str) = true then _ else _
    rw [inV_str]
    refine ite2 (fun c => ?_) (fun c => ?_)
    · refine ⟨_, rfl, _, h1, ?_, ?_, fun b o z => ?_⟩
      · rw [List.length_map]
        have := List.length_filter_le (fun w : Str => decide (w ∈ m.ws)) ((["integer", "atom"] : List Str).take i)
        rw [List.length_take] at this
        exact small1000 (by omega)
      · rw [upd_same, tf, if_pos c, List.map_append]
        rfl
      · rw [upd_ne (ne_of_none z hD)]
        exact h2 b o z
    · refine ⟨?_, h2⟩
      rw [tf, if_neg c, List.append_nil]
      exact h1
  rintro H2 ⟨h1, h2⟩
  have e0 : ((["integer", "atom"] : List Str).take ((["integer", "atom"] : List Str).map V.str).length) = (["integer", "atom"] : List Str) := rfl
  rw [e0, ws_law rm] at h1
  have s02 := s0.trans h2
  have hD0 : H D = none := s0.free hD
  have q : ∀ H', Same H H' → Q (.str (txtM m)) H' := q
  have one : ("|" : Str).length = 1 := by decide +kernel
  have one2 : (" " : Str).length = 1 := by decide +kernel
  have hpl : ∀ x ∈ ptsM m, Pl 100 x := fun x hx => by
    unfold ptsM at hx
    rw [ws_head rm] at hx
    rcases List.mem_append.mp hx with h | h
    · rcases List.mem_append.mp h with h | h
      · exact (headA_pl f x h).mono (by decide)
      · exact (mid_pl rm x h).mono (by decide)
    · cases e : decide (("fault" : Str) ∈ m.ws) with
      | true =>
        rw [e] at h
        rw [List.mem_singleton.mp h]
        exact fault_pl.mono (by decide)
      | false =>
        rw [e] at h
        exact absurd h List.not_mem_nil
  have hal : (headA f).length ≤ 2 := by
    unfold headA
    cases f "integer" <;> cases f "atom" <;> decide
  have hml := mid_len m.but m.sz
  have hpn : (ptsM m).length ≤ 4 := by
    unfold ptsM
    rw [ws_head rm, List.length_append, List.length_append]
    have : (if decide (("fault" : Str) ∈ m.ws) then [("fault" : Str)] else ([] : List Str)).length ≤ 1 := by
      cases decide (("fault" : Str) ∈ m.ws) <;> decide
    omega
  have fin2 : ∀ (H6 : Hp) (L : Str), Same H H6 → H6 D = some (.lst ((ptsM m).map V.str)) →
      tRet (tIf (tTest (tOp (rEqD K) (tVar 1) (tLst tNil))) (tC (.str "nothing")) (tM1 (fun x xs H Q => ∃ a p, ∃ ys : List Str, x = .str a ∧ xs = [.ref p] ∧ (SqL K H p (ys.map V.str) ∨ SqT K H p (ys.map V.str)) ∧ (ys.map (·.length)).sum + ys.length * a.length ≤ 16777216 ∧ Q (.str (Txt.join a ys)) H) (tC (.str "|")) (tVar 1)))
        { nx := fun _ H' => Q .non H', rt := Q } [some (.ref a), some (.ref D), some (.str L), none, none] H6 := fun H6 L s6 g6 => by
    refine ⟨_, rfl, by decide, fun l hl => ⟨.list ((ptsM m).map .str), .list [], .lst (SqL.of ((same_new hl _) _ _ g6)) (strD _), .lst (SqL.of upd_same) .nil, strs_sh _ hpl, sh_nil, _, rfl, ?_⟩⟩
    rw [strs_eqv]
    have sl := same_new (o := .lst []) hl
    have q6 := q _ (s6.trans sl)
    unfold txtM at q6
    refine ite2 (fun c => ?_) (fun c => ?_)
    · rw [if_pos c] at q6
      exact q6
    · rw [if_neg c] at q6
      have sm := sum_len (ptsM m) fun y hy => (hpl y hy).1
      exact ⟨⟨_, rfl⟩, _, rfl, _, D, ptsM m, rfl, rfl, .inl (SqL.of (sl _ _ g6)), by (rw [one]; omega), q6⟩
  have fin : ∀ (H5 : Hp) (L : Str) (zs : List Str), Same H H5 → H5 D = some (.lst (zs.map V.str)) → zs = headA f ++ midM m.but m.sz →
      tSeq (tIfS (tB (tOp (rIn K false) (tC (.str "fault")) (tOp (rIxT K) (tVar 0) (tC (.int 0))))) (tDrop (tBM K "list" rAppend (tVar 1) (tCons (tC (.str "fault")) tNil))) tNext) (tRet (tIf (tTest (tOp (rEqD K) (tVar 1) (tLst tNil))) (tC (.str "nothing")) (tM1 (fun x xs H Q => ∃ a p, ∃ ys : List Str, x = .str a ∧ xs = [.ref p] ∧ (SqL K H p (ys.map V.str) ∨ SqT K H p (ys.map V.str)) ∧ (ys.map (·.length)).sum + ys.length * a.length ≤ 16777216 ∧ Q (.str (Txt.join a ys)) H) (tC (.str "|")) (tVar 1))))
        { nx := fun _ H' => Q .non H', rt := Q } [some (.ref a), some (.ref D), some (.str L), none, none] H5 := fun H5 L zs s5 g5 ez => by
    refine ⟨_, rfl, a, _, 0, _, rfl, rfl, seqT_up s5 ha, rfl, tw, _, rfl, .inr (seqT_up s5 hwa), rfl, flat_strs _, _, rfl, ?_⟩
    show if inV (.str "fault") (m.ws.map V.str) = true then _ else _
    rw [inV_str]
    have lzs : zs.length ≤ 3 := by
      rw [ez, List.length_append]
      omega
    refine ite2 (fun c => ?_) (fun c => fin2 H5 L s5 ?_)
    · refine ⟨_, rfl, .inl ⟨rfl, _, SqL.of g5⟩, D, _, _, rfl, rfl, g5, small1000 (by rw [List.length_map]; omega), fin2 _ L (fun b o z => ?_) ?_⟩
      · rw [upd_ne (ne_of_none z hD0)]
        exact s5 b o z
      · rw [upd_same]
        unfold ptsM
        rw [if_pos c, ws_head rm, ← ez, List.map_append]
        rfl
    · rw [g5]
      unfold ptsM
      rw [if_neg c, ws_head rm, ← ez, List.append_nil]
  refine ⟨⟨_, rfl⟩, _, rfl, a, _, 1, _, rfl, rfl, seqT_up s02 ha, rfl, ts, rfl, ⟨_, seqT_up s02 hsa⟩, fun D7 hD7 => along (walk_tup (K := K) (a := ts) (xs := m.sz.map V.int)) (fun i H6 => H6 D7 = some (.lst ((ksT (m.sz.take i)).map V.str)) ∧ Same H2 H6) ⟨upd_same, same_new hD7 _⟩ (fun i H6 _ ⟨_, h⟩ => seqT_up (s02.trans h) hsa) ?_ ?_⟩
  · rintro i y H6 H7 hi ⟨k1, k4⟩ ⟨rfl, hy⟩
    rw [List.length_map] at hi
    obtain ⟨x, hx, rfl⟩ := map_get hy
    have bx := rm.bd x (List.mem_of_getElem? hx)
    refine ⟨rfl, _, rfl, x, rfl, ?_, _, k1, small1000 (by unfold ksT; rw [List.length_map, List.length_map, List.length_take]; omega), ?_, fun b o z => ?_⟩
    · have e : x.natAbs < 2 ^ 1000 := Nat.lt_of_lt_of_le (by omega : x.natAbs < 2 ^ 10) (Nat.pow_le_pow_right (by decide) (by decide))
      exact Nat.lt_trans (PySem.Flt.log2_lt_of (by decide) e) (by decide)
    · rw [upd_same]
      unfold ksT
      rw [get_take hx, List.map_append, List.map_append]
      rfl
    · rw [upd_ne (ne_of_none z hD7)]
      exact k4 b o z
  rintro H6 ⟨k1, k4⟩
  rw [List.length_map, List.take_of_length_le (Nat.le_refl _)] at k1
  have kl : (ksT m.sz).length ≤ 21 := by unfold ksT; rw [List.length_map]; exact lz
  have kp := ks_pl rm
  have s06 := s02.trans k4
  have g6 := k4 _ _ h1
  have sm := sum_len (ksT m.sz) fun y hy => Nat.le_trans (kp y hy).1.1 (by decide : 2 ≤ 5)
  have jl := join_len (a := " ") (ksT m.sz) fun y hy => Nat.le_trans (kp y hy).1.1 (by decide : 2 ≤ 5)
  rw [one2] at jl
  refine ⟨_, D7, ksT m.sz, rfl, rfl, .inl (SqL.of k1), by (rw [one2]; omega), ?_⟩
  have key : (m.sz = [] ∧ Txt.join " " (ksT m.sz) = "") ∨ (m.sz ≠ [] ∧ ksT m.sz ≠ [] ∧ m.sz.isEmpty = false ∧ ¬ Txt.join " " (ksT m.sz) = "") := by
    cases e : m.sz with
    | nil => exact .inl ⟨rfl, join_0⟩
    | cons x r =>
      refine .inr ⟨(fun z => nomatch z), (fun z => nomatch z), rfl, ?_⟩
      exact join_ne (kp (toString x : Str) (by rw [e]; exact List.mem_cons_self)).2
  have put : ∀ (x : Str), Same H (upd H6 D (.lst ((headA f).map V.str ++ [V.str x]))) := fun x b o z => by
    rw [upd_ne (ne_of_none z hD0)]
    exact s06 b o z
  refine ⟨_, rfl, a, _, 2, _, rfl, rfl, seqT_up s06 ha, rfl, m.but, rfl, ite2 (fun c => ?_) (fun c => ?_)⟩
  · refine ⟨_, rfl, .inl ⟨rfl, _, SqL.of g6⟩, _, rfl, rfl, _, rfl, ?_⟩
    rw [dst]
    rcases key with ⟨z1, z2⟩ | ⟨z1, z2, z3, z4⟩
    · rw [decide_eq_true z2]
      refine iteT ⟨D, _, _, rfl, rfl, g6, small1000 (by rw [List.length_map]; omega), fin _ _ (headA f ++ [("tuple" : Str)]) (put _) (by rw [upd_same, List.map_append]; rfl) ?_⟩
      unfold midM
      rw [z1, c]
      show _ = headA f ++ [Txt.join " " ["tuple"]]
      rw [join_1]
    · rw [decide_eq_false z4]
      refine iteF ⟨_, rfl, _, _, rfl, rfl, few2 (by rw [(by decide +kernel : ("tuple but " : Str).length = 10)]; omega), D, _, _, rfl, rfl, g6, small1000 (by rw [List.length_map]; omega), fin _ _ (headA f ++ [("tuple but " : Str) ++ Txt.join " " (ksT m.sz)]) (put _) (by rw [upd_same, List.map_append]; rfl) ?_⟩
      unfold midM
      rw [z3, c, ← join_tb _ z2]
      rfl
  · refine ⟨_, rfl, rfl, _, rfl, ?_⟩
    rw [dst]
    have cf := Bool.eq_false_iff.mpr c
    rcases key with ⟨z1, z2⟩ | ⟨z1, z2, z3, z4⟩
    · rw [decide_eq_true z2]
      refine iteF (fin H6 _ (headA f) s06 g6 ?_)
      unfold midM
      rw [z1, cf]
      exact (List.append_nil _).symm
    · rw [decide_eq_false z4]
      refine iteT ⟨_, rfl, .inl ⟨rfl, _, SqL.of g6⟩, _, rfl, _, _, rfl, rfl, few2 (by rw [(by decide +kernel : ("tuple " : Str).length = 6)]; omega), D, _, _, rfl, rfl, g6, small1000 (by rw [List.length_map]; omega), fin _ _ (headA f ++ [("tuple " : Str) ++ Txt.join " " (ksT m.sz)]) (put _) (by rw [upd_same, List.map_append]; rfl) ?_⟩
      unfold midM
      rw [z3, cf, ← join_t _ z2]
      rfl
end
abbrev sFst : Stmt := topS 24
abbrev sTold : Stmt := topS 25
theorem scFst : FnScope ["_law_one", "_law_kind"] ["_law_one"] (defScope sFst) := ⟨rfl, rfl, rfl, by decide +kernel, rfl, by decide +kernel, by decide +kernel⟩
theorem scTold : FnScope ["_law_found"] ["_law_found"] (defScope sTold) := ⟨rfl, rfl, rfl, by decide +kernel, rfl, by decide +kernel, by decide +kernel⟩
def Ks.hasP (m : Ks) : Pb → Bool
  | .w x => decide (x ∈ m.ws)
  | .s k => m.hasS k
def spKinP (K : PySem.W.Frag) : Sp := fun vs H Q _ => ∃ a m x, vs = [.ref a, Pb.v x] ∧ MAt K H a m ∧ ∀ H', Same H H' → Q (.bl (m.hasP x)) H'
theorem kin_imp {K : PySem.W.Frag} {vs : List V} {H : Hp} {Q : VK} {E : XK} (h : spKinP K vs H Q E) : spKin K vs H Q E := by
  obtain ⟨a, m, x, rfl, hm, q⟩ := h
  cases x with
  | w x => exact ⟨a, m, _, rfl, hm, .inl ⟨x, rfl, q⟩⟩
  | s k => exact ⟨a, m, _, rfl, hm, .inr ⟨k, rfl, q⟩⟩
def P40 : List Pb := [.w "integer", .w "atom"] ++ (List.range 40).map (fun i : Nat => .s (i : Int)) ++ [.w "fault"]
theorem p40_v : [V.str "integer", .str "atom"] ++ rgV 0 40 ++ [V.str "fault"] = P40.map Pb.v := by
  unfold P40 rgV
  rw [List.map_append, List.map_append, List.map_map]
  rfl
theorem p40_len : P40.length = 43 := by decide +kernel
theorem p40_s {i : Nat} (h : i < 40) : P40[i + 2]? = some (.s (i : Int)) := by
  unfold P40
  rw [List.getElem?_append_left (by simp; omega)]
  show ((List.range 40).map (fun i : Nat => Pb.s (i : Int)))[i]? = _
  rw [List.getElem?_map, List.getElem?_range h]
  rfl
/-- no size at all -/
theorem no_size {m : Ks} {f : Str → Bool} {g : Int → Bool} (r : Rep m f g) (h : ∀ i : Nat, i < 40 → m.hasS (i : Int) = false) (j : Int) (j0 : 0 ≤ j) : m.hasS j = false := by
  have nb : m.but = false := by
    have z := h 21 (by decide)
    rw [r.but, ← r.s]
    exact z
  by_cases c : j < 40
  · have e : j = ((j.toNat : Nat) : Int) := by omega
    rw [e]
    exact h _ (by omega)
  · unfold Ks.hasS
    rw [nb, decide_eq_false fun z => by have := r.bd j z; omega]
    rfl
theorem lst_at {m : Ks} {f : Str → Bool} {g : Int → Bool} (r : Rep m f g) {i : Nat} {b : Pb} (h : P40[i]? = some b) (hb : m.hasP b = true) (no : ∀ (j : Nat) (b' : Pb), j < i → P40[j]? = some b' → m.hasP b' = false) : Lst m (some b) := by
  have hl : i < 43 := by
    have := (List.getElem?_eq_some_iff.mp h).1
    rw [p40_len] at this
    exact this
  rcases i with _ | _ | i
  · cases h
    exact .i (of_decide_eq_true hb)
  · cases h
    exact .a (of_decide_eq_false (no 0 (.w "integer") (by decide) rfl)) (of_decide_eq_true hb)
  · have nI := of_decide_eq_false (no 0 (.w "integer") (by omega) rfl)
    have nA := of_decide_eq_false (no 1 (.w "atom") (by omega) rfl)
    by_cases c : i < 40
    · rw [p40_s c] at h
      cases h
      refine .s _ nI nA (by omega) hb fun j j0 ji => ?_
      have e : j = ((j.toNat : Nat) : Int) := by omega
      rw [e]
      exact no (j.toNat + 2) (.s _) (by omega) (p40_s (by omega))
    · have e : i = 40 := by omega
      subst e
      cases h
      exact .f nI nA (no_size r fun j hj => no (j + 2) (.s _) (by omega) (p40_s hj)) (of_decide_eq_true hb)
theorem lst_no {m : Ks} {f : Str → Bool} {g : Int → Bool} (r : Rep m f g) (no : ∀ (j : Nat) (b' : Pb), P40[j]? = some b' → m.hasP b' = false) : Lst m none :=
  .n (of_decide_eq_false (no 0 (.w "integer") rfl)) (of_decide_eq_false (no 1 (.w "atom") rfl)) (no_size r fun j hj => no (j + 2) (.s _) (p40_s hj)) (of_decide_eq_false (no 42 (.w "fault") rfl))
def spFst (K : PySem.W.Frag) : Sp := fun vs H Q _ => ∃ t m f g, vs = [.ref t] ∧ MAt K H t m ∧ Rep m f g ∧ ∀ x H', Same H H' → Lst m x → Q (oV x) H'
def spTold (K : PySem.W.Frag) (C : Addr) : Sp := fun vs H Q _ => ∃ a m f g, vs = [.ref a] ∧ KAt K C H a m ∧ Rep m f g ∧ ∀ x L H', Same H H' → Lst m x → H' L = some (.lst [oV (onlyP m), oV (sizeP m), oV x, .str (txtM m)]) → Q (.ref L) H'
/-- a property of the kind sets -/
structure KP (P : Program) (w : World) (K : PySem.W.Frag) (mg : Str → Option Value) (base : Heap) (C : Addr) (m : Str) (sp : Sp) (p g : Addr) (fd : FuncData) : Prop where
  p : PropOf K C m p g
  ok : FnOk P w K mg base CX0 1 g fd ["self"] sp
  bd : Binds K fd ["self"] []
section
variable {P : Program} {w : World} {K : PySem.W.Frag} {mg : Str → Option Value} {base : Heap} {f fK C fE p1 p2 p3 g1 g2 g3 fS : Addr} {fd dK d1 d2 d3 dS : FuncData}
theorem ok_fst {k : Nat} (F : Fun K "_law_first" "_law_first" sFst f fd) (B : Bi mg) (hli : mg "list" = none) (GK : Dn P w K mg base 1 "_law_kind_in" ["_law_one", "_law_kind"] (spKinP K) fK dK) : FnOk P w K mg base CX0 (k + 2) f fd ["_law_one"] (spFst K) := by
  refine F.ok scFst (fun vs H Q E h => ?_) (fun cdv A outer s H vs Q E hr h => ?_)
  · obtain ⟨a, m, f, g, rfl, _⟩ := h
    rfl
  obtain ⟨a, m, f, g, rfl, hm, rm, q⟩ := h
  have hr1 : Room 1 _ := hr.mono (by omega)
  refine ⟨_, pss_cons (ps_for PassesOwn.never rfl (pi_list (pe_op op_cat (pe_op op_cat (pe_lst (pa_cons pe_str (pa_cons pe_str pa_nil))) (pe_listRg rfl (by rfl) hli (prg_1 (by rfl) B.rng pe_int))) (pe_lst (pa_cons pe_str pa_nil)))) (pg_name (i := 1) scFst.nd rfl (.inl rfl))
      (pss_one (ps_if (pt_val (pe_call GK.ok hr1 (by rfl) GK.mg GK.kp GK.bd .nil pass0 (pa_cons (pv 0) (pa_cons (pv 1) pa_nil)))) (pss_one (ps_ret (pv 1))) pss_nil)))
    (pss_one (ps_ret pe_non)), ?_⟩
  refine ⟨few (by simp), fun L1 hL1 => ⟨40, rfl, RgOk.of_le (by decide) (by decide) (by decide) (by decide), fun L2 hL2 => ?_⟩⟩
  have s1 := same_new (o := .lst [V.str "integer", .str "atom"]) hL1
  have s2 := same_new (o := .lst (rgV 0 40)) hL2
  refine ⟨L1, L2, _, _, rfl, rfl, s2 _ _ upd_same, upd_same, few2 (by rw [rgV_length]; decide), fun L3 hL3 => ⟨few (by simp), fun L4 hL4 => ?_⟩⟩
  have s3 := same_new (o := .lst ([V.str "integer", .str "atom"] ++ rgV 0 40)) hL3
  have s4 := same_new (o := .lst [V.str "fault"]) hL4
  refine ⟨L3, L4, _, _, rfl, rfl, s4 _ _ upd_same, upd_same, few2 (by rw [List.length_append, rgV_length]; decide), fun L hL => ?_⟩
  have s5 := same_new (o := .lst ([V.str "integer", .str "atom"] ++ rgV 0 40 ++ [V.str "fault"])) hL
  have s05 := s1.trans (s2.trans (s3.trans (s4.trans s5)))
  have gL : (upd (upd (upd (upd (upd H L1 (.lst [V.str "integer", .str "atom"])) L2 (.lst (rgV 0 40))) L3 (.lst ([V.str "integer", .str "atom"] ++ rgV 0 40))) L4 (.lst [V.str "fault"])) L (.lst ([V.str "integer", .str "atom"] ++ rgV 0 40 ++ [V.str "fault"]))) L = some (.lst (P40.map Pb.v)) := by rw [upd_same, p40_v]
  generalize upd (upd (upd (upd (upd H L1 (.lst [V.str "integer", .str "atom"])) L2 (.lst (rgV 0 40))) L3 (.lst ([V.str "integer", .str "atom"] ++ rgV 0 40))) L4 (.lst [V.str "fault"])) L (.lst ([V.str "integer", .str "atom"] ++ rgV 0 40 ++ [V.str "fault"])) = HL at s05 gL
  refine ⟨L, rfl, ⟨_, SqL.of gL⟩, for_list (K := K) (a := L) (xs := P40.map Pb.v) (fun i σ H2 => ∃ o1, σ = [some (.ref a), o1] ∧ Same HL H2 ∧ ∀ j b', j < i → P40[j]? = some b' → m.hasP b' = false) ⟨none, rfl, Same.refl _, fun j b' z => absurd z (Nat.not_lt_zero _)⟩ (fun i σ H2 _ ⟨_, _, h, _⟩ => SqL.of (h _ _ gL)) ?_ ?_⟩
  · rintro i y σ H2 hy ⟨o1, rfl, s2, no⟩
    obtain ⟨x, hx, rfl⟩ := map_get hy
    refine ⟨_, rfl, _, rfl, a, m, x, rfl, hm.up (s05.trans s2), fun H3 s3 => ⟨_, rfl, ite2 (fun c => ?_) (fun c => ?_)⟩⟩
    · exact ⟨_, rfl, q (some x) H3 (s05.trans (s2.trans s3)) (lst_at rm hx c no)⟩
    · refine ⟨_, rfl, s2.trans s3, fun j b' hj hb => ?_⟩
      by_cases e : j = i
      · rw [e, hx] at hb
        cases hb
        exact Bool.eq_false_iff.mpr c
      · exact no j b' (by omega) hb
  rintro σ H2 ⟨o1, rfl, s2, no⟩
  refine q none H2 (s05.trans s2) (lst_no rm fun j b' hb => no j b' ?_ hb)
  first
  | exact (List.getElem?_eq_some_iff.mp hb).1
  | (rw [List.length_map]; exact (List.getElem?_eq_some_iff.mp hb).1)
theorem ok_told {k : Nat} (F : Fun K "_law_told" "_law_told" sTold f fd) (B : Bi mg) (T : KC K mg C fE) (P1 : KP P w K mg base C "only" (spPrp K C onlyP) p1 g1 d1) (P2 : KP P w K mg base C "size" (spPrp K C sizeP) p2 g2 d2) (P3 : KP P w K mg base C "least" (spLea K C) p3 g3 d3)
    (mS : Meth K C "__str__" fS) (oS : FnOk P w K mg base CX0 3 fS dS ["self"] (spTxt K C)) (bS : Binds K dS ["self"] []) : FnOk P w K mg base CX0 (k + 6) f fd ["_law_found"] (spTold K C) := by
  refine F.ok scTold (fun vs H Q E h => ?_) (fun cdv A outer s H vs Q E hr h => ?_)
  · obtain ⟨a, m, f, g, rfl, _⟩ := h
    rfl
  obtain ⟨a, m, f, g, rfl, ha, rm, q⟩ := h
  have hr2 : Room (1 + 1) _ := hr.mono (by omega)
  have hr5 : Room (3 + 2) _ := hr.mono (by omega)
  refine ⟨_, pss_one (ps_ret (pe_lst (pa_cons (pe_prop (pv 0) T.o.c.cl P1.p P1.ok hr2 P1.bd .nil pass0 rfl) (pa_cons (pe_prop (pv 0) T.o.c.cl P2.p P2.ok hr2 P2.bd .nil pass0 rfl) (pa_cons (pe_prop (pv 0) T.o.c.cl P3.p P3.ok hr2 P3.bd .nil pass0 rfl)
    (pa_cons (pe_callTy (call_strO mS oS bS hr5) (by rfl) B.str b_str (pa_cons (pv 0) pa_nil)) pa_nil)))))), ?_⟩
  obtain ⟨dx, fs, ia⟩ := ha.ins
  refine ⟨_, rfl, a, dx, fs, rfl, ia, a, m, f, g, rfl, ha, rm, fun H1 s1 => ?_⟩
  refine ⟨_, rfl, a, dx, fs, rfl, s1 _ _ ia, a, m, f, g, rfl, ha.up s1, rm, fun H2 s2 => ?_⟩
  refine ⟨_, rfl, a, dx, fs, rfl, s2 _ _ (s1 _ _ ia), a, m, f, g, rfl, ha.up (s1.trans s2), rm, fun x H3 s3 lx => ?_⟩
  have s03 := s1.trans (s2.trans s3)
  refine ⟨_, rfl, a, dx, fs, rfl, s03 _ _ ia, a, m, f, g, rfl, ha.up s03, rm, fun H4 s4 => ⟨_, rfl, few (by simp), fun L hL => ?_⟩⟩
  exact q x L _ (s03.trans (s4.trans (same_new hL _))) lx upd_same
end
abbrev sPrs : Stmt := kcl 2
abbrev sLaw : Stmt := topS 26
theorem scPrs : FnScope ["cls"] ["cls"] (defScope sPrs) := ⟨rfl, rfl, rfl, by decide +kernel, rfl, by decide +kernel, by decide +kernel⟩
theorem scLaw : FnScope ["_law_script", "_law_box_here", "_law_turn", "_law_one", "_law_only_here", "_law_due", "_law_turned", "_law_k", "_law_none", "_law_left", "_law_gone", "_law_some"] ["_law_script"] (defScope sLaw) := ⟨rfl, rfl, rfl, by decide +kernel, rfl, by decide +kernel, by decide +kernel⟩
def spLaw (K : PySem.W.Frag) : Sp := fun vs H Q _ => ∃ (a : Addr) (ns : List Int), vs = [.ref a] ∧ SqL K H a (ns.map V.int) ∧ ns.length ≤ 63 ∧ ∀ H', Q (.bl true) H'
def mPrs : Ks := ⟨["integer", "atom"], true, []⟩
theorem rep_prs : Rep mPrs (fun w => decide (w = "integer") || decide (w = "atom")) (fun _ => true) := rep_val
def spPrs (K : PySem.W.Frag) (C : Addr) : Sp := fun vs H Q _ => vs = [.ref C] ∧ ∀ c H', Same H H' → KAt K C H' c mPrs → Q (.ref c) H'
theorem KAt.off {K : PySem.W.Frag} {C : Addr} {H H' : Hp} {p g a : Addr} {m : Ks} (h : KAt K C H a m) (b : Box H p g) (o : Off [p, g] H H') : KAt K C H' a m := by
  obtain ⟨dx, tw, ts, h1, h2, h3⟩ := h
  refine ⟨dx, tw, ts, o.get h1 fun z => ?_, seqT_up (cut_same _ _) (seqT_up o (seqT_box b h2)), seqT_up (cut_same _ _) (seqT_up o (seqT_box b h3))⟩
  obtain ⟨n, s, u, gs, g1, g2, _⟩ := b.ex
  rcases List.mem_cons.mp z with z | z
  · rw [z, g1] at h1
    cases h1
  · rw [List.mem_singleton.mp z, g2] at h1
    cases h1
theorem o_dp {K : PySem.W.Frag} {H : Hp} (x : Option Pb) : Dp K H (oV x) (oD x) := by
  cases x with
  | none => exact .non
  | some b =>
    cases b
    · exact .str _
    · exact .int _
/-- small enough to be printed -/
def okO : Option Pb → Prop
  | some (.w x) => x ∈ kW
  | some (.s k) => 0 ≤ k ∧ k ≤ 21
  | none => True
theorem o_gd {x : Option Pb} (h : okO x) : gd (oD x) = true := by
  cases x with
  | none => simp only [oD, gd]
  | some b =>
    cases b with
    | w x => exact kW_gd x h
    | s k =>
      have hk : 0 ≤ k ∧ k ≤ 21 := h
      exact gd_int (i := k) (Nat.lt_of_lt_of_le (by omega : k.natAbs < 2 ^ 10) (Nat.pow_le_pow_right (by decide) (by decide)))
theorem o_nod (x : Option Pb) : nod (oD x) = 1 ∧ (oD x).depth = 0 := by
  cases x with
  | none => exact ⟨by simp only [oD, nod], by simp only [oD, PyData.depth]⟩
  | some b => cases b <;> exact ⟨by simp only [oD, Pb.d, nod], by simp only [oD, Pb.d, PyData.depth]⟩
theorem all_ok {m : Ks} {f : Str → Bool} {g : Int → Bool} (r : Rep m f g) : ∀ b ∈ allP m, okO (some b) := fun b hb => by
  rcases List.mem_append.mp hb with h | h
  · obtain ⟨x, hx, rfl⟩ := List.mem_map.mp h
    rw [r.w] at hx
    exact (List.mem_filter.mp hx).1
  · obtain ⟨k, hk, rfl⟩ := List.mem_map.mp h
    have := r.bd k hk
    exact ⟨this.1, by omega⟩
theorem only_ok {m : Ks} {f : Str → Bool} {g : Int → Bool} (r : Rep m f g) : okO (onlyP m) := by
  unfold onlyP
  split
  · cases e : (allP m)[0]? with
    | none => exact trivial
    | some b => exact all_ok r b (List.mem_of_getElem? e)
  · exact trivial
theorem size_ok {m : Ks} {f : Str → Bool} {g : Int → Bool} (r : Rep m f g) : okO (sizeP m) := by
  unfold sizeP
  split
  · cases e : (m.sz.map Pb.s)[0]? with
    | none => exact trivial
    | some b => exact all_ok r b (List.mem_append_right _ (List.mem_of_getElem? e))
  · exact trivial
theorem lst_ok {m : Ks} {f : Str → Bool} {g : Int → Bool} {x : Option Pb} (r : Rep m f g) (h : Lst m x) : okO x := by
  cases h with
  | i => exact mI
  | a => exact mA
  | f => exact mF
  | n => exact trivial
  | s k _ _ k0 hk no =>
    refine ⟨k0, ?_⟩
    by_cases c : k ≤ 21
    · exact c
    have z := no 21 (by decide) (by omega)
    rw [r.s, ← r.but] at z
    unfold Ks.hasS at hk
    rw [z, decide_eq_false fun y => by have := r.bd k y; omega] at hk
    cases hk
/-- what the law tells of a kind set -/
def toldD (m : Ks) (x : Option Pb) : PyData := .list [oD (onlyP m), oD (sizeP m), oD x, .str (txtM m)]
theorem told_prn {m : Ks} {f : Str → Bool} {g : Int → Bool} {x : Option Pb} (r : Rep m f g) (h : Lst m x) : Prn (toldD m x) := by
  have g1 := o_gd (only_ok r)
  have g2 := o_gd (size_ok r)
  have g3 := o_gd (lst_ok r h)
  have g4 := pl_gd (txt_pl r) (Nat.le_refl _)
  refine prn_of (by simp only [toldD, gd, gds, g1, g2, g3]; rw [show (decide ((txtM m).length ≤ 100) && (txtM m).cps.toList.all fun c => decide (c < 128)) = true by simpa only [gd] using g4]; rfl) ?_ ?_
  · simp only [toldD, nod, nods, (o_nod _).1]
    omega
  · simp only [toldD, PyData.depth, PyData.depthAll, (o_nod _).2]
    omega
theorem told_sh {m : Ks} {f : Str → Bool} {g : Int → Bool} {x : Option Pb} (r : Rep m f g) (h : Lst m x) : SeqAt.shaped (toldD m x) = true := by
  have g1 := o_gd (only_ok r)
  have g2 := o_gd (size_ok r)
  have g3 := o_gd (lst_ok r h)
  have g4 := pl_gd (txt_pl r) (Nat.le_refl _)
  refine shaped_of (by simp only [toldD, gd, gds, g1, g2, g3]; rw [show (decide ((txtM m).length ≤ 100) && (txtM m).cps.toList.all fun c => decide (c < 128)) = true by simpa only [gd] using g4]; rfl) ?_
  simp only [toldD, PyData.depth, PyData.depthAll, (o_nod _).2]
  omega
theorem o_eqv (x : Option Pb) : PyData.eqv (oD x) (oD x) = true := by
  cases x with
  | none => simp only [oD, PyData.eqv]
  | some b => cases b <;> simp only [oD, Pb.d, PyData.eqv, beq_self_eq_true]
theorem told_eqv (m : Ks) (x : Option Pb) : PyData.eqv (toldD m x) (toldD m x) = true := by
  simp only [toldD, PyData.eqv, PyData.eqvAll, o_eqv, beq_self_eq_true, Bool.and_self]
theorem told_dp {K : PySem.W.Frag} {H : Hp} {L : Addr} {m : Ks} {x : Option Pb} (h : H L = some (.lst [oV (onlyP m), oV (sizeP m), oV x, .str (txtM m)])) : Dp K H (.ref L) (toldD m x) :=
  .lst (SqL.of h) (.cons (o_dp _) (.cons (o_dp _) (.cons (o_dp _) (.cons (.str _) .nil))))
/-- the size, if the only kind is one -/
def intO : Option Pb → Option Pb
  | some (.s k) => some (.s k)
  | _ => none
theorem size_only (m : Ks) : intO (onlyP m) = sizeP m := by
  unfold onlyP sizeP allP
  cases m.but with
  | true => rw [if_neg (fun z => nomatch z.2), if_neg (fun z => nomatch z.2.2)]; rfl
  | false =>
    cases m.ws with
    | nil =>
      cases m.sz with
      | nil => rfl
      | cons k r => cases r with
        | nil => rfl
        | cons k2 r => rw [if_neg (by simp), if_neg (by simp)]; rfl
    | cons x r =>
      rw [if_neg (c := m.sz.length = 1 ∧ x :: r = [] ∧ false = false) (by simp)]
      split
      · rfl
      · rfl
theorem isInt_o (x : Option Pb) : isIntB (oD x) = match x with | some (.s _) => true | _ => false := by
  cases x with
  | none => rfl
  | some b => cases b <;> rfl
/-- the numbers below i that are not in ls -/
def goneL (ls : List Int) (i : Nat) : List Int := ((List.range i).map fun n : Nat => (n : Int)).filter fun k => !decide (k ∈ ls)
theorem gone_succ (ls : List Int) (i : Nat) : goneL ls (i + 1) = goneL ls i ++ (if (!decide ((i : Int) ∈ ls)) = true then [(i : Int)] else []) := by
  unfold goneL
  rw [List.range_succ, List.map_append, List.filter_append]
  congr 1
  show List.filter _ [(i : Int)] = _
  cases e : (!decide ((i : Int) ∈ ls)) with
  | true => simp only [List.filter, e]; rfl
  | false => simp only [List.filter, e]; rfl
theorem gone_mem {ls : List Int} {i : Nat} {k : Int} : k ∈ goneL ls i ↔ 0 ≤ k ∧ k < i ∧ ¬ k ∈ ls := by
  unfold goneL
  rw [List.mem_filter, List.mem_map]
  constructor
  · rintro ⟨⟨n, hn, rfl⟩, h⟩
    have := List.mem_range.mp hn
    exact ⟨by omega, by omega, by simpa using h⟩
  · rintro ⟨h0, h1, h2⟩
    exact ⟨⟨k.toNat, List.mem_range.mpr (by omega), by omega⟩, by simpa using h2⟩
theorem gone_len (ls : List Int) (i : Nat) : (goneL ls i).length ≤ i := by
  unfold goneL
  refine Nat.le_trans (List.length_filter_le _ _) ?_
  rw [List.length_map, List.length_range]
  exact Nat.le_refl _
/-- the least size that is left -/
theorem least_left {r : Ks} {ls ks : List Int} (er : Rep r (fun _ => false) (fun j => !decide (j ∈ ks))) (hk : ∀ k, k ∈ ks ↔ k ∈ goneL ls 21) (srt : ls.Pairwise (· < ·)) (bd : ∀ z ∈ ls, 0 ≤ z ∧ z < 21) :
    ∃ k0 : Int, (ls.map V.int ++ [V.int 21])[0]? = some (.int k0) ∧ Lst r (some (.s k0)) := by
  have now : r.ws = [] := by
    rw [er.w]
    rfl
  have nI : ¬ ("integer" : Str) ∈ r.ws := by rw [now]; exact List.not_mem_nil
  have nA : ¬ ("atom" : Str) ∈ r.ws := by rw [now]; exact List.not_mem_nil
  cases e : ls with
  | nil =>
    refine ⟨21, rfl, .s 21 nI nA (by decide) ?_ fun j j0 j1 => ?_⟩
    · rw [er.s]
      have : ¬ (21 : Int) ∈ ks := fun z => by
        have := gone_mem.mp ((hk 21).mp z)
        omega
      rw [decide_eq_false this]
      rfl
    · rw [er.s, decide_eq_true ((hk j).mpr (gone_mem.mpr ⟨j0, j1, by rw [e]; exact List.not_mem_nil⟩))]
      rfl
  | cons x t =>
    rw [e] at srt
    have bx := bd x (by rw [e]; exact List.mem_cons_self)
    refine ⟨x, rfl, .s x nI nA bx.1 ?_ fun j j0 j1 => ?_⟩
    · rw [er.s]
      have : ¬ x ∈ ks := fun z => (gone_mem.mp ((hk x).mp z)).2.2 (by rw [e]; exact List.mem_cons_self)
      rw [decide_eq_false this]
      rfl
    · rw [er.s, decide_eq_true ((hk j).mpr (gone_mem.mpr ⟨j0, by omega, fun z => ?_⟩))]
      · rfl
      · rw [e] at z
        rcases List.mem_cons.mp z with z | z
        · omega
        · have := (List.pairwise_cons.mp srt).1 j z
          omega
theorem left_none {r : Ks} {ls ks : List Int} (er : Rep r (fun _ => false) (fun j => !decide (j ∈ ks))) (hk : ∀ k, k ∈ ks ↔ k ∈ goneL ls 21) : onlyP r = none ∧ sizeP r = none := by
  have nb : r.but = true := by
    rw [er.but]
    have : ¬ (21 : Int) ∈ ks := fun z => by
      have := gone_mem.mp ((hk 21).mp z)
      omega
    rw [decide_eq_false this]
    rfl
  unfold onlyP sizeP
  rw [nb]
  exact ⟨if_neg (fun z => nomatch z.2), if_neg (fun z => nomatch z.2.2)⟩
theorem tx1 : txtM ⟨kW, true, []⟩ = "integer|atom|tuple|fault" := by decide +kernel
theorem tx2 : txtM mPrs = "integer|atom|tuple" := by decide +kernel
theorem tx3 : txtM ⟨[], true, []⟩ = "tuple" := by decide +kernel
theorem tx4 : txtM ⟨[], false, [0]⟩ = "tuple 0" := by decide +kernel
abbrev tx : List Str := ["integer|atom|tuple|fault", "integer|atom|tuple", "tuple", "tuple 0"]
theorem tx_pl : ∀ x ∈ tx, Pl 100 x := by
  intro x hx
  simp only [List.mem_cons, List.not_mem_nil, or_false] at hx
  rcases hx with h | h | h | h <;> rw [h] <;> exact ⟨by decide +kernel, by decide +kernel⟩
theorem tx_eqv : PyData.eqv (.list (tx.map .str)) (.list (tx.map .str)) = true := by
  simp only [PyData.eqv, eqv_strs]
  rfl
section
variable {P : Program} {w : World} {K : PySem.W.Frag} {mg : Str → Option Value} {base : Heap} {f C fE fA fO fS fB fT fD fM fL fAl fOn fFs fTx fTo fSt fI p1 p2 p3 q1 q2 q3 q4 g1 g2 g3 h1 h2 h3 h4 : Addr} {fd dA dO dS dB dT dD dM dL dAl dOn dFs dTx dTo dSt dI d1 d2 d3 e1 e2 e3 e4 : FuncData} {mc : Value}
theorem ok_prs {k : Nat} (F : Fun K "present" "Kinds.present" sPrs f fd) (T : KC K mg C fE) (M : MkK P w K mg base C fI dI) : FnOk P w K mg base CX0 (k + 3) f fd ["cls"] (spPrs K C) := by
  refine F.ok scPrs (fun vs H Q E h => ?_) (fun cdv A outer s H vs Q E hr h => ?_)
  · rw [h.1]
    rfl
  obtain ⟨rfl, q⟩ := h
  have hr2 : Room (1 + 1) _ := hr.mono (by omega)
  refine ⟨_, pss_one (ps_ret (pe_make M.mkr M.ok hr2 (by rfl) T.mg M.bd .nil pass0 (pa_cons (pe_tup (pa_cons pe_str (pa_cons pe_str pa_nil))) (pa_cons pe_bl (pa_cons (pe_tup pa_nil) pa_nil))))), ?_⟩
  refine ⟨few (by simp), fun t0 ht0 => ⟨by decide, fun t ht => fun x d0 hx hdx ne => ⟨x, d0, .ref t0, .ref t, true, rfl, upd_same, fun H7 e1 e2 => ⟨rfl, ?_⟩⟩⟩⟩
  have s2 := same_new (o := .tup []) ht
  obtain ⟨s5, kt⟩ := kat_made (m := mPrs) hx hdx e1 e2 (.inl (.inl (s2 _ _ upd_same))) (.inl (.inl upd_same))
  exact q x _ ((same_new ht0 _).trans (s2.trans s5)) kt
theorem ok_law (F : Fun K "law" "law" sLaw f fd) (B : Bi mg) (T : KC K mg C fE) (R : ClX.CRead K C mc) (A : KO P w K mg base C 3 "__and__" so2 (spKK K C and) fA dA) (O : KO P w K mg base C 4 "__or__" so2 (spKK K C or) fO dO) (S : KO P w K mg base C 4 "__sub__" so2 (kS K C) fS dS)
    (St : KO P w K mg base C 3 "__str__" ["self"] (spTxt K C) fSt dSt) (M1 : KM P w K mg base C mc "everything" ["cls"] (spEvr K C) q1 h1 e1) (M2 : KM P w K mg base C mc "present" ["cls"] (spPrs K C) q2 h2 e2) (M3 : KM P w K mg base C mc "of" ["cls", "word"] (spOf K C) q3 h3 e3) (M4 : KM P w K mg base C mc "sized" ["cls", "k"] (spSzd K C) q4 h4 e4)
    (P1 : KP P w K mg base C "only" (spPrp K C onlyP) p1 g1 d1) (P2 : KP P w K mg base C "size" (spPrp K C sizeP) p2 g2 d2) (P3 : KP P w K mg base C "least" (spLea K C) p3 g3 d3)
    (GB : Dn P w K mg base 1 "_law_box" ["_law_script", "_law_base"] (spBox K) fB dB) (Tk' : Tk P w K mg base fT dT) (GD : Dn P w K mg base 4 "_law_wide" ["_law_box_here"] (spSome K) fD dD) (GM : Dn P w K mg base 5 "_law_made" ["_law_one"] (spMade K C) fM dM)
    (GL : Dn P w K mg base 2 "_law_less" ["_law_one", "_law_other"] (spMeet K fun x y => x && !y) fL dL) (GA : Dn P w K mg base 1 "_law_all_kinds" [] (spCon K mAll) fAl dAl)
    (GO : Dn P w K mg base 1 "_law_only" ["_law_one"] (spModel K fun m => oV (onlyP m)) fOn dOn) (GF : Dn P w K mg base 2 "_law_first" ["_law_one"] (spFst K) fFs dFs) (GX : Dn P w K mg base 1 "_law_text" ["_law_one"] (spModel K fun m => .str (txtM m)) fTx dTx)
    (GT : Dn P w K mg base 6 "_law_told" ["_law_found"] (spTold K C) fTo dTo) : FnG P w K mg base CX0 7 f fd ["_law_script"] (spLaw K) := by
  refine okG F scLaw (fun vs H Q E h => ?_) (fun cdv A' outer s H vs Q E hgd hr h => ?_)
  · obtain ⟨a, ns, rfl, _⟩ := h
    rfl
  obtain ⟨a, ns, rfl, hS, hlen, q⟩ := h
  have hr1 : Room 1 _ := hr.mono (by decide)
  have hr2 : Room 2 _ := hr.mono (by decide)
  have hr11 : Room (1 + 1) _ := hr.mono (by decide)
  have hr3 : Room 3 _ := hr.mono (by decide)
  have hr32 : Room (3 + 2) _ := hr.mono (by decide)
  have hr4 : Room 4 _ := hr.mono (by decide)
  have hr5 : Room 5 _ := hr.mono (by decide)
  refine ⟨_, pss_cons (ps_set (i := 1) scLaw.nd rfl (.inr rfl) (pe_call GB.ok hr1 (by rfl) GB.mg GB.kp GB.bd .nil pass0 (pa_cons (pv 0) (pa_cons pe_int pa_nil))))
    (pss_cons (ps_for PassesOwn.never rfl (pi_range1 (by rfl) B.rng (pa_cons pe_int pa_nil)) (pg_name (i := 2) scLaw.nd rfl (.inl rfl))
      (pss_cons (ps_set (i := 3) scLaw.nd rfl (.inl rfl) (pe_call GD.ok hr4 (by rfl) GD.mg GD.kp GD.bd .nil pass0 (pa_cons (pv 1) pa_nil)))
      (pss_cons (ps_set (i := 4) scLaw.nd rfl (.inl rfl) (pe_call GO.ok hr1 (by rfl) GO.mg GO.kp GO.bd .nil pass0 (pa_cons (pv 3) pa_nil)))
      (pss_cons (ps_set (i := 5) scLaw.nd rfl (.inl rfl) (pe_lst (pa_cons (pv 4) (pa_cons (pe_ifExp (pt_val (pe_callB call_isD (by rfl) B.ii b_ii (pa_cons (pv 4) (pa_cons (pe_bltn (by rfl) B.int b_int (v := .ty "int") rfl) pa_nil)))) (pv 4) pe_non)
        (pa_cons (pe_call GF.ok hr2 (by rfl) GF.mg GF.kp GF.bd .nil pass0 (pa_cons (pv 3) pa_nil)) (pa_cons (pe_call GX.ok hr1 (by rfl) GX.mg GX.kp GX.bd .nil pass0 (pa_cons (pv 3) pa_nil)) pa_nil))))))
      (pss_cons (ps_if (pt_cmpR op_ne (pe_callB (call_rep hgd hr.units) (by rfl) B.rep b_rep (pa_cons (pe_call GT.ok hr (by rfl) GT.mg GT.kp GT.bd .nil pass0 (pa_cons (pe_call GM.ok hr5 (by rfl) GM.mg GM.kp GM.bd .nil pass0 (pa_cons (pv 3) pa_nil)) pa_nil)) pa_nil))
        (pe_callB (call_rep hgd hr.units) (by rfl) B.rep b_rep (pa_cons (pv 5) pa_nil)) (nomark _)) (pss_one (ps_ret pe_bl)) pss_nil)
      (pss_cons (ps_set (i := 6) scLaw.nd rfl (.inl rfl) (pe_op (op_binO rfl T.sf S.m S.ok S.bd hr4) (pe_cmeth0 (pe_glob (by rfl) T.mg (v := .ref C) rfl) R M1.c M1.r hr3 pass0)
        (pe_call GM.ok hr5 (by rfl) GM.mg GM.kp GM.bd .nil pass0 (pa_cons (pe_call GL.ok hr2 (by rfl) GL.mg GL.kp GL.bd .nil pass0 (pa_cons (pe_call0 GA.ok hr1 (by rfl) GA.mg GA.kp GA.bd .nil pass0) (pa_cons (pv 3) pa_nil))) pa_nil))))
      (pss_one (ps_if (PW.pt (pw_or (pt_cmpR op_ne (pe_callB (call_rep hgd hr.units) (by rfl) B.rep b_rep (pa_cons (pe_call GT.ok hr (by rfl) GT.mg GT.kp GT.bd .nil pass0 (pa_cons (pv 6) pa_nil)) pa_nil)) (pe_callB (call_rep hgd hr.units) (by rfl) B.rep b_rep (pa_cons (pv 5) pa_nil)) (nomark _))
        (pw_or1 (pt_cmpR (op_neD hr.units) (pe_call GT.ok hr (by rfl) GT.mg GT.kp GT.bd .nil pass0 (pa_cons (pe_op (op_binO rfl T.sf O.m O.ok O.bd hr4) (pv 6) (pv 6)) pa_nil)) (pe_call GT.ok hr (by rfl) GT.mg GT.kp GT.bd .nil pass0 (pa_cons (pe_op (op_binO rfl T.sf A.m A.ok A.bd hr3) (pv 6) (pv 6)) pa_nil)) (nomark _))))) (pss_one (ps_ret pe_bl)) pss_nil))))))))
    (pss_cons (ps_asg (pe_tup (pa_cons (ClX.pe_cmeth (pe_glob (by rfl) T.mg (v := .ref C) rfl) R M3.c M3.r hr3 pass0 (pa_cons pe_str pa_nil)) (pa_cons (pe_lc (own := [("_law_k", 7)]) (g := gName 7) (by rfl) scLaw.nd (pi_range1 (by rfl) B.rng (pa_cons pe_int pa_nil))
        (blkOk_by (own := [("_law_k", 7)]) (N := ["_law_script", "_law_box_here", "_law_turn", "_law_one", "_law_only_here", "_law_due", "_law_turned", "_law_k", "_law_none", "_law_left", "_law_gone", "_law_some"]) (sc := defScope sLaw) (by decide +kernel))
        (fun _ _ _ _ _ => pg_name (i := 7) scLaw.nd rfl (Or.inl rfl)) (fun _ _ _ _ _ => pts_one (pt_cmpR op_eq (pe_call Tk'.ok hr1 (by rfl) Tk'.mg Tk'.kp Tk'.bd .nil pass0 (pa_cons (pv 1) (pa_cons pe_int pa_nil))) pe_int (nomark _))) (fun _ _ _ _ _ => pv 7)) pa_nil)))
      (pg_tup (by rfl) (pgs_cons (pg_name (i := 8) scLaw.nd rfl (.inl rfl)) (pgs_cons (pg_name (i := 9) scLaw.nd rfl (.inr rfl)) pgs_nil))))
    (pss_cons (ps_setLc (i := 10) (own := [("_law_k", 7)]) (g := gName 7) (by rfl) scLaw.nd rfl rfl (sw_true rfl rfl rfl (by decide +kernel)) (pi_range1 (by rfl) B.rng (pa_cons pe_int pa_nil))
        (blkOk_by (own := [("_law_k", 7)]) (N := ["_law_script", "_law_box_here", "_law_turn", "_law_one", "_law_only_here", "_law_due", "_law_turned", "_law_k", "_law_none", "_law_left", "_law_gone", "_law_some"]) (sc := defScope sLaw) (by decide +kernel))
        (fun _ _ _ _ _ => pg_name (i := 7) scLaw.nd rfl (Or.inl rfl)) (fun _ _ _ _ _ => pts_one (pt_cmpR (op_notInK (K := K) rfl) (pv 7) (pv 9) rfl)) (fun _ _ _ _ _ => pv 7))
    (pss_cons (ps_for PassesOwn.never rfl (pi_list (pe_ix ix_list (pe_lst (pa_cons (pv 10) (pa_cons (pe_revL (pv 10)) pa_nil))) (pe_call Tk'.ok hr1 (by rfl) Tk'.mg Tk'.kp Tk'.bd .nil pass0 (pa_cons (pv 1) (pa_cons pe_int pa_nil))) (fun _ _ => rfl))) (pg_name (i := 7) scLaw.nd rfl (.inl rfl))
      (pss_one (ps_set (i := 8) scLaw.nd rfl (.inl rfl) (pe_op (op_binO rfl T.sf S.m S.ok S.bd hr4) (pv 8) (ClX.pe_cmeth (pe_glob (by rfl) T.mg (v := .ref C) rfl) R M4.c M4.r hr3 pass0 (pa_cons (pv 7) pa_nil))))))
    (pss_cons (ps_if (PW.pt (pw_or (pt_cmpR op_ne (pe_prop (pv 8) T.o.c.cl P3.p P3.ok hr11 P3.bd .nil pass0 rfl) (pe_ix ix_list (pe_op op_cat (pv 9) (pe_lst (pa_cons pe_int pa_nil))) pe_int (fun _ _ => rfl)) (nomark _))
        (pw_or (pt_cmpR op_notN1 (pe_prop (pv 8) T.o.c.cl P1.p P1.ok hr11 P1.bd .nil pass0 rfl) pe_non (nomark _)) (pw_or1 (pt_cmpR op_notN1 (pe_prop (pv 8) T.o.c.cl P2.p P2.ok hr11 P2.bd .nil pass0 rfl) pe_non (nomark _)))))) (pss_one (ps_ret pe_bl)) pss_nil)
    (pss_cons (ps_set (i := 11) scLaw.nd rfl (.inl rfl) (pe_lst (pa_cons (pe_callTy (call_strO St.m St.ok St.bd hr32) (by rfl) B.str b_str (pa_cons (pe_cmeth0 (pe_glob (by rfl) T.mg (v := .ref C) rfl) R M1.c M1.r hr3 pass0) pa_nil))
        (pa_cons (pe_callTy (call_strO St.m St.ok St.bd hr32) (by rfl) B.str b_str (pa_cons (pe_cmeth0 (pe_glob (by rfl) T.mg (v := .ref C) rfl) R M2.c M2.r hr3 pass0) pa_nil))
        (pa_cons (pe_callTy (call_strO St.m St.ok St.bd hr32) (by rfl) B.str b_str (pa_cons (ClX.pe_cmeth (pe_glob (by rfl) T.mg (v := .ref C) rfl) R M3.c M3.r hr3 pass0 (pa_cons pe_str pa_nil)) pa_nil))
        (pa_cons (pe_callTy (call_strO St.m St.ok St.bd hr32) (by rfl) B.str b_str (pa_cons (ClX.pe_cmeth (pe_glob (by rfl) T.mg (v := .ref C) rfl) R M4.c M4.r hr3 pass0 (pa_cons pe_int pa_nil)) pa_nil)) pa_nil))))))
    (pss_one (ps_ret (pe_cmpR (op_eqD hr.units) (pv 11) (pe_lst (pa_cons pe_str (pa_cons pe_str (pa_cons pe_str (pa_cons pe_str pa_nil))))) (nomark _)))))))))), ?_⟩
  refine ⟨_, rfl, a, ns, 0, rfl, hS, hlen, Int.le_refl _, by decide, fun p g H1 b1 s1 np ng => ?_⟩
  refine ⟨12, rfl, by decide, by decide, for_range (n := 12) (fun i σ H2 => ∃ o2 o3 o4 o5 o6, σ = [some (.ref a), some (.ref p), o2, o3, o4, o5, o6, none, none, none, none, none] ∧ Box H2 p g) ⟨none, none, none, none, none, rfl, b1⟩ ?_ ?_⟩
  · rintro i σ H2 hi ⟨o2, o3, o4, o5, o6, rfl, b2⟩
    refine ⟨_, rfl, p, g, rfl, b2, fun t m f' g' H3 oo3 b3 k3 e3 => ?_⟩
    refine ⟨_, rfl, t, m, _, _, rfl, k3, e3, fun H4 s4 => ?_⟩
    refine ⟨_, rfl, _, rfl, _, oD (onlyP m), "int", _, rfl, o_dp _, kit_int _, _, rfl, ?_⟩
    have so := size_only m
    refine ite2 (fun c => ⟨_, rfl, ?_⟩) (fun c => ?_)
    have ev : oV (onlyP m) = oV (sizeP m) := by
      rw [isInt_o] at c
      rw [← so]
      cases e : onlyP m with
      | none => rfl
      | some b =>
        rw [e] at c
        cases b with
        | w x => cases c
        | s k => rfl
    rotate_left
    have ev : V.non = oV (sizeP m) := by
      rw [isInt_o] at c
      rw [← so]
      cases e : onlyP m with
      | none => rfl
      | some b =>
        rw [e] at c
        cases b with
        | w x => rfl
        | s k => exact absurd rfl c
    all_goals
      refine ⟨_, rfl, t, m, _, _, rfl, k3.up s4, e3, fun x H5 s5 lx => ?_⟩
      refine ⟨_, rfl, t, m, _, _, rfl, k3.up (s4.trans s5), e3, fun H6 s6 => ⟨few (by simp), fun L hL => ?_⟩⟩
      generalize hX : upd H6 L _ = HX
      have s7 : Same H6 HX := by
        rw [← hX]
        exact same_new hL _
      have g7 : HX L = some (.lst [oV (onlyP m), oV (sizeP m), oV x, .str (txtM m)]) := by
        rw [← hX, upd_same, ← ev]
        try rfl
      have s37 := s4.trans (s5.trans (s6.trans s7))
      clear hX
      have k7 := k3.up s37
      have b7 := b3.same s37
      refine ⟨_, rfl, t, m, _, _, rfl, k7, e3, fun c8 H8 s8 kc => ⟨c8, m, _, _, rfl, kc, e3, fun x2 L2 H9 s9 lx2 h9 => ?_⟩⟩
      have ex := lx2.uniq lx
      subst ex
      have s79 := s8.trans s9
      refine ⟨_, toldD m x2, rfl, told_dp h9, told_prn e3 lx2, _, rfl, _, toldD m x2, rfl, told_dp (s79 _ _ g7), told_prn e3 lx2, rfl, _, rfl, ?_⟩
      rw [decide_eq_true rfl]
      refine iteF ⟨rfl, rfl, fun c1 r1 HA sA kA eA => ⟨rfl, fun tB HB sB kB => ⟨_, rfl, tB, t, mAll, m, _, _, _, _, rfl, kB, k7.up (s79.trans (sA.trans sB)), rep_all, e3, fun tL rL HL sL kL eL => ⟨tL, rL, _, _, rfl, kL, eL, fun c2 HM sM kM => rb (kA.up (sB.trans (sL.trans sM))) kM eA eL fun c3 r3 HN sN kN eN => ?_⟩⟩⟩⟩
      have r3m : r3 = m := (eN.congr (f2 := f') (g2 := g') (fun w => by cases f' w <;> rfl) (fun k => by cases g' k <;> rfl)).uniq e3
      rw [r3m] at kN
      have sAN := s79.trans (sA.trans (sB.trans (sL.trans (sM.trans sN))))
      refine ⟨_, rfl, c3, m, _, _, rfl, kN, e3, fun x3 L3 HO sO lx3 h3 => ?_⟩
      have ex := lx3.uniq lx
      subst ex
      refine ⟨_, toldD m x3, rfl, told_dp h3, told_prn e3 lx3, _, rfl, _, toldD m x3, rfl, told_dp ((sAN.trans sO) _ _ g7), told_prn e3 lx3, rfl, _, rfl, ?_⟩
      rw [decide_eq_true rfl]
      refine iteF ⟨_, rfl, _, rfl, rb (kN.up sO) (kN.up sO) e3 e3 fun c4 r4 HP sP k4 e4 => ?_⟩
      have r4m : r4 = m := (e4.congr (f2 := f') (g2 := g') (fun w => by cases f' w <;> rfl) (fun k => by cases g' k <;> rfl)).uniq e3
      rw [r4m] at k4
      refine ⟨c4, m, _, _, rfl, k4, e3, fun x5 L5 HQ sQ lx5 h5 => ⟨_, rfl, _, rfl, rb (kN.up (sO.trans (sP.trans sQ))) (kN.up (sO.trans (sP.trans sQ))) e3 e3 fun c6 r6 HR sR k6 e6 => ?_⟩⟩
      have r6m : r6 = m := (e6.congr (f2 := f') (g2 := g') (fun w => by cases f' w <;> rfl) (fun k => by cases g' k <;> rfl)).uniq e3
      rw [r6m] at k6
      refine ⟨c6, m, _, _, rfl, k6, e3, fun x7 L7 HS sS lx7 h7 => ?_⟩
      have ex := lx5.uniq lx
      have ex7 := lx7.uniq lx
      subst ex
      subst ex7
      refine ⟨toldD m x7, toldD m x7, told_dp ((sR.trans sS) _ _ h5), told_dp h7, told_sh e3 lx7, told_sh e3 lx7, _, rfl, ?_⟩
      rw [told_eqv]
      exact iteF ⟨_, _, _, _, _, rfl, b7.same (sAN.trans (sO.trans (sP.trans (sQ.trans (sR.trans sS)))))⟩
  rintro σ H2 ⟨o2, o3, o4, o5, o6, rfl, b2⟩
  refine ⟨rfl, _, rfl, .inl ⟨rfl, fun c0 r0 H3 s3 k0 e0 => ?_⟩⟩
  have b3 := b2.same s3
  refine ⟨21, rfl, by decide, by decide, fun D hD => ?_⟩
  have nD := b3.notin hD
  refine lc_range (lo := 0) (n := 21) (fun i H4 => ∃ ks : List Int, H4 D = some (.lst (ks.map V.int)) ∧ ks.length ≤ i ∧ ks.Pairwise (· < ·) ∧ (∀ z ∈ ks, 0 ≤ z ∧ z < i) ∧ Box H4 p g ∧ Off [p, g] H3 H4) ⟨[], upd_same, Nat.zero_le _, .nil, fun _ z => absurd z List.not_mem_nil, b3.put nD, off_new (Off.refl _ _) nD hD⟩ ?_ ?_
  · rintro i H4 hi ⟨ks, h1, lk, srt, bd, b4, o4⟩
    refine ⟨rfl, _, rfl, p, g, 8, rfl, b4, by decide, by decide, fun r H5 r0 r8 b5 o5 => ⟨rfl, _, rfl, ite2 (fun c => ?_) (fun c => ?_)⟩⟩
    · refine ⟨_, rfl, _, o5.get h1 nD, few (by rw [List.length_map]; omega), ks ++ [(i : Int)], ?_, by rw [List.length_append, List.length_singleton]; omega, ?_, fun z hz => ?_, b5.put nD, off_new (o4.trans o5) nD hD⟩
      · rw [upd_same, List.map_append, Int.zero_add]
        rfl
      · refine List.pairwise_append.mpr ⟨srt, List.pairwise_singleton _ _, fun x hx y hy => ?_⟩
        rw [List.mem_singleton.mp hy]
        exact (bd x hx).2
      · rcases List.mem_append.mp hz with h | h
        · have := bd z h
          omega
        · rw [List.mem_singleton.mp h]
          omega
    · exact ⟨ks, o5.get h1 nD, by omega, srt, fun z hz => by have := bd z hz; omega, b5, o4.trans o5⟩
  rintro H4 ⟨ls, h1, lk, srt, bd, b4, of4⟩
  have k4 := k0.off b3 of4
  refine ⟨few (by simp), fun tT hT => ?_⟩
  have s5 := same_new (o := .tup [V.ref c0, .ref D]) hT
  refine ⟨tT, _, rfl, .inl (.inl upd_same), rfl, _, _, rfl, _, _, rfl, rfl, ?_⟩
  have h5 := s5 _ _ h1
  have b5 := b4.same s5
  have k5 := k4.up s5
  generalize upd H4 tT (.tup [V.ref c0, .ref D]) = H5 at h5 b5 k5
  refine ⟨21, rfl, by decide, by decide, fun D2 hD2 => ?_⟩
  refine lc_range (lo := 0) (n := 21) (fun i H6 => H6 D2 = some (.lst ((goneL ls i).map V.int)) ∧ Same H5 H6) ⟨upd_same, same_new hD2 _⟩ ?_ ?_
  · rintro i H6 hi ⟨g1, s6⟩
    refine ⟨rfl, _, rfl, _, rfl, D, _, rfl, .inl (SqL.of (s6 _ _ h5)), rfl, flat_ints _, _, rfl, ?_⟩
    show if (!inV (.int (0 + (i : Int))) (ls.map V.int)) = true then _ else _
    rw [inV_int, Int.zero_add]
    refine ite2 (fun c => ?_) (fun c => ?_)
    · refine ⟨_, rfl, _, g1, ?_, ?_, fun b o z => ?_⟩
      · rw [List.length_map]
        have := gone_len ls i
        exact small1000 (by omega)
      · rw [upd_same, gone_succ, if_pos c, List.map_append]
        rfl
      · rw [upd_ne (ne_of_none z hD2)]
        exact s6 b o z
    · refine ⟨?_, s6⟩
      rw [gone_succ, if_neg c, List.append_nil]
      exact g1
  rintro H6 ⟨g1, s6⟩
  have h6 := s6 _ _ h5
  have b6 := b5.same s6
  have k6 := k5.up s6
  refine ⟨_, rfl, _, rfl, D2, _, rfl, SqL.of g1, fun D3 hD3 => ⟨few (by simp), fun L4 hL4 => ?_⟩⟩
  have s7 := same_new (o := .lst ((goneL ls 21).map V.int).reverse) hD3
  have s8 := same_new (o := .lst [V.ref D2, .ref D3]) hL4
  have s78 := s7.trans s8
  have b8 := b6.same s78
  have nL4 := (b6.same s7).notin hL4
  have n2 : D2 ∉ [p, g] := fun z => by
    obtain ⟨n, s, u, gs, x1, x2, _⟩ := b5.ex
    rcases List.mem_cons.mp z with z | z
    · rw [z, x1] at hD2
      cases hD2
    · rw [List.mem_singleton.mp z, x2] at hD2
      cases hD2
  have n3 := b6.notin hD3
  refine ⟨_, rfl, p, g, 2, rfl, b8, by decide, by decide, fun r3 H9 r30 r32 b9 o9 => ?_⟩
  obtain ⟨y, hy, my, _⟩ := atI_ok (xs := [V.ref D2, .ref D3]) r30 (by simpa using r32)
  refine ⟨L4, _, r3, y, rfl, rfl, SqL.of (o9.get upd_same nL4), hy, ?_⟩
  have g2 := o9.get (s78 _ _ g1) n2
  have g3 := o9.get (s8 _ _ (upd_same (H := H6) (a := D3) (o := .lst ((goneL ls 21).map V.int).reverse))) n3
  have h9 := o9.get (s78 _ _ h6) nD
  have k9 := (k6.up s78).off b8 o9
  obtain ⟨L0, ks, ey, hL0, hk, kl⟩ : ∃ (L0 : Addr) (ks : List Int), y = .ref L0 ∧ H9 L0 = some (.lst (ks.map V.int)) ∧ (∀ k, k ∈ ks ↔ k ∈ goneL ls 21) ∧ ks.length ≤ 21 := by
    simp only [List.mem_cons, List.not_mem_nil, or_false] at my
    rcases my with h | h
    · exact ⟨D2, _, h, g2, fun _ => Iff.rfl, gone_len ls 21⟩
    · exact ⟨D3, (goneL ls 21).reverse, h, by rw [List.map_reverse]; exact g3, fun _ => List.mem_reverse, by rw [List.length_reverse]; exact gone_len ls 21⟩
  subst ey
  have kb : ∀ k ∈ ks, 0 ≤ k ∧ k ≤ 20 := fun k z => by
    have := gone_mem.mp ((hk k).mp z)
    omega
  refine ⟨L0, rfl, ⟨_, SqL.of hL0⟩, for_list (K := K) (a := L0) (xs := ks.map V.int) (fun i σ HA => ∃ c r o7, σ = [some (.ref a), some (.ref p), o2, o3, o4, o5, o6, o7, some (.ref c), some (.ref D), some (.ref D2), none] ∧ Same H9 HA ∧ KAt K C HA c r ∧ Rep r (fun _ => false) (fun j => !decide (j ∈ ks.take i)))
    ⟨c0, r0, none, rfl, Same.refl _, k9, e0.congr (fun _ => rfl) (fun j => by rw [List.take_zero]; rfl)⟩ (fun i σ HA _ ⟨_, _, _, _, h, _⟩ => SqL.of (h _ _ hL0)) ?_ ?_⟩
  · rintro i y σ HA hy ⟨c, r, o7, rfl, sA, kA, eA⟩
    obtain ⟨x, hx, rfl⟩ := map_get hy
    have bx := kb x (List.mem_of_getElem? hx)
    refine ⟨_, rfl, rfl, _, rfl, x, rfl, bx.1, bx.2, fun c5 r5 HB sB kB eB => rb (kA.up sB) kB eA eB fun c6 r6 HC sC kC eC => ?_⟩
    refine ⟨c6, r6, _, rfl, sA.trans (sB.trans sC), kC, eC.congr (fun _ => rfl) (fun j => ?_)⟩
    rw [take_one hx]
    cases decide (j ∈ ks.take i) <;> cases decide (j = x) <;> rfl
  rintro σ HA ⟨c, r, o7, rfl, sA, kA, eA⟩
  rw [List.length_map, List.take_of_length_le (Nat.le_refl _)] at eA
  obtain ⟨k0, hk0, lx0⟩ := least_left eA hk srt bd
  obtain ⟨no, nz⟩ := left_none eA hk
  obtain ⟨dx, fs, ic⟩ := kA.ins
  refine ⟨_, rfl, c, dx, fs, rfl, ic, c, r, _, _, rfl, kA, eA, fun x HB sB lx => ?_⟩
  have ex := lx.uniq lx0
  subst ex
  have hB := sB _ _ (sA _ _ h9)
  refine ⟨_, rfl, few (by simp), fun L5 hL5 => ?_⟩
  have s10 := same_new (o := .lst [V.int 21]) hL5
  refine ⟨D, L5, _, _, rfl, rfl, s10 _ _ hB, upd_same, few2 (by rw [List.length_map]; simp only [List.length_cons, List.length_nil]; omega), fun L6 hL6 => ?_⟩
  have s11 := same_new (o := .lst (ls.map V.int ++ [V.int 21])) hL6
  refine ⟨L6, _, 0, _, rfl, rfl, SqL.of upd_same, at0 hk0, rfl, _, rfl, ?_⟩
  have sC := sB.trans (s10.trans s11)
  rw [decide_eq_true (show oV (some (Pb.s k0)) = V.int k0 from rfl)]
  refine iteF ⟨_, rfl, c, dx, fs, rfl, sC _ _ ic, c, r, _, _, rfl, kA.up sC, eA, fun HD sD => ⟨rfl, _, rfl, ?_⟩⟩
  rw [no]
  refine iteF ⟨_, rfl, c, dx, fs, rfl, sD _ _ (sC _ _ ic), c, r, _, _, rfl, kA.up (sC.trans sD), eA, fun HE sE => ⟨rfl, _, rfl, ?_⟩⟩
  rw [nz]
  refine iteF ⟨rfl, rfl, fun cE rE HF sF kE eE => ?_⟩
  have xE : rE = ⟨kW, true, []⟩ := eE.uniq rep_all
  subst xE
  obtain ⟨d5, f5, i5⟩ := kE.ins
  refine ⟨cE, d5, f5, rfl, i5, cE, _, _, _, rfl, kE, rep_all, fun HG sG => ⟨_, rfl, rfl, rfl, fun cP HH sH kP => ?_⟩⟩
  obtain ⟨d6, f6, i6⟩ := kP.ins
  refine ⟨cP, d6, f6, rfl, i6, cP, _, _, _, rfl, kP, rep_prs, fun HI sI => ⟨_, rfl, rfl, _, rfl, .inl ⟨rfl, fun cT rT HJ sJ kT eT => ?_⟩⟩⟩
  have xT : rT = ⟨[], true, []⟩ := eT.uniq rep_tup
  subst xT
  obtain ⟨d7, f7, i7⟩ := kT.ins
  refine ⟨cT, d7, f7, rfl, i7, cT, _, _, _, rfl, kT, rep_tup, fun HK sK => ⟨_, rfl, rfl, 0, rfl, by decide, by decide, fun cZ rZ HL sL kZ eZ => ?_⟩⟩
  have xZ : rZ = ⟨[], false, [0]⟩ := eZ.uniq (rep_size (by decide) (by decide))
  subst xZ
  obtain ⟨d8, f8, i8⟩ := kZ.ins
  refine ⟨cZ, d8, f8, rfl, i8, cZ, _, _, _, rfl, kZ, eZ, fun HM sM => ⟨_, rfl, ?_⟩⟩
  rw [tx1, tx2, tx3, tx4]
  refine ⟨few (by simp), fun L7 hL7 => ?_⟩
  have g7 : (upd HM L7 (.lst (tx.map V.str))) L7 = some (.lst (tx.map V.str)) := upd_same
  refine ⟨_, rfl, few (by simp), fun L8 hL8 => ⟨.list (tx.map .str), .list (tx.map .str), .lst (SqL.of ((same_new hL8 _) _ _ g7)) (strD _), .lst (SqL.of (upd_same (o := .lst (tx.map V.str)))) (strD _), strs_sh _ tx_pl, strs_sh _ tx_pl, ?_⟩⟩
  rw [tx_eqv]
  exact q _
end
theorem kit_me {K : PySem.W.Frag} {C : Addr} : PySem.W.kitOne K (.ref C) (.ref C) = some true := by
  unfold PySem.W.kitOne
  simp
theorem kit_own {K : PySem.W.Frag} {C : Addr} {T : String} (c : (PySem.W.clsIn K C).isSome = true) (t : PySem.W.typeIn K (.ref C) = some (.type "type")) (s : PySem.W.subIn K (.type T) (.ref C) = some false) : PySem.W.kitOne K (.type T) (.ref C) = some false := by
  unfold PySem.W.kitOne PySem.W.kitCls
  rw [if_neg (show ¬ (Value.type T == Value.ref C) = true from by intro z; cases z)]
  show (if ((PySem.W.clsIn K C).isSome && PySem.W.typeIn K (.ref C) == some (.type "type")) = true then PySem.W.subIn K (.type T) (.ref C) else none) = some false
  rw [c, t]
  simp only [beq_self_eq_true, Bool.and_self, if_true]
  exact s
theorem kit_ofC {K : PySem.W.Frag} {C : Addr} {T : String} (m : PySem.W.kitMeta T = true) (s : PySem.W.subIn K (.ref C) (.type T) = some false) : PySem.W.kitOne K (.ref C) (.type T) = some false := by
  unfold PySem.W.kitOne PySem.W.kitCls
  rw [if_neg (show ¬ (Value.ref C == Value.type T) = true from by intro z; cases z)]
  show (if PySem.W.kitMeta T = true then _ else _) = _
  rw [if_pos m]
  exact s
theorem kmt1 : PySem.W.kitMeta "NoneType" = true := by decide +kernel
theorem kmt2 : PySem.W.kitMeta "bool" = true := by decide +kernel
theorem kmt3 : PySem.W.kitMeta "int" = true := by decide +kernel
theorem kmt4 : PySem.W.kitMeta "str" = true := by decide +kernel
theorem kmt5 : PySem.W.kitMeta "list" = true := by decide +kernel
theorem kmt6 : PySem.W.kitMeta "tuple" = true := by decide +kernel
theorem all_mk {l : PySem.W.OpenLaw} {w : World} {K : PySem.W.Frag} {h : Heap} {mg : Str → Option Value} {fa f1 f2 f3 f4 f5 f6 f7 f8 f9 f10 f11 f12 f13 f14 f15 f16 f17 f18 f19 f20 : Addr} (X : K.In h) (G : h.Ns mainGlobals mg) (hfa : mg "law" = some (.ref fa))
    {C tW : Addr} {g0 g1 g2 g3 g4 g5 g6 g7 g8 g9 g10 g11 g12 p1 p2 p3 p4 p10 p11 p12 : Addr} {oWd : Option Addr} {sW : Array (Option Value)} {nW : Nat} {tk1 tk2 tk3 : Tok} {cdC : ClassData} {rs1 rs2 rs3 rs4 rs10 rs11 rs12 : List Value}
    {od0' an0' od1' an1' od2' an2' od3' an3' od4' an4' od5' an5' od6' an6' od7' an7' od9' an9' od10' an10' od11' an11' od12' an12' : Option Addr} {sl0' sl1' sl2' sl3' sl4' sl5' sl6' sl7' sl9' sl10' sl11' sl12' : Array (Option Value)} {ou0 kV0' dc0' pm0' cd0' ct0' ou1 kV1' dc1' pm1' cd1' ct1' ou2 kV2' dc2' pm2' cd2' ct2' ou3 kV3' dc3' pm3' cd3' ct3' ou4 kV4' dc4' pm4' cd4' ct4' ou5 kV5' dc5' pm5' cd5' ct5' ou6 kV6' dc6' pm6' cd6' ct6' ou7 kV7' dc7' pm7' cd7' ct7' ou9 kV9' dc9' pm9' cd9' ct9' ou10 kV10' dc10' pm10' cd10' ct10' ou11 kV11' dc11' pm11' cd11' ct11' ou12 kV12' dc12' pm12' cd12' ct12' : Value}
    {od1 an1 od2 an2 od3 an3 od4 an4 od5 an5 od6 an6 od7 an7 od8 an8 od9 an9 od10 an10 od11 an11 od12 an12 od13 an13 od14 an14 od15 an15 od16 an16 od17 an17 od18 an18 od19 an19 od20 an20 : Option Addr} {sl1 sl2 sl3 sl4 sl5 sl6 sl7 sl8 sl9 sl10 sl11 sl12 sl13 sl14 sl15 sl16 sl17 sl18 sl19 sl20 : Array (Option Value)} {oc1 kV1 dc1 pm1 cd1 ct1 oc2 kV2 dc2 pm2 cd2 ct2 oc3 kV3 dc3 pm3 cd3 ct3 oc4 kV4 dc4 pm4 cd4 ct4 oc5 kV5 dc5 pm5 cd5 ct5 oc6 kV6 dc6 pm6 cd6 ct6 oc7 kV7 dc7 pm7 cd7 ct7 oc8 kV8 dc8 pm8 cd8 ct8 oc9 kV9 dc9 pm9 cd9 ct9 oc10 kV10 dc10 pm10 cd10 ct10 oc11 kV11 dc11 pm11 cd11 ct11 oc12 kV12 dc12 pm12 cd12 ct12 oc13 kV13 dc13 pm13 cd13 ct13 oc14 kV14 dc14 pm14 cd14 ct14 oc15 kV15 dc15 pm15 cd15 ct15 oc16 kV16 dc16 pm16 cd16 ct16 oc17 kV17 dc17 pm17 cd17 ct17 oc18 kV18 dc18 pm18 cd18 ct18 oc19 kV19 dc19 pm19 cd19 ct19 oc20 kV20 dc20 pm20 cd20 ct20 : Value}
    (aC : PySem.W.nsIn K mainGlobals "Kinds" = some (some (.ref C)))
    (aW : PySem.W.nsIn K mainGlobals "WORDS" = some (some (.ref tW)))
    (lW : K.lookup tW = some ⟨.type "tuple", oWd, .seq #[.str "integer" tk1, .str "atom" tk2, .str "fault" tk3] nW, sW⟩)
    (am0 : PySem.W.findIn K (.ref C) "__init__" = some (some (.ref g0)))
    (im0 : PySem.W.isFn K (.ref g0) = true)
    (lm0 : K.lookup g0 = some ⟨ou0, od0', .func (PySem.W.fnOf "__init__" "Kinds.__init__" (defArgs sIni) (defBody sIni) (defScope sIni) .none kV0' dc0' pm0' an0' cd0' ct0'), sl0'⟩)
    (cm0 : PySem.W.codeIn K cd0' "Kinds.__init__" = true)
    (km0 : PySem.W.keepIn K (.ref g0) = true)
    (am1 : PySem.W.findCls K (.ref C) (.type "type") "everything" = some (.get (.builtin "classmethod.__get__") (.ref p1) .none (.ref C)))
    (im1 : PySem.W.recIn K p1 "classmethod" = some (.ref g1 :: rs1))
    (fi1 : PySem.W.fnIn K g1 = true)
    (lm1 : K.lookup g1 = some ⟨ou1, od1', .func (PySem.W.fnOf "everything" "Kinds.everything" (defArgs sEvr) (defBody sEvr) (defScope sEvr) .none kV1' dc1' pm1' an1' cd1' ct1'), sl1'⟩)
    (cm1 : PySem.W.codeIn K cd1' "Kinds.everything" = true)
    (km1 : PySem.W.keepIn K (.ref g1) = true)
    (am2 : PySem.W.findCls K (.ref C) (.type "type") "present" = some (.get (.builtin "classmethod.__get__") (.ref p2) .none (.ref C)))
    (im2 : PySem.W.recIn K p2 "classmethod" = some (.ref g2 :: rs2))
    (fi2 : PySem.W.fnIn K g2 = true)
    (lm2 : K.lookup g2 = some ⟨ou2, od2', .func (PySem.W.fnOf "present" "Kinds.present" (defArgs sPrs) (defBody sPrs) (defScope sPrs) .none kV2' dc2' pm2' an2' cd2' ct2'), sl2'⟩)
    (cm2 : PySem.W.codeIn K cd2' "Kinds.present" = true)
    (km2 : PySem.W.keepIn K (.ref g2) = true)
    (am3 : PySem.W.findCls K (.ref C) (.type "type") "of" = some (.get (.builtin "classmethod.__get__") (.ref p3) .none (.ref C)))
    (im3 : PySem.W.recIn K p3 "classmethod" = some (.ref g3 :: rs3))
    (fi3 : PySem.W.fnIn K g3 = true)
    (lm3 : K.lookup g3 = some ⟨ou3, od3', .func (PySem.W.fnOf "of" "Kinds.of" (defArgs sOf) (defBody sOf) (defScope sOf) .none kV3' dc3' pm3' an3' cd3' ct3'), sl3'⟩)
    (cm3 : PySem.W.codeIn K cd3' "Kinds.of" = true)
    (km3 : PySem.W.keepIn K (.ref g3) = true)
    (am4 : PySem.W.findCls K (.ref C) (.type "type") "sized" = some (.get (.builtin "classmethod.__get__") (.ref p4) .none (.ref C)))
    (im4 : PySem.W.recIn K p4 "classmethod" = some (.ref g4 :: rs4))
    (fi4 : PySem.W.fnIn K g4 = true)
    (lm4 : K.lookup g4 = some ⟨ou4, od4', .func (PySem.W.fnOf "sized" "Kinds.sized" (defArgs sSzd) (defBody sSzd) (defScope sSzd) .none kV4' dc4' pm4' an4' cd4' ct4'), sl4'⟩)
    (cm4 : PySem.W.codeIn K cd4' "Kinds.sized" = true)
    (km4 : PySem.W.keepIn K (.ref g4) = true)
    (am5 : PySem.W.findIn K (.ref C) "__and__" = some (some (.ref g5)))
    (im5 : PySem.W.isFn K (.ref g5) = true)
    (lm5 : K.lookup g5 = some ⟨ou5, od5', .func (PySem.W.fnOf "__and__" "Kinds.__and__" (defArgs sAnd) (defBody sAnd) (defScope sAnd) .none kV5' dc5' pm5' an5' cd5' ct5'), sl5'⟩)
    (cm5 : PySem.W.codeIn K cd5' "Kinds.__and__" = true)
    (km5 : PySem.W.keepIn K (.ref g5) = true)
    (am6 : PySem.W.findIn K (.ref C) "__or__" = some (some (.ref g6)))
    (im6 : PySem.W.isFn K (.ref g6) = true)
    (lm6 : K.lookup g6 = some ⟨ou6, od6', .func (PySem.W.fnOf "__or__" "Kinds.__or__" (defArgs sOr) (defBody sOr) (defScope sOr) .none kV6' dc6' pm6' an6' cd6' ct6'), sl6'⟩)
    (cm6 : PySem.W.codeIn K cd6' "Kinds.__or__" = true)
    (km6 : PySem.W.keepIn K (.ref g6) = true)
    (am7 : PySem.W.findIn K (.ref C) "__sub__" = some (some (.ref g7)))
    (im7 : PySem.W.isFn K (.ref g7) = true)
    (lm7 : K.lookup g7 = some ⟨ou7, od7', .func (PySem.W.fnOf "__sub__" "Kinds.__sub__" (defArgs sSub) (defBody sSub) (defScope sSub) .none kV7' dc7' pm7' an7' cd7' ct7'), sl7'⟩)
    (cm7 : PySem.W.codeIn K cd7' "Kinds.__sub__" = true)
    (km7 : PySem.W.keepIn K (.ref g7) = true)
    (am8 : PySem.W.findIn K (.ref C) "__eq__" = some (some (.ref g8)))
    (im8 : PySem.W.isFn K (.ref g8) = true)
    (km8 : PySem.W.keepIn K (.ref g8) = true)
    (am9 : PySem.W.findIn K (.ref C) "__str__" = some (some (.ref g9)))
    (im9 : PySem.W.isFn K (.ref g9) = true)
    (lm9 : K.lookup g9 = some ⟨ou9, od9', .func (PySem.W.fnOf "__str__" "Kinds.__str__" (defArgs sStrK) (defBody sStrK) (defScope sStrK) .none kV9' dc9' pm9' an9' cd9' ct9'), sl9'⟩)
    (cm9 : PySem.W.codeIn K cd9' "Kinds.__str__" = true)
    (km9 : PySem.W.keepIn K (.ref g9) = true)
    (am10 : PySem.W.findIn K (.ref C) "only" = some (some (.ref p10)))
    (gm10 : PySem.W.specialIn K (.ref p10) "__get__" = some (some (.builtin "property.__get__")))
    (tm10 : PySem.W.takesIn K (.ref p10) = some true)
    (im10 : PySem.W.recIn K p10 "property" = some (.ref g10 :: rs10))
    (lm10 : K.lookup g10 = some ⟨ou10, od10', .func (PySem.W.fnOf "only" "Kinds.only" (defArgs sOnl) (defBody sOnl) (defScope sOnl) .none kV10' dc10' pm10' an10' cd10' ct10'), sl10'⟩)
    (cm10 : PySem.W.codeIn K cd10' "Kinds.only" = true)
    (km10 : PySem.W.keepIn K (.ref g10) = true)
    (am11 : PySem.W.findIn K (.ref C) "size" = some (some (.ref p11)))
    (gm11 : PySem.W.specialIn K (.ref p11) "__get__" = some (some (.builtin "property.__get__")))
    (tm11 : PySem.W.takesIn K (.ref p11) = some true)
    (im11 : PySem.W.recIn K p11 "property" = some (.ref g11 :: rs11))
    (lm11 : K.lookup g11 = some ⟨ou11, od11', .func (PySem.W.fnOf "size" "Kinds.size" (defArgs sSiz) (defBody sSiz) (defScope sSiz) .none kV11' dc11' pm11' an11' cd11' ct11'), sl11'⟩)
    (cm11 : PySem.W.codeIn K cd11' "Kinds.size" = true)
    (km11 : PySem.W.keepIn K (.ref g11) = true)
    (am12 : PySem.W.findIn K (.ref C) "least" = some (some (.ref p12)))
    (gm12 : PySem.W.specialIn K (.ref p12) "__get__" = some (some (.builtin "property.__get__")))
    (tm12 : PySem.W.takesIn K (.ref p12) = some true)
    (im12 : PySem.W.recIn K p12 "property" = some (.ref g12 :: rs12))
    (lm12 : K.lookup g12 = some ⟨ou12, od12', .func (PySem.W.fnOf "least" "Kinds.least" (defArgs sLea) (defBody sLea) (defScope sLea) .none kV12' dc12' pm12' an12' cd12' ct12'), sl12'⟩)
    (cm12 : PySem.W.codeIn K cd12' "Kinds.least" = true)
    (km12 : PySem.W.keepIn K (.ref g12) = true)
    (pg : PySem.W.plainGet K C Str.empty = true)
    (hd : PySem.W.hasDictIn K C = true)
    (po : PySem.W.plainOver K C = true)
    (sa : PySem.W.findIn K (.ref C) "__setattr__" = some (some (.builtin "object.__setattr__")))
    (mk : PySem.W.makesIn K C = true)
    (kc : PySem.W.keepIn K (.ref C) = true)
    (sf : PySem.W.selfFirst K C = true)
    (nw : PySem.W.findIn K (.ref C) "_words" = some none)
    (nb : PySem.W.findIn K (.ref C) "_but" = some none)
    (ns : PySem.W.findIn K (.ref C) "_sizes" = some none)
    (rd : PySem.W.readsIn K C (.type "type") = true)
    (gt : PySem.W.specialIn K (.ref C) "__getattribute__" = some (some (.builtin "type.__getattribute__")))
    (ha : PySem.W.findIn K (.ref C) "__class__" = some (some (.builtin "object.__class__")))
    (hn : PySem.W.specialIn K (.builtin "object.__class__") "__get__" = some (some (.builtin "getset_descriptor.__get__")))
    (htk : PySem.W.takesIn K (.builtin "object.__class__") = some true)
    (hm : PySem.W.mroIn K C (.type "object") = some true)
    (tC : PySem.W.typeIn K (.ref C) = some (.type "type"))
    (cC : PySem.W.clsIn K C = some cdC)
    (ne : PySem.W.findIn K (.ref C) "__ne__" = some (some (.builtin "object.__ne__")))
    (ka1 : PySem.W.subIn K (.type "NoneType") (.ref C) = some false)
    (ja1 : PySem.W.subIn K (.ref C) (.type "NoneType") = some false)
    (ka2 : PySem.W.subIn K (.type "bool") (.ref C) = some false)
    (ja2 : PySem.W.subIn K (.ref C) (.type "bool") = some false)
    (ka3 : PySem.W.subIn K (.type "int") (.ref C) = some false)
    (ja3 : PySem.W.subIn K (.ref C) (.type "int") = some false)
    (ka4 : PySem.W.subIn K (.type "str") (.ref C) = some false)
    (ja4 : PySem.W.subIn K (.ref C) (.type "str") = some false)
    (ka5 : PySem.W.subIn K (.type "list") (.ref C) = some false)
    (ja5 : PySem.W.subIn K (.ref C) (.type "list") = some false)
    (ka6 : PySem.W.subIn K (.type "tuple") (.ref C) = some false)
    (ja6 : PySem.W.subIn K (.ref C) (.type "tuple") = some false)
    (a1 : PySem.W.nsIn K mainGlobals "_law_box" = some (some (.ref f1)))
    (l1 : K.lookup f1 = some ⟨oc1, od1, .func (PySem.W.fnOf "_law_box" "_law_box" (defArgs sBox) (defBody sBox) (defScope sBox) .none kV1 dc1 pm1 an1 cd1 ct1), sl1⟩)
    (c1 : PySem.W.codeIn K cd1 "_law_box" = true) (k1 : PySem.W.keepIn K (.ref f1) = true)
    (a2 : PySem.W.nsIn K mainGlobals "_law_take" = some (some (.ref f2)))
    (l2 : K.lookup f2 = some ⟨oc2, od2, .func (PySem.W.fnOf "_law_take" "_law_take" (defArgs sTake) (defBody sTake) (defScope sTake) .none kV2 dc2 pm2 an2 cd2 ct2), sl2⟩)
    (c2 : PySem.W.codeIn K cd2 "_law_take" = true) (k2 : PySem.W.keepIn K (.ref f2) = true)
    (a3 : PySem.W.nsIn K mainGlobals "parts_of" = some (some (.ref f3)))
    (l3 : K.lookup f3 = some ⟨oc3, od3, .func (PySem.W.fnOf "parts_of" "parts_of" (defArgs sPts) (defBody sPts) (defScope sPts) .none kV3 dc3 pm3 an3 cd3 ct3), sl3⟩)
    (c3 : PySem.W.codeIn K cd3 "parts_of" = true) (k3 : PySem.W.keepIn K (.ref f3) = true)
    (a4 : PySem.W.nsIn K mainGlobals "all_but" = some (some (.ref f4)))
    (l4 : K.lookup f4 = some ⟨oc4, od4, .func (PySem.W.fnOf "all_but" "all_but" (defArgs sBut) (defBody sBut) (defScope sBut) .none kV4 dc4 pm4 an4 cd4 ct4), sl4⟩)
    (c4 : PySem.W.codeIn K cd4 "all_but" = true) (k4 : PySem.W.keepIn K (.ref f4) = true)
    (a5 : PySem.W.nsIn K mainGlobals "left_out" = some (some (.ref f5)))
    (l5 : K.lookup f5 = some ⟨oc5, od5, .func (PySem.W.fnOf "left_out" "left_out" (defArgs sLft) (defBody sLft) (defScope sLft) .none kV5 dc5 pm5 an5 cd5 ct5), sl5⟩)
    (c5 : PySem.W.codeIn K cd5 "left_out" = true) (k5 : PySem.W.keepIn K (.ref f5) = true)
    (a6 : PySem.W.nsIn K mainGlobals "text_of" = some (some (.ref f6)))
    (l6 : K.lookup f6 = some ⟨oc6, od6, .func (PySem.W.fnOf "text_of" "text_of" (defArgs sTxt) (defBody sTxt) (defScope sTxt) .none kV6 dc6 pm6 an6 cd6 ct6), sl6⟩)
    (c6 : PySem.W.codeIn K cd6 "text_of" = true) (k6 : PySem.W.keepIn K (.ref f6) = true)
    (a7 : PySem.W.nsIn K mainGlobals "_law_all_kinds" = some (some (.ref f7)))
    (l7 : K.lookup f7 = some ⟨oc7, od7, .func (PySem.W.fnOf "_law_all_kinds" "_law_all_kinds" (defArgs sAll) (defBody sAll) (defScope sAll) .none kV7 dc7 pm7 an7 cd7 ct7), sl7⟩)
    (c7 : PySem.W.codeIn K cd7 "_law_all_kinds" = true) (k7 : PySem.W.keepIn K (.ref f7) = true)
    (a8 : PySem.W.nsIn K mainGlobals "_law_value_kinds" = some (some (.ref f8)))
    (l8 : K.lookup f8 = some ⟨oc8, od8, .func (PySem.W.fnOf "_law_value_kinds" "_law_value_kinds" (defArgs sVal) (defBody sVal) (defScope sVal) .none kV8 dc8 pm8 an8 cd8 ct8), sl8⟩)
    (c8 : PySem.W.codeIn K cd8 "_law_value_kinds" = true) (k8 : PySem.W.keepIn K (.ref f8) = true)
    (a9 : PySem.W.nsIn K mainGlobals "_law_one_kind" = some (some (.ref f9)))
    (l9 : K.lookup f9 = some ⟨oc9, od9, .func (PySem.W.fnOf "_law_one_kind" "_law_one_kind" (defArgs sOne) (defBody sOne) (defScope sOne) .none kV9 dc9 pm9 an9 cd9 ct9), sl9⟩)
    (c9 : PySem.W.codeIn K cd9 "_law_one_kind" = true) (k9 : PySem.W.keepIn K (.ref f9) = true)
    (a10 : PySem.W.nsIn K mainGlobals "_law_meet" = some (some (.ref f10)))
    (l10 : K.lookup f10 = some ⟨oc10, od10, .func (PySem.W.fnOf "_law_meet" "_law_meet" (defArgs sMeet) (defBody sMeet) (defScope sMeet) .none kV10 dc10 pm10 an10 cd10 ct10), sl10⟩)
    (c10 : PySem.W.codeIn K cd10 "_law_meet" = true) (k10 : PySem.W.keepIn K (.ref f10) = true)
    (a11 : PySem.W.nsIn K mainGlobals "_law_less" = some (some (.ref f11)))
    (l11 : K.lookup f11 = some ⟨oc11, od11, .func (PySem.W.fnOf "_law_less" "_law_less" (defArgs sLess) (defBody sLess) (defScope sLess) .none kV11 dc11 pm11 an11 cd11 ct11), sl11⟩)
    (c11 : PySem.W.codeIn K cd11 "_law_less" = true) (k11 : PySem.W.keepIn K (.ref f11) = true)
    (a12 : PySem.W.nsIn K mainGlobals "_law_only" = some (some (.ref f12)))
    (l12 : K.lookup f12 = some ⟨oc12, od12, .func (PySem.W.fnOf "_law_only" "_law_only" (defArgs sOnlyL) (defBody sOnlyL) (defScope sOnlyL) .none kV12 dc12 pm12 an12 cd12 ct12), sl12⟩)
    (c12 : PySem.W.codeIn K cd12 "_law_only" = true) (k12 : PySem.W.keepIn K (.ref f12) = true)
    (a13 : PySem.W.nsIn K mainGlobals "_law_kind_in" = some (some (.ref f13)))
    (l13 : K.lookup f13 = some ⟨oc13, od13, .func (PySem.W.fnOf "_law_kind_in" "_law_kind_in" (defArgs sKin) (defBody sKin) (defScope sKin) .none kV13 dc13 pm13 an13 cd13 ct13), sl13⟩)
    (c13 : PySem.W.codeIn K cd13 "_law_kind_in" = true) (k13 : PySem.W.keepIn K (.ref f13) = true)
    (a14 : PySem.W.nsIn K mainGlobals "_law_made" = some (some (.ref f14)))
    (l14 : K.lookup f14 = some ⟨oc14, od14, .func (PySem.W.fnOf "_law_made" "_law_made" (defArgs sMade) (defBody sMade) (defScope sMade) .none kV14 dc14 pm14 an14 cd14 ct14), sl14⟩)
    (c14 : PySem.W.codeIn K cd14 "_law_made" = true) (k14 : PySem.W.keepIn K (.ref f14) = true)
    (a15 : PySem.W.nsIn K mainGlobals "_law_some_kinds" = some (some (.ref f15)))
    (l15 : K.lookup f15 = some ⟨oc15, od15, .func (PySem.W.fnOf "_law_some_kinds" "_law_some_kinds" (defArgs sSome) (defBody sSome) (defScope sSome) .none kV15 dc15 pm15 an15 cd15 ct15), sl15⟩)
    (c15 : PySem.W.codeIn K cd15 "_law_some_kinds" = true) (k15 : PySem.W.keepIn K (.ref f15) = true)
    (a16 : PySem.W.nsIn K mainGlobals "_law_wide" = some (some (.ref f16)))
    (l16 : K.lookup f16 = some ⟨oc16, od16, .func (PySem.W.fnOf "_law_wide" "_law_wide" (defArgs sWide) (defBody sWide) (defScope sWide) .none kV16 dc16 pm16 an16 cd16 ct16), sl16⟩)
    (c16 : PySem.W.codeIn K cd16 "_law_wide" = true) (k16 : PySem.W.keepIn K (.ref f16) = true)
    (a17 : PySem.W.nsIn K mainGlobals "_law_text" = some (some (.ref f17)))
    (l17 : K.lookup f17 = some ⟨oc17, od17, .func (PySem.W.fnOf "_law_text" "_law_text" (defArgs sTextL) (defBody sTextL) (defScope sTextL) .none kV17 dc17 pm17 an17 cd17 ct17), sl17⟩)
    (c17 : PySem.W.codeIn K cd17 "_law_text" = true) (k17 : PySem.W.keepIn K (.ref f17) = true)
    (a18 : PySem.W.nsIn K mainGlobals "_law_first" = some (some (.ref f18)))
    (l18 : K.lookup f18 = some ⟨oc18, od18, .func (PySem.W.fnOf "_law_first" "_law_first" (defArgs sFst) (defBody sFst) (defScope sFst) .none kV18 dc18 pm18 an18 cd18 ct18), sl18⟩)
    (c18 : PySem.W.codeIn K cd18 "_law_first" = true) (k18 : PySem.W.keepIn K (.ref f18) = true)
    (a19 : PySem.W.nsIn K mainGlobals "_law_told" = some (some (.ref f19)))
    (l19 : K.lookup f19 = some ⟨oc19, od19, .func (PySem.W.fnOf "_law_told" "_law_told" (defArgs sTold) (defBody sTold) (defScope sTold) .none kV19 dc19 pm19 an19 cd19 ct19), sl19⟩)
    (c19 : PySem.W.codeIn K cd19 "_law_told" = true) (k19 : PySem.W.keepIn K (.ref f19) = true)
    (a20 : PySem.W.nsIn K mainGlobals "law" = some (some (.ref f20)))
    (l20 : K.lookup f20 = some ⟨oc20, od20, .func (PySem.W.fnOf "law" "law" (defArgs sLaw) (defBody sLaw) (defScope sLaw) .none kV20 dc20 pm20 an20 cd20 ct20), sl20⟩)
    (c20 : PySem.W.codeIn K cd20 "law" = true) (k20 : PySem.W.keepIn K (.ref f20) = true)
    (z1 : PySem.W.nsIn K mainGlobals "isinstance" = some none)
    (z2 : PySem.W.nsIn K mainGlobals "len" = some none)
    (z3 : PySem.W.nsIn K mainGlobals "all" = some none)
    (z4 : PySem.W.nsIn K mainGlobals "str" = some none)
    (z5 : PySem.W.nsIn K mainGlobals "tuple" = some none)
    (z6 : PySem.W.nsIn K mainGlobals "int" = some none)
    (z7 : PySem.W.nsIn K mainGlobals "bool" = some none)
    (z8 : PySem.W.nsIn K mainGlobals "range" = some none)
    (z9 : PySem.W.nsIn K mainGlobals "repr" = some none)
    (z10 : PySem.W.nsIn K mainGlobals "abs" = some none)
    (z11 : PySem.W.nsIn K mainGlobals "sorted" = some none)
    (z12 : PySem.W.nsIn K mainGlobals "set" = some none)
    (z13 : PySem.W.nsIn K mainGlobals "list" = some none)
    : ∃ fd : FuncData, (∀ (s : Shared) (v : Value), BindsTo s fd ⟨[v], []⟩ [("_law_script", v)]) ∧ ∀ base : Heap, K.In base → base.Ns mainGlobals mg → FnG l.prog w K mg base CX0 7 fa fd ["_law_script"] (spLaw K) := by
  have e := hfa.symm.trans (PySem.W.mg_of X G a20)
  cases e
  have F1 := fun_mk (st := sBox) l1 c1 k1
  have b1 := F1.binds (ps := ["_law_script", "_law_base"]) fun _ _ _ _ _ _ us hl => match us, hl with | [_, _], _ => rfl
  have m1 := PySem.W.mg_of X G a1
  have F2 := fun_mk (st := sTake) l2 c2 k2
  have b2 := F2.binds (ps := ["_law_box_here", "_law_many"]) fun _ _ _ _ _ _ us hl => match us, hl with | [_, _], _ => rfl
  have m2 := PySem.W.mg_of X G a2
  have F3 := fun_mk (st := sPts) l3 c3 k3
  have b3 := F3.binds (ps := ["kinds"]) fun _ _ _ _ _ _ us hl => match us, hl with | [_], _ => rfl
  have m3 := PySem.W.mg_of X G a3
  have F4 := fun_mk (st := sBut) l4 c4 k4
  have b4 := F4.binds (ps := ["kinds"]) fun _ _ _ _ _ _ us hl => match us, hl with | [_], _ => rfl
  have m4 := PySem.W.mg_of X G a4
  have F5 := fun_mk (st := sLft) l5 c5 k5
  have b5 := F5.binds (ps := ["sizes", "others"]) fun _ _ _ _ _ _ us hl => match us, hl with | [_, _], _ => rfl
  have m5 := PySem.W.mg_of X G a5
  have F6 := fun_mk (st := sTxt) l6 c6 k6
  have b6 := F6.binds (ps := ["kinds"]) fun _ _ _ _ _ _ us hl => match us, hl with | [_], _ => rfl
  have m6 := PySem.W.mg_of X G a6
  have F7 := fun_mk (st := sAll) l7 c7 k7
  have b7 := F7.binds (ps := []) fun _ _ _ _ _ _ us hl => match us, hl with | [], _ => rfl
  have m7 := PySem.W.mg_of X G a7
  have F8 := fun_mk (st := sVal) l8 c8 k8
  have b8 := F8.binds (ps := []) fun _ _ _ _ _ _ us hl => match us, hl with | [], _ => rfl
  have m8 := PySem.W.mg_of X G a8
  have F9 := fun_mk (st := sOne) l9 c9 k9
  have b9 := F9.binds (ps := ["_law_kind"]) fun _ _ _ _ _ _ us hl => match us, hl with | [_], _ => rfl
  have m9 := PySem.W.mg_of X G a9
  have F10 := fun_mk (st := sMeet) l10 c10 k10
  have b10 := F10.binds (ps := ["_law_one", "_law_other"]) fun _ _ _ _ _ _ us hl => match us, hl with | [_, _], _ => rfl
  have m10 := PySem.W.mg_of X G a10
  have F11 := fun_mk (st := sLess) l11 c11 k11
  have b11 := F11.binds (ps := ["_law_one", "_law_other"]) fun _ _ _ _ _ _ us hl => match us, hl with | [_, _], _ => rfl
  have m11 := PySem.W.mg_of X G a11
  have F12 := fun_mk (st := sOnlyL) l12 c12 k12
  have b12 := F12.binds (ps := ["_law_one"]) fun _ _ _ _ _ _ us hl => match us, hl with | [_], _ => rfl
  have m12 := PySem.W.mg_of X G a12
  have F13 := fun_mk (st := sKin) l13 c13 k13
  have b13 := F13.binds (ps := ["_law_one", "_law_kind"]) fun _ _ _ _ _ _ us hl => match us, hl with | [_, _], _ => rfl
  have m13 := PySem.W.mg_of X G a13
  have F14 := fun_mk (st := sMade) l14 c14 k14
  have b14 := F14.binds (ps := ["_law_one"]) fun _ _ _ _ _ _ us hl => match us, hl with | [_], _ => rfl
  have m14 := PySem.W.mg_of X G a14
  have F15 := fun_mk (st := sSome) l15 c15 k15
  have b15 := F15.binds (ps := ["_law_box_here"]) fun _ _ _ _ _ _ us hl => match us, hl with | [_], _ => rfl
  have m15 := PySem.W.mg_of X G a15
  have F16 := fun_mk (st := sWide) l16 c16 k16
  have b16 := F16.binds (ps := ["_law_box_here"]) fun _ _ _ _ _ _ us hl => match us, hl with | [_], _ => rfl
  have m16 := PySem.W.mg_of X G a16
  have F17 := fun_mk (st := sTextL) l17 c17 k17
  have b17 := F17.binds (ps := ["_law_one"]) fun _ _ _ _ _ _ us hl => match us, hl with | [_], _ => rfl
  have m17 := PySem.W.mg_of X G a17
  have F18 := fun_mk (st := sFst) l18 c18 k18
  have b18 := F18.binds (ps := ["_law_one"]) fun _ _ _ _ _ _ us hl => match us, hl with | [_], _ => rfl
  have m18 := PySem.W.mg_of X G a18
  have F19 := fun_mk (st := sTold) l19 c19 k19
  have b19 := F19.binds (ps := ["_law_found"]) fun _ _ _ _ _ _ us hl => match us, hl with | [_], _ => rfl
  have m19 := PySem.W.mg_of X G a19
  have F20 := fun_mk (st := sLaw) l20 c20 k20
  have n_isinstance := PySem.W.mg_none_of X G z1
  have n_len := PySem.W.mg_none_of X G z2
  have n_all := PySem.W.mg_none_of X G z3
  have n_str := PySem.W.mg_none_of X G z4
  have n_tuple := PySem.W.mg_none_of X G z5
  have n_int := PySem.W.mg_none_of X G z6
  have n_bool := PySem.W.mg_none_of X G z7
  have n_range := PySem.W.mg_none_of X G z8
  have n_repr := PySem.W.mg_none_of X G z9
  have n_abs := PySem.W.mg_none_of X G z10
  have n_sorted := PySem.W.mg_none_of X G z11
  have n_set := PySem.W.mg_none_of X G z12
  have n_list := PySem.W.mg_none_of X G z13
  refine ⟨PySem.W.fnOf "law" "law" (defArgs sLaw) (defBody sLaw) (defScope sLaw) .none kV20 dc20 pm20 an20 cd20 ct20, fun s v => .of_eq rfl, fun base _ _ => ?_⟩
  have B : Bi mg := ⟨n_isinstance, n_len, n_all, n_str, n_tuple, n_int, n_bool, n_range, n_repr, n_abs⟩
  have Tt : Tk l.prog w K mg base f2 _ := ⟨ok_take (k := 0) F2 n_len, k2, b2, m2⟩
  have mC := PySem.W.mg_of X G aC
  have mW := PySem.W.mg_of X G aW
  have hW : ∀ H : Hp, SqT K H tW (kW.map V.str) := fun H => .inr ⟨_, _, _, lW, rfl, rfl, (by show 3 ≤ sizeLine; decide), .cons ⟨tk1, rfl⟩ (.cons ⟨tk2, rfl⟩ (.cons ⟨tk3, rfl⟩ .nil))⟩
  have ko : ∀ {T : String}, PySem.W.subIn K (.type T) (.ref C) = some false → PySem.W.kitOne K (.type T) (.ref C) = some false := fun s => kit_own (by rw [cC]; rfl) tC s
  have O : OwnC K C g8 := ⟨⟨⟨pg, hd, po, sa⟩, ha, hn, htk, hm, kit_me⟩, ⟨am8, im8, km8⟩, ne, ko ka1, ko ka2, ko ka3, ko ka4, ko ka5, ko ka6, kit_ofC kmt1 ja1, kit_ofC kmt2 ja2, kit_ofC kmt3 ja3, kit_ofC kmt4 ja4, kit_ofC kmt5 ja5, kit_ofC kmt6 ja6⟩
  have T : KC K mg C g8 := ⟨O, nw, nb, ns, mC, kc, sf⟩
  have R : ClX.CRead K C (.type "type") := ⟨rd, gt⟩
  have E0 := fun_mk (st := sIni) lm0 cm0 km0
  have d0 := E0.binds (ps := ["self", "words", "but", "sizes"]) fun _ _ _ _ _ _ us hl => match us, hl with | [_, _, _, _], _ => rfl
  have E1 := fun_mk (st := sEvr) lm1 cm1 km1
  have d1 := E1.binds (ps := ["cls"]) fun _ _ _ _ _ _ us hl => match us, hl with | [_], _ => rfl
  have E2 := fun_mk (st := sPrs) lm2 cm2 km2
  have d2 := E2.binds (ps := ["cls"]) fun _ _ _ _ _ _ us hl => match us, hl with | [_], _ => rfl
  have E3 := fun_mk (st := sOf) lm3 cm3 km3
  have d3 := E3.binds (ps := ["cls", "word"]) fun _ _ _ _ _ _ us hl => match us, hl with | [_, _], _ => rfl
  have E4 := fun_mk (st := sSzd) lm4 cm4 km4
  have d4 := E4.binds (ps := ["cls", "k"]) fun _ _ _ _ _ _ us hl => match us, hl with | [_, _], _ => rfl
  have E5 := fun_mk (st := sAnd) lm5 cm5 km5
  have d5 := E5.binds (ps := ["self", "other"]) fun _ _ _ _ _ _ us hl => match us, hl with | [_, _], _ => rfl
  have E6 := fun_mk (st := sOr) lm6 cm6 km6
  have d6 := E6.binds (ps := ["self", "other"]) fun _ _ _ _ _ _ us hl => match us, hl with | [_, _], _ => rfl
  have E7 := fun_mk (st := sSub) lm7 cm7 km7
  have d7 := E7.binds (ps := ["self", "other"]) fun _ _ _ _ _ _ us hl => match us, hl with | [_, _], _ => rfl
  have E9 := fun_mk (st := sStrK) lm9 cm9 km9
  have d9 := E9.binds (ps := ["self"]) fun _ _ _ _ _ _ us hl => match us, hl with | [_], _ => rfl
  have E10 := fun_mk (st := sOnl) lm10 cm10 km10
  have d10 := E10.binds (ps := ["self"]) fun _ _ _ _ _ _ us hl => match us, hl with | [_], _ => rfl
  have E11 := fun_mk (st := sSiz) lm11 cm11 km11
  have d11 := E11.binds (ps := ["self"]) fun _ _ _ _ _ _ us hl => match us, hl with | [_], _ => rfl
  have E12 := fun_mk (st := sLea) lm12 cm12 km12
  have d12 := E12.binds (ps := ["self"]) fun _ _ _ _ _ _ us hl => match us, hl with | [_], _ => rfl
  have MK : MkK l.prog w K mg base C g0 _ := ⟨⟨mk, am0, im0, kc⟩, ok_ini (k := 0) E0 T, d0⟩
  have GPts : Dn l.prog w K mg base 1 "parts_of" ["kinds"] (spPts K C) f3 _ := ⟨ok_pts (k := 0) F3 T, k3, b3, m3⟩
  have GLft : Dn l.prog w K mg base 1 "left_out" ["sizes", "others"] (spLft K) f5 _ := ⟨ok_lft (k := 0) F5 B, k5, b5, m5⟩
  have GBut : Dn l.prog w K mg base 3 "all_but" ["kinds"] (spBut K C) f4 _ := ⟨ok_but (k := 0) F4 B T MK mW hW GPts, k4, b4, m4⟩
  have GTxt : Dn l.prog w K mg base 2 "text_of" ["kinds"] (spTxt K C) f6 _ := ⟨ok_txt (k := 0) F6 B T GPts, k6, b6, m6⟩
  have oA : KO l.prog w K mg base C 3 "__and__" ["self", "other"] (spKK K C and) g5 _ := ⟨⟨am5, im5, km5⟩, ok_and (k := 0) E5 B T MK n_sorted GLft, d5⟩
  have oO : KO l.prog w K mg base C 4 "__or__" ["self", "other"] (spKK K C or) g6 _ := ⟨⟨am6, im6, km6⟩, ok_or (k := 0) E6 T GBut oA.m oA.ok oA.bd, d6⟩
  have oS : KO l.prog w K mg base C 4 "__sub__" ["self", "other"] (kS K C) g7 _ := ⟨⟨am7, im7, km7⟩, ok_sub (k := 0) E7 T GBut oA.m oA.ok oA.bd, d7⟩
  have oT : KO l.prog w K mg base C 3 "__str__" ["self"] (spTxt K C) g9 _ := ⟨⟨am9, im9, km9⟩, ok_strK (k := 0) E9 B GTxt, d9⟩
  have M1 : KM l.prog w K mg base C (.type "type") "everything" ["cls"] (spEvr K C) p1 g1 _ := ⟨⟨am1, ⟨_, im1⟩, fi1⟩, ok_evr (k := 0) E1 T MK mW hW, d1⟩
  have M2 : KM l.prog w K mg base C (.type "type") "present" ["cls"] (spPrs K C) p2 g2 _ := ⟨⟨am2, ⟨_, im2⟩, fi2⟩, ok_prs (k := 0) E2 T MK, d2⟩
  have M3 : KM l.prog w K mg base C (.type "type") "of" ["cls", "word"] (spOf K C) p3 g3 _ := ⟨⟨am3, ⟨_, im3⟩, fi3⟩, ok_of (k := 0) E3 T MK, d3⟩
  have M4 : KM l.prog w K mg base C (.type "type") "sized" ["cls", "k"] (spSzd K C) p4 g4 _ := ⟨⟨am4, ⟨_, im4⟩, fi4⟩, ok_szd (k := 0) E4 T MK, d4⟩
  have P1 : KP l.prog w K mg base C "only" (spPrp K C onlyP) p10 g10 _ := ⟨⟨am10, gm10, tm10, ⟨_, im10⟩⟩, ok_onl (k := 0) E10 B T, d10⟩
  have P2 : KP l.prog w K mg base C "size" (spPrp K C sizeP) p11 g11 _ := ⟨⟨am11, gm11, tm11, ⟨_, im11⟩⟩, ok_siz (k := 0) E11 B T, d11⟩
  have P3 : KP l.prog w K mg base C "least" (spLea K C) p12 g12 _ := ⟨⟨am12, gm12, tm12, ⟨_, im12⟩⟩, ok_lea (k := 0) E12 B T, d12⟩
  have GAll : Dn l.prog w K mg base 1 "_law_all_kinds" [] (spCon K mAll) f7 _ := ⟨ok_all (k := 0) F7, k7, b7, m7⟩
  have GVal : Dn l.prog w K mg base 1 "_law_value_kinds" [] (spCon K mVal) f8 _ := ⟨ok_val (k := 0) F8, k8, b8, m8⟩
  have GOne : Dn l.prog w K mg base 1 "_law_one_kind" ["_law_kind"] (spOne K) f9 _ := ⟨ok_one (k := 0) F9 B, k9, b9, m9⟩
  have GMeet : Dn l.prog w K mg base 1 "_law_meet" ["_law_one", "_law_other"] (spMeet K and) f10 _ := ⟨ok_meet (k := 0) F10 B n_sorted n_set, k10, b10, m10⟩
  have GLess : Dn l.prog w K mg base 2 "_law_less" ["_law_one", "_law_other"] (spMeet K fun x y => x && !y) f11 _ := ⟨ok_less (k := 0) F11 B GMeet, k11, b11, m11⟩
  have GOnly : Dn l.prog w K mg base 1 "_law_only" ["_law_one"] (spModel K fun m => oV (onlyP m)) f12 _ := ⟨ok_onlyL (k := 0) F12 B n_list, k12, b12, m12⟩
  have GKin : Dn l.prog w K mg base 1 "_law_kind_in" ["_law_one", "_law_kind"] (spKinP K) f13 _ := ⟨(ok_kin (k := 0) F13 B).imp fun _ _ _ _ h => kin_imp h, k13, b13, m13⟩
  have GMade : Dn l.prog w K mg base 5 "_law_made" ["_law_one"] (spMade K C) f14 _ := ⟨ok_made (k := 0) F14 T R oO oS M1 M3 M4, k14, b14, m14⟩
  have GSome : Dn l.prog w K mg base 3 "_law_some_kinds" ["_law_box_here"] (spSome K) f15 _ := ⟨ok_some (k := 0) F15 B n_sorted n_set Tt GOne GLess GAll GVal, k15, b15, m15⟩
  have GWide : Dn l.prog w K mg base 4 "_law_wide" ["_law_box_here"] (spSome K) f16 _ := ⟨ok_wide (k := 0) F16 B n_sorted n_set n_list Tt GSome GMeet GLess, k16, b16, m16⟩
  have GText : Dn l.prog w K mg base 1 "_law_text" ["_law_one"] (spModel K fun m => .str (txtM m)) f17 _ := ⟨ok_textL (k := 0) F17 B, k17, b17, m17⟩
  have GFst : Dn l.prog w K mg base 2 "_law_first" ["_law_one"] (spFst K) f18 _ := ⟨ok_fst (k := 0) F18 B n_list GKin, k18, b18, m18⟩
  have GTold : Dn l.prog w K mg base 6 "_law_told" ["_law_found"] (spTold K C) f19 _ := ⟨ok_told (k := 0) F19 B T P1 P2 P3 oT.m oT.ok oT.bd, k19, b19, m19⟩
  exact ok_law F20 B T R oA oO oS oT M1 M2 M3 M4 P1 P2 P3 ⟨ok_box (k := 0) F1 n_abs, k1, b1, m1⟩ Tt GWide GMade GLess GAll GOnly GFst GText GTold
end Rl
open PySem PySem.W PyProof.Rows in
set_option maxRecDepth 100000 in
set_option maxHeartbeats 0 in
theorem PySem.Challenge.cw_runlore_k16_kind_sets_told_holds : PySem.Challenge.rw_runlore_k16_kind_sets_told.Holds := by
  w_on; o_law; k_head; (case hw => w_witness2)
  k_fill
  refine Rl.walkG (l := PySem.Challenge.rw_runlore_k16_kind_sets_told) (n := 63) (k := 7) (x := "_law_script") (sp := Rl.spLaw) rfl (by decide) rfl ⟨rfl, by decide, by decide⟩ (fun w h Y => PySem.W.kIn_of Y) ?F (fun K H a ns hl _ hS => ⟨a, ns, rfl, hS, hl, fun _ => rfl⟩)
  case F =>
    intro w mg fa h KX G hmg
    refine' Rl.all_mk KX G hmg ?aC ?aW ?lW ?am0 ?im0 ?lm0 ?cm0 ?km0 ?am1 ?im1 ?fi1 ?lm1 ?cm1 ?km1 ?am2 ?im2 ?fi2 ?lm2 ?cm2 ?km2 ?am3 ?im3 ?fi3 ?lm3 ?cm3 ?km3 ?am4 ?im4 ?fi4 ?lm4 ?cm4 ?km4 ?am5 ?im5 ?lm5 ?cm5 ?km5 ?am6 ?im6 ?lm6 ?cm6 ?km6 ?am7 ?im7 ?lm7 ?cm7 ?km7 ?am8 ?im8 ?km8 ?am9 ?im9 ?lm9 ?cm9 ?km9 ?am10 ?gm10 ?tm10 ?im10 ?lm10 ?cm10 ?km10 ?am11 ?gm11 ?tm11 ?im11 ?lm11 ?cm11 ?km11 ?am12 ?gm12 ?tm12 ?im12 ?lm12 ?cm12 ?km12 ?pg ?hd ?po ?sa ?mk ?kc ?sf ?nw ?nb ?ns ?rd ?gt ?ha ?hn ?htk ?hm ?tC ?cC ?ne ?ka1 ?ja1 ?ka2 ?ja2 ?ka3 ?ja3 ?ka4 ?ja4 ?ka5 ?ja5 ?ka6 ?ja6 ?a1 ?l1 ?c1 ?k1 ?a2 ?l2 ?c2 ?k2 ?a3 ?l3 ?c3 ?k3 ?a4 ?l4 ?c4 ?k4 ?a5 ?l5 ?c5 ?k5 ?a6 ?l6 ?c6 ?k6 ?a7 ?l7 ?c7 ?k7 ?a8 ?l8 ?c8 ?k8 ?a9 ?l9 ?c9 ?k9 ?a10 ?l10 ?c10 ?k10 ?a11 ?l11 ?c11 ?k11 ?a12 ?l12 ?c12 ?k12 ?a13 ?l13 ?c13 ?k13 ?a14 ?l14 ?c14 ?k14 ?a15 ?l15 ?c15 ?k15 ?a16 ?l16 ?c16 ?k16 ?a17 ?l17 ?c17 ?k17 ?a18 ?l18 ?c18 ?k18 ?a19 ?l19 ?c19 ?k19 ?a20 ?l20 ?c20 ?k20 ?z1 ?z2 ?z3 ?z4 ?z5 ?z6 ?z7 ?z8 ?z9 ?z10 ?z11 ?z12 ?z13
    (case aC => k_is)
    (case aW => k_is)
    (case lW => k_is)
    (case am0 => k_is)
    (case im0 => k_is)
    (case lm0 => k_is)
    (case cm0 => k_is)
    (case km0 => k_is)
    (case am1 => k_is)
    (case im1 => k_is)
    (case fi1 => k_is)
    (case lm1 => k_is)
    (case cm1 => k_is)
    (case km1 => k_is)
    (case am2 => k_is)
    (case im2 => k_is)
    (case fi2 => k_is)
    (case lm2 => k_is)
    (case cm2 => k_is)
    (case km2 => k_is)
    (case am3 => k_is)
    (case im3 => k_is)
    (case fi3 => k_is)
    (case lm3 => k_is)
    (case cm3 => k_is)
    (case km3 => k_is)
    (case am4 => k_is)
    (case im4 => k_is)
    (case fi4 => k_is)
    (case lm4 => k_is)
    (case cm4 => k_is)
    (case km4 => k_is)
    (case am5 => k_is)
    (case im5 => k_is)
    (case lm5 => k_is)
    (case cm5 => k_is)
    (case km5 => k_is)
    (case am6 => k_is)
    (case im6 => k_is)
    (case lm6 => k_is)
    (case cm6 => k_is)
    (case km6 => k_is)
    (case am7 => k_is)
    (case im7 => k_is)
    (case lm7 => k_is)
    (case cm7 => k_is)
    (case km7 => k_is)
    (case am8 => k_is)
    (case im8 => k_is)
    (case km8 => k_is)
    (case am9 => k_is)
    (case im9 => k_is)
    (case lm9 => k_is)
    (case cm9 => k_is)
    (case km9 => k_is)
    (case am10 => k_is)
    (case gm10 => k_is)
    (case tm10 => k_is)
    (case im10 => k_is)
    (case lm10 => k_is)
    (case cm10 => k_is)
    (case km10 => k_is)
    (case am11 => k_is)
    (case gm11 => k_is)
    (case tm11 => k_is)
    (case im11 => k_is)
    (case lm11 => k_is)
    (case cm11 => k_is)
    (case km11 => k_is)
    (case am12 => k_is)
    (case gm12 => k_is)
    (case tm12 => k_is)
    (case im12 => k_is)
    (case lm12 => k_is)
    (case cm12 => k_is)
    (case km12 => k_is)
    (case pg => k_is)
    (case hd => k_is)
    (case po => k_is)
    (case sa => k_is)
    (case mk => k_is)
    (case kc => k_is)
    (case sf => k_is)
    (case nw => k_is)
    (case nb => k_is)
    (case ns => k_is)
    (case rd => k_is)
    (case gt => k_is)
    (case ha => k_is)
    (case hn => k_is)
    (case htk => k_is)
    (case hm => k_is)
    (case tC => k_is)
    (case cC => k_is)
    (case ne => k_is)
    (case ka1 => k_is)
    (case ja1 => k_is)
    (case ka2 => k_is)
    (case ja2 => k_is)
    (case ka3 => k_is)
    (case ja3 => k_is)
    (case ka4 => k_is)
    (case ja4 => k_is)
    (case ka5 => k_is)
    (case ja5 => k_is)
    (case ka6 => k_is)
    (case ja6 => k_is)
    (case a1 => k_is)
    (case l1 => k_is)
    (case c1 => k_is)
    (case k1 => k_is)
    (case a2 => k_is)
    (case l2 => k_is)
    (case c2 => k_is)
    (case k2 => k_is)
    (case a3 => k_is)
    (case l3 => k_is)
    (case c3 => k_is)
    (case k3 => k_is)
    (case a4 => k_is)
    (case l4 => k_is)
    (case c4 => k_is)
    (case k4 => k_is)
    (case a5 => k_is)
    (case l5 => k_is)
    (case c5 => k_is)
    (case k5 => k_is)
    (case a6 => k_is)
    (case l6 => k_is)
    (case c6 => k_is)
    (case k6 => k_is)
    (case a7 => k_is)
    (case l7 => k_is)
    (case c7 => k_is)
    (case k7 => k_is)
    (case a8 => k_is)
    (case l8 => k_is)
    (case c8 => k_is)
    (case k8 => k_is)
    (case a9 => k_is)
    (case l9 => k_is)
    (case c9 => k_is)
    (case k9 => k_is)
    (case a10 => k_is)
    (case l10 => k_is)
    (case c10 => k_is)
    (case k10 => k_is)
    (case a11 => k_is)
    (case l11 => k_is)
    (case c11 => k_is)
    (case k11 => k_is)
    (case a12 => k_is)
    (case l12 => k_is)
    (case c12 => k_is)
    (case k12 => k_is)
    (case a13 => k_is)
    (case l13 => k_is)
    (case c13 => k_is)
    (case k13 => k_is)
    (case a14 => k_is)
    (case l14 => k_is)
    (case c14 => k_is)
    (case k14 => k_is)
    (case a15 => k_is)
    (case l15 => k_is)
    (case c15 => k_is)
    (case k15 => k_is)
    (case a16 => k_is)
    (case l16 => k_is)
    (case c16 => k_is)
    (case k16 => k_is)
    (case a17 => k_is)
    (case l17 => k_is)
    (case c17 => k_is)
    (case k17 => k_is)
    (case a18 => k_is)
    (case l18 => k_is)
    (case c18 => k_is)
    (case k18 => k_is)
    (case a19 => k_is)
    (case l19 => k_is)
    (case c19 => k_is)
    (case k19 => k_is)
    (case a20 => k_is)
    (case l20 => k_is)
    (case c20 => k_is)
    (case k20 => k_is)
    (case z1 => k_is)
    (case z2 => k_is)
    (case z3 => k_is)
    (case z4 => k_is)
    (case z5 => k_is)
    (case z6 => k_is)
    (case z7 => k_is)
    (case z8 => k_is)
    (case z9 => k_is)
    (case z10 => k_is)
    (case z11 => k_is)
    (case z12 => k_is)
    (case z13 => k_is)

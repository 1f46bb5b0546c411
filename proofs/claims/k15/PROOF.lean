import PyProof.Rows.All
import Wide.All
import OpenK.AllK
import Wide.FinOn
import PyProof.ReprRoads
import PyProof.StrLawsRepr
import PyProof.ReprLen
import PyProof.Rows.RegStrFacts
import PyProof.Rows.StrCase
import PyProof.Rows.ReprOcc
import HandS.ForMost
import HandS.IsInst
import HandS.Wide
import HandS.Style
import HandS.Flow
import HandS.Conv
import HandS.Walk
import HandS.Codes
import HandS.TupAny
import HandS.FStr
import HandS.Defaults
import HandS.MakeKw
import HandS.MakeKwOnly
import HandS.Small
import HandS.ClsMeth
import HandS.SetFor
import HandS.Strs
import HandS.RaiseMore
import HandS.Text
import PySem.Challenge.RW_runlore_k15_kind_sets_combined
set_option Elab.async false
set_option linter.all false
set_option maxRecDepth 100000
set_option exponentiation.threshold 2000
set_option maxHeartbeats 4000000
namespace Rl
open PySem PySem.Spec PyProof.Rows L2
/-- what can be printed: data of bounded depth whose text is short enough -/
structure Prn (d : PyData) : Prop where
  sh : d.showable = true
  nd : d.hasDict = false
  dp : d.depth ≤ 60
  sz : d.shown.length ≤ sizeLine
def rRep (K : PySem.W.Frag) : List V → Hp → VK → Prop := fun xs H Q =>
  ∃ v d, xs = [v] ∧ Dp K H v d ∧ Prn d ∧ Q (.str d.shown) H
theorem meets_extT (l b : Addr) (items items2 : Array Value) (n : Nat) (hlong : (!items.isEmpty && Builtin.List.listTooLong (items.size + items2.size)) = false) (h1 : items.size ≤ sizeLine) (h2 : items.size + items2.size ≤ sizeLine + 1) :
    Meets (Builtin.«list.extend» ⟨[.ref l, .ref b], []⟩) (fun _ R s => s.heap.get? l = some { cls := .type "list", data := .seq items n } ∧ IsTup s.heap b items2 ∧
      R (.ok (.ret .none)) { s with heap := s.heap.update l (Obj.mapSeq fun x => x ++ items2) }) := by
  intro prog w A R s ⟨hl, ⟨o, ho, hc, n2, hd⟩, hR⟩
  show wpAny _ A.in1 (Builtin.List.listExtendWith (.ref l) (.ref b) .none) _ _ s
  unfold Builtin.List.listExtendWith
  refine wpAny_bind (wpAny_typeOf ⟨o, ho, hc⟩ ?_)
  have e1 : (Builtin.List.listSameRef (.ref l) (.ref b) || Value.type "tuple" == Value.type "list" || Value.type "tuple" == Value.type "tuple") = true := by simp
  simp only [e1, if_true]
  refine wpAny_bind ?_
  unfold Builtin.List.listItems
  refine wpAny_bind (wpAny_seqItems ho hd (wpAny_pure ?_))
  refine wpAny_bind ?_
  refine wpAny_bind (wpAny_seqItems hl rfl (wpAny_pure ?_))
  rw [hlong]
  show wpAny _ A.in1 (updateSeq l (· ++ items2) >>= fun _ => ret .none) _ _ s
  have h3 : (items ++ items2).size ≤ sizeLine + 1 := by rw [Array.size_append]; exact h2
  refine wpAny_bind (wpAny_updateSeq hl rfl ?_ h1 h3)
  exact wpAny_pure hR
section
variable {X : Cx}
theorem call_rep (hg : X.A.guards = some []) (hu : X.A.units + 64 < cLine) : CallR X (.builtin "repr") (rRep X.K) := by
  intro pins s σ H xs us Q I r h
  obtain ⟨v, d, rfl, hd, ⟨hs, hnd, hdep, hsz⟩, q⟩ := h
  obtain ⟨u, rfl, ru⟩ := vals1 r
  obtain ⟨as, rd⟩ := Dp.reads I d v u hd ru
  cases hd with
  | non =>
    cases ru
    exact PySem.P.repr_of_none ⟨.str _, H, I.tok _, ⟨_, rfl⟩, q⟩
  | bl b =>
    cases ru
    refine PySem.P.repr_of_bool ⟨.str (if b then "True" else "False"), H, I.tok _, ⟨_, rfl⟩, ?_⟩
    cases b <;> exact q
  | int i =>
    obtain ⟨t, rfl⟩ := ru
    exact PySem.P.repr_of_int (of_decide_eq_true (by simpa only [PyData.showable] using hs)) ⟨.str _, H, I.tok _, ⟨_, rfl⟩, q⟩
  | str x =>
    obtain ⟨t, rfl⟩ := ru
    exact PySem.P.repr_of_str ⟨.str _, H, I.tok _, ⟨_, rfl⟩, q⟩ hsz
  | lst h1 h2 =>
    cases ru
    exact repr_of_reads' rd hs (PyData.noDict_hsm hnd) hg (by omega) (fun _ _ e => e) (fun h' u tk hk => ⟨.str _, H, I.kept hk, ⟨_, rfl⟩, q⟩) hsz
  | tup h1 h2 =>
    cases ru
    exact repr_of_reads' rd hs (PyData.noDict_hsm hnd) hg (by omega) (fun _ _ e => e) (fun h' u tk hk => ⟨.str _, H, I.kept hk, ⟨_, rfl⟩, q⟩) hsz
/-- xs.extend(t), t a tuple -/
def rExtT (K : PySem.W.Frag) : V → List V → Hp → VK → Prop := fun x vs H Q =>
  ∃ l b xs zs, x = .ref l ∧ vs = [.ref b] ∧ H l = some (.lst xs) ∧ SqT K H b zs ∧ xs.length + zs.length ≤ sizeLine ∧ Q .non (upd H l (.lst (xs ++ zs)))
theorem mt_extT : MtM X "list.extend" (rExtT X.K) := by
  intro pins s σ H x vs v us Q I rx rv h
  obtain ⟨l, b, xs, zs, rfl, rfl, hH, hB, hz, q⟩ := h
  cases rx
  obtain ⟨u, rfl, ru⟩ := rv.one
  cases ru
  obtain ⟨z, its, n, r, hl, e⟩ := I.lstM hH
  obtain ⟨its2, r2, tp, hl2⟩ := I.tuple hB
  have hl3 := r2.length
  have hl4 := r.length
  have hsz : its.toArray.size + its2.toArray.size ≤ sizeLine := by rw [List.size_toArray, List.size_toArray]; omega
  have hlong : (!its.toArray.isEmpty && Builtin.List.listTooLong (its.toArray.size + its2.toArray.size)) = false := by
    rw [notLongL hsz, Bool.and_false]
  refine call_meets F.slot_list_extend ⟨_, e, rfl⟩ F.entry_list_extend (F.args_list_extend_2 _ _)
    (meets_extT l b its.toArray its2.toArray n hlong (by omega) (by omega)) ⟨e, tp, ?_⟩
  refine ⟨.non, _, I.lset (its' := its ++ its2) hH e (by simp) (r.append r2) ?_, rfl, q⟩
  rw [List.length_append]
  omega
end
/-! a def that may print (repr): called where nothing is being printed -/
section
variable {P : Program} {w : World} {K : PySem.W.Frag} {mg : Str → Option Value} {base : Heap} {CX : CXT}
structure FnG (P : Program) (w : World) (K : PySem.W.Frag) (mg : Str → Option Value) (base : Heap)
    (CX : CXT) (k : Nat) (f : Addr) (fd : FuncData) (ps : List Str) (sp : Sp) : Prop where
  len : ∀ ws H Q E, sp ws H Q E → ws.length = ps.length
  go : ∀ (B : Around) (out : List Env) (t : Shared) (H : Hp) (as : Args) (us : List Value) (ws : List V) (Q : VK) (E : XK), B.guards = some [] → Room k B →
    Env0 P w K mg base B out t H → BindsTo t fd as (ps.zip us) → Vals ws us → sp ws H Q E →
    codeAny (model P w) B (.call (.ref f) as) (CR CX out P w H t Q E) t
theorem FnOk.toG {k : Nat} {f : Addr} {fd : FuncData} {ps : List Str} {sp : Sp} (F : FnOk P w K mg base CX k f fd ps sp) : FnG P w K mg base CX k f fd ps sp :=
  ⟨F.len, fun B out t H as us ws Q E _ => F.run B out t H as us ws Q E⟩
theorem FnG.mono {j k : Nat} {f : Addr} {fd : FuncData} {ps : List Str} {sp : Sp} (F : FnG P w K mg base CX j f fd ps sp) (h : j ≤ k) : FnG P w K mg base CX k f fd ps sp :=
  ⟨F.len, fun B out t H as us ws Q E g r => F.go B out t H as us ws Q E g (r.mono h)⟩
theorem fnG_of {k : Nat} {f : Addr} {name qual : Str} {params : Arguments} {body : List Stmt} {scope : Scope} {dV kV doc pm cdv ct oc : Value} {an od : Option Addr} {osl : Array (Option Value)} {N ps : List Str} {sp : Sp}
    (lk : K.lookup f = some ⟨oc, od, .func (PySem.W.fnOf name qual params body scope dV kV doc pm an cdv ct), osl⟩) (hcd : PySem.W.codeIn K cdv qual = true) (S : FnScope N ps scope)
    (len : ∀ ws H Q E, sp ws H Q E → ws.length = ps.length)
    (hb : ∀ (B : Around) (out : List Env) (t : Shared) (H : Hp) (ws : List V) (Q : VK) (E : XK), B.guards = some [] → Room k (B.deeper (envOfC qual scope t.heap.objs.size f cdv)) → sp ws H Q E →
      ∃ r, PSs (cxOf CX P w K mg base N qual scope f cdv B out t H E) body r ∧ r { nx := fun _ H' => Q .non H', rt := Q } (start N ws) H) :
    FnG P w K mg base CX (k + 1) f (PySem.W.fnOf name qual params body scope dV kV doc pm an cdv ct) ps sp := by
  refine ⟨len, ?_⟩
  intro B out t H as us ws Q E hg hr ee bb rr hsp
  have hl := len _ _ _ _ hsp
  have kx : K.In t.heap := ee.mod.kin.keeps fun b o z => (ee.bs b o z).1
  have lm : t.heap.NoLimit := ee.mod.nolimit.keeps fun b o z => (ee.bs b o z).1
  have kinds : ∀ y ∈ ps.zip us, scope.names.lookup y.1 = some .local ∨ (scope.names.lookup y.1 = some .cell ∧
      ((cellsFrom (t.heap.objs.size + 1) scope.names []).lookup y.1).isSome = true) := by
    rintro ⟨n, v⟩ hy
    rcases S.par n (List.of_mem_zip hy).1 with q | q
    · exact Or.inl q
    · exact Or.inr ⟨q, PySem.W.cellsFrom_some _ _ _ (Or.inl q)⟩
  refine codeAny_call_function hr.depth (kx _ _ lk) rfl S.co S.gen rfl (PySem.W.codeRec_of kx hcd) (bb _ _ _ _ ?_)
  refine wpAny_newFunctionEnv_cells S.kind kinds fun env he t1 x => ?_
  subst he
  refine ⟨lm.keeps x.toInCall.keep, codeAny_func ?_⟩
  obtain ⟨r, ht, hq⟩ := hb B out t H ws Q E hg (hr.deeper _) hsp
  have J := inv_start (CX := CX) (E := E) S hr.hd ee hl rr x
  refine wpAny_mono (ht.run [] t1 (start N ws) H _ J hq) (fun fl t' hs => ?_) (fun _ _ hs => hs)
  cases fl with
  | brk => exact hs.elim fun _ z => z.elim fun _ z => z.2.elim
  | cont => exact hs.elim fun _ z => z.elim fun _ z => z.2.elim
  | ret u =>
    obtain ⟨v, _, H', J', rv, q⟩ := hs
    exact ⟨v, H', J'.os, J'.bare, J'.base, J'.hok, rv, q⟩
  | next =>
    obtain ⟨_, H', J', q⟩ := hs
    exact ⟨.non, H', J'.os, J'.bare, J'.base, J'.hok, rfl, q⟩
end
section
variable {X : Cx} {CX : CXT} {k : Nat} {f : Addr} {fd : FuncData} {ps : List Str} {sp : Sp} {ds : List Value} {dvs : List V} {E : XK} {x : Str} {p pos : Pos} {e : Expr} {es : List Expr} {t : TA}
theorem pe_callG (F : FnG X.prog X.w X.K X.mg X.base CX k f fd ps sp) (gd : X.A.guards = some []) (hr : Room k X.A) (hg : Gl X x) (hm : X.mg x = some (.ref f)) (hk : PySem.W.keepIn X.K (.ref f) = true)
    (hb : Binds X.K fd ps ds) (hd : Vals dvs ds) (hx : Passes CX X E) (ha : PA X (e :: es) t) (hdb : (x == ("__debug__" : Str)) = false := by decide)
    (he : starEach (e :: es) X.env = (false, eval e X.env) :: starEach es X.env := by rfl) (hpl : (backTo pos (starEach es X.env)).any (·.1) = false := by rfl) :
    PE X (.Call (.Name x p) (e :: es) [] pos) (tCall sp dvs E t) := by
  refine ⟨fun pins s σ H Q I h => wpAny_Call_Name_kw (ld_glob I hg hm ?_ hdb)⟩
  refine PySem.W.callWith_K (h₀ := X.base) I.ok.mod.kin hk ?_ he hpl
  refine thn (ha.run pos pins s σ H _ I h) fun us t1 ⟨ws, H1, J, r, q⟩ => ⟨J.kIn, ?_⟩
  have r2 : Vals (ws ++ dvs) (us ++ ds) := r.append hd
  have hl : (us ++ ds).length = ps.length := r2.length.symm.trans (F.len _ _ _ _ q)
  refine wpAny_call (codeAny_mono (F.go X.A X.stack t1 H1 ⟨us, []⟩ (us ++ ds) (ws ++ dvs) Q E gd hr J.env0 (hb t1 us J.kIn hl) r2 q) ?_)
  intro r t' hq
  cases r with
  | error z => exact hx pins σ H1 t1 z t' J hq
  | ok fl =>
    cases fl with
    | ret u => exact J.after hq
    | next => exact False.elim hq
    | brk => exact False.elim hq
    | cont => exact False.elim hq
end
/-! the law's own call, where its def may print -/
abbrev Tru (s₁ : Shared) (r : Result) (t : Shared) : Prop := r = .ok (.ret (.bool true)) ∧ OldK s₁.heap t.heap ∧ t.os = s₁.os ∧ AllBare t.gens
theorem law_core {P : Program} {w : World} {K : PySem.W.Frag} {mg mb : Str → Option Value} {k : Nat} {fa a : Addr} {fd : FuncData} {x : Str} {sp : Sp} {s₁ : Shared} {vs : List Value} {ns : List Int}
    (kx : K.In s₁.heap) (n1 : s₁.heap.Ns mainGlobals mg) (n2 : s₁.heap.Ns builtinsNs mb) (n3 : ∀ x : Str, x ≠ "__name__" → mb x = bootBuiltins x) (n4 : s₁.heap.NoLimit) (g0 : s₁.gens = #[])
    (oa : s₁.heap.get? a = some { cls := .type "list", data := .seq vs.toArray }) (hr : Room k callerA)
    (F : ∀ base : Heap, K.In base → base.Ns mainGlobals mg → FnG P w K mg base CX0 k fa fd [x] sp) (bd : ∀ (s : Shared) (u : Value), BindsTo s fd ⟨[u], []⟩ [(x, u)])
    (hsp : ∀ H : Hp, Only H → SqL K H a (ns.map V.int) → sp [.ref a] H (fun v _ => v = .bl true) fun _ _ _ => False)
    (H : Hp) (hO : Only H) (hS : SqL K H a (ns.map V.int)) (ok : HOk P w H s₁.heap) (hA : ∀ b, H b ≠ none → b = a) (hK : H a ≠ none → K.lookup a = none) :
    codeAny (model P w) callerA (.call (.ref fa) ⟨[.ref a], []⟩) (Tru s₁) s₁ := by
  have out : ∀ {b : Addr} {o : Obj} {es : Array DictEntry} {ep : Nat}, s₁.heap.get? b = some o → o.data = .dict es ep → H b = none := by
    intro b o es ep e d
    by_cases q : H b = none
    · exact q
    · have z := hA b q
      subst z
      rw [oa] at e
      cases e
      exact nomatch d
  have nsK : ∀ {b : Addr} {m : Str → Option Value}, s₁.heap.Ns b m → (hidT s₁.heap H).Ns b m := by
    rintro b m ⟨o, es, ep, e, d, r⟩
    exact ⟨o, es, ep, hidT_get e (out e d), d, r⟩
  have kb : K.In (hidT s₁.heap H) := by
    intro b o e
    refine hidT_get (kx b o e) ?_
    by_cases q : H b = none
    · exact q
    · have z := hA b q
      subst z
      have y := hK q
      rw [y] at e
      cases e
  have lim : (hidT s₁.heap H).NoLimit := by
    obtain ⟨mc, h1, h2⟩ := n4
    exact ⟨mc, nsK h1, h2⟩
  have md : Mod K mg (hidT s₁.heap H) := ⟨kb, nsK n1, ⟨mb, nsK n2, n3⟩, lim⟩
  have ee : Env0 P w K mg (hidT s₁.heap H) callerA [] s₁ H := by
    refine ⟨rfl, md, fun b o e => of_hidT e, Nat.le_of_eq (hidT_size _ _), trivial, ?_, ok, .of_eq g0⟩
    intro b hb
    exact absurd (show b ∈ ([] : List Addr) from hb) (by simp)
  have run := (F _ kb (nsK n1)).go callerA [] s₁ H ⟨[.ref a], []⟩ [.ref a] [.ref a] _ _ rfl hr ee (bd s₁ (.ref a)) (.cons rfl .nil) (hsp H hO hS)
  refine codeAny_mono run ?_
  intro r t h
  cases r with
  | error e => exact False.elim h
  | ok fl =>
    cases fl with
    | brk => exact False.elim h
    | cont => exact False.elim h
    | next => exact False.elim h
    | ret u =>
      obtain ⟨v, H', os, bare, un, ok', rv, q⟩ := h
      have q' : v = .bl true := q
      subst q'
      obtain rfl : u = Value.bool true := rv
      refine ⟨rfl, OldK.of_keep ?_, os, bare⟩
      intro b o e
      rcases hO b with z | ⟨ob, xs, z⟩
      · exact un.keep b o e z (fun y => absurd (show b ∈ ([] : List Addr) from y) (by simp)) (by simp)
      · obtain ⟨e1, _⟩ := ok b _ z
        obtain ⟨e2, _⟩ := ok' b _ (un.frzs b ob _ z)
        rw [e] at e1
        cases e1
        exact e2
theorem law_callG {P : Program} {w : World} {K : PySem.W.Frag} {mg mb : Str → Option Value} {k : Nat} {fa a : Addr} {fd : FuncData} {x : Str} {sp : Sp} {s₁ : Shared} {vs : List Value} {ns : List Int}
    (kx : K.In s₁.heap) (n1 : s₁.heap.Ns mainGlobals mg) (n2 : s₁.heap.Ns builtinsNs mb) (n3 : ∀ x : Str, x ≠ "__name__" → mb x = bootBuiltins x) (n4 : s₁.heap.NoLimit) (g0 : s₁.gens = #[])
    (oa : s₁.heap.get? a = some { cls := .type "list", data := .seq vs.toArray }) (hi : IntsAre vs ns) (hl : ns.length ≤ sizeLine) (hr : Room k callerA)
    (F : ∀ base : Heap, K.In base → base.Ns mainGlobals mg → FnG P w K mg base CX0 k fa fd [x] sp) (bd : ∀ (s : Shared) (u : Value), BindsTo s fd ⟨[u], []⟩ [(x, u)])
    (hsp : ∀ H : Hp, Only H → SqL K H a (ns.map V.int) → sp [.ref a] H (fun v _ => v = .bl true) fun _ _ _ => False) :
    codeAny (model P w) callerA (.call (.ref fa) ⟨[.ref a], []⟩) (Tru s₁) s₁ := by
  have rv := vals_ints hi
  have lv := rv.length
  rw [List.length_map] at lv
  have go := law_core (ns := ns) kx n1 n2 n3 n4 g0 oa hr F bd hsp
  by_cases hk : K.lookup a = none
  · refine go (fun b => if b = a then some (.frz { cls := .type "list", data := .seq vs.toArray } (.lst (ns.map V.int))) else none) ?_ ?_ ?_ ?_ (fun _ => hk)
    · intro b
      by_cases hb : b = a
      · exact Or.inr ⟨_, _, if_pos hb⟩
      · exact Or.inl (if_neg hb)
    · exact .inl (.inr ⟨{ cls := .type "list", data := .seq vs.toArray }, if_pos rfl⟩)
    · intro b u z
      by_cases hb : b = a
      · cases (if_pos hb).symm.trans z
        subst hb
        exact ⟨oa, by rw [List.length_map]; exact hl, vs, _, rv, oa⟩
      · cases (if_neg hb).symm.trans z
    · intro b z
      by_cases hb : b = a
      · exact hb
      · exact absurd (if_neg hb) z
  · obtain ⟨o, hk⟩ := Option.ne_none_iff_exists'.mp hk
    have e := kx a o hk
    rw [oa] at e
    cases e
    refine go (fun _ => none) (fun _ => .inl rfl) ?_ ?_ (fun b z => absurd rfl z) (fun z => absurd rfl z)
    · exact .inr ⟨_, vs.toArray, _, hk, rfl, rfl, rfl, by rw [List.size_toArray, ← lv]; exact hl, by simpa using rv⟩
    · intro b u z
      exact nomatch (show (none : Option HO) = some u from z)
theorem walkG {l : PySem.W.OpenLaw} {n k : Nat} {q : Program} {loose : List Str} {XP : (Str → Option Value) → Heap → Prop} {YP : World → Heap → Prop} {d : DefRec} {K : Params → PySem.W.Frag} {sp : PySem.W.Frag → Sp} {x : Str}
    (hn : l.most = some n) (hn2 : n ≤ sizeLine) (hdf : d.params.defaults = []) (hr : Room k callerA) (hY : ∀ (w : World) (h : Heap), YP w h → (K w.params).In h)
    (F : ∀ (w : World) (mg : Str → Option Value) (fa : Addr) (h : Heap), (K w.params).In h → h.Ns mainGlobals mg → mg d.name = some (.ref fa) →
      ∃ fd : FuncData, (∀ (s : Shared) (u : Value), BindsTo s fd ⟨[u], []⟩ [(x, u)]) ∧ ∀ base : Heap, (K w.params).In base → base.Ns mainGlobals mg → FnG l.prog w (K w.params) mg base CX0 k fa fd [x] (sp (K w.params)))
    (hsp : ∀ (K : PySem.W.Frag) (H : Hp) (a : Addr) (ns : List Int), ns.length ≤ n → Only H → SqL K H a (ns.map V.int) → sp K [.ref a] H (fun v _ => v = .bl true) fun _ _ _ => False) :
    PySem.W.WalkO q loose XP YP l.row.toRowW d [] (fun f vs => PySem.call f vs) := by
  refine Att.attach_call hn hdf ?_
  intro w s₀ s₁ mg mb fa o pm cd doc a vs ns G Y ho hd hcd hmg hobj hints hlen hg
  obtain ⟨fd, hb, hF⟩ := F w mg fa _ (hY w _ Y) G.T.g hmg
  exact law_callG (hY w _ Y) G.T.g G.T.b G.T.builtins G.T.nolimit hg hobj hints (Nat.le_trans hlen hn2) hr hF hb (fun H hO hS => hsp (K w.params) H a ns hlen hO hS)
/-! heaps: what is kept, but for some addresses -/
def cut (l : List Addr) (H : Hp) : Hp := fun b => if b ∈ l then none else H b
def Off (l : List Addr) (H H' : Hp) : Prop := Same (cut l H) (cut l H')
theorem cut_out {l : List Addr} {H : Hp} {b : Addr} (h : b ∉ l) : cut l H b = H b := if_neg h
theorem cut_in {l : List Addr} {H : Hp} {b : Addr} (h : b ∈ l) : cut l H b = none := if_pos h
theorem cut_some {l : List Addr} {H : Hp} {b : Addr} {o : HO} (h : cut l H b = some o) : b ∉ l ∧ H b = some o := by
  by_cases e : b ∈ l
  · rw [cut_in e] at h
    cases h
  · rw [cut_out e] at h
    exact ⟨e, h⟩
theorem same_new {H : Hp} {p : Addr} (h : H p = none) (o : HO) : Same H (upd H p o) := fun b u q => by
  rw [upd_ne (ne_of_none q h)]
  exact q
theorem cut_same (l : List Addr) (H : Hp) : Same (cut l H) H := fun _ _ h => (cut_some h).2
theorem Off.refl (l : List Addr) (H : Hp) : Off l H H := Same.refl _
theorem Off.trans {l : List Addr} {H H1 H2 : Hp} (a : Off l H H1) (b : Off l H1 H2) : Off l H H2 := Same.trans a b
theorem Off.of {l : List Addr} {H H' : Hp} (s : Same H H') : Off l H H' := fun b o h => by
  obtain ⟨n, e⟩ := cut_some h
  rw [cut_out n]
  exact s b o e
theorem Off.get {l : List Addr} {H H' : Hp} (s : Off l H H') {b : Addr} {o : HO} (h : H b = some o) (n : b ∉ l) : H' b = some o := by
  have q := s b o (by rw [cut_out n]; exact h)
  exact (cut_some q).2
theorem Off.mono {l m : List Addr} {H H' : Hp} (s : Off l H H') (h : ∀ b ∈ l, b ∈ m) : Off m H H' := fun b o e => by
  obtain ⟨n, e⟩ := cut_some e
  rw [cut_out n]
  exact s.get e fun z => n (h b z)
/-- a change at an address that is not counted -/
theorem Off.put {l : List Addr} {H : Hp} {p : Addr} {o : HO} (h : p ∈ l) : Off l H (upd H p o) := fun b u e => by
  obtain ⟨n, e⟩ := cut_some e
  rw [cut_out n, upd_ne (fun z => n (by rw [z]; exact h))]
  exact e
/-- an address that was free then -/
theorem Off.free {l : List Addr} {H H' : Hp} (s : Off l H H') {b : Addr} (h : H' b = none) (n : b ∉ l) : H b = none := by
  cases q : H b with
  | none => rfl
  | some o =>
    rw [s.get q n] at h
    cases h
/-! data -/
theorem seqT_up {K : PySem.W.Frag} {H H' : Hp} {a : Addr} {xs : List V} (s : Same H H') (h : SqT K H a xs) : SqT K H' a xs := by
  rcases h with (h | ⟨o, h⟩) | h
  · exact .inl (.inl (s _ _ h))
  · exact .inl (.inr ⟨o, s _ _ h⟩)
  · exact .inr h
mutual
theorem Dp.up {K : PySem.W.Frag} {H H' : Hp} (s : Same H H') : ∀ (d : PyData) (v : V), Dp K H v d → Dp K H' v d
  | .none, _, h => by cases h; exact .non
  | .bool b, _, h => by cases h; exact .bl b
  | .int i, _, h => by cases h; exact .int i
  | .str x, _, h => by cases h; exact .str x
  | .list ds, _, h => by
    cases h with
    | lst h1 h2 => exact .lst (s.seq h1) (Dp.ups s ds _ h2)
  | .tuple ds, _, h => by
    cases h with
    | tup h1 h2 => exact .tup (seqT_up s h1) (Dp.ups s ds _ h2)
  | .dict _, _, h => by cases h
theorem Dp.ups {K : PySem.W.Frag} {H H' : Hp} (s : Same H H') : ∀ (ds : List PyData) (vs : List V), DpAll K H vs ds → DpAll K H' vs ds
  | [], _, h => by cases h; exact .nil
  | d :: ds, _, h => by
    cases h with
    | cons h1 h2 => exact .cons (Dp.up s d _ h1) (Dp.ups s ds _ h2)
end
theorem DpAll.len {K : PySem.W.Frag} {H : Hp} : ∀ {vs : List V} {ds : List PyData}, DpAll K H vs ds → vs.length = ds.length
  | _, _, .nil => rfl
  | _, _, .cons _ t => congrArg (· + 1) (DpAll.len t)
theorem DpAll.get {K : PySem.W.Frag} {H : Hp} : ∀ {vs : List V} {ds : List PyData} {i : Nat} {v : V}, DpAll K H vs ds → vs[i]? = some v → ∃ d, ds[i]? = some d ∧ Dp K H v d
  | _, _, _, _, .nil, e => by simp at e
  | _, _, 0, _, .cons h _, e => by simp at e; subst e; exact ⟨_, rfl, h⟩
  | _, _, i + 1, _, .cons _ t, e => by
    obtain ⟨d, a, b⟩ := DpAll.get (i := i) t (by simpa using e)
    exact ⟨d, by simpa using a, b⟩
theorem DpAll.app {K : PySem.W.Frag} {H : Hp} : ∀ {vs ws : List V} {ds es : List PyData}, DpAll K H vs ds → DpAll K H ws es → DpAll K H (vs ++ ws) (ds ++ es)
  | _, _, _, _, .nil, s => s
  | _, _, _, _, .cons r t, s => .cons r (DpAll.app t s)
/-- the name of a thing's type -/
def tyN : PyData → String
  | .none => "NoneType"
  | .bool _ => "bool"
  | .int _ => "int"
  | .str _ => "str"
  | .list _ => "list"
  | .tuple _ => "tuple"
  | .dict _ => "dict"
theorem tyD {K : PySem.W.Frag} {H : Hp} {v : V} {d : PyData} (h : Dp K H v d) : TyX K H v (.type (tyN d)) := by
  cases h with
  | non => exact .base .non
  | bl b => exact .base (.bl b)
  | int i => exact .base (.int i)
  | str x => exact .base (.str x)
  | lst h _ =>
    rcases h with (h | ⟨o, h⟩) | ⟨o, its, n, h, c, _⟩
    · exact .base (.lst h)
    · exact .base (.frz h)
    · exact .kList h c
  | tup h _ =>
    rcases h with (h | ⟨o, h⟩) | ⟨o, its, n, h, c, _⟩
    · exact .base (.tup h)
    · exact .fTuple h
    · exact .kTuple h c
/-- isinstance(x, T) of data -/
def rIsD (K : PySem.W.Frag) : List V → Hp → VK → Prop := fun xs H Q =>
  ∃ v d T b, xs = [v, .ty T] ∧ Dp K H v d ∧ kitB (tyN d) T = some b ∧ Q (.bl b) H
theorem call_isD {X : Cx} : CallR X (.builtin "isinstance") (rIsD X.K) := by
  intro pins s σ H xs us Q I r h
  obtain ⟨v, d, T, b, rfl, hd, hk, q⟩ := h
  exact call_isi pins s σ H _ us Q I r ⟨v, .ty T, _, _, b, rfl, .ty T, tyD hd, kit_ty hk, q⟩
/-! the box that a law draws from -/
def bx (g : Addr) (n s t : Int) : List (Key × V) := [(Sum.inr "great", .ref g), (Sum.inr "now", .int n), (Sum.inr "seed", .int s), (Sum.inr "turn", .int t)]
structure Box (H : Hp) (p g : Addr) : Prop where
  ex : ∃ n s t gs, H p = some (.dK (bx g n s t)) ∧ H g = some (.lst (List.map V.int gs)) ∧ gs.length ≤ 1000
theorem Box.ne {H : Hp} {p g : Addr} (b : Box H p g) : p ≠ g := by
  obtain ⟨n, s, t, gs, h1, h2, _⟩ := b.ex
  exact ne_of h1 h2 (by intro z; cases z)
theorem Box.off {H H' : Hp} {p g : Addr} {l : List Addr} (b : Box H p g) (h : Off l H H') (n1 : p ∉ l) (n2 : g ∉ l) : Box H' p g := by
  obtain ⟨n, s, t, gs, h1, h2, h3⟩ := b.ex
  exact ⟨n, s, t, gs, h.get h1 n1, h.get h2 n2, h3⟩
theorem Box.same {H H' : Hp} {p g : Addr} (b : Box H p g) (h : Same H H') : Box H' p g := by
  obtain ⟨n, s, t, gs, h1, h2, h3⟩ := b.ex
  exact ⟨n, s, t, gs, h _ _ h1, h _ _ h2, h3⟩
theorem kgn : ¬ ((Sum.inr "great" : Key) = (Sum.inr "now" : Key)) := by decide +kernel
theorem kgs : ¬ ((Sum.inr "great" : Key) = (Sum.inr "seed" : Key)) := by decide +kernel
theorem kgt : ¬ ((Sum.inr "great" : Key) = (Sum.inr "turn" : Key)) := by decide +kernel
theorem kns : ¬ ((Sum.inr "now" : Key) = (Sum.inr "seed" : Key)) := by decide +kernel
theorem knt : ¬ ((Sum.inr "now" : Key) = (Sum.inr "turn" : Key)) := by decide +kernel
theorem kst : ¬ ((Sum.inr "seed" : Key) = (Sum.inr "turn" : Key)) := by decide +kernel
theorem knf (a b : Key) (h : ¬ a = b) : ¬ b = a := fun z => h z.symm
section
variable (g : Addr) (n s t : Int)
theorem bx_great : valV (bx g n s t) (Sum.inr "great" : Key) = some (.ref g) := by
  simp [valV, bx]
theorem bx_now : valV (bx g n s t) (Sum.inr "now" : Key) = some (.int n) := by
  simp only [valV, bx, List.find?_cons, decide_eq_false kgn, decide_true, Option.map_some]
theorem bx_seed : valV (bx g n s t) (Sum.inr "seed" : Key) = some (.int s) := by
  simp only [valV, bx, List.find?_cons, decide_eq_false kgs, decide_eq_false kns, decide_true, Option.map_some]
theorem bx_turn : valV (bx g n s t) (Sum.inr "turn" : Key) = some (.int t) := by
  simp only [valV, bx, List.find?_cons, decide_eq_false kgt, decide_eq_false knt, decide_eq_false kst, decide_true, Option.map_some]
theorem put_now (y : Int) : putK (bx g n s t) (Sum.inr "now" : Key) (.int y) = bx g y s t := by
  simp only [putK, bx, List.any_cons, List.map_cons, List.map_nil, decide_true, Bool.true_or, Bool.or_true, if_true, if_neg kgn, if_neg (knf _ _ kns), if_neg (knf _ _ knt)]
theorem put_seed (y : Int) : putK (bx g n s t) (Sum.inr "seed" : Key) (.int y) = bx g n y t := by
  simp only [putK, bx, List.any_cons, List.map_cons, List.map_nil, decide_true, Bool.true_or, Bool.or_true, if_true, if_neg kgs, if_neg kns, if_neg (knf _ _ kst)]
theorem put_turn (y : Int) : putK (bx g n s t) (Sum.inr "turn" : Key) (.int y) = bx g n s y := by
  simp only [putK, bx, List.any_cons, List.map_cons, List.map_nil, decide_true, Bool.true_or, Bool.or_true, if_true, if_neg kgt, if_neg knt, if_neg kst]
theorem mer_box : mergeK [] (bx g n s t) = bx g n s t := by
  simp only [mergeK, bx, List.foldl_cons, List.foldl_nil, putK, List.any_nil, List.any_cons, List.nil_append, List.cons_append, decide_eq_false kgn, decide_eq_false kgs, decide_eq_false kgt, decide_eq_false kns, decide_eq_false knt, decide_eq_false kst, Bool.or_false, if_neg Bool.false_ne_true]
end
/-! data that can be printed: small ints, short texts, few nodes -/
mutual
def gd : PyData → Bool
  | .none => true
  | .bool _ => true
  | .int i => decide (i.natAbs.log2 < 1920)
  | .str x => decide (x.length ≤ 100) && x.cps.toList.all fun c => decide (c < 128)
  | .list ds => gds ds
  | .tuple ds => gds ds
  | .dict _ => false
def gds : List PyData → Bool
  | [] => true
  | d :: ds => gd d && gds ds
end
mutual
def nod : PyData → Nat
  | .list ds => 1 + nods ds
  | .tuple ds => 1 + nods ds
  | .none => 1
  | .bool _ => 1
  | .int _ => 1
  | .str _ => 1
  | .dict _ => 1
def nods : List PyData → Nat
  | [] => 0
  | d :: ds => nod d + nods ds
end
mutual
theorem gd_sh : ∀ d : PyData, gd d = true → d.showable = true ∧ d.hasDict = false
  | .none, _ => ⟨by simp only [PyData.showable], by simp only [PyData.hasDict]⟩
  | .bool _, _ => ⟨by simp only [PyData.showable], by simp only [PyData.hasDict]⟩
  | .int i, h => ⟨by simpa only [PyData.showable, gd] using h, by simp only [PyData.hasDict]⟩
  | .str _, _ => ⟨by simp only [PyData.showable], by simp only [PyData.hasDict]⟩
  | .list ds, h => by
    have q := gds_sh ds (by simpa only [gd] using h)
    exact ⟨by simpa only [PyData.showable] using q.1, by simpa only [PyData.hasDict] using q.2⟩
  | .tuple ds, h => by
    have q := gds_sh ds (by simpa only [gd] using h)
    exact ⟨by simpa only [PyData.showable] using q.1, by simpa only [PyData.hasDict] using q.2⟩
  | .dict _, h => by simp [gd] at h
theorem gds_sh : ∀ ds : List PyData, gds ds = true → PyData.showableAll ds = true ∧ PyData.hasDictAll ds = false
  | [], _ => ⟨by simp only [PyData.showableAll], by simp only [PyData.hasDictAll]⟩
  | d :: ds, h => by
    simp only [gds, Bool.and_eq_true] at h
    have q1 := gd_sh d h.1
    have q2 := gds_sh ds h.2
    exact ⟨by simp only [PyData.showableAll, q1.1, q2.1, Bool.and_self], by simp only [PyData.hasDictAll, q1.2, q2.2, Bool.or_self]⟩
end
mutual
theorem gd_sz : ∀ d : PyData, gd d = true → d.shown.length + 2 ≤ 2000 * nod d
  | .none, _ => by
    simp only [PyData.shown, nod]
    decide +kernel
  | .bool b, _ => by
    simp only [PyData.shown, nod]
    cases b <;> decide +kernel
  | .int i, h => by
    have h1 : i.natAbs.log2 < 1920 := by simpa only [gd, decide_eq_true_eq] using h
    have q := int_text_len_1921 h1
    simp only [PyData.shown, nod]
    show (Str.ofString (toString i)).length + 2 ≤ _
    omega
  | .str x, h => by
    simp only [gd, Bool.and_eq_true, decide_eq_true_eq, List.all_eq_true] at h
    have q := StrLaws.reprText_len x (fun c hc => Nat.lt_of_lt_of_le (h.2 c hc) (by decide))
    simp only [PyData.shown, nod]
    omega
  | .list ds, h => by
    have q := gds_sz ds (by simpa only [gd] using h)
    have q2 := listText_len_le (PyData.shownAll ds)
    simp only [PyData.shown, nod]
    omega
  | .tuple ds, h => by
    have q := gds_sz ds (by simpa only [gd] using h)
    have q2 := tupleText_len_le (PyData.shownAll ds)
    simp only [PyData.shown, nod]
    omega
  | .dict _, h => by simp [gd] at h
theorem gds_sz : ∀ ds : List PyData, gds ds = true → ((PyData.shownAll ds).map (·.length)).sum + 2 * (PyData.shownAll ds).length ≤ 2000 * nods ds
  | [], _ => by simp [PyData.shownAll, nods]
  | d :: ds, h => by
    simp only [gds, Bool.and_eq_true] at h
    have q1 := gd_sz d h.1
    have q2 := gds_sz ds h.2
    simp only [PyData.shownAll, nods, List.map_cons, List.sum_cons, List.length_cons]
    omega
end
theorem prn_of {d : PyData} (h : gd d = true) (hn : nod d ≤ 8000) (hd : d.depth ≤ 60) : Prn d :=
  ⟨(gd_sh d h).1, (gd_sh d h).2, hd, by
    have q := gd_sz d h
    have e : sizeLine = 16777216 := by decide
    omega⟩
theorem gds_app : ∀ ds es : List PyData, gds (ds ++ es) = (gds ds && gds es)
  | [], es => by simp [gds]
  | d :: ds, es => by simp only [List.cons_append, gds, gds_app ds es, Bool.and_assoc]
theorem nods_app : ∀ ds es : List PyData, nods (ds ++ es) = nods ds + nods es
  | [], es => by simp [nods]
  | d :: ds, es => by simp only [List.cons_append, nods, nods_app ds es, Nat.add_assoc]
theorem nod_pos : ∀ d : PyData, 1 ≤ nod d
  | .list _ => by simp only [nod]; omega
  | .tuple _ => by simp only [nod]; omega
  | .none => by simp only [nod]; omega
  | .bool _ => by simp only [nod]; omega
  | .int _ => by simp only [nod]; omega
  | .str _ => by simp only [nod]; omega
  | .dict _ => by simp only [nod]; omega
theorem nods_len : ∀ ds : List PyData, ds.length ≤ nods ds
  | [] => Nat.le_refl _
  | d :: ds => by
    have := nod_pos d
    have := nods_len ds
    simp only [nods, List.length_cons]
    omega
theorem gds_mem : ∀ {ds : List PyData} {d : PyData}, gds ds = true → d ∈ ds → gd d = true
  | _ :: _, _, h, m => by
    simp only [gds, Bool.and_eq_true] at h
    rcases List.mem_cons.mp m with e | e
    · rw [e]
      exact h.1
    · exact gds_mem h.2 e
theorem nods_mem : ∀ {ds : List PyData} {d : PyData}, d ∈ ds → nod d ≤ nods ds
  | _ :: _, _, m => by
    simp only [nods]
    rcases List.mem_cons.mp m with e | e
    · rw [e]
      omega
    · have := nods_mem e
      omega
theorem depth_mem : ∀ {ds : List PyData} {d : PyData}, d ∈ ds → d.depth ≤ PyData.depthAll ds
  | _ :: _, _, m => by
    simp only [PyData.depthAll]
    rcases List.mem_cons.mp m with e | e
    · rw [e]
      omega
    · have := depth_mem e
      omega
theorem depthAll_app : ∀ ds es : List PyData, PyData.depthAll (ds ++ es) = max (PyData.depthAll ds) (PyData.depthAll es)
  | [], es => by simp [PyData.depthAll]
  | d :: ds, es => by simp only [List.cons_append, PyData.depthAll, depthAll_app ds es, Nat.max_assoc]
/-- built-in names that the top leaves as they are -/
structure Bi (mg : Str → Option Value) : Prop where
  ii : mg "isinstance" = none
  len : mg "len" = none
  all : mg "all" = none
  str : mg "str" = none
  tup : mg "tuple" = none
  int : mg "int" = none
  bool : mg "bool" = none
  rng : mg "range" = none
  rep : mg "repr" = none
  abs : mg "abs" = none
/-! names -/
def lowOk (c : Nat) : Bool := decide (97 ≤ c) && decide (c ≤ 122)
def isNm (x : Str) : Bool := decide (1 ≤ x.length) && decide (x.length ≤ 8) && x.cps.toList.all lowOk
mutual
def isVal : PyData → Bool
  | .int _ => true
  | .str x => isNm x
  | .tuple ds => isVals ds
  | .none => false
  | .bool _ => false
  | .list _ => false
  | .dict _ => false
def isVals : List PyData → Bool
  | [] => true
  | d :: ds => isVal d && isVals ds
end
theorem isVals_app : ∀ ds es : List PyData, isVals (ds ++ es) = (isVals ds && isVals es)
  | [], es => by simp [isVals]
  | d :: ds, es => by simp only [List.cons_append, isVals, isVals_app ds es, Bool.and_assoc]
def isTup : PyData → Bool
  | .tuple _ => true
  | _ => false
def nmD : PyData → Bool
  | .str x => isNm x
  | _ => false
def inD : PyData → Bool
  | .int _ => true
  | _ => false
def isStr : PyData → Bool
  | .str _ => true
  | _ => false
def isIntB : PyData → Bool
  | .int _ => true
  | .bool _ => true
  | _ => false
def isBool : PyData → Bool
  | .bool _ => true
  | _ => false
theorem kit_tup : ∀ d : PyData, kitB (tyN d) "tuple" = some (isTup d)
  | .none => (by decide +kernel : kitB "NoneType" "tuple" = some false)
  | .bool _ => (by decide +kernel : kitB "bool" "tuple" = some false)
  | .int _ => (by decide +kernel : kitB "int" "tuple" = some false)
  | .str _ => (by decide +kernel : kitB "str" "tuple" = some false)
  | .list _ => (by decide +kernel : kitB "list" "tuple" = some false)
  | .tuple _ => (by decide +kernel : kitB "tuple" "tuple" = some true)
  | .dict _ => (by decide +kernel : kitB "dict" "tuple" = some false)
theorem kit_str : ∀ d : PyData, kitB (tyN d) "str" = some (isStr d)
  | .none => (by decide +kernel : kitB "NoneType" "str" = some false)
  | .bool _ => (by decide +kernel : kitB "bool" "str" = some false)
  | .int _ => (by decide +kernel : kitB "int" "str" = some false)
  | .str _ => (by decide +kernel : kitB "str" "str" = some true)
  | .list _ => (by decide +kernel : kitB "list" "str" = some false)
  | .tuple _ => (by decide +kernel : kitB "tuple" "str" = some false)
  | .dict _ => (by decide +kernel : kitB "dict" "str" = some false)
theorem kit_int : ∀ d : PyData, kitB (tyN d) "int" = some (isIntB d)
  | .none => (by decide +kernel : kitB "NoneType" "int" = some false)
  | .bool _ => (by decide +kernel : kitB "bool" "int" = some true)
  | .int _ => (by decide +kernel : kitB "int" "int" = some true)
  | .str _ => (by decide +kernel : kitB "str" "int" = some false)
  | .list _ => (by decide +kernel : kitB "list" "int" = some false)
  | .tuple _ => (by decide +kernel : kitB "tuple" "int" = some false)
  | .dict _ => (by decide +kernel : kitB "dict" "int" = some false)
theorem kit_bool : ∀ d : PyData, kitB (tyN d) "bool" = some (isBool d)
  | .none => (by decide +kernel : kitB "NoneType" "bool" = some false)
  | .bool _ => (by decide +kernel : kitB "bool" "bool" = some true)
  | .int _ => (by decide +kernel : kitB "int" "bool" = some false)
  | .str _ => (by decide +kernel : kitB "str" "bool" = some false)
  | .list _ => (by decide +kernel : kitB "list" "bool" = some false)
  | .tuple _ => (by decide +kernel : kitB "tuple" "bool" = some false)
  | .dict _ => (by decide +kernel : kitB "dict" "bool" = some false)
theorem one_lt (c d : Nat) : (([c] : List Nat) < [d]) ↔ c < d := by
  constructor
  · intro h
    cases h with
    | rel h => exact h
    | cons h => cases h
  · intro h
    exact .rel h
theorem cps_a : (("a" : Str)).cps.toList = [97] := by decide +kernel
theorem cps_z : (("z" : Str)).cps.toList = [122] := by decide +kernel
theorem ge_a (c : Nat) : (!decide ((⟨#[c]⟩ : Str).cps.toList < ("a" : Str).cps.toList)) = decide (97 ≤ c) := by
  rw [cps_a]
  by_cases h : 97 ≤ c
  · have : ¬ ((⟨#[c]⟩ : Str).cps.toList < [97]) := fun z => by
      have := (one_lt c 97).mp z
      omega
    rw [decide_eq_false this, decide_eq_true h]
    rfl
  · have : ((⟨#[c]⟩ : Str).cps.toList < [97]) := (one_lt c 97).mpr (by omega)
    rw [decide_eq_true this, decide_eq_false h]
    rfl
theorem le_z (c : Nat) : (!decide (("z" : Str).cps.toList < (⟨#[c]⟩ : Str).cps.toList)) = decide (c ≤ 122) := by
  rw [cps_z]
  by_cases h : c ≤ 122
  · have : ¬ (([122] : List Nat) < (⟨#[c]⟩ : Str).cps.toList) := fun z => by
      have := (one_lt 122 c).mp z
      omega
    rw [decide_eq_false this, decide_eq_true h]
    rfl
  · have : (([122] : List Nat) < (⟨#[c]⟩ : Str).cps.toList) := (one_lt 122 c).mpr (by omega)
    rw [decide_eq_true this, decide_eq_false h]
    rfl
theorem gd_str {x : Str} (h : gd (.str x) = true) : x.length ≤ 100 := by
  simp only [gd, Bool.and_eq_true, decide_eq_true_eq] at h
  exact h.1
theorem len_cps (x : Str) : x.length = x.cps.size := rfl
theorem cps_at {x : Str} {i c : Nat} (h : x.cps[i]? = some c) : x.cps.toList[i]? = some c := by simpa using h
/-- what is found going along a list -/
theorem take_snoc {α β : Type} (f : α → β) {l : List α} {i : Nat} {a : α} (h : l[i]? = some a) : (l.take (i + 1)).map f = (l.take i).map f ++ [f a] := by
  rw [List.take_add_one, h, List.map_append]
  rfl
theorem all_map {α : Type} (f : α → Bool) : ∀ l : List α, (l.map f).all id = l.all f
  | [] => rfl
  | a :: l => by simp only [List.map_cons, List.all_cons, all_map f l, id]
/-! promises of those that only look -/
def spLook (K : PySem.W.Frag) (ok : PyData → Prop) (g : PyData → V) : Sp := fun vs H Q _ => ∃ v d, vs = [v] ∧ Dp K H v d ∧ ok d ∧ ∀ H', Same H H' → Q (g d) H'
theorem DpAll.unapp {K : PySem.W.Frag} {H : Hp} : ∀ {xs ys : List V} {ds : List PyData}, DpAll K H (xs ++ ys) ds → ∃ d1 d2, ds = d1 ++ d2 ∧ DpAll K H xs d1 ∧ DpAll K H ys d2
  | [], _, ds, h => ⟨[], ds, rfl, .nil, h⟩
  | x :: xs, _, _, h => by
    cases h with
    | cons h1 h2 =>
      obtain ⟨d1, d2, e, a, b⟩ := DpAll.unapp (xs := xs) h2
      exact ⟨_ :: d1, d2, by rw [e]; rfl, .cons h1 a, b⟩
theorem DpAll.last {K : PySem.W.Frag} {H : Hp} {xs : List V} {ds : List PyData} (h : DpAll K H xs ds) (hx : xs ≠ []) : ∃ xs' v ds' d, xs = xs' ++ [v] ∧ ds = ds' ++ [d] ∧ DpAll K H xs' ds' ∧ Dp K H v d := by
  have e := (List.dropLast_concat_getLast hx).symm
  rw [e] at h
  obtain ⟨d1, d2, e2, a, b⟩ := DpAll.unapp h
  cases b with
  | cons b1 b2 =>
    cases b2
    exact ⟨_, _, d1, _, e, e2, a, b1⟩
theorem last_at (xs : List V) (v : V) : (xs ++ [v])[(xs ++ [v]).length - 1]? = some v := by simp
theorem drop_last (xs : List V) (v : V) : (xs ++ [v]).dropLast = xs := by simp
theorem tup_of {K : PySem.W.Frag} {H : Hp} {v : V} {d : PyData} (h : Dp K H v d) (ht : isTup d = true) : ∃ a xs ds, v = .ref a ∧ d = .tuple ds ∧ SqT K H a xs ∧ DpAll K H xs ds := by
  cases h with
  | tup h1 h2 => exact ⟨_, _, _, rfl, rfl, h1, h2⟩
  | non => cases ht
  | bl b => cases ht
  | int i => cases ht
  | str x => cases ht
  | lst h1 h2 => cases ht
theorem isVal_no {d : PyData} (h1 : isTup d = false) : isVal d = (inD d || nmD d) := by
  cases d with
  | tuple ds => exact absurd (show true = false from h1) (by decide)
  | str x => simp only [isVal, inD, nmD, Bool.false_or]
  | int i => simp only [isVal, inD, nmD, Bool.true_or]
  | none => simp only [isVal, inD, nmD, Bool.or_self]
  | bool b => simp only [isVal, inD, nmD, Bool.or_self]
  | list b => simp only [isVal, inD, nmD, Bool.or_self]
  | dict b => simp only [isVal, inD, nmD, Bool.or_self]
/-- going along anything: what one turn does is B -/
theorem along {J : It} {n : Nat} {G : Hp → Prop} {Y : Nat → Hp → V → Hp → Prop} (w : Walk J n G Y) {B : (Hp → Prop) → V → Hp → Prop} {H0 : Hp} {Qd : Hp → Prop} (Pv : Nat → Hp → Prop) (h0 : Pv 0 H0) (hG : ∀ i H, i ≤ n → Pv i H → G H)
    (hs : ∀ i x H H', i < n → Pv i H → Y i H x H' → B (Pv (i + 1)) x H') (hd : ∀ H, Pv n H → Qd H) :
    ∃ W : Nat → Nat → Hp → Prop, (∃ m, W 0 m H0) ∧ ∀ i m H, W i m H → (J.stop i H ∧ Qd H) ∨ (J.go i H ∧ ∃ Nx : Hp → Prop, (∀ H', Nx H' → ∃ m', m' < m ∧ W (i + 1) m' H') ∧ ∀ x H', J.yld i H x H' → B Nx x H') := by
  refine ⟨fun i m H => i ≤ n ∧ m + i = n ∧ Pv i H, ⟨n, Nat.zero_le _, rfl, h0⟩, ?_⟩
  rintro i m H ⟨hi, hm, p⟩
  have gg := hG i H hi p
  by_cases lt : i < n
  · refine Or.inr ⟨w.goes i H lt gg, Pv (i + 1), ?_, ?_⟩
    · intro H' p'
      exact ⟨m - 1, by omega, by omega, by omega, p'⟩
    · intro x H' y
      exact hs i x H H' lt p (w.yields i H x H' lt gg y)
  · have e : i = n := by omega
    subst e
    exact Or.inl ⟨w.stops H gg, hd H p⟩
mutual
def dep : PyData → Nat
  | .tuple ds => 1 + deps ds
  | .none => 0
  | .bool _ => 0
  | .int _ => 0
  | .str _ => 0
  | .list _ => 0
  | .dict _ => 0
def deps : List PyData → Nat
  | [] => 0
  | d :: ds => max (dep d) (deps ds)
end
def kids : PyData → List PyData
  | .tuple ds => ds
  | _ => []
theorem deps_app : ∀ ds es : List PyData, deps (ds ++ es) = max (deps ds) (deps es)
  | [], es => by simp [deps]
  | d :: ds, es => by simp only [List.cons_append, deps, deps_app ds es, Nat.max_assoc]
theorem dep_no {d : PyData} (h : isTup d = false) : dep d = 0 := by
  cases d with
  | tuple ds => exact absurd (show true = false from h) (by decide)
  | str x => simp only [dep]
  | int i => simp only [dep]
  | none => simp only [dep]
  | bool b => simp only [dep]
  | list b => simp only [dep]
  | dict b => simp only [dep]
theorem deps_filter : ∀ ds : List PyData, deps (ds.filter isTup) = deps ds
  | [] => rfl
  | d :: ds => by
    cases h : isTup d with
    | true => simp only [List.filter_cons, h, if_true, deps, deps_filter ds]
    | false => simp only [List.filter_cons, h, Bool.false_eq_true, if_false, deps, deps_filter ds, dep_no h, Nat.zero_max]
theorem deps_kids : ∀ ds : List PyData, (∀ d ∈ ds, isTup d = true) → ds ≠ [] → deps ds = 1 + deps (ds.flatMap kids)
  | [], _, h => absurd rfl h
  | d :: ds, h, _ => by
    have hd := h d List.mem_cons_self
    have e1 : dep d = 1 + deps (kids d) := by
      cases d with
      | tuple es => simp only [dep, kids]
      | _ => cases hd
    rw [List.flatMap_cons, deps_app]
    simp only [deps]
    by_cases e : ds = []
    · subst e
      simp only [deps, List.flatMap_nil, e1]
      omega
    · have ih := deps_kids ds (fun x hx => h x (List.mem_cons_of_mem _ hx)) e
      rw [ih, e1]
      omega
theorem nods_kids : ∀ ds : List PyData, nods (ds.flatMap kids) ≤ nods ds
  | [] => Nat.le_refl _
  | d :: ds => by
    rw [List.flatMap_cons, nods_app]
    have ih := nods_kids ds
    have e : nods (kids d) ≤ nod d := by
      cases d <;> simp only [kids, nods, nod] <;> omega
    simp only [nods]
    omega
theorem nods_filter (p : PyData → Bool) : ∀ ds : List PyData, nods (ds.filter p) ≤ nods ds
  | [] => Nat.le_refl _
  | d :: ds => by
    have ih := nods_filter p ds
    have := nod_pos d
    cases h : p d with
    | true =>
      simp only [List.filter_cons, h, if_true, nods]
      omega
    | false =>
      simp only [List.filter_cons, h, Bool.false_eq_true, if_false, nods]
      omega
theorem nods_take (ds : List PyData) (i : Nat) : nods (ds.take i) ≤ nods ds := by
  have e := congrArg nods (List.take_append_drop i ds)
  rw [nods_app] at e
  omega
theorem get_take {α : Type} {l : List α} {i : Nat} {a : α} (h : l[i]? = some a) : l.take (i + 1) = l.take i ++ [a] := by
  rw [List.take_add_one, h]
  rfl
theorem call_isK {X : Cx} {K : PySem.W.Frag} (h : X.K = K) : CallR X (.builtin "isinstance") (rIsD K) := by
  subst h
  exact call_isD
theorem pi_tupK {X : Cx} {K : PySem.W.Frag} {tg l : Expr} {tl : TE} (h : X.K = K) (hl : PE X l tl) : PI X tg l (iTup K tl) := by
  subst h
  exact pi_tup hl
theorem pi_listK {X : Cx} {K : PySem.W.Frag} {tg l : Expr} {tl : TE} (h : X.K = K) (hl : PE X l tl) : PI X tg l (iList K tl) := by
  subst h
  exact pi_list hl
theorem b_ii : bootBuiltins "isinstance" = some (.builtin "isinstance") := by decide +kernel
theorem b_tup : bootBuiltins "tuple" = some (.type "tuple") := by decide +kernel
theorem b_all : bootBuiltins "all" = some (.builtin "all") := by decide +kernel
theorem b_str : bootBuiltins "str" = some (.type "str") := by decide +kernel
theorem b_int : bootBuiltins "int" = some (.type "int") := by decide +kernel
theorem b_bool : bootBuiltins "bool" = some (.type "bool") := by decide +kernel
theorem b_abs : bootBuiltins "abs" = some (.builtin "abs") := by decide +kernel
theorem b_rep : bootBuiltins "repr" = some (.builtin "repr") := by decide +kernel
theorem b_max : bootBuiltins "max" = some (.builtin "max") := by decide +kernel
theorem b_list : bootBuiltins "list" = some (.type "list") := by decide +kernel
/-! short texts of plain signs -/
structure Sm (n : Nat) (x : Str) : Prop where
  le : x.length ≤ n
  lo : ∀ c ∈ x.cps.toList, c < 128
theorem Sm.gd {n : Nat} {x : Str} (h : Sm n x) (hn : n ≤ 100) : Rl.gd (.str x) = true := by
  have h1 := h.le
  have h3 : x.length ≤ 100 := by omega
  have h2 : (x.cps.toList.all fun c => decide (c < 128)) = true := List.all_eq_true.mpr fun c hc => decide_eq_true (h.lo c hc)
  simp only [Rl.gd, decide_eq_true h3, h2, Bool.and_self]
theorem Sm.mono {n m : Nat} {x : Str} (h : Sm n x) (hn : n ≤ m) : Sm m x := ⟨Nat.le_trans h.le hn, h.lo⟩
theorem Sm.fits {n : Nat} {x : Str} (h : Sm n x) (hn : n ≤ 1000) : x.length ≤ sizeLine := Nat.le_trans h.le (Nat.le_of_lt (small1000 hn))
theorem app_cps (x y : Str) : (x ++ y).cps.toList = x.cps.toList ++ y.cps.toList := by
  show (x.cps ++ y.cps).toList = _
  simp
theorem Sm.app {n m : Nat} {x y : Str} (h : Sm n x) (g : Sm m y) : Sm (n + m) (x ++ y) := by
  refine ⟨?_, fun c hc => ?_⟩
  · rw [Str.length_append]
    have := h.le
    have := g.le
    omega
  · rw [app_cps] at hc
    rcases List.mem_append.mp hc with z | z
    · exact h.lo c z
    · exact g.lo c z
theorem Sm.cut {n : Nat} {x : Str} (h : Sm n x) (lo hi : Option Int) : Sm n (cutS x lo hi) := by
  refine ⟨Nat.le_trans (cutS_length x lo hi) h.le, fun c hc => h.lo c ?_⟩
  unfold cutS at hc
  exact List.mem_of_mem_drop (List.mem_of_mem_take (by simpa using hc))
theorem Sm.up {n : Nat} {x : Str} (h : Sm n x) : Sm n (Txt.upper x) := by
  rw [upper_ascii h.lo]
  refine ⟨?_, fun c hc => ?_⟩
  · have := h.le
    show (x.cps.map up1).size ≤ n
    rw [Array.size_map]
    exact this
  · rw [Array.toList_map] at hc
    obtain ⟨b, hb, rfl⟩ := List.mem_map.mp hc
    have := h.lo b hb
    unfold up1
    split <;> omega
theorem Sm.of {x : Str} {n : Nat} (h : (decide (x.length ≤ n) && x.cps.toList.all fun c => decide (c < 128)) = true) : Sm n x := by
  rw [Bool.and_eq_true] at h
  exact ⟨of_decide_eq_true h.1, fun c hc => of_decide_eq_true (List.all_eq_true.mp h.2 c hc)⟩
theorem Sm.join : ∀ (ys : List Str), (∀ y ∈ ys, Sm 1 y) → Sm ys.length (Txt.join "" ys) := by
  intro ys h
  rw [show Txt.join "" ys = Str.join "" ys from StrLaws.glued_eq_join "" ys]
  refine ⟨?_, fun c hc => ?_⟩
  · have q := StrLaws.join_length_le "" ys
    have e0 : (("" : Str)).length = 0 := by decide +kernel
    have s : (ys.map (·.length)).sum ≤ ys.length := by
      clear q
      induction ys with
      | nil => exact Nat.le_refl _
      | cons y r ih =>
        have h1 := (h y List.mem_cons_self).le
        have h2 := ih fun z hz => h z (List.mem_cons_of_mem _ hz)
        simp only [List.map_cons, List.sum_cons, List.length_cons]
        omega
    rw [e0] at q
    exact Nat.le_trans q (by simpa using s)
  · have q := (mem_join "" c ys).mp hc
    rcases q with ⟨t, ht, hc⟩ | ⟨_, hc⟩
    · exact (h t ht).lo c hc
    · have e0 : (("" : Str)).cps.toList = [] := by decide +kernel
      rw [e0] at hc
      cases hc
mutual
theorem gd_lay : ∀ d : PyData, gd d = true → d.canLay0 = true
  | .none, _ => by simp only [PyData.canLay0]
  | .bool _, _ => by simp only [PyData.canLay0]
  | .int _, _ => by simp only [PyData.canLay0]
  | .str x, h => by
    simp only [gd, Bool.and_eq_true, List.all_eq_true, decide_eq_true_eq] at h
    simp only [PyData.canLay0, PyData.strOk, Array.all_eq_true]
    intro i hi
    exact decide_eq_true (Nat.lt_trans (h.2 _ (by simp)) (by decide))
  | .list ds, h => by
    simp only [PyData.canLay0]
    exact gds_lay ds (by simpa only [gd] using h)
  | .tuple ds, h => by
    simp only [PyData.canLay0]
    exact gds_lay ds (by simpa only [gd] using h)
  | .dict _, h => by simp [gd] at h
theorem gds_lay : ∀ ds : List PyData, gds ds = true → PyData.canLayAll0 ds = true
  | [], _ => by simp only [PyData.canLayAll0]
  | d :: ds, h => by
    simp only [gds, Bool.and_eq_true] at h
    simp only [PyData.canLayAll0, gd_lay d h.1, gds_lay ds h.2, Bool.and_self]
end
theorem shaped_of {d : PyData} (h : gd d = true) (hd : d.depth ≤ 64) : SeqAt.shaped d = true := by
  show (d.canLay0 && decide (d.depth ≤ 64)) = true
  rw [gd_lay d h, decide_eq_true hd]
  rfl
theorem Box.notin {H : Hp} {p g a : Addr} (b : Box H p g) (h : H a = none) : a ∉ [p, g] := by
  obtain ⟨n, s, t, gs, h1, h2, _⟩ := b.ex
  intro z
  rcases List.mem_cons.mp z with e | z
  · rw [e, h1] at h
    cases h
  · rcases List.mem_cons.mp z with e | z
    · rw [e, h2] at h
      cases h
    · cases z
/-- all of these are tracked -/
def Tr (l : List Addr) (H : Hp) : Prop := ∀ b ∈ l, H b ≠ none
theorem off_new {l : List Addr} {H H' : Hp} {a : Addr} {o : HO} (h : Off l H H') (n : a ∉ l) (hn : H a = none) : Off l H (upd H' a o) := by
  intro b u e
  obtain ⟨nb, e⟩ := cut_some e
  rw [cut_out nb, upd_ne (ne_of_none e hn)]
  exact h.get e nb
theorem Box.put {H : Hp} {p g a : Addr} {o : HO} (b : Box H p g) (n : a ∉ [p, g]) : Box (upd H a o) p g := by
  obtain ⟨x, s, t, gs, h1, h2, h3⟩ := b.ex
  exact ⟨x, s, t, gs, by rw [upd_ne (fun z => n (by simp [← z]))]; exact h1, by rw [upd_ne (fun z => n (by simp [← z]))]; exact h2, h3⟩
theorem few {n : Nat} (h : n ≤ 1000) : n ≤ sizeLine := Nat.le_of_lt (small1000 h)
theorem cut_new {l : List Addr} {H : Hp} {a : Addr} {o : HO} (h : H a = none) : Same (cut l H) (cut l (upd H a o)) := Off.of (same_new h o)
theorem Tr.go {l m : List Addr} {H H' : Hp} (t : Tr l H) (o : Off m H H') (hm : ∀ b ∈ m, H' b ≠ none) : Tr l H' := fun b hb => by
  by_cases e : b ∈ m
  · exact hm b e
  · intro z
    exact t b hb (o.free z e)
theorem Box.tr {H : Hp} {p g : Addr} (b : Box H p g) : H p ≠ none ∧ H g ≠ none := by
  obtain ⟨x, s, t, gs, h1, h2, _⟩ := b.ex
  constructor
  · rw [h1]
    exact fun z => nomatch z
  · rw [h2]
    exact fun z => nomatch z
theorem ne_mem {l : List Addr} {a b : Addr} (n : a ∉ l) (h : b ∈ l) : b ≠ a := fun e => n (by rw [← e]; exact h)
theorem few2 {n : Nat} (h : n ≤ 100000) : n ≤ sizeLine := Nat.le_trans h (by decide)
theorem Tr.out {l : List Addr} {H : Hp} (t : Tr l H) {a : Addr} (h : H a = none) : a ∉ l := fun z => t a z h
theorem Tr.same {l : List Addr} {H H' : Hp} (t : Tr l H) (s : Same H H') : Tr l H' := fun b hb z => by
  cases q : H b with
  | none => exact t b hb q
  | some o =>
    rw [s b o q] at z
    cases z
theorem seqT_cut {K : PySem.W.Frag} {l : List Addr} {H : Hp} {a : Addr} {xs : List V} (h : SqT K (cut l H) a xs) : SqT K H a xs := seqT_up (cut_same l H) h
theorem cutV_all (xs : List V) (lo hi : Option Int) (h : HT.sIx xs.length 0 lo = 0 ∧ HT.sIx xs.length xs.length hi = xs.length) : cutV xs lo hi = xs := by
  unfold cutV
  rw [h.1, h.2]
  simp
/-- t + u, what comes of it, apart from the addresses l -/
def rCatU (K : PySem.W.Frag) : R2 := fun x y H Q => ∃ a b xs ys l, x = .ref a ∧ y = .ref b ∧ SqT K (cut l H) a xs ∧ SqT K (cut l H) b ys ∧ Tr l H ∧ xs.length + ys.length ≤ sizeLine ∧
  ∀ c H', Same H H' → SqT K (cut l H') c (xs ++ ys) → Q (.ref c) H'
theorem op_catU {X : Cx} : OpR X (binaryOp .Add) (rCatU X.K) := by
  intro pins s σ H x y v u Q I rx ry h
  obtain ⟨a, b, xs, ys, l, rfl, rfl, ha, hb, tl, hz, q⟩ := h
  refine op_catA pins s σ H _ _ v u Q I rx ry ⟨a, b, xs, ys, rfl, rfl, seqT_cut ha, seqT_cut hb, hz, ?_, ?_, ?_⟩
  · intro e
    exact q b H (Same.refl H) (by rw [e]; exact hb)
  · intro _ e
    exact q a H (Same.refl H) (by rw [e, List.append_nil]; exact ha)
  · intro _ _ c hc
    exact q c _ (same_new hc _) (.inl (.inl (by rw [cut_out (tl.out hc)]; exact upd_same)))
def rSlU (K : PySem.W.Frag) : V → Option Int → Option Int → Hp → VK → Prop := fun x lo hi H Q => ∃ a xs l, x = .ref a ∧ SqT K (cut l H) a xs ∧ Tr l H ∧
  ∀ c H', Same H H' → SqT K (cut l H') c (cutV xs lo hi) → Q (.ref c) H'
theorem sl_tupU {X : Cx} : SlR X (rSlU X.K) := by
  intro pins s σ H x v vl vu lo hi sl Q I rx hs pl pu h
  obtain ⟨a, xs, l, rfl, ha, tl, q⟩ := h
  refine sl_tupA pins s σ H _ v vl vu lo hi sl Q I rx hs pl pu ⟨a, xs, rfl, seqT_cut ha, ?_, ?_⟩
  · intro e
    exact q a H (Same.refl H) (by rw [cutV_all xs lo hi e]; exact ha)
  · intro _ c hc
    exact q c _ (same_new hc _) (.inl (.inl (by rw [cut_out (tl.out hc)]; exact upd_same)))
theorem cutV_take (xs : List V) {r : Int} (h0 : 0 ≤ r) (h : r ≤ (xs.length : Int)) : cutV xs none (some r) = xs.take r.toNat := by
  obtain ⟨n, rfl⟩ := Int.eq_ofNat_of_zero_le h0
  unfold cutV
  rw [HT.sIx_none, HT.sIx_nat]
  have : min n xs.length = n := by omega
  rw [this]
  rfl
theorem cutV_drop (xs : List V) {r : Int} (h0 : 0 ≤ r) (h : r ≤ (xs.length : Int)) : cutV xs (some r) none = xs.drop r.toNat := by
  obtain ⟨n, rfl⟩ := Int.eq_ofNat_of_zero_le h0
  unfold cutV
  rw [HT.sIx_none, HT.sIx_nat]
  have : min n xs.length = n := by omega
  rw [this]
  exact List.take_of_length_le (by rw [List.length_drop]; exact Nat.le_refl _)
/-! own classes: ==, !=, str, repr by the class's own defs -/
section
variable {X : Cx} {pins : List (Addr × Obj)} {σ : L2.St} {H : Hp} {s : Shared}
theorem run_at {A' : Around} {k : Nat} {f : Addr} {fd : FuncData} {ps : List Str} {sp : Sp} {us : List Value} {vs : List V} {Q : VK} {E' : Value → Shared → Prop}
    (F : FnOk X.prog X.w X.K X.mg X.base CX0 k f fd ps sp) (hr : Room k A') (ee : Env0 X.prog X.w X.K X.mg X.base A' X.stack s H) (hb : Binds X.K fd ps []) (I : Inv X pins σ H s) (r : Vals vs us) (h : sp vs H Q E0) :
    wpAny (model X.prog X.w) A' (call (.ref f) us) (EP X pins σ Q) E' s := by
  have hl : us.length = ps.length := r.length.symm.trans (F.len _ _ _ _ h)
  have bd := hb s us I.kIn (by rw [List.append_nil]; exact hl)
  rw [List.append_nil] at bd
  refine wpAny_call (codeAny_mono (F.run A' X.stack s H ⟨us, []⟩ us vs Q E0 hr ee bd r h) ?_)
  intro x t hq
  cases x with
  | error z => exact False.elim hq
  | ok fl =>
    cases fl with
    | ret u => exact I.after hq
    | next => exact False.elim hq
    | brk => exact False.elim hq
    | cont => exact False.elim hq
theorem dp_type {v : V} {d : PyData} {u : Value} (I : Inv X pins σ H s) (h : Dp X.K H v d) (r : RelV v u) : s.TypeIs u (tyN d) := by
  cases h with
  | non => cases r; rfl
  | bl b => cases r; rfl
  | int i => obtain ⟨t, rfl⟩ := r; rfl
  | str x => obtain ⟨t, rfl⟩ := r; rfl
  | lst h1 h2 =>
    cases r
    obtain ⟨its, _, ⟨o, n, ho, hc, _, _⟩, _⟩ := I.list h1
    exact ⟨o, ho, hc⟩
  | tup h1 h2 =>
    cases r
    obtain ⟨its, _, ⟨o, ho, hc, _⟩, _⟩ := I.tuple h1
    exact ⟨o, ho, hc⟩
theorem sub_looks {K : PySem.W.Frag} {h : Heap} {t c : Value} {b : Bool} (X : K.In h) (hk : PySem.W.kitOne K t c = some b) (hn : (t == c) = false) (M : Model) : PySem.W.Looks M h (isSubtype t c) b := by
  unfold PySem.W.kitOne at hk
  rw [hn] at hk
  exact (PySem.W.kit_cls X (by simpa using hk)).2.2
end
/-- what an own class says of its special names, and that built-in data are none of it -/
structure OwnC (K : PySem.W.Frag) (C fE : Addr) : Prop where
  c : C8.InsC K C
  eq : Meth K C "__eq__" fE
  ne : PySem.W.findIn K (.ref C) "__ne__" = some (some (.builtin "object.__ne__"))
  k1 : PySem.W.kitOne K (.type "NoneType") (.ref C) = some false
  k2 : PySem.W.kitOne K (.type "bool") (.ref C) = some false
  k3 : PySem.W.kitOne K (.type "int") (.ref C) = some false
  k4 : PySem.W.kitOne K (.type "str") (.ref C) = some false
  k5 : PySem.W.kitOne K (.type "list") (.ref C) = some false
  k6 : PySem.W.kitOne K (.type "tuple") (.ref C) = some false
  j1 : PySem.W.kitOne K (.ref C) (.type "NoneType") = some false
  j2 : PySem.W.kitOne K (.ref C) (.type "bool") = some false
  j3 : PySem.W.kitOne K (.ref C) (.type "int") = some false
  j4 : PySem.W.kitOne K (.ref C) (.type "str") = some false
  j5 : PySem.W.kitOne K (.ref C) (.type "list") = some false
  j6 : PySem.W.kitOne K (.ref C) (.type "tuple") = some false
theorem OwnC.of {K : PySem.W.Frag} {C fE : Addr} (o : OwnC K C fE) {H : Hp} {v : V} {d : PyData} (h : Dp K H v d) : PySem.W.kitOne K (.type (tyN d)) (.ref C) = some false ∧ PySem.W.kitOne K (.ref C) (.type (tyN d)) = some false := by
  cases h with
  | non => exact ⟨o.k1, o.j1⟩
  | bl b => exact ⟨o.k2, o.j2⟩
  | int i => exact ⟨o.k3, o.j3⟩
  | str x => exact ⟨o.k4, o.j4⟩
  | lst h1 h2 => exact ⟨o.k5, o.j5⟩
  | tup h1 h2 => exact ⟨o.k6, o.j6⟩
section
variable {X : Cx} {C fE : Addr} {k : Nat} {fd : FuncData} {sp : Sp}
theorem inst_at {pins : List (Addr × Obj)} {σ : L2.St} {H : Hp} {s : Shared} {a dx : Addr} {fs : List (Str × V)} (I : Inv X pins σ H s) (ha : H a = some (.ins C dx fs)) : ∃ ox od, PySem.W.InstAt s.heap a ox C od := by
  obtain ⟨mA, O, _⟩ := ins_get I.hok ha
  obtain ⟨od, J, _⟩ := O.look
  exact ⟨_, od, J⟩
/-- x == y, x of the class: its own __eq__ tells -/
def rEqL (C : Addr) (sp : Sp) (K : PySem.W.Frag) : R2 := fun x y H Q => ∃ a dx fs, x = .ref a ∧ H a = some (.ins C dx fs) ∧ ((∃ d, Dp K H y d) ∨ ∃ b dy gs, y = .ref b ∧ H b = some (.ins C dy gs)) ∧
  sp [x, y] H (fun v H' => ∃ b, v = .bl b ∧ Q (.bl b) H') E0
theorem op_eqL (O : OwnC X.K C fE) (F : FnOk X.prog X.w X.K X.mg X.base CX0 k fE fd ["self", "other"] sp) (hb : Binds X.K fd ["self", "other"] []) (hr : Room k X.A) : OpR X (compareOp .Eq) (rEqL C sp X.K) := by
  intro pins s σ H x y v u Q I rx ry h
  obtain ⟨a, dx, fs, rfl, ha, hy, q⟩ := h
  cases (show v = Value.ref a from rx)
  obtain ⟨ox, od, J⟩ := inst_at I ha
  have run := run_at (E' := X.xe) F hr I.env0 hb I (.cons rx (.cons ry .nil)) q
  have fin : wpAny (model X.prog X.w) X.A (tryCompare (.ref a) (Str.ofString "__eq__") u) (fun r t => ∃ b, r = some (Value.bool b) ∧ EP X pins σ Q (.bool b) t) X.xe s := by
    unfold tryCompare
    refine wpAny_bind (PySem.W.ifBound_K I.kIn J O.eq.at_ O.eq.fn (wpAny_mono run (fun r t hq => ?_) fun _ _ z => z))
    obtain ⟨v', H', I', rv, b, rfl, q'⟩ := hq
    cases (show r = Value.bool b from rv)
    exact wpAny_pure ⟨b, rfl, .bl b, H', I', rfl, q'⟩
  show wpAny _ _ (richCompare .Eq (.ref a) u) _ _ _
  unfold richCompare
  simp only [oneThing_ref]
  refine wpAny_holding ?_
  refine wpAny_bind (wpAny_cRoomFor hr.units0 ?_)
  refine wpAny_bind (J.type.here ?_)
  rcases hy with ⟨d, hd⟩ | ⟨b, dy, gs, rfl, hb2⟩
  · have ty := dp_type I hd ry
    have kk := O.of hd
    refine wpAny_bind (wpAny_typeOf ty ?_)
    have ne : (Value.ref C != Value.type (tyN d)) = true := rfl
    simp only [ne, if_true]
    refine wpAny_bind ((sub_looks I.kIn kk.1 rfl _).here ?_)
    simp only [Bool.false_eq_true, if_false]
    refine wpAny_bind (m := tryCompare (.ref a) (Str.ofString "__eq__") u) (wpAny_mono fin (fun r t hq => ?_) fun _ _ z => z)
    obtain ⟨b, rfl, hq⟩ := hq
    exact wpAny_pure hq
  · cases (show u = Value.ref b from ry)
    obtain ⟨oy, oe, J2⟩ := inst_at I hb2
    refine wpAny_bind (J2.type.here ?_)
    have ne : (Value.ref C != Value.ref C) = false := by simp
    simp only [ne, Bool.false_eq_true, if_false]
    refine wpAny_bind (wpAny_pure ?_)
    simp only [Bool.false_eq_true, if_false]
    refine wpAny_bind (m := tryCompare (.ref a) (Str.ofString "__eq__") (.ref b)) (wpAny_mono fin (fun r t hq => ?_) fun _ _ z => z)
    obtain ⟨b, rfl, hq⟩ := hq
    exact wpAny_pure hq
end
open AutoSeq1 (wpAny_loadPart')
/-! == of built-in data and an instance: the data decline -/
abbrev plainObj (C : Addr) (dd : Option Addr) (sl : Array (Option Value)) : Obj := { cls := .ref C, dict := dd, data := .plain, slots := sl }
theorem str_declines (b : Str) (u : Tok) (l C : Addr) (dd : Option Addr) (sl : Array (Option Value)) :
    Meets (Builtin.«str.__eq__» ⟨[.str b u, .ref l], []⟩) (fun _ R s => s.heap.get? l = some (plainObj C dd sl) ∧ R (.ok (.ret .notImplemented)) s) :=
  .of_wp fun prog w A R s h => by
    obtain ⟨hp, g, d, tk, os⟩ := s
    obtain ⟨hl, h⟩ := h
    wp_walk using wpAny_loadPart' hl, wpAny_load hl
    exact ⟨_, rfl, h⟩
theorem int_declines (b : Int) (u : Tok) (l C : Addr) (dd : Option Addr) (sl : Array (Option Value)) :
    Meets (Builtin.«int.__eq__» ⟨[.int b u, .ref l], []⟩) (fun _ R s => s.heap.get? l = some (plainObj C dd sl) ∧ R (.ok (.ret .notImplemented)) s) :=
  .of_wp fun prog w A R s h => by
    obtain ⟨hp, g, d, tk, os⟩ := s
    obtain ⟨hl, h⟩ := h
    wp_walk using wpAny_loadPart' hl, wpAny_load hl
    exact ⟨_, rfl, h⟩
theorem bool_declines (b : Bool) (l C : Addr) (dd : Option Addr) (sl : Array (Option Value)) :
    Meets (Builtin.«int.__eq__» ⟨[.bool b, .ref l], []⟩) (fun _ R s => s.heap.get? l = some (plainObj C dd sl) ∧ R (.ok (.ret .notImplemented)) s) :=
  .of_wp fun prog w A R s h => by
    obtain ⟨hp, g, d, tk, os⟩ := s
    obtain ⟨hl, h⟩ := h
    wp_walk using wpAny_loadPart' hl, wpAny_load hl
    exact ⟨_, rfl, h⟩
theorem sub_wp {M : Model} {A : Around} {E : Value → Shared → Prop} {s : Shared} {c t : Value} {b : Bool} {Q : Bool → Shared → Prop} (h : ∀ M, PySem.W.Looks M s.heap (isSubtype c t) b) (q : Q b s) : wpAny M A (isSubtype c t) Q E s := (h M).here q
theorem list_declines (a l C : Addr) (dd : Option Addr) (sl : Array (Option Value)) (o : Obj) :
    Meets (Builtin.«list.__eq__» ⟨[.ref a, .ref l], []⟩) (fun _ R s => s.heap.get? a = some o ∧ s.heap.get? l = some (plainObj C dd sl) ∧ (∀ M, PySem.W.Looks M s.heap (isSubtype (.ref C) (.type "list")) false) ∧ R (.ok (.ret .notImplemented)) s) :=
  .of_wp fun prog w A R s h => by
    obtain ⟨hp, g, d, tk, os⟩ := s
    obtain ⟨ha, hl, hs, h⟩ := h
    wp_walk using wpAny_loadPart' hl, wpAny_load hl, sub_wp hs
    exact ⟨_, rfl, h⟩
theorem tuple_declines (a l C : Addr) (dd : Option Addr) (sl : Array (Option Value)) (o : Obj) :
    Meets (Builtin.«tuple.__eq__» ⟨[.ref a, .ref l], []⟩) (fun _ R s => s.heap.get? a = some o ∧ s.heap.get? l = some (plainObj C dd sl) ∧ (∀ M, PySem.W.Looks M s.heap (isSubtype (.ref C) (.type "tuple")) false) ∧ R (.ok (.ret .notImplemented)) s) :=
  .of_wp fun prog w A R s h => by
    obtain ⟨hp, g, d, tk, os⟩ := s
    obtain ⟨ha, hl, hs, h⟩ := h
    wp_walk using wpAny_loadPart' hl, wpAny_load hl, sub_wp hs
    exact ⟨_, rfl, h⟩
section
variable {X : Cx} {C fE : Addr} {k : Nat} {fd : FuncData} {sp : Sp}
/-- the built-in type's own __eq__ declines -/
theorem data_declines {pins : List (Addr × Obj)} {σ : L2.St} {H : Hp} {s : Shared} {A : Around} {E : Value → Shared → Prop} {x : V} {d : PyData} {v : Value} {b dx : Addr} {fs : List (Str × V)} {Q : Option Value → Shared → Prop} (I : Inv X pins σ H s)
    (hs : ∀ M, PySem.W.Looks M s.heap (isSubtype (.ref C) (.type (tyN d))) false)
    (hd : Dp X.K H x d) (rx : RelV x v) (hb : H b = some (.ins C dx fs)) (q : Q none s) : wpAny (model X.prog X.w) A (tryCompare v (Str.ofString "__eq__") (.ref b)) Q E s := by
  obtain ⟨mA, O, _⟩ := ins_get I.hok hb
  have ob := O.obj
  cases hd with
  | non =>
    cases rx
    exact wpAny_tryCompare_declines (T := "NoneType") rfl F.slot_NoneType_eq (call_gives F.slot_NoneType_eq rfl F.entry_NoneType_eq (F.args_NoneType_eq_2 _ _) (SeqAt.NoneType___eq___none_ref_0 b) ⟨rfl, q⟩)
  | bl z =>
    cases rx
    exact wpAny_tryCompare_declines (T := "bool") rfl F.slot_bool_eq (call_meets F.slot_bool_eq rfl F.entry_int_eq (F.args_int_eq_2 _ _) (bool_declines z b C _ _) ⟨ob, ⟨rfl, q⟩⟩)
  | int i =>
    obtain ⟨t, rfl⟩ := rx
    exact wpAny_tryCompare_declines (T := "int") rfl F.slot_int_eq (call_meets F.slot_int_eq rfl F.entry_int_eq (F.args_int_eq_2 _ _) (int_declines i t b C _ _) ⟨ob, ⟨rfl, q⟩⟩)
  | str y =>
    obtain ⟨t, rfl⟩ := rx
    exact wpAny_tryCompare_declines (T := "str") rfl F.slot_str_eq (call_meets F.slot_str_eq rfl F.entry_str_eq (F.args_str_eq_2 _ _) (str_declines y t b C _ _) ⟨ob, ⟨rfl, q⟩⟩)
  | lst h1 h2 =>
    cases rx
    obtain ⟨its, _, ⟨o, n, ho, hc, _, _⟩, _⟩ := I.list h1
    exact wpAny_tryCompare_declines (T := "list") ⟨o, ho, hc⟩ F.slot_list_eq (call_meets F.slot_list_eq ⟨o, ho, hc⟩ F.entry_list_eq (F.args_list_eq_2 _ _) (list_declines _ b C _ _ o) ⟨ho, ob, hs, ⟨rfl, q⟩⟩)
  | tup h1 h2 =>
    cases rx
    obtain ⟨its, _, ⟨o, ho, hc, _⟩, _⟩ := I.tuple h1
    exact wpAny_tryCompare_declines (T := "tuple") ⟨o, ho, hc⟩ F.slot_tuple_eq (call_meets F.slot_tuple_eq ⟨o, ho, hc⟩ F.entry_tuple_eq (F.args_tuple_eq_2 _ _) (tuple_declines _ b C _ _ o) ⟨ho, ob, hs, ⟨rfl, q⟩⟩)
/-- x == y, y of the class, x built-in data: y's own __eq__ tells -/
def rEqR (C : Addr) (sp : Sp) (K : PySem.W.Frag) : R2 := fun x y H Q => ∃ b dy gs d, y = .ref b ∧ H b = some (.ins C dy gs) ∧ Dp K H x d ∧ sp [y, x] H (fun v H' => ∃ z, v = .bl z ∧ Q (.bl z) H') E0
theorem op_eqR (O : OwnC X.K C fE) (F : FnOk X.prog X.w X.K X.mg X.base CX0 k fE fd ["self", "other"] sp) (hb : Binds X.K fd ["self", "other"] []) (hr : Room k X.A) : OpR X (compareOp .Eq) (rEqR C sp X.K) := by
  intro pins s σ H x y v u Q I rx ry h
  obtain ⟨b, dy, gs, d, rfl, ha, hd, q⟩ := h
  cases (show u = Value.ref b from ry)
  obtain ⟨ox, od, J⟩ := inst_at I ha
  have run := run_at (E' := X.xe) F hr I.env0 hb I (.cons ry (.cons rx .nil)) q
  have ty := dp_type I hd rx
  have kk := O.of hd
  have sb := sub_looks I.kIn kk.2 rfl
  have fin : wpAny (model X.prog X.w) X.A (tryCompare (.ref b) (Str.ofString "__eq__") v) (fun r t => ∃ b, r = some (Value.bool b) ∧ EP X pins σ Q (.bool b) t) X.xe s := by
    unfold tryCompare
    refine wpAny_bind (PySem.W.ifBound_K I.kIn J O.eq.at_ O.eq.fn (wpAny_mono run (fun r t hq => ?_) fun _ _ z => z))
    obtain ⟨v', H', I', rv, b, rfl, q'⟩ := hq
    cases (show r = Value.bool b from rv)
    exact wpAny_pure ⟨b, rfl, .bl b, H', I', rfl, q'⟩
  show wpAny _ _ (richCompare .Eq v (.ref b)) _ _ _
  unfold richCompare
  simp only [ty.oneThing_none]
  refine wpAny_holding ?_
  refine wpAny_bind (wpAny_cRoomFor hr.units0 ?_)
  refine wpAny_bind (wpAny_typeOf ty ?_)
  refine wpAny_bind (J.type.here ?_)
  have ne : (Value.type (tyN d) != Value.ref C) = true := rfl
  simp only [ne, if_true]
  refine wpAny_bind ((sb _).here ?_)
  simp only [Bool.false_eq_true, if_false]
  refine wpAny_bind (m := tryCompare v (Str.ofString "__eq__") (.ref b)) (data_declines I sb hd rx ha ?_)
  simp only [Bool.not_false, if_true]
  refine wpAny_bind (m := tryCompare (.ref b) (Str.ofString "__eq__") v) (wpAny_mono fin (fun r t hq => ?_) fun _ _ z => z)
  obtain ⟨z, rfl, hq⟩ := hq
  exact wpAny_pure hq
theorem ifBound_b {M : Model} {A : Around} {E : Value → Shared → Prop} {s : Shared} {K : PySem.W.Frag} {x C : Addr} {ox : Obj} {od : Option Obj} {name : Str} {id : String} {args : List Value} {Q : Option Value → Shared → Prop} (X : K.In s.heap) (I : PySem.W.InstAt s.heap x ox C od)
    (hs : PySem.W.findIn K (.ref C) name = some (some (.builtin id))) (hb : ∀ self, bindSpecial (.builtin id) self = pure (.builtin id, [self])) (h : wpAny M A (call (.builtin id) (.ref x :: args)) (fun v => Q (some v)) E s) :
    wpAny M A (callSpecialIfBound? (.ref x) name args) Q E s := by
  simp only [callSpecialIfBound?, bindSpecialIfBound?]
  refine wpAny_holding (wpAny_bind (wpAny_bind (wpAny_bind (I.type.here ((PySem.W.looks_findIn X hs).here ?_)))))
  refine wpAny_bind (wpAny_askSetting (wpAny_ite ?_))
  have fin : wpAny M A (call (.builtin id) ([.ref x] ++ args) >>= fun v => pure (some v)) Q E s := wpAny_bind (wpAny_mono h (fun _ _ z => wpAny_pure z) fun _ _ z => z)
  split
  · exact wpAny_bind ((PySem.W.Looks.of_pure (hb _)).here (wpAny_pure (by exact fin)))
  · exact wpAny_tryCatch (wpAny_bind ((PySem.W.Looks.of_pure (hb _)).here (wpAny_pure (by exact fin))))
/-- x != y, x of the class (which has no own __ne__): not what its own __eq__ tells -/
def rNeL (C : Addr) (sp : Sp) (K : PySem.W.Frag) : R2 := fun x y H Q => ∃ a dx fs, x = .ref a ∧ H a = some (.ins C dx fs) ∧ ((∃ d, Dp K H y d) ∨ ∃ b dy gs, y = .ref b ∧ H b = some (.ins C dy gs)) ∧
  sp [x, y] H (fun v H' => ∃ b, v = .bl b ∧ Q (.bl (!b)) H') E0
theorem op_neL (O : OwnC X.K C fE) (F : FnOk X.prog X.w X.K X.mg X.base CX0 k fE fd ["self", "other"] sp) (hb : Binds X.K fd ["self", "other"] []) (hr : Room (k + 1) X.A) : OpR X (compareOp .NotEq) (rNeL C sp X.K) := by
  intro pins s σ H x y v u Q I rx ry h
  obtain ⟨a, dx, fs, rfl, ha, hy, q⟩ := h
  cases (show v = Value.ref a from rx)
  obtain ⟨ox, od, J⟩ := inst_at I ha
  have run := run_at (E' := X.xe) F hr.in1 I.env0.in1 hb I (.cons rx (.cons ry .nil)) q
  have body : wpAny (model X.prog X.w) X.A (call (.builtin "object.__ne__") [.ref a, u]) (fun v t => ∃ b, v = Value.bool b ∧ EP X pins σ Q (.bool b) t) X.xe s := by
    refine wpAny_call (codeAny_call_builtin PySem.F.slot_object_ne.plain PySem.F.entry_object_ne (PySem.W.check_slot (i := "object.__ne__") (owner := "object") (n := "__ne__") (by decide +kernel) (by decide +kernel) (J.type.andThen (PySem.W.looks_mroIn I.kIn O.c.hm)) (PySem.F.args_object_ne_2 _ _) ?_))
    unfold Builtin.«object.__ne__»
    refine wpAny_bind (m := slotArgs "__ne__" 1 _) (wpAny_pure ?_)
    refine wpAny_bind (m := cRoomFor _ _) (wpAny_cRoomFor (by have := hr.units; show X.A.units + 1 < cLine; omega) ?_)
    refine wpAny_bind (m := callSpecialIfBound? (.ref a) (Str.ofString "__eq__") [u]) (PySem.W.ifBound_K I.kIn J O.eq.at_ O.eq.fn (wpAny_mono run (fun r t hq => ?_) fun _ _ z => z))
    obtain ⟨v', H', I', rv, b, rfl, q'⟩ := hq
    cases (show r = Value.bool b from rv)
    refine wpAny_bind (m := truthy (.bool b)) (wpAny_truthy_bool ?_)
    exact wpAny_pure ⟨!b, rfl, .bl (!b), H', I', rfl, q'⟩
  have fin : wpAny (model X.prog X.w) X.A (tryCompare (.ref a) (Str.ofString "__ne__") u) (fun r t => ∃ b, r = some (Value.bool b) ∧ EP X pins σ Q (.bool b) t) X.xe s := by
    unfold tryCompare
    refine wpAny_bind (ifBound_b I.kIn J O.ne PySem.F.slot_object_ne.bind (wpAny_mono body (fun r t hq => ?_) fun _ _ z => z))
    obtain ⟨b, rfl, hq⟩ := hq
    exact wpAny_pure ⟨b, rfl, hq⟩
  show wpAny _ _ (richCompare .NotEq (.ref a) u) _ _ _
  unfold richCompare
  simp only [oneThing_ref]
  refine wpAny_holding ?_
  refine wpAny_bind (wpAny_cRoomFor hr.units0 ?_)
  refine wpAny_bind (J.type.here ?_)
  rcases hy with ⟨d, hd⟩ | ⟨b, dy, gs, rfl, hb2⟩
  · have ty := dp_type I hd ry
    have kk := O.of hd
    refine wpAny_bind (wpAny_typeOf ty ?_)
    have ne : (Value.ref C != Value.type (tyN d)) = true := rfl
    simp only [ne, if_true]
    refine wpAny_bind ((sub_looks I.kIn kk.1 rfl _).here ?_)
    simp only [Bool.false_eq_true, if_false]
    refine wpAny_bind (m := tryCompare (.ref a) (Str.ofString "__ne__") u) (wpAny_mono fin (fun r t hq => ?_) fun _ _ z => z)
    obtain ⟨b, rfl, hq⟩ := hq
    exact wpAny_pure hq
  · cases (show u = Value.ref b from ry)
    obtain ⟨oy, oe, J2⟩ := inst_at I hb2
    refine wpAny_bind (J2.type.here ?_)
    have ne : (Value.ref C != Value.ref C) = false := by simp
    simp only [ne, Bool.false_eq_true, if_false]
    refine wpAny_bind (wpAny_pure ?_)
    simp only [Bool.false_eq_true, if_false]
    refine wpAny_bind (m := tryCompare (.ref a) (Str.ofString "__ne__") (.ref b)) (wpAny_mono fin (fun r t hq => ?_) fun _ _ z => z)
    obtain ⟨b, rfl, hq⟩ := hq
    exact wpAny_pure hq
/-- repr(x), x of a class with its own __repr__ -/
def rRepO (C : Addr) (sp : Sp) : List V → Hp → VK → Prop := fun xs H Q => ∃ a dx fs, xs = [.ref a] ∧ H a = some (.ins C dx fs) ∧ sp [.ref a] H (fun v H' => ∃ y, v = .str y ∧ Q (.str y) H') E0
theorem call_repO {fR : Addr} (m : Meth X.K C "__repr__" fR) (F : FnOk X.prog X.w X.K X.mg X.base CX0 k fR fd ["self"] sp) (hb : Binds X.K fd ["self"] []) (hr : Room (k + 1) X.A) : CallR X (.builtin "repr") (rRepO C sp) := by
  intro pins s σ H xs us Q I r h
  obtain ⟨a, dx, fs, rfl, ha, q⟩ := h
  obtain ⟨u, rfl, ru⟩ := vals1 r
  cases (show u = Value.ref a from ru)
  obtain ⟨ox, od, J⟩ := inst_at I ha
  have run := run_at (E' := X.xe) F hr.in1 I.env0.in1 hb I (.cons ru .nil) q
  refine Calls.call_function_entry PySem.F.kind_repr PySem.F.plain_repr PySem.F.entry_repr (PySem.F.args_repr1 _) ?_
  unfold Builtin.«repr»
  refine wpAny_bind (m := oneArg "repr" _) (wpAny_pure ?_)
  refine wpAny_bind (wpAny_cRoomFor (by have := hr.units; show X.A.units + 1 < cLine; omega) ?_)
  refine wpAny_bind (m := specialOf (.ref a) (Str.ofString "__repr__")) (wpAny_bind (J.type.here ((PySem.W.looks_findIn I.kIn m.at_).here ?_)))
  show wpAny _ _ (if (some (Value.ref fR)).isNone = true then _ else _) _ _ _
  rw [if_neg (by simp)]
  refine wpAny_bind (m := callSpecialIfBound? (.ref a) (Str.ofString "__repr__") _) (PySem.W.ifBound_K I.kIn J m.at_ m.fn (wpAny_mono run (fun r t hq => ?_) fun _ _ z => z))
  obtain ⟨v', H', I', rv, y, rfl, q'⟩ := hq
  obtain ⟨tk, rfl⟩ := (show ∃ t, r = Value.str y t from rv)
  refine wpAny_bind (wpAny_isInstance (typeIs_str _ _ _) isSubtype_str_str ?_)
  have fin : EP X pins σ Q (.str y tk) t := ⟨.str y, H', I', ⟨tk, rfl⟩, q'⟩
  first
    | exact wpAny_pure ⟨_, rfl, fin⟩
    | (rw [if_pos rfl]; exact wpAny_pure ⟨_, rfl, fin⟩)
    | (simp only [if_true]; exact wpAny_pure ⟨_, rfl, fin⟩)
    | (simp only [if_true]; exact wpAny_pure fin)
/-- str(x), x of a class with its own __str__ -/
theorem call_strO {fS : Addr} (m : Meth X.K C "__str__" fS) (F : FnOk X.prog X.w X.K X.mg X.base CX0 k fS fd ["self"] sp) (hb : Binds X.K fd ["self"] []) (hr : Room (k + 2) X.A) : CallR X (.type "str") (rRepO C sp) := by
  intro pins s σ H xs us Q I r h
  obtain ⟨a, dx, fs, rfl, ha, q⟩ := h
  obtain ⟨u, rfl, ru⟩ := vals1 r
  cases (show u = Value.ref a from ru)
  obtain ⟨ox, od, J⟩ := inst_at I ha
  have run := run_at (A' := X.A.in1.in1) (E' := X.xe) F hr.in1.in1 I.env0.in1.in1 hb I (.cons ru .nil) q
  have un := hr.units
  refine callType_codes (T := "str") (Bi := Builtin.«object.__init__») (Q₁ := fun r s₁ => ∃ y u, r = .str y u ∧ EP X pins σ Q r s₁) PySem.F.called_str (PySem.F.typeCall_str_1 _) PySem.F.entry_object_init ?_ ?_
  · refine codeAny_of_tree ?_
    show wpAny _ X.A.in1.in1 (do checkBuiltinCall "str.__new__" ⟨[.type "str", .ref a], []⟩; again (.builtin "str.__new__" ⟨[.type "str", .ref a], []⟩)) _ _ s
    refine wpAny_bind (wpAny_of_eq (PySem.F.newCall_str_1 _) (wpAny_pure ⟨plainId_quiet (by decide +kernel) _, codeAny_builtin PySem.F.entry_str_new ?_⟩))
    rw [Around.under_plainId (by decide +kernel) _]
    rw [str_new_tree]
    refine wpAny_bind (wpAny_pure ?_)
    refine wpAny_bind (wpAny_of_eq isSubtype_str_str ?_)
    have key : wpAny (model X.prog X.w) X.A.in1.in1 (PySem.Builtin.Str.strOf (.ref a)) (fun r s₁ => ∃ y u, r = .str y u ∧ EP X pins σ Q r s₁) X.xe s := by
      unfold PySem.Builtin.Str.strOf
      rw [show Builtin.Str.isExactStr (.ref a) = false from rfl]
      refine wpAny_bind (m := cRoomFor _ _) (wpAny_cRoomFor (by show X.A.units + 1 + 1 < cLine; omega) ?_)
      refine wpAny_bind (m := callSpecial? (.ref a) (Str.ofString "__str__")) (PySem.W.special_fn I.kIn J m.at_ (beq_iff_eq.mp m.fn) (wpAny_mono run (fun r t hq => ?_) fun _ _ z => z))
      obtain ⟨v', H', I', rv, y, rfl, q'⟩ := hq
      obtain ⟨tk, rfl⟩ := (show ∃ t, r = Value.str y t from rv)
      exact wpAny_pure ⟨_, _, rfl, .str y, H', I', ⟨tk, rfl⟩, q'⟩
    exact wpAny_bind (wpAny_mono key (fun r s₁ hr => wpAny_pure hr) fun _ _ y => y)
  · rintro obj s₁ ⟨y, u, rfl, hq⟩
    exact ⟨typeIs_str _ _ _, PySem.F.args_object_init_2 _ _, object_init_meets PySem.F.called_str.init.lookup PySem.F.called_str.made (by decide) X.prog X.w X.A.in1 _ s₁ ⟨typeIs_str _ _ _, rfl, hq⟩⟩
end
/-! own classes: &, |, -, in, bool by the class's own defs -/
section
variable {X : Cx} {C f : Addr} {k : Nat} {fd : FuncData} {ps : List Str} {sp : Sp} {nm : Str}
/-- x op y, both of the class -/
def rBinO (C : Addr) (sp : Sp) : R2 := fun x y H Q => ∃ a dx fs b dy gs, x = .ref a ∧ y = .ref b ∧ H a = some (.ins C dx fs) ∧ H b = some (.ins C dy gs) ∧ sp [x, y] H (fun v H' => (∃ c, v = .ref c) ∧ Q v H') E0
theorem op_binO {op : Operator} (hd : PySem.dunder op.info.2 = nm) (hc : PySem.W.selfFirst X.K C = true) (M : Meth X.K C nm f) (F : FnOk X.prog X.w X.K X.mg X.base CX0 k f fd ps sp) (hb : Binds X.K fd ps []) (hr : Room k X.A) : OpR X (binaryOp op) (rBinO C sp) := by
  intro pins s σ H x y v u Q I rx ry h
  obtain ⟨a, dx, fs, b, dy, gs, rfl, rfl, ha, hb2, q⟩ := h
  cases (show v = Value.ref a from rx)
  cases (show u = Value.ref b from ry)
  obtain ⟨ox, od, J⟩ := inst_at I ha
  obtain ⟨oy, oe, J2⟩ := inst_at I hb2
  obtain ⟨m, fr⟩ := I.fr
  refine PySem.W.binop_K fr I.ok.mod.kin J J2.type hc (by rw [hd]; exact M.at_) M.fn (wpAny_mono (run_at (E' := X.xe) F hr I.env0 hb I (.cons rx (.cons ry .nil)) q) (fun r t hq => ?_) fun _ _ z => z)
  obtain ⟨v', H', I', rv, ⟨c, rfl⟩, q'⟩ := hq
  cases (show r = Value.ref c from rv)
  exact ⟨.ref c, H', I', rfl, q'⟩
/-- x in y, y of the class -/
def rInO (C : Addr) (sp : Sp) : R2 := fun x y H Q => ∃ b dy gs, y = .ref b ∧ H b = some (.ins C dy gs) ∧ sp [y, x] H (fun v H' => ∃ c, v = .bl c ∧ Q (.bl c) H') E0
theorem op_inO (M : Meth X.K C "__contains__" f) (F : FnOk X.prog X.w X.K X.mg X.base CX0 k f fd ps sp) (hb : Binds X.K fd ps []) (hr : Room k X.A) : OpR X (compareOp .In) (rInO C sp) := by
  intro pins s σ H x y v u Q I rx ry h
  obtain ⟨b, dy, gs, rfl, hb2, q⟩ := h
  cases (show u = Value.ref b from ry)
  obtain ⟨oy, oe, J2⟩ := inst_at I hb2
  obtain ⟨m, fr⟩ := I.fr
  refine PySem.W.in_K fr I.ok.mod.kin J2 M.at_ M.fn (wpAny_mono (run_at (E' := X.xe) F hr I.env0 hb I (.cons ry (.cons rx .nil)) q) (fun r t hq => ?_) fun _ _ z => z)
  obtain ⟨v', H', I', rv, c, rfl, q'⟩ := hq
  cases (show r = Value.bool c from rv)
  exact wpAny_truthy_bool ⟨.bl c, H', I', rfl, q'⟩
theorem meets_boolT {prog : Program} {w : World} (x : Value) : MeetsIn prog w (Builtin.«bool.__new__» ⟨[.type "bool", x], []⟩)
    (fun A R s => wpAny (model prog w) A.in1 (truthy x) (fun b s' => ∀ tk, R (.ok (.ret (.bool b))) { s' with toks := tk }) (fun e s' => R (.error e) s') s) := fun A R s h => by
  have f1 := F.conv_sub_bool
  obtain ⟨hp, g, d, tk, os⟩ := s
  unfold Builtin.«bool.__new__»
  repeat (any_goals (first | assumption | wp_step))
  show wpAny _ _ (truthy x) _ _ _
  refine wpAny_mono h (fun b s' hq => ?_) fun _ _ z => z
  obtain ⟨hp', g', d', tk', os'⟩ := s'
  repeat (any_goals (first | assumption | wp_step))
  exact hq _
theorem call_boolT {x : Value} {prog : Program} {w : World} {A : Around} {E : Value → Shared → Prop} {s : Shared} {Q : Value → Shared → Prop} (h : wpAny (model prog w) A.in1.in1 (truthy x) (fun b s' => ∀ tk, Q (.bool b) { s' with toks := tk }) E s) : wpAny (model prog w) A (call (.type "bool") [x]) Q E s := by
  refine callType_newIn F.called_bool F.newNe_bool (F.typeCall_bool_1 x) (F.newCall_bool_1 x) (fun obj => F.args_object_init_2 obj x) F.entry_bool_new (meets_boolT x) ?_
  exact wpAny_mono h (fun b s' hq tk => ⟨rfl, hq tk⟩) fun _ _ z => z
/-- bool(x), x of the class -/
def rBoolO (C : Addr) (sp : Sp) : List V → Hp → VK → Prop := fun xs H Q => ∃ a dx fs, xs = [.ref a] ∧ H a = some (.ins C dx fs) ∧ sp [.ref a] H (fun v H' => ∃ c, v = .bl c ∧ Q (.bl c) H') E0
theorem call_boolO (M : Meth X.K C "__bool__" f) (F : FnOk X.prog X.w X.K X.mg X.base CX0 k f fd ps sp) (hb : Binds X.K fd ps []) (hr : Room (k + 2) X.A) : CallR X (.type "bool") (rBoolO C sp) := by
  intro pins s σ H xs us Q I r h
  obtain ⟨a, dx, fs, rfl, ha, q⟩ := h
  obtain rfl := Vals.ref1 r
  obtain ⟨ox, od, J⟩ := inst_at I ha
  obtain ⟨m, fr⟩ := I.fr
  refine call_boolT (PySem.W.truthy_K fr I.ok.mod.kin J M.at_ M.fn (wpAny_mono (run_at (E' := X.xe) F hr.in1.in1 I.env0.in1.in1 hb I r q) (fun r t hq => ?_) fun _ _ z => z))
  obtain ⟨v', H', I', rv, c, rfl, q'⟩ := hq
  cases (show r = Value.bool c from rv)
  exact fun tk => ⟨.bl c, H', I'.tok _, rfl, q'⟩
/-- bool(a tuple) -/
theorem call_boolTu : CallR X (.type "bool") (fun xs H Q => ∃ a zs, xs = [.ref a] ∧ SqT X.K H a zs ∧ Q (.bl (!zs.isEmpty)) H) := by
  intro pins s σ H xs us Q I r h
  obtain ⟨a, zs, rfl, hq, q⟩ := h
  obtain rfl := Vals.ref1 r
  obtain ⟨its, rv, pl, hz⟩ := I.tuple hq
  have hlen := rv.length
  have hl := line63
  exact call_boolT (truthy_tuple pl (by simp only [List.size_toArray]; omega) fun tk => ⟨.bl (!zs.isEmpty), H, I.tok _, by rw [isEmpty_of rv]; rfl, q⟩)
end
/-! a classmethod without arguments -/
section
variable {X : Cx} {CX : CXT} {k : Nat} {C p g : Addr} {mc : Value} {sp : Sp} {E : XK} {o : Expr} {m : Str} {pos apos : Pos} {ta : TE} {pl : Sem Bool}
theorem pe_cmeth0 (he : PE X o ta) (r : ClX.CRead X.K C mc) (c : ClX.CMet X.K C mc m p g) (F : FnR X.prog X.w X.K X.mg X.base CX k g sp) (hr : Room k X.A) (hx : Passes CX X E)
    (ht : eval (.Call (.Attribute o m apos) [] [] pos) X.env = (do
      let ov ← eval o X.env
      standAt apos.atName
      let (f, first) ← holding [ov] (getMethod ov m pl)
      callWith pos f first (backTo pos (starEach [] X.env)) (backToKw pos (keywordEach [] X.env))) := by rfl) : PE X (.Call (.Attribute o m apos) [] [] pos) (ClX.tCMeth C sp E ta tNil) := by
  refine ⟨fun pins s σ H Q I h => ?_⟩
  refine PySem.W.methodCall_KW (pl := pl) (thn (he.run pins s σ H _ I h) fun u s1 ⟨x, H1, I1, rx, ex, q⟩ => ?_) ht
  subst ex
  obtain rfl : u = Value.ref C := rx
  refine ClX.getmethcm_ok I1 r c fun s2 I2 => ?_
  refine PySem.W.callWith_M0 (K := X.K) ⟨ClX.pin_at I2, I2.kIn⟩ c.fi ?_
  exact ClX.run_cm F hr hx I2 .nil q
end
/-! set(list of ints), sorted(tuple of ints) -/
/-- the set that set() starts with -/
abbrev st0 (w : World) : Obj := { cls := .type "set", dict := none, data := .set #[] 0 (.fresh 0 0 (!w.params.followText "set-order")) }
section
variable {P : Program} {w : World} {A : Around} {E : Value → Shared → Prop} {s : Shared}
theorem set_ofL {l : Addr} {items : Array Value} (ns : List Int) {Q : Value → Shared → Prop} (hh : A.handled = none) (hl : s.heap.IsList l items) (hit : IntsAre items.toList ns) (hb : ns.length + 1 < scanBound)
    (h : ∀ (h' : Heap) (tk c : Nat), SetR w h' s.heap.objs.size (fun j => decide (j ∈ ns)) c → c ≤ ns.length → (∀ b o, s.heap.get? b = some o → h'.get? b = some o) → Q (.ref s.heap.objs.size) { s with heap := h', toks := tk }) :
    wpAny (model P w) A (call (.type "set") [.ref l]) Q E s := by
  have hisz : items.size = ns.length := Array.length_toList.symm.trans (IntsAre.length hit)
  have FS := F.called_set
  obtain ⟨c, tl, hmro⟩ := FS.mro
  have hmade := FS.made
  have hsub := FS.sub
  have h1 := FS.notType
  have h2 := FS.canCreate
  have hct := F.typeCall_set_1 (Value.ref l)
  refine wpAny_call (codeAny_of_tree ?_)
  show wpAny _ _ (callAny (Value.type "set") _) _ _ _
  refine wpAny_pure ⟨Code.quiet_builtin _ (by decide +kernel), (codeAny_builtin F.entry_type_call ?_)⟩
  rw [Around.under_plain (weight_type_call_type "set" [Value.ref l] []) rfl]
  repeat (any_goals (first | assumption | wp_step))
  refine codeAny_mono (code_set_led1 (.ref l) (E := E) (Q₁ := fun obj s₁ => obj = .ref s.heap.objs.size ∧ s₁ = { s with heap := s.heap.push (st0 w) }) ⟨rfl, rfl⟩) fun r s₁ hr => ?_
  cases r with
  | error e => exact hr
  | ok fl =>
    cases fl with
    | ret obj =>
      obtain ⟨rfl, rfl⟩ := hr
      have hS : (s.heap.push (st0 w)).get? s.heap.objs.size = some (st0 w) := Heap.get?_push_size _ rfl
      have hT : Shared.TypeIs { s with heap := s.heap.push (st0 w) } (.ref s.heap.objs.size) "set" := ⟨_, hS, rfl⟩
      have hli := FS.init.lookup
      have hbi := FS.init.bind (Value.ref s.heap.objs.size)
      repeat (any_goals (first | assumption | wp_step))
      refine codeAny_mono (codeAny_call_builtin (R := wants (fun r s₂ => r = .none ∧ ∃ h' tk c, s₂ = { s with heap := h', toks := tk } ∧ SetR w h' s.heap.objs.size (fun j => decide (j ∈ ns)) c ∧ c ≤ ns.length ∧ (∀ b o, s.heap.get? b = some o → h'.get? b = some o)) E) FS.init.plain F.entry_set_init (check_set_init_1 hT ?_)) fun r₂ s₂ hr₂ => ?_
      · obtain ⟨⟨ocls, odict, odata, oslots⟩, hol, hcl, nl, hdl⟩ := hl
        dsimp only at hcl hdl
        subst hcl hdl
        have hol' : (s.heap.push (st0 w)).get? l = some { cls := .type "list", dict := odict, data := .seq items nl, slots := oslots } := Heap.get?_push_of_some _ hol
        have hsls := F.sub_list_set
        have hslf := F.sub_list_frozenset
        have hne : (Value.type "list" == Value.type "dict") = false := by decide
        have hl1 : (s.heap.push (st0 w)).IsList l items := ⟨_, hol', rfl, nl, rfl⟩
        have hl0 : s.heap.IsList l items := ⟨_, hol, rfl, nl, rfl⟩
        unfold Builtin.«set.__init__» noKeywords Builtin.Frozenset.updateFrom
        generalize hPI : pyIter = PI
        wp_walk
        subst hPI
        refine wpAny_pyIter_list hl1 ?_
        refine wpAny_bind (wpAny_runValue ?_)
        have hlS : l < s.heap.objs.size := Heap.lt_size hol
        have hh3 : A.in1.in1.in1.handled = none := by simp [hh]
        have hz1 : (s.heap.push (st0 w)).objs.size = s.heap.objs.size + 1 := Heap.size_push ..
        have hneI : l ≠ (s.heap.push (st0 w)).objs.size := by (rw [hz1]; exact Nat.ne_of_lt (Nat.lt_succ_of_lt hlS))
        have hSf : s.heap.objs.size ∉ [(s.heap.push (st0 w)).objs.size, l] := by
          rw [hz1]
          simp only [List.mem_cons, List.not_mem_nil, or_false, not_or]
          exact ⟨Nat.ne_of_lt (Nat.lt_succ_self _), Nat.ne_of_gt hlS⟩
        have hval : ∀ (i : Nat) (v : Value), items[i]? = some v → ∃ k t, ns[i]? = some k ∧ v = .int k t := fun i v hv => by
          have hi : i < ns.length := by (rw [← hisz]; exact (Array.getElem?_eq_some_iff.mp hv).1)
          obtain ⟨t, e⟩ := IntsAre.int_at hit i v (by (rw [Array.getElem?_toList]; exact hv))
          refine ⟨ns[i], t, List.getElem?_eq_getElem hi, e.trans ?_⟩
          rw [List.getD_eq_getElem?_getD, List.getElem?_eq_getElem hi] <;> rfl
        refine set_update_ints ((Walks.list hh3 _ l hneI items).toS) s.heap.objs.size hSf ns hisz hb hval (items.size - 0) 0 _ (by omega) (Nat.zero_le _) ⟨⟨_, Heap.get?_push_size _ rfl, rfl, rfl⟩, (hl1.push _)⟩ ?hS0 ?hR
        case hS0 => exact ⟨0, Nat.le_refl 0, setR_new_at (Heap.get?_push_of_some _ hS)⟩
        case hR =>
          intro s' c' hm hc' hS'
          obtain ⟨h', g2, d', tk', os'⟩ := s'
          obtain rfl : g2 = s.gens := hm.gens
          obtain rfl : d' = s.drawn := hm.drawn
          obtain rfl : os' = s.os := hm.os
          show wpAny _ _ _ _ _ _
          refine wpAny_pure ?_
          show wpAny _ _ (ret Value.none) _ _ _
          refine wpAny_pure ⟨rfl, h', tk', c', rfl, hS', hisz ▸ hc', fun b o e => ?_⟩
          have hb0 : b < s.heap.objs.size := Heap.lt_size e
          refine hm.heap b o ?_ (Heap.get?_push_of_some _ (Heap.get?_push_of_some _ e))
          rw [hz1]
          simp only [List.mem_cons, List.not_mem_nil, or_false, not_or]
          exact ⟨Nat.ne_of_lt hb0, Nat.ne_of_lt (Nat.lt_succ_of_lt hb0)⟩
      · cases r₂ with
        | error e => exact hr₂
        | ok fl₂ =>
          cases fl₂ with
          | ret r =>
            obtain ⟨rfl, h', tk, c', rfl, hS', hc', hk'⟩ := hr₂
            repeat (any_goals (first | assumption | wp_step))
            exact h _ _ _ hS' hc' hk'
          | _ => exact hr₂.elim
    | _ => exact hr.elim
end
section
variable {X : Cx}
def rSetI (K : PySem.W.Frag) (w : World) : List V → Hp → VK → Prop := fun vs H Q => ∃ (a : Addr) (ns : List Int), vs = [.ref a] ∧ (SqL K H a (ns.map V.int) ∨ SqT K H a (ns.map V.int)) ∧ ns.length ≤ 1000 ∧
  ∀ p c, H p = none → c ≤ ns.length → Q (.ref p) (upd H p (SetO w p (fun j => decide (j ∈ ns)) c))
theorem cr_setI (hc : X.calm = true) : CallR X (.type "set") (rSetI X.K X.w) := by
  intro pins s σ H vs us Q I r h
  obtain ⟨a, ns, rfl, hs, hl, q⟩ := h
  obtain rfl := Vals.ref1 r
  have hd := I.ok.hd hc
  have fin : ∀ (h' : Heap) (tk c : Nat), SetR X.w h' s.heap.objs.size (fun j => decide (j ∈ ns)) c → c ≤ ns.length → (∀ b o, s.heap.get? b = some o → h'.get? b = some o) → EP X pins σ Q (.ref s.heap.objs.size) { s with heap := h', toks := tk } :=
    fun h' tk c R hcn k => ⟨.ref _, _, I.laid (t' := tk) k (Nat.le_refl _) (setO_new R), rfl, q _ c (I.hok.fresh (Nat.le_refl _)) hcn⟩
  rcases hs with hs | hs
  · obtain ⟨its, rv, pl, _⟩ := I.list hs
    exact set_ofL ns hd pl.isList (ints_of_vals rv) (by unfold scanBound; omega) fin
  · obtain ⟨its, rv, pt, _⟩ := I.tuple hs
    exact call_set_tupI ns hd pt (ints_of_vals rv) (by unfold scanBound; omega) fin
end
/-! sorted(tuple of ints) -/
section
variable {prog : Program} {w : World} {A : Around} {E : Value → Shared → Prop} {s : Shared}
theorem collect_tu {l : Addr} {vs : List Value} {Q : List Value → Shared → Prop} (hl : s.heap.IsTuple l vs.toArray) (hsz : vs.length ≤ sizeLine)
    (h : Q vs { s with heap := (s.heap.push (seqObj "list" #[] 0)).update s.heap.objs.size (Obj.mapSeq (· ++ vs.toArray)) }) : wpAny (model prog w) A (collect (.ref l)) Q E s := by
  obtain ⟨o, ho, hc, n, hd⟩ := id hl
  have h0 : (s.heap.push (seqObj "list" #[] 0)).get? s.heap.objs.size = some (seqObj "list" #[] 0) := Heap.get?_push_size _ rfl
  have ho' : (s.heap.push (seqObj "list" #[] 0)).get? l = some o := Heap.get?_push_of_some _ ho
  unfold collect
  refine wpAny_bind (wpAny_runValue (codeAny_builtin PyProof.Rows.entry_proto_collect' ?_))
  show wpAny _ _ (do again (Code.builtin "list.__iadd__" ⟨[← newList [], Value.ref l], []⟩)) _ _ s
  refine wpAny_bind (wpAny_newList (wpAny_pure ⟨Code.quiet_builtin _ (by decide +kernel), (codeAny_builtin PyProof.Rows.entry_list_iadd' ?_)⟩))
  show wpAny _ _ (Builtin.List.listExtendWith (Value.ref s.heap.objs.size) (Value.ref l) (Value.ref s.heap.objs.size)) _ _ { s with heap := s.heap.push (seqObj "list" #[] 0) }
  unfold Builtin.List.listExtendWith
  refine wpAny_bind (wpAny_typeOf (T := "tuple") ⟨o, ho', hc⟩ ?_)
  have ht : (Value.type "tuple" == Value.type "tuple") = true := rfl
  rw [if_pos (by (rw [ht]; simp))]
  refine wpAny_bind (PyProof.Rows.listItems_at ho' hd ?_)
  refine wpAny_bind (PyProof.Rows.listItems_at (xs := #[]) (n := 0) h0 rfl ?_)
  rw [if_neg (by simp)]
  refine wpAny_bind (PyProof.Rows.listUpdate_at (xs := #[]) (n := 0) h0 rfl ?_ (Nat.zero_le _) (by (simp only [Array.size_append, List.size_toArray, List.size_toArray]; show 0 + vs.length ≤ sizeLine + 1; omega)))
  refine wpAny_pure ?_
  show wpAny (model prog w) A (do
      let o ← load s.heap.objs.size
      match o.data with
      | .seq xs _ => pure xs.toList
      | _ => unsupported "internal:collect") Q E { s with heap := (s.heap.push (seqObj "list" #[] 0)).update s.heap.objs.size (Obj.mapSeq (· ++ vs.toArray)) }
  refine wpAny_bind (wpAny_load (PyProof.Rows.get?_update_seq h0 _) ?_)
  show wpAny _ _ (pure ((#[] : Array Value) ++ vs.toArray).toList) Q E _
  rw [show ((#[] : Array Value) ++ vs.toArray).toList = vs by simp]
  exact wpAny_pure h
theorem sorted_tu {l : Addr} {vs : List Value} {ns : List Int} {Q : Value → Shared → Prop} (hl : s.heap.IsTuple l vs.toArray) (hI : IntsAre vs ns) (h64 : vs.length < 64)
    (h : ∀ (out : Array Value) (ns' : List Int), IntsAre out.toList ns' → ns'.Perm ns → ns'.Pairwise (· ≤ ·) → Q (.ref (s.heap.objs.size + 1)) { s with heap := PyProof.Rows.sortedAll s.heap vs out }) : wpAny (model prog w) A (call (.builtin "sorted") [.ref l]) Q E s := by
  refine Calls.call_function_entry PyProof.Rows.kind_sorted PyProof.Rows.plain_sorted PyProof.Rows.entry_sorted (PyProof.Rows.args_sorted1 _) ?_
  unfold Builtin.«sorted»
  refine wpAny_bind (m := checkCount "sorted" 1 1 _) (wpAny_pure (wpAny_bind (collect_tu hl (by (rw [sizeLine_eq]; omega)) (wpAny_bind (wpAny_newList ?_)))))
  have hsz : ((s.heap.push (seqObj "list" #[] 0)).update s.heap.objs.size (Obj.mapSeq (· ++ vs.toArray))).objs.size = s.heap.objs.size + 1 := by rw [Heap.size_update, PyProof.Rows.size_push']
  have hoL : (((s.heap.push (seqObj "list" #[] 0)).update s.heap.objs.size (Obj.mapSeq (· ++ vs.toArray))).push (seqObj "list" vs.toArray 0)).get? (s.heap.objs.size + 1) = some (seqObj "list" vs.toArray 0) := by
    rw [← hsz]
    exact Heap.get?_push_size _ rfl
  show wpAny _ _ _ _ _ { s with heap := ((s.heap.push (seqObj "list" #[] 0)).update s.heap.objs.size (Obj.mapSeq (· ++ vs.toArray))).push (seqObj "list" vs.toArray 0) }
  rw [hsz]
  refine wpAny_bind (wpAny_holding (wpAny_call_entry PyProof.Rows.slot_list_sort ⟨_, hoL, rfl⟩ PyProof.Rows.entry_list_sort (PyProof.Rows.list_sort_tree hoL hI h64 fun out ns' a1 a2 a3 => ⟨_, rfl, wpAny_pure ⟨_, rfl, h out ns' a1 a2 a3⟩⟩) (PyProof.Rows.args_list_sort _)))
end
section
variable {X : Cx}
def rSortedTu (K : PySem.W.Frag) : List V → Hp → VK → Prop := fun vs H Q => ∃ (a : Addr) (ns : List Int), vs = [V.ref a] ∧ SqT K H a (ns.map V.int) ∧ ns.length < 64 ∧
  ∀ (ns' : List Int) (p : Addr), ns'.Perm ns → ns'.Pairwise (· ≤ ·) → H p = none → Q (.ref p) (upd H p (.lst (ns'.map V.int)))
theorem cr_sortedTu : CallR X (.builtin "sorted") (rSortedTu X.K) := by
  intro pins s σ H vs us Q I r h
  obtain ⟨a, ns, rfl, hs, h64, q⟩ := h
  obtain ⟨its, rv, hl, _⟩ := I.tuple hs
  obtain rfl := Vals.ref1 r
  have hi := rv.ints
  refine sorted_tu hl hi (by (rw [hi.length]; exact h64)) fun out ns' h1 h2 h3 => ?_
  obtain ⟨ep, he'⟩ := PyProof.Rows.sortedAll_at s.heap its out
  have hlen : (ns'.map V.int).length ≤ sizeLine := by (rw [List.length_map, h2.length_eq, sizeLine_eq]; omega)
  exact ⟨.ref _, upd H (s.heap.objs.size + 1) (.lst (ns'.map V.int)), I.laid (t' := s.toks) (fun _ _ => PyProof.Rows.sortedAll_old) (Nat.le_succ _) ⟨hlen, out.toList, ep, vals_of_ints h1, he'⟩, rfl, q ns' _ h2 h3 (I.hok.fresh (Nat.le_succ _))⟩
end
def topS (i : Nat) : Stmt := PySem.Challenge.pw_runlore_k15_kind_sets_combined.main.body.getD i (.Pass ⟨0, 0, 0, 0⟩)
/-! kind sets as they are written -/
structure Ks where
  ws : List Str
  but : Bool
  sz : List Int
abbrev kW : List Str := ["integer", "atom", "fault"]
def Ks.hasS (m : Ks) (k : Int) : Bool := decide (k ∈ m.sz) != m.but
/-- m is the kind set that has the words f and the sizes g -/
structure Rep (m : Ks) (f : Str → Bool) (g : Int → Bool) : Prop where
  w : m.ws = kW.filter f
  srt : m.sz.Pairwise (· < ·)
  bd : ∀ k ∈ m.sz, 0 ≤ k ∧ k ≤ 20
  s : ∀ k, m.hasS k = g k
theorem srt_ext : ∀ {a b : List Int}, a.Pairwise (· < ·) → b.Pairwise (· < ·) → (∀ k, k ∈ a ↔ k ∈ b) → a = b
  | [], [], _, _, _ => rfl
  | [], y :: b, _, _, h => absurd ((h y).mpr List.mem_cons_self) (List.not_mem_nil)
  | x :: a, [], _, _, h => absurd ((h x).mp List.mem_cons_self) (List.not_mem_nil)
  | x :: a, y :: b, p, q, h => by
    have p1 := List.pairwise_cons.mp p
    have q1 := List.pairwise_cons.mp q
    have e : x = y := by
      rcases List.mem_cons.mp ((h x).mp List.mem_cons_self) with e | m
      · exact e
      · rcases List.mem_cons.mp ((h y).mpr List.mem_cons_self) with e | m'
        · exact e.symm
        · have := q1.1 x m
          have := p1.1 y m'
          omega
    subst e
    rw [srt_ext p1.2 q1.2 fun k => ⟨fun m => ?_, fun m => ?_⟩]
    · rcases List.mem_cons.mp ((h k).mp (List.mem_cons_of_mem _ m)) with e | z
      · have := p1.1 k m
        omega
      · exact z
    · rcases List.mem_cons.mp ((h k).mpr (List.mem_cons_of_mem _ m)) with e | z
      · have := q1.1 k m
        omega
      · exact z
theorem srt_len : ∀ {a : List Int} (lo hi : Int), a.Pairwise (· < ·) → (∀ k ∈ a, lo ≤ k ∧ k ≤ hi) → (a.length : Int) ≤ max 0 (hi - lo + 1)
  | [], lo, hi, _, _ => by simp only [List.length_nil]; omega
  | x :: a, lo, hi, p, h => by
    have p1 := List.pairwise_cons.mp p
    have hx := h x List.mem_cons_self
    have ih := srt_len (a := a) (x + 1) hi p1.2 fun k hk => ⟨by have := p1.1 k hk; omega, (h k (List.mem_cons_of_mem _ hk)).2⟩
    rw [List.length_cons]
    omega
theorem srt_of {a b : List Int} (p : b.Perm a) (q : b.Pairwise (· ≤ ·)) (n : a.Nodup) : b.Pairwise (· < ·) :=
  (List.Pairwise.and q (p.nodup_iff.mpr n)).imp fun {x y} z => by
    have h1 := z.1
    have h2 := z.2
    omega
theorem srt_nodup {a : List Int} (p : a.Pairwise (· < ·)) : a.Nodup := p.imp fun {x y} h => by omega
section
variable {m n : Ks} {f f' : Str → Bool} {g g' : Int → Bool}
theorem Rep.but (r : Rep m f g) : m.but = g 21 := by
  have h : decide ((21 : Int) ∈ m.sz) = false := decide_eq_false fun z => by
    have := r.bd _ z
    omega
  have q := r.s 21
  unfold Ks.hasS at q
  rw [h] at q
  rw [← q]
  cases m.but <;> rfl
theorem Rep.mem (r : Rep m f g) (k : Int) : decide (k ∈ m.sz) = (g k != g 21) := by
  rw [← r.but, ← r.s k]
  unfold Ks.hasS
  cases decide (k ∈ m.sz) <;> cases m.but <;> rfl
theorem Rep.len (r : Rep m f g) : m.sz.length ≤ 21 := by
  have h := srt_len 0 20 r.srt r.bd
  omega
theorem Rep.uniq (r : Rep m f g) (r' : Rep n f g) : m = n := by
  obtain ⟨ws, b, sz⟩ := m
  obtain ⟨ws', b', sz'⟩ := n
  have e1 : ws = ws' := r.w.trans r'.w.symm
  have e2 : b = b' := r.but.trans r'.but.symm
  have e3 : sz = sz' := srt_ext r.srt r'.srt fun k => by
    have h := (r.mem k).trans (r'.mem k).symm
    exact decide_eq_decide.mp h
  rw [e1, e2, e3]
theorem Rep.congr {f2 : Str → Bool} {g2 : Int → Bool} (r : Rep m f g) (hf : ∀ w, f w = f2 w) (hg : ∀ k, g k = g2 k) : Rep m f2 g2 := by
  rw [← funext hf, ← funext hg]
  exact r
theorem kW_mem {f : Str → Bool} {w : Str} (h : w ∈ kW) : decide (w ∈ kW.filter f) = f w := by
  cases e : f w with
  | true => exact decide_eq_true (List.mem_filter.mpr ⟨h, e⟩)
  | false => exact decide_eq_false fun z => absurd ((List.mem_filter.mp z).2) (by rw [e]; exact Bool.false_ne_true)
theorem ws_and : ((kW.filter f).filter fun w => decide (w ∈ kW.filter f')) = kW.filter fun w => f w && f' w := by
  rw [List.filter_filter]
  refine List.filter_congr fun w hw => ?_
  rw [kW_mem hw, Bool.and_comm]
theorem ws_not : (kW.filter fun w => !decide (w ∈ kW.filter f)) = kW.filter fun w => !f w := List.filter_congr fun w hw => by rw [kW_mem hw]
theorem srt_filter {a : List Int} (p : Int → Bool) (h : a.Pairwise (· < ·)) : (a.filter p).Pairwise (· < ·) := h.sublist List.filter_sublist
/-- all sizes but those of both -/
theorem rep_bb {s : List Int} {fw : Str → Bool} (r : Rep m f g) (r' : Rep n f' g') (hm : m.but = true) (hn : n.but = true) (hs : s.Pairwise (· < ·)) (hk : ∀ k, k ∈ s ↔ k ∈ m.sz ∨ k ∈ n.sz) : Rep ⟨kW.filter fw, true, s⟩ fw (fun k => g k && g' k) := by
  refine ⟨rfl, hs, fun k h => ((hk k).mp h).elim (r.bd k) (r'.bd k), fun k => ?_⟩
  rw [← r.s k, ← r'.s k]
  unfold Ks.hasS
  rw [hm, hn]
  have e : decide (k ∈ s) = (decide (k ∈ m.sz) || decide (k ∈ n.sz)) := by
    rw [← Bool.decide_or]
    exact decide_eq_decide.mpr (hk k)
  show (decide (k ∈ s) != true) = _
  rw [e]
  cases decide (k ∈ m.sz) <;> cases decide (k ∈ n.sz) <;> rfl
theorem rep_f {fw : Str → Bool} (r : Rep m f g) (p : Int → Bool) (hm : m.but = false) (h : ∀ k, p k = g' k) : Rep ⟨kW.filter fw, false, m.sz.filter p⟩ fw (fun k => g k && g' k) := by
  refine ⟨rfl, srt_filter _ r.srt, fun k h => r.bd k (List.mem_filter.mp h).1, fun k => ?_⟩
  rw [← r.s k, ← h k]
  unfold Ks.hasS
  rw [hm]
  show (decide (k ∈ m.sz.filter p) != false) = _
  have e : decide (k ∈ m.sz.filter p) = (decide (k ∈ m.sz) && p k) := by
    cases hp : p k with
    | true => rw [Bool.and_true]; exact decide_eq_decide.mpr (by rw [List.mem_filter]; exact ⟨fun z => z.1, fun z => ⟨z, hp⟩⟩)
    | false => rw [Bool.and_false]; exact decide_eq_false fun z => by rw [(List.mem_filter.mp z).2] at hp; cases hp
  rw [e]
  cases decide (k ∈ m.sz) <;> cases p k <;> rfl
theorem rep_not (r : Rep m f g) : Rep ⟨kW.filter fun w => !f w, !m.but, m.sz⟩ (fun w => !f w) (fun k => !g k) := by
  refine ⟨rfl, r.srt, r.bd, fun k => ?_⟩
  rw [← r.s k]
  unfold Ks.hasS
  show (decide (k ∈ m.sz) != !m.but) = _
  cases decide (k ∈ m.sz) <;> cases m.but <;> rfl
end
theorem inV_str (x : Str) : ∀ xs : List Str, inV (.str x) (xs.map V.str) = decide (x ∈ xs)
  | [] => rfl
  | y :: xs => by
    have ih := inV_str x xs
    have e : inV (.str x) ((y :: xs).map V.str) = (eqV (.str y) (.str x) || inV (.str x) (xs.map V.str)) := rfl
    have e2 : eqV (.str y) (.str x) = decide (x = y) := by
      show (y == x) = decide (x = y)
      by_cases h : x = y
      · rw [h, decide_eq_true rfl, beq_self_eq_true]
      · rw [decide_eq_false h]
        exact beq_eq_false_iff_ne.mpr fun z => h z.symm
    rw [e, ih, e2, ← Bool.decide_or]
    exact decide_eq_decide.mpr List.mem_cons.symm
theorem inV_int (x : Int) : ∀ xs : List Int, inV (.int x) (xs.map V.int) = decide (x ∈ xs)
  | [] => rfl
  | y :: xs => by
    have ih := inV_int x xs
    have e : inV (.int x) ((y :: xs).map V.int) = (eqV (.int y) (.int x) || inV (.int x) (xs.map V.int)) := rfl
    have e2 : eqV (.int y) (.int x) = decide (x = y) := by
      show (y == x) = decide (x = y)
      by_cases h : x = y
      · rw [h, decide_eq_true rfl, beq_self_eq_true]
      · rw [decide_eq_false h]
        exact beq_eq_false_iff_ne.mpr fun z => h z.symm
    rw [e, ih, e2, ← Bool.decide_or]
    exact decide_eq_decide.mpr List.mem_cons.symm
theorem flat_strs (xs : List Str) : (xs.map V.str).all flatV = true := by rw [List.all_map]; exact List.all_eq_true.mpr fun _ _ => rfl
theorem flat_ints (xs : List Int) : (xs.map V.int).all flatV = true := by rw [List.all_map]; exact List.all_eq_true.mpr fun _ _ => rfl
abbrev sBox : Stmt := topS 11
abbrev sTake : Stmt := topS 12
theorem c47 : (0 : Int) < 2147483647 := by decide
theorem c29 : (0 : Int) < 2147483629 := by decide
/-! _law_take: some number below many; the box stays a box -/
def spTake : Sp := fun vs H Q _ => ∃ (p g : Addr) (m : Int), vs = [.ref p, .int m] ∧ Box H p g ∧ 0 < m ∧ m.natAbs < 2 ^ 200 ∧
  ∀ (r : Int) (H' : Hp), 0 ≤ r → r < m → Box H' p g → Off [p, g] H H' → Q (.int r) H'
def spBox (K : PySem.W.Frag) : Sp := fun vs H Q _ => ∃ (a : Addr) (ns : List Int) (c : Int), vs = [.ref a, .int c] ∧ SqL K H a (ns.map V.int) ∧ ns.length ≤ 63 ∧ 0 ≤ c ∧ c < 1000 ∧
  ∀ (p g : Addr) (H' : Hp), Box H' p g → Same H H' → H p = none → H g = none → Q (.ref p) H'
theorem scTake : FnScope ["_law_box_here", "_law_many", "_law_digit", "_law_one"] ["_law_box_here", "_law_many"] (defScope sTake) :=
  ⟨rfl, rfl, rfl, by decide +kernel, rfl, by decide +kernel, by decide +kernel⟩
section
variable {P : Program} {w : World} {K : PySem.W.Frag} {mg : Str → Option Value} {base : Heap} {f : Addr} {fd : FuncData}
theorem get_now {H : Hp} {p g : Addr} {n s t : Int} (h : H p = some (.dK (bx g n s t))) : DGet H p (.str "now") (some (.int n)) := by
  have q := DGet.k (k := (Sum.inr "now" : Key)) h
  rw [bx_now] at q
  exact q
theorem get_great {H : Hp} {p g : Addr} {n s t : Int} (h : H p = some (.dK (bx g n s t))) : DGet H p (.str "great") (some (.ref g)) := by
  have q := DGet.k (k := (Sum.inr "great" : Key)) h
  rw [bx_great] at q
  exact q
theorem get_seed {H : Hp} {p g : Addr} {n s t : Int} (h : H p = some (.dK (bx g n s t))) : DGet H p (.str "seed") (some (.int s)) := by
  have q := DGet.k (k := (Sum.inr "seed" : Key)) h
  rw [bx_seed] at q
  exact q
theorem get_turn {H : Hp} {p g : Addr} {n s t : Int} (h : H p = some (.dK (bx g n s t))) : DGet H p (.str "turn") (some (.int t)) := by
  have q := DGet.k (k := (Sum.inr "turn" : Key)) h
  rw [bx_turn] at q
  exact q
theorem set_now {H : Hp} {p g : Addr} {n s t : Int} (y : Int) (h : H p = some (.dK (bx g n s t))) : DPut H p (.str "now") (.int y) (upd H p (.dK (bx g y s t))) := by
  have q := DPut.k (k := (Sum.inr "now" : Key)) (v := .int y) h (by show 4 < sizeLine; decide)
  rw [put_now] at q
  exact q
theorem set_seed {H : Hp} {p g : Addr} {n s t : Int} (y : Int) (h : H p = some (.dK (bx g n s t))) : DPut H p (.str "seed") (.int y) (upd H p (.dK (bx g n y t))) := by
  have q := DPut.k (k := (Sum.inr "seed" : Key)) (v := .int y) h (by show 4 < sizeLine; decide)
  rw [put_seed] at q
  exact q
theorem set_turn {H : Hp} {p g : Addr} {n s t : Int} (y : Int) (h : H p = some (.dK (bx g n s t))) : DPut H p (.str "turn") (.int y) (upd H p (.dK (bx g n s y))) := by
  have q := DPut.k (k := (Sum.inr "turn" : Key)) (v := .int y) h (by show 4 < sizeLine; decide)
  rw [put_turn] at q
  exact q
theorem ok_take {k : Nat} (F : Fun K "_law_take" "_law_take" sTake f fd) (ml : mg "len" = none) : FnOk P w K mg base CX0 (k + 1) f fd ["_law_box_here", "_law_many"] spTake := by
  refine F.ok scTake (fun vs H Q E h => ?_) (fun cdv A outer s H vs Q E hr h => ?_)
  · obtain ⟨p, g, m, rfl, _⟩ := h
    rfl
  obtain ⟨p, g, m, rfl, ⟨n, sd, t, gs, hp, hg, hl⟩, m0, m9, q⟩ := h
  have hu := hu_of hr
  have npg : p ≠ g := ne_of hp hg (by intro z; cases z)
  refine ⟨_, C8.pss_cut (ps_if (PW.pt (pw_and (pt_cmpR op_eq (pe_dget hu (pv 0) pe_str (fun _ _ => rfl)) pe_int (nomark _))
        (pw_and1 (pt_cmpR op_gt (pe_callB call_len_seq (by rfl) ml PySem.boot_len (pa_cons (pe_dget hu (pv 0) pe_str (fun _ _ => rfl)) pa_nil)) pe_int (nomark _)))))
        (pss_one (ps_dput hu (pv 0) pe_str (pe_bm0 PySem.F.plainAttrs_list PySem.F.slot_list_pop PySem.F.type_list_pop mt_pop (pe_dget hu (pv 0) pe_str (fun _ _ => rfl))) rfl)) pss_nil)
    (pss_cons (ps_if (pt_cmpR op_gt (pe_dget hu (pv 0) pe_str (fun _ _ => rfl)) pe_int (nomark _))
        (pss_cons (ps_set (i := 2) scTake.nd rfl (.inl rfl) (pe_op op_mod (pe_dget hu (pv 0) pe_str (fun _ _ => rfl)) (pv 1)))
        (pss_cons (ps_dput hu (pv 0) pe_str (pe_op op_fdivW (pe_dget hu (pv 0) pe_str (fun _ _ => rfl)) (pv 1)) rfl)
        (pss_one (ps_ret (pv 2))))) pss_nil)
    (pss_cons (ps_dput hu (pv 0) pe_str (pe_op op_add (pe_dget hu (pv 0) pe_str (fun _ _ => rfl)) pe_int) rfl)
    (pss_cons (ps_set (i := 3) scTake.nd rfl (.inl rfl) (pe_op op_mod (pe_op op_mul (pe_op op_mod (pe_op op_add (pe_dget hu (pv 0) pe_str (fun _ _ => rfl))
        (pe_op op_mul pe_int (pe_dget hu (pv 0) pe_str (fun _ _ => rfl)))) pe_int) pe_int) pe_int))
    (pss_cons (ps_dput hu (pv 0) pe_str (pe_op op_add (pe_op op_mod (pe_op op_add (pv 3) (pe_op op_mul pe_int (pe_dget hu (pv 0) pe_str (fun _ _ => rfl)))) pe_int) pe_int) rfl)
    (pss_one (ps_ret (pe_op op_mod (pe_op op_fdiv (pe_op op_add (pe_op op_mul (pv 3) pe_int) (pe_dget hu (pv 0) pe_str (fun _ _ => rfl))) pe_int) (pv 1)))))))), ?_⟩
  refine ⟨fun σ H1 => ∃ n1 gs1, σ = [some (.ref p), some (.int m), none, none] ∧ H1 p = some (.dK (bx g n1 sd t)) ∧ H1 g = some (.lst (List.map V.int gs1)) ∧ gs1.length ≤ 1000 ∧ Off [p, g] H H1, ?_, ?_⟩
  · refine ⟨_, rfl, p, _, rfl, get_now hp, rfl, _, rfl, ite2 (fun c => ?_) (fun c => iteF ⟨n, gs, rfl, hp, hg, hl, Off.refl _ _⟩)⟩
    refine ⟨_, rfl, p, _, rfl, get_great hp, g, _, rfl, .inl (SqL.of hg), _, _, rfl, rfl, _, rfl, ite2 (fun c2 => ?_) (fun c2 => ⟨n, gs, rfl, hp, hg, hl, Off.refl _ _⟩)⟩
    have c3 : (0 : Int) < (((List.map V.int gs).length : Nat) : Int) := of_decide_eq_true c2
    rw [List.length_map] at c3
    have hlast : (List.map V.int gs)[(List.map V.int gs).length - 1]? = some (V.int (gs[gs.length - 1]'(by omega))) := by
      rw [List.length_map, List.getElem?_map, List.getElem?_eq_getElem (by omega)]
      rfl
    have hp1 : (upd H g (.lst (List.map V.int gs).dropLast)) p = some (.dK (bx g n sd t)) := by rw [upd_ne npg]; exact hp
    refine ⟨_, rfl, p, _, rfl, get_great hp, .inl ⟨rfl, _, .inl (.inl hg)⟩, g, _, _, rfl, rfl, hg, hlast, _, rfl, p, _, rfl, set_now _ hp1, ?_⟩
    refine ⟨_, gs.dropLast, rfl, upd_same, ?_, ?_, ?_⟩
    · rw [upd_ne npg.symm, upd_same, List.map_dropLast]
    · rw [List.length_dropLast]
      omega
    · exact (Off.put (by simp)).trans (Off.put (by simp))
  · rintro σ H1 ⟨n1, gs1, rfl, hp1, hg1, hl1, of1⟩
    refine ⟨_, rfl, p, _, rfl, get_now hp1, _, _, rfl, rfl, _, rfl, ite2 (fun c => ?_) (fun c => ?_)⟩
    · refine ⟨_, rfl, p, _, rfl, get_now hp1, _, rfl, _, _, rfl, rfl, m0, ?_⟩
      refine ⟨_, rfl, p, _, rfl, get_now hp1, _, rfl, _, _, rfl, rfl, wide_div m0 m9 (by decide) (by decide), _, rfl, p, _, rfl, set_now _ hp1, ?_⟩
      refine ⟨_, rfl, q _ _ (Int.emod_nonneg _ (by omega)) (Int.emod_lt_of_pos _ m0) ⟨_, sd, t, gs1, upd_same, by rw [upd_ne npg.symm]; exact hg1, hl1⟩ (of1.trans (Off.put (by simp)))⟩
    · refine ⟨_, rfl, p, _, rfl, get_turn hp1, _, _, rfl, rfl, _, rfl, p, _, rfl, set_turn _ hp1, ?_⟩
      refine ⟨_, rfl, p, _, rfl, get_seed upd_same, _, rfl, p, _, rfl, get_turn upd_same, _, _, rfl, rfl, .inl ⟨by decide, by decide⟩, _, _, rfl, rfl, _, _, rfl, rfl, c47, _, _, rfl, rfl, .inr ⟨by decide, by decide⟩, _, _, rfl, rfl, c47, ?_⟩
      refine ⟨_, rfl, _, rfl, p, _, rfl, get_seed upd_same, _, _, rfl, rfl, .inl ⟨by decide, by decide⟩, _, _, rfl, rfl, _, _, rfl, rfl, c29, _, _, rfl, rfl, _, rfl, p, _, rfl, set_seed _ upd_same, ?_⟩
      refine ⟨_, rfl, _, _, rfl, rfl, .inr ⟨by decide, by decide⟩, _, rfl, p, _, rfl, get_seed upd_same, _, _, rfl, rfl, _, _, rfl, rfl, ⟨by decide, by decide⟩, _, rfl, _, _, rfl, rfl, m0, ?_⟩
      refine q _ _ (Int.emod_nonneg _ (by omega)) (Int.emod_lt_of_pos _ m0) ⟨n1, _, _, gs1, upd_same, ?_, hl1⟩ (of1.trans ((Off.put (by simp)).trans (Off.put (by simp))))
      rw [upd_ne npg.symm, upd_ne npg.symm]
      exact hg1
end
theorem cutV_ints (ns : List Int) (lo hi : Option Int) : ∃ ms : List Int, cutV (ns.map V.int) lo hi = ms.map V.int ∧ ms.length ≤ ns.length := by
  refine ⟨(ns.drop (HT.sIx ns.length 0 lo)).take (HT.sIx ns.length ns.length hi - HT.sIx ns.length 0 lo), ?_, ?_⟩
  · unfold cutV
    rw [List.length_map, List.map_take, List.map_drop]
  · rw [List.length_take, List.length_drop]
    omega
theorem int_at {ms : List Int} {i : Nat} {y : V} (h : (ms.map V.int)[i]? = some y) : ∃ z, y = V.int z := by
  rw [List.getElem?_map] at h
  cases e : ms[i]? with
  | none =>
    rw [e] at h
    cases h
  | some z =>
    rw [e] at h
    exact ⟨z, (Option.some.inj h).symm⟩
theorem scBox : FnScope ["_law_script", "_law_base", "_law_seed", "_law_cell", "_law_great"] ["_law_script", "_law_base"] (defScope sBox) :=
  ⟨rfl, rfl, rfl, by decide +kernel, rfl, by decide +kernel, by decide +kernel⟩
section
variable {P : Program} {w : World} {K : PySem.W.Frag} {mg : Str → Option Value} {base : Heap} {f : Addr} {fd : FuncData}
theorem ok_box {k : Nat} (F : Fun K "_law_box" "_law_box" sBox f fd) (mab : mg "abs" = none) : FnOk P w K mg base CX0 (k + 1) f fd ["_law_script", "_law_base"] (spBox K) := by
  refine F.ok scBox (fun vs H Q E h => ?_) (fun cdv A outer s H vs Q E hr h => ?_)
  · obtain ⟨a, ns, c, rfl, _⟩ := h
    rfl
  obtain ⟨a, ns, c, rfl, hS, hlen, c0, c9, q⟩ := h
  have hu := hu_of hr
  refine ⟨_, pss_cons (ps_set (i := 2) scBox.nd rfl (.inl rfl) (pe_op op_add pe_int (pe_op op_mul pe_int (pv 1))))
    (pss_cons (ps_for PassesOwn.never rfl (pi_list (pe_slice sl_list (pv 0) po_none (po_some pe_int))) (pg_name (i := 3) scBox.nd rfl (.inl rfl))
      (pss_one (ps_set (i := 2) scBox.nd rfl (.inl rfl) (pe_op op_mod (pe_op op_add (pe_op op_add (pe_op op_mul (pv 2) pe_int)
        (pe_op op_mod (pe_callB call_abs (by rfl) mab (by decide +kernel) (pa_cons (pv 3) pa_nil)) pe_int)) pe_int) pe_int))))
    (pss_cons (ps_setLc (i := 4) (own := [("_law_cell", 3)]) (g := gName 3) (by rfl) scBox.nd rfl rfl (sw_true rfl rfl rfl (by decide +kernel))
      (pi_list (pe_slice sl_list (pv 0) (po_some (pv 1)) (po_some pe_int)))
      (blkOk_by (own := [("_law_cell", 3)]) (N := ["_law_script", "_law_base", "_law_seed", "_law_cell", "_law_great"]) (sc := defScope sBox) (by decide +kernel))
      (fun _ _ _ _ _ => pg_name (i := 3) scBox.nd rfl (Or.inl rfl))
      (fun _ _ _ _ _ => pts_one (pt_cmpR op_ge (pe_callB call_abs (by rfl) mab (by decide +kernel) (pa_cons (pv 3) pa_nil)) (pe_op op_pow pe_int pe_int) (nomark _)))
      (fun _ _ _ _ _ => pe_callB call_abs (by rfl) mab (by decide +kernel) (pa_cons (pv 3) pa_nil)))
    (pss_one (ps_ret (pe_disp (pps_cons pe_str (pe_revL (pv 4)) (pps_cons pe_str pe_int (pps_cons pe_str (pe_op op_add (pv 2) pe_int) (pps_cons pe_str pe_int pps_nil))))
      (by rfl) (by rfl) (fun z => by cases z) (by decide)))))), ?_⟩
  refine ⟨_, rfl, _, _, rfl, rfl, .inl ⟨by decide, by decide⟩, _, _, rfl, rfl, ?_⟩
  refine ⟨_, rfl, 50, rfl, a, _, rfl, hS, fun q0 hq0 => ?_⟩
  obtain ⟨ms, em, lm⟩ := cutV_ints ns none (some 50)
  rw [em]
  have s1 : Same H (upd H q0 (.lst (ms.map V.int))) := same_new hq0 _
  refine ⟨q0, rfl, ⟨_, SqL.of upd_same⟩, for_list (K := K) (a := q0) (xs := ms.map V.int) (fun i σ H2 => ∃ (z : Int) (v : Option V), σ = [some (.ref a), some (.int c), some (.int z), v, none] ∧ -(2 ^ 40) < z ∧ z < 2 ^ 40 ∧ H2 = upd H q0 (.lst (ms.map V.int)))
    ⟨7001 + 211 * c, none, rfl, by omega, by omega, rfl⟩ (fun i σ H2 _ ⟨_, _, _, _, _, e⟩ => by rw [e]; exact SqL.of upd_same) ?_ ?_⟩
  · rintro i y σ H2 hi ⟨z, v, rfl, z0, z1, rfl⟩
    obtain ⟨x, rfl⟩ := int_at hi
    refine ⟨_, rfl, _, _, rfl, rfl, .inr ⟨by decide, by decide⟩, _, rfl, _, rfl, _, _, rfl, rfl, c29, _, _, rfl, rfl, _, _, rfl, rfl, _, _, rfl, rfl, c47, ?_⟩
    exact ⟨_, _, rfl, Int.lt_of_lt_of_le (by decide) (Int.emod_nonneg _ (by decide)), Int.lt_trans (Int.emod_lt_of_pos _ c47) (by decide), rfl⟩
  · rintro σ H2 ⟨z, v, rfl, z0, z1, rfl⟩
    refine ⟨_, rfl, _, rfl, c, rfl, 50, rfl, a, _, rfl, s1.seq hS, fun q1 hq1 => ?_⟩
    obtain ⟨ks, ek, lk⟩ := cutV_ints ns (some c) (some 50)
    rw [ek]
    have s2 := s1.trans (same_new hq1 (.lst (ks.map V.int)))
    refine ⟨q1, rfl, ⟨_, SqL.of upd_same⟩, fun D hD => lc_list (K := K) (a := q1) (xs := ks.map V.int) (fun i H3 => ∃ gs : List Int, gs.length ≤ i ∧ H3 D = some (.lst (gs.map V.int)) ∧ H3 q1 = some (.lst (ks.map V.int)) ∧ Same H H3)
      ⟨[], Nat.le_refl _, upd_same, by rw [upd_ne (ne_of_none upd_same hD), upd_same], s2.trans (same_new hD _)⟩ (fun i H3 _ ⟨_, _, _, h, _⟩ => SqL.of h) ?_ ?_⟩
    · rintro i y H3 hi ⟨gs, lg, h1, h2, h3⟩
      have hik := (List.getElem?_eq_some_iff.mp hi).1
      rw [List.length_map] at hik
      obtain ⟨x, rfl⟩ := int_at hi
      refine ⟨rfl, _, rfl, _, rfl, _, _, rfl, rfl, ⟨by decide, by decide, by decide⟩, _, _, rfl, rfl, _, rfl, ite2 (fun _ => ?_) (fun _ => ?_)⟩
      · refine ⟨_, rfl, _, rfl, _, h1, ?_, gs ++ [if x < 0 then -x else x], ?_, ?_, ?_, ?_⟩
        · rw [List.length_map]
          exact small1000 (by omega)
        · rw [List.length_append, List.length_singleton]
          omega
        · rw [upd_same, List.map_append]
          rfl
        · rw [upd_ne (ne_of_none upd_same hD)]
          exact h2
        · intro b o e
          rw [upd_ne (ne_of_none e (s2.free hD))]
          exact h3 b o e
      · exact ⟨gs, by omega, h1, h2, h3⟩
    · rintro H3 ⟨gs, lg, h1, h2, h3⟩
      rw [List.length_map] at lg
      refine fun p hp => ⟨_, rfl, D, _, rfl, SqL.of (by rw [upd_ne (ne_of_none h1 hp)]; exact h1), fun g hg => ?_⟩
      have ngp : g ≠ p := fun e => by
        rw [e, upd_same] at hg
        cases hg
      have hp2 : (upd (upd H3 p (.dK [])) g (.lst (gs.map V.int).reverse)) p = some (.dK []) := by rw [upd_ne ngp.symm, upd_same]
      refine ⟨_, rfl, _, _, rfl, rfl, hp2, bx g 0 (z + 1) 0, rfl, by show 4 ≤ 15; decide, ?_⟩
      rw [mer_box]
      have hg3 : H3 g = none := by
        rw [upd_ne ngp] at hg
        exact hg
      refine q p g _ ⟨0, z + 1, 0, gs.reverse, upd_same, ?_, ?_⟩ ?_ (h3.free hp) (h3.free hg3)
      · rw [upd_ne ngp, upd_same, List.map_reverse]
      · rw [List.length_reverse]
        omega
      · intro b o e
        have e3 := h3 b o e
        rw [upd_ne (ne_of_none e3 hp), upd_ne (ne_of_none e3 hg3), upd_ne (ne_of_none e3 hp)]
        exact e3
end
structure Tk (P : Program) (w : World) (K : PySem.W.Frag) (mg : Str → Option Value) (base : Heap) (f : Addr) (fd : FuncData) : Prop where
  ok : FnOk P w K mg base CX0 1 f fd ["_law_box_here", "_law_many"] spTake
  kp : PySem.W.keepIn K (.ref f) = true
  bd : Binds K fd ["_law_box_here", "_law_many"] []
  mg : mg "_law_take" = some (.ref f)
theorem atI_ok {α : Type} {xs : List α} {r : Int} (h0 : 0 ≤ r) (h : r < (xs.length : Int)) : ∃ x, atI xs r = some x ∧ x ∈ xs ∧ xs[r.toNat]? = some x := by
  have hr : r.toNat < xs.length := by omega
  have e : r = (r.toNat : Int) := by omega
  have q : atI xs ((r.toNat : Nat) : Int) = some xs[r.toNat] := atI_nat (List.getElem?_eq_getElem hr)
  rw [← e] at q
  exact ⟨xs[r.toNat], q, List.getElem_mem hr, List.getElem?_eq_getElem hr⟩
theorem okG {P : Program} {w : World} {K : PySem.W.Frag} {mg : Str → Option Value} {base : Heap} {x qual : Str} {st : Stmt} {f : Addr} {fd : FuncData} {N ps : List Str} {k : Nat} {sp : Sp} (F : Fun K x qual st f fd) (S : FnScope N ps (defScope st))
    (len : ∀ ws H Q E, sp ws H Q E → ws.length = ps.length)
    (hb : ∀ (cdv : Value) (A : Around) (outer : List Env) (s : Shared) (H : Hp) (vs : List V) (Q : VK) (E : XK), A.guards = some [] → Room k (A.deeper (envOfC qual (defScope st) s.heap.objs.size f cdv)) → sp vs H Q E →
      ∃ t, PSs (cxOf CX0 P w K mg base N qual (defScope st) f cdv A outer s H E).nox (defBody st) t ∧ t { nx := fun _ H' => Q .non H', rt := Q } (start N vs) H) : FnG P w K mg base CX0 (k + 1) f fd ps sp := by
  obtain ⟨oc, od, kV, doc, pm, an, cdv, ct, osl, rfl, lk, hcd⟩ := F.ex
  refine fnG_of lk hcd S len ?_
  intro A outer s H vs Q E hg hr hsp
  obtain ⟨t, h, q⟩ := hb cdv A outer s H vs Q E hg hr hsp
  exact ⟨t, h.nox, q⟩
theorem bool_prn (b : Bool) : Prn (.bool b) := prn_of (by simp only [gd]) (by simp only [nod]; omega) (by simp only [PyData.depth]; omega)
/-- a def of the top that keeps a promise -/
structure Dn (P : Program) (w : World) (K : PySem.W.Frag) (mg : Str → Option Value) (base : Heap) (lvl : Nat) (nm : Str) (ps : List Str) (sp : Sp) (f : Addr) (fd : FuncData) : Prop where
  ok : FnOk P w K mg base CX0 lvl f fd ps sp
  kp : PySem.W.keepIn K (.ref f) = true
  bd : Binds K fd ps []
  mg : mg nm = some (.ref f)
theorem cut_less {l m : List Addr} {H : Hp} (h : ∀ b ∈ m, b ∈ l) : Same (cut l H) (cut m H) := fun b o e => by
  obtain ⟨n, e⟩ := cut_some e
  rw [cut_out (fun z => n (h b z))]
  exact e
theorem cut_more {l : List Addr} {H : Hp} {a : Addr} {o : HO} (h : H a = none) : Same (cut l H) (cut (a :: l) (upd H a o)) := fun b u e => by
  obtain ⟨n, e⟩ := cut_some e
  have nb := ne_of_none e h
  rw [cut_out (fun z => (List.mem_cons.mp z).elim nb n), upd_ne nb]
  exact e
theorem dp_true {K : PySem.W.Frag} {H : Hp} {b : Bool} (h : b = true) : Dp K H (.bl b) (.bool true) := by
  rw [h]
  exact .bl true
theorem DpAll.parts {K : PySem.W.Frag} {H : Hp} {xs : List V} {ds : List PyData} (h : DpAll K H xs ds) (i : Nat) : DpAll K H (xs.take i) (ds.take i) ∧ DpAll K H (xs.drop i) (ds.drop i) := by
  have lx := DpAll.len h
  obtain ⟨d1, d2, e, a, b⟩ := DpAll.unapp (xs := xs.take i) (ys := xs.drop i) (by rw [List.take_append_drop]; exact h)
  have la := DpAll.len a
  have lb := DpAll.len b
  rw [List.length_take] at la
  rw [List.length_drop] at lb
  subst e
  by_cases hi : i ≤ xs.length
  · have l1 : d1.length = i := by omega
    have e1 : (d1 ++ d2).take i = d1 := by rw [← l1]; exact List.take_left
    have e2 : (d1 ++ d2).drop i = d2 := by rw [← l1]; exact List.drop_left
    rw [e1, e2]
    exact ⟨a, b⟩
  · have l2 : d2 = [] := List.length_eq_zero_iff.mp (by omega)
    subst l2
    rw [List.append_nil, List.take_of_length_le (l := d1) (by omega), List.drop_of_length_le (l := d1) (by omega)]
    exact ⟨a, b⟩
theorem cutV_dp {K : PySem.W.Frag} {H : Hp} {xs : List V} {ds : List PyData} (h : DpAll K H xs ds) (lo hi : Option Int) : ∃ es, DpAll K H (cutV xs lo hi) es ∧ ∀ e ∈ es, e ∈ ds := by
  unfold cutV
  exact ⟨_, (DpAll.parts (DpAll.parts h _).2 _).1, fun e he => List.mem_of_mem_drop (List.mem_of_mem_take he)⟩
theorem gd_int {i : Int} (h : i.natAbs < 2 ^ 1000) : gd (.int i) = true := by
  simp only [gd]
  exact decide_eq_true (Nat.lt_trans (PySem.Flt.log2_lt_of (by decide) h) (by decide))
theorem made_same {H6 H7 : Hp} {a dx : Addr} {o1 o2 : HO} (ha : H6 a = none) (hdx : H6 dx = none) (e : ∀ b, b ≠ a → H7 b = upd (upd H6 dx o1) a o2 b) : Same H6 H7 := fun b o z => by
  rw [e b (ne_of_none z ha), upd_ne (ne_of_none z ha), upd_ne (ne_of_none z hdx)]
  exact z
abbrev kcl (i : Nat) : Stmt := inClass (topS 5) i
abbrev sInt : Stmt := topS 2
abbrev sIni : Stmt := kcl 0
abbrev sEvr : Stmt := kcl 1
abbrev sOf : Stmt := kcl 3
abbrev sSzd : Stmt := kcl 4
abbrev sAnd : Stmt := kcl 5
abbrev sOr : Stmt := kcl 6
abbrev sSub : Stmt := kcl 7
abbrev sHas : Stmt := kcl 8
abbrev sEqK : Stmt := kcl 9
abbrev sBol : Stmt := kcl 10
abbrev sStrK : Stmt := kcl 11
abbrev sWth : Stmt := kcl 16
abbrev sPts : Stmt := topS 6
abbrev sBut : Stmt := topS 7
abbrev sLft : Stmt := topS 8
abbrev sTxt : Stmt := topS 9
theorem scInt : FnScope ["thing"] ["thing"] (defScope sInt) := ⟨rfl, rfl, rfl, by decide +kernel, rfl, by decide +kernel, by decide +kernel⟩
theorem scIni : FnScope ["self", "words", "but", "sizes"] ["self", "words", "but", "sizes"] (defScope sIni) := ⟨rfl, rfl, rfl, by decide +kernel, rfl, by decide +kernel, by decide +kernel⟩
theorem scEvr : FnScope ["cls"] ["cls"] (defScope sEvr) := ⟨rfl, rfl, rfl, by decide +kernel, rfl, by decide +kernel, by decide +kernel⟩
theorem scOf : FnScope ["cls", "word"] ["cls", "word"] (defScope sOf) := ⟨rfl, rfl, rfl, by decide +kernel, rfl, by decide +kernel, by decide +kernel⟩
theorem scSzd : FnScope ["cls", "k"] ["cls", "k"] (defScope sSzd) := ⟨rfl, rfl, rfl, by decide +kernel, rfl, by decide +kernel, by decide +kernel⟩
theorem scAnd : FnScope ["self", "other", "words", "word", "k"] ["self", "other"] (defScope sAnd) := ⟨rfl, rfl, rfl, by decide +kernel, rfl, by decide +kernel, by decide +kernel⟩
theorem scOr : FnScope ["self", "other"] ["self", "other"] (defScope sOr) := ⟨rfl, rfl, rfl, by decide +kernel, rfl, by decide +kernel, by decide +kernel⟩
theorem scSub : FnScope ["self", "other"] ["self", "other"] (defScope sSub) := ⟨rfl, rfl, rfl, by decide +kernel, rfl, by decide +kernel, by decide +kernel⟩
theorem scHas : FnScope ["self", "kind"] ["self", "kind"] (defScope sHas) := ⟨rfl, rfl, rfl, by decide +kernel, rfl, by decide +kernel, by decide +kernel⟩
theorem scEqK : FnScope ["self", "other"] ["self", "other"] (defScope sEqK) := ⟨rfl, rfl, rfl, by decide +kernel, rfl, by decide +kernel, by decide +kernel⟩
theorem scBol : FnScope ["self"] ["self"] (defScope sBol) := ⟨rfl, rfl, rfl, by decide +kernel, rfl, by decide +kernel, by decide +kernel⟩
theorem scStrK : FnScope ["self"] ["self"] (defScope sStrK) := ⟨rfl, rfl, rfl, by decide +kernel, rfl, by decide +kernel, by decide +kernel⟩
theorem scWth : FnScope ["self", "other"] ["self", "other"] (defScope sWth) := ⟨rfl, rfl, rfl, by decide +kernel, rfl, by decide +kernel, by decide +kernel⟩
theorem scPts : FnScope ["kinds"] ["kinds"] (defScope sPts) := ⟨rfl, rfl, rfl, by decide +kernel, rfl, by decide +kernel, by decide +kernel⟩
theorem scBut : FnScope ["kinds", "words", "but", "sizes", "word"] ["kinds"] (defScope sBut) := ⟨rfl, rfl, rfl, by decide +kernel, rfl, by decide +kernel, by decide +kernel⟩
theorem scLft : FnScope ["sizes", "others", "k"] ["sizes", "others"] (defScope sLft) := ⟨rfl, rfl, rfl, by decide +kernel, rfl, by decide +kernel, by decide +kernel⟩
/-- the attributes of a kind set -/
def ksf (tw : V) (b : Bool) (ts : V) : List (Str × V) := putF "_sizes" ts (putF "_but" (.bl b) (putF "_words" tw []))
theorem nwb : ¬ (("_words" : Str) = "_but") := by decide +kernel
theorem nws : ¬ (("_words" : Str) = "_sizes") := by decide +kernel
theorem nbs : ¬ (("_but" : Str) = "_sizes") := by decide +kernel
theorem ksf_w (tw : V) (b : Bool) (ts : V) : (ksf tw b ts).lookup ("_words" : Str) = some tw := by
  unfold ksf
  rw [lookup_putF, if_neg nws, lookup_putF, if_neg nwb, lookup_putF, if_pos rfl]
theorem ksf_b (tw : V) (b : Bool) (ts : V) : (ksf tw b ts).lookup ("_but" : Str) = some (.bl b) := by
  unfold ksf
  rw [lookup_putF, if_neg nbs, lookup_putF, if_pos rfl]
theorem ksf_s (tw : V) (b : Bool) (ts : V) : (ksf tw b ts).lookup ("_sizes" : Str) = some ts := by
  unfold ksf
  rw [lookup_putF, if_pos rfl]
/-- the kind set m stands at a -/
def KAt (K : PySem.W.Frag) (C : Addr) (H : Hp) (a : Addr) (m : Ks) : Prop := ∃ dx tw ts, H a = some (.ins C dx (ksf (.ref tw) m.but (.ref ts))) ∧ SqT K H tw (m.ws.map V.str) ∧ SqT K H ts (m.sz.map V.int)
theorem KAt.up {K : PySem.W.Frag} {C : Addr} {H H' : Hp} {a : Addr} {m : Ks} (s : Same H H') (h : KAt K C H a m) : KAt K C H' a m := by
  obtain ⟨dx, tw, ts, h1, h2, h3⟩ := h
  exact ⟨dx, tw, ts, s _ _ h1, seqT_up s h2, seqT_up s h3⟩
structure KC (K : PySem.W.Frag) (mg : Str → Option Value) (C fE : Addr) : Prop where
  o : OwnC K C fE
  nw : NoAttr K C "_words"
  nb : NoAttr K C "_but"
  ns : NoAttr K C "_sizes"
  mg : mg "Kinds" = some (.ref C)
  kc : PySem.W.keepIn K (.ref C) = true
  sf : PySem.W.selfFirst K C = true
def spIni (C : Addr) : Sp := fun vs H Q _ => ∃ (a dx : Addr) (tw ts : V) (b : Bool), vs = [.ref a, tw, .bl b, ts] ∧ H a = some (.ins C dx []) ∧ ∀ H', H' a = some (.ins C dx (ksf tw b ts)) → (∀ b, b ≠ a → H' b = H b) → Q .non H'
/-- how a kind set is made -/
structure MkK (P : Program) (w : World) (K : PySem.W.Frag) (mg : Str → Option Value) (base : Heap) (C fI : Addr) (dI : FuncData) : Prop where
  mkr : Mk K C fI
  ok : FnOk P w K mg base CX0 1 fI dI ["self", "words", "but", "sizes"] (spIni C)
  bd : Binds K dI ["self", "words", "but", "sizes"] []
def spLft (K : PySem.W.Frag) : Sp := fun vs H Q _ => ∃ (a b : Addr) (xs ys : List Int), vs = [.ref a, .ref b] ∧ SqT K H a (xs.map V.int) ∧ SqT K H b (ys.map V.int) ∧ xs.length ≤ 1000 ∧ ∀ p H', Same H H' → H' p = some (.tup ((xs.filter fun k => !decide (k ∈ ys)).map V.int)) → Q (.ref p) H'
def spPts (K : PySem.W.Frag) (C : Addr) : Sp := fun vs H Q _ => ∃ a m, vs = [.ref a] ∧ KAt K C H a m ∧ ∀ t tw ts H', Same H H' → H' t = some (.tup [.ref tw, .bl m.but, .ref ts]) → SqT K H' tw (m.ws.map V.str) → SqT K H' ts (m.sz.map V.int) → Q (.ref t) H'
def spBut (K : PySem.W.Frag) (C : Addr) : Sp := fun vs H Q _ => ∃ a m f g, vs = [.ref a] ∧ KAt K C H a m ∧ Rep m f g ∧ ∀ c r H', Same H H' → KAt K C H' c r → Rep r (fun w => !f w) (fun k => !g k) → Q (.ref c) H'
def spKK (K : PySem.W.Frag) (C : Addr) (op : Bool → Bool → Bool) : Sp := fun vs H Q _ => ∃ a b m n f g f' g', vs = [.ref a, .ref b] ∧ KAt K C H a m ∧ KAt K C H b n ∧ Rep m f g ∧ Rep n f' g' ∧
  ∀ c r H', Same H H' → KAt K C H' c r → Rep r (fun w => op (f w) (f' w)) (fun k => op (g k) (g' k)) → Q (.ref c) H'
theorem op_inK {X : Cx} {K : PySem.W.Frag} (h : X.K = K) : OpR X (compareOp .In) (rIn K false) := by
  subst h
  exact op_in_seq
theorem op_notInK {X : Cx} {K : PySem.W.Frag} (h : X.K = K) : OpR X (compareOp .NotIn) (rIn K true) := by
  subst h
  exact op_notIn_seq
theorem few3 {n : Nat} (h : n ≤ 3) : n ≤ sizeLine := Nat.le_trans h (by decide)
theorem cut_nil {H : Hp} : cut [] H = H := by
  funext b
  exact cut_out List.not_mem_nil
/-- the next item of a filtered list -/
theorem take_filter {α : Type} {xs : List α} {i : Nat} {x : α} {p : α → Bool} (h : xs[i]? = some x) : (xs.take (i + 1)).filter p = (xs.take i).filter p ++ (if p x then [x] else []) := by
  rw [get_take h, List.filter_append]
  congr 1
  cases hp : p x <;> simp [hp]
theorem map_get {α β : Type} {f : α → β} {xs : List α} {i : Nat} {v : β} (h : (xs.map f)[i]? = some v) : ∃ x, xs[i]? = some x ∧ v = f x := by
  rw [List.getElem?_map] at h
  cases e : xs[i]? with
  | none =>
    rw [e] at h
    cases h
  | some x =>
    rw [e] at h
    exact ⟨x, rfl, (Option.some.inj h).symm⟩
section
variable {P : Program} {w : World} {K : PySem.W.Frag} {mg : Str → Option Value} {base : Heap} {f C fE fI : Addr} {fd dI : FuncData}
theorem ok_ini {k : Nat} (F : Fun K "__init__" "Kinds.__init__" sIni f fd) (T : KC K mg C fE) : FnOk P w K mg base CX0 (k + 1) f fd ["self", "words", "but", "sizes"] (spIni C) := by
  refine F.ok scIni (fun vs H Q E h => ?_) (fun cdv A outer s H vs Q E hr h => ?_)
  · obtain ⟨a, dx, tw, ts, b, rfl, _⟩ := h
    rfl
  obtain ⟨a, dx, tw, ts, b, rfl, ha, q⟩ := h
  refine ⟨_, pss_cons (ps_fld (pv 0) (pv 1) rfl) (pss_cons (ps_fld (pv 0) (pv 2) rfl) (pss_one (ps_fld (pv 0) (pv 3) rfl))), ?_⟩
  refine ⟨_, rfl, _, rfl, a, C, dx, [], rfl, ha, T.o.c.cl, T.nw, (by show 0 < 1000; decide), _, rfl, _, rfl, a, C, dx, _, rfl, upd_same, T.o.c.cl, T.nb, ?_, _, rfl, _, rfl, a, C, dx, _, rfl, upd_same, T.o.c.cl, T.ns, ?_, q _ upd_same fun b hb => by rw [upd_ne hb, upd_ne hb, upd_ne hb]⟩
  · show 1 < 1000
    decide
  · have e : (putF "_but" (.bl b) (putF "_words" tw [])).length = 2 := by
      show (if ("_words" : Str) = "_but" then _ else _ : List (Str × V)).length = 2
      rw [if_neg nwb]
      rfl
    rw [e]
    decide
/-- behind the making -/
theorem kat_made {H6 H7 : Hp} {a dx tw ts : Addr} {m : Ks} (ha : H6 a = none) (hdx : H6 dx = none) (e1 : H7 a = some (.ins C dx (ksf (.ref tw) m.but (.ref ts)))) (e2 : ∀ b, b ≠ a → H7 b = upd (upd H6 dx (.own a)) a (.ins C dx []) b)
    (h1 : SqT K H6 tw (m.ws.map V.str)) (h2 : SqT K H6 ts (m.sz.map V.int)) : Same H6 H7 ∧ KAt K C H7 a m := by
  have s : Same H6 H7 := made_same ha hdx e2
  exact ⟨s, dx, tw, ts, e1, seqT_up s h1, seqT_up s h2⟩
theorem ok_pts {k : Nat} (F : Fun K "parts_of" "parts_of" sPts f fd) (T : KC K mg C fE) : FnOk P w K mg base CX0 (k + 1) f fd ["kinds"] (spPts K C) := by
  refine F.ok scPts (fun vs H Q E h => ?_) (fun cdv A outer s H vs Q E hr h => ?_)
  · obtain ⟨a, m, rfl, _⟩ := h
    rfl
  obtain ⟨a, m, rfl, ⟨dx, tw, ts, ha, hw, hs⟩, q⟩ := h
  refine ⟨_, pss_one (ps_ret (pe_tup (pa_cons (pe_fld (pv 0) rfl) (pa_cons (pe_fld (pv 0) rfl) (pa_cons (pe_fld (pv 0) rfl) pa_nil))))), ?_⟩
  refine ⟨_, rfl, a, C, dx, _, _, rfl, ha, T.o.c.cl, T.nw, ksf_w _ _ _, _, rfl, a, C, dx, _, _, rfl, ha, T.o.c.cl, T.nb, ksf_b _ _ _, _, rfl, a, C, dx, _, _, rfl, ha, T.o.c.cl, T.ns, ksf_s _ _ _, few (by simp), fun t ht => ?_⟩
  have s1 := same_new (o := .tup [.ref tw, .bl m.but, .ref ts]) ht
  exact q t tw ts _ s1 upd_same (seqT_up s1 hw) (seqT_up s1 hs)
theorem ok_lft {k : Nat} (F : Fun K "left_out" "left_out" sLft f fd) (B : Bi mg) : FnOk P w K mg base CX0 (k + 1) f fd ["sizes", "others"] (spLft K) := by
  refine F.ok scLft (fun vs H Q E h => ?_) (fun cdv A outer s H vs Q E hr h => ?_)
  · obtain ⟨a, b, xs, ys, rfl, _⟩ := h
    rfl
  obtain ⟨a, b, xs, ys, rfl, ha, hb, hl, q⟩ := h
  refine ⟨_, pss_one (ps_ret (pe_callTy call_tuple_of (by rfl) B.tup b_tup (pa_cons (pe_lc (own := [("k", 2)]) (g := gName 2) (by rfl) scLft.nd (pi_tup (pv 0))
      (blkOk_by (own := [("k", 2)]) (N := ["sizes", "others", "k"]) (sc := defScope sLft) (by decide +kernel))
      (fun _ _ _ _ _ => pg_name (i := 2) scLft.nd rfl (Or.inl rfl)) (fun _ _ _ _ _ => pts_one (pt_cmpR (op_notInK (K := K) rfl) (pv 2) (pv 1) rfl)) (fun _ _ _ _ _ => pv 2)) pa_nil))), ?_⟩
  refine ⟨_, rfl, a, rfl, ⟨_, ha⟩, fun D hD => along (walk_tup (K := K) (a := a) (xs := xs.map V.int)) (fun i H2 => H2 D = some (.lst (((xs.take i).filter fun k => !decide (k ∈ ys)).map V.int)) ∧ Same H H2) ⟨upd_same, same_new hD _⟩ (fun i H2 _ ⟨_, h⟩ => seqT_up h ha) ?_ ?_⟩
  · rintro i y H2 H3 hi ⟨h1, h2⟩ ⟨rfl, hy⟩
    obtain ⟨x, hx, rfl⟩ := map_get hy
    refine ⟨rfl, _, rfl, _, rfl, b, _, rfl, .inr (seqT_up h2 hb), rfl, flat_ints ys, _, rfl, ?_⟩
    show if (!inV (.int x) (ys.map V.int)) = true then _ else _
    rw [inV_int]
    have tf := take_filter (p := fun k => !decide (k ∈ ys)) hx
    refine ite2 (fun c => ?_) (fun c => ?_)
    · refine ⟨_, rfl, _, h1, ?_, ?_, fun b o z => ?_⟩
      · rw [List.length_map]
        have := List.length_filter_le (fun k => !decide (k ∈ ys)) (xs.take i)
        rw [List.length_take] at this
        exact small1000 (by omega)
      · rw [upd_same, tf, if_pos c, List.map_append]
        rfl
      · rw [upd_ne (ne_of_none z hD)]
        exact h2 b o z
    · refine ⟨?_, h2⟩
      rw [tf, if_neg c, List.append_nil]
      exact h1
  · rintro H2 ⟨h1, h2⟩
    rw [List.length_map, List.take_of_length_le (Nat.le_refl _)] at h1
    exact ⟨D, _, rfl, .inl ⟨SqL.of h1, fun t ht => q t _ (h2.trans (same_new ht _)) upd_same⟩⟩
end
theorem pe_fldK {X : Cx} {K : PySem.W.Frag} {e : Expr} {ta : TE} {f : Str} {pos : Pos} (h : X.K = K) (he : PE X e ta) (hb : attributeBase e f X.env (eval e X.env) = eval e X.env) : PE X (.Attribute e f pos) (tFld K ta f) := by
  subst h
  exact pe_fld he hb
section
variable {P : Program} {w : World} {K : PySem.W.Frag} {mg : Str → Option Value} {base : Heap} {f C fE fI tW fP fL fN fA fB : Addr} {fd dI dP dL dN dA dB : FuncData}
theorem ok_but {k : Nat} (F : Fun K "all_but" "all_but" sBut f fd) (B : Bi mg) (T : KC K mg C fE) (M : MkK P w K mg base C fI dI) (mW : mg "WORDS" = some (.ref tW)) (hW : ∀ H, SqT K H tW (kW.map V.str))
    (GP : Dn P w K mg base 1 "parts_of" ["kinds"] (spPts K C) fP dP) : FnOk P w K mg base CX0 (k + 3) f fd ["kinds"] (spBut K C) := by
  refine F.ok scBut (fun vs H Q E h => ?_) (fun cdv A outer s H vs Q E hr h => ?_)
  · obtain ⟨a, m, f, g, rfl, _⟩ := h
    rfl
  obtain ⟨a, m, f, g, rfl, ha, rm, q⟩ := h
  have hr1 : Room 1 _ := hr.mono (by omega)
  have hr2 : Room (1 + 1) _ := hr.mono (by omega)
  refine ⟨_, pss_cons (ps_asg (pe_call GP.ok hr1 (by rfl) GP.mg GP.kp GP.bd .nil pass0 (pa_cons (pv 0) pa_nil)) (pg_tup (by rfl) (pgs_cons (pg_name (i := 1) scBut.nd rfl (.inr rfl)) (pgs_cons (pg_name (i := 2) scBut.nd rfl (.inl rfl)) (pgs_cons (pg_name (i := 3) scBut.nd rfl (.inl rfl)) pgs_nil)))))
    (pss_one (ps_ret (pe_make M.mkr M.ok hr2 (by rfl) T.mg M.bd .nil pass0 (pa_cons (pe_callTy call_tuple_of (by rfl) B.tup b_tup (pa_cons (pe_lc (own := [("word", 4)]) (g := gName 4) (by rfl) scBut.nd (pi_tup (pe_glob (by rfl) mW (v := .ref tW) rfl))
      (blkOk_by (own := [("word", 4)]) (N := ["kinds", "words", "but", "sizes", "word"]) (sc := defScope sBut) (by decide +kernel))
      (fun _ _ _ _ _ => pg_name (i := 4) scBut.nd rfl (Or.inl rfl)) (fun _ _ _ _ _ => pts_one (pt_cmpR (op_notInK (K := K) rfl) (pv 4) (pv 1) rfl)) (fun _ _ _ _ _ => pv 4)) pa_nil)) (pa_cons (pe_not (pv 2)) (pa_cons (pv 3) pa_nil)))))), ?_⟩
  refine ⟨_, rfl, a, m, rfl, ha, fun t tw ts H1 s1 ht hw hs => ?_⟩
  refine ⟨t, _, rfl, .inl (.inl ht), rfl, _, _, rfl, _, _, rfl, _, _, rfl, rfl, ?_⟩
  refine ⟨tW, rfl, ⟨_, hW _⟩, fun D hD => along (walk_tup (K := K) (a := tW) (xs := kW.map V.str)) (fun i H2 => H2 D = some (.lst (((kW.take i).filter fun k => !decide (k ∈ m.ws)).map V.str)) ∧ Same H1 H2) ⟨upd_same, same_new hD _⟩ (fun i H2 _ _ => hW _) ?_ ?_⟩
  · rintro i y H2 H3 hi ⟨h1, h2⟩ ⟨rfl, hy⟩
    obtain ⟨x, hx, rfl⟩ := map_get hy
    refine ⟨rfl, _, rfl, _, rfl, tw, _, rfl, .inr (seqT_up h2 hw), rfl, flat_strs m.ws, _, rfl, ?_⟩
    show if (!inV (.str x) (m.ws.map V.str)) = true then _ else _
    rw [inV_str]
    have tf := take_filter (p := fun k => !decide (k ∈ m.ws)) hx
    refine ite2 (fun c => ?_) (fun c => ?_)
    · refine ⟨_, rfl, _, h1, ?_, ?_, fun b o z => ?_⟩
      · rw [List.length_map]
        have := List.length_filter_le (fun k => !decide (k ∈ m.ws)) (kW.take i)
        rw [List.length_take] at this
        have e3 : kW.length = 3 := rfl
        exact small1000 (by omega)
      · rw [upd_same, tf, if_pos c, List.map_append]
        rfl
      · rw [upd_ne (ne_of_none z hD)]
        exact h2 b o z
    · refine ⟨?_, h2⟩
      rw [tf, if_neg c, List.append_nil]
      exact h1
  · rintro H2 ⟨h1, h2⟩
    have e0 : (kW.take (kW.map V.str).length) = kW := rfl
    rw [e0, rm.w, ws_not] at h1
    refine ⟨D, _, rfl, .inl ⟨SqL.of h1, fun t2 ht2 => ?_⟩⟩
    have s3 := h2.trans (same_new (o := .tup ((kW.filter fun w => !f w).map V.str)) ht2)
    refine ⟨_, rfl, _, rfl, _, rfl, fun x dx hx hdx ne => ⟨x, dx, .ref t2, .ref ts, !m.but, rfl, upd_same, fun H7 e1 e2 => ⟨rfl, ?_⟩⟩⟩
    obtain ⟨s4, kt⟩ := kat_made (m := ⟨kW.filter fun w => !f w, !m.but, m.sz⟩) hx hdx e1 e2 (.inl (.inl upd_same)) (seqT_up s3 hs)
    exact q x _ _ (s1.trans (s3.trans s4)) kt (rep_not rm)
theorem ok_or {k : Nat} (F : Fun K "__or__" "Kinds.__or__" sOr f fd) (T : KC K mg C fE) (GN : Dn P w K mg base 3 "all_but" ["kinds"] (spBut K C) fN dN) (A : Meth K C "__and__" fA)
    (GA : FnOk P w K mg base CX0 3 fA dA ["self", "other"] (spKK K C and)) (bA : Binds K dA ["self", "other"] []) : FnOk P w K mg base CX0 (k + 4) f fd ["self", "other"] (spKK K C or) := by
  refine F.ok scOr (fun vs H Q E h => ?_) (fun cdv A' outer s H vs Q E hr h => ?_)
  · obtain ⟨a, b, m, n, f, g, f', g', rfl, _⟩ := h
    rfl
  obtain ⟨a, b, m, n, f, g, f', g', rfl, ha, hb, rm, rn, q⟩ := h
  have hr3 : Room 3 _ := hr.mono (by omega)
  refine ⟨_, pss_one (ps_ret (pe_call GN.ok hr3 (by rfl) GN.mg GN.kp GN.bd .nil pass0 (pa_cons (pe_op (op_binO rfl T.sf A GA bA hr3) (pe_call GN.ok hr3 (by rfl) GN.mg GN.kp GN.bd .nil pass0 (pa_cons (pv 0) pa_nil))
    (pe_call GN.ok hr3 (by rfl) GN.mg GN.kp GN.bd .nil pass0 (pa_cons (pv 1) pa_nil))) pa_nil))), ?_⟩
  refine ⟨_, rfl, a, m, f, g, rfl, ha, rm, fun c1 r1 H1 s1 k1 p1 => ?_⟩
  refine ⟨_, rfl, b, n, f', g', rfl, hb.up s1, rn, fun c2 r2 H2 s2 k2 p2 => ?_⟩
  have k1' := k1.up s2
  obtain ⟨dx1, tw1, ts1, i1, _⟩ := id k1'
  obtain ⟨dx2, tw2, ts2, i2, _⟩ := id k2
  refine ⟨c1, dx1, _, c2, dx2, _, rfl, rfl, i1, i2, c1, c2, r1, r2, _, _, _, _, rfl, k1', k2, p1, p2, fun c3 r3 H3 s3 k3 p3 => ⟨⟨c3, rfl⟩, ?_⟩⟩
  refine ⟨c3, r3, _, _, rfl, k3, p3, fun c4 r4 H4 s4 k4 p4 => q c4 r4 H4 (s1.trans (s2.trans (s3.trans s4))) k4 (p4.congr (fun w => ?_) (fun k => ?_))⟩
  · cases f w <;> cases f' w <;> rfl
  · cases g k <;> cases g' k <;> rfl
theorem ok_sub {k : Nat} (F : Fun K "__sub__" "Kinds.__sub__" sSub f fd) (T : KC K mg C fE) (GN : Dn P w K mg base 3 "all_but" ["kinds"] (spBut K C) fN dN) (A : Meth K C "__and__" fA)
    (GA : FnOk P w K mg base CX0 3 fA dA ["self", "other"] (spKK K C and)) (bA : Binds K dA ["self", "other"] []) : FnOk P w K mg base CX0 (k + 4) f fd ["self", "other"] (spKK K C fun x y => x && !y) := by
  refine F.ok scSub (fun vs H Q E h => ?_) (fun cdv A' outer s H vs Q E hr h => ?_)
  · obtain ⟨a, b, m, n, f, g, f', g', rfl, _⟩ := h
    rfl
  obtain ⟨a, b, m, n, f, g, f', g', rfl, ha, hb, rm, rn, q⟩ := h
  have hr3 : Room 3 _ := hr.mono (by omega)
  refine ⟨_, pss_one (ps_ret (pe_op (op_binO rfl T.sf A GA bA hr3) (pv 0) (pe_call GN.ok hr3 (by rfl) GN.mg GN.kp GN.bd .nil pass0 (pa_cons (pv 1) pa_nil)))), ?_⟩
  refine ⟨_, rfl, _, rfl, b, n, f', g', rfl, hb, rn, fun c2 r2 H2 s2 k2 p2 => ?_⟩
  have k1 := ha.up s2
  obtain ⟨dx1, tw1, ts1, i1, _⟩ := id k1
  obtain ⟨dx2, tw2, ts2, i2, _⟩ := id k2
  exact ⟨a, dx1, _, c2, dx2, _, rfl, rfl, i1, i2, a, c2, m, r2, _, _, _, _, rfl, k1, k2, rm, p2, fun c3 r3 H3 s3 k3 p3 => ⟨⟨c3, rfl⟩, q c3 r3 H3 (s2.trans s3) k3 p3⟩⟩
end
theorem lft_nodup {a b : List Int} (ha : a.Pairwise (· < ·)) (hb : b.Pairwise (· < ·)) : (a ++ b.filter fun k => !decide (k ∈ a)).Nodup := by
  refine List.nodup_append.mpr ⟨srt_nodup ha, srt_nodup (srt_filter _ hb), fun x hx y hy e => ?_⟩
  have h := (List.mem_filter.mp hy).2
  rw [← e, decide_eq_true hx] at h
  cases h
theorem mem_lft {a b : List Int} (k : Int) : k ∈ a ++ b.filter (fun k => !decide (k ∈ a)) ↔ k ∈ a ∨ k ∈ b := by
  rw [List.mem_append, List.mem_filter]
  by_cases h : k ∈ a
  · exact ⟨fun _ => .inl h, fun _ => .inl h⟩
  · rw [decide_eq_false h]
    exact ⟨fun z => z.elim .inl fun z => .inr z.1, fun z => z.elim .inl fun z => .inr ⟨z, rfl⟩⟩
section
variable {P : Program} {w : World} {K : PySem.W.Frag} {mg : Str → Option Value} {base : Heap} {f C fE fI fL : Addr} {fd dI dL : FuncData}
theorem ok_and {k : Nat} (F : Fun K "__and__" "Kinds.__and__" sAnd f fd) (B : Bi mg) (T : KC K mg C fE) (M : MkK P w K mg base C fI dI) (hso : mg "sorted" = none)
    (GL : Dn P w K mg base 1 "left_out" ["sizes", "others"] (spLft K) fL dL) : FnOk P w K mg base CX0 (k + 3) f fd ["self", "other"] (spKK K C and) := by
  refine F.ok scAnd (fun vs H Q E h => ?_) (fun cdv A outer s H vs Q E hr h => ?_)
  · obtain ⟨a, b, m, n, f, g, f', g', rfl, _⟩ := h
    rfl
  obtain ⟨a, b, m, n, f, g, f', g', rfl, ha, hb, rm, rn, q⟩ := h
  have hr1 : Room 1 _ := hr.mono (by omega)
  have hr2 : Room (1 + 1) _ := hr.mono (by omega)
  refine ⟨_, pss_cons (ps_set (i := 2) scAnd.nd rfl (.inl rfl) (pe_callTy call_tuple_of (by rfl) B.tup b_tup (pa_cons (pe_lc (own := [("word", 3)]) (g := gName 3) (by rfl) scAnd.nd (pi_tup (pe_fld (pv 0) rfl))
      (blkOk_by (own := [("word", 3)]) (N := ["self", "other", "words", "word", "k"]) (sc := defScope sAnd) (by decide +kernel))
      (fun _ _ _ _ _ => pg_name (i := 3) scAnd.nd rfl (Or.inl rfl)) (fun _ _ _ _ _ => pts_one (pt_cmpR (op_inK (K := K) rfl) (pv 3) (pe_fldK (K := K) rfl (pv 1) rfl) rfl)) (fun _ _ _ _ _ => pv 3)) pa_nil)))
    (pss_cons (ps_if (PW.pt (pw_and (pt_val (pe_fld (pv 0) rfl)) (pw_and1 (pt_val (pe_fld (pv 1) rfl)))))
      (pss_one (ps_ret (pe_make M.mkr M.ok hr2 (by rfl) T.mg M.bd .nil pass0 (pa_cons (pv 2) (pa_cons pe_bl (pa_cons (pe_callTy call_tuple_of (by rfl) B.tup b_tup (pa_cons (pe_callB cr_sortedTu (by rfl) hso (by decide +kernel)
        (pa_cons (pe_op op_catU (pe_fld (pv 0) rfl) (pe_call GL.ok hr1 (by rfl) GL.mg GL.kp GL.bd .nil pass0 (pa_cons (pe_fld (pv 1) rfl) (pa_cons (pe_fld (pv 0) rfl) pa_nil)))) pa_nil)) pa_nil)) pa_nil)))))) pss_nil)
    (pss_cons (ps_if (pt_val (pe_fld (pv 0) rfl)) (pss_one (ps_ret (pe_make M.mkr M.ok hr2 (by rfl) T.mg M.bd .nil pass0 (pa_cons (pv 2) (pa_cons pe_bl (pa_cons (pe_call GL.ok hr1 (by rfl) GL.mg GL.kp GL.bd .nil pass0 (pa_cons (pe_fld (pv 1) rfl) (pa_cons (pe_fld (pv 0) rfl) pa_nil))) pa_nil)))))) pss_nil)
    (pss_cons (ps_if (pt_val (pe_fld (pv 1) rfl)) (pss_one (ps_ret (pe_make M.mkr M.ok hr2 (by rfl) T.mg M.bd .nil pass0 (pa_cons (pv 2) (pa_cons pe_bl (pa_cons (pe_call GL.ok hr1 (by rfl) GL.mg GL.kp GL.bd .nil pass0 (pa_cons (pe_fld (pv 0) rfl) (pa_cons (pe_fld (pv 1) rfl) pa_nil))) pa_nil)))))) pss_nil)
    (pss_one (ps_ret (pe_make M.mkr M.ok hr2 (by rfl) T.mg M.bd .nil pass0 (pa_cons (pv 2) (pa_cons pe_bl (pa_cons (pe_callTy call_tuple_of (by rfl) B.tup b_tup (pa_cons (pe_lc (own := [("k", 4)]) (g := gName 4) (by rfl) scAnd.nd (pi_tup (pe_fld (pv 0) rfl))
      (blkOk_by (own := [("k", 4)]) (N := ["self", "other", "words", "word", "k"]) (sc := defScope sAnd) (by decide +kernel))
      (fun _ _ _ _ _ => pg_name (i := 4) scAnd.nd rfl (Or.inl rfl)) (fun _ _ _ _ _ => pts_one (pt_cmpR (op_inK (K := K) rfl) (pv 4) (pe_fldK (K := K) rfl (pv 1) rfl) rfl)) (fun _ _ _ _ _ => pv 4)) pa_nil)) pa_nil))))))))), ?_⟩
  obtain ⟨dx, tw, ts, ia, hwa, hsa⟩ := id ha
  obtain ⟨dy, tw', ts', ib, hwb, hsb⟩ := id hb
  -- the words
  refine ⟨_, rfl, a, C, dx, _, _, rfl, ia, T.o.c.cl, T.nw, ksf_w _ _ _, tw, rfl, ⟨_, hwa⟩, fun D hD => along (walk_tup (K := K) (a := tw) (xs := m.ws.map V.str)) (fun i H2 => H2 D = some (.lst (((m.ws.take i).filter fun k => decide (k ∈ n.ws)).map V.str)) ∧ Same H H2) ⟨upd_same, same_new hD _⟩ (fun i H2 _ ⟨_, h⟩ => seqT_up h hwa) ?_ ?_⟩
  · rintro i y H2 H3 hi ⟨h1, h2⟩ ⟨rfl, hy⟩
    obtain ⟨x, hx, rfl⟩ := map_get hy
    refine ⟨rfl, _, rfl, _, rfl, b, C, dy, _, _, rfl, h2 _ _ ib, T.o.c.cl, T.nw, ksf_w _ _ _, tw', _, rfl, .inr (seqT_up h2 hwb), rfl, flat_strs n.ws, _, rfl, ?_⟩
    show if inV (.str x) (n.ws.map V.str) = true then _ else _
    rw [inV_str]
    have tf := take_filter (p := fun k => decide (k ∈ n.ws)) hx
    have lw : m.ws.length ≤ 3 := by rw [rm.w]; exact List.length_filter_le _ kW
    refine ite2 (fun c => ?_) (fun c => ?_)
    · refine ⟨_, rfl, _, h1, ?_, ?_, fun b o z => ?_⟩
      · rw [List.length_map]
        have := List.length_filter_le (fun k => decide (k ∈ n.ws)) (m.ws.take i)
        rw [List.length_take] at this
        exact small1000 (by omega)
      · rw [upd_same, tf, if_pos c, List.map_append]
        rfl
      · rw [upd_ne (ne_of_none z hD)]
        exact h2 b o z
    · refine ⟨?_, h2⟩
      rw [tf, if_neg c, List.append_nil]
      exact h1
  · rintro H2 ⟨h1, h2⟩
    rw [List.length_map, List.take_of_length_le (Nat.le_refl _), rm.w, rn.w, ws_and] at h1
    refine ⟨D, _, rfl, .inl ⟨SqL.of h1, fun t ht => ?_⟩⟩
    have s3 := h2.trans (same_new (o := .tup ((kW.filter fun w => f w && f' w).map V.str)) ht)
    have htw : SqT K (upd H2 t (.tup ((kW.filter fun w => f w && f' w).map V.str))) t ((kW.filter fun w => f w && f' w).map V.str) := .inl (.inl upd_same)
    generalize upd H2 t (.tup ((kW.filter fun w => f w && f' w).map V.str)) = H3 at s3 htw
    have ia3 := s3 _ _ ia
    have ib3 := s3 _ _ ib
    have hsa3 := seqT_up s3 hsa
    have hsb3 := seqT_up s3 hsb
    have lm := rm.len
    have ln := rn.len
    have mk : ∀ {H4 H7 : Hp} {x d0 t3 : Addr} {bb : Bool} {zs : List Int}, Same H3 H4 → H4 x = none → H4 d0 = none → SqT K H4 t3 (zs.map V.int) → H7 x = some (.ins C d0 (ksf (.ref t) bb (.ref t3))) → (∀ b, b ≠ x → H7 b = upd (upd H4 d0 (.own x)) x (.ins C d0 []) b) →
        Rep ⟨kW.filter fun w => f w && f' w, bb, zs⟩ (fun w => f w && f' w) (fun k => g k && g' k) → Q (.ref x) H7 := fun {H4 H7 x d0 t3 bb zs} s4 hx hd h3 e1 e2 rp => by
      obtain ⟨s5, kt⟩ := kat_made (m := ⟨kW.filter fun w => f w && f' w, bb, zs⟩) hx hd e1 e2 (seqT_up s4 htw) h3
      exact q x _ _ (s3.trans (s4.trans s5)) kt rp
    refine ⟨_, rfl, a, C, dx, _, _, rfl, ia3, T.o.c.cl, T.nb, ksf_b _ _ _, m.but, rfl, ite2 (fun c => ?A) (fun c => ?B)⟩
    case A =>
      have gm : ∀ k, (!decide (k ∈ m.sz)) = g k := fun k => by
        rw [← rm.s k]
        unfold Ks.hasS
        rw [c]
        cases decide (k ∈ m.sz) <;> rfl
      refine ⟨_, rfl, b, C, dy, _, _, rfl, ib3, T.o.c.cl, T.nb, ksf_b _ _ _, n.but, rfl, ite2 (fun d => ?AA) (fun d => ?AB)⟩
      case AA =>
        refine ⟨_, rfl, _, rfl, a, C, dx, _, _, rfl, ia3, T.o.c.cl, T.ns, ksf_s _ _ _, _, rfl, b, C, dy, _, _, rfl, ib3, T.o.c.cl, T.ns, ksf_s _ _ _, _, rfl, a, C, dx, _, _, rfl, ia3, T.o.c.cl, T.ns, ksf_s _ _ _, ts', ts, n.sz, m.sz, rfl, hsb3, hsa3, by omega, fun p H4 s4 hp => ?_⟩
        refine ⟨ts, p, _, _, [], rfl, rfl, by rw [cut_nil]; exact seqT_up s4 hsa3, by rw [cut_nil]; exact .inl (.inl hp), fun _ z => absurd z List.not_mem_nil, few2 (by rw [List.length_map, List.length_map]; have := List.length_filter_le (fun k => !decide (k ∈ m.sz)) n.sz; omega), fun c4 H5 s5 hc => ?_⟩
        rw [cut_nil, ← List.map_append] at hc
        refine ⟨c4, _, rfl, hc, by rw [List.length_append]; have := List.length_filter_le (fun k => !decide (k ∈ m.sz)) n.sz; omega, fun ns' p2 perm le hp2 => ?_⟩
        refine ⟨p2, _, rfl, .inl ⟨SqL.of upd_same, fun t3 ht3 => ?_⟩⟩
        refine fun x d0 hx hdx ne => ⟨x, d0, .ref t, .ref t3, true, rfl, upd_same, fun H7 e1 e2 => ⟨rfl, ?_⟩⟩
        exact mk (s4.trans (s5.trans ((same_new hp2 _).trans (same_new ht3 _)))) hx hdx (.inl (.inl upd_same)) e1 e2 (rep_bb rm rn c d (srt_of perm le (lft_nodup rm.srt rn.srt)) fun k => by rw [perm.mem_iff]; exact mem_lft k)
      case AB =>
        have d := Bool.eq_false_iff.mpr d
        refine ⟨_, rfl, a, C, dx, _, _, rfl, ia3, T.o.c.cl, T.nb, ksf_b _ _ _, m.but, rfl, ite2 (fun _ => ?_) (fun e => absurd c e)⟩
        refine ⟨_, rfl, _, rfl, b, C, dy, _, _, rfl, ib3, T.o.c.cl, T.ns, ksf_s _ _ _, _, rfl, a, C, dx, _, _, rfl, ia3, T.o.c.cl, T.ns, ksf_s _ _ _, ts', ts, n.sz, m.sz, rfl, hsb3, hsa3, by omega, fun p H4 s4 hp => ?_⟩
        refine fun x d0 hx hdx ne => ⟨x, d0, .ref t, .ref p, false, rfl, upd_same, fun H7 e1 e2 => ⟨rfl, ?_⟩⟩
        exact mk s4 hx hdx (.inl (.inl hp)) e1 e2 ((rep_f rn _ d gm).congr (fun _ => rfl) fun k => Bool.and_comm _ _)
    case B =>
      have c' := Bool.eq_false_iff.mpr c
      refine ⟨_, rfl, a, C, dx, _, _, rfl, ia3, T.o.c.cl, T.nb, ksf_b _ _ _, m.but, rfl, ite2 (fun e => absurd e c) (fun _ => ?_)⟩
      refine ⟨_, rfl, b, C, dy, _, _, rfl, ib3, T.o.c.cl, T.nb, ksf_b _ _ _, n.but, rfl, ite2 (fun d => ?BA) (fun d => ?BB)⟩
      case BA =>
        have gn : ∀ k, (!decide (k ∈ n.sz)) = g' k := fun k => by
          rw [← rn.s k]
          unfold Ks.hasS
          rw [d]
          cases decide (k ∈ n.sz) <;> rfl
        refine ⟨_, rfl, _, rfl, a, C, dx, _, _, rfl, ia3, T.o.c.cl, T.ns, ksf_s _ _ _, _, rfl, b, C, dy, _, _, rfl, ib3, T.o.c.cl, T.ns, ksf_s _ _ _, ts, ts', m.sz, n.sz, rfl, hsa3, hsb3, by omega, fun p H4 s4 hp => ?_⟩
        refine fun x d0 hx hdx ne => ⟨x, d0, .ref t, .ref p, false, rfl, upd_same, fun H7 e1 e2 => ⟨rfl, ?_⟩⟩
        exact mk s4 hx hdx (.inl (.inl hp)) e1 e2 (rep_f rm _ c' gn)
      case BB =>
        have d' := Bool.eq_false_iff.mpr d
        have gn : ∀ k, decide (k ∈ n.sz) = g' k := fun k => by
          rw [← rn.s k]
          unfold Ks.hasS
          rw [d']
          cases decide (k ∈ n.sz) <;> rfl
        refine ⟨_, rfl, _, rfl, a, C, dx, _, _, rfl, ia3, T.o.c.cl, T.ns, ksf_s _ _ _, ts, rfl, ⟨_, hsa3⟩, fun D4 hD4 => along (walk_tup (K := K) (a := ts) (xs := m.sz.map V.int)) (fun i H4 => H4 D4 = some (.lst (((m.sz.take i).filter fun k => decide (k ∈ n.sz)).map V.int)) ∧ Same H3 H4) ⟨upd_same, same_new hD4 _⟩ (fun i H4 _ ⟨_, h⟩ => seqT_up h hsa3) ?_ ?_⟩
        · rintro i y H4 H5 hi ⟨h1, h2⟩ ⟨rfl, hy⟩
          obtain ⟨x, hx, rfl⟩ := map_get hy
          refine ⟨rfl, _, rfl, _, rfl, b, C, dy, _, _, rfl, h2 _ _ ib3, T.o.c.cl, T.ns, ksf_s _ _ _, ts', _, rfl, .inr (seqT_up h2 hsb3), rfl, flat_ints n.sz, _, rfl, ?_⟩
          show if inV (.int x) (n.sz.map V.int) = true then _ else _
          rw [inV_int]
          have tf := take_filter (p := fun k => decide (k ∈ n.sz)) hx
          refine ite2 (fun c => ?_) (fun c => ?_)
          · refine ⟨_, rfl, _, h1, ?_, ?_, fun b o z => ?_⟩
            · rw [List.length_map]
              have := List.length_filter_le (fun k => decide (k ∈ n.sz)) (m.sz.take i)
              rw [List.length_take] at this
              exact small1000 (by omega)
            · rw [upd_same, tf, if_pos c, List.map_append]
              rfl
            · rw [upd_ne (ne_of_none z hD4)]
              exact h2 b o z
          · refine ⟨?_, h2⟩
            rw [tf, if_neg c, List.append_nil]
            exact h1
        · rintro H4 ⟨h1, h2⟩
          rw [List.length_map, List.take_of_length_le (Nat.le_refl _)] at h1
          refine ⟨D4, _, rfl, .inl ⟨SqL.of h1, fun t3 ht3 => ?_⟩⟩
          refine fun x d0 hx hdx ne => ⟨x, d0, .ref t, .ref t3, false, rfl, upd_same, fun H7 e1 e2 => ⟨rfl, ?_⟩⟩
          exact mk (h2.trans (same_new ht3 _)) hx hdx (.inl (.inl upd_same)) e1 e2 (rep_f rm _ c' gn)
end
def inI : PyData → Bool
  | .int _ => true
  | _ => false
/-- whether a thing is a kind in a kind set -/
def hasD (m : Ks) : PyData → Bool
  | .str x => decide (x ∈ m.ws)
  | .int k => decide (0 ≤ k) && m.hasS k
  | _ => false
def ptsD (m : Ks) : PyData := .tuple [.tuple (m.ws.map .str), .bool m.but, .tuple (m.sz.map .int)]
theorem strD {K : PySem.W.Frag} {H : Hp} : ∀ xs : List Str, DpAll K H (xs.map V.str) (xs.map PyData.str)
  | [] => .nil
  | _ :: xs => .cons (.str _) (strD xs)
theorem intD {K : PySem.W.Frag} {H : Hp} : ∀ xs : List Int, DpAll K H (xs.map V.int) (xs.map PyData.int)
  | [] => .nil
  | _ :: xs => .cons (.int _) (intD xs)
theorem pts_dp {K : PySem.W.Frag} {H : Hp} {t tw ts : Addr} {m : Ks} (h : H t = some (.tup [.ref tw, .bl m.but, .ref ts])) (h1 : SqT K H tw (m.ws.map V.str)) (h2 : SqT K H ts (m.sz.map V.int)) : Dp K H (.ref t) (ptsD m) :=
  .tup (.inl (.inl h)) (.cons (.tup h1 (strD _)) (.cons (.bl _) (.cons (.tup h2 (intD _)) .nil)))
theorem gds_str : ∀ xs : List Str, (∀ x ∈ xs, gd (.str x) = true) → gds (xs.map PyData.str) = true ∧ PyData.depthAll (xs.map PyData.str) = 0
  | [], _ => ⟨by simp only [List.map_nil, gds], by simp only [List.map_nil, PyData.depthAll]⟩
  | x :: xs, h => by
    have ih := gds_str xs fun y hy => h y (List.mem_cons_of_mem _ hy)
    exact ⟨by simp only [List.map_cons, gds, h x List.mem_cons_self, ih.1, Bool.and_self], by simp only [List.map_cons, PyData.depthAll, PyData.depth, ih.2, Nat.max_self]⟩
theorem gds_int : ∀ xs : List Int, (∀ x ∈ xs, 0 ≤ x ∧ x ≤ 20) → gds (xs.map PyData.int) = true ∧ PyData.depthAll (xs.map PyData.int) = 0
  | [], _ => ⟨by simp only [List.map_nil, gds], by simp only [List.map_nil, PyData.depthAll]⟩
  | x :: xs, h => by
    have ih := gds_int xs fun y hy => h y (List.mem_cons_of_mem _ hy)
    have hx := h x List.mem_cons_self
    have g := gd_int (i := x) (Nat.lt_of_lt_of_le (by omega : x.natAbs < 2 ^ 10) (Nat.pow_le_pow_right (by decide) (by decide)))
    exact ⟨by simp only [List.map_cons, gds, g, ih.1, Bool.and_self], by simp only [List.map_cons, PyData.depthAll, PyData.depth, ih.2, Nat.max_self]⟩
theorem kW_gd : ∀ x ∈ kW, gd (.str x) = true := by
  intro x hx
  simp only [List.mem_cons, List.not_mem_nil, or_false] at hx
  rcases hx with h | h | h <;> rw [h] <;> simp only [gd] <;> decide +kernel
theorem pts_sh {m : Ks} {f : Str → Bool} {g : Int → Bool} (r : Rep m f g) : SeqAt.shaped (ptsD m) = true := by
  have h1 := gds_str m.ws fun x hx => kW_gd x (by rw [r.w] at hx; exact (List.mem_filter.mp hx).1)
  have h2 := gds_int m.sz r.bd
  refine shaped_of (by simp only [ptsD, gd, gds, h1.1, h2.1, Bool.and_self]) ?_
  simp only [ptsD, PyData.depth, PyData.depthAll, h1.2, h2.2]
  omega
theorem eqv_strs : ∀ a b : List Str, PyData.eqvAll (a.map PyData.str) (b.map PyData.str) = decide (a = b)
  | [], [] => by simp only [List.map_nil, PyData.eqvAll]; rfl
  | [], _ :: _ => by simp only [List.map_nil, List.map_cons, PyData.eqvAll]; rfl
  | _ :: _, [] => by simp only [List.map_nil, List.map_cons, PyData.eqvAll]; rfl
  | x :: a, y :: b => by
    simp only [List.map_cons, PyData.eqvAll, PyData.eqv, eqv_strs a b]
    by_cases h : x = y
    · rw [h, beq_self_eq_true, Bool.true_and]
      exact decide_eq_decide.mpr ⟨fun z => by rw [z], fun z => (List.cons.inj z).2⟩
    · rw [beq_eq_false_iff_ne.mpr h, Bool.false_and, decide_eq_false fun z => h (List.cons.inj z).1]
theorem eqv_ints : ∀ a b : List Int, PyData.eqvAll (a.map PyData.int) (b.map PyData.int) = decide (a = b)
  | [], [] => by simp only [List.map_nil, PyData.eqvAll]; rfl
  | [], _ :: _ => by simp only [List.map_nil, List.map_cons, PyData.eqvAll]; rfl
  | _ :: _, [] => by simp only [List.map_nil, List.map_cons, PyData.eqvAll]; rfl
  | x :: a, y :: b => by
    simp only [List.map_cons, PyData.eqvAll, PyData.eqv, eqv_ints a b]
    by_cases h : x = y
    · rw [h, beq_self_eq_true, Bool.true_and]
      exact decide_eq_decide.mpr ⟨fun z => by rw [z], fun z => (List.cons.inj z).2⟩
    · rw [beq_eq_false_iff_ne.mpr h, Bool.false_and, decide_eq_false fun z => h (List.cons.inj z).1]
instance : DecidableEq Ks := fun a b => by
  cases a; cases b
  rw [Ks.mk.injEq]
  infer_instance
theorem pts_eqv (m n : Ks) : PyData.eqv (ptsD m) (ptsD n) = decide (m = n) := by
  simp only [ptsD, PyData.eqv, PyData.eqvAll, eqv_strs, eqv_ints, Bool.and_true]
  obtain ⟨a, b, c⟩ := m
  obtain ⟨a', b', c'⟩ := n
  by_cases h1 : a = a'
  · by_cases h2 : b = b'
    · by_cases h3 : c = c'
      · subst h1 h2 h3
        simp
      · rw [decide_eq_false h3, Bool.and_false, Bool.and_false, decide_eq_false fun z => h3 (Ks.mk.inj z).2.2]
    · rw [beq_eq_false_iff_ne.mpr h2, Bool.false_and, Bool.and_false, decide_eq_false fun z => h2 (Ks.mk.inj z).2.1]
  · rw [decide_eq_false h1, Bool.false_and, decide_eq_false fun z => h1 (Ks.mk.inj z).1]
def Ks.any (m : Ks) : Bool := !m.ws.isEmpty || (m.but || !m.sz.isEmpty)
def spHas (K : PySem.W.Frag) (C : Addr) : Sp := fun vs H Q _ => ∃ a y m d, vs = [.ref a, y] ∧ KAt K C H a m ∧ Dp K H y d ∧ ∀ H', Same H H' → Q (.bl (hasD m d)) H'
def spEqK (K : PySem.W.Frag) (C : Addr) : Sp := fun vs H Q _ => ∃ a y m f g, vs = [.ref a, y] ∧ KAt K C H a m ∧ Rep m f g ∧
  ((∃ d, Dp K H y d ∧ ∀ H', Same H H' → Q (.bl false) H') ∨ ∃ b n f' g', y = .ref b ∧ KAt K C H b n ∧ Rep n f' g' ∧ ∀ H', Same H H' → Q (.bl (decide (m = n))) H')
def spBol (K : PySem.W.Frag) (C : Addr) : Sp := fun vs H Q _ => ∃ a m, vs = [.ref a] ∧ KAt K C H a m ∧ ∀ H', Same H H' → Q (.bl m.any) H'
def spWth (K : PySem.W.Frag) (C : Addr) : Sp := fun vs H Q _ => ∃ a b m n f g f' g', vs = [.ref a, .ref b] ∧ KAt K C H a m ∧ KAt K C H b n ∧ Rep m f g ∧ Rep n f' g' ∧
  ∀ r H', Same H H' → Rep r (fun w => f w && !f' w) (fun k => g k && !g' k) → Q (.bl (!r.any)) H'
section
variable {P : Program} {w : World} {K : PySem.W.Frag} {mg : Str → Option Value} {base : Heap} {f C fE fI tW fP fS fB fN : Addr} {fd dI dP dS dB dN : FuncData}
theorem ok_int {k : Nat} (F : Fun K "is_integer" "is_integer" sInt f fd) (B : Bi mg) : FnOk P w K mg base CX0 (k + 1) f fd ["thing"] (spLook K (fun _ => True) fun d => .bl (inI d)) := by
  refine F.ok scInt (fun vs H Q E h => ?_) (fun cdv A outer s H vs Q E hr h => ?_)
  · obtain ⟨v, d, rfl, _⟩ := h
    rfl
  obtain ⟨v, d, rfl, hd, _, q⟩ := h
  refine ⟨_, pss_one (ps_ret (pe_and (pe_callB call_isD (by rfl) B.ii b_ii (pa_cons (pv 0) (pa_cons (pe_bltn (by rfl) B.int b_int (v := .ty "int") rfl) pa_nil)))
    (pe_one (pe_not (pe_callB call_isD (by rfl) B.ii b_ii (pa_cons (pv 0) (pa_cons (pe_bltn (by rfl) B.bool b_bool (v := .ty "bool") rfl) pa_nil))))))), ?_⟩
  refine ⟨_, rfl, v, d, "int", _, rfl, hd, kit_int d, _, rfl, ?_⟩
  have q : Q (.bl (inI d)) H := q H (Same.refl H)
  cases hs : isIntB d with
  | false =>
    have e : inI d = false := by cases d <;> first | rfl | cases hs
    rw [e] at q
    exact iteF q
  | true =>
    refine iteT ⟨_, rfl, v, d, "bool", _, rfl, hd, kit_bool d, _, rfl, ?_⟩
    have e : inI d = !isBool d := by cases d <;> first | rfl | cases hs
    rw [e] at q
    exact q
theorem ok_has {k : Nat} (F : Fun K "__contains__" "Kinds.__contains__" sHas f fd) (B : Bi mg) (T : KC K mg C fE) (GN : Dn P w K mg base 1 "is_integer" ["thing"] (spLook K (fun _ => True) fun d => .bl (inI d)) fN dN) :
    FnOk P w K mg base CX0 (k + 2) f fd ["self", "kind"] (spHas K C) := by
  refine F.ok scHas (fun vs H Q E h => ?_) (fun cdv A outer s H vs Q E hr h => ?_)
  · obtain ⟨a, y, m, d, rfl, _⟩ := h
    rfl
  obtain ⟨a, y, m, d, rfl, ⟨dx, tw, ts, ia, hw, hs⟩, hd, q⟩ := h
  have hr1 : Room 1 _ := hr.mono (by omega)
  refine ⟨_, pss_cons (ps_if (pt_val (pe_callB call_isD (by rfl) B.ii b_ii (pa_cons (pv 1) (pa_cons (pe_bltn (by rfl) B.str b_str (v := .ty "str") rfl) pa_nil)))) (pss_one (ps_ret (pe_cmpR op_in_seq (pv 1) (pe_fld (pv 0) rfl) rfl))) pss_nil)
    (pss_cons (ps_if (PW.pt (pw_or (pt_not (pt_val (pe_call GN.ok hr1 (by rfl) GN.mg GN.kp GN.bd .nil pass0 (pa_cons (pv 1) pa_nil)))) (pw_or1 (pt_cmpR op_lt (pv 1) pe_int (nomark _))))) (pss_one (ps_ret pe_bl)) pss_nil)
    (pss_one (ps_ret (pe_cmpR op_ne (pe_cmpR op_in_seq (pv 1) (pe_fld (pv 0) rfl) rfl) (pe_fld (pv 0) rfl) (nomark _))))), ?_⟩
  refine ⟨_, rfl, y, d, "str", _, rfl, hd, kit_str d, _, rfl, ?_⟩
  cases hst : isStr d with
  | true =>
    obtain ⟨x, rfl⟩ : ∃ x, d = .str x := by cases d <;> first | exact ⟨_, rfl⟩ | cases hst
    cases hd
    refine iteT ⟨_, rfl, _, rfl, a, C, dx, _, _, rfl, ia, T.o.c.cl, T.nw, ksf_w _ _ _, tw, _, rfl, .inr hw, rfl, flat_strs _, ?_⟩
    show Q (.bl (inV (.str x) (m.ws.map V.str))) H
    rw [inV_str]
    exact q H (Same.refl H)
  | false =>
    refine iteF ⟨_, rfl, y, d, rfl, hd, True.intro, fun H1 s1 => ⟨_, rfl, ?_⟩⟩
    cases hi : inI d with
    | false =>
      refine iteT (iteT ?_)
      have e : hasD m d = false := by cases d <;> first | rfl | (cases hst; done) | (cases hi; done)
      rw [e] at q
      exact q H1 s1
    | true =>
      obtain ⟨x, rfl⟩ : ∃ x, d = .int x := by cases d <;> first | exact ⟨_, rfl⟩ | cases hi
      cases hd
      refine iteF ⟨_, rfl, _, _, rfl, rfl, _, rfl, ?_⟩
      by_cases c : x < 0
      · rw [decide_eq_true c]
        have e : hasD m (.int x) = false := by
          show (decide (0 ≤ x) && m.hasS x) = false
          rw [decide_eq_false (by omega), Bool.false_and]
        rw [e] at q
        exact iteT (q H1 s1)
      · rw [decide_eq_false c]
        have e : hasD m (.int x) = m.hasS x := by
          show (decide (0 ≤ x) && m.hasS x) = _
          rw [decide_eq_true (by omega), Bool.true_and]
        rw [e] at q
        refine iteF ⟨_, rfl, _, rfl, a, C, dx, _, _, rfl, s1 _ _ ia, T.o.c.cl, T.ns, ksf_s _ _ _, ts, _, rfl, .inr (seqT_up s1 hs), rfl, flat_ints _, _, rfl, a, C, dx, _, _, rfl, s1 _ _ ia, T.o.c.cl, T.nb, ksf_b _ _ _, rfl, ?_⟩
        show Q (.bl (!decide (V.bl (inV (.int x) (m.sz.map V.int)) = V.bl m.but))) H1
        rw [inV_int]
        have e2 : (!decide (V.bl (decide (x ∈ m.sz)) = V.bl m.but)) = m.hasS x := by
          unfold Ks.hasS
          cases decide (x ∈ m.sz) <;> cases m.but <;> rfl
        rw [e2]
        exact q H1 s1
theorem ok_eqK {k : Nat} (F : Fun K "__eq__" "Kinds.__eq__" sEqK f fd) (B : Bi mg) (T : KC K mg C fE) (GP : Dn P w K mg base 1 "parts_of" ["kinds"] (spPts K C) fP dP) : FnOk P w K mg base CX0 (k + 2) f fd ["self", "other"] (spEqK K C) := by
  refine F.ok scEqK (fun vs H Q E h => ?_) (fun cdv A outer s H vs Q E hr h => ?_)
  · obtain ⟨a, y, m, f, g, rfl, _⟩ := h
    rfl
  obtain ⟨a, y, m, f, g, rfl, ha, rm, q⟩ := h
  have hr1 : Room 1 _ := hr.mono (by omega)
  refine ⟨_, pss_one (ps_ret (pe_and (pe_callB call_isi (by rfl) B.ii b_ii (pa_cons (pv 1) (pa_cons (pe_glob (by rfl) T.mg (v := .ref C) rfl) pa_nil)))
    (pe_one (pe_cmpR (op_eqD hr.units) (pe_call GP.ok hr1 (by rfl) GP.mg GP.kp GP.bd .nil pass0 (pa_cons (pv 0) pa_nil)) (pe_call GP.ok hr1 (by rfl) GP.mg GP.kp GP.bd .nil pass0 (pa_cons (pv 1) pa_nil)) (nomark _))))), ?_⟩
  rcases q with ⟨d, hd, q⟩ | ⟨b, n, f', g', rfl, hb, rn, q⟩
  · refine ⟨_, rfl, y, .ref C, _, _, false, rfl, .own C, tyD hd, (T.o.of hd).1, _, rfl, iteF (q H (Same.refl H))⟩
  · obtain ⟨dy, tw', ts', ib, hwb, hsb⟩ := id hb
    refine ⟨_, rfl, .ref b, .ref C, _, _, true, rfl, .own C, .base (.ins ib T.o.c.cl T.o.c.ha T.o.c.hn T.o.c.htk T.o.c.hm), T.o.c.me, _, rfl, iteT ?_⟩
    refine ⟨_, rfl, a, m, rfl, ha, fun t tw ts H1 s1 h1 h2 h3 => ⟨_, rfl, b, n, rfl, hb.up s1, fun t2 tw2 ts2 H2 s2 k1 k2 k3 => ?_⟩⟩
    refine ⟨ptsD m, ptsD n, Dp.up s2 _ _ (pts_dp h1 h2 h3), pts_dp k1 k2 k3, pts_sh rm, pts_sh rn, ?_⟩
    rw [pts_eqv]
    exact q H2 (s1.trans s2)
theorem ok_bol {k : Nat} (F : Fun K "__bool__" "Kinds.__bool__" sBol f fd) (B : Bi mg) (T : KC K mg C fE) : FnOk P w K mg base CX0 (k + 1) f fd ["self"] (spBol K C) := by
  refine F.ok scBol (fun vs H Q E h => ?_) (fun cdv A outer s H vs Q E hr h => ?_)
  · obtain ⟨a, m, rfl, _⟩ := h
    rfl
  obtain ⟨a, m, rfl, ⟨dx, tw, ts, ia, hw, hs⟩, q⟩ := h
  refine ⟨_, pss_one (ps_ret (pe_or (pe_callTy call_boolTu (by rfl) B.bool b_bool (pa_cons (pe_fld (pv 0) rfl) pa_nil)) (pe_or (pe_callTy call_bool1 (by rfl) B.bool b_bool (pa_cons (pe_fld (pv 0) rfl) pa_nil))
    (pe_one (pe_callTy call_boolTu (by rfl) B.bool b_bool (pa_cons (pe_fld (pv 0) rfl) pa_nil)))))), ?_⟩
  have q : Q (.bl m.any) H := q H (Same.refl H)
  unfold Ks.any at q
  refine ⟨_, rfl, a, C, dx, _, _, rfl, ia, T.o.c.cl, T.nw, ksf_w _ _ _, tw, _, rfl, hw, _, rfl, ?_⟩
  rw [List.isEmpty_map]
  cases he : m.ws.isEmpty with
  | false =>
    rw [he] at q
    exact iteT q
  | true =>
    rw [he] at q
    refine iteF ⟨_, rfl, a, C, dx, _, _, rfl, ia, T.o.c.cl, T.nb, ksf_b _ _ _, .inr ⟨_, rfl, _, rfl, ?_⟩⟩
    refine ite2 (fun c => ?_) (fun c => ?_)
    · rw [c] at q
      exact q
    · rw [Bool.eq_false_iff.mpr c] at q
      refine ⟨_, rfl, a, C, dx, _, _, rfl, ia, T.o.c.cl, T.ns, ksf_s _ _ _, ts, _, rfl, hs, ?_⟩
      rw [List.isEmpty_map]
      exact q
theorem ok_wth {k : Nat} (F : Fun K "within" "Kinds.within" sWth f fd) (B : Bi mg) (T : KC K mg C fE) (S : Meth K C "__sub__" fS) (GS : FnOk P w K mg base CX0 4 fS dS ["self", "other"] (spKK K C fun x y => x && !y)) (bS : Binds K dS ["self", "other"] [])
    (Bm : Meth K C "__bool__" fB) (GB : FnOk P w K mg base CX0 1 fB dB ["self"] (spBol K C)) (bB : Binds K dB ["self"] []) : FnOk P w K mg base CX0 (k + 5) f fd ["self", "other"] (spWth K C) := by
  refine F.ok scWth (fun vs H Q E h => ?_) (fun cdv A outer s H vs Q E hr h => ?_)
  · obtain ⟨a, b, m, n, f, g, f', g', rfl, _⟩ := h
    rfl
  obtain ⟨a, b, m, n, f, g, f', g', rfl, ha, hb, rm, rn, q⟩ := h
  have hr4 : Room 4 _ := hr.mono (by omega)
  have hr3 : Room (1 + 2) _ := hr.mono (by omega)
  refine ⟨_, pss_one (ps_ret (pe_not (pe_callTy (call_boolO Bm GB bB hr3) (by rfl) B.bool b_bool (pa_cons (pe_op (op_binO rfl T.sf S GS bS hr4) (pv 0) (pv 1)) pa_nil)))), ?_⟩
  obtain ⟨dx1, tw1, ts1, i1, _⟩ := id ha
  obtain ⟨dx2, tw2, ts2, i2, _⟩ := id hb
  refine ⟨_, rfl, _, rfl, a, dx1, _, b, dx2, _, rfl, rfl, i1, i2, a, b, m, n, _, _, _, _, rfl, ha, hb, rm, rn, fun c3 r3 H3 s3 k3 p3 => ⟨⟨c3, rfl⟩, ?_⟩⟩
  obtain ⟨dx3, tw3, ts3, i3, _⟩ := id k3
  exact ⟨c3, dx3, _, rfl, i3, c3, r3, rfl, k3, fun H4 s4 => ⟨_, rfl, _, rfl, q r3 H4 (s3.trans s4) p3⟩⟩
end
theorem rep_all : Rep ⟨kW, true, []⟩ (fun _ => true) (fun _ => true) := ⟨rfl, .nil, fun k h => absurd h List.not_mem_nil, fun k => by simp [Ks.hasS]⟩
theorem rep_tup : Rep ⟨[], true, []⟩ (fun _ => false) (fun _ => true) := ⟨rfl, .nil, fun k h => absurd h List.not_mem_nil, fun k => by simp [Ks.hasS]⟩
theorem rep_size {k : Int} (h0 : 0 ≤ k) (h : k ≤ 20) : Rep ⟨[], false, [k]⟩ (fun _ => false) (fun j => decide (j = k)) := ⟨rfl, List.pairwise_singleton _ _, fun j hj => by
  rw [List.mem_singleton.mp hj]
  exact ⟨h0, h⟩, fun j => by simp [Ks.hasS]⟩
theorem rep_word {x : Str} (h : x ∈ kW) : Rep ⟨[x], false, []⟩ (fun w => decide (w = x)) (fun _ => false) := by
  refine ⟨?_, .nil, fun k h => absurd h List.not_mem_nil, fun k => by simp [Ks.hasS]⟩
  simp only [List.mem_cons, List.not_mem_nil, or_false] at h
  rcases h with h | h | h <;> subst h <;> decide +kernel
def spEvr (K : PySem.W.Frag) (C : Addr) : Sp := fun vs H Q _ => vs = [.ref C] ∧ ∀ c r H', Same H H' → KAt K C H' c r → Rep r (fun _ => true) (fun _ => true) → Q (.ref c) H'
def spOf (K : PySem.W.Frag) (C : Addr) : Sp := fun vs H Q _ => ∃ x, vs = [.ref C, .str x] ∧ ((x = "tuple" ∧ ∀ c r H', Same H H' → KAt K C H' c r → Rep r (fun _ => false) (fun _ => true) → Q (.ref c) H') ∨
  (x ∈ kW ∧ ∀ c r H', Same H H' → KAt K C H' c r → Rep r (fun w => decide (w = x)) (fun _ => false) → Q (.ref c) H'))
def spSzd (K : PySem.W.Frag) (C : Addr) : Sp := fun vs H Q _ => ∃ k, vs = [.ref C, .int k] ∧ 0 ≤ k ∧ k ≤ 20 ∧ ∀ c r H', Same H H' → KAt K C H' c r → Rep r (fun _ => false) (fun j => decide (j = k)) → Q (.ref c) H'
section
variable {P : Program} {w : World} {K : PySem.W.Frag} {mg : Str → Option Value} {base : Heap} {f C fE fI tW : Addr} {fd dI : FuncData}
theorem ok_evr {k : Nat} (F : Fun K "everything" "Kinds.everything" sEvr f fd) (T : KC K mg C fE) (M : MkK P w K mg base C fI dI) (mW : mg "WORDS" = some (.ref tW)) (hW : ∀ H, SqT K H tW (kW.map V.str)) : FnOk P w K mg base CX0 (k + 3) f fd ["cls"] (spEvr K C) := by
  refine F.ok scEvr (fun vs H Q E h => ?_) (fun cdv A outer s H vs Q E hr h => ?_)
  · rw [h.1]
    rfl
  obtain ⟨rfl, q⟩ := h
  have hr2 : Room (1 + 1) _ := hr.mono (by omega)
  refine ⟨_, pss_one (ps_ret (pe_make M.mkr M.ok hr2 (by rfl) T.mg M.bd .nil pass0 (pa_cons (pe_glob (by rfl) mW (v := .ref tW) rfl) (pa_cons pe_bl (pa_cons (pe_tup pa_nil) pa_nil))))), ?_⟩
  refine ⟨by decide, fun t ht => fun x d0 hx hdx ne => ⟨x, d0, .ref tW, .ref t, true, rfl, upd_same, fun H7 e1 e2 => ⟨rfl, ?_⟩⟩⟩
  obtain ⟨s5, kt⟩ := kat_made (m := ⟨kW, true, []⟩) hx hdx e1 e2 (hW _) (.inl (.inl upd_same))
  exact q x _ _ ((same_new ht _).trans s5) kt rep_all
theorem ok_of {k : Nat} (F : Fun K "of" "Kinds.of" sOf f fd) (T : KC K mg C fE) (M : MkK P w K mg base C fI dI) : FnOk P w K mg base CX0 (k + 3) f fd ["cls", "word"] (spOf K C) := by
  refine F.ok scOf (fun vs H Q E h => ?_) (fun cdv A outer s H vs Q E hr h => ?_)
  · obtain ⟨x, rfl, _⟩ := h
    rfl
  obtain ⟨x, rfl, q⟩ := h
  have hr2 : Room (1 + 1) _ := hr.mono (by omega)
  refine ⟨_, pss_cons (ps_if (pt_cmpR op_eq (pv 1) pe_str (nomark _)) (pss_one (ps_ret (pe_make M.mkr M.ok hr2 (by rfl) T.mg M.bd .nil pass0 (pa_cons (pe_tup pa_nil) (pa_cons pe_bl (pa_cons (pe_tup pa_nil) pa_nil)))))) pss_nil)
    (pss_one (ps_ret (pe_make M.mkr M.ok hr2 (by rfl) T.mg M.bd .nil pass0 (pa_cons (pe_tup (pa_cons (pv 1) pa_nil)) (pa_cons pe_bl (pa_cons (pe_tup pa_nil) pa_nil)))))), ?_⟩
  have dst : ∀ y : Str, decide (V.str x = V.str y) = decide (x = y) := fun y => by
    by_cases h : x = y
    · rw [decide_eq_true h, decide_eq_true (congrArg V.str h)]
    · rw [decide_eq_false h, decide_eq_false fun z => h (V.str.inj z)]
  refine ⟨_, rfl, rfl, _, rfl, ?_⟩
  rw [dst]
  rcases q with ⟨rfl, q⟩ | ⟨hx, q⟩
  · rw [decide_eq_true rfl]
    refine iteT ⟨by decide, fun t ht => ⟨by decide, fun t2 ht2 => fun x d0 hx hdx ne => ⟨x, d0, .ref t, .ref t2, true, rfl, upd_same, fun H7 e1 e2 => ⟨rfl, ?_⟩⟩⟩⟩
    have s2 := same_new (o := .tup []) ht2
    obtain ⟨s5, kt⟩ := kat_made (m := ⟨[], true, []⟩) hx hdx e1 e2 (.inl (.inl (s2 _ _ upd_same))) (.inl (.inl upd_same))
    exact q x _ _ ((same_new ht _).trans (s2.trans s5)) kt rep_tup
  · have nx : ¬ x = "tuple" := fun z => by
      rw [z] at hx
      revert hx
      decide +kernel
    rw [decide_eq_false nx]
    refine iteF ⟨_, rfl, few (by simp), fun t ht => ⟨by decide, fun t2 ht2 => fun y d0 hy hdx ne => ⟨y, d0, .ref t, .ref t2, false, rfl, upd_same, fun H7 e1 e2 => ⟨rfl, ?_⟩⟩⟩⟩
    have s2 := same_new (o := .tup []) ht2
    obtain ⟨s5, kt⟩ := kat_made (m := ⟨[x], false, []⟩) hy hdx e1 e2 (.inl (.inl (s2 _ _ upd_same))) (.inl (.inl upd_same))
    exact q y _ _ ((same_new ht _).trans (s2.trans s5)) kt (rep_word hx)
theorem ok_szd {k : Nat} (F : Fun K "sized" "Kinds.sized" sSzd f fd) (T : KC K mg C fE) (M : MkK P w K mg base C fI dI) : FnOk P w K mg base CX0 (k + 3) f fd ["cls", "k"] (spSzd K C) := by
  refine F.ok scSzd (fun vs H Q E h => ?_) (fun cdv A outer s H vs Q E hr h => ?_)
  · obtain ⟨x, rfl, _⟩ := h
    rfl
  obtain ⟨x, rfl, h0, h20, q⟩ := h
  have hr2 : Room (1 + 1) _ := hr.mono (by omega)
  refine ⟨_, pss_one (ps_ret (pe_make M.mkr M.ok hr2 (by rfl) T.mg M.bd .nil pass0 (pa_cons (pe_tup pa_nil) (pa_cons pe_bl (pa_cons (pe_tup (pa_cons (pv 1) pa_nil)) pa_nil))))), ?_⟩
  refine ⟨by decide, fun t ht => ⟨_, rfl, few (by simp), fun t2 ht2 => fun y d0 hy hdx ne => ⟨y, d0, .ref t, .ref t2, false, rfl, upd_same, fun H7 e1 e2 => ⟨rfl, ?_⟩⟩⟩⟩
  have s2 := same_new (o := .tup [.int x]) ht2
  obtain ⟨s5, kt⟩ := kat_made (m := ⟨[], false, [x]⟩) hy hdx e1 e2 (.inl (.inl (s2 _ _ upd_same))) (.inl (.inl upd_same))
  exact q y _ _ ((same_new ht _).trans (s2.trans s5)) kt (rep_size h0 h20)
end
theorem scTxt : FnScope ["kinds", "words", "but", "sizes", "texts", "heads", "word", "k"] ["kinds"] (defScope sTxt) := ⟨rfl, rfl, rfl, by decide +kernel, rfl, by decide +kernel, by decide +kernel⟩
theorem joinL_len {S : List Nat} {b : Nat} : ∀ ps : List (List Nat), (∀ p ∈ ps, p.length ≤ b) → (TL.joinL S ps).length ≤ ps.length * (b + S.length)
  | [], _ => Nat.zero_le _
  | [p], h => by
    have := h p List.mem_cons_self
    show p.length ≤ 1 * (b + S.length)
    omega
  | p :: q :: r, h => by
    have ih := joinL_len (S := S) (b := b) (q :: r) fun x hx => h x (List.mem_cons_of_mem _ hx)
    have := h p List.mem_cons_self
    show (p ++ (S ++ TL.joinL S (q :: r))).length ≤ _
    rw [List.length_append, List.length_append, List.length_cons (a := p), Nat.succ_mul]
    omega
theorem join_len {a : Str} {b : Nat} (ys : List Str) (h : ∀ y ∈ ys, y.length ≤ b) : (Txt.join a ys).length ≤ ys.length * (b + a.length) := by
  rw [TL.join_eq, TL.len_tl, TL.tl_join, TL.len_tl a]
  have q := joinL_len (S := TL.tl a) (b := b) (ys.map TL.tl) fun p hp => by
    obtain ⟨y, hy, rfl⟩ := List.mem_map.mp hp
    rw [← TL.len_tl]
    exact h y hy
  rwa [List.length_map] at q
theorem sum_len {b : Nat} : ∀ ys : List Str, (∀ y ∈ ys, y.length ≤ b) → (ys.map (·.length)).sum ≤ ys.length * b
  | [], _ => Nat.zero_le _
  | y :: ys, h => by
    have ih := sum_len ys fun z hz => h z (List.mem_cons_of_mem _ hz)
    have := h y List.mem_cons_self
    rw [List.map_cons, List.sum_cons, List.length_cons, Nat.succ_mul]
    omega
theorem small_txt : ∀ n : Fin 21, (toString ((n.val : Nat) : Int) : Str).length ≤ 5 := by decide +kernel
theorem small_int {k : Int} (h0 : 0 ≤ k) (h : k ≤ 20) : (toString k : Str).length ≤ 5 := by
  have e : k = ((k.toNat : Nat) : Int) := by omega
  rw [e]
  exact small_txt ⟨k.toNat, by omega⟩
theorem kW_len : ∀ x ∈ kW, x.length ≤ 200 := by decide +kernel
theorem seqT_putL {K : PySem.W.Frag} {H : Hp} {D tw : Addr} {xs ws : List V} {o : HO} (hD : H D = some (.lst xs)) (h : SqT K H tw ws) : SqT K (upd H D o) tw ws := by
  rcases h with (h | ⟨u, h⟩) | h
  · exact .inl (.inl (by rw [upd_ne (fun z => by rw [z, hD] at h; cases h)]; exact h))
  · exact .inl (.inr ⟨u, by rw [upd_ne (fun z => by rw [z, hD] at h; cases h)]; exact h⟩)
  · exact .inr h
def spTxt (K : PySem.W.Frag) (C : Addr) : Sp := fun vs H Q _ => ∃ a m f g, vs = [.ref a] ∧ KAt K C H a m ∧ Rep m f g ∧ ∀ x H', Same H H' → Q (.str x) H'
section
variable {P : Program} {w : World} {K : PySem.W.Frag} {mg : Str → Option Value} {base : Heap} {f C fE fI fP fT : Addr} {fd dI dP dT : FuncData}
theorem ok_txt {k : Nat} (F : Fun K "text_of" "text_of" sTxt f fd) (B : Bi mg) (T : KC K mg C fE) (GP : Dn P w K mg base 1 "parts_of" ["kinds"] (spPts K C) fP dP) : FnOk P w K mg base CX0 (k + 2) f fd ["kinds"] (spTxt K C) := by
  refine F.ok scTxt (fun vs H Q E h => ?_) (fun cdv A outer s H vs Q E hr h => ?_)
  · obtain ⟨a, m, f, g, rfl, _⟩ := h
    rfl
  obtain ⟨a, m, f, g, rfl, ha, rm, q⟩ := h
  have hr1 : Room 1 _ := hr.mono (by omega)
  refine ⟨_, pss_cons (ps_asg (pe_call GP.ok hr1 (by rfl) GP.mg GP.kp GP.bd .nil pass0 (pa_cons (pv 0) pa_nil)) (pg_tup (by rfl) (pgs_cons (pg_name (i := 1) scTxt.nd rfl (.inl rfl)) (pgs_cons (pg_name (i := 2) scTxt.nd rfl (.inl rfl)) (pgs_cons (pg_name (i := 3) scTxt.nd rfl (.inl rfl)) pgs_nil)))))
    (pss_cons (ps_setLc (i := 4) (own := [("word", 6)]) (g := gName 6) (by rfl) scTxt.nd rfl rfl (sw_true rfl rfl rfl (by decide +kernel)) (pi_tup (pv 1))
      (blkOk_by (own := [("word", 6)]) (N := ["kinds", "words", "but", "sizes", "texts", "heads", "word", "k"]) (sc := defScope sTxt) (by decide +kernel))
      (fun _ _ _ _ _ => pg_name (i := 6) scTxt.nd rfl (Or.inl rfl)) (fun _ _ _ _ _ => pts_one (pt_cmpR op_ne (pv 6) pe_str (nomark _))) (fun _ _ _ _ _ => pv 6))
    (pss_cons (ps_if (PW.pt (pw_or (pt_val (pv 2)) (pw_or1 (pt_truth (pv 3) (fun _ => rfl)))))
      (pss_cons (ps_set (i := 5) scTxt.nd rfl (.inl rfl) (pe_ifExp (PW.pt (pw_and (pt_val (pv 2)) (pw_and1 (pt_truth (pv 3) (fun _ => rfl))))) (pe_lst (pa_cons pe_str (pa_cons pe_str pa_nil))) (pe_lst (pa_cons pe_str pa_nil))))
      (pss_one (ps_expr (pe_bm PySem.F.plainAttrs_list PySem.F.slot_list_append PySem.F.type_list_append mt_append (pv 4) (pa_cons (pe_join pe_str (pe_op op_cat (pv 5) (pe_lc (own := [("k", 7)]) (g := gName 7) (by rfl) scTxt.nd (pi_tup (pv 3))
        (blkOk_by (own := [("k", 7)]) (N := ["kinds", "words", "but", "sizes", "texts", "heads", "word", "k"]) (sc := defScope sTxt) (by decide +kernel))
        (fun _ _ _ _ _ => pg_name (i := 7) scTxt.nd rfl (Or.inl rfl)) (fun _ _ _ _ _ => pts_nil) (fun _ _ _ _ _ => pe_callTy call_str_int (by rfl) B.str b_str (pa_cons (pv 7) pa_nil))))) pa_nil))))) pss_nil)
    (pss_cons (ps_if (pt_cmpR op_in_seq pe_str (pv 1) rfl) (pss_one (ps_expr (pe_bm PySem.F.plainAttrs_list PySem.F.slot_list_append PySem.F.type_list_append mt_append (pv 4) (pa_cons pe_str pa_nil)))) pss_nil)
    (pss_one (ps_ret (pe_ifExp (pt_truth (pv 4) (fun _ => rfl)) (pe_join pe_str (pv 4)) pe_str)))))), ?_⟩
  refine ⟨_, rfl, a, m, rfl, ha, fun t tw ts H1 s1 ht hw hs => ?_⟩
  refine ⟨t, _, rfl, .inl (.inl ht), rfl, _, _, rfl, _, _, rfl, _, _, rfl, rfl, ?_⟩
  have lw : m.ws.length ≤ 3 := by rw [rm.w]; exact List.length_filter_le _ kW
  have lz := rm.len
  refine ⟨_, rfl, tw, rfl, ⟨_, hw⟩, fun D hD => along (walk_tup (K := K) (a := tw) (xs := m.ws.map V.str)) (fun i H2 => ∃ ys : List Str, H2 D = some (.lst (ys.map V.str)) ∧ ys.length ≤ i ∧ (∀ y ∈ ys, y ∈ m.ws) ∧ Same H1 H2) ⟨[], upd_same, Nat.zero_le _, fun _ z => absurd z List.not_mem_nil, same_new hD _⟩ (fun i H2 _ ⟨_, _, _, _, h⟩ => seqT_up h hw) ?_ ?_⟩
  · rintro i y H2 H3 hi ⟨ys, h1, hl, hy0, h2⟩ ⟨rfl, hy⟩
    rw [List.length_map] at hi
    obtain ⟨x, hx, rfl⟩ := map_get hy
    refine ⟨rfl, _, rfl, rfl, _, rfl, ite2 (fun c => ?_) (fun c => ⟨ys, h1, by omega, hy0, h2⟩)⟩
    refine ⟨_, rfl, _, h1, small1000 (by rw [List.length_map]; omega), ys ++ [x], ?_, by rw [List.length_append, List.length_singleton]; omega, fun z hz => ?_, fun b o z => ?_⟩
    · rw [upd_same, List.map_append]
      rfl
    · rcases List.mem_append.mp hz with h | h
      · exact hy0 z h
      · rw [List.mem_singleton.mp h]
        exact List.mem_of_getElem? hx
    · rw [upd_ne (ne_of_none z hD)]
      exact h2 b o z
  rintro H2 ⟨ys, h1, hl, hy0, h2⟩
  rw [List.length_map] at hl
  have hlen : ∀ y ∈ ys, y.length ≤ 200 := fun y hy => kW_len y (by have := hy0 y hy; rw [rm.w] at this; exact (List.mem_filter.mp this).1)
  have hw2 := seqT_up h2 hw
  have hs2 := seqT_up h2 hs
  have s02 := s1.trans h2
  refine ⟨_, rfl, m.but, rfl, ?_⟩
  have one : ("|" : Str).length = 1 := by decide +kernel
  have one2 : (" " : Str).length = 1 := by decide +kernel
  have fin2 : ∀ (H6 : Hp) (zs : List Str) (o5 : Option V), Same H H6 → H6 D = some (.lst (zs.map V.str)) → zs.length ≤ 7 → (∀ y ∈ zs, y.length ≤ 200) →
      tRet (tIf (fun σ H Q => tVar 4 σ H fun x H' => ∃ k, TruV K x H' k ∧ Q k H') (tM1 (fun x xs H Q => ∃ a p, ∃ ys : List Str, x = .str a ∧ xs = [.ref p] ∧ (SqL K H p (ys.map V.str) ∨ SqT K H p (ys.map V.str)) ∧ (ys.map (·.length)).sum + ys.length * a.length ≤ 16777216 ∧ Q (.str (Txt.join a ys)) H) (tC (.str "|")) (tVar 4)) (tC (.str "nothing")))
        { nx := fun _ H' => Q .non H', rt := Q } [some (.ref a), some (.ref tw), some (.bl m.but), some (.ref ts), some (.ref D), o5, none, none] H6 := fun H6 zs o5 s6 hz lz hlen => by
    have sl := sum_len zs hlen
    refine ⟨_, rfl, _, .inl ⟨_, SqL.of hz, rfl⟩, ite2 (fun _ => ?_) (fun _ => q _ H6 s6)⟩
    exact ⟨⟨_, rfl⟩, _, rfl, _, D, zs, rfl, rfl, .inl (SqL.of hz), by (rw [one]; omega), q _ H6 s6⟩
  have fin : ∀ (H5 : Hp) (zs : List Str) (o5 : Option V), Same H H5 → H D = none → H5 D = some (.lst (zs.map V.str)) → zs.length ≤ 6 → (∀ y ∈ zs, y.length ≤ 200) → SqT K H5 tw (m.ws.map V.str) →
      tSeq (tIfS (tB (tOp (rIn K false) (tC (.str "fault")) (tVar 1))) (tDrop (tBM K "list" rAppend (tVar 4) (tCons (tC (.str "fault")) tNil))) tNext) (tRet (tIf (fun σ H Q => tVar 4 σ H fun x H' => ∃ k, TruV K x H' k ∧ Q k H') (tM1 (fun x xs H Q => ∃ a p, ∃ ys : List Str, x = .str a ∧ xs = [.ref p] ∧ (SqL K H p (ys.map V.str) ∨ SqT K H p (ys.map V.str)) ∧ (ys.map (·.length)).sum + ys.length * a.length ≤ 16777216 ∧ Q (.str (Txt.join a ys)) H) (tC (.str "|")) (tVar 4)) (tC (.str "nothing"))))
        { nx := fun _ H' => Q .non H', rt := Q } [some (.ref a), some (.ref tw), some (.bl m.but), some (.ref ts), some (.ref D), o5, none, none] H5 := fun H5 zs o5 s5 hD0 hz lz hlen hw5 => by
    refine ⟨_, rfl, tw, _, rfl, .inr hw5, rfl, flat_strs _, _, rfl, ite2 (fun _ => ?_) (fun _ => fin2 H5 zs o5 s5 hz (by omega) hlen)⟩
    refine ⟨_, rfl, .inl ⟨rfl, _, SqL.of hz⟩, D, _, _, rfl, rfl, hz, small1000 (by rw [List.length_map]; omega), ?_⟩
    refine fin2 _ (zs ++ [("fault" : Str)]) o5 (fun b o z => ?_) ?_ (by rw [List.length_append, List.length_singleton]; omega) fun y hy => ?_
    · rw [upd_ne (ne_of_none z hD0)]
      exact s5 b o z
    · rw [upd_same, List.map_append]
      rfl
    · rcases List.mem_append.mp hy with h | h
      · exact hlen y h
      · rw [List.mem_singleton.mp h]
        decide +kernel
  have hD0 : H D = none := by
    cases e : H D with
    | none => rfl
    | some o =>
      rw [s1 _ _ e] at hD
      cases hD
  have body : ∀ (hs0 : List Str) (H5 : Hp) (L5 : Addr), Same H2 H5 → H5 L5 = some (.lst (hs0.map V.str)) → hs0.length ≤ 2 → (∀ y ∈ hs0, y.length ≤ 5) →
      tSeq (tDrop (tBM K "list" rAppend (tVar 4) (tCons (tM1 (fun x xs H Q => ∃ a p, ∃ ys : List Str, x = .str a ∧ xs = [.ref p] ∧ (SqL K H p (ys.map V.str) ∨ SqT K H p (ys.map V.str)) ∧ (ys.map (·.length)).sum + ys.length * a.length ≤ 16777216 ∧ Q (.str (Txt.join a ys)) H) (tC (.str " ")) (tOp rCat (tVar 5) (tLc (iTup K (tVar 3)) (gName 7) tYes (tCB (fun xs H Q => ∃ i, xs = [V.int i] ∧ i.natAbs.log2 < 1920 ∧ Q (V.str (toString i)) H) (tCons (tVar 7) tNil)) [7]))) tNil)))
        (tSeq (tIfS (tB (tOp (rIn K false) (tC (.str "fault")) (tVar 1))) (tDrop (tBM K "list" rAppend (tVar 4) (tCons (tC (.str "fault")) tNil))) tNext) (tRet (tIf (fun σ H Q => tVar 4 σ H fun x H' => ∃ k, TruV K x H' k ∧ Q k H') (tM1 (fun x xs H Q => ∃ a p, ∃ ys : List Str, x = .str a ∧ xs = [.ref p] ∧ (SqL K H p (ys.map V.str) ∨ SqT K H p (ys.map V.str)) ∧ (ys.map (·.length)).sum + ys.length * a.length ≤ 16777216 ∧ Q (.str (Txt.join a ys)) H) (tC (.str "|")) (tVar 4)) (tC (.str "nothing")))))
        { nx := fun _ H' => Q .non H', rt := Q } [some (.ref a), some (.ref tw), some (.bl m.but), some (.ref ts), some (.ref D), some (.ref L5), none, none] H5 := fun hs0 H5 L5 s5 h5 l5 len5 => by
    have h15 := s5 _ _ h1
    refine ⟨_, rfl, .inl ⟨rfl, _, SqL.of h15⟩, ⟨_, rfl⟩, _, rfl, _, rfl, ts, rfl, ⟨_, seqT_up s5 hs2⟩, fun D7 hD7 => along (walk_tup (K := K) (a := ts) (xs := m.sz.map V.int)) (fun i H6 => ∃ ks : List Str, H6 D7 = some (.lst (ks.map V.str)) ∧ ks.length ≤ i ∧ (∀ y ∈ ks, y.length ≤ 5) ∧ Same H5 H6) ⟨[], upd_same, Nat.zero_le _, fun _ z => absurd z List.not_mem_nil, same_new hD7 _⟩ (fun i H6 _ ⟨_, _, _, _, h⟩ => seqT_up h (seqT_up s5 hs2)) ?_ ?_⟩
    · rintro i y H6 H7 hi ⟨ks, k1, k2, k3, k4⟩ ⟨rfl, hy⟩
      rw [List.length_map] at hi
      obtain ⟨x, hx, rfl⟩ := map_get hy
      have bx := rm.bd x (List.mem_of_getElem? hx)
      refine ⟨rfl, _, rfl, x, rfl, ?_, _, k1, small1000 (by rw [List.length_map]; omega), ks ++ [(toString x : Str)], ?_, by rw [List.length_append, List.length_singleton]; omega, fun z hz => ?_, fun b o z => ?_⟩
      · have e : x.natAbs < 2 ^ 1000 := Nat.lt_of_lt_of_le (by omega : x.natAbs < 2 ^ 10) (Nat.pow_le_pow_right (by decide) (by decide))
        exact Nat.lt_trans (PySem.Flt.log2_lt_of (by decide) e) (by decide)
      · rw [upd_same, List.map_append]
        rfl
      · rcases List.mem_append.mp hz with h | h
        · exact k3 z h
        · rw [List.mem_singleton.mp h]
          exact small_int bx.1 bx.2
      · rw [upd_ne (ne_of_none z hD7)]
        exact k4 b o z
    · rintro H6 ⟨ks, k1, k2, k3, k4⟩
      rw [List.length_map] at k2
      refine ⟨L5, D7, _, _, rfl, rfl, k4 _ _ h5, k1, few2 (by rw [List.length_map, List.length_map]; omega), fun D8 hD8 => ?_⟩
      have s8 := same_new (o := .lst (hs0.map V.str ++ ks.map V.str)) hD8
      have len8 : ∀ y ∈ hs0 ++ ks, y.length ≤ 5 := fun y hy => (List.mem_append.mp hy).elim (len5 y) (k3 y)
      have sl := sum_len (hs0 ++ ks) len8
      have ll : (hs0 ++ ks).length ≤ 23 := by rw [List.length_append]; omega
      refine ⟨_, D8, hs0 ++ ks, rfl, rfl, .inl (SqL.of (by rw [upd_same, List.map_append])), by (rw [one2]; omega), ?_⟩
      have s28 := s5.trans (k4.trans s8)
      have h18 := s28 _ _ h1
      refine ⟨D, _, _, rfl, rfl, h18, small1000 (by rw [List.length_map]; omega), ?_⟩
      have jl := join_len (a := " ") (hs0 ++ ks) len8
      rw [one2] at jl
      have s08 := s02.trans s28
      refine fin _ (ys ++ [Txt.join " " (hs0 ++ ks)]) _ (fun b o z => ?_) hD0 ?_ (by rw [List.length_append, List.length_singleton]; omega) (fun y hy => ?_) ?_
      · rw [upd_ne (ne_of_none z hD0)]
        exact s08 b o z
      · rw [upd_same, List.map_append]
        rfl
      · rcases List.mem_append.mp hy with h | h
        · exact hlen y h
        · rw [List.mem_singleton.mp h]
          omega
      · exact seqT_putL h18 (seqT_up s28 hw2)
  have two : ∀ y ∈ (["tuple", "but"] : List Str), y.length ≤ 5 := by decide +kernel
  have onl : ∀ y ∈ (["tuple"] : List Str), y.length ≤ 5 := by decide +kernel
  refine ite2 (fun c => iteT ?A) (fun c => ⟨_, rfl, _, .inr (.inl ⟨_, hs2, rfl⟩), ite2 (fun _ => ?A2) (fun _ => fin H2 ys none s02 hD0 h1 (by omega) hlen hw2)⟩)
  all_goals
    refine ⟨_, rfl, m.but, rfl, ite2 (fun _ => ⟨_, rfl, _, .inr (.inl ⟨_, hs2, rfl⟩), ite2 (fun _ => ?_) (fun _ => ?_)⟩) (fun _ => iteF ?_)⟩
    · exact ⟨few (by simp), fun L5 hL5 => body ["tuple", "but"] _ L5 (same_new hL5 _) upd_same (by simp) two⟩
    · exact ⟨few (by simp), fun L5 hL5 => body ["tuple"] _ L5 (same_new hL5 _) upd_same (by simp) onl⟩
    · exact ⟨few (by simp), fun L5 hL5 => body ["tuple"] _ L5 (same_new hL5 _) upd_same (by simp) onl⟩
theorem ok_strK {k : Nat} (F : Fun K "__str__" "Kinds.__str__" sStrK f fd) (B : Bi mg) (GT : Dn P w K mg base 2 "text_of" ["kinds"] (spTxt K C) fT dT) : FnOk P w K mg base CX0 (k + 3) f fd ["self"] (spTxt K C) := by
  refine F.ok scStrK (fun vs H Q E h => ?_) (fun cdv A outer s H vs Q E hr h => ?_)
  · obtain ⟨a, m, f, g, rfl, _⟩ := h
    rfl
  obtain ⟨a, m, f, g, rfl, ha, rm, q⟩ := h
  have hr2 : Room 2 _ := hr.mono (by omega)
  refine ⟨_, pss_one (ps_ret (pe_callTy SkE.call_str_str (by rfl) B.str b_str (pa_cons (pe_call GT.ok hr2 (by rfl) GT.mg GT.kp GT.bd .nil pass0 (pa_cons (pv 0) pa_nil)) pa_nil))), ?_⟩
  exact ⟨_, rfl, a, m, f, g, rfl, ha, rm, fun x H1 s1 => ⟨x, rfl, q x H1 s1⟩⟩
end
abbrev sAll : Stmt := topS 13
abbrev sVal : Stmt := topS 14
abbrev sOne : Stmt := topS 15
abbrev sMeet : Stmt := topS 16
abbrev sLess : Stmt := topS 17
abbrev sEmp : Stmt := topS 18
abbrev sKin : Stmt := topS 19
abbrev sMade : Stmt := topS 20
theorem scAll : FnScope [] [] (defScope sAll) := ⟨rfl, rfl, rfl, by decide +kernel, rfl, by decide +kernel, by decide +kernel⟩
theorem scVal : FnScope [] [] (defScope sVal) := ⟨rfl, rfl, rfl, by decide +kernel, rfl, by decide +kernel, by decide +kernel⟩
theorem scOne : FnScope ["_law_kind"] ["_law_kind"] (defScope sOne) := ⟨rfl, rfl, rfl, by decide +kernel, rfl, by decide +kernel, by decide +kernel⟩
theorem scMeet : FnScope ["_law_one", "_law_other", "_law_words", "_law_word", "_law_k"] ["_law_one", "_law_other"] (defScope sMeet) := ⟨rfl, rfl, rfl, by decide +kernel, rfl, by decide +kernel, by decide +kernel⟩
theorem scLess : FnScope ["_law_one", "_law_other", "_law_words", "_law_word"] ["_law_one", "_law_other"] (defScope sLess) := ⟨rfl, rfl, rfl, by decide +kernel, rfl, by decide +kernel, by decide +kernel⟩
theorem scEmp : FnScope ["_law_one"] ["_law_one"] (defScope sEmp) := ⟨rfl, rfl, rfl, by decide +kernel, rfl, by decide +kernel, by decide +kernel⟩
theorem scKin : FnScope ["_law_one", "_law_kind"] ["_law_one", "_law_kind"] (defScope sKin) := ⟨rfl, rfl, rfl, by decide +kernel, rfl, by decide +kernel, by decide +kernel⟩
theorem scMade : FnScope ["_law_one", "_law_found", "_law_word", "_law_k"] ["_law_one"] (defScope sMade) := ⟨rfl, rfl, rfl, by decide +kernel, rfl, by decide +kernel, by decide +kernel⟩
/-- the model of m stands at t: words, sizes, whether these are left out -/
def MAt (K : PySem.W.Frag) (H : Hp) (t : Addr) (m : Ks) : Prop := ∃ tw ts, SqT K H t [.ref tw, .ref ts, .bl m.but] ∧ SqT K H tw (m.ws.map V.str) ∧ SqT K H ts (m.sz.map V.int)
theorem MAt.up {K : PySem.W.Frag} {H H' : Hp} {t : Addr} {m : Ks} (s : Same H H') (h : MAt K H t m) : MAt K H' t m := by
  obtain ⟨tw, ts, h1, h2, h3⟩ := h
  exact ⟨tw, ts, seqT_up s h1, seqT_up s h2, seqT_up s h3⟩
theorem MAt.of {K : PySem.W.Frag} {H : Hp} {t tw ts : Addr} {m : Ks} (h : H t = some (.tup [.ref tw, .ref ts, .bl m.but])) (h1 : SqT K H tw (m.ws.map V.str)) (h2 : SqT K H ts (m.sz.map V.int)) : MAt K H t m := ⟨tw, ts, .inl (.inl h), h1, h2⟩
def spCon (K : PySem.W.Frag) (m : Ks) : Sp := fun vs H Q _ => vs = [] ∧ ∀ t H', Same H H' → MAt K H' t m → Q (.ref t) H'
def mAll : Ks := ⟨kW, true, []⟩
def mVal : Ks := ⟨["integer", "atom"], true, []⟩
theorem rep_val : Rep mVal (fun w => decide (w = "integer") || decide (w = "atom")) (fun _ => true) := ⟨by decide +kernel, .nil, fun k h => absurd h List.not_mem_nil, fun k => by simp [Ks.hasS, mVal]⟩
def spOne (K : PySem.W.Frag) : Sp := fun vs H Q _ => ∃ y, vs = [y] ∧ ((∃ k, y = .int k ∧ ∀ t H', Same H H' → MAt K H' t ⟨[], false, [k]⟩ → Q (.ref t) H') ∨ (y = .str "tuple" ∧ ∀ t H', Same H H' → MAt K H' t ⟨[], true, []⟩ → Q (.ref t) H') ∨
  ∃ x, y = .str x ∧ x ∈ kW ∧ ∀ t H', Same H H' → MAt K H' t ⟨[x], false, []⟩ → Q (.ref t) H')
def spMeet (K : PySem.W.Frag) (op : Bool → Bool → Bool) : Sp := fun vs H Q _ => ∃ a b m n f g f' g', vs = [.ref a, .ref b] ∧ MAt K H a m ∧ MAt K H b n ∧ Rep m f g ∧ Rep n f' g' ∧
  ∀ t r H', Same H H' → MAt K H' t r → Rep r (fun w => op (f w) (f' w)) (fun k => op (g k) (g' k)) → Q (.ref t) H'
def spEmp (K : PySem.W.Frag) : Sp := fun vs H Q _ => ∃ a m f g, vs = [.ref a] ∧ MAt K H a m ∧ Rep m f g ∧ ∀ H', Same H H' → Q (.bl (!m.any)) H'
def spKin (K : PySem.W.Frag) : Sp := fun vs H Q _ => ∃ a m y, vs = [.ref a, y] ∧ MAt K H a m ∧ ((∃ x, y = .str x ∧ ∀ H', Same H H' → Q (.bl (decide (x ∈ m.ws))) H') ∨ ∃ k, y = .int k ∧ ∀ H', Same H H' → Q (.bl (m.hasS k)) H')
section
variable {P : Program} {w : World} {K : PySem.W.Frag} {mg : Str → Option Value} {base : Heap} {f fM : Addr} {fd dM : FuncData}
theorem ok_all {k : Nat} (F : Fun K "_law_all_kinds" "_law_all_kinds" sAll f fd) : FnOk P w K mg base CX0 (k + 1) f fd [] (spCon K mAll) := by
  refine F.ok scAll (fun vs H Q E h => ?_) (fun cdv A outer s H vs Q E hr h => ?_)
  · rw [h.1]
    rfl
  obtain ⟨rfl, q⟩ := h
  refine ⟨_, pss_one (ps_ret (pe_tup (pa_cons (pe_tup (pa_cons pe_str (pa_cons pe_str (pa_cons pe_str pa_nil)))) (pa_cons (pe_tup pa_nil) (pa_cons pe_bl pa_nil))))), ?_⟩
  refine ⟨few (by simp), fun t1 h1 => ⟨by decide, fun t2 h2 => ⟨few (by simp), fun t3 h3 => ?_⟩⟩⟩
  have s2 := same_new (o := .tup []) h2
  have s3 := same_new (o := .tup [.ref t1, .ref t2, .bl true]) h3
  exact q t3 _ ((same_new h1 _).trans (s2.trans s3)) (MAt.of upd_same (.inl (.inl ((s2.trans s3) _ _ upd_same))) (.inl (.inl (s3 _ _ upd_same))))
theorem ok_val {k : Nat} (F : Fun K "_law_value_kinds" "_law_value_kinds" sVal f fd) : FnOk P w K mg base CX0 (k + 1) f fd [] (spCon K mVal) := by
  refine F.ok scVal (fun vs H Q E h => ?_) (fun cdv A outer s H vs Q E hr h => ?_)
  · rw [h.1]
    rfl
  obtain ⟨rfl, q⟩ := h
  refine ⟨_, pss_one (ps_ret (pe_tup (pa_cons (pe_tup (pa_cons pe_str (pa_cons pe_str pa_nil))) (pa_cons (pe_tup pa_nil) (pa_cons pe_bl pa_nil))))), ?_⟩
  refine ⟨few (by simp), fun t1 h1 => ⟨by decide, fun t2 h2 => ⟨few (by simp), fun t3 h3 => ?_⟩⟩⟩
  have s2 := same_new (o := .tup []) h2
  have s3 := same_new (o := .tup [.ref t1, .ref t2, .bl true]) h3
  exact q t3 _ ((same_new h1 _).trans (s2.trans s3)) (MAt.of upd_same (.inl (.inl ((s2.trans s3) _ _ upd_same))) (.inl (.inl (s3 _ _ upd_same))))
theorem ok_one {k : Nat} (F : Fun K "_law_one_kind" "_law_one_kind" sOne f fd) (B : Bi mg) : FnOk P w K mg base CX0 (k + 1) f fd ["_law_kind"] (spOne K) := by
  refine F.ok scOne (fun vs H Q E h => ?_) (fun cdv A outer s H vs Q E hr h => ?_)
  · obtain ⟨y, rfl, _⟩ := h
    rfl
  obtain ⟨y, rfl, q⟩ := h
  refine ⟨_, pss_cons (ps_if (pt_val (pe_callB call_isD (by rfl) B.ii b_ii (pa_cons (pv 0) (pa_cons (pe_bltn (by rfl) B.int b_int (v := .ty "int") rfl) pa_nil)))) (pss_one (ps_ret (pe_tup (pa_cons (pe_tup pa_nil) (pa_cons (pe_tup (pa_cons (pv 0) pa_nil)) (pa_cons pe_bl pa_nil)))))) pss_nil)
    (pss_one (ps_ret (pe_ifExp (pt_cmpR op_eq (pv 0) pe_str (nomark _)) (pe_tup (pa_cons (pe_tup pa_nil) (pa_cons (pe_tup pa_nil) (pa_cons pe_bl pa_nil)))) (pe_tup (pa_cons (pe_tup (pa_cons (pv 0) pa_nil)) (pa_cons (pe_tup pa_nil) (pa_cons pe_bl pa_nil))))))), ?_⟩
  have dst : ∀ x y : Str, decide (V.str x = V.str y) = decide (x = y) := fun x y => by
    by_cases h : x = y
    · rw [decide_eq_true h, decide_eq_true (congrArg V.str h)]
    · rw [decide_eq_false h, decide_eq_false fun z => h (V.str.inj z)]
  rcases q with ⟨k, rfl, q⟩ | ⟨rfl, q⟩ | ⟨x, rfl, hx, q⟩
  · refine ⟨_, rfl, _, .int k, "int", _, rfl, .int k, kit_int _, _, rfl, iteT ?_⟩
    refine ⟨by decide, fun t1 h1 => ⟨_, rfl, few (by simp), fun t2 h2 => ⟨few (by simp), fun t3 h3 => ?_⟩⟩⟩
    have s2 := same_new (o := .tup [.int k]) h2
    have s3 := same_new (o := .tup [.ref t1, .ref t2, .bl false]) h3
    exact q t3 _ ((same_new h1 _).trans (s2.trans s3)) (MAt.of upd_same (.inl (.inl ((s2.trans s3) _ _ upd_same))) (.inl (.inl (s3 _ _ upd_same))))
  · refine ⟨_, rfl, _, .str "tuple", "int", _, rfl, .str _, kit_int _, _, rfl, iteF ⟨_, rfl, rfl, _, rfl, ?_⟩⟩
    rw [decide_eq_true rfl]
    refine iteT ⟨by decide, fun t1 h1 => ⟨by decide, fun t2 h2 => ⟨few (by simp), fun t3 h3 => ?_⟩⟩⟩
    have s2 := same_new (o := .tup []) h2
    have s3 := same_new (o := .tup [.ref t1, .ref t2, .bl true]) h3
    exact q t3 _ ((same_new h1 _).trans (s2.trans s3)) (MAt.of upd_same (.inl (.inl ((s2.trans s3) _ _ upd_same))) (.inl (.inl (s3 _ _ upd_same))))
  · have nx : ¬ x = "tuple" := fun z => by
      rw [z] at hx
      revert hx
      decide +kernel
    refine ⟨_, rfl, _, .str x, "int", _, rfl, .str _, kit_int _, _, rfl, iteF ⟨_, rfl, rfl, _, rfl, ?_⟩⟩
    rw [dst, decide_eq_false nx]
    refine iteF ⟨_, rfl, few (by simp), fun t1 h1 => ⟨by decide, fun t2 h2 => ⟨few (by simp), fun t3 h3 => ?_⟩⟩⟩
    have s2 := same_new (o := .tup []) h2
    have s3 := same_new (o := .tup [.ref t1, .ref t2, .bl false]) h3
    exact q t3 _ ((same_new h1 _).trans (s2.trans s3)) (MAt.of upd_same (.inl (.inl ((s2.trans s3) _ _ upd_same))) (.inl (.inl (s3 _ _ upd_same))))
theorem ok_kin {k : Nat} (F : Fun K "_law_kind_in" "_law_kind_in" sKin f fd) (B : Bi mg) : FnOk P w K mg base CX0 (k + 1) f fd ["_law_one", "_law_kind"] (spKin K) := by
  refine F.ok scKin (fun vs H Q E h => ?_) (fun cdv A outer s H vs Q E hr h => ?_)
  · obtain ⟨a, m, y, rfl, _⟩ := h
    rfl
  obtain ⟨a, m, y, rfl, ⟨tw, ts, h1, h2, h3⟩, q⟩ := h
  refine ⟨_, pss_cons (ps_if (pt_val (pe_callB call_isD (by rfl) B.ii b_ii (pa_cons (pv 1) (pa_cons (pe_bltn (by rfl) B.str b_str (v := .ty "str") rfl) pa_nil)))) (pss_one (ps_ret (pe_cmpR op_in_seq (pv 1) (pe_ix ix_tup (pv 0) pe_int (fun _ _ => rfl)) rfl))) pss_nil)
    (pss_one (ps_ret (pe_cmpR op_ne (pe_cmpR op_in_seq (pv 1) (pe_ix ix_tup (pv 0) pe_int (fun _ _ => rfl)) rfl) (pe_ix ix_tup (pv 0) pe_int (fun _ _ => rfl)) (nomark _)))), ?_⟩
  rcases q with ⟨x, rfl, q⟩ | ⟨k, rfl, q⟩
  · refine ⟨_, rfl, _, .str x, "str", _, rfl, .str _, kit_str _, _, rfl, iteT ⟨_, rfl, _, rfl, a, _, 0, _, rfl, rfl, h1, rfl, tw, _, rfl, .inr h2, rfl, flat_strs _, ?_⟩⟩
    show Q (.bl (inV (.str x) (m.ws.map V.str))) H
    rw [inV_str]
    exact q H (Same.refl H)
  · refine ⟨_, rfl, _, .int k, "str", _, rfl, .int _, kit_str _, _, rfl, iteF ⟨_, rfl, _, rfl, a, _, 1, _, rfl, rfl, h1, rfl, ts, _, rfl, .inr h3, rfl, flat_ints _, _, rfl, a, _, 2, _, rfl, rfl, h1, rfl, rfl, ?_⟩⟩
    show Q (.bl (!decide (V.bl (inV (.int k) (m.sz.map V.int)) = V.bl m.but))) H
    rw [inV_int]
    have e2 : (!decide (V.bl (decide (k ∈ m.sz)) = V.bl m.but)) = m.hasS k := by
      unfold Ks.hasS
      cases decide (k ∈ m.sz) <;> cases m.but <;> rfl
    rw [e2]
    exact q H (Same.refl H)
end
theorem ix_tupK {X : Cx} {K : PySem.W.Frag} (h : X.K = K) : IxR X (rIxT K) := by
  subst h
  exact ix_tup
theorem Rep.congrW {m : Ks} {f f2 : Str → Bool} {g g2 : Int → Bool} (r : Rep m f g) (hf : ∀ w ∈ kW, f w = f2 w) (hg : ∀ k, g k = g2 k) : Rep m f2 g2 :=
  ⟨r.w.trans (List.filter_congr hf), r.srt, r.bd, fun k => (r.s k).trans (hg k)⟩
section
variable {P : Program} {w : World} {K : PySem.W.Frag} {mg : Str → Option Value} {base : Heap} {f fM C fE : Addr} {fd dM : FuncData}
theorem tup_nil {xs : List Str} : PyData.eqv (.tuple (xs.map .str)) (.tuple []) = xs.isEmpty := by
  have h := eqv_strs xs []
  rw [List.map_nil] at h
  simp only [PyData.eqv, h]
  cases xs <;> rfl
theorem tup_nilI {xs : List Int} : PyData.eqv (.tuple (xs.map .int)) (.tuple []) = xs.isEmpty := by
  have h := eqv_ints xs []
  rw [List.map_nil] at h
  simp only [PyData.eqv, h]
  cases xs <;> rfl
theorem ok_emp {k : Nat} (F : Fun K "_law_is_empty" "_law_is_empty" sEmp f fd) : FnOk P w K mg base CX0 (k + 1) f fd ["_law_one"] (spEmp K) := by
  refine F.ok scEmp (fun vs H Q E h => ?_) (fun cdv A outer s H vs Q E hr h => ?_)
  · obtain ⟨a, m, f, g, rfl, _⟩ := h
    rfl
  obtain ⟨a, m, f, g, rfl, ⟨tw, ts, h1, h2, h3⟩, rm, q⟩ := h
  refine ⟨_, pss_one (ps_ret (pe_and (pe_cmpR (op_eqD hr.units) (pe_ix ix_tup (pv 0) pe_int (fun _ _ => rfl)) (pe_tup pa_nil) (nomark _)) (pe_and (pe_cmpR (op_eqD hr.units) (pe_ix ix_tup (pv 0) pe_int (fun _ _ => rfl)) (pe_tup pa_nil) (nomark _))
    (pe_one (pe_not (pe_ix ix_tup (pv 0) pe_int (fun _ _ => rfl))))))), ?_⟩
  have g1 := gds_str m.ws fun x hx => kW_gd x (by rw [rm.w] at hx; exact (List.mem_filter.mp hx).1)
  have g2 := gds_int m.sz rm.bd
  have sh1 : SeqAt.shaped (.tuple (m.ws.map .str)) = true := shaped_of (by simpa only [gd] using g1.1) (by simp only [PyData.depth, g1.2]; omega)
  have sh2 : SeqAt.shaped (.tuple (m.sz.map .int)) = true := shaped_of (by simpa only [gd] using g2.1) (by simp only [PyData.depth, g2.2]; omega)
  have sh0 : SeqAt.shaped (.tuple []) = true := by decide +kernel
  refine ⟨_, rfl, a, _, 0, _, rfl, rfl, h1, rfl, by decide, fun t ht => ?_⟩
  have s1 := same_new (o := .tup []) ht
  refine ⟨.tuple (m.ws.map .str), .tuple [], .tup (seqT_up s1 h2) (strD _), .tup (.inl (.inl upd_same)) .nil, sh1, sh0, _, rfl, ?_⟩
  rw [tup_nil]
  have ea : (!m.any) = (m.ws.isEmpty && (!m.but && m.sz.isEmpty)) := by
    unfold Ks.any
    cases m.ws.isEmpty <;> cases m.but <;> cases m.sz.isEmpty <;> rfl
  rw [ea] at q
  cases e1 : m.ws.isEmpty with
  | false =>
    rw [e1, Bool.false_and] at q
    exact iteF (q _ s1)
  | true =>
    rw [e1, Bool.true_and] at q
    refine iteT ⟨_, rfl, a, _, 1, _, rfl, rfl, seqT_up s1 h1, rfl, by decide, fun t2 ht2 => ?_⟩
    have s2 := s1.trans (same_new (o := .tup []) ht2)
    refine ⟨.tuple (m.sz.map .int), .tuple [], .tup (seqT_up s2 h3) (intD _), .tup (.inl (.inl upd_same)) .nil, sh2, sh0, _, rfl, ?_⟩
    rw [tup_nilI]
    cases e2 : m.sz.isEmpty with
    | false =>
      rw [e2, Bool.and_false] at q
      exact iteF (q _ s2)
    | true =>
      rw [e2, Bool.and_true] at q
      exact iteT ⟨_, rfl, a, _, 2, _, rfl, rfl, seqT_up s2 h1, rfl, _, rfl, q _ s2⟩
theorem ok_meet {k : Nat} (F : Fun K "_law_meet" "_law_meet" sMeet f fd) (B : Bi mg) (hso : mg "sorted" = none) (hse : mg "set" = none) : FnOk P w K mg base CX0 (k + 1) f fd ["_law_one", "_law_other"] (spMeet K and) := by
  refine F.ok scMeet (fun vs H Q E h => ?_) (fun cdv A outer s H vs Q E hr h => ?_)
  · obtain ⟨a, b, m, n, f, g, f', g', rfl, _⟩ := h
    rfl
  obtain ⟨a, b, m, n, f, g, f', g', rfl, ⟨tw, ts, ha, hwa, hsa⟩, ⟨tw', ts', hb, hwb, hsb⟩, rm, rn, q⟩ := h
  refine ⟨_, pss_cons (ps_set (i := 2) scMeet.nd rfl (.inl rfl) (pe_callTy call_tuple_of (by rfl) B.tup b_tup (pa_cons (pe_lc (own := [("_law_word", 3)]) (g := gName 3) (by rfl) scMeet.nd (pi_tup (pe_ix ix_tup (pv 0) pe_int (fun _ _ => rfl)))
      (blkOk_by (own := [("_law_word", 3)]) (N := ["_law_one", "_law_other", "_law_words", "_law_word", "_law_k"]) (sc := defScope sMeet) (by decide +kernel))
      (fun _ _ _ _ _ => pg_name (i := 3) scMeet.nd rfl (Or.inl rfl)) (fun _ _ _ _ _ => pts_one (pt_cmpR (op_inK (K := K) rfl) (pv 3) (pe_ix (ix_tupK (K := K) rfl) (pv 1) pe_int (fun _ _ => rfl)) rfl)) (fun _ _ _ _ _ => pv 3)) pa_nil)))
    (pss_cons (ps_if (PW.pt (pw_and (pt_val (pe_ix ix_tup (pv 0) pe_int (fun _ _ => rfl))) (pw_and1 (pt_val (pe_ix ix_tup (pv 1) pe_int (fun _ _ => rfl))))))
      (pss_one (ps_ret (pe_tup (pa_cons (pv 2) (pa_cons (pe_callTy call_tuple_of (by rfl) B.tup b_tup (pa_cons (pe_callB (cr_sortedSet rfl) (by rfl) hso (by decide +kernel)
        (pa_cons (pe_callTy (cr_setI rfl) (by rfl) hse PyProof.Rows.boot_set (pa_cons (pe_op op_catU (pe_ix ix_tup (pv 0) pe_int (fun _ _ => rfl)) (pe_ix ix_tup (pv 1) pe_int (fun _ _ => rfl))) pa_nil)) pa_nil)) pa_nil)) (pa_cons pe_bl pa_nil)))))) pss_nil)
    (pss_cons (ps_if (pt_val (pe_ix ix_tup (pv 0) pe_int (fun _ _ => rfl))) (pss_one (ps_ret (pe_tup (pa_cons (pv 2) (pa_cons (pe_callTy call_tuple_of (by rfl) B.tup b_tup (pa_cons (pe_lc (own := [("_law_k", 4)]) (g := gName 4) (by rfl) scMeet.nd (pi_tup (pe_ix ix_tup (pv 1) pe_int (fun _ _ => rfl)))
      (blkOk_by (own := [("_law_k", 4)]) (N := ["_law_one", "_law_other", "_law_words", "_law_word", "_law_k"]) (sc := defScope sMeet) (by decide +kernel))
      (fun _ _ _ _ _ => pg_name (i := 4) scMeet.nd rfl (Or.inl rfl)) (fun _ _ _ _ _ => pts_one (pt_cmpR (op_notInK (K := K) rfl) (pv 4) (pe_ix (ix_tupK (K := K) rfl) (pv 0) pe_int (fun _ _ => rfl)) rfl)) (fun _ _ _ _ _ => pv 4)) pa_nil)) (pa_cons pe_bl pa_nil)))))) pss_nil)
    (pss_one (ps_ret (pe_tup (pa_cons (pv 2) (pa_cons (pe_callTy call_tuple_of (by rfl) B.tup b_tup (pa_cons (pe_lc (own := [("_law_k", 4)]) (g := gName 4) (by rfl) scMeet.nd (pi_tup (pe_ix ix_tup (pv 0) pe_int (fun _ _ => rfl)))
      (blkOk_by (own := [("_law_k", 4)]) (N := ["_law_one", "_law_other", "_law_words", "_law_word", "_law_k"]) (sc := defScope sMeet) (by decide +kernel))
      (fun _ _ _ _ _ => pg_name (i := 4) scMeet.nd rfl (Or.inl rfl)) (fun _ _ _ _ _ => pts_one (pt_cmpR op_ne (pe_cmpR (op_inK (K := K) rfl) (pv 4) (pe_ix (ix_tupK (K := K) rfl) (pv 1) pe_int (fun _ _ => rfl)) rfl) (pe_ix (ix_tupK (K := K) rfl) (pv 1) pe_int (fun _ _ => rfl)) (nomark _))) (fun _ _ _ _ _ => pv 4)) pa_nil)) (pa_cons pe_bl pa_nil)))))))), ?_⟩
  refine ⟨_, rfl, a, _, 0, _, rfl, rfl, ha, rfl, tw, rfl, ⟨_, hwa⟩, fun D hD => along (walk_tup (K := K) (a := tw) (xs := m.ws.map V.str)) (fun i H2 => H2 D = some (.lst (((m.ws.take i).filter fun k => decide (k ∈ n.ws)).map V.str)) ∧ Same H H2) ⟨upd_same, same_new hD _⟩ (fun i H2 _ ⟨_, h⟩ => seqT_up h hwa) ?_ ?_⟩
  · rintro i y H2 H3 hi ⟨h1, h2⟩ ⟨rfl, hy⟩
    obtain ⟨x, hx, rfl⟩ := map_get hy
    refine ⟨rfl, _, rfl, _, rfl, b, _, 0, _, rfl, rfl, seqT_up h2 hb, rfl, tw', _, rfl, .inr (seqT_up h2 hwb), rfl, flat_strs n.ws, _, rfl, ?_⟩
    show if inV (.str x) (n.ws.map V.str) = true then _ else _
    rw [inV_str]
    have tf := take_filter (p := fun k => decide (k ∈ n.ws)) hx
    have lw : m.ws.length ≤ 3 := by rw [rm.w]; exact List.length_filter_le _ kW
    refine ite2 (fun c => ?_) (fun c => ?_)
    · refine ⟨_, rfl, _, h1, ?_, ?_, fun b o z => ?_⟩
      · rw [List.length_map]
        have := List.length_filter_le (fun k => decide (k ∈ n.ws)) (m.ws.take i)
        rw [List.length_take] at this
        exact small1000 (by omega)
      · rw [upd_same, tf, if_pos c, List.map_append]
        rfl
      · rw [upd_ne (ne_of_none z hD)]
        exact h2 b o z
    · refine ⟨?_, h2⟩
      rw [tf, if_neg c, List.append_nil]
      exact h1
  rintro H2 ⟨h1, h2⟩
  rw [List.length_map, List.take_of_length_le (Nat.le_refl _), rm.w, rn.w, ws_and] at h1
  refine ⟨D, _, rfl, .inl ⟨SqL.of h1, fun t ht => ?_⟩⟩
  have s3 := h2.trans (same_new (o := .tup ((kW.filter fun w => f w && f' w).map V.str)) ht)
  have htw : SqT K (upd H2 t (.tup ((kW.filter fun w => f w && f' w).map V.str))) t ((kW.filter fun w => f w && f' w).map V.str) := .inl (.inl upd_same)
  generalize upd H2 t (.tup ((kW.filter fun w => f w && f' w).map V.str)) = H3 at s3 htw
  have ha3 := seqT_up s3 ha
  have hb3 := seqT_up s3 hb
  have hsa3 := seqT_up s3 hsa
  have hsb3 := seqT_up s3 hsb
  have lm := rm.len
  have ln := rn.len
  have mk : ∀ {H4 : Hp} {t3 t9 : Addr} {bb : Bool} {zs : List Int}, Same H3 H4 → H4 t9 = none → SqT K H4 t3 (zs.map V.int) → Rep ⟨kW.filter fun w => f w && f' w, bb, zs⟩ (fun w => f w && f' w) (fun k => g k && g' k) → Q (.ref t9) (upd H4 t9 (.tup [.ref t, .ref t3, .bl bb])) := fun {H4 t3 t9 bb zs} s4 h9 h3 rp => by
    have s9 := same_new (o := .tup [.ref t, .ref t3, .bl bb]) h9
    exact q t9 _ _ (s3.trans (s4.trans s9)) (MAt.of (m := ⟨kW.filter fun w => f w && f' w, bb, zs⟩) upd_same (seqT_up (s4.trans s9) htw) (seqT_up s9 h3)) rp
  refine ⟨_, rfl, a, _, 2, _, rfl, rfl, ha3, rfl, m.but, rfl, ite2 (fun c => ?A) (fun c => ?B)⟩
  case A =>
    have gm : ∀ k, (!decide (k ∈ m.sz)) = g k := fun k => by
      rw [← rm.s k]
      unfold Ks.hasS
      rw [c]
      cases decide (k ∈ m.sz) <;> rfl
    refine ⟨_, rfl, b, _, 2, _, rfl, rfl, hb3, rfl, n.but, rfl, ite2 (fun d => ?AA) (fun d => ?AB)⟩
    case AA =>
      refine ⟨_, rfl, _, rfl, a, _, 1, _, rfl, rfl, ha3, rfl, _, rfl, b, _, 1, _, rfl, rfl, hb3, rfl, ts, ts', _, _, [], rfl, rfl, by rw [cut_nil]; exact hsa3, by rw [cut_nil]; exact hsb3, fun _ z => absurd z List.not_mem_nil, few2 (by rw [List.length_map, List.length_map]; omega), fun c4 H5 s5 hc => ?_⟩
      rw [cut_nil, ← List.map_append] at hc
      refine ⟨c4, _, rfl, .inr hc, by rw [List.length_append]; omega, fun p c0 hp hc0 => ?_⟩
      have s6 := same_new (o := SetO w p (fun j => decide (j ∈ m.sz ++ n.sz)) c0) hp
      refine ⟨p, _, c0, rfl, upd_same, by (rw [List.length_append] at hc0; omega), fun ns' p2 srt mem hlen hp2 => ?_⟩
      refine ⟨p2, _, rfl, .inl ⟨SqL.of upd_same, fun t3 ht3 => ⟨few (by simp), fun t9 ht9 => ?_⟩⟩⟩
      exact mk (s5.trans (s6.trans ((same_new hp2 _).trans (same_new ht3 _)))) ht9 (.inl (.inl upd_same)) (rep_bb rm rn c d srt fun k => by rw [mem k, decide_eq_true_eq, List.mem_append])
    case AB =>
      have d := Bool.eq_false_iff.mpr d
      refine ⟨_, rfl, a, _, 2, _, rfl, rfl, ha3, rfl, m.but, rfl, ite2 (fun _ => ?_) (fun e => absurd c e)⟩
      refine ⟨_, rfl, _, rfl, b, _, 1, _, rfl, rfl, hb3, rfl, ts', rfl, ⟨_, hsb3⟩, fun D4 hD4 => along (walk_tup (K := K) (a := ts') (xs := n.sz.map V.int)) (fun i H4 => H4 D4 = some (.lst (((n.sz.take i).filter fun k => !decide (k ∈ m.sz)).map V.int)) ∧ Same H3 H4) ⟨upd_same, same_new hD4 _⟩ (fun i H4 _ ⟨_, h⟩ => seqT_up h hsb3) ?_ ?_⟩
      · rintro i y H4 H5 hi ⟨h1, h2⟩ ⟨rfl, hy⟩
        obtain ⟨x, hx, rfl⟩ := map_get hy
        refine ⟨rfl, _, rfl, _, rfl, a, _, 1, _, rfl, rfl, seqT_up h2 ha3, rfl, ts, _, rfl, .inr (seqT_up h2 hsa3), rfl, flat_ints m.sz, _, rfl, ?_⟩
        show if (!inV (.int x) (m.sz.map V.int)) = true then _ else _
        rw [inV_int]
        have tf := take_filter (p := fun k => !decide (k ∈ m.sz)) hx
        refine ite2 (fun c => ?_) (fun c => ?_)
        · refine ⟨_, rfl, _, h1, ?_, ?_, fun b o z => ?_⟩
          · rw [List.length_map]
            have := List.length_filter_le (fun k => !decide (k ∈ m.sz)) (n.sz.take i)
            rw [List.length_take] at this
            exact small1000 (by omega)
          · rw [upd_same, tf, if_pos c, List.map_append]
            rfl
          · rw [upd_ne (ne_of_none z hD4)]
            exact h2 b o z
        · refine ⟨?_, h2⟩
          rw [tf, if_neg c, List.append_nil]
          exact h1
      · rintro H4 ⟨h1, h2⟩
        rw [List.length_map, List.take_of_length_le (Nat.le_refl _)] at h1
        refine ⟨D4, _, rfl, .inl ⟨SqL.of h1, fun t3 ht3 => ⟨few (by simp), fun t9 ht9 => ?_⟩⟩⟩
        exact mk (h2.trans (same_new ht3 _)) ht9 (.inl (.inl upd_same)) ((rep_f rn _ d gm).congr (fun _ => rfl) fun k => Bool.and_comm _ _)
  case B =>
    have c' := Bool.eq_false_iff.mpr c
    refine ⟨_, rfl, a, _, 2, _, rfl, rfl, ha3, rfl, m.but, rfl, ite2 (fun e => absurd e c) (fun _ => ?_)⟩
    have gn : ∀ k, n.hasS k = g' k := rn.s
    refine ⟨_, rfl, _, rfl, a, _, 1, _, rfl, rfl, ha3, rfl, ts, rfl, ⟨_, hsa3⟩, fun D4 hD4 => along (walk_tup (K := K) (a := ts) (xs := m.sz.map V.int)) (fun i H4 => H4 D4 = some (.lst (((m.sz.take i).filter fun k => n.hasS k).map V.int)) ∧ Same H3 H4) ⟨upd_same, same_new hD4 _⟩ (fun i H4 _ ⟨_, h⟩ => seqT_up h hsa3) ?_ ?_⟩
    · rintro i y H4 H5 hi ⟨h1, h2⟩ ⟨rfl, hy⟩
      obtain ⟨x, hx, rfl⟩ := map_get hy
      refine ⟨rfl, _, rfl, _, rfl, b, _, 1, _, rfl, rfl, seqT_up h2 hb3, rfl, ts', _, rfl, .inr (seqT_up h2 hsb3), rfl, flat_ints n.sz, _, rfl, b, _, 2, _, rfl, rfl, seqT_up h2 hb3, rfl, rfl, _, rfl, ?_⟩
      show if (!decide (V.bl (inV (.int x) (n.sz.map V.int)) = V.bl n.but)) = true then _ else _
      rw [inV_int]
      have e2 : (!decide (V.bl (decide (x ∈ n.sz)) = V.bl n.but)) = n.hasS x := by
        unfold Ks.hasS
        cases decide (x ∈ n.sz) <;> cases n.but <;> rfl
      rw [e2]
      have tf := take_filter (p := fun k => n.hasS k) hx
      refine ite2 (fun c => ?_) (fun c => ?_)
      · refine ⟨_, rfl, _, h1, ?_, ?_, fun b o z => ?_⟩
        · rw [List.length_map]
          have := List.length_filter_le (fun k => n.hasS k) (m.sz.take i)
          rw [List.length_take] at this
          exact small1000 (by omega)
        · rw [upd_same, tf, if_pos c, List.map_append]
          rfl
        · rw [upd_ne (ne_of_none z hD4)]
          exact h2 b o z
      · refine ⟨?_, h2⟩
        rw [tf, if_neg c, List.append_nil]
        exact h1
    · rintro H4 ⟨h1, h2⟩
      rw [List.length_map, List.take_of_length_le (Nat.le_refl _)] at h1
      refine ⟨D4, _, rfl, .inl ⟨SqL.of h1, fun t3 ht3 => ⟨few (by simp), fun t9 ht9 => ?_⟩⟩⟩
      exact mk (h2.trans (same_new ht3 _)) ht9 (.inl (.inl upd_same)) (rep_f rm _ c' gn)
theorem ok_less {k : Nat} (F : Fun K "_law_less" "_law_less" sLess f fd) (B : Bi mg) (GM : Dn P w K mg base 1 "_law_meet" ["_law_one", "_law_other"] (spMeet K and) fM dM) : FnOk P w K mg base CX0 (k + 2) f fd ["_law_one", "_law_other"] (spMeet K fun x y => x && !y) := by
  refine F.ok scLess (fun vs H Q E h => ?_) (fun cdv A outer s H vs Q E hr h => ?_)
  · obtain ⟨a, b, m, n, f, g, f', g', rfl, _⟩ := h
    rfl
  obtain ⟨a, b, m, n, f, g, f', g', rfl, hma, ⟨tw', ts', hb, hwb, hsb⟩, rm, rn, q⟩ := h
  have hr1 : Room 1 _ := hr.mono (by omega)
  refine ⟨_, pss_cons (ps_set (i := 2) scLess.nd rfl (.inl rfl) (pe_callTy call_tuple_of (by rfl) B.tup b_tup (pa_cons (pe_lc (own := [("_law_word", 3)]) (g := gName 3) (by rfl) scLess.nd (pi_tup (pe_tup (pa_cons pe_str (pa_cons pe_str (pa_cons pe_str pa_nil)))))
      (blkOk_by (own := [("_law_word", 3)]) (N := ["_law_one", "_law_other", "_law_words", "_law_word"]) (sc := defScope sLess) (by decide +kernel))
      (fun _ _ _ _ _ => pg_name (i := 3) scLess.nd rfl (Or.inl rfl)) (fun _ _ _ _ _ => pts_one (pt_cmpR (op_notInK (K := K) rfl) (pv 3) (pe_ix (ix_tupK (K := K) rfl) (pv 1) pe_int (fun _ _ => rfl)) rfl)) (fun _ _ _ _ _ => pv 3)) pa_nil)))
    (pss_one (ps_ret (pe_call GM.ok hr1 (by rfl) GM.mg GM.kp GM.bd .nil pass0 (pa_cons (pv 0) (pa_cons (pe_tup (pa_cons (pv 2) (pa_cons (pe_ix ix_tup (pv 1) pe_int (fun _ _ => rfl)) (pa_cons (pe_not (pe_ix ix_tup (pv 1) pe_int (fun _ _ => rfl))) pa_nil)))) pa_nil))))), ?_⟩
  refine ⟨few (by simp), fun t0 ht0 => ?_⟩
  have s0 := same_new (o := .tup [.str "integer", .str "atom", .str "fault"]) ht0
  have hW : (upd H t0 (.tup [.str "integer", .str "atom", .str "fault"])) t0 = some (.tup (kW.map V.str)) := upd_same
  generalize upd H t0 (.tup [.str "integer", .str "atom", .str "fault"]) = H1 at s0 hW
  refine ⟨t0, rfl, ⟨_, .inl (.inl hW)⟩, fun D hD => along (walk_tup (K := K) (a := t0) (xs := kW.map V.str)) (fun i H2 => H2 D = some (.lst (((kW.take i).filter fun k => !decide (k ∈ n.ws)).map V.str)) ∧ Same H1 H2) ⟨upd_same, same_new hD _⟩ (fun i H2 _ ⟨_, h⟩ => .inl (.inl (h _ _ hW))) ?_ ?_⟩
  · rintro i y H2 H3 hi ⟨h1, h2⟩ ⟨rfl, hy⟩
    obtain ⟨x, hx, rfl⟩ := map_get hy
    have s02 := s0.trans h2
    refine ⟨rfl, _, rfl, _, rfl, b, _, 0, _, rfl, rfl, seqT_up s02 hb, rfl, tw', _, rfl, .inr (seqT_up s02 hwb), rfl, flat_strs n.ws, _, rfl, ?_⟩
    show if (!inV (.str x) (n.ws.map V.str)) = true then _ else _
    rw [inV_str]
    have tf := take_filter (p := fun k => !decide (k ∈ n.ws)) hx
    refine ite2 (fun c => ?_) (fun c => ?_)
    · refine ⟨_, rfl, _, h1, ?_, ?_, fun b o z => ?_⟩
      · rw [List.length_map]
        have := List.length_filter_le (fun k => !decide (k ∈ n.ws)) (kW.take i)
        rw [List.length_take] at this
        have e3 : kW.length = 3 := rfl
        exact small1000 (by omega)
      · rw [upd_same, tf, if_pos c, List.map_append]
        rfl
      · rw [upd_ne (ne_of_none z hD)]
        exact h2 b o z
    · refine ⟨?_, h2⟩
      rw [tf, if_neg c, List.append_nil]
      exact h1
  · rintro H2 ⟨h1, h2⟩
    have e0 : (kW.take (kW.map V.str).length) = kW := rfl
    rw [e0, rn.w, ws_not] at h1
    refine ⟨D, _, rfl, .inl ⟨SqL.of h1, fun t2 ht2 => ?_⟩⟩
    have s3 := s0.trans (h2.trans (same_new (o := .tup ((kW.filter fun w => !f' w).map V.str)) ht2))
    refine ⟨_, rfl, _, rfl, _, rfl, b, _, 1, _, rfl, rfl, seqT_up s3 hb, rfl, _, rfl, b, _, 2, _, rfl, rfl, seqT_up s3 hb, rfl, _, rfl, few (by simp), fun t9 ht9 => ?_⟩
    have s9 := same_new (o := .tup [.ref t2, .ref ts', .bl (!n.but)]) ht9
    refine ⟨a, t9, m, ⟨kW.filter fun w => !f' w, !n.but, n.sz⟩, _, _, _, _, rfl, hma.up (s3.trans s9), MAt.of upd_same (.inl (.inl (s9 _ _ upd_same))) (seqT_up (s3.trans s9) hsb), rm, rep_not rn, fun t r H' s' k' p' => ?_⟩
    exact q t r H' (s3.trans (s9.trans s')) k' p'
end
/-- a classmethod of the kind sets -/
structure KM (P : Program) (w : World) (K : PySem.W.Frag) (mg : Str → Option Value) (base : Heap) (C : Addr) (mc : Value) (m : Str) (ps : List Str) (sp : Sp) (p g : Addr) (fd : FuncData) : Prop where
  c : ClX.CMet K C mc m p g
  ok : FnOk P w K mg base CX0 3 g fd ps sp
  bd : Binds K fd ps []
theorem KM.r {P : Program} {w : World} {K : PySem.W.Frag} {mg : Str → Option Value} {base : Heap} {C : Addr} {mc : Value} {m : Str} {ps : List Str} {sp : Sp} {p g : Addr} {fd : FuncData} (M : KM P w K mg base C mc m ps sp p g fd) : FnR P w K mg base CX0 3 g sp :=
  (FnOk.raw M.ok M.bd .nil).imp fun vs H Q E h => by
    rw [List.append_nil]
    exact h
/-- an operator of the kind sets -/
structure KO (P : Program) (w : World) (K : PySem.W.Frag) (mg : Str → Option Value) (base : Heap) (C : Addr) (lvl : Nat) (m : Str) (ps : List Str) (sp : Sp) (g : Addr) (fd : FuncData) : Prop where
  m : Meth K C m g
  ok : FnOk P w K mg base CX0 lvl g fd ps sp
  bd : Binds K fd ps []
abbrev kS (K : PySem.W.Frag) (C : Addr) : Sp := spKK K C fun x y => x && !y
abbrev so2 : List Str := ["self", "other"]
theorem KAt.ins {K : PySem.W.Frag} {C : Addr} {H : Hp} {a : Addr} {m : Ks} (h : KAt K C H a m) : ∃ dx fs, H a = some (.ins C dx fs) := by
  obtain ⟨dx, tw, ts, i, _⟩ := h
  exact ⟨dx, _, i⟩
/-- the reading of x op y of kind sets -/
theorem rb {K : PySem.W.Frag} {C : Addr} {op : Bool → Bool → Bool} {H : Hp} {a b : Addr} {m n : Ks} {f f' : Str → Bool} {g g' : Int → Bool} {Q : VK} (ha : KAt K C H a m) (hb : KAt K C H b n) (rm : Rep m f g) (rn : Rep n f' g')
    (q : ∀ c r H', Same H H' → KAt K C H' c r → Rep r (fun w => op (f w) (f' w)) (fun k => op (g k) (g' k)) → Q (.ref c) H') : rBinO C (spKK K C op) (.ref a) (.ref b) H Q := by
  obtain ⟨dx, fs, ia⟩ := ha.ins
  obtain ⟨dy, gs, ib⟩ := hb.ins
  exact ⟨a, dx, fs, b, dy, gs, rfl, rfl, ia, ib, a, b, m, n, _, _, _, _, rfl, ha, hb, rm, rn, fun c r H' s k p => ⟨⟨c, rfl⟩, q c r H' s k p⟩⟩
theorem take_one {α : Type} [DecidableEq α] {xs : List α} {i : Nat} {x y : α} (h : xs[i]? = some x) : decide (y ∈ xs.take (i + 1)) = (decide (y ∈ xs.take i) || decide (y = x)) := by
  rw [get_take h, ← Bool.decide_or]
  exact decide_eq_decide.mpr (by rw [List.mem_append, List.mem_singleton])
def spMade (K : PySem.W.Frag) (C : Addr) : Sp := fun vs H Q _ => ∃ t m f g, vs = [.ref t] ∧ MAt K H t m ∧ Rep m f g ∧ ∀ c H', Same H H' → KAt K C H' c m → Q (.ref c) H'
section
variable {P : Program} {w : World} {K : PySem.W.Frag} {mg : Str → Option Value} {base : Heap} {f C fE fO fS p1 p3 p4 g1 g3 g4 : Addr} {fd dO dS d1 d3 d4 : FuncData} {mc : Value}
theorem ok_made {k : Nat} (F : Fun K "_law_made" "_law_made" sMade f fd) (T : KC K mg C fE) (R : ClX.CRead K C mc) (O : KO P w K mg base C 4 "__or__" so2 (spKK K C or) fO dO) (S : KO P w K mg base C 4 "__sub__" so2 (kS K C) fS dS)
    (M1 : KM P w K mg base C mc "everything" ["cls"] (spEvr K C) p1 g1 d1) (M3 : KM P w K mg base C mc "of" ["cls", "word"] (spOf K C) p3 g3 d3) (M4 : KM P w K mg base C mc "sized" ["cls", "k"] (spSzd K C) p4 g4 d4) :
    FnOk P w K mg base CX0 (k + 5) f fd ["_law_one"] (spMade K C) := by
  refine F.ok scMade (fun vs H Q E h => ?_) (fun cdv A outer s H vs Q E hr h => ?_)
  · obtain ⟨t, m, f, g, rfl, _⟩ := h
    rfl
  obtain ⟨t, m, f, g, rfl, ⟨tw, ts, ht, hw, hs⟩, rm, q⟩ := h
  have hr4 : Room 4 _ := hr.mono (by omega)
  have hr3 : Room 3 _ := hr.mono (by omega)
  refine ⟨_, pss_cons (ps_set (i := 1) scMade.nd rfl (.inl rfl) (pe_op (op_binO rfl T.sf S.m S.ok S.bd hr4) (pe_cmeth0 (pe_glob (by rfl) T.mg (v := .ref C) rfl) R M1.c M1.r hr3 pass0) (pe_cmeth0 (pe_glob (by rfl) T.mg (v := .ref C) rfl) R M1.c M1.r hr3 pass0)))
    (pss_cons (ps_for PassesOwn.never rfl (pi_tup (pe_ix ix_tup (pv 0) pe_int (fun _ _ => rfl))) (pg_name (i := 2) scMade.nd rfl (.inl rfl))
      (pss_one (ps_set (i := 1) scMade.nd rfl (.inl rfl) (pe_op (op_binO rfl T.sf O.m O.ok O.bd hr4) (pv 1) (ClX.pe_cmeth (pe_glob (by rfl) T.mg (v := .ref C) rfl) R M3.c M3.r hr3 pass0 (pa_cons (pv 2) pa_nil))))))
    (pss_cons (ps_if (pt_val (pe_ix ix_tup (pv 0) pe_int (fun _ _ => rfl))) (pss_one (ps_set (i := 1) scMade.nd rfl (.inl rfl) (pe_op (op_binO rfl T.sf O.m O.ok O.bd hr4) (pv 1) (ClX.pe_cmeth (pe_glob (by rfl) T.mg (v := .ref C) rfl) R M3.c M3.r hr3 pass0 (pa_cons pe_str pa_nil))))) pss_nil)
    (pss_cons (ps_for PassesOwn.never rfl (pi_tup (pe_ix ix_tup (pv 0) pe_int (fun _ _ => rfl))) (pg_name (i := 3) scMade.nd rfl (.inl rfl))
      (pss_one (ps_set (i := 1) scMade.nd rfl (.inl rfl) (pe_ifExp (pt_val (pe_ix ix_tup (pv 0) pe_int (fun _ _ => rfl)))
        (pe_op (op_binO rfl T.sf S.m S.ok S.bd hr4) (pv 1) (ClX.pe_cmeth (pe_glob (by rfl) T.mg (v := .ref C) rfl) R M4.c M4.r hr3 pass0 (pa_cons (pv 3) pa_nil)))
        (pe_op (op_binO rfl T.sf O.m O.ok O.bd hr4) (pv 1) (ClX.pe_cmeth (pe_glob (by rfl) T.mg (v := .ref C) rfl) R M4.c M4.r hr3 pass0 (pa_cons (pv 3) pa_nil)))))))
    (pss_one (ps_ret (pv 1)))))), ?_⟩
  have fin : ∀ c9 r9 H9 o2, Same H H9 → KAt K C H9 c9 r9 → Rep r9 (fun w => decide (w ∈ m.ws)) (fun _ => m.but) →
      tSeq (tFor (iTup K (tOp (rIxT K) (tVar 0) (tC (.int 1)))) (gName 3) (tAsg (tIf (tB (tOp (rIxT K) (tVar 0) (tC (.int 2)))) (tOp (rBinO C (kS K C)) (tVar 1) (ClX.tCMeth C (spSzd K C) E0 (tC (.ref C)) (tCons (tVar 3) tNil)))
        (tOp (rBinO C (spKK K C or)) (tVar 1) (ClX.tCMeth C (spSzd K C) E0 (tC (.ref C)) (tCons (tVar 3) tNil)))) (gName 1))) (tRet (tVar 1)) { nx := fun _ H' => Q .non H', rt := Q } [some (.ref t), some (.ref c9), o2, none] H9 := fun c9 r9 H9 o2 s9 k9 e9 => by
    refine ⟨_, rfl, t, _, 1, _, rfl, rfl, seqT_up s9 ht, rfl, ts, rfl, ⟨_, seqT_up s9 hs⟩, for_tup (K := K) (a := ts) (xs := m.sz.map V.int) (fun i σ H4 => ∃ c r o3, σ = [some (.ref t), some (.ref c), o2, o3] ∧ Same H H4 ∧ KAt K C H4 c r ∧ Rep r (fun w => decide (w ∈ m.ws)) (fun k => decide (k ∈ m.sz.take i) != m.but))
      ⟨c9, r9, none, rfl, s9, k9, e9.congr (fun _ => rfl) (fun k => by rw [List.take_zero]; cases m.but <;> rfl)⟩ (fun i σ H4 _ ⟨_, _, _, _, h, _⟩ => seqT_up h hs) ?_ ?_⟩
    · rintro i y σ H4 hy ⟨c, r, o3, rfl, s4, k4, e4⟩
      obtain ⟨x, hx, rfl⟩ := map_get hy
      have bx := rm.bd x (List.mem_of_getElem? hx)
      refine ⟨_, rfl, t, _, 2, _, rfl, rfl, seqT_up s4 ht, rfl, m.but, rfl, ite2 (fun b => ?_) (fun b => ?_)⟩
      all_goals
        refine ⟨_, rfl, rfl, _, rfl, x, rfl, bx.1, bx.2, fun c5 r5 H5 s5 k5 e5 => rb (k4.up s5) k5 e4 e5 fun c6 r6 H6 s6 k6 e6 => ?_⟩
        refine ⟨c6, r6, _, rfl, s4.trans (s5.trans s6), k6, e6.congr (fun w => ?_) (fun j => ?_)⟩
      · simp
      · rw [take_one hx, b]
        cases decide (j ∈ m.sz.take i) <;> cases decide (j = x) <;> rfl
      · simp
      · rw [take_one hx, Bool.eq_false_iff.mpr b]
        cases decide (j ∈ m.sz.take i) <;> cases decide (j = x) <;> rfl
    · rintro σ H4 ⟨c, r, o3, rfl, s4, k4, e4⟩
      rw [List.length_map, List.take_of_length_le (Nat.le_refl _)] at e4
      have e : r = m := e4.uniq ((rm.congrW (fun w hw => by rw [rm.w, kW_mem hw]) fun k => (rm.s k).symm))
      rw [e] at k4
      exact ⟨_, rfl, q c H4 s4 k4⟩
  refine ⟨rfl, rfl, fun c1 r1 H1 s1 k1 e1 => ⟨rfl, rfl, fun c2 r2 H2 s2 k2 e2 => rb (k1.up s2) k2 e1 e2 fun c3 r3 H3 s3 k3 e3 => ?_⟩⟩
  have s03 := s1.trans (s2.trans s3)
  refine ⟨_, rfl, t, _, 0, _, rfl, rfl, seqT_up s03 ht, rfl, tw, rfl, ⟨_, seqT_up s03 hw⟩, for_tup (K := K) (a := tw) (xs := m.ws.map V.str) (fun i σ H4 => ∃ c r o2, σ = [some (.ref t), some (.ref c), o2, none] ∧ Same H H4 ∧ KAt K C H4 c r ∧ Rep r (fun w => decide (w ∈ m.ws.take i)) (fun _ => false))
    ⟨c3, r3, none, rfl, s03, k3, e3.congr (fun w => by rw [List.take_zero]; rfl) (fun _ => rfl)⟩ (fun i σ H4 _ ⟨_, _, _, _, h, _⟩ => seqT_up h hw) ?_ ?_⟩
  · rintro i y σ H4 hy ⟨c, r, o2, rfl, s4, k4, e4⟩
    obtain ⟨x, hx, rfl⟩ := map_get hy
    have mx : x ∈ kW := by
      have z := List.mem_of_getElem? hx
      rw [rm.w] at z
      exact (List.mem_filter.mp z).1
    refine ⟨_, rfl, rfl, _, rfl, x, rfl, .inr ⟨mx, fun c5 r5 H5 s5 k5 e5 => rb (k4.up s5) k5 e4 e5 fun c6 r6 H6 s6 k6 e6 => ?_⟩⟩
    exact ⟨c6, r6, _, rfl, s4.trans (s5.trans s6), k6, e6.congr (fun w => (take_one hx).symm) (fun _ => rfl)⟩
  rintro σ H9 ⟨c9, r9, o2, rfl, s9, k9, e4⟩
  rw [List.length_map, List.take_of_length_le (Nat.le_refl _)] at e4
  refine ⟨_, rfl, t, _, 2, _, rfl, rfl, seqT_up s9 ht, rfl, m.but, rfl, ite2 (fun b => ?_) (fun b => ?_)⟩
  · refine ⟨_, rfl, rfl, _, rfl, .inl ⟨rfl, fun c5 r5 H5 s5 k5 e5 => rb (k9.up s5) k5 e4 e5 fun c6 r6 H6 s6 k6 e6 => ?_⟩⟩
    have e9 : Rep r6 (fun w => decide (w ∈ m.ws)) (fun _ => m.but) := e6.congr (fun w => Bool.or_false _) (fun _ => by rw [b]; rfl)
    have s9 := s9.trans (s5.trans s6)
    exact fin c6 r6 H6 o2 s9 k6 e9
  · have e9 : Rep r9 (fun w => decide (w ∈ m.ws)) (fun _ => m.but) := e4.congr (fun _ => rfl) (fun _ => (Bool.eq_false_iff.mpr b).symm)
    exact fin c9 r9 H9 o2 s9 k9 e9
end
abbrev sSome : Stmt := topS 21
theorem scSome : FnScope ["_law_box_here", "_law_form", "_law_k"] ["_law_box_here"] (defScope sSome) := ⟨rfl, rfl, rfl, by decide +kernel, rfl, by decide +kernel, by decide +kernel⟩
theorem seqT_box {K : PySem.W.Frag} {H : Hp} {p g t : Addr} {xs : List V} (b : Box H p g) (h : SqT K H t xs) : SqT K (cut [p, g] H) t xs := by
  obtain ⟨n, s, u, gs, h1, h2, _⟩ := b.ex
  have out : ∀ {o : HO}, H t = some o → (∀ d, o ≠ .dK d) → (∀ l, o ≠ .lst l) → cut [p, g] H t = some o := fun {o} e n1 n2 => by
    rw [cut_out fun z => ?_]
    · exact e
    rcases List.mem_cons.mp z with z | z
    · rw [z, h1] at e
      exact n1 _ (Option.some.inj e).symm
    · rw [List.mem_singleton.mp z, h2] at e
      exact n2 _ (Option.some.inj e).symm
  rcases h with (h | ⟨u, h⟩) | h
  · exact .inl (.inl (out h (fun _ z => nomatch z) (fun _ z => nomatch z)))
  · exact .inl (.inr ⟨u, out h (fun _ z => nomatch z) (fun _ z => nomatch z)⟩)
  · exact .inr h
theorem MAt.cut {K : PySem.W.Frag} {H : Hp} {p g t : Addr} {m : Ks} (h : MAt K H t m) (b : Box H p g) : MAt K (cut [p, g] H) t m := by
  obtain ⟨tw, ts, h1, h2, h3⟩ := h
  exact ⟨tw, ts, seqT_box b h1, seqT_box b h2, seqT_box b h3⟩
theorem MAt.off {K : PySem.W.Frag} {H H' : Hp} {p g t : Addr} {m : Ks} (h : MAt K H t m) (b : Box H p g) (o : Off [p, g] H H') : MAt K H' t m := ((h.cut b).up o).up (cut_same _ _)
/-- a kind that one_kind knows -/
def Gk (y : V) : Prop := (∃ k : Int, y = .int k ∧ 0 ≤ k ∧ k ≤ 20) ∨ y = .str "tuple" ∨ ∃ x, x ∈ kW ∧ y = .str x
theorem rep_own {b : Bool} {f : Str → Bool} {zs : List Int} (h : zs.Pairwise (· < ·)) (hb : ∀ k ∈ zs, 0 ≤ k ∧ k ≤ 20) : Rep ⟨kW.filter f, b, zs⟩ f (fun k => decide (k ∈ zs) != b) := ⟨rfl, h, hb, fun _ => rfl⟩
theorem one_good {K : PySem.W.Frag} {H : Hp} {y : V} {Q : VK} {E : XK} (h : Gk y) (q : ∀ t m f g H', Same H H' → MAt K H' t m → Rep m f g → Q (.ref t) H') : spOne K [y] H Q E := by
  refine ⟨y, rfl, ?_⟩
  rcases h with ⟨k, rfl, h0, h1⟩ | rfl | ⟨x, hx, rfl⟩
  · exact .inl ⟨k, rfl, fun t H' s h => q t _ _ _ H' s h (rep_size h0 h1)⟩
  · exact .inr (.inl ⟨rfl, fun t H' s h => q t _ _ _ H' s h rep_tup⟩)
  · exact .inr (.inr ⟨x, rfl, hx, fun t H' s h => q t _ _ _ H' s h (rep_word hx)⟩)
/-- a drawn model -/
def spSome (K : PySem.W.Frag) : Sp := fun vs H Q _ => ∃ p g, vs = [.ref p] ∧ Box H p g ∧ ∀ t m f g' H', Off [p, g] H H' → Box H' p g → MAt K H' t m → Rep m f g' → Q (.ref t) H'
theorem gkI {k : Int} (h0 : 0 ≤ k) (h : k < 4) : Gk (.int k) := .inl ⟨k, rfl, h0, by omega⟩
theorem gkW {x : Str} (h : x ∈ kW) : Gk (.str x) := .inr (.inr ⟨x, h, rfl⟩)
theorem mI : ("integer" : Str) ∈ kW := by decide +kernel
theorem mA : ("atom" : Str) ∈ kW := by decide +kernel
theorem mF : ("fault" : Str) ∈ kW := by decide +kernel
theorem rep_ia : Rep ⟨["integer", "atom"], false, []⟩ (fun w => decide (w = "integer") || decide (w = "atom")) (fun _ => false) := ⟨by decide +kernel, .nil, fun k h => absurd h List.not_mem_nil, fun k => by simp [Ks.hasS]⟩
section
variable {P : Program} {w : World} {K : PySem.W.Frag} {mg : Str → Option Value} {base : Heap} {f fT f1 fL fA fV : Addr} {fd dT d1 dL dA dV : FuncData}
theorem ok_some {k : Nat} (F : Fun K "_law_some_kinds" "_law_some_kinds" sSome f fd) (B : Bi mg) (hso : mg "sorted" = none) (hse : mg "set" = none) (T : Tk P w K mg base fT dT) (G1 : Dn P w K mg base 1 "_law_one_kind" ["_law_kind"] (spOne K) f1 d1)
    (GL : Dn P w K mg base 2 "_law_less" ["_law_one", "_law_other"] (spMeet K fun x y => x && !y) fL dL) (GA : Dn P w K mg base 1 "_law_all_kinds" [] (spCon K mAll) fA dA) (GV : Dn P w K mg base 1 "_law_value_kinds" [] (spCon K mVal) fV dV) :
    FnOk P w K mg base CX0 (k + 3) f fd ["_law_box_here"] (spSome K) := by
  refine F.ok scSome (fun vs H Q E h => ?_) (fun cdv A outer s H vs Q E hr h => ?_)
  · obtain ⟨p, g, rfl, _⟩ := h
    rfl
  obtain ⟨p, g, rfl, b0, q⟩ := h
  have hr1 : Room 1 _ := hr.mono (by omega)
  have hr2 : Room 2 _ := hr.mono (by omega)
  refine ⟨_, pss_cons (ps_par (i := 1) (j := 2) rfl scSome.nd rfl rfl (by decide) rfl rfl (pa_cons (pe_call T.ok hr1 (by rfl) T.mg T.kp T.bd .nil pass0 (pa_cons (pv 0) (pa_cons pe_int pa_nil))) (pa_cons (pe_call T.ok hr1 (by rfl) T.mg T.kp T.bd .nil pass0 (pa_cons (pv 0) (pa_cons pe_int pa_nil))) pa_nil)) (by rfl))
    (pss_cons (ps_if (pt_cmpR op_lt (pv 1) pe_int (nomark _)) (pss_one (ps_ret (pe_call G1.ok hr1 (by rfl) G1.mg G1.kp G1.bd .nil pass0 (pa_cons (pe_ix ix_list (pe_lst (pa_cons pe_str (pa_cons pe_str (pa_cons pe_str (pa_cons pe_str (pa_cons pe_str (pa_cons (pv 2) (pa_cons (pv 2) (pa_cons (pv 2) (pa_cons pe_int pa_nil)))))))))) (pv 1) (fun _ _ => rfl)) pa_nil)))) pss_nil)
    (pss_cons (ps_if (pt_cmpR op_eq (pv 1) pe_int (nomark _)) (pss_one (ps_ret (pe_call GL.ok hr2 (by rfl) GL.mg GL.kp GL.bd .nil pass0 (pa_cons (pe_call0 GA.ok hr1 (by rfl) GA.mg GA.kp GA.bd .nil pass0) (pa_cons (pe_call G1.ok hr1 (by rfl) G1.mg G1.kp G1.bd .nil pass0
        (pa_cons (pe_ix ix_list (pe_lst (pa_cons pe_str (pa_cons pe_str (pa_cons pe_str (pa_cons (pv 2) pa_nil))))) (pe_call T.ok hr1 (by rfl) T.mg T.kp T.bd .nil pass0 (pa_cons (pv 0) (pa_cons pe_int pa_nil))) (fun _ _ => rfl)) pa_nil)) pa_nil))))) pss_nil)
    (pss_cons (ps_if (pt_cmpR op_eq (pv 1) pe_int (nomark _)) (pss_one (ps_ret (pe_tup (pa_cons (pe_tup (pa_cons pe_str (pa_cons pe_str pa_nil))) (pa_cons (pe_tup pa_nil) (pa_cons pe_bl pa_nil)))))) pss_nil)
    (pss_cons (ps_if (pt_cmpR op_eq (pv 1) pe_int (nomark _)) (pss_one (ps_ret (pe_tup (pa_cons (pe_tup pa_nil) (pa_cons (pe_callTy call_tuple_of (by rfl) B.tup b_tup (pa_cons (pe_callB (cr_sortedSet rfl) (by rfl) hso (by decide +kernel)
        (pa_cons (pe_callTy (cr_setI rfl) (by rfl) hse PyProof.Rows.boot_set (pa_cons (pe_lst (pa_cons (pv 2) (pa_cons (pe_call T.ok hr1 (by rfl) T.mg T.kp T.bd .nil pass0 (pa_cons (pv 0) (pa_cons pe_int pa_nil))) pa_nil))) pa_nil)) pa_nil)) pa_nil)) (pa_cons pe_bl pa_nil)))))) pss_nil)
    (pss_cons (ps_if (pt_cmpR op_eq (pv 1) pe_int (nomark _)) (pss_one (ps_ret (pe_call G1.ok hr1 (by rfl) G1.mg G1.kp G1.bd .nil pass0
        (pa_cons (pe_ix ix_list (pe_lst (pa_cons pe_str (pa_cons pe_str pa_nil))) (pe_call T.ok hr1 (by rfl) T.mg T.kp T.bd .nil pass0 (pa_cons (pv 0) (pa_cons pe_int pa_nil))) (fun _ _ => rfl)) pa_nil)))) pss_nil)
    (pss_cons (ps_if (pt_cmpR op_eq (pv 1) pe_int (nomark _)) (pss_one (ps_ret (pe_tup (pa_cons (pe_tup pa_nil) (pa_cons (pe_tup (pa_cons (pv 2) pa_nil)) (pa_cons pe_bl pa_nil)))))) pss_nil)
    (pss_one (ps_ret (pe_ix ix_list (pe_lst (pa_cons (pe_call0 GV.ok hr1 (by rfl) GV.mg GV.kp GV.bd .nil pass0) (pa_cons (pe_tup (pa_cons (pe_tup (pa_cons pe_str (pa_cons pe_str pa_nil))) (pa_cons (pe_tup (pa_cons (pv 2) pa_nil)) (pa_cons pe_bl pa_nil)))) (pa_cons (pe_call0 GA.ok hr1 (by rfl) GA.mg GA.kp GA.bd .nil pass0) pa_nil)))) (pe_op op_sub (pv 1) pe_int) (fun _ _ => rfl)))))))))), ?_⟩
  refine ⟨_, rfl, p, g, 17, rfl, b0, by decide, by decide, fun r H1 r0 r17 b1 o1 => ⟨_, rfl, p, g, 4, rfl, b1, by decide, by decide, fun z H3 z0 z4 b3 o2 => ⟨_, _, rfl, ?_⟩⟩⟩
  have o3 : Off [p, g] H H3 := o1.trans o2
  have fin : ∀ {t : Addr} {m : Ks} {f : Str → Bool} {g' : Int → Bool} {H' : Hp}, Same H3 H' → MAt K H' t m → Rep m f g' → Q (.ref t) H' := fun s h r => q _ _ _ _ _ (o3.trans (Off.of s)) (b3.same s) h r
  refine ⟨_, rfl, _, _, rfl, rfl, _, rfl, ?_⟩
  refine ite2 (fun c => ?_) (fun c => ?_)
  · have gl : ∀ y ∈ [V.str "integer", .str "integer", .str "integer", .str "atom", .str "atom", .int z, .int z, .int z, .int 2], Gk y := by
      intro y hy
      simp only [List.mem_cons, List.not_mem_nil, or_false] at hy
      rcases hy with h | h | h | h | h | h | h | h | h <;> rw [h] <;> first | exact gkW mI | exact gkW mA | exact gkI z0 z4 | exact gkI (by decide) (by decide)
    obtain ⟨y, hy, my, _⟩ := atI_ok (xs := [V.str "integer", .str "integer", .str "integer", .str "atom", .str "atom", .int z, .int z, .int z, .int 2]) r0 (by simpa using c)
    refine ⟨_, rfl, _, rfl, _, rfl, few (by simp), fun L hL => ⟨_, rfl, L, _, r, _, rfl, rfl, SqL.of upd_same, hy, one_good (E := E0) (gl y my) fun t m f' g' H' s' k' e' => ?_⟩⟩
    exact fin ((same_new hL _).trans s') k' e'
  have n9 : ¬ r < 9 := fun e => c (decide_eq_true e)
  refine ⟨_, rfl, rfl, _, rfl, ite2 (fun _ => ?_) (fun c => ?_)⟩
  · refine ⟨rfl, fun t1 H4 s4 k4 => ?_⟩
    have gl : ∀ y ∈ [V.str "integer", .str "atom", .str "fault", .int z], Gk y := by
      intro y hy
      simp only [List.mem_cons, List.not_mem_nil, or_false] at hy
      rcases hy with h | h | h | h <;> rw [h] <;> first | exact gkW mI | exact gkW mA | exact gkW mF | exact gkI z0 z4
    refine ⟨_, rfl, few (by simp), fun L hL => ?_⟩
    have b4 := b3.same s4
    have nL := b4.notin hL
    have b5 := b4.put (o := .lst [V.str "integer", .str "atom", .str "fault", .int z]) nL
    have s5 := same_new (o := .lst [V.str "integer", .str "atom", .str "fault", .int z]) hL
    refine ⟨_, rfl, p, g, 4, rfl, b5, by decide, by decide, fun r2 H6 r20 r24 b6 o6 => ?_⟩
    obtain ⟨y, hy, my, _⟩ := atI_ok (xs := [V.str "integer", .str "atom", .str "fault", .int z]) r20 (by simpa using r24)
    have fin2 : ∀ {t2 : Addr} {m2 : Ks} {f2 : Str → Bool} {g2 : Int → Bool} {H7 : Hp}, Same H6 H7 → MAt K H7 t2 m2 → Rep m2 f2 g2 → spMeet K (fun x y => x && !y) [.ref t1, .ref t2] H7 Q E0 := fun {t2 m2 f2 g2 H7} s7 k7 e7 => by
      have k16 := ((k4.up s5).off b5 o6).up s7
      refine ⟨t1, t2, mAll, m2, _, _, _, _, rfl, k16, k7, rep_all, e7, fun t r' H' s' k' e' => ?_⟩
      exact q _ _ _ _ _ (o3.trans ((Off.of (s4.trans s5)).trans (o6.trans (Off.of (s7.trans s'))))) (b6.same (s7.trans s')) k' e'
    refine ⟨L, _, r2, _, rfl, rfl, SqL.of (o6.get upd_same nL), hy, y, rfl, ?_⟩
    rcases gl y my with ⟨k, rfl, h0, h1⟩ | rfl | ⟨x, hx, rfl⟩
    · exact .inl ⟨k, rfl, fun t2 H7 s7 k7 => fin2 s7 k7 (rep_size h0 h1)⟩
    · exact .inr (.inl ⟨rfl, fun t2 H7 s7 k7 => fin2 s7 k7 rep_tup⟩)
    · exact .inr (.inr ⟨x, rfl, hx, fun t2 H7 s7 k7 => fin2 s7 k7 (rep_word hx)⟩)
  have n9' : r ≠ 9 := fun e => c (by rw [e]; rfl)
  refine ⟨_, rfl, rfl, _, rfl, ite2 (fun _ => ?_) (fun c => ?_)⟩
  · refine ⟨few (by simp), fun t1 h1 => ⟨by decide, fun t2 h2 => ⟨few (by simp), fun t3 h3 => ?_⟩⟩⟩
    have s2 := same_new (o := .tup []) h2
    have s3 := same_new (o := .tup [.ref t1, .ref t2, .bl false]) h3
    exact fin ((same_new h1 _).trans (s2.trans s3)) (MAt.of (m := ⟨["integer", "atom"], false, []⟩) upd_same (.inl (.inl ((s2.trans s3) _ _ upd_same))) (.inl (.inl (s3 _ _ upd_same)))) rep_ia
  have n10 : r ≠ 10 := fun e => c (by rw [e]; rfl)
  refine ⟨_, rfl, rfl, _, rfl, ite2 (fun _ => ?_) (fun c => ?_)⟩
  · refine ⟨by decide, fun t1 h1 => ⟨_, rfl, _, rfl, p, g, 4, rfl, b3.same (same_new h1 _), by decide, by decide, fun r2 H6 r20 r24 b6 o6 => ⟨few (by simp), fun L hL => ?_⟩⟩⟩
    have s5 := same_new (o := .lst [V.int z, .int r2]) hL
    refine ⟨L, [z, r2], rfl, .inl (SqL.of upd_same), by simp, fun u c0 hu hc0 => ?_⟩
    have s6 := same_new (o := SetO w u (fun j => decide (j ∈ [z, r2])) c0) hu
    refine ⟨u, _, c0, rfl, upd_same, by (have : [z, r2].length = 2 := rfl); omega, fun ns' p2 srt mem hlen hp2 => ?_⟩
    have s7 := same_new (o := .lst (ns'.map V.int)) hp2
    refine ⟨p2, _, rfl, .inl ⟨SqL.of upd_same, fun t3 ht3 => ⟨few (by simp), fun t9 ht9 => ?_⟩⟩⟩
    have s8 := same_new (o := .tup (ns'.map V.int)) ht3
    have s9 := same_new (o := .tup [.ref t1, .ref t3, .bl false]) ht9
    have n1 := b3.notin h1
    have g1 := (s5.trans (s6.trans (s7.trans (s8.trans s9)))) _ _ (o6.get (upd_same (H := H3) (a := t1) (o := .tup [])) n1)
    have sa := s5.trans (s6.trans (s7.trans (s8.trans s9)))
    refine q _ _ _ _ _ (o3.trans ((Off.of (same_new h1 _)).trans (o6.trans (Off.of sa)))) (b6.same sa) (MAt.of (m := ⟨[], false, ns'⟩) upd_same (.inl (.inl g1)) (.inl (.inl (s9 _ _ upd_same)))) (rep_own (f := fun _ => false) srt fun k hk => ?_)
    have hk := of_decide_eq_true ((mem k).mp hk)
    simp only [List.mem_cons, List.not_mem_nil, or_false] at hk
    omega
  have n11 : r ≠ 11 := fun e => c (by rw [e]; rfl)
  refine ⟨_, rfl, rfl, _, rfl, ite2 (fun _ => ?_) (fun c => ?_)⟩
  · have gl : ∀ y ∈ [V.str "tuple", .str "fault"], Gk y := by
      intro y hy
      simp only [List.mem_cons, List.not_mem_nil, or_false] at hy
      rcases hy with h | h <;> rw [h] <;> first | exact gkW mF | exact .inr (.inl rfl)
    refine ⟨few (by simp), fun L hL => ?_⟩
    have nL := b3.notin hL
    have b5 := b3.put (o := .lst [V.str "tuple", .str "fault"]) nL
    have s5 := same_new (o := .lst [V.str "tuple", .str "fault"]) hL
    refine ⟨_, rfl, p, g, 2, rfl, b5, by decide, by decide, fun r2 H6 r20 r24 b6 o6 => ?_⟩
    obtain ⟨y, hy, my, _⟩ := atI_ok (xs := [V.str "tuple", .str "fault"]) r20 (by simpa using r24)
    refine ⟨L, _, r2, _, rfl, rfl, SqL.of (o6.get upd_same nL), hy, one_good (E := E0) (gl y my) fun t m f2 g2 H7 s7 k7 e7 => ?_⟩
    exact q _ _ _ _ _ (o3.trans ((Off.of s5).trans (o6.trans (Off.of s7)))) (b6.same s7) k7 e7
  have n12 : r ≠ 12 := fun e => c (by rw [e]; rfl)
  refine ⟨_, rfl, rfl, _, rfl, ite2 (fun _ => ?_) (fun c => ?_)⟩
  · refine ⟨by decide, fun t1 h1 => ⟨_, rfl, few (by simp), fun t2 h2 => ⟨few (by simp), fun t3 h3 => ?_⟩⟩⟩
    have s2 := same_new (o := .tup [.int z]) h2
    have s3 := same_new (o := .tup [.ref t1, .ref t2, .bl true]) h3
    exact fin ((same_new h1 _).trans (s2.trans s3)) (MAt.of (m := ⟨[], true, [z]⟩) upd_same (.inl (.inl ((s2.trans s3) _ _ upd_same))) (.inl (.inl (s3 _ _ upd_same)))) (rep_own (f := fun _ => false) (List.pairwise_singleton _ _) fun k hk => by (rw [List.mem_singleton.mp hk]); omega)
  have n13 : r ≠ 13 := fun e => c (by rw [e]; rfl)
  refine ⟨rfl, fun t1 H4 s4 k4 => ?_⟩
  refine ⟨few (by simp), fun u1 h1 => ⟨_, rfl, few (by simp), fun u2 h2 => ⟨few (by simp), fun u3 h3 => ?_⟩⟩⟩
  have g1 := same_new (o := .tup [.str "integer", .str "fault"]) h1
  have g2 := same_new (o := .tup [.int z]) h2
  have g3 := same_new (o := .tup [.ref u1, .ref u2, .bl false]) h3
  have k5 : MAt K (upd (upd (upd H4 u1 (.tup [.str "integer", .str "fault"])) u2 (.tup [.int z])) u3 (.tup [.ref u1, .ref u2, .bl false])) u3 ⟨["integer", "fault"], false, [z]⟩ := MAt.of upd_same (.inl (.inl ((g2.trans g3) _ _ upd_same))) (.inl (.inl (g3 _ _ upd_same)))
  refine ⟨rfl, fun t2 H5 s5 k6 => ⟨few (by simp), fun L hL => ⟨_, rfl, _, _, rfl, rfl, ?_⟩⟩⟩
  have s6 := same_new (o := .lst [.ref t1, .ref u3, .ref t2]) hL
  obtain ⟨y, hy, my, _⟩ := atI_ok (xs := [V.ref t1, .ref u3, .ref t2]) (r := r - 14) (by omega) (by simp only [List.length_cons, List.length_nil]; omega)
  refine ⟨L, _, r - 14, y, rfl, rfl, SqL.of upd_same, hy, ?_⟩
  have s3L := s4.trans (g1.trans (g2.trans (g3.trans (s5.trans s6))))
  simp only [List.mem_cons, List.not_mem_nil, or_false] at my
  rcases my with h | h | h <;> rw [h]
  · exact fin s3L (k4.up (g1.trans (g2.trans (g3.trans (s5.trans s6))))) rep_val
  · exact fin s3L (k5.up (s5.trans s6)) (rep_own (f := fun w => decide (w = "integer") || decide (w = "fault")) (List.pairwise_singleton _ _) fun k hk => by (rw [List.mem_singleton.mp hk]); omega)
  · exact fin s3L (k6.up s6) rep_all
end
abbrev sWide : Stmt := topS 23
theorem scWide : FnScope ["_law_box_here", "_law_found", "_law_turn", "_law_other"] ["_law_box_here"] (defScope sWide) := ⟨rfl, rfl, rfl, by decide +kernel, rfl, by decide +kernel, by decide +kernel⟩
section
variable {P : Program} {w : World} {K : PySem.W.Frag} {mg : Str → Option Value} {base : Heap} {f fT fL fM fS : Addr} {fd dT dL dM dS : FuncData}
theorem ok_wide {k : Nat} (F : Fun K "_law_wide" "_law_wide" sWide f fd) (B : Bi mg) (hso : mg "sorted" = none) (hse : mg "set" = none) (hli : mg "list" = none) (T : Tk P w K mg base fT dT) (GS : Dn P w K mg base 3 "_law_some_kinds" ["_law_box_here"] (spSome K) fS dS)
    (GM : Dn P w K mg base 1 "_law_meet" ["_law_one", "_law_other"] (spMeet K and) fM dM) (GL : Dn P w K mg base 2 "_law_less" ["_law_one", "_law_other"] (spMeet K fun x y => x && !y) fL dL) :
    FnOk P w K mg base CX0 (k + 4) f fd ["_law_box_here"] (spSome K) := by
  refine F.ok scWide (fun vs H Q E h => ?_) (fun cdv A outer s H vs Q E hr h => ?_)
  · obtain ⟨p, g, rfl, _⟩ := h
    rfl
  obtain ⟨p, g, rfl, b0, q⟩ := h
  have hr1 : Room 1 _ := hr.mono (by omega)
  have hr2 : Room 2 _ := hr.mono (by omega)
  have hr3 : Room 3 _ := hr.mono (by omega)
  refine ⟨_, pss_cons (ps_set (i := 1) scWide.nd rfl (.inl rfl) (pe_call GS.ok hr3 (by rfl) GS.mg GS.kp GS.bd .nil pass0 (pa_cons (pv 0) pa_nil)))
    (pss_cons (ps_for PassesOwn.never rfl (pi_range1 (by rfl) B.rng (pa_cons (pe_call T.ok hr1 (by rfl) T.mg T.kp T.bd .nil pass0 (pa_cons (pv 0) (pa_cons pe_int pa_nil))) pa_nil)) (pg_name (i := 2) scWide.nd rfl (.inl rfl))
      (pss_cons (ps_set (i := 3) scWide.nd rfl (.inl rfl) (pe_call GS.ok hr3 (by rfl) GS.mg GS.kp GS.bd .nil pass0 (pa_cons (pv 0) pa_nil)))
      (pss_cons (ps_if (pt_cmpR op_eq (pe_call T.ok hr1 (by rfl) T.mg T.kp T.bd .nil pass0 (pa_cons (pv 0) (pa_cons pe_int pa_nil))) pe_int (nomark _))
        (pss_one (ps_set (i := 3) scWide.nd rfl (.inl rfl) (pe_tup (pa_cons (pe_ix ix_tup (pv 3) pe_int (fun _ _ => rfl)) (pa_cons (pe_callTy call_tuple_of (by rfl) B.tup b_tup (pa_cons (pe_callB (cr_sortedSet rfl) (by rfl) hso (by decide +kernel)
          (pa_cons (pe_callTy (cr_setI rfl) (by rfl) hse PyProof.Rows.boot_set (pa_cons (pe_op op_cat (pe_callTy call_list_of (by rfl) hli PyProof.Rows.boot_list (pa_cons (pe_ix ix_tup (pv 3) pe_int (fun _ _ => rfl)) pa_nil))
            (pe_lst (pa_cons (pe_op op_add pe_int (pe_call T.ok hr1 (by rfl) T.mg T.kp T.bd .nil pass0 (pa_cons (pv 0) (pa_cons pe_int pa_nil)))) pa_nil))) pa_nil)) pa_nil)) pa_nil)) (pa_cons (pe_ix ix_tup (pv 3) pe_int (fun _ _ => rfl)) pa_nil)))))) pss_nil)
      (pss_one (ps_set (i := 1) scWide.nd rfl (.inl rfl) (pe_ix ix_list (pe_lst (pa_cons (pe_call GM.ok hr1 (by rfl) GM.mg GM.kp GM.bd .nil pass0 (pa_cons (pv 1) (pa_cons (pv 3) pa_nil))) (pa_cons (pe_call GL.ok hr2 (by rfl) GL.mg GL.kp GL.bd .nil pass0 (pa_cons (pv 1) (pa_cons (pv 3) pa_nil))) (pa_cons (pv 3) pa_nil))))
        (pe_call T.ok hr1 (by rfl) T.mg T.kp T.bd .nil pass0 (pa_cons (pv 0) (pa_cons pe_int pa_nil))) (fun _ _ => rfl)))))))
    (pss_one (ps_ret (pv 1)))), ?_⟩
  refine ⟨_, rfl, p, g, rfl, b0, fun t1 m1 f1 g1 H1 o1 b1 k1 e1 => ?_⟩
  refine ⟨_, rfl, p, g, 4, rfl, b1, by decide, by decide, fun r H2 r0 r4 b2 o2 => ?_⟩
  refine ⟨r, rfl, by omega, by omega, for_range (n := r.toNat) (fun i σ H2 => ∃ t m f g' o2 o3, σ = [some (.ref p), some (.ref t), o2, o3] ∧ Off [p, g] H H2 ∧ Box H2 p g ∧ MAt K H2 t m ∧ Rep m f g') ⟨t1, m1, _, _, none, none, rfl, o1.trans o2, b2, k1.off b1 o2, e1⟩ ?_ ?_⟩
  · rintro i σ H2 hi ⟨t, m, f, g', o2, o3, rfl, of2, b2, k2, e2⟩
    have rest : ∀ (D : Ends) (x2 : Option V) (t' : Addr) (m' : Ks) (f' : Str → Bool) (g'' : Int → Bool) (H5 : Hp), Off [p, g] H H5 → Box H5 p g → MAt K H5 t m → MAt K H5 t' m' → Rep m' f' g'' → (∀ t9 m9 f9 g9 H9, Off [p, g] H H9 → Box H9 p g → MAt K H9 t9 m9 → Rep m9 f9 g9 → D.nx [some (.ref p), some (.ref t9), x2, some (.ref t')] H9) →
        tAsg (tOp (rIxL K) (tLst (tCons (tCall (spMeet K and) [] E0 (tCons (tVar 1) (tCons (tVar 3) tNil))) (tCons (tCall (spMeet K fun x y => x && !y) [] E0 (tCons (tVar 1) (tCons (tVar 3) tNil))) (tCons (tVar 3) tNil)))) (tCall spTake [] E0 (tCons (tVar 0) (tCons (tC (.int 3)) tNil)))) (gName 1) D [some (.ref p), some (.ref t), x2, some (.ref t')] H5 :=
      fun D x2 t' m' f' g'' H5 of5 b5 k5 k5' e5' qq => by
        refine ⟨_, rfl, _, rfl, t, t', m, m', _, _, _, _, rfl, k5, k5', e2, e5', fun u1 n1 H6 s6 k6 e6 => ?_⟩
        refine ⟨_, rfl, _, rfl, t, t', m, m', _, _, _, _, rfl, k5.up s6, k5'.up s6, e2, e5', fun u2 n2 H7 s7 k7 e7 => ?_⟩
        refine ⟨_, rfl, few (by simp), fun L hL => ?_⟩
        have s8 := same_new (o := .lst [.ref u1, .ref u2, .ref t']) hL
        have s58 := s6.trans (s7.trans s8)
        have b8 := b5.same s58
        have nL := (b5.same (s6.trans s7)).notin hL
        refine ⟨_, rfl, p, g, 3, rfl, b8, by decide, by decide, fun r2 H9 r20 r23 b9 o9 => ?_⟩
        obtain ⟨y, hy, my, _⟩ := atI_ok (xs := [V.ref u1, .ref u2, .ref t']) r20 (by simpa using r23)
        refine ⟨L, _, r2, y, rfl, rfl, SqL.of (o9.get upd_same nL), hy, ?_⟩
        have of9 := of5.trans ((Off.of s58).trans o9)
        simp only [List.mem_cons, List.not_mem_nil, or_false] at my
        rcases my with h | h | h <;> rw [h]
        · exact qq u1 n1 _ _ H9 of9 b9 ((k6.up (s7.trans s8)).off b8 o9) e6
        · exact qq u2 n2 _ _ H9 of9 b9 ((k7.up s8).off b8 o9) e7
        · exact qq t' m' _ _ H9 of9 b9 ((k5'.up s58).off b8 o9) e5'
    refine ⟨_, rfl, p, g, rfl, b2, fun t' m' f' g'' H3 oo3 b3 k3 e3 => ?_⟩
    refine ⟨_, rfl, p, g, 4, rfl, b3, by decide, by decide, fun r2 H4 r20 r24 b4 o4 => ⟨rfl, _, rfl, ?_⟩⟩
    have k4 := (k2.off b2 oo3).off b3 o4
    have k4' := k3.off b3 o4
    have of4 := of2.trans (oo3.trans o4)
    refine ite2 (fun _ => ?_) (fun _ => ?_)
    · obtain ⟨tw, ts, ht, hw, hs⟩ := id k4'
      refine ⟨_, rfl, t', _, 0, _, rfl, rfl, ht, rfl, ?_⟩
      refine ⟨_, rfl, t', _, 1, _, rfl, rfl, ht, rfl, ts, _, rfl, .inr hs, fun L1 hL1 => ?_⟩
      have s5 := same_new (o := .lst (m'.sz.map V.int)) hL1
      have nL1 := b4.notin hL1
      have b5 := b4.same s5
      refine ⟨_, rfl, p, g, 17, rfl, b5, by decide, by decide, fun r3 H6 r30 r37 b6 o6 => ⟨_, _, rfl, rfl, few (by simp), fun L2 hL2 => ?_⟩⟩
      have s7 := same_new (o := .lst [V.int (4 + r3)]) hL2
      have lz := e3.len
      refine ⟨L1, L2, _, _, rfl, rfl, s7 _ _ (o6.get upd_same nL1), upd_same, few2 (by rw [List.length_map]; simp only [List.length_cons, List.length_nil]; omega), fun L3 hL3 => ?_⟩
      have s8 := same_new (o := .lst (m'.sz.map V.int ++ [V.int (4 + r3)])) hL3
      refine ⟨L3, m'.sz ++ [4 + r3], rfl, .inl (SqL.of (by rw [upd_same, List.map_append]; rfl)), by rw [List.length_append, List.length_singleton]; omega, fun u c0 hu hc0 => ?_⟩
      rw [List.length_append, List.length_singleton] at hc0
      have s9 := same_new (o := SetO w u (fun j => decide (j ∈ m'.sz ++ [4 + r3])) c0) hu
      refine ⟨u, _, c0, rfl, upd_same, by omega, fun ns' p2 srt mem hlen hp2 => ?_⟩
      have s10 := same_new (o := .lst (ns'.map V.int)) hp2
      refine ⟨p2, _, rfl, .inl ⟨SqL.of upd_same, fun t3 ht3 => ?_⟩⟩
      have s11 := same_new (o := .tup (ns'.map V.int)) ht3
      have s6b := s7.trans (s8.trans (s9.trans (s10.trans s11)))
      have k6 := (((k4'.up s5).off b5 o6).up s6b)
      have kf := (((k4.up s5).off b5 o6).up s6b)
      have b12 := b6.same s6b
      have of12 := of4.trans ((Off.of s5).trans (o6.trans (Off.of s6b)))
      have ht12 : SqT K _ t' _ := seqT_up s6b (seqT_up (cut_same _ _) (seqT_up o6 (seqT_box b5 (seqT_up s5 ht))))
      have hw12 : SqT K _ tw _ := seqT_up s6b (seqT_up (cut_same _ _) (seqT_up o6 (seqT_box b5 (seqT_up s5 hw))))
      refine ⟨_, rfl, t', _, 2, _, rfl, rfl, ht12, rfl, few (by simp), fun t9 ht9 => ?_⟩
      have s13 := same_new (o := .tup [.ref tw, .ref t3, .bl m'.but]) ht9
      refine rest _ _ t9 ⟨m'.ws, m'.but, ns'⟩ f' (fun k => decide (k ∈ ns') != m'.but) _ (of12.trans (Off.of s13)) (b12.same s13) (kf.up s13) (MAt.of (m := ⟨m'.ws, m'.but, ns'⟩) upd_same (seqT_up s13 hw12) (.inl (.inl (s13 _ _ upd_same)))) ⟨e3.w, srt, fun k hk => ?_, fun _ => rfl⟩ fun t9 m9 f9 g9 H9 a1 a2 a3 a4 => ⟨t9, m9, f9, g9, _, _, rfl, a1, a2, a3, a4⟩
      have hk := of_decide_eq_true ((mem k).mp hk)
      rcases List.mem_append.mp hk with h | h
      · exact e3.bd k h
      · rw [List.mem_singleton.mp h]
        omega
    · exact rest _ _ t' m' f' g'' _ of4 b4 k4 k4' e3 fun t9 m9 f9 g9 H9 a1 a2 a3 a4 => ⟨t9, m9, f9, g9, _, _, rfl, a1, a2, a3, a4⟩
  · rintro σ H2 ⟨t, m, f, g', o2, o3, rfl, of2, b2, k2, e2⟩
    exact ⟨_, rfl, q t m f g' H2 of2 b2 k2 e2⟩
end
abbrev sPro : Stmt := topS 22
theorem scPro : FnScope ["_law_one", "_law_other", "_law_listed", "_law_sizes"] ["_law_one", "_law_other"] (defScope sPro) := ⟨rfl, rfl, rfl, by decide +kernel, rfl, by decide +kernel, by decide +kernel⟩
/-- sizes that tell two models apart -/
structure Prb (m n : Ks) (ps : List Int) : Prop where
  len : ps.length ≤ 60
  bd : ∀ k ∈ ps, 0 ≤ k ∧ k ≤ 21
  l : ∀ k ∈ m.sz, k ∈ ps
  r : ∀ k ∈ n.sz, k ∈ ps
  out : ∃ j, j ∈ ps ∧ j ∉ m.sz ∧ j ∉ n.sz
theorem rg7 : rgV 0 7 = ([0, 1, 2, 3, 4, 5, 6] : List Int).map V.int := rfl
def spPro (K : PySem.W.Frag) : Sp := fun vs H Q _ => ∃ a b m n f g f' g', vs = [.ref a, .ref b] ∧ MAt K H a m ∧ MAt K H b n ∧ Rep m f g ∧ Rep n f' g' ∧ ∀ L ps H', Same H H' → H' L = some (.lst (kW.map V.str ++ ps.map V.int)) → Prb m n ps → Q (.ref L) H'
section
variable {P : Program} {w : World} {K : PySem.W.Frag} {mg : Str → Option Value} {base : Heap} {f : Addr} {fd : FuncData}
theorem ok_pro {k : Nat} (F : Fun K "_law_probes" "_law_probes" sPro f fd) (B : Bi mg) (hso : mg "sorted" = none) (hse : mg "set" = none) (hli : mg "list" = none) (hma : mg "max" = none) :
    FnOk P w K mg base CX0 (k + 1) f fd ["_law_one", "_law_other"] (spPro K) := by
  refine F.ok scPro (fun vs H Q E h => ?_) (fun cdv A outer s H vs Q E hr h => ?_)
  · obtain ⟨a, b, m, n, f, g, f', g', rfl, _⟩ := h
    rfl
  obtain ⟨a, b, m, n, f, g, f', g', rfl, ⟨tw, ts, ha, hwa, hsa⟩, ⟨tw', ts', hb, hwb, hsb⟩, rm, rn, q⟩ := h
  refine ⟨_, pss_cons (ps_set (i := 2) scPro.nd rfl (.inl rfl) (pe_op op_cat (pe_callTy call_list_of (by rfl) hli PyProof.Rows.boot_list (pa_cons (pe_ix ix_tup (pv 0) pe_int (fun _ _ => rfl)) pa_nil)) (pe_callTy call_list_of (by rfl) hli PyProof.Rows.boot_list (pa_cons (pe_ix ix_tup (pv 1) pe_int (fun _ _ => rfl)) pa_nil))))
    (pss_cons (ps_set (i := 3) scPro.nd rfl (.inl rfl) (pe_callB (cr_sortedSet rfl) (by rfl) hso (by decide +kernel)
        (pa_cons (pe_callTy (cr_setI rfl) (by rfl) hse PyProof.Rows.boot_set (pa_cons (pe_op op_cat (pe_op op_cat (pe_listRg rfl (by rfl) hli (prg_1 (by rfl) B.rng pe_int)) (pv 2))
          (pe_lst (pa_cons (pe_op op_add (pe_callB (cr_max rfl) (by rfl) hma (by decide +kernel) (pa_cons (pe_op op_cat (pv 2) (pe_lst (pa_cons pe_int pa_nil))) pa_nil)) pe_int) pa_nil))) pa_nil)) pa_nil)))
    (pss_one (ps_ret (pe_op op_cat (pe_lst (pa_cons pe_str (pa_cons pe_str (pa_cons pe_str pa_nil)))) (pv 3))))), ?_⟩
  have lm := rm.len
  have ln := rn.len
  refine ⟨_, rfl, a, _, 1, _, rfl, rfl, ha, rfl, ts, _, rfl, .inr hsa, fun L1 hL1 => ?_⟩
  have s1 := same_new (o := .lst (m.sz.map V.int)) hL1
  refine ⟨_, rfl, b, _, 1, _, rfl, rfl, seqT_up s1 hb, rfl, ts', _, rfl, .inr (seqT_up s1 hsb), fun L2 hL2 => ?_⟩
  have s2 := same_new (o := .lst (n.sz.map V.int)) hL2
  refine ⟨L1, L2, _, _, rfl, rfl, s2 _ _ upd_same, upd_same, few2 (by rw [List.length_map, List.length_map]; omega), fun L3 hL3 => ?_⟩
  have s3 := same_new (o := .lst (m.sz.map V.int ++ n.sz.map V.int)) hL3
  have s03 := s1.trans (s2.trans s3)
  have g3 : (upd (upd (upd H L1 (.lst (m.sz.map V.int))) L2 (.lst (n.sz.map V.int))) L3 (.lst (m.sz.map V.int ++ n.sz.map V.int))) L3 = some (.lst ((m.sz ++ n.sz).map V.int)) := by rw [upd_same, List.map_append]
  generalize upd (upd (upd H L1 (.lst (m.sz.map V.int))) L2 (.lst (n.sz.map V.int))) L3 (.lst (m.sz.map V.int ++ n.sz.map V.int)) = H3 at s03 g3
  refine ⟨7, rfl, RgOk.of_le (by decide) (by decide) (by decide) (by decide), fun L4 hL4 => ?_⟩
  have s4 := same_new (o := .lst (rgV 0 7)) hL4
  refine ⟨_, rfl, L4, L3, _, _, rfl, rfl, upd_same, s4 _ _ g3, few2 (by rw [rgV_length, List.length_map, List.length_append]; omega), fun L5 hL5 => ?_⟩
  have s5 := same_new (o := .lst (rgV 0 7 ++ (m.sz ++ n.sz).map V.int)) hL5
  have s35 := s4.trans s5
  have g5 : (upd (upd H3 L4 (.lst (rgV 0 7))) L5 (.lst (rgV 0 7 ++ (m.sz ++ n.sz).map V.int))) L5 = some (.lst (([0, 1, 2, 3, 4, 5, 6] ++ (m.sz ++ n.sz)).map V.int)) := by rw [upd_same, rg7, ← List.map_append]
  generalize upd (upd H3 L4 (.lst (rgV 0 7))) L5 (.lst (rgV 0 7 ++ (m.sz ++ n.sz).map V.int)) = H5 at s35 g5
  refine ⟨_, rfl, few (by simp), fun L6 hL6 => ?_⟩
  have s6 := same_new (o := .lst [V.int 0]) hL6
  refine ⟨L3, L6, _, _, rfl, rfl, s6 _ _ (s35 _ _ g3), upd_same, few2 (by rw [List.length_map, List.length_append]; simp only [List.length_cons, List.length_nil]; omega), fun L7 hL7 => ?_⟩
  have s7 := same_new (o := .lst ((m.sz ++ n.sz).map V.int ++ [V.int 0])) hL7
  refine ⟨L7, m.sz ++ n.sz ++ [0], rfl, SqL.of (by rw [upd_same, List.map_append (l₂ := [0])]; rfl), by rw [List.length_append, List.length_singleton]; omega, fun mx hmx hle => ⟨_, _, rfl, rfl, few (by simp), fun L8 hL8 => ?_⟩⟩
  have s8 := same_new (o := .lst [V.int (mx + 1)]) hL8
  have s58 := s6.trans (s7.trans s8)
  refine ⟨L5, L8, _, _, rfl, rfl, s58 _ _ g5, upd_same, few2 (by rw [List.length_map, List.length_append, List.length_append]; simp only [List.length_cons, List.length_nil]; omega), fun L9 hL9 => ?_⟩
  have s9 := same_new (o := .lst (([0, 1, 2, 3, 4, 5, 6] ++ (m.sz ++ n.sz)).map V.int ++ [V.int (mx + 1)])) hL9
  refine ⟨L9, ([0, 1, 2, 3, 4, 5, 6] ++ (m.sz ++ n.sz)) ++ [mx + 1], rfl, .inl (SqL.of (by rw [upd_same, List.map_append (l₂ := [mx + 1])]; rfl)), ?_, fun u c0 hu hc0 => ?_⟩
  · rw [List.length_append, List.length_append, List.length_append]
    simp only [List.length_cons, List.length_nil]
    omega
  rw [List.length_append, List.length_append, List.length_append] at hc0
  simp only [List.length_cons, List.length_nil] at hc0
  have s10 := same_new (o := SetO w u (fun j => decide (j ∈ ([0, 1, 2, 3, 4, 5, 6] ++ (m.sz ++ n.sz)) ++ [mx + 1])) c0) hu
  refine ⟨u, _, c0, rfl, upd_same, by omega, fun ns p2 srt mem hlen hp2 => ?_⟩
  have s11 := same_new (o := .lst (ns.map V.int)) hp2
  refine ⟨few (by simp), fun L12 hL12 => ⟨_, rfl, ?_⟩⟩
  have s12 := same_new (o := .lst [V.str "integer", .str "atom", .str "fault"]) hL12
  refine ⟨L12, p2, _, _, rfl, rfl, upd_same, s12 _ _ upd_same, few2 (by rw [List.length_map]; simp only [List.length_cons, List.length_nil]; omega), fun L13 hL13 => ?_⟩
  have s13 := same_new (o := .lst ([V.str "integer", .str "atom", .str "fault"] ++ ns.map V.int)) hL13
  have bm : 0 ≤ mx ∧ mx ≤ 20 := by
    have h0 := hle 0 (List.mem_append_right _ (List.mem_singleton.mpr rfl))
    refine ⟨h0, ?_⟩
    rcases List.mem_append.mp hmx with h | h
    · rcases List.mem_append.mp h with h | h
      · exact (rm.bd _ h).2
      · exact (rn.bd _ h).2
    · rw [List.mem_singleton.mp h]
      decide
  have mem' : ∀ k, k ∈ ns ↔ k ∈ ([0, 1, 2, 3, 4, 5, 6] ++ (m.sz ++ n.sz)) ++ [mx + 1] := fun k => by rw [mem k, decide_eq_true_eq]
  refine q L13 ns _ (s03.trans (s35.trans (s58.trans (s9.trans (s10.trans (s11.trans (s12.trans s13))))))) upd_same ⟨by omega, fun k hk => ?_, fun k hk => ?_, fun k hk => ?_, mx + 1, ?_, fun h => ?_, fun h => ?_⟩
  · rcases List.mem_append.mp ((mem' k).mp hk) with h | h
    · rcases List.mem_append.mp h with h | h
      · simp only [List.mem_cons, List.not_mem_nil, or_false] at h
        omega
      · rcases List.mem_append.mp h with h | h
        · have := rm.bd _ h
          omega
        · have := rn.bd _ h
          omega
    · rw [List.mem_singleton.mp h]
      omega
  · exact (mem' k).mpr (List.mem_append_left _ (List.mem_append_right _ (List.mem_append_left _ hk)))
  · exact (mem' k).mpr (List.mem_append_left _ (List.mem_append_right _ (List.mem_append_right _ hk)))
  · exact (mem' _).mpr (List.mem_append_right _ (List.mem_singleton.mpr rfl))
  · have := hle _ (List.mem_append_left _ (List.mem_append_left _ h))
    omega
  · have := hle _ (List.mem_append_left _ (List.mem_append_right _ h))
    omega
end
/-- what the probes tell: all sizes -/
theorem prb_all {m n : Ks} {ps : List Int} {p : Bool → Bool → Bool} (h : Prb m n ps) (a : ∀ k ∈ ps, p (m.hasS k) (n.hasS k) = true) (k : Int) : p (m.hasS k) (n.hasS k) = true := by
  by_cases c : k ∈ ps
  · exact a k c
  · obtain ⟨j, j1, j2, j3⟩ := h.out
    have z := a j j1
    unfold Ks.hasS at z ⊢
    rw [decide_eq_false j2, decide_eq_false j3] at z
    rw [decide_eq_false fun y => c (h.l k y), decide_eq_false fun y => c (h.r k y)]
    exact z
abbrev sRig : Stmt := topS 24
theorem scRig : FnScope ["_law_one", "_law_other", "_law_left", "_law_right_here", "_law_probes_here", "_law_kind", "_law_a", "_law_b", "_law_found", "_law_gone", "_law_is_alike", "_law_anew"] ["_law_one", "_law_other"] (defScope sRig) := ⟨rfl, rfl, rfl, by decide +kernel, rfl, by decide +kernel, by decide +kernel⟩
theorem bls_two (b c : Bool) : Prn (.list [.bool b, .bool c]) := prn_of (by simp only [gd, gds]; rfl) (by simp only [nod, nods]; omega) (by simp only [PyData.depth, PyData.depthAll]; omega)
theorem bls_three (a b c : Bool) : Prn (.list [.bool a, .bool b, .bool c]) := prn_of (by simp only [gd, gds]; rfl) (by simp only [nod, nods]; omega) (by simp only [PyData.depth, PyData.depthAll]; omega)
/-- a probe -/
inductive Pb where
  | w (x : Str)
  | s (k : Int)
def Pb.v : Pb → V
  | .w x => .str x
  | .s k => .int k
def Pb.d : Pb → PyData
  | .w x => .str x
  | .s k => .int k
def Ks.hasP (m : Ks) : Pb → Bool
  | .w x => decide (x ∈ m.ws)
  | .s k => m.hasS k
/-- a probe that may be asked for -/
def Pb.ok : Pb → Prop
  | .w x => x ∈ kW
  | .s k => 0 ≤ k ∧ k ≤ 21
def probes (ps : List Int) : List Pb := kW.map .w ++ ps.map .s
theorem pb_map (ps : List Int) : kW.map V.str ++ ps.map V.int = (probes ps).map Pb.v := by
  unfold probes
  rw [List.map_append, List.map_map, List.map_map]
  rfl
theorem pb_ok {m n : Ks} {ps : List Int} (h : Prb m n ps) : ∀ b ∈ probes ps, b.ok := fun b hb => by
  rcases List.mem_append.mp hb with z | z
  · obtain ⟨x, hx, rfl⟩ := List.mem_map.mp z
    exact hx
  · obtain ⟨x, hx, rfl⟩ := List.mem_map.mp z
    exact h.bd x hx
theorem pb_len {m n : Ks} {ps : List Int} (h : Prb m n ps) : (probes ps).length ≤ 63 := by
  unfold probes
  rw [List.length_append, List.length_map, List.length_map]
  have := h.len
  have e : kW.length = 3 := rfl
  omega
theorem pb_dp {K : PySem.W.Frag} {H : Hp} (b : Pb) : Dp K H b.v b.d := by
  cases b
  · exact .str _
  · exact .int _
theorem pb_all {K : PySem.W.Frag} {H : Hp} : ∀ l : List Pb, DpAll K H (l.map Pb.v) (l.map Pb.d)
  | [] => .nil
  | b :: l => .cons (pb_dp b) (pb_all l)
theorem has_pb {m : Ks} {b : Pb} (h : b.ok) : hasD m b.d = m.hasP b := by
  cases b with
  | w x => rfl
  | s k =>
    show (decide (0 ≤ k) && m.hasS k) = m.hasS k
    rw [decide_eq_true h.1, Bool.true_and]
theorem hasP_op {m n r : Ks} {f f' : Str → Bool} {g g' : Int → Bool} {op : Bool → Bool → Bool} (rm : Rep m f g) (rn : Rep n f' g') (rr : Rep r (fun w => op (f w) (f' w)) (fun k => op (g k) (g' k))) {b : Pb} (h : b.ok) : r.hasP b = op (m.hasP b) (n.hasP b) := by
  cases b with
  | w x =>
    show decide (x ∈ r.ws) = op (decide (x ∈ m.ws)) (decide (x ∈ n.ws))
    rw [rr.w, rm.w, rn.w, kW_mem h, kW_mem h, kW_mem h]
  | s k =>
    show r.hasS k = op (m.hasS k) (n.hasS k)
    rw [rr.s k, rm.s k, rn.s k]
/-- nothing among the probes is nothing at all -/
theorem any_pb {m n r : Ks} {f f' : Str → Bool} {g g' : Int → Bool} {op : Bool → Bool → Bool} {ps : List Int} (h : Prb m n ps) (rm : Rep m f g) (rn : Rep n f' g') (rr : Rep r (fun w => op (f w) (f' w)) (fun k => op (g k) (g' k))) :
    (!r.any) = ((probes ps).filter fun b => op (m.hasP b) (n.hasP b)).isEmpty := by
  have fe : ((probes ps).filter fun b => op (m.hasP b) (n.hasP b)) = (probes ps).filter fun b => r.hasP b := List.filter_congr fun b hb => (hasP_op rm rn rr (pb_ok h b hb)).symm
  rw [fe]
  cases e : ((probes ps).filter fun b => r.hasP b).isEmpty with
  | true =>
    rw [List.isEmpty_iff] at e
    have no : ∀ b ∈ probes ps, r.hasP b = false := fun b hb => by
      cases z : r.hasP b with
      | false => rfl
      | true =>
        have q : b ∈ (probes ps).filter fun b => r.hasP b := List.mem_filter.mpr ⟨hb, z⟩
        rw [e] at q
        cases q
    have nw : r.ws = [] := by
      cases q : r.ws with
      | nil => rfl
      | cons x t =>
        have mx : x ∈ r.ws := by rw [q]; exact List.mem_cons_self
        have kx : x ∈ kW := by
          rw [rr.w] at mx
          exact (List.mem_filter.mp mx).1
        have z := no (.w x) (List.mem_append_left _ (List.mem_map.mpr ⟨x, kx, rfl⟩))
        exact absurd (decide_eq_true mx) (by rw [show decide (x ∈ r.ws) = r.hasP (.w x) from rfl, z]; exact Bool.false_ne_true)
    have ns : ∀ k, r.hasS k = false := fun k => by
      have q := prb_all (p := fun x y => !op x y) h (fun k hk => by
        have z := no (.s k) (List.mem_append_right _ (List.mem_map.mpr ⟨k, hk, rfl⟩))
        have z2 : r.hasS k = op (m.hasS k) (n.hasS k) := by rw [rr.s k, rm.s k, rn.s k]
        rw [← z2, show r.hasS k = r.hasP (.s k) from rfl, z]
        rfl) k
      rw [rr.s k, ← rm.s k, ← rn.s k]
      simpa using q
    have nb : r.but = false := by rw [rr.but, ← rr.s 21]; exact ns 21
    have nz : r.sz = [] := by
      cases q : r.sz with
      | nil => rfl
      | cons x t =>
        have z := ns x
        unfold Ks.hasS at z
        rw [nb, decide_eq_true (by rw [q]; exact List.mem_cons_self)] at z
        cases z
    unfold Ks.any
    rw [nw, nb, nz]
    rfl
  | false =>
    cases z : r.any with
    | true => rfl
    | false =>
      unfold Ks.any at z
      have z1 : r.ws = [] := by
        cases q : r.ws with
        | nil => rfl
        | cons x t =>
          rw [q] at z
          cases z
      rw [z1] at z
      have z2 : r.but = false := by
        cases q : r.but with
        | false => rfl
        | true =>
          rw [q] at z
          cases z
      rw [z2] at z
      have z3 : r.sz = [] := by
        cases q : r.sz with
        | nil => rfl
        | cons x t =>
          rw [q] at z
          cases z
      have none : ((probes ps).filter fun b => r.hasP b) = [] := List.filter_eq_nil_iff.mpr fun b _ => by
        cases b with
        | w x =>
          show ¬ decide (x ∈ r.ws) = true
          rw [z1]
          exact Bool.false_ne_true
        | s k =>
          show ¬ r.hasS k = true
          unfold Ks.hasS
          rw [z2, z3]
          exact Bool.false_ne_true
      rw [none] at e
      cases e
/-- equal where the probes say so -/
theorem eq_pb {m n : Ks} {f f' : Str → Bool} {g g' : Int → Bool} {ps : List Int} (h : Prb m n ps) (rm : Rep m f g) (rn : Rep n f' g') : decide (m = n) = ((probes ps).filter fun b => m.hasP b != n.hasP b).isEmpty := by
  cases e : ((probes ps).filter fun b => m.hasP b != n.hasP b).isEmpty with
  | false =>
    refine decide_eq_false fun z => ?_
    rw [z] at e
    have none : ((probes ps).filter fun b => n.hasP b != n.hasP b) = [] := List.filter_eq_nil_iff.mpr fun b _ => by simp
    rw [none] at e
    cases e
  | true =>
    rw [List.isEmpty_iff] at e
    have no : ∀ b ∈ probes ps, m.hasP b = n.hasP b := fun b hb => by
      cases z : m.hasP b != n.hasP b with
      | false => simpa using z
      | true =>
        have q : b ∈ (probes ps).filter fun b => m.hasP b != n.hasP b := List.mem_filter.mpr ⟨hb, z⟩
        rw [e] at q
        cases q
    refine decide_eq_true (rm.uniq (rn.congrW (fun w hw => ?_) fun k => ?_))
    · have z := no (.w w) (List.mem_append_left _ (List.mem_map.mpr ⟨w, hw, rfl⟩))
      have z : decide (w ∈ m.ws) = decide (w ∈ n.ws) := z
      rw [rm.w, rn.w, kW_mem hw, kW_mem hw] at z
      exact z.symm
    · have q := prb_all (p := fun x y => x == y) h (fun k hk => by
        have z : m.hasS k = n.hasS k := no (.s k) (List.mem_append_right _ (List.mem_map.mpr ⟨k, hk, rfl⟩))
        rw [z]
        exact beq_self_eq_true _) k
      rw [← rm.s k, ← rn.s k]
      exact (eq_of_beq q).symm
def spKinP (K : PySem.W.Frag) : Sp := fun vs H Q _ => ∃ a m x, vs = [.ref a, Pb.v x] ∧ MAt K H a m ∧ ∀ H', Same H H' → Q (.bl (m.hasP x)) H'
theorem kin_imp {K : PySem.W.Frag} {vs : List V} {H : Hp} {Q : VK} {E : XK} (h : spKinP K vs H Q E) : spKin K vs H Q E := by
  obtain ⟨a, m, x, rfl, hm, q⟩ := h
  cases x with
  | w x => exact ⟨a, m, _, rfl, hm, .inl ⟨x, rfl, q⟩⟩
  | s k => exact ⟨a, m, _, rfl, hm, .inr ⟨k, rfl, q⟩⟩
section
variable {K : PySem.W.Frag} {C : Addr} {H : Hp} {a b : Addr} {m n : Ks} {f f' : Str → Bool} {g g' : Int → Bool} {Q : VK}
theorem rbHas {x : Pb} (ha : KAt K C H a m) (ok : x.ok) (q : ∀ H', Same H H' → Q (.bl (m.hasP x)) H') : rInO C (spHas K C) x.v (.ref a) H Q := by
  obtain ⟨dx, fs, ia⟩ := ha.ins
  exact ⟨a, dx, fs, rfl, ia, a, _, m, x.d, rfl, ha, pb_dp x, fun H' s => ⟨_, rfl, by rw [has_pb ok]; exact q H' s⟩⟩
theorem rbEq (ha : KAt K C H a m) (hb : KAt K C H b n) (rm : Rep m f g) (rn : Rep n f' g') (q : ∀ H', Same H H' → Q (.bl (decide (m = n))) H') : rEqL C (spEqK K C) K (.ref a) (.ref b) H Q := by
  obtain ⟨dx, fs, ia⟩ := ha.ins
  obtain ⟨dy, gs, ib⟩ := hb.ins
  exact ⟨a, dx, fs, rfl, ia, .inr ⟨b, dy, gs, rfl, ib⟩, a, _, m, f, g, rfl, ha, rm, .inr ⟨b, n, f', g', rfl, hb, rn, fun H' s => ⟨_, rfl, q H' s⟩⟩⟩
theorem rbNe (ha : KAt K C H a m) (hb : KAt K C H b n) (rm : Rep m f g) (rn : Rep n f' g') (q : ∀ H', Same H H' → Q (.bl (!decide (m = n))) H') : rNeL C (spEqK K C) K (.ref a) (.ref b) H Q := by
  obtain ⟨dx, fs, ia⟩ := ha.ins
  obtain ⟨dy, gs, ib⟩ := hb.ins
  exact ⟨a, dx, fs, rfl, ia, .inr ⟨b, dy, gs, rfl, ib⟩, a, _, m, f, g, rfl, ha, rm, .inr ⟨b, n, f', g', rfl, hb, rn, fun H' s => ⟨_, rfl, q H' s⟩⟩⟩
end
theorem gds_pb : ∀ l : List Pb, (∀ b ∈ l, b.ok) → gds (l.map Pb.d) = true ∧ PyData.depthAll (l.map Pb.d) = 0
  | [], _ => ⟨by simp only [List.map_nil, gds], by simp only [List.map_nil, PyData.depthAll]⟩
  | b :: l, h => by
    have ih := gds_pb l fun y hy => h y (List.mem_cons_of_mem _ hy)
    have hb := h b List.mem_cons_self
    cases b with
    | w x => exact ⟨by simp only [List.map_cons, Pb.d, gds, kW_gd x hb, ih.1, Bool.and_self], by simp only [List.map_cons, Pb.d, PyData.depthAll, PyData.depth, ih.2, Nat.max_self]⟩
    | s k =>
      have hk : 0 ≤ k ∧ k ≤ 21 := hb
      have g := gd_int (i := k) (Nat.lt_of_lt_of_le (by omega : k.natAbs < 2 ^ 10) (Nat.pow_le_pow_right (by decide) (by decide)))
      exact ⟨by simp only [List.map_cons, Pb.d, gds, g, ih.1, Bool.and_self], by simp only [List.map_cons, Pb.d, PyData.depthAll, PyData.depth, ih.2, Nat.max_self]⟩
theorem pb_sh (l : List Pb) (h : ∀ b ∈ l, b.ok) : SeqAt.shaped (.list (l.map Pb.d)) = true := by
  have g := gds_pb l h
  exact shaped_of (by simpa only [gd] using g.1) (by simp only [PyData.depth, g.2]; omega)
theorem sh_nil : SeqAt.shaped (.list []) = true := by decide +kernel
theorem pb_eqv (l : List Pb) : PyData.eqv (.list (l.map Pb.d)) (.list []) = l.isEmpty := by
  cases l with
  | nil => simp only [List.map_nil, PyData.eqv, PyData.eqvAll]; rfl
  | cons b l => simp only [List.map_cons, PyData.eqv, PyData.eqvAll]; rfl
theorem ksf_no (tw : V) (b : Bool) (ts : V) {x : Str} (h1 : ¬ x = "_words") (h2 : ¬ x = "_but") (h3 : ¬ x = "_sizes") : (ksf tw b ts).lookup x = none := by
  unfold ksf
  rw [lookup_putF, if_neg h3, lookup_putF, if_neg h2, lookup_putF, if_neg h1]
  rfl
def spRig (K : PySem.W.Frag) : Sp := fun vs H Q _ => ∃ a b m n f g f' g', vs = [.ref a, .ref b] ∧ MAt K H a m ∧ MAt K H b n ∧ Rep m f g ∧ Rep n f' g' ∧ ∀ H', Same H H' → Q (.bl true) H'
section
variable {P : Program} {w : World} {K : PySem.W.Frag} {mg : Str → Option Value} {base : Heap} {f C fE fA fO fS fH fB fW fM fP fK fN : Addr} {fd dE dA dO dS dH dB dW dM dP dK dN : FuncData}
theorem ok_rig (F : Fun K "_law_right" "_law_right" sRig f fd) (B : Bi mg) (T : KC K mg C fE)
    (A : KO P w K mg base C 3 "__and__" so2 (spKK K C and) fA dA) (O : KO P w K mg base C 4 "__or__" so2 (spKK K C or) fO dO) (S : KO P w K mg base C 4 "__sub__" so2 (kS K C) fS dS) (Hs : KO P w K mg base C 2 "__contains__" ["self", "kind"] (spHas K C) fH dH)
    (Eq : KO P w K mg base C 2 "__eq__" so2 (spEqK K C) fE dE) (Bo : KO P w K mg base C 1 "__bool__" ["self"] (spBol K C) fB dB) (Wi : KO P w K mg base C 5 "within" so2 (spWth K C) fW dW)
    (GM : Dn P w K mg base 5 "_law_made" ["_law_one"] (spMade K C) fM dM) (GP : Dn P w K mg base 1 "_law_probes" ["_law_one", "_law_other"] (spPro K) fP dP) (GK : Dn P w K mg base 1 "_law_kind_in" ["_law_one", "_law_kind"] (spKinP K) fK dK) (GN : Dn P w K mg base 1 "_law_is_empty" ["_law_one"] (spEmp K) fN dN) :
    FnG P w K mg base CX0 6 f fd ["_law_one", "_law_other"] (spRig K) := by
  refine okG F scRig (fun vs H Q E h => ?_) (fun cdv A' outer s H vs Q E hgd hr h => ?_)
  · obtain ⟨a, b, m, n, f, g, f', g', rfl, _⟩ := h
    rfl
  obtain ⟨a, b, m, n, f, g, f', g', rfl, hma, hmb, rm, rn, q⟩ := h
  have hr1 : Room 1 _ := hr.mono (by decide)
  have hr2 : Room 2 _ := hr.mono (by decide)
  have hr3 : Room 3 _ := hr.mono (by decide)
  have hr12 : Room (1 + 2) _ := hr.mono (by decide)
  have hr21 : Room (2 + 1) _ := hr.mono (by decide)
  have hr4 : Room 4 _ := hr.mono (by decide)
  have hr5 : Room 5 _ := hr.mono (by decide)
  refine ⟨_, pss_cons (ps_par3 (i := 2) (j := 3) (l := 4) rfl scRig.nd rfl rfl rfl (by decide) (by decide) (by decide) rfl rfl rfl (pa_cons (pe_call GM.ok hr5 (by rfl) GM.mg GM.kp GM.bd .nil pass0 (pa_cons (pv 0) pa_nil)) (pa_cons (pe_call GM.ok hr5 (by rfl) GM.mg GM.kp GM.bd .nil pass0 (pa_cons (pv 1) pa_nil))
      (pa_cons (pe_call GP.ok hr1 (by rfl) GP.mg GP.kp GP.bd .nil pass0 (pa_cons (pv 0) (pa_cons (pv 1) pa_nil))) pa_nil))) (by rfl))
    (pss_cons (ps_for PassesOwn.never rfl (pi_list (pv 4)) (pg_name (i := 5) scRig.nd rfl (.inl rfl))
      (pss_cons (ps_par (i := 6) (j := 7) rfl scRig.nd rfl rfl (by decide) rfl rfl (pa_cons (pe_call GK.ok hr1 (by rfl) GK.mg GK.kp GK.bd .nil pass0 (pa_cons (pv 0) (pa_cons (pv 5) pa_nil))) (pa_cons (pe_call GK.ok hr1 (by rfl) GK.mg GK.kp GK.bd .nil pass0 (pa_cons (pv 1) (pa_cons (pv 5) pa_nil))) pa_nil)) (by rfl))
      (pss_cons (ps_if (pt_cmpR op_ne (pe_callB (call_rep hgd hr.units) (by rfl) B.rep b_rep (pa_cons (pe_lst (pa_cons (pe_cmpR (op_inO Hs.m Hs.ok Hs.bd hr2) (pv 5) (pv 2) rfl) (pa_cons (pe_cmpR (op_inO Hs.m Hs.ok Hs.bd hr2) (pv 5) (pv 3) rfl) pa_nil))) pa_nil))
        (pe_callB (call_rep hgd hr.units) (by rfl) B.rep b_rep (pa_cons (pe_lst (pa_cons (pv 6) (pa_cons (pv 7) pa_nil))) pa_nil)) (nomark _)) (pss_one (ps_ret pe_bl)) pss_nil)
      (pss_cons (ps_set (i := 8) scRig.nd rfl (.inl rfl) (pe_lst (pa_cons (pe_cmpR (op_inO Hs.m Hs.ok Hs.bd hr2) (pv 5) (pe_op (op_binO rfl T.sf A.m A.ok A.bd hr3) (pv 2) (pv 3)) rfl) (pa_cons (pe_cmpR (op_inO Hs.m Hs.ok Hs.bd hr2) (pv 5) (pe_op (op_binO rfl T.sf O.m O.ok O.bd hr4) (pv 2) (pv 3)) rfl)
        (pa_cons (pe_cmpR (op_inO Hs.m Hs.ok Hs.bd hr2) (pv 5) (pe_op (op_binO rfl T.sf S.m S.ok S.bd hr4) (pv 2) (pv 3)) rfl) pa_nil)))))
      (pss_one (ps_if (pt_cmpR op_ne (pe_callB (call_rep hgd hr.units) (by rfl) B.rep b_rep (pa_cons (pv 8) pa_nil))
        (pe_callB (call_rep hgd hr.units) (by rfl) B.rep b_rep (pa_cons (pe_lst (pa_cons (pe_and (pv 6) (pe_one (pv 7))) (pa_cons (pe_or (pv 6) (pe_one (pv 7))) (pa_cons (pe_and (pv 6) (pe_one (pe_not (pv 7)))) pa_nil)))) pa_nil)) (nomark _)) (pss_one (ps_ret pe_bl)) pss_nil))))))
    (pss_cons (ps_setLc (i := 9) (own := [("_law_kind", 5)]) (g := gName 5) (by rfl) scRig.nd rfl rfl (sw_true rfl rfl rfl (by decide +kernel)) (pi_list (pv 4))
        (blkOk_by (own := [("_law_kind", 5)]) (N := ["_law_one", "_law_other", "_law_left", "_law_right_here", "_law_probes_here", "_law_kind", "_law_a", "_law_b", "_law_found", "_law_gone", "_law_is_alike", "_law_anew"]) (sc := defScope sRig) (by decide +kernel))
        (fun _ _ _ _ _ => pg_name (i := 5) scRig.nd rfl (Or.inl rfl)) (fun _ _ _ _ _ => pts_one (PW.pt (pw_and (pt_val (pe_call GK.ok hr1 (by rfl) GK.mg GK.kp GK.bd .nil pass0 (pa_cons (pv 0) (pa_cons (pv 5) pa_nil)))) (pw_and1 (pt_not (pt_val (pe_call GK.ok hr1 (by rfl) GK.mg GK.kp GK.bd .nil pass0 (pa_cons (pv 1) (pa_cons (pv 5) pa_nil)))))))))
        (fun _ _ _ _ _ => pv 5))
    (pss_cons (ps_if (pt_cmpR op_ne (pe_callB (call_rep hgd hr.units) (by rfl) B.rep b_rep (pa_cons (pe_lst (pa_cons (pe_meth (pv 2) T.o.c.cl Wi.m Wi.ok hr5 Wi.bd .nil pass0 (pa_cons (pv 3) pa_nil)) (pa_cons (pe_callTy (call_boolO Bo.m Bo.ok Bo.bd hr12) (by rfl) B.bool b_bool (pa_cons (pe_op (op_binO rfl T.sf S.m S.ok S.bd hr4) (pv 2) (pv 3)) pa_nil)) pa_nil))) pa_nil))
        (pe_callB (call_rep hgd hr.units) (by rfl) B.rep b_rep (pa_cons (pe_lst (pa_cons (pe_cmpR (op_eqD hr.units) (pv 9) (pe_lst pa_nil) (nomark _)) (pa_cons (pe_cmpR (op_neD hr.units) (pv 9) (pe_lst pa_nil) (nomark _)) pa_nil))) pa_nil)) (nomark _)) (pss_one (ps_ret pe_bl)) pss_nil)
    (pss_cons (ps_set (i := 10) scRig.nd rfl (.inl rfl) (pe_cmpR (op_eqD hr.units) (pe_lc (own := [("_law_kind", 5)]) (g := gName 5) (by rfl) scRig.nd (pi_list (pv 4))
        (blkOk_by (own := [("_law_kind", 5)]) (N := ["_law_one", "_law_other", "_law_left", "_law_right_here", "_law_probes_here", "_law_kind", "_law_a", "_law_b", "_law_found", "_law_gone", "_law_is_alike", "_law_anew"]) (sc := defScope sRig) (by decide +kernel))
        (fun _ _ _ _ _ => pg_name (i := 5) scRig.nd rfl (Or.inl rfl)) (fun _ _ _ _ _ => pts_one (pt_cmpR op_ne (pe_call GK.ok hr1 (by rfl) GK.mg GK.kp GK.bd .nil pass0 (pa_cons (pv 0) (pa_cons (pv 5) pa_nil))) (pe_call GK.ok hr1 (by rfl) GK.mg GK.kp GK.bd .nil pass0 (pa_cons (pv 1) (pa_cons (pv 5) pa_nil))) (nomark _)))
        (fun _ _ _ _ _ => pv 5)) (pe_lst pa_nil) (nomark _)))
    (pss_cons (ps_if (pt_cmpR op_ne (pe_callB (call_rep hgd hr.units) (by rfl) B.rep b_rep (pa_cons (pe_lst (pa_cons (pe_cmpR (op_eqL T.o Eq.ok Eq.bd hr2) (pv 2) (pv 3) (nomark _)) (pa_cons (pe_cmpR (op_neL T.o Eq.ok Eq.bd hr21) (pv 2) (pv 3) (nomark _)) (pa_cons (pe_callTy (call_boolO Bo.m Bo.ok Bo.bd hr12) (by rfl) B.bool b_bool (pa_cons (pv 2) pa_nil)) pa_nil)))) pa_nil))
        (pe_callB (call_rep hgd hr.units) (by rfl) B.rep b_rep (pa_cons (pe_lst (pa_cons (pv 10) (pa_cons (pe_not (pv 10)) (pa_cons (pe_not (pe_call GN.ok hr1 (by rfl) GN.mg GN.kp GN.bd .nil pass0 (pa_cons (pv 0) pa_nil))) pa_nil)))) pa_nil)) (nomark _)) (pss_one (ps_ret pe_bl)) pss_nil)
    (pss_cons (ps_set (i := 11) scRig.nd rfl (.inl rfl) (pe_op (op_binO rfl T.sf O.m O.ok O.bd hr4) (pe_op (op_binO rfl T.sf A.m A.ok A.bd hr3) (pv 2) (pv 3)) (pe_op (op_binO rfl T.sf S.m S.ok S.bd hr4) (pv 2) (pv 3))))
    (pss_one (ps_ret (pe_and (pe_cmpR (op_eqL T.o Eq.ok Eq.bd hr2) (pv 11) (pv 2) (nomark _)) (pe_and (pe_not (pe_cmpR (op_neL T.o Eq.ok Eq.bd hr21) (pv 11) (pv 2) (nomark _)))
      (pe_one (pe_cmpR (op_eqL T.o Eq.ok Eq.bd hr2) (pe_op (op_binO rfl T.sf A.m A.ok A.bd hr3) (pe_op (op_binO rfl T.sf S.m S.ok S.bd hr4) (pv 2) (pv 3)) (pv 3)) (pe_op (op_binO rfl T.sf S.m S.ok S.bd hr4) (pv 3) (pv 3)) (nomark _))))))))))))), ?_⟩
  refine ⟨_, rfl, a, m, f, g, rfl, hma, rm, fun c1 H1 s1 k1 => ?_⟩
  refine ⟨_, rfl, b, n, f', g', rfl, hmb.up s1, rn, fun c2 H2 s2 k2 => ?_⟩
  have s02 := s1.trans s2
  refine ⟨_, rfl, _, rfl, a, b, m, n, _, _, _, _, rfl, hma.up s02, hmb.up s02, rm, rn, fun L ps H3 s3 hL pb => ⟨_, _, _, rfl, ?_⟩⟩
  rw [pb_map] at hL
  have lp := pb_len pb
  have lpv : ((probes ps).map Pb.v).length ≤ 63 := by rw [List.length_map]; exact lp
  have s03 := s02.trans s3
  have ka := k1.up (s2.trans s3)
  have kb := k2.up s3
  have ma := hma.up s03
  have mb := hmb.up s03
  have q : ∀ H', Same H3 H' → Q (.bl true) H' := fun H' s => q H' (s03.trans s)
  clear k1 k2 hma hmb
  refine ⟨_, rfl, L, rfl, ⟨_, SqL.of hL⟩, for_list (K := K) (a := L) (xs := (probes ps).map Pb.v) (fun i σ H4 => ∃ o5 o6 o7 o8, σ = [some (.ref a), some (.ref b), some (.ref c1), some (.ref c2), some (.ref L), o5, o6, o7, o8, none, none, none] ∧ Same H3 H4) ⟨_, _, _, _, rfl, Same.refl _⟩ (fun i σ H4 _ ⟨_, _, _, _, _, h⟩ => SqL.of (h _ _ hL)) ?_ ?_⟩
  · rintro i y σ H4 hy ⟨o5, o6, o7, o8, rfl, s4⟩
    obtain ⟨x, hx, rfl⟩ := map_get hy
    have ox := pb_ok pb x (List.mem_of_getElem? hx)
    refine ⟨_, rfl, _, rfl, a, m, x, rfl, ma.up s4, fun H5 s5 => ?_⟩
    have s35 := s4.trans s5
    refine ⟨_, rfl, _, rfl, b, n, x, rfl, mb.up s35, fun H6 s6 => ⟨_, _, rfl, ?_⟩⟩
    have s36 := s35.trans s6
    refine ⟨_, rfl, _, rfl, rbHas (ka.up s36) ox fun H7 s7 => ⟨_, rfl, _, rfl, rbHas (kb.up (s36.trans s7)) ox fun H8 s8 => ?_⟩⟩
    have s38 := s36.trans (s7.trans s8)
    refine ⟨few (by simp), fun l1 hl1 => ⟨_, .list [.bool (m.hasP x), .bool (n.hasP x)], rfl, .lst (SqL.of upd_same) (.cons (.bl _) (.cons (.bl _) .nil)), bls_two _ _, ?_⟩⟩
    have s39 := s38.trans (same_new (o := .lst [V.bl (m.hasP x), V.bl (n.hasP x)]) hl1)
    refine ⟨_, rfl, _, rfl, few (by simp), fun l2 hl2 => ⟨_, .list [.bool (m.hasP x), .bool (n.hasP x)], rfl, .lst (SqL.of upd_same) (.cons (.bl _) (.cons (.bl _) .nil)), bls_two _ _, rfl, _, rfl, ?_⟩⟩
    have s3A := s39.trans (same_new (o := .lst [V.bl (m.hasP x), V.bl (n.hasP x)]) hl2)
    rw [decide_eq_true rfl]
    refine iteF ⟨_, rfl, _, rfl, _, rfl, rb (ka.up s3A) (kb.up s3A) rm rn fun d1 r1 HB sB kB eB => rbHas kB ox fun HC sC => ?_⟩
    have s3C := s3A.trans (sB.trans sC)
    refine ⟨_, rfl, _, rfl, _, rfl, rb (ka.up s3C) (kb.up s3C) rm rn fun d2 r2 HD sD kD eD => rbHas kD ox fun HE sE => ?_⟩
    have s3E := s3C.trans (sD.trans sE)
    refine ⟨_, rfl, _, rfl, _, rfl, rb (ka.up s3E) (kb.up s3E) rm rn fun d3 r3 HF sF kF eF => rbHas kF ox fun HG sG => ?_⟩
    have s3G := s3E.trans (sF.trans sG)
    rw [hasP_op rm rn eB ox, hasP_op rm rn eD ox, hasP_op (op := fun x y => x && !y) rm rn eF ox]
    refine ⟨few (by simp), fun l3 hl3 => ⟨_, rfl, _, .list [.bool (and (m.hasP x) (n.hasP x)), .bool (or (m.hasP x) (n.hasP x)), .bool (m.hasP x && !n.hasP x)], rfl, .lst (SqL.of upd_same) (.cons (.bl _) (.cons (.bl _) (.cons (.bl _) .nil))), bls_three _ _ _, ?_⟩⟩
    have s3H := s3G.trans (same_new (o := .lst [V.bl (and (m.hasP x) (n.hasP x)), V.bl (or (m.hasP x) (n.hasP x)), V.bl (m.hasP x && !n.hasP x)]) hl3)
    generalize upd HG l3 (.lst [V.bl (and (m.hasP x) (n.hasP x)), V.bl (or (m.hasP x) (n.hasP x)), V.bl (m.hasP x && !n.hasP x)]) = HH at s3H
    cases m.hasP x <;> cases n.hasP x
    · refine ⟨_, rfl, _, rfl, iteF ⟨_, rfl, _, rfl, iteF ⟨_, rfl, _, rfl, _, rfl, iteF ⟨few (by simp), fun l4 hl4 => ⟨_, .list [.bool (and false false), .bool (or false false), .bool (false && !false)], rfl, .lst (SqL.of upd_same) (.cons (.bl _) (.cons (.bl _) (.cons (.bl _) .nil))), bls_three _ _ _, rfl, _, rfl, ?_⟩⟩⟩⟩⟩
      rw [decide_eq_true rfl]
      exact iteF ⟨_, _, _, _, rfl, s3H.trans (same_new (o := .lst [V.bl false, V.bl false, V.bl false]) hl4)⟩
    · refine ⟨_, rfl, _, rfl, iteF ⟨_, rfl, _, rfl, iteF ⟨_, rfl, _, rfl, _, rfl, iteF ⟨few (by simp), fun l4 hl4 => ⟨_, .list [.bool (and false true), .bool (or false true), .bool (false && !true)], rfl, .lst (SqL.of upd_same) (.cons (.bl _) (.cons (.bl _) (.cons (.bl _) .nil))), bls_three _ _ _, rfl, _, rfl, ?_⟩⟩⟩⟩⟩
      rw [decide_eq_true rfl]
      exact iteF ⟨_, _, _, _, rfl, s3H.trans (same_new (o := .lst [V.bl false, V.bl true, V.bl false]) hl4)⟩
    · refine ⟨_, rfl, _, rfl, iteT ⟨_, rfl, _, rfl, _, rfl, iteT ⟨_, rfl, _, rfl, iteT ⟨_, rfl, _, rfl, few (by simp), fun l4 hl4 => ⟨_, .list [.bool (and true false), .bool (or true false), .bool (true && !false)], rfl, .lst (SqL.of upd_same) (.cons (.bl _) (.cons (.bl _) (.cons (.bl _) .nil))), bls_three _ _ _, rfl, _, rfl, ?_⟩⟩⟩⟩⟩
      rw [decide_eq_true rfl]
      exact iteF ⟨_, _, _, _, rfl, s3H.trans (same_new (o := .lst [V.bl false, V.bl true, V.bl true]) hl4)⟩
    · refine ⟨_, rfl, _, rfl, iteT ⟨_, rfl, _, rfl, _, rfl, iteT ⟨_, rfl, _, rfl, iteT ⟨_, rfl, _, rfl, few (by simp), fun l4 hl4 => ⟨_, .list [.bool (and true true), .bool (or true true), .bool (true && !true)], rfl, .lst (SqL.of upd_same) (.cons (.bl _) (.cons (.bl _) (.cons (.bl _) .nil))), bls_three _ _ _, rfl, _, rfl, ?_⟩⟩⟩⟩⟩
      rw [decide_eq_true rfl]
      exact iteF ⟨_, _, _, _, rfl, s3H.trans (same_new (o := .lst [V.bl true, V.bl true, V.bl false]) hl4)⟩
  rintro σ H4 ⟨o5, o6, o7, o8, rfl, s4⟩
  refine ⟨_, rfl, L, rfl, ⟨_, SqL.of (s4 _ _ hL)⟩, fun D hD => along (walk_list (K := K) (a := L) (xs := (probes ps).map Pb.v)) (fun i H5 => H5 D = some (.lst ((((probes ps).take i).filter fun b => m.hasP b && !n.hasP b).map Pb.v)) ∧ Same H4 H5) ⟨upd_same, same_new hD _⟩ (fun i H5 _ ⟨_, h⟩ => SqL.of (h _ _ (s4 _ _ hL))) ?_ ?_⟩
  · rintro i y H5 H6 hi ⟨h1, h2⟩ ⟨rfl, hy⟩
    obtain ⟨x, hx, rfl⟩ := map_get hy
    have tf := take_filter (p := fun b => m.hasP b && !n.hasP b) hx
    refine ⟨rfl, _, rfl, _, rfl, a, m, x, rfl, ma.up (s4.trans h2), fun H6 s6 => ⟨_, rfl, ite2 (fun c => ?_) (fun c => ?_)⟩⟩
    · refine ⟨_, rfl, _, rfl, b, n, x, rfl, mb.up (s4.trans (h2.trans s6)), fun H7 s7 => ⟨_, rfl, ite2 (fun d => ?_) (fun d => ?_)⟩⟩
      · refine ⟨_, rfl, _, s7 _ _ (s6 _ _ h1), ?_, ?_, fun b o z => ?_⟩
        · rw [List.length_map]
          have := List.length_filter_le (fun b => m.hasP b && !n.hasP b) ((probes ps).take i)
          rw [List.length_take] at this
          exact small1000 (by omega)
        · rw [upd_same, tf, if_pos (by rw [c, d]; rfl), List.map_append]
          rfl
        · rw [upd_ne (ne_of_none z hD)]
          exact s7 _ _ (s6 _ _ (h2 b o z))
      · refine ⟨?_, h2.trans (s6.trans s7)⟩
        rw [tf, if_neg (by rw [c, Bool.true_and]; exact d), List.append_nil]
        exact s7 _ _ (s6 _ _ h1)
    · refine ⟨?_, h2.trans s6⟩
      rw [tf, if_neg (by rw [Bool.eq_false_iff.mpr c, Bool.false_and]; exact Bool.false_ne_true), List.append_nil]
      exact s6 _ _ h1
  rintro H5 ⟨h1, h2⟩
  rw [List.length_map, List.take_of_length_le (Nat.le_refl _)] at h1
  have s5 := s4.trans h2
  clear s4
  obtain ⟨dx, tw, ts, ia, _⟩ := id (ka.up s5)
  have nwi := ksf_no (.ref tw) m.but (.ref ts) (x := "within") (by decide +kernel) (by decide +kernel) (by decide +kernel)
  have fok : ∀ (p : Pb → Bool), ∀ b ∈ (probes ps).filter p, b.ok := fun p b hb => pb_ok pb b (List.mem_filter.mp hb).1
  have ka5 := ka.up s5
  have kb5 := kb.up s5
  refine ⟨_, rfl, c1, dx, _, rfl, ia, nwi, _, rfl, c1, c2, m, n, f, g, f', g', rfl, ka5, kb5, rm, rn, fun r H6 s6 e6 => ?_⟩
  refine ⟨_, rfl, _, rfl, rb (ka5.up s6) (kb5.up s6) rm rn fun d2 r2 H7 s7 k7 e7 => ?_⟩
  obtain ⟨dx7, fs7, i7⟩ := k7.ins
  refine ⟨d2, dx7, fs7, rfl, i7, d2, r2, rfl, k7, fun H8 s8 => ⟨_, rfl, ?_⟩⟩
  have x1 : (!r.any) = ((probes ps).filter fun b => m.hasP b && !n.hasP b).isEmpty := any_pb (op := fun x y => x && !y) pb rm rn e6
  have x2 : r2.any = !((probes ps).filter fun b => m.hasP b && !n.hasP b).isEmpty := by
    have z : (!r2.any) = ((probes ps).filter fun b => m.hasP b && !n.hasP b).isEmpty := any_pb (op := fun x y => x && !y) pb rm rn e7
    rw [← z, Bool.not_not]
  rw [x1, x2]
  have gX := fok fun b => m.hasP b && !n.hasP b
  have s58 := s6.trans (s7.trans s8)
  have hX := s58 _ _ h1
  generalize ((probes ps).filter fun b => m.hasP b && !n.hasP b) = X at hX gX
  refine ⟨few (by simp), fun l1 hl1 => ⟨_, .list [.bool X.isEmpty, .bool (!X.isEmpty)], rfl, .lst (SqL.of upd_same) (.cons (.bl _) (.cons (.bl _) .nil)), bls_two _ _, ?_⟩⟩
  have s9 := same_new (o := .lst [V.bl X.isEmpty, V.bl (!X.isEmpty)]) hl1
  refine ⟨_, rfl, by decide, fun l2 hl2 => ⟨.list (X.map Pb.d), .list [], .lst (SqL.of ((s9.trans (same_new hl2 _)) _ _ hX)) (pb_all X), .lst (SqL.of upd_same) .nil, pb_sh X gX, sh_nil, ?_⟩⟩
  have sA := same_new (o := .lst []) hl2
  refine ⟨_, rfl, by decide, fun l3 hl3 => ⟨.list (X.map Pb.d), .list [], .lst (SqL.of ((s9.trans (sA.trans (same_new hl3 _))) _ _ hX)) (pb_all X), .lst (SqL.of upd_same) .nil, pb_sh X gX, sh_nil, ?_⟩⟩
  have sB := same_new (o := .lst []) hl3
  rw [pb_eqv]
  refine ⟨few (by simp), fun l4 hl4 => ⟨_, .list [.bool X.isEmpty, .bool (!X.isEmpty)], rfl, .lst (SqL.of upd_same) (.cons (.bl _) (.cons (.bl _) .nil)), bls_two _ _, rfl, _, rfl, ?_⟩⟩
  have sC := same_new (o := .lst [V.bl X.isEmpty, V.bl (!X.isEmpty)]) hl4
  rw [decide_eq_true rfl]
  have s5C := s5.trans (s58.trans (s9.trans (sA.trans (sB.trans sC))))
  clear x1 x2 s7 s8
  refine iteF ⟨_, rfl, L, rfl, ⟨_, SqL.of (s5C _ _ hL)⟩, fun D2 hD2 => along (walk_list (K := K) (a := L) (xs := (probes ps).map Pb.v)) (fun i H5 => H5 D2 = some (.lst ((((probes ps).take i).filter fun b => m.hasP b != n.hasP b).map Pb.v)) ∧ Same H3 H5) ⟨upd_same, s5C.trans (same_new hD2 _)⟩ (fun i H5 _ ⟨_, h⟩ => SqL.of (h _ _ hL)) ?_ ?_⟩
  · rintro i y H5 H6 hi ⟨h1, h2⟩ ⟨rfl, hy⟩
    obtain ⟨x, hx, rfl⟩ := map_get hy
    have tf := take_filter (p := fun b => m.hasP b != n.hasP b) hx
    refine ⟨rfl, _, rfl, _, rfl, a, m, x, rfl, ma.up h2, fun H6 s6 => ⟨_, rfl, _, rfl, b, n, x, rfl, mb.up (h2.trans s6), fun H7 s7 => ⟨rfl, _, rfl, ?_⟩⟩⟩
    have e2 : (!decide (V.bl (m.hasP x) = V.bl (n.hasP x))) = (m.hasP x != n.hasP x) := by cases m.hasP x <;> cases n.hasP x <;> rfl
    rw [e2]
    refine ite2 (fun c => ?_) (fun c => ?_)
    · refine ⟨_, rfl, _, s7 _ _ (s6 _ _ h1), ?_, ?_, fun b o z => ?_⟩
      · rw [List.length_map]
        have := List.length_filter_le (fun b => m.hasP b != n.hasP b) ((probes ps).take i)
        rw [List.length_take] at this
        exact small1000 (by omega)
      · rw [upd_same, tf, if_pos c, List.map_append]
        rfl
      · rw [upd_ne (ne_of_none z (s5C.free hD2))]
        exact s7 _ _ (s6 _ _ (h2 b o z))
    · refine ⟨?_, h2.trans (s6.trans s7)⟩
      rw [tf, if_neg c, List.append_nil]
      exact s7 _ _ (s6 _ _ h1)
  rintro HA ⟨g1, sHA⟩
  rw [List.length_map, List.take_of_length_le (Nat.le_refl _)] at g1
  refine ⟨by decide, fun l5 hl5 => ⟨.list (((probes ps).filter fun b => m.hasP b != n.hasP b).map Pb.d), .list [], .lst (SqL.of ((same_new hl5 _) _ _ g1)) (pb_all _), .lst (SqL.of upd_same) .nil, pb_sh _ (fok _), sh_nil, ?_⟩⟩
  rw [pb_eqv, ← eq_pb pb rm rn]
  have sL := sHA.trans (same_new (o := .lst []) hl5)
  generalize upd HA l5 (.lst []) = HB at sL
  refine ⟨_, rfl, _, rfl, rbEq (ka.up sL) (kb.up sL) rm rn fun HC sC => ⟨_, rfl, _, rfl, rbNe (ka.up (sL.trans sC)) (kb.up (sL.trans sC)) rm rn fun HD sD => ?_⟩⟩
  have kD := ka.up (sL.trans (sC.trans sD))
  obtain ⟨dx8, fs8, i8⟩ := kD.ins
  refine ⟨_, rfl, c1, dx8, fs8, rfl, i8, c1, m, rfl, kD, fun HE sE => ⟨_, rfl, ?_⟩⟩
  have sM := sL.trans (sC.trans (sD.trans sE))
  refine ⟨few (by simp), fun l6 hl6 => ⟨_, .list [.bool (decide (m = n)), .bool (!decide (m = n)), .bool m.any], rfl, .lst (SqL.of upd_same) (.cons (.bl _) (.cons (.bl _) (.cons (.bl _) .nil))), bls_three _ _ _, ?_⟩⟩
  have sN := sM.trans (same_new (o := .lst [V.bl (decide (m = n)), V.bl (!decide (m = n)), V.bl m.any]) hl6)
  refine ⟨_, rfl, _, rfl, _, rfl, _, rfl, a, m, f, g, rfl, ma.up sN, rm, fun HF sF => ⟨_, rfl, few (by simp), fun l7 hl7 => ⟨_, .list [.bool (decide (m = n)), .bool (!decide (m = n)), .bool (!!m.any)], rfl, .lst (SqL.of upd_same) (.cons (.bl _) (.cons (.bl _) (.cons (.bl _) .nil))), bls_three _ _ _, rfl, _, rfl, ?_⟩⟩⟩
  rw [Bool.not_not, decide_eq_true rfl]
  have sP := sN.trans (sF.trans (same_new (o := .lst [V.bl (decide (m = n)), V.bl (!decide (m = n)), V.bl m.any]) hl7))
  refine iteF ⟨_, rfl, _, rfl, rb (ka.up sP) (kb.up sP) rm rn fun e1 r1 HG sG kG eG => ⟨_, rfl, _, rfl, rb (ka.up (sP.trans sG)) (kb.up (sP.trans sG)) rm rn fun e2 r2 HH sH kH eH => rb (kG.up sH) kH eG eH fun e3 r3 HI sI kI eI => ?_⟩⟩
  have sQ := sP.trans (sG.trans (sH.trans sI))
  have x3 : r3 = m := (eI.congr (f2 := f) (g2 := g) (fun w => by cases f w <;> cases f' w <;> rfl) (fun k => by cases g k <;> cases g' k <;> rfl)).uniq rm
  rw [x3] at kI
  refine ⟨_, rfl, _, rfl, rbEq kI (ka.up sQ) rm rm fun HJ sJ => ⟨_, rfl, ?_⟩⟩
  rw [decide_eq_true rfl]
  refine iteT ⟨_, rfl, _, rfl, rbNe (kI.up sJ) (ka.up (sQ.trans sJ)) rm rm fun HK sK => ⟨_, rfl, _, rfl, ?_⟩⟩
  rw [decide_eq_true rfl]
  have sR := sQ.trans (sJ.trans sK)
  refine iteT ⟨_, rfl, _, rfl, rb (ka.up sR) (kb.up sR) rm rn fun e4 r4 HL sL4 k4 p4 => ⟨_, rfl, rb k4 (kb.up (sR.trans sL4)) p4 rn fun e5 r5 HM sM5 k5 p5 => ⟨_, rfl, _, rfl, rb (kb.up (sR.trans (sL4.trans sM5))) (kb.up (sR.trans (sL4.trans sM5))) rn rn fun e6 r6 HN sN6 k6 p6 => rbEq (k5.up sN6) k6 p5 p6 fun HO sO => ?_⟩⟩⟩
  have x5 : r5 = r6 := (p5.congr (fun w => by cases f w <;> cases f' w <;> rfl) (fun k => by cases g k <;> cases g' k <;> rfl)).uniq p6
  rw [decide_eq_true x5]
  exact q _ (sR.trans (sL4.trans (sM5.trans (sN6.trans sO))))
end
section
variable {X : Cx} {K : PySem.W.Frag} {C fE : Addr} {fd : FuncData} {k : Nat} {sp : Sp}
theorem op_eqLK (h : X.K = K) (O : OwnC K C fE) (F : FnOk X.prog X.w K X.mg X.base CX0 k fE fd ["self", "other"] sp) (hb : Binds K fd ["self", "other"] []) (hr : Room k X.A) : OpR X (compareOp .Eq) (rEqL C sp K) := by
  subst h
  exact op_eqL O F hb hr
theorem op_neLK (h : X.K = K) (O : OwnC K C fE) (F : FnOk X.prog X.w K X.mg X.base CX0 k fE fd ["self", "other"] sp) (hb : Binds K fd ["self", "other"] []) (hr : Room (k + 1) X.A) : OpR X (compareOp .NotEq) (rNeL C sp K) := by
  subst h
  exact op_neL O F hb hr
end
theorem any_none {r : Ks} (h : Rep r (fun _ => false) (fun _ => false)) : r.any = false := by
  have e := h.uniq (n := ⟨[], false, []⟩) ⟨rfl, .nil, fun k z => absurd z List.not_mem_nil, fun k => by simp [Ks.hasS]⟩
  rw [e]
  rfl
theorem no_str {m : Ks} {f : Str → Bool} {g : Int → Bool} (r : Rep m f g) {x : Str} (h : ¬ x ∈ kW) : hasD m (.str x) = false := decide_eq_false fun z => h (by
  rw [r.w] at z
  exact (List.mem_filter.mp z).1)
theorem eqv_nil : PyData.eqv (.list []) (.list []) = true := pb_eqv []
abbrev sLaw : Stmt := topS 25
theorem scLaw : FnScope ["_law_script", "_law_box_here", "_law_turn", "_law_one", "_law_other", "_law_found", "_law_odd", "_law_thing"] ["_law_script"] (defScope sLaw) := ⟨rfl, rfl, rfl, by decide +kernel, rfl, by decide +kernel, by decide +kernel⟩
def spLaw (K : PySem.W.Frag) : Sp := fun vs H Q _ => ∃ (a : Addr) (ns : List Int), vs = [.ref a] ∧ SqL K H a (ns.map V.int) ∧ ns.length ≤ 63 ∧ ∀ H', Q (.bl true) H'
section
variable {P : Program} {w : World} {K : PySem.W.Frag} {mg : Str → Option Value} {base : Heap} {f C fE fH fW fM fB fT fD fR fA fS p1 g1 : Addr} {fd dE dH dW dM dB dT dD dR dA dS d1 : FuncData} {mc : Value}
theorem ok_law (F : Fun K "law" "law" sLaw f fd) (B : Bi mg) (T : KC K mg C fE) (R : ClX.CRead K C mc) (Hs : KO P w K mg base C 2 "__contains__" ["self", "kind"] (spHas K C) fH dH) (Eq : KO P w K mg base C 2 "__eq__" so2 (spEqK K C) fE dE)
    (Wi : KO P w K mg base C 5 "within" so2 (spWth K C) fW dW) (St : KO P w K mg base C 3 "__str__" ["self"] (spTxt K C) fS dS) (M1 : KM P w K mg base C mc "everything" ["cls"] (spEvr K C) p1 g1 d1)
    (GM : Dn P w K mg base 5 "_law_made" ["_law_one"] (spMade K C) fM dM) (GB : Dn P w K mg base 1 "_law_box" ["_law_script", "_law_base"] (spBox K) fB dB) (Tk' : Tk P w K mg base fT dT) (GD : Dn P w K mg base 4 "_law_wide" ["_law_box_here"] (spSome K) fD dD)
    (GA : Dn P w K mg base 1 "_law_all_kinds" [] (spCon K mAll) fA dA) (GR : FnG P w K mg base CX0 6 fR dR ["_law_one", "_law_other"] (spRig K)) (kR : PySem.W.keepIn K (.ref fR) = true) (bR : Binds K dR ["_law_one", "_law_other"] []) (mR : mg "_law_right" = some (.ref fR)) :
    FnG P w K mg base CX0 7 f fd ["_law_script"] (spLaw K) := by
  refine okG F scLaw (fun vs H Q E h => ?_) (fun cdv A' outer s H vs Q E hgd hr h => ?_)
  · obtain ⟨a, ns, rfl, _⟩ := h
    rfl
  obtain ⟨a, ns, rfl, hS, hlen, q⟩ := h
  have hr1 : Room 1 _ := hr.mono (by decide)
  have hr2 : Room 2 _ := hr.mono (by decide)
  have hr3 : Room 3 _ := hr.mono (by decide)
  have hr21 : Room (2 + 1) _ := hr.mono (by decide)
  have hr32 : Room (3 + 2) _ := hr.mono (by decide)
  have hr4 : Room 4 _ := hr.mono (by decide)
  have hr5 : Room 5 _ := hr.mono (by decide)
  refine ⟨_, pss_cons (ps_set (i := 1) scLaw.nd rfl (.inl rfl) (pe_call GB.ok hr1 (by rfl) GB.mg GB.kp GB.bd .nil pass0 (pa_cons (pv 0) (pa_cons pe_int pa_nil))))
    (pss_cons (ps_for PassesOwn.never rfl (pi_range1 (by rfl) B.rng (pa_cons pe_int pa_nil)) (pg_name (i := 2) scLaw.nd rfl (.inl rfl))
      (pss_cons (ps_set (i := 3) scLaw.nd rfl (.inl rfl) (pe_call GD.ok hr4 (by rfl) GD.mg GD.kp GD.bd .nil pass0 (pa_cons (pv 1) pa_nil)))
      (pss_cons (ps_set (i := 4) scLaw.nd rfl (.inl rfl) (pe_ifExp (pt_cmpR op_gt (pe_call Tk'.ok hr1 (by rfl) Tk'.mg Tk'.kp Tk'.bd .nil pass0 (pa_cons (pv 1) (pa_cons pe_int pa_nil))) pe_int (nomark _)) (pe_call GD.ok hr4 (by rfl) GD.mg GD.kp GD.bd .nil pass0 (pa_cons (pv 1) pa_nil)) (pv 3)))
      (pss_cons (ps_if (PW.pt (pw_or (pt_not (pt_val (pe_callG GR hgd hr (by rfl) mR kR bR .nil pass0 (pa_cons (pv 3) (pa_cons (pv 4) pa_nil))))) (pw_or1 (pt_not (pt_val (pe_callG GR hgd hr (by rfl) mR kR bR .nil pass0 (pa_cons (pv 4) (pa_cons (pv 3) pa_nil)))))))) (pss_one (ps_ret pe_bl)) pss_nil)
      (pss_cons (ps_set (i := 5) scLaw.nd rfl (.inr rfl) (pe_call GM.ok hr5 (by rfl) GM.mg GM.kp GM.bd .nil pass0 (pa_cons (pv 3) pa_nil)))
      (pss_cons (ps_set (i := 6) scLaw.nd rfl (.inl rfl) (pe_lst (pa_cons pe_str (pa_cons pe_str (pa_cons pe_str (pa_cons pe_str (pa_cons pe_bl (pa_cons pe_bl (pa_cons (pe_op op_sub pe_int pe_int) (pa_cons pe_non (pa_cons (pe_tup pa_nil) (pa_cons (pe_tup (pa_cons pe_int pa_nil)) (pa_cons (pe_lst (pa_cons pe_str pa_nil)) (pa_cons (pe_tup (pa_cons pe_str pa_nil)) pa_nil))))))))))))))
      (pss_cons (ps_if (pt_cmpR (op_neD hr.units) (pe_lc (own := [("_law_thing", 7)]) (g := gName 7) (by rfl) scLaw.nd (pi_list (pv 6))
          (blkOk_by (own := [("_law_thing", 7)]) (N := ["_law_script", "_law_box_here", "_law_turn", "_law_one", "_law_other", "_law_found", "_law_odd", "_law_thing"]) (sc := defScope sLaw) (by decide +kernel))
          (fun _ _ _ _ _ => pg_name (i := 7) scLaw.nd rfl (Or.inl rfl)) (fun _ _ _ _ _ => pts_one (pt_cmpR (op_inO Hs.m Hs.ok Hs.bd hr2) (pv 7) (pv 5) rfl)) (fun _ _ _ _ _ => pe_int)) (pe_lst pa_nil) (nomark _)) (pss_one (ps_ret pe_bl)) pss_nil)
      (pss_cons (ps_if (pt_cmpR (op_neD hr.units) (pe_lc (own := [("_law_thing", 7)]) (g := gName 7) (by rfl) scLaw.nd
          (pi_list (pe_lst (pa_cons pe_non (pa_cons (pe_tup pa_nil) (pa_cons pe_str (pa_cons pe_int (pa_cons (pe_lst pa_nil) (pa_cons (pe_callTy (call_strO St.m St.ok St.bd hr32) (by rfl) B.str b_str (pa_cons (pv 5) pa_nil)) pa_nil))))))))
          (blkOk_by (own := [("_law_thing", 7)]) (N := ["_law_script", "_law_box_here", "_law_turn", "_law_one", "_law_other", "_law_found", "_law_odd", "_law_thing"]) (sc := defScope sLaw) (by decide +kernel))
          (fun _ _ _ _ _ => pg_name (i := 7) scLaw.nd rfl (Or.inl rfl)) (fun _ _ _ _ _ => pts_one (PW.pt (pw_or (pt_cmpR (op_eqLK (K := K) rfl T.o Eq.ok Eq.bd hr2) (pv 5) (pv 7) (nomark _)) (pw_or1 (pt_not (pt_cmpR (op_neLK (K := K) rfl T.o Eq.ok Eq.bd hr21) (pv 5) (pv 7) (nomark _))))))) (fun _ _ _ _ _ => pe_int)) (pe_lst pa_nil) (nomark _)) (pss_one (ps_ret pe_bl)) pss_nil)
      (pss_one (ps_if (PW.pt (pw_or (pt_cmpR op_notBl (pe_meth (pv 5) T.o.c.cl Wi.m Wi.ok hr5 Wi.bd .nil pass0 (pa_cons (pe_cmeth0 (pe_glob (by rfl) T.mg (v := .ref C) rfl) R M1.c M1.r hr3 pass0) pa_nil)) pe_bl (nomark _))
          (pw_or1 (pt_cmpR op_notBl (pe_callG GR hgd hr (by rfl) mR kR bR .nil pass0 (pa_cons (pv 3) (pa_cons (pe_call0 GA.ok hr1 (by rfl) GA.mg GA.kp GA.bd .nil pass0) pa_nil))) pe_bl (nomark _))))) (pss_one (ps_ret pe_bl)) pss_nil))))))))))
    (pss_one (ps_ret pe_bl))), ?_⟩
  refine ⟨_, rfl, a, ns, 0, rfl, hS, hlen, Int.le_refl _, by decide, fun p g H1 b1 s1 np ng => ?_⟩
  refine ⟨10, rfl, by decide, by decide, for_range (n := 10) (fun i σ H2 => ∃ o2 o3 o4 o5 o6, σ = [some (.ref a), some (.ref p), o2, o3, o4, o5, o6, none] ∧ Box H2 p g) ⟨none, none, none, none, none, rfl, b1⟩ ?_ ?_⟩
  · rintro i σ H2 hi ⟨o2, o3, o4, o5, o6, rfl, b2⟩
    refine ⟨_, rfl, p, g, rfl, b2, fun t1 m1 f1 g1 H3 o3 b3 k1 e1 => ?_⟩
    refine ⟨_, rfl, p, g, 4, rfl, b3, by decide, by decide, fun r H4 r0 r4 b4 o4 => ⟨_, _, rfl, rfl, _, rfl, ite2 (fun _ => ⟨_, rfl, p, g, rfl, b4, fun t2 m2 f2 g2 H5 o5 b5 k2 e2 => ?_⟩) (fun _ => ⟨_, rfl, ?_⟩)⟩⟩
    have k1 := (k1.off b3 o4).off b4 o5
    rotate_left
    have k1 := k1.off b3 o4
    have b5 := b4
    have k2 := k1
    have e2 := e1
    all_goals
      refine ⟨_, rfl, _, rfl, _, _, _, _, _, _, _, _, rfl, k1, k2, e1, e2, fun H6 s6 => ⟨_, rfl, iteF ⟨_, rfl, _, rfl, _, _, _, _, _, _, _, _, rfl, k2.up s6, k1.up s6, e2, e1, fun H7 s7 => ⟨_, rfl, iteF ?_⟩⟩⟩⟩
      have b7 := b5.same (s6.trans s7)
      have k1 := k1.up (s6.trans s7)
      clear b5 k2 e2
      refine ⟨_, rfl, _, m1, f1, g1, rfl, k1, e1, fun c H8 s8 kc => ?_⟩
      have b8 := b7.same s8
      have k1 := k1.up s8
      refine ⟨_, _, rfl, rfl, by decide, fun u1 h1 => ⟨few (by simp), fun u2 h2 => ⟨few (by simp), fun u3 h3 => ⟨few (by simp), fun u4 h4 => ⟨few (by simp), fun L hL => ?_⟩⟩⟩⟩⟩
      have w1 := same_new (o := .tup []) h1
      have w2 := same_new (o := .tup [V.int 2]) h2
      have w3 := same_new (o := .lst [V.str "integer"]) h3
      have w4 := same_new (o := .tup [V.str "integer"]) h4
      have w5 := same_new (o := .lst [V.str "tuple", .str "", .str "Integer", .str "integers", .bl true, .bl false, .int (0 - 1), .non, .ref u1, .ref u2, .ref u3, .ref u4]) hL
      have w15 := w1.trans (w2.trans (w3.trans (w4.trans w5)))
      have gu1 := (w2.trans (w3.trans (w4.trans w5))) u1 _ upd_same
      have gu2 := (w3.trans (w4.trans w5)) u2 _ upd_same
      have gu3 := (w4.trans w5) u3 _ upd_same
      have gu4 := w5 u4 _ upd_same
      have gL : (upd (upd (upd (upd (upd H8 u1 (.tup [])) u2 (.tup [V.int 2])) u3 (.lst [V.str "integer"])) u4 (.tup [V.str "integer"])) L (.lst [V.str "tuple", .str "", .str "Integer", .str "integers", .bl true, .bl false, .int (0 - 1), .non, .ref u1, .ref u2, .ref u3, .ref u4])) L = some (.lst [V.str "tuple", .str "", .str "Integer", .str "integers", .bl true, .bl false, .int (0 - 1), .non, .ref u1, .ref u2, .ref u3, .ref u4]) := upd_same
      clear w1 w2 w3 w4 w5
      generalize upd (upd (upd (upd (upd H8 u1 (.tup [])) u2 (.tup [V.int 2])) u3 (.lst [V.str "integer"])) u4 (.tup [V.str "integer"])) L (.lst [V.str "tuple", .str "", .str "Integer", .str "integers", .bl true, .bl false, .int (0 - 1), .non, .ref u1, .ref u2, .ref u3, .ref u4]) = HL at *
      have odd : ∀ y ∈ [V.str "tuple", .str "", .str "Integer", .str "integers", .bl true, .bl false, .int (0 - 1), .non, .ref u1, .ref u2, .ref u3, .ref u4], ∃ d, Dp K HL y d ∧ hasD m1 d = false := by
        intro y hy
        simp only [List.mem_cons, List.not_mem_nil, or_false] at hy
        rcases hy with h | h | h | h | h | h | h | h | h | h | h | h <;> rw [h]
        · exact ⟨_, .str _, no_str e1 (by decide +kernel)⟩
        · exact ⟨_, .str _, no_str e1 (by decide +kernel)⟩
        · exact ⟨_, .str _, no_str e1 (by decide +kernel)⟩
        · exact ⟨_, .str _, no_str e1 (by decide +kernel)⟩
        · exact ⟨_, .bl _, rfl⟩
        · exact ⟨_, .bl _, rfl⟩
        · exact ⟨_, .int _, rfl⟩
        · exact ⟨_, .non, rfl⟩
        · exact ⟨_, .tup (.inl (.inl gu1)) .nil, rfl⟩
        · exact ⟨_, .tup (.inl (.inl gu2)) (.cons (.int _) .nil), rfl⟩
        · exact ⟨_, .lst (SqL.of gu3) (.cons (.str _) .nil), rfl⟩
        · exact ⟨_, .tup (.inl (.inl gu4)) (.cons (.str _) .nil), rfl⟩
      have kc := kc.up w15
      have k1 := k1.up w15
      have bL := b8.same w15
      clear b7 b8
      obtain ⟨dx, tw, ts, ic, _⟩ := id kc
      refine ⟨_, rfl, L, rfl, ⟨_, SqL.of gL⟩, fun D hD => along (walk_list (K := K) (a := L) (xs := [V.str "tuple", .str "", .str "Integer", .str "integers", .bl true, .bl false, .int (0 - 1), .non, .ref u1, .ref u2, .ref u3, .ref u4])) (fun i H9 => H9 D = some (.lst []) ∧ Same HL H9) ⟨upd_same, same_new hD _⟩ (fun i H9 _ ⟨_, h⟩ => SqL.of (h _ _ gL)) ?_ ?_⟩
      · rintro i y H9 HA hi ⟨h1, h2⟩ ⟨rfl, hy⟩
        obtain ⟨d, hd, nd⟩ := odd y (List.mem_of_getElem? hy)
        refine ⟨rfl, _, rfl, _, rfl, c, dx, _, rfl, h2 _ _ ic, c, y, m1, d, rfl, kc.up h2, Dp.up h2 _ _ hd, fun H11 s11 => ⟨_, rfl, _, rfl, ?_⟩⟩
        rw [nd]
        exact iteF ⟨s11 _ _ h1, h2.trans s11⟩
      rintro HA ⟨h1, h2⟩
      refine ⟨by decide, fun l8 h8 => ⟨.list [], .list [], .lst (SqL.of ((same_new h8 _) _ _ h1)) .nil, .lst (SqL.of upd_same) .nil, sh_nil, sh_nil, _, rfl, ?_⟩⟩
      rw [eqv_nil]
      have sB := h2.trans (same_new (o := .lst []) h8)
      generalize upd HA l8 (.lst []) = HB at sB
      refine iteF ⟨by decide, fun v1 z1 => ⟨by decide, fun v2 z2 => ?_⟩⟩
      have y1 := same_new (o := .tup []) z1
      have y2 := same_new (o := .lst []) z2
      have sC := sB.trans (y1.trans y2)
      refine ⟨_, rfl, c, dx, _, rfl, sC _ _ ic, c, m1, f1, g1, rfl, kc.up sC, e1, fun tx HD sD => ⟨_, rfl, few (by simp), fun L2 hL2 => ?_⟩⟩
      have y3 := same_new (o := .lst [V.non, .ref v1, .str "integer", .int 2, .ref v2, .str tx]) hL2
      have gv1 := (y2.trans (sD.trans y3)) v1 _ upd_same
      have gv2 := (sD.trans y3) v2 _ upd_same
      have gL2 : (upd HD L2 (.lst [V.non, .ref v1, .str "integer", .int 2, .ref v2, .str tx])) L2 = some (.lst [V.non, .ref v1, .str "integer", .int 2, .ref v2, .str tx]) := upd_same
      have sE := sC.trans (sD.trans y3)
      clear y1 y2 y3 sC sD
      generalize upd HD L2 (.lst [V.non, .ref v1, .str "integer", .int 2, .ref v2, .str tx]) = HE at *
      have odd2 : ∀ y ∈ [V.non, .ref v1, .str "integer", .int 2, .ref v2, .str tx], ∃ d, Dp K HE y d := by
        intro y hy
        simp only [List.mem_cons, List.not_mem_nil, or_false] at hy
        rcases hy with h | h | h | h | h | h <;> rw [h]
        · exact ⟨_, .non⟩
        · exact ⟨_, .tup (.inl (.inl gv1)) .nil⟩
        · exact ⟨_, .str _⟩
        · exact ⟨_, .int _⟩
        · exact ⟨_, .lst (SqL.of gv2) .nil⟩
        · exact ⟨_, .str _⟩
      have kc := kc.up sE
      have ic := sE _ _ ic
      have k1 := k1.up sE
      have bE := bL.same sE
      clear bL
      refine ⟨L2, rfl, ⟨_, SqL.of gL2⟩, fun D hD => along (walk_list (K := K) (a := L2) (xs := [V.non, .ref v1, .str "integer", .int 2, .ref v2, .str tx])) (fun i H9 => H9 D = some (.lst []) ∧ Same HE H9) ⟨upd_same, same_new hD _⟩ (fun i H9 _ ⟨_, h⟩ => SqL.of (h _ _ gL2)) ?_ ?_⟩
      · rintro i y H9 HA hi ⟨h1, h2⟩ ⟨rfl, hy⟩
        obtain ⟨d, hd⟩ := odd2 y (List.mem_of_getElem? hy)
        have hd := Dp.up h2 _ _ hd
        refine ⟨rfl, _, rfl, _, rfl, c, dx, _, rfl, h2 _ _ ic, .inl ⟨d, hd⟩, c, _, m1, f1, g1, rfl, kc.up h2, e1, .inl ⟨d, hd, fun HF sF => ⟨_, rfl, _, rfl, iteF ?_⟩⟩⟩
        refine ⟨_, rfl, _, rfl, c, dx, _, rfl, sF _ _ (h2 _ _ ic), .inl ⟨d, Dp.up sF _ _ hd⟩, c, _, m1, f1, g1, rfl, kc.up (h2.trans sF), e1, .inl ⟨d, Dp.up sF _ _ hd, fun HG sG => ⟨_, rfl, _, rfl, iteF ?_⟩⟩⟩
        exact ⟨sG _ _ (sF _ _ h1), h2.trans (sF.trans sG)⟩
      rintro HA2 ⟨h1, h2⟩
      refine ⟨by decide, fun l9 h9 => ⟨.list [], .list [], .lst (SqL.of ((same_new h9 _) _ _ h1)) .nil, .lst (SqL.of upd_same) .nil, sh_nil, sh_nil, _, rfl, ?_⟩⟩
      rw [eqv_nil]
      have sF := h2.trans (same_new (o := .lst []) h9)
      generalize upd HA2 l9 (.lst []) = HF at sF
      have nwi := ksf_no (.ref tw) m1.but (.ref ts) (x := "within") (by decide +kernel) (by decide +kernel) (by decide +kernel)
      refine iteF ⟨_, rfl, c, dx, _, rfl, sF _ _ ic, nwi, rfl, rfl, fun cE rE HG sG kE eE => ?_⟩
      refine ⟨c, cE, m1, rE, f1, g1, _, _, rfl, kc.up (sF.trans sG), kE, e1, eE, fun r HH sH eH => ?_⟩
      have an : r.any = false := any_none (eH.congr (fun _ => Bool.and_false _) (fun _ => Bool.and_false _))
      rw [an]
      have sFH := sF.trans (sG.trans sH)
      refine ⟨_, _, rfl, rfl, _, rfl, iteF ⟨_, rfl, rfl, fun tA HI sI kA => ⟨_, _, m1, mAll, f1, g1, _, _, rfl, k1.up (sFH.trans sI), kA, e1, rep_all, fun HJ sJ => ⟨_, _, rfl, rfl, _, rfl, iteF ?_⟩⟩⟩⟩
      exact ⟨_, _, _, _, _, rfl, bE.same (sFH.trans (sI.trans sJ))⟩
  · rintro σ H2 ⟨o2, o3, o4, o5, o6, rfl, b2⟩
    exact q H2
end
theorem kit_me {K : PySem.W.Frag} {C : Addr} : PySem.W.kitOne K (.ref C) (.ref C) = some true := by
  unfold PySem.W.kitOne
  simp
theorem kit_own {K : PySem.W.Frag} {C : Addr} {T : String} (c : (PySem.W.clsIn K C).isSome = true) (t : PySem.W.typeIn K (.ref C) = some (.type "type")) (s : PySem.W.subIn K (.type T) (.ref C) = some false) : PySem.W.kitOne K (.type T) (.ref C) = some false := by
  unfold PySem.W.kitOne PySem.W.kitCls
  rw [if_neg (show ¬ (Value.type T == Value.ref C) = true from by intro z; cases z)]
  show (if ((PySem.W.clsIn K C).isSome && PySem.W.typeIn K (.ref C) == some (.type "type")) = true then PySem.W.subIn K (.type T) (.ref C) else none) = some false
  rw [c, t]
  simp only [beq_self_eq_true, Bool.and_self, if_true]
  exact s
theorem kit_ofC {K : PySem.W.Frag} {C : Addr} {T : String} (m : PySem.W.kitMeta T = true) (s : PySem.W.subIn K (.ref C) (.type T) = some false) : PySem.W.kitOne K (.ref C) (.type T) = some false := by
  unfold PySem.W.kitOne PySem.W.kitCls
  rw [if_neg (show ¬ (Value.ref C == Value.type T) = true from by intro z; cases z)]
  show (if PySem.W.kitMeta T = true then _ else _) = _
  rw [if_pos m]
  exact s
theorem kmt1 : PySem.W.kitMeta "NoneType" = true := by decide +kernel
theorem kmt2 : PySem.W.kitMeta "bool" = true := by decide +kernel
theorem kmt3 : PySem.W.kitMeta "int" = true := by decide +kernel
theorem kmt4 : PySem.W.kitMeta "str" = true := by decide +kernel
theorem kmt5 : PySem.W.kitMeta "list" = true := by decide +kernel
theorem kmt6 : PySem.W.kitMeta "tuple" = true := by decide +kernel
theorem all_mk {l : PySem.W.OpenLaw} {w : World} {K : PySem.W.Frag} {h : Heap} {mg : Str → Option Value} {fa f1 f2 f3 f4 f5 f6 f7 f8 f9 f10 f11 f12 f13 f14 f15 f16 f17 f18 f19 f20 : Addr} (X : K.In h) (G : h.Ns mainGlobals mg) (hfa : mg "law" = some (.ref fa))
    {C tW : Addr} {g0 g1 g2 g3 g4 g5 g6 g7 g8 g9 g10 g11 p1 p2 p3 : Addr} {oWd : Option Addr} {sW : Array (Option Value)} {nW : Nat} {tk1 tk2 tk3 : Tok} {cdC : ClassData} {rs1 rs2 rs3 : List Value}
    {od0' an0' od1' an1' od2' an2' od3' an3' od4' an4' od5' an5' od6' an6' od7' an7' od8' an8' od9' an9' od10' an10' od11' an11' : Option Addr} {sl0' sl1' sl2' sl3' sl4' sl5' sl6' sl7' sl8' sl9' sl10' sl11' : Array (Option Value)} {ou0 kV0' dc0' pm0' cd0' ct0' ou1 kV1' dc1' pm1' cd1' ct1' ou2 kV2' dc2' pm2' cd2' ct2' ou3 kV3' dc3' pm3' cd3' ct3' ou4 kV4' dc4' pm4' cd4' ct4' ou5 kV5' dc5' pm5' cd5' ct5' ou6 kV6' dc6' pm6' cd6' ct6' ou7 kV7' dc7' pm7' cd7' ct7' ou8 kV8' dc8' pm8' cd8' ct8' ou9 kV9' dc9' pm9' cd9' ct9' ou10 kV10' dc10' pm10' cd10' ct10' ou11 kV11' dc11' pm11' cd11' ct11' : Value}
    {od1 an1 od2 an2 od3 an3 od4 an4 od5 an5 od6 an6 od7 an7 od8 an8 od9 an9 od10 an10 od11 an11 od12 an12 od13 an13 od14 an14 od15 an15 od16 an16 od17 an17 od18 an18 od19 an19 od20 an20 : Option Addr} {sl1 sl2 sl3 sl4 sl5 sl6 sl7 sl8 sl9 sl10 sl11 sl12 sl13 sl14 sl15 sl16 sl17 sl18 sl19 sl20 : Array (Option Value)} {oc1 kV1 dc1 pm1 cd1 ct1 oc2 kV2 dc2 pm2 cd2 ct2 oc3 kV3 dc3 pm3 cd3 ct3 oc4 kV4 dc4 pm4 cd4 ct4 oc5 kV5 dc5 pm5 cd5 ct5 oc6 kV6 dc6 pm6 cd6 ct6 oc7 kV7 dc7 pm7 cd7 ct7 oc8 kV8 dc8 pm8 cd8 ct8 oc9 kV9 dc9 pm9 cd9 ct9 oc10 kV10 dc10 pm10 cd10 ct10 oc11 kV11 dc11 pm11 cd11 ct11 oc12 kV12 dc12 pm12 cd12 ct12 oc13 kV13 dc13 pm13 cd13 ct13 oc14 kV14 dc14 pm14 cd14 ct14 oc15 kV15 dc15 pm15 cd15 ct15 oc16 kV16 dc16 pm16 cd16 ct16 oc17 kV17 dc17 pm17 cd17 ct17 oc18 kV18 dc18 pm18 cd18 ct18 oc19 kV19 dc19 pm19 cd19 ct19 oc20 kV20 dc20 pm20 cd20 ct20 : Value}
    (aC : PySem.W.nsIn K mainGlobals "Kinds" = some (some (.ref C)))
    (aW : PySem.W.nsIn K mainGlobals "WORDS" = some (some (.ref tW)))
    (lW : K.lookup tW = some ⟨.type "tuple", oWd, .seq #[.str "integer" tk1, .str "atom" tk2, .str "fault" tk3] nW, sW⟩)
    (am0 : PySem.W.findIn K (.ref C) "__init__" = some (some (.ref g0)))
    (im0 : PySem.W.isFn K (.ref g0) = true)
    (lm0 : K.lookup g0 = some ⟨ou0, od0', .func (PySem.W.fnOf "__init__" "Kinds.__init__" (defArgs sIni) (defBody sIni) (defScope sIni) .none kV0' dc0' pm0' an0' cd0' ct0'), sl0'⟩)
    (cm0 : PySem.W.codeIn K cd0' "Kinds.__init__" = true)
    (km0 : PySem.W.keepIn K (.ref g0) = true)
    (am1 : PySem.W.findCls K (.ref C) (.type "type") "everything" = some (.get (.builtin "classmethod.__get__") (.ref p1) .none (.ref C)))
    (im1 : PySem.W.recIn K p1 "classmethod" = some (.ref g1 :: rs1))
    (fi1 : PySem.W.fnIn K g1 = true)
    (lm1 : K.lookup g1 = some ⟨ou1, od1', .func (PySem.W.fnOf "everything" "Kinds.everything" (defArgs sEvr) (defBody sEvr) (defScope sEvr) .none kV1' dc1' pm1' an1' cd1' ct1'), sl1'⟩)
    (cm1 : PySem.W.codeIn K cd1' "Kinds.everything" = true)
    (km1 : PySem.W.keepIn K (.ref g1) = true)
    (am2 : PySem.W.findCls K (.ref C) (.type "type") "of" = some (.get (.builtin "classmethod.__get__") (.ref p2) .none (.ref C)))
    (im2 : PySem.W.recIn K p2 "classmethod" = some (.ref g2 :: rs2))
    (fi2 : PySem.W.fnIn K g2 = true)
    (lm2 : K.lookup g2 = some ⟨ou2, od2', .func (PySem.W.fnOf "of" "Kinds.of" (defArgs sOf) (defBody sOf) (defScope sOf) .none kV2' dc2' pm2' an2' cd2' ct2'), sl2'⟩)
    (cm2 : PySem.W.codeIn K cd2' "Kinds.of" = true)
    (km2 : PySem.W.keepIn K (.ref g2) = true)
    (am3 : PySem.W.findCls K (.ref C) (.type "type") "sized" = some (.get (.builtin "classmethod.__get__") (.ref p3) .none (.ref C)))
    (im3 : PySem.W.recIn K p3 "classmethod" = some (.ref g3 :: rs3))
    (fi3 : PySem.W.fnIn K g3 = true)
    (lm3 : K.lookup g3 = some ⟨ou3, od3', .func (PySem.W.fnOf "sized" "Kinds.sized" (defArgs sSzd) (defBody sSzd) (defScope sSzd) .none kV3' dc3' pm3' an3' cd3' ct3'), sl3'⟩)
    (cm3 : PySem.W.codeIn K cd3' "Kinds.sized" = true)
    (km3 : PySem.W.keepIn K (.ref g3) = true)
    (am4 : PySem.W.findIn K (.ref C) "__and__" = some (some (.ref g4)))
    (im4 : PySem.W.isFn K (.ref g4) = true)
    (lm4 : K.lookup g4 = some ⟨ou4, od4', .func (PySem.W.fnOf "__and__" "Kinds.__and__" (defArgs sAnd) (defBody sAnd) (defScope sAnd) .none kV4' dc4' pm4' an4' cd4' ct4'), sl4'⟩)
    (cm4 : PySem.W.codeIn K cd4' "Kinds.__and__" = true)
    (km4 : PySem.W.keepIn K (.ref g4) = true)
    (am5 : PySem.W.findIn K (.ref C) "__or__" = some (some (.ref g5)))
    (im5 : PySem.W.isFn K (.ref g5) = true)
    (lm5 : K.lookup g5 = some ⟨ou5, od5', .func (PySem.W.fnOf "__or__" "Kinds.__or__" (defArgs sOr) (defBody sOr) (defScope sOr) .none kV5' dc5' pm5' an5' cd5' ct5'), sl5'⟩)
    (cm5 : PySem.W.codeIn K cd5' "Kinds.__or__" = true)
    (km5 : PySem.W.keepIn K (.ref g5) = true)
    (am6 : PySem.W.findIn K (.ref C) "__sub__" = some (some (.ref g6)))
    (im6 : PySem.W.isFn K (.ref g6) = true)
    (lm6 : K.lookup g6 = some ⟨ou6, od6', .func (PySem.W.fnOf "__sub__" "Kinds.__sub__" (defArgs sSub) (defBody sSub) (defScope sSub) .none kV6' dc6' pm6' an6' cd6' ct6'), sl6'⟩)
    (cm6 : PySem.W.codeIn K cd6' "Kinds.__sub__" = true)
    (km6 : PySem.W.keepIn K (.ref g6) = true)
    (am7 : PySem.W.findIn K (.ref C) "__contains__" = some (some (.ref g7)))
    (im7 : PySem.W.isFn K (.ref g7) = true)
    (lm7 : K.lookup g7 = some ⟨ou7, od7', .func (PySem.W.fnOf "__contains__" "Kinds.__contains__" (defArgs sHas) (defBody sHas) (defScope sHas) .none kV7' dc7' pm7' an7' cd7' ct7'), sl7'⟩)
    (cm7 : PySem.W.codeIn K cd7' "Kinds.__contains__" = true)
    (km7 : PySem.W.keepIn K (.ref g7) = true)
    (am8 : PySem.W.findIn K (.ref C) "__eq__" = some (some (.ref g8)))
    (im8 : PySem.W.isFn K (.ref g8) = true)
    (lm8 : K.lookup g8 = some ⟨ou8, od8', .func (PySem.W.fnOf "__eq__" "Kinds.__eq__" (defArgs sEqK) (defBody sEqK) (defScope sEqK) .none kV8' dc8' pm8' an8' cd8' ct8'), sl8'⟩)
    (cm8 : PySem.W.codeIn K cd8' "Kinds.__eq__" = true)
    (km8 : PySem.W.keepIn K (.ref g8) = true)
    (am9 : PySem.W.findIn K (.ref C) "__bool__" = some (some (.ref g9)))
    (im9 : PySem.W.isFn K (.ref g9) = true)
    (lm9 : K.lookup g9 = some ⟨ou9, od9', .func (PySem.W.fnOf "__bool__" "Kinds.__bool__" (defArgs sBol) (defBody sBol) (defScope sBol) .none kV9' dc9' pm9' an9' cd9' ct9'), sl9'⟩)
    (cm9 : PySem.W.codeIn K cd9' "Kinds.__bool__" = true)
    (km9 : PySem.W.keepIn K (.ref g9) = true)
    (am10 : PySem.W.findIn K (.ref C) "__str__" = some (some (.ref g10)))
    (im10 : PySem.W.isFn K (.ref g10) = true)
    (lm10 : K.lookup g10 = some ⟨ou10, od10', .func (PySem.W.fnOf "__str__" "Kinds.__str__" (defArgs sStrK) (defBody sStrK) (defScope sStrK) .none kV10' dc10' pm10' an10' cd10' ct10'), sl10'⟩)
    (cm10 : PySem.W.codeIn K cd10' "Kinds.__str__" = true)
    (km10 : PySem.W.keepIn K (.ref g10) = true)
    (am11 : PySem.W.findIn K (.ref C) "within" = some (some (.ref g11)))
    (im11 : PySem.W.isFn K (.ref g11) = true)
    (lm11 : K.lookup g11 = some ⟨ou11, od11', .func (PySem.W.fnOf "within" "Kinds.within" (defArgs sWth) (defBody sWth) (defScope sWth) .none kV11' dc11' pm11' an11' cd11' ct11'), sl11'⟩)
    (cm11 : PySem.W.codeIn K cd11' "Kinds.within" = true)
    (km11 : PySem.W.keepIn K (.ref g11) = true)
    (pg : PySem.W.plainGet K C Str.empty = true)
    (hd : PySem.W.hasDictIn K C = true)
    (po : PySem.W.plainOver K C = true)
    (sa : PySem.W.findIn K (.ref C) "__setattr__" = some (some (.builtin "object.__setattr__")))
    (mk : PySem.W.makesIn K C = true)
    (kc : PySem.W.keepIn K (.ref C) = true)
    (sf : PySem.W.selfFirst K C = true)
    (nw : PySem.W.findIn K (.ref C) "_words" = some none)
    (nb : PySem.W.findIn K (.ref C) "_but" = some none)
    (ns : PySem.W.findIn K (.ref C) "_sizes" = some none)
    (rd : PySem.W.readsIn K C (.type "type") = true)
    (gt : PySem.W.specialIn K (.ref C) "__getattribute__" = some (some (.builtin "type.__getattribute__")))
    (ha : PySem.W.findIn K (.ref C) "__class__" = some (some (.builtin "object.__class__")))
    (hn : PySem.W.specialIn K (.builtin "object.__class__") "__get__" = some (some (.builtin "getset_descriptor.__get__")))
    (htk : PySem.W.takesIn K (.builtin "object.__class__") = some true)
    (hm : PySem.W.mroIn K C (.type "object") = some true)
    (tC : PySem.W.typeIn K (.ref C) = some (.type "type"))
    (cC : PySem.W.clsIn K C = some cdC)
    (ne : PySem.W.findIn K (.ref C) "__ne__" = some (some (.builtin "object.__ne__")))
    (ka1 : PySem.W.subIn K (.type "NoneType") (.ref C) = some false)
    (ja1 : PySem.W.subIn K (.ref C) (.type "NoneType") = some false)
    (ka2 : PySem.W.subIn K (.type "bool") (.ref C) = some false)
    (ja2 : PySem.W.subIn K (.ref C) (.type "bool") = some false)
    (ka3 : PySem.W.subIn K (.type "int") (.ref C) = some false)
    (ja3 : PySem.W.subIn K (.ref C) (.type "int") = some false)
    (ka4 : PySem.W.subIn K (.type "str") (.ref C) = some false)
    (ja4 : PySem.W.subIn K (.ref C) (.type "str") = some false)
    (ka5 : PySem.W.subIn K (.type "list") (.ref C) = some false)
    (ja5 : PySem.W.subIn K (.ref C) (.type "list") = some false)
    (ka6 : PySem.W.subIn K (.type "tuple") (.ref C) = some false)
    (ja6 : PySem.W.subIn K (.ref C) (.type "tuple") = some false)
    (a1 : PySem.W.nsIn K mainGlobals "_law_box" = some (some (.ref f1)))
    (l1 : K.lookup f1 = some ⟨oc1, od1, .func (PySem.W.fnOf "_law_box" "_law_box" (defArgs sBox) (defBody sBox) (defScope sBox) .none kV1 dc1 pm1 an1 cd1 ct1), sl1⟩)
    (c1 : PySem.W.codeIn K cd1 "_law_box" = true) (k1 : PySem.W.keepIn K (.ref f1) = true)
    (a2 : PySem.W.nsIn K mainGlobals "_law_take" = some (some (.ref f2)))
    (l2 : K.lookup f2 = some ⟨oc2, od2, .func (PySem.W.fnOf "_law_take" "_law_take" (defArgs sTake) (defBody sTake) (defScope sTake) .none kV2 dc2 pm2 an2 cd2 ct2), sl2⟩)
    (c2 : PySem.W.codeIn K cd2 "_law_take" = true) (k2 : PySem.W.keepIn K (.ref f2) = true)
    (a3 : PySem.W.nsIn K mainGlobals "is_integer" = some (some (.ref f3)))
    (l3 : K.lookup f3 = some ⟨oc3, od3, .func (PySem.W.fnOf "is_integer" "is_integer" (defArgs sInt) (defBody sInt) (defScope sInt) .none kV3 dc3 pm3 an3 cd3 ct3), sl3⟩)
    (c3 : PySem.W.codeIn K cd3 "is_integer" = true) (k3 : PySem.W.keepIn K (.ref f3) = true)
    (a4 : PySem.W.nsIn K mainGlobals "parts_of" = some (some (.ref f4)))
    (l4 : K.lookup f4 = some ⟨oc4, od4, .func (PySem.W.fnOf "parts_of" "parts_of" (defArgs sPts) (defBody sPts) (defScope sPts) .none kV4 dc4 pm4 an4 cd4 ct4), sl4⟩)
    (c4 : PySem.W.codeIn K cd4 "parts_of" = true) (k4 : PySem.W.keepIn K (.ref f4) = true)
    (a5 : PySem.W.nsIn K mainGlobals "all_but" = some (some (.ref f5)))
    (l5 : K.lookup f5 = some ⟨oc5, od5, .func (PySem.W.fnOf "all_but" "all_but" (defArgs sBut) (defBody sBut) (defScope sBut) .none kV5 dc5 pm5 an5 cd5 ct5), sl5⟩)
    (c5 : PySem.W.codeIn K cd5 "all_but" = true) (k5 : PySem.W.keepIn K (.ref f5) = true)
    (a6 : PySem.W.nsIn K mainGlobals "left_out" = some (some (.ref f6)))
    (l6 : K.lookup f6 = some ⟨oc6, od6, .func (PySem.W.fnOf "left_out" "left_out" (defArgs sLft) (defBody sLft) (defScope sLft) .none kV6 dc6 pm6 an6 cd6 ct6), sl6⟩)
    (c6 : PySem.W.codeIn K cd6 "left_out" = true) (k6 : PySem.W.keepIn K (.ref f6) = true)
    (a7 : PySem.W.nsIn K mainGlobals "text_of" = some (some (.ref f7)))
    (l7 : K.lookup f7 = some ⟨oc7, od7, .func (PySem.W.fnOf "text_of" "text_of" (defArgs sTxt) (defBody sTxt) (defScope sTxt) .none kV7 dc7 pm7 an7 cd7 ct7), sl7⟩)
    (c7 : PySem.W.codeIn K cd7 "text_of" = true) (k7 : PySem.W.keepIn K (.ref f7) = true)
    (a8 : PySem.W.nsIn K mainGlobals "_law_all_kinds" = some (some (.ref f8)))
    (l8 : K.lookup f8 = some ⟨oc8, od8, .func (PySem.W.fnOf "_law_all_kinds" "_law_all_kinds" (defArgs sAll) (defBody sAll) (defScope sAll) .none kV8 dc8 pm8 an8 cd8 ct8), sl8⟩)
    (c8 : PySem.W.codeIn K cd8 "_law_all_kinds" = true) (k8 : PySem.W.keepIn K (.ref f8) = true)
    (a9 : PySem.W.nsIn K mainGlobals "_law_value_kinds" = some (some (.ref f9)))
    (l9 : K.lookup f9 = some ⟨oc9, od9, .func (PySem.W.fnOf "_law_value_kinds" "_law_value_kinds" (defArgs sVal) (defBody sVal) (defScope sVal) .none kV9 dc9 pm9 an9 cd9 ct9), sl9⟩)
    (c9 : PySem.W.codeIn K cd9 "_law_value_kinds" = true) (k9 : PySem.W.keepIn K (.ref f9) = true)
    (a10 : PySem.W.nsIn K mainGlobals "_law_one_kind" = some (some (.ref f10)))
    (l10 : K.lookup f10 = some ⟨oc10, od10, .func (PySem.W.fnOf "_law_one_kind" "_law_one_kind" (defArgs sOne) (defBody sOne) (defScope sOne) .none kV10 dc10 pm10 an10 cd10 ct10), sl10⟩)
    (c10 : PySem.W.codeIn K cd10 "_law_one_kind" = true) (k10 : PySem.W.keepIn K (.ref f10) = true)
    (a11 : PySem.W.nsIn K mainGlobals "_law_meet" = some (some (.ref f11)))
    (l11 : K.lookup f11 = some ⟨oc11, od11, .func (PySem.W.fnOf "_law_meet" "_law_meet" (defArgs sMeet) (defBody sMeet) (defScope sMeet) .none kV11 dc11 pm11 an11 cd11 ct11), sl11⟩)
    (c11 : PySem.W.codeIn K cd11 "_law_meet" = true) (k11 : PySem.W.keepIn K (.ref f11) = true)
    (a12 : PySem.W.nsIn K mainGlobals "_law_less" = some (some (.ref f12)))
    (l12 : K.lookup f12 = some ⟨oc12, od12, .func (PySem.W.fnOf "_law_less" "_law_less" (defArgs sLess) (defBody sLess) (defScope sLess) .none kV12 dc12 pm12 an12 cd12 ct12), sl12⟩)
    (c12 : PySem.W.codeIn K cd12 "_law_less" = true) (k12 : PySem.W.keepIn K (.ref f12) = true)
    (a13 : PySem.W.nsIn K mainGlobals "_law_is_empty" = some (some (.ref f13)))
    (l13 : K.lookup f13 = some ⟨oc13, od13, .func (PySem.W.fnOf "_law_is_empty" "_law_is_empty" (defArgs sEmp) (defBody sEmp) (defScope sEmp) .none kV13 dc13 pm13 an13 cd13 ct13), sl13⟩)
    (c13 : PySem.W.codeIn K cd13 "_law_is_empty" = true) (k13 : PySem.W.keepIn K (.ref f13) = true)
    (a14 : PySem.W.nsIn K mainGlobals "_law_kind_in" = some (some (.ref f14)))
    (l14 : K.lookup f14 = some ⟨oc14, od14, .func (PySem.W.fnOf "_law_kind_in" "_law_kind_in" (defArgs sKin) (defBody sKin) (defScope sKin) .none kV14 dc14 pm14 an14 cd14 ct14), sl14⟩)
    (c14 : PySem.W.codeIn K cd14 "_law_kind_in" = true) (k14 : PySem.W.keepIn K (.ref f14) = true)
    (a15 : PySem.W.nsIn K mainGlobals "_law_made" = some (some (.ref f15)))
    (l15 : K.lookup f15 = some ⟨oc15, od15, .func (PySem.W.fnOf "_law_made" "_law_made" (defArgs sMade) (defBody sMade) (defScope sMade) .none kV15 dc15 pm15 an15 cd15 ct15), sl15⟩)
    (c15 : PySem.W.codeIn K cd15 "_law_made" = true) (k15 : PySem.W.keepIn K (.ref f15) = true)
    (a16 : PySem.W.nsIn K mainGlobals "_law_some_kinds" = some (some (.ref f16)))
    (l16 : K.lookup f16 = some ⟨oc16, od16, .func (PySem.W.fnOf "_law_some_kinds" "_law_some_kinds" (defArgs sSome) (defBody sSome) (defScope sSome) .none kV16 dc16 pm16 an16 cd16 ct16), sl16⟩)
    (c16 : PySem.W.codeIn K cd16 "_law_some_kinds" = true) (k16 : PySem.W.keepIn K (.ref f16) = true)
    (a17 : PySem.W.nsIn K mainGlobals "_law_probes" = some (some (.ref f17)))
    (l17 : K.lookup f17 = some ⟨oc17, od17, .func (PySem.W.fnOf "_law_probes" "_law_probes" (defArgs sPro) (defBody sPro) (defScope sPro) .none kV17 dc17 pm17 an17 cd17 ct17), sl17⟩)
    (c17 : PySem.W.codeIn K cd17 "_law_probes" = true) (k17 : PySem.W.keepIn K (.ref f17) = true)
    (a18 : PySem.W.nsIn K mainGlobals "_law_wide" = some (some (.ref f18)))
    (l18 : K.lookup f18 = some ⟨oc18, od18, .func (PySem.W.fnOf "_law_wide" "_law_wide" (defArgs sWide) (defBody sWide) (defScope sWide) .none kV18 dc18 pm18 an18 cd18 ct18), sl18⟩)
    (c18 : PySem.W.codeIn K cd18 "_law_wide" = true) (k18 : PySem.W.keepIn K (.ref f18) = true)
    (a19 : PySem.W.nsIn K mainGlobals "_law_right" = some (some (.ref f19)))
    (l19 : K.lookup f19 = some ⟨oc19, od19, .func (PySem.W.fnOf "_law_right" "_law_right" (defArgs sRig) (defBody sRig) (defScope sRig) .none kV19 dc19 pm19 an19 cd19 ct19), sl19⟩)
    (c19 : PySem.W.codeIn K cd19 "_law_right" = true) (k19 : PySem.W.keepIn K (.ref f19) = true)
    (a20 : PySem.W.nsIn K mainGlobals "law" = some (some (.ref f20)))
    (l20 : K.lookup f20 = some ⟨oc20, od20, .func (PySem.W.fnOf "law" "law" (defArgs sLaw) (defBody sLaw) (defScope sLaw) .none kV20 dc20 pm20 an20 cd20 ct20), sl20⟩)
    (c20 : PySem.W.codeIn K cd20 "law" = true) (k20 : PySem.W.keepIn K (.ref f20) = true)
    (z1 : PySem.W.nsIn K mainGlobals "isinstance" = some none)
    (z2 : PySem.W.nsIn K mainGlobals "len" = some none)
    (z3 : PySem.W.nsIn K mainGlobals "all" = some none)
    (z4 : PySem.W.nsIn K mainGlobals "str" = some none)
    (z5 : PySem.W.nsIn K mainGlobals "tuple" = some none)
    (z6 : PySem.W.nsIn K mainGlobals "int" = some none)
    (z7 : PySem.W.nsIn K mainGlobals "bool" = some none)
    (z8 : PySem.W.nsIn K mainGlobals "range" = some none)
    (z9 : PySem.W.nsIn K mainGlobals "repr" = some none)
    (z10 : PySem.W.nsIn K mainGlobals "abs" = some none)
    (z11 : PySem.W.nsIn K mainGlobals "sorted" = some none)
    (z12 : PySem.W.nsIn K mainGlobals "set" = some none)
    (z13 : PySem.W.nsIn K mainGlobals "list" = some none)
    (z14 : PySem.W.nsIn K mainGlobals "max" = some none)
    : ∃ fd : FuncData, (∀ (s : Shared) (v : Value), BindsTo s fd ⟨[v], []⟩ [("_law_script", v)]) ∧ ∀ base : Heap, K.In base → base.Ns mainGlobals mg → FnG l.prog w K mg base CX0 7 fa fd ["_law_script"] (spLaw K) := by
  have e := hfa.symm.trans (PySem.W.mg_of X G a20)
  cases e
  have F1 := fun_mk (st := sBox) l1 c1 k1
  have b1 := F1.binds (ps := ["_law_script", "_law_base"]) fun _ _ _ _ _ _ us hl => match us, hl with | [_, _], _ => rfl
  have m1 := PySem.W.mg_of X G a1
  have F2 := fun_mk (st := sTake) l2 c2 k2
  have b2 := F2.binds (ps := ["_law_box_here", "_law_many"]) fun _ _ _ _ _ _ us hl => match us, hl with | [_, _], _ => rfl
  have m2 := PySem.W.mg_of X G a2
  have F3 := fun_mk (st := sInt) l3 c3 k3
  have b3 := F3.binds (ps := ["thing"]) fun _ _ _ _ _ _ us hl => match us, hl with | [_], _ => rfl
  have m3 := PySem.W.mg_of X G a3
  have F4 := fun_mk (st := sPts) l4 c4 k4
  have b4 := F4.binds (ps := ["kinds"]) fun _ _ _ _ _ _ us hl => match us, hl with | [_], _ => rfl
  have m4 := PySem.W.mg_of X G a4
  have F5 := fun_mk (st := sBut) l5 c5 k5
  have b5 := F5.binds (ps := ["kinds"]) fun _ _ _ _ _ _ us hl => match us, hl with | [_], _ => rfl
  have m5 := PySem.W.mg_of X G a5
  have F6 := fun_mk (st := sLft) l6 c6 k6
  have b6 := F6.binds (ps := ["sizes", "others"]) fun _ _ _ _ _ _ us hl => match us, hl with | [_, _], _ => rfl
  have m6 := PySem.W.mg_of X G a6
  have F7 := fun_mk (st := sTxt) l7 c7 k7
  have b7 := F7.binds (ps := ["kinds"]) fun _ _ _ _ _ _ us hl => match us, hl with | [_], _ => rfl
  have m7 := PySem.W.mg_of X G a7
  have F8 := fun_mk (st := sAll) l8 c8 k8
  have b8 := F8.binds (ps := []) fun _ _ _ _ _ _ us hl => match us, hl with | [], _ => rfl
  have m8 := PySem.W.mg_of X G a8
  have F9 := fun_mk (st := sVal) l9 c9 k9
  have b9 := F9.binds (ps := []) fun _ _ _ _ _ _ us hl => match us, hl with | [], _ => rfl
  have m9 := PySem.W.mg_of X G a9
  have F10 := fun_mk (st := sOne) l10 c10 k10
  have b10 := F10.binds (ps := ["_law_kind"]) fun _ _ _ _ _ _ us hl => match us, hl with | [_], _ => rfl
  have m10 := PySem.W.mg_of X G a10
  have F11 := fun_mk (st := sMeet) l11 c11 k11
  have b11 := F11.binds (ps := ["_law_one", "_law_other"]) fun _ _ _ _ _ _ us hl => match us, hl with | [_, _], _ => rfl
  have m11 := PySem.W.mg_of X G a11
  have F12 := fun_mk (st := sLess) l12 c12 k12
  have b12 := F12.binds (ps := ["_law_one", "_law_other"]) fun _ _ _ _ _ _ us hl => match us, hl with | [_, _], _ => rfl
  have m12 := PySem.W.mg_of X G a12
  have F13 := fun_mk (st := sEmp) l13 c13 k13
  have b13 := F13.binds (ps := ["_law_one"]) fun _ _ _ _ _ _ us hl => match us, hl with | [_], _ => rfl
  have m13 := PySem.W.mg_of X G a13
  have F14 := fun_mk (st := sKin) l14 c14 k14
  have b14 := F14.binds (ps := ["_law_one", "_law_kind"]) fun _ _ _ _ _ _ us hl => match us, hl with | [_, _], _ => rfl
  have m14 := PySem.W.mg_of X G a14
  have F15 := fun_mk (st := sMade) l15 c15 k15
  have b15 := F15.binds (ps := ["_law_one"]) fun _ _ _ _ _ _ us hl => match us, hl with | [_], _ => rfl
  have m15 := PySem.W.mg_of X G a15
  have F16 := fun_mk (st := sSome) l16 c16 k16
  have b16 := F16.binds (ps := ["_law_box_here"]) fun _ _ _ _ _ _ us hl => match us, hl with | [_], _ => rfl
  have m16 := PySem.W.mg_of X G a16
  have F17 := fun_mk (st := sPro) l17 c17 k17
  have b17 := F17.binds (ps := ["_law_one", "_law_other"]) fun _ _ _ _ _ _ us hl => match us, hl with | [_, _], _ => rfl
  have m17 := PySem.W.mg_of X G a17
  have F18 := fun_mk (st := sWide) l18 c18 k18
  have b18 := F18.binds (ps := ["_law_box_here"]) fun _ _ _ _ _ _ us hl => match us, hl with | [_], _ => rfl
  have m18 := PySem.W.mg_of X G a18
  have F19 := fun_mk (st := sRig) l19 c19 k19
  have b19 := F19.binds (ps := ["_law_one", "_law_other"]) fun _ _ _ _ _ _ us hl => match us, hl with | [_, _], _ => rfl
  have m19 := PySem.W.mg_of X G a19
  have F20 := fun_mk (st := sLaw) l20 c20 k20
  have n_isinstance := PySem.W.mg_none_of X G z1
  have n_len := PySem.W.mg_none_of X G z2
  have n_all := PySem.W.mg_none_of X G z3
  have n_str := PySem.W.mg_none_of X G z4
  have n_tuple := PySem.W.mg_none_of X G z5
  have n_int := PySem.W.mg_none_of X G z6
  have n_bool := PySem.W.mg_none_of X G z7
  have n_range := PySem.W.mg_none_of X G z8
  have n_repr := PySem.W.mg_none_of X G z9
  have n_abs := PySem.W.mg_none_of X G z10
  have n_sorted := PySem.W.mg_none_of X G z11
  have n_set := PySem.W.mg_none_of X G z12
  have n_list := PySem.W.mg_none_of X G z13
  have n_max := PySem.W.mg_none_of X G z14
  refine ⟨PySem.W.fnOf "law" "law" (defArgs sLaw) (defBody sLaw) (defScope sLaw) .none kV20 dc20 pm20 an20 cd20 ct20, fun s v => .of_eq rfl, fun base _ _ => ?_⟩
  have B : Bi mg := ⟨n_isinstance, n_len, n_all, n_str, n_tuple, n_int, n_bool, n_range, n_repr, n_abs⟩
  have Tt : Tk l.prog w K mg base f2 _ := ⟨ok_take (k := 0) F2 n_len, k2, b2, m2⟩
  have mC := PySem.W.mg_of X G aC
  have mW := PySem.W.mg_of X G aW
  have hW : ∀ H : Hp, SqT K H tW (kW.map V.str) := fun H => .inr ⟨_, _, _, lW, rfl, rfl, (by show 3 ≤ sizeLine; decide), .cons ⟨tk1, rfl⟩ (.cons ⟨tk2, rfl⟩ (.cons ⟨tk3, rfl⟩ .nil))⟩
  have ko : ∀ {T : String}, PySem.W.subIn K (.type T) (.ref C) = some false → PySem.W.kitOne K (.type T) (.ref C) = some false := fun s => kit_own (by rw [cC]; rfl) tC s
  have O : OwnC K C g8 := ⟨⟨⟨pg, hd, po, sa⟩, ha, hn, htk, hm, kit_me⟩, ⟨am8, im8, km8⟩, ne, ko ka1, ko ka2, ko ka3, ko ka4, ko ka5, ko ka6, kit_ofC kmt1 ja1, kit_ofC kmt2 ja2, kit_ofC kmt3 ja3, kit_ofC kmt4 ja4, kit_ofC kmt5 ja5, kit_ofC kmt6 ja6⟩
  have T : KC K mg C g8 := ⟨O, nw, nb, ns, mC, kc, sf⟩
  have R : ClX.CRead K C (.type "type") := ⟨rd, gt⟩
  have E0 := fun_mk (st := sIni) lm0 cm0 km0
  have d0 := E0.binds (ps := ["self", "words", "but", "sizes"]) fun _ _ _ _ _ _ us hl => match us, hl with | [_, _, _, _], _ => rfl
  have E1 := fun_mk (st := sEvr) lm1 cm1 km1
  have d1 := E1.binds (ps := ["cls"]) fun _ _ _ _ _ _ us hl => match us, hl with | [_], _ => rfl
  have E2 := fun_mk (st := sOf) lm2 cm2 km2
  have d2 := E2.binds (ps := ["cls", "word"]) fun _ _ _ _ _ _ us hl => match us, hl with | [_, _], _ => rfl
  have E3 := fun_mk (st := sSzd) lm3 cm3 km3
  have d3 := E3.binds (ps := ["cls", "k"]) fun _ _ _ _ _ _ us hl => match us, hl with | [_, _], _ => rfl
  have E4 := fun_mk (st := sAnd) lm4 cm4 km4
  have d4 := E4.binds (ps := ["self", "other"]) fun _ _ _ _ _ _ us hl => match us, hl with | [_, _], _ => rfl
  have E5 := fun_mk (st := sOr) lm5 cm5 km5
  have d5 := E5.binds (ps := ["self", "other"]) fun _ _ _ _ _ _ us hl => match us, hl with | [_, _], _ => rfl
  have E6 := fun_mk (st := sSub) lm6 cm6 km6
  have d6 := E6.binds (ps := ["self", "other"]) fun _ _ _ _ _ _ us hl => match us, hl with | [_, _], _ => rfl
  have E7 := fun_mk (st := sHas) lm7 cm7 km7
  have d7 := E7.binds (ps := ["self", "kind"]) fun _ _ _ _ _ _ us hl => match us, hl with | [_, _], _ => rfl
  have E8 := fun_mk (st := sEqK) lm8 cm8 km8
  have d8 := E8.binds (ps := ["self", "other"]) fun _ _ _ _ _ _ us hl => match us, hl with | [_, _], _ => rfl
  have E9 := fun_mk (st := sBol) lm9 cm9 km9
  have d9 := E9.binds (ps := ["self"]) fun _ _ _ _ _ _ us hl => match us, hl with | [_], _ => rfl
  have E10 := fun_mk (st := sStrK) lm10 cm10 km10
  have d10 := E10.binds (ps := ["self"]) fun _ _ _ _ _ _ us hl => match us, hl with | [_], _ => rfl
  have E11 := fun_mk (st := sWth) lm11 cm11 km11
  have d11 := E11.binds (ps := ["self", "other"]) fun _ _ _ _ _ _ us hl => match us, hl with | [_, _], _ => rfl
  have MK : MkK l.prog w K mg base C g0 _ := ⟨⟨mk, am0, im0, kc⟩, ok_ini (k := 0) E0 T, d0⟩
  have GPts : Dn l.prog w K mg base 1 "parts_of" ["kinds"] (spPts K C) f4 _ := ⟨ok_pts (k := 0) F4 T, k4, b4, m4⟩
  have GLft : Dn l.prog w K mg base 1 "left_out" ["sizes", "others"] (spLft K) f6 _ := ⟨ok_lft (k := 0) F6 B, k6, b6, m6⟩
  have GBut : Dn l.prog w K mg base 3 "all_but" ["kinds"] (spBut K C) f5 _ := ⟨ok_but (k := 0) F5 B T MK mW hW GPts, k5, b5, m5⟩
  have GInt : Dn l.prog w K mg base 1 "is_integer" ["thing"] (spLook K (fun _ => True) fun d => .bl (inI d)) f3 _ := ⟨ok_int (k := 0) F3 B, k3, b3, m3⟩
  have GTxt : Dn l.prog w K mg base 2 "text_of" ["kinds"] (spTxt K C) f7 _ := ⟨ok_txt (k := 0) F7 B T GPts, k7, b7, m7⟩
  have oA : KO l.prog w K mg base C 3 "__and__" ["self", "other"] (spKK K C and) g4 _ := ⟨⟨am4, im4, km4⟩, ok_and (k := 0) E4 B T MK n_sorted GLft, d4⟩
  have oO : KO l.prog w K mg base C 4 "__or__" ["self", "other"] (spKK K C or) g5 _ := ⟨⟨am5, im5, km5⟩, ok_or (k := 0) E5 T GBut oA.m oA.ok oA.bd, d5⟩
  have oS : KO l.prog w K mg base C 4 "__sub__" ["self", "other"] (kS K C) g6 _ := ⟨⟨am6, im6, km6⟩, ok_sub (k := 0) E6 T GBut oA.m oA.ok oA.bd, d6⟩
  have oH : KO l.prog w K mg base C 2 "__contains__" ["self", "kind"] (spHas K C) g7 _ := ⟨⟨am7, im7, km7⟩, ok_has (k := 0) E7 B T GInt, d7⟩
  have oE : KO l.prog w K mg base C 2 "__eq__" ["self", "other"] (spEqK K C) g8 _ := ⟨⟨am8, im8, km8⟩, ok_eqK (k := 0) E8 B T GPts, d8⟩
  have oB : KO l.prog w K mg base C 1 "__bool__" ["self"] (spBol K C) g9 _ := ⟨⟨am9, im9, km9⟩, ok_bol (k := 0) E9 B T, d9⟩
  have oT : KO l.prog w K mg base C 3 "__str__" ["self"] (spTxt K C) g10 _ := ⟨⟨am10, im10, km10⟩, ok_strK (k := 0) E10 B GTxt, d10⟩
  have oW : KO l.prog w K mg base C 5 "within" ["self", "other"] (spWth K C) g11 _ := ⟨⟨am11, im11, km11⟩, ok_wth (k := 0) E11 B T oS.m oS.ok oS.bd oB.m oB.ok oB.bd, d11⟩
  have M1 : KM l.prog w K mg base C (.type "type") "everything" ["cls"] (spEvr K C) p1 g1 _ := ⟨⟨am1, ⟨_, im1⟩, fi1⟩, ok_evr (k := 0) E1 T MK mW hW, d1⟩
  have M3 : KM l.prog w K mg base C (.type "type") "of" ["cls", "word"] (spOf K C) p2 g2 _ := ⟨⟨am2, ⟨_, im2⟩, fi2⟩, ok_of (k := 0) E2 T MK, d2⟩
  have M4 : KM l.prog w K mg base C (.type "type") "sized" ["cls", "k"] (spSzd K C) p3 g3 _ := ⟨⟨am3, ⟨_, im3⟩, fi3⟩, ok_szd (k := 0) E3 T MK, d3⟩
  have GAll : Dn l.prog w K mg base 1 "_law_all_kinds" [] (spCon K mAll) f8 _ := ⟨ok_all (k := 0) F8, k8, b8, m8⟩
  have GVal : Dn l.prog w K mg base 1 "_law_value_kinds" [] (spCon K mVal) f9 _ := ⟨ok_val (k := 0) F9, k9, b9, m9⟩
  have GOne : Dn l.prog w K mg base 1 "_law_one_kind" ["_law_kind"] (spOne K) f10 _ := ⟨ok_one (k := 0) F10 B, k10, b10, m10⟩
  have GMeet : Dn l.prog w K mg base 1 "_law_meet" ["_law_one", "_law_other"] (spMeet K and) f11 _ := ⟨ok_meet (k := 0) F11 B n_sorted n_set, k11, b11, m11⟩
  have GLess : Dn l.prog w K mg base 2 "_law_less" ["_law_one", "_law_other"] (spMeet K fun x y => x && !y) f12 _ := ⟨ok_less (k := 0) F12 B GMeet, k12, b12, m12⟩
  have GEmp : Dn l.prog w K mg base 1 "_law_is_empty" ["_law_one"] (spEmp K) f13 _ := ⟨ok_emp (k := 0) F13, k13, b13, m13⟩
  have GKin : Dn l.prog w K mg base 1 "_law_kind_in" ["_law_one", "_law_kind"] (spKinP K) f14 _ := ⟨(ok_kin (k := 0) F14 B).imp fun _ _ _ _ h => kin_imp h, k14, b14, m14⟩
  have GMade : Dn l.prog w K mg base 5 "_law_made" ["_law_one"] (spMade K C) f15 _ := ⟨ok_made (k := 0) F15 T R oO oS M1 M3 M4, k15, b15, m15⟩
  have GSome : Dn l.prog w K mg base 3 "_law_some_kinds" ["_law_box_here"] (spSome K) f16 _ := ⟨ok_some (k := 0) F16 B n_sorted n_set Tt GOne GLess GAll GVal, k16, b16, m16⟩
  have GPro : Dn l.prog w K mg base 1 "_law_probes" ["_law_one", "_law_other"] (spPro K) f17 _ := ⟨ok_pro (k := 0) F17 B n_sorted n_set n_list n_max, k17, b17, m17⟩
  have GWide : Dn l.prog w K mg base 4 "_law_wide" ["_law_box_here"] (spSome K) f18 _ := ⟨ok_wide (k := 0) F18 B n_sorted n_set n_list Tt GSome GMeet GLess, k18, b18, m18⟩
  have GR := ok_rig F19 B T oA oO oS oH oE oB oW GMade GPro GKin GEmp
  exact ok_law F20 B T R oH oE oW oT M1 GMade ⟨ok_box (k := 0) F1 n_abs, k1, b1, m1⟩ Tt GWide GAll GR k19 b19 m19
end Rl
open PySem PySem.W PyProof.Rows in
set_option maxRecDepth 100000 in
set_option maxHeartbeats 0 in
theorem PySem.Challenge.cw_runlore_k15_kind_sets_combined_holds : PySem.Challenge.rw_runlore_k15_kind_sets_combined.Holds := by
  w_on; o_law; k_head; (case hw => w_witness2)
  k_fill
  refine Rl.walkG (l := PySem.Challenge.rw_runlore_k15_kind_sets_combined) (n := 63) (k := 7) (x := "_law_script") (sp := Rl.spLaw) rfl (by decide) rfl ⟨rfl, by decide, by decide⟩ (fun w h Y => PySem.W.kIn_of Y) ?F (fun K H a ns hl _ hS => ⟨a, ns, rfl, hS, hl, fun _ => rfl⟩)
  case F =>
    intro w mg fa h KX G hmg
    refine' Rl.all_mk KX G hmg ?aC ?aW ?lW ?am0 ?im0 ?lm0 ?cm0 ?km0 ?am1 ?im1 ?fi1 ?lm1 ?cm1 ?km1 ?am2 ?im2 ?fi2 ?lm2 ?cm2 ?km2 ?am3 ?im3 ?fi3 ?lm3 ?cm3 ?km3 ?am4 ?im4 ?lm4 ?cm4 ?km4 ?am5 ?im5 ?lm5 ?cm5 ?km5 ?am6 ?im6 ?lm6 ?cm6 ?km6 ?am7 ?im7 ?lm7 ?cm7 ?km7 ?am8 ?im8 ?lm8 ?cm8 ?km8 ?am9 ?im9 ?lm9 ?cm9 ?km9 ?am10 ?im10 ?lm10 ?cm10 ?km10 ?am11 ?im11 ?lm11 ?cm11 ?km11 ?pg ?hd ?po ?sa ?mk ?kc ?sf ?nw ?nb ?ns ?rd ?gt ?ha ?hn ?htk ?hm ?tC ?cC ?ne ?ka1 ?ja1 ?ka2 ?ja2 ?ka3 ?ja3 ?ka4 ?ja4 ?ka5 ?ja5 ?ka6 ?ja6 ?a1 ?l1 ?c1 ?k1 ?a2 ?l2 ?c2 ?k2 ?a3 ?l3 ?c3 ?k3 ?a4 ?l4 ?c4 ?k4 ?a5 ?l5 ?c5 ?k5 ?a6 ?l6 ?c6 ?k6 ?a7 ?l7 ?c7 ?k7 ?a8 ?l8 ?c8 ?k8 ?a9 ?l9 ?c9 ?k9 ?a10 ?l10 ?c10 ?k10 ?a11 ?l11 ?c11 ?k11 ?a12 ?l12 ?c12 ?k12 ?a13 ?l13 ?c13 ?k13 ?a14 ?l14 ?c14 ?k14 ?a15 ?l15 ?c15 ?k15 ?a16 ?l16 ?c16 ?k16 ?a17 ?l17 ?c17 ?k17 ?a18 ?l18 ?c18 ?k18 ?a19 ?l19 ?c19 ?k19 ?a20 ?l20 ?c20 ?k20 ?z1 ?z2 ?z3 ?z4 ?z5 ?z6 ?z7 ?z8 ?z9 ?z10 ?z11 ?z12 ?z13 ?z14
    (case aC => k_is)
    (case aW => k_is)
    (case lW => k_is)
    (case am0 => k_is)
    (case im0 => k_is)
    (case lm0 => k_is)
    (case cm0 => k_is)
    (case km0 => k_is)
    (case am1 => k_is)
    (case im1 => k_is)
    (case fi1 => k_is)
    (case lm1 => k_is)
    (case cm1 => k_is)
    (case km1 => k_is)
    (case am2 => k_is)
    (case im2 => k_is)
    (case fi2 => k_is)
    (case lm2 => k_is)
    (case cm2 => k_is)
    (case km2 => k_is)
    (case am3 => k_is)
    (case im3 => k_is)
    (case fi3 => k_is)
    (case lm3 => k_is)
    (case cm3 => k_is)
    (case km3 => k_is)
    (case am4 => k_is)
    (case im4 => k_is)
    (case lm4 => k_is)
    (case cm4 => k_is)
    (case km4 => k_is)
    (case am5 => k_is)
    (case im5 => k_is)
    (case lm5 => k_is)
    (case cm5 => k_is)
    (case km5 => k_is)
    (case am6 => k_is)
    (case im6 => k_is)
    (case lm6 => k_is)
    (case cm6 => k_is)
    (case km6 => k_is)
    (case am7 => k_is)
    (case im7 => k_is)
    (case lm7 => k_is)
    (case cm7 => k_is)
    (case km7 => k_is)
    (case am8 => k_is)
    (case im8 => k_is)
    (case lm8 => k_is)
    (case cm8 => k_is)
    (case km8 => k_is)
    (case am9 => k_is)
    (case im9 => k_is)
    (case lm9 => k_is)
    (case cm9 => k_is)
    (case km9 => k_is)
    (case am10 => k_is)
    (case im10 => k_is)
    (case lm10 => k_is)
    (case cm10 => k_is)
    (case km10 => k_is)
    (case am11 => k_is)
    (case im11 => k_is)
    (case lm11 => k_is)
    (case cm11 => k_is)
    (case km11 => k_is)
    (case pg => k_is)
    (case hd => k_is)
    (case po => k_is)
    (case sa => k_is)
    (case mk => k_is)
    (case kc => k_is)
    (case sf => k_is)
    (case nw => k_is)
    (case nb => k_is)
    (case ns => k_is)
    (case rd => k_is)
    (case gt => k_is)
    (case ha => k_is)
    (case hn => k_is)
    (case htk => k_is)
    (case hm => k_is)
    (case tC => k_is)
    (case cC => k_is)
    (case ne => k_is)
    (case ka1 => k_is)
    (case ja1 => k_is)
    (case ka2 => k_is)
    (case ja2 => k_is)
    (case ka3 => k_is)
    (case ja3 => k_is)
    (case ka4 => k_is)
    (case ja4 => k_is)
    (case ka5 => k_is)
    (case ja5 => k_is)
    (case ka6 => k_is)
    (case ja6 => k_is)
    (case a1 => k_is)
    (case l1 => k_is)
    (case c1 => k_is)
    (case k1 => k_is)
    (case a2 => k_is)
    (case l2 => k_is)
    (case c2 => k_is)
    (case k2 => k_is)
    (case a3 => k_is)
    (case l3 => k_is)
    (case c3 => k_is)
    (case k3 => k_is)
    (case a4 => k_is)
    (case l4 => k_is)
    (case c4 => k_is)
    (case k4 => k_is)
    (case a5 => k_is)
    (case l5 => k_is)
    (case c5 => k_is)
    (case k5 => k_is)
    (case a6 => k_is)
    (case l6 => k_is)
    (case c6 => k_is)
    (case k6 => k_is)
    (case a7 => k_is)
    (case l7 => k_is)
    (case c7 => k_is)
    (case k7 => k_is)
    (case a8 => k_is)
    (case l8 => k_is)
    (case c8 => k_is)
    (case k8 => k_is)
    (case a9 => k_is)
    (case l9 => k_is)
    (case c9 => k_is)
    (case k9 => k_is)
    (case a10 => k_is)
    (case l10 => k_is)
    (case c10 => k_is)
    (case k10 => k_is)
    (case a11 => k_is)
    (case l11 => k_is)
    (case c11 => k_is)
    (case k11 => k_is)
    (case a12 => k_is)
    (case l12 => k_is)
    (case c12 => k_is)
    (case k12 => k_is)
    (case a13 => k_is)
    (case l13 => k_is)
    (case c13 => k_is)
    (case k13 => k_is)
    (case a14 => k_is)
    (case l14 => k_is)
    (case c14 => k_is)
    (case k14 => k_is)
    (case a15 => k_is)
    (case l15 => k_is)
    (case c15 => k_is)
    (case k15 => k_is)
    (case a16 => k_is)
    (case l16 => k_is)
    (case c16 => k_is)
    (case k16 => k_is)
    (case a17 => k_is)
    (case l17 => k_is)
    (case c17 => k_is)
    (case k17 => k_is)
    (case a18 => k_is)
    (case l18 => k_is)
    (case c18 => k_is)
    (case k18 => k_is)
    (case a19 => k_is)
    (case l19 => k_is)
    (case c19 => k_is)
    (case k19 => k_is)
    (case a20 => k_is)
    (case l20 => k_is)
    (case c20 => k_is)
    (case k20 => k_is)
    (case z1 => k_is)
    (case z2 => k_is)
    (case z3 => k_is)
    (case z4 => k_is)
    (case z5 => k_is)
    (case z6 => k_is)
    (case z7 => k_is)
    (case z8 => k_is)
    (case z9 => k_is)
    (case z10 => k_is)
    (case z11 => k_is)
    (case z12 => k_is)
    (case z13 => k_is)
    (case z14 => k_is)

import PyProof.Rows.All
import Wide.All
import OpenK.AllK
import Wide.FinOn
import PyProof.ReprRoads
import PyProof.StrLawsRepr
import PyProof.ReprLen
import PyProof.Rows.RegStrFacts
import PyProof.Rows.StrCase
import PyProof.Rows.ReprOcc
import HandS.ForMost
import HandS.IsInst
import HandS.Wide
import HandS.Style
import HandS.Flow
import HandS.Conv
import HandS.Walk
import HandS.Codes
import HandS.TupAny
import HandS.FStr
import HandS.Defaults
import HandS.MakeKw
import HandS.MakeKwOnly
import HandS.Zip
import HandS.ListItems
import HandS.Iter
import HandS.TupLe
import KE.KDictZip
import PyProof.CollectWalk
import PySem.Challenge.RW_runlore_k03_values_in_order
set_option Elab.async false
set_option linter.all false
set_option maxRecDepth 100000
set_option exponentiation.threshold 2000
namespace Rl
open PySem PySem.Spec PyProof.Rows L2
/-- what can be printed: data of bounded depth whose text is short enough -/
structure Prn (d : PyData) : Prop where
  sh : d.showable = true
  nd : d.hasDict = false
  dp : d.depth ≤ 60
  sz : d.shown.length ≤ sizeLine
def rRep (K : PySem.W.Frag) : List V → Hp → VK → Prop := fun xs H Q =>
  ∃ v d, xs = [v] ∧ Dp K H v d ∧ Prn d ∧ Q (.str d.shown) H
theorem meets_extT (l b : Addr) (items items2 : Array Value) (n : Nat) (hlong : (!items.isEmpty && Builtin.List.listTooLong (items.size + items2.size)) = false) (h1 : items.size ≤ sizeLine) (h2 : items.size + items2.size ≤ sizeLine + 1) :
    Meets (Builtin.«list.extend» ⟨[.ref l, .ref b], []⟩) (fun _ R s => s.heap.get? l = some { cls := .type "list", data := .seq items n } ∧ IsTup s.heap b items2 ∧
      R (.ok (.ret .none)) { s with heap := s.heap.update l (Obj.mapSeq fun x => x ++ items2) }) := by
  intro prog w A R s ⟨hl, ⟨o, ho, hc, n2, hd⟩, hR⟩
  show wpAny _ A.in1 (Builtin.List.listExtendWith (.ref l) (.ref b) .none) _ _ s
  unfold Builtin.List.listExtendWith
  refine wpAny_bind (wpAny_typeOf ⟨o, ho, hc⟩ ?_)
  have e1 : (Builtin.List.listSameRef (.ref l) (.ref b) || Value.type "tuple" == Value.type "list" || Value.type "tuple" == Value.type "tuple") = true := by simp
  simp only [e1, if_true]
  refine wpAny_bind ?_
  unfold Builtin.List.listItems
  refine wpAny_bind (wpAny_seqItems ho hd (wpAny_pure ?_))
  refine wpAny_bind ?_
  refine wpAny_bind (wpAny_seqItems hl rfl (wpAny_pure ?_))
  rw [hlong]
  show wpAny _ A.in1 (updateSeq l (· ++ items2) >>= fun _ => ret .none) _ _ s
  have h3 : (items ++ items2).size ≤ sizeLine + 1 := by rw [Array.size_append]; exact h2
  refine wpAny_bind (wpAny_updateSeq hl rfl ?_ h1 h3)
  exact wpAny_pure hR
section
variable {X : Cx}
theorem call_rep (hg : X.A.guards = some []) (hu : X.A.units + 64 < cLine) : CallR X (.builtin "repr") (rRep X.K) := by
  intro pins s σ H xs us Q I r h
  obtain ⟨v, d, rfl, hd, ⟨hs, hnd, hdep, hsz⟩, q⟩ := h
  obtain ⟨u, rfl, ru⟩ := vals1 r
  obtain ⟨as, rd⟩ := Dp.reads I d v u hd ru
  cases hd with
  | non =>
    cases ru
    exact PySem.P.repr_of_none ⟨.str _, H, I.tok _, ⟨_, rfl⟩, q⟩
  | bl b =>
    cases ru
    refine PySem.P.repr_of_bool ⟨.str (if b then "True" else "False"), H, I.tok _, ⟨_, rfl⟩, ?_⟩
    cases b <;> exact q
  | int i =>
    obtain ⟨t, rfl⟩ := ru
    exact PySem.P.repr_of_int (of_decide_eq_true (by simpa only [PyData.showable] using hs)) ⟨.str _, H, I.tok _, ⟨_, rfl⟩, q⟩
  | str x =>
    obtain ⟨t, rfl⟩ := ru
    exact PySem.P.repr_of_str ⟨.str _, H, I.tok _, ⟨_, rfl⟩, q⟩ hsz
  | lst h1 h2 =>
    cases ru
    exact repr_of_reads' rd hs (PyData.noDict_hsm hnd) hg (by omega) (fun _ _ e => e) (fun h' u tk hk => ⟨.str _, H, I.kept hk, ⟨_, rfl⟩, q⟩) hsz
  | tup h1 h2 =>
    cases ru
    exact repr_of_reads' rd hs (PyData.noDict_hsm hnd) hg (by omega) (fun _ _ e => e) (fun h' u tk hk => ⟨.str _, H, I.kept hk, ⟨_, rfl⟩, q⟩) hsz
/-- xs.extend(t), t a tuple -/
def rExtT (K : PySem.W.Frag) : V → List V → Hp → VK → Prop := fun x vs H Q =>
  ∃ l b xs zs, x = .ref l ∧ vs = [.ref b] ∧ H l = some (.lst xs) ∧ SqT K H b zs ∧ xs.length + zs.length ≤ sizeLine ∧ Q .non (upd H l (.lst (xs ++ zs)))
theorem mt_extT : MtM X "list.extend" (rExtT X.K) := by
  intro pins s σ H x vs v us Q I rx rv h
  obtain ⟨l, b, xs, zs, rfl, rfl, hH, hB, hz, q⟩ := h
  cases rx
  obtain ⟨u, rfl, ru⟩ := rv.one
  cases ru
  obtain ⟨z, its, n, r, hl, e⟩ := I.lstM hH
  obtain ⟨its2, r2, tp, hl2⟩ := I.tuple hB
  have hl3 := r2.length
  have hl4 := r.length
  have hsz : its.toArray.size + its2.toArray.size ≤ sizeLine := by rw [List.size_toArray, List.size_toArray]; omega
  have hlong : (!its.toArray.isEmpty && Builtin.List.listTooLong (its.toArray.size + its2.toArray.size)) = false := by
    rw [notLongL hsz, Bool.and_false]
  refine call_meets F.slot_list_extend ⟨_, e, rfl⟩ F.entry_list_extend (F.args_list_extend_2 _ _)
    (meets_extT l b its.toArray its2.toArray n hlong (by omega) (by omega)) ⟨e, tp, ?_⟩
  refine ⟨.non, _, I.lset (its' := its ++ its2) hH e (by simp) (r.append r2) ?_, rfl, q⟩
  rw [List.length_append]
  omega
end
/-! a def that may print (repr): called where nothing is being printed -/
section
variable {P : Program} {w : World} {K : PySem.W.Frag} {mg : Str → Option Value} {base : Heap} {CX : CXT}
structure FnG (P : Program) (w : World) (K : PySem.W.Frag) (mg : Str → Option Value) (base : Heap)
    (CX : CXT) (k : Nat) (f : Addr) (fd : FuncData) (ps : List Str) (sp : Sp) : Prop where
  len : ∀ ws H Q E, sp ws H Q E → ws.length = ps.length
  go : ∀ (B : Around) (out : List Env) (t : Shared) (H : Hp) (as : Args) (us : List Value) (ws : List V) (Q : VK) (E : XK), B.guards = some [] → Room k B →
    Env0 P w K mg base B out t H → BindsTo t fd as (ps.zip us) → Vals ws us → sp ws H Q E →
    codeAny (model P w) B (.call (.ref f) as) (CR CX out P w H t Q E) t
theorem FnOk.toG {k : Nat} {f : Addr} {fd : FuncData} {ps : List Str} {sp : Sp} (F : FnOk P w K mg base CX k f fd ps sp) : FnG P w K mg base CX k f fd ps sp :=
  ⟨F.len, fun B out t H as us ws Q E _ => F.run B out t H as us ws Q E⟩
theorem FnG.mono {j k : Nat} {f : Addr} {fd : FuncData} {ps : List Str} {sp : Sp} (F : FnG P w K mg base CX j f fd ps sp) (h : j ≤ k) : FnG P w K mg base CX k f fd ps sp :=
  ⟨F.len, fun B out t H as us ws Q E g r => F.go B out t H as us ws Q E g (r.mono h)⟩
theorem fnG_of {k : Nat} {f : Addr} {name qual : Str} {params : Arguments} {body : List Stmt} {scope : Scope} {dV kV doc pm cdv ct oc : Value} {an od : Option Addr} {osl : Array (Option Value)} {N ps : List Str} {sp : Sp}
    (lk : K.lookup f = some ⟨oc, od, .func (PySem.W.fnOf name qual params body scope dV kV doc pm an cdv ct), osl⟩) (hcd : PySem.W.codeIn K cdv qual = true) (S : FnScope N ps scope)
    (len : ∀ ws H Q E, sp ws H Q E → ws.length = ps.length)
    (hb : ∀ (B : Around) (out : List Env) (t : Shared) (H : Hp) (ws : List V) (Q : VK) (E : XK), B.guards = some [] → Room k (B.deeper (envOfC qual scope t.heap.objs.size f cdv)) → sp ws H Q E →
      ∃ r, PSs (cxOf CX P w K mg base N qual scope f cdv B out t H E) body r ∧ r { nx := fun _ H' => Q .non H', rt := Q } (start N ws) H) :
    FnG P w K mg base CX (k + 1) f (PySem.W.fnOf name qual params body scope dV kV doc pm an cdv ct) ps sp := by
  refine ⟨len, ?_⟩
  intro B out t H as us ws Q E hg hr ee bb rr hsp
  have hl := len _ _ _ _ hsp
  have kx : K.In t.heap := ee.mod.kin.keeps fun b o z => (ee.bs b o z).1
  have lm : t.heap.NoLimit := ee.mod.nolimit.keeps fun b o z => (ee.bs b o z).1
  have kinds : ∀ y ∈ ps.zip us, scope.names.lookup y.1 = some .local ∨ (scope.names.lookup y.1 = some .cell ∧
      ((cellsFrom (t.heap.objs.size + 1) scope.names []).lookup y.1).isSome = true) := by
    rintro ⟨n, v⟩ hy
    rcases S.par n (List.of_mem_zip hy).1 with q | q
    · exact Or.inl q
    · exact Or.inr ⟨q, PySem.W.cellsFrom_some _ _ _ (Or.inl q)⟩
  refine codeAny_call_function hr.depth (kx _ _ lk) rfl S.co S.gen rfl (PySem.W.codeRec_of kx hcd) (bb _ _ _ _ ?_)
  refine wpAny_newFunctionEnv_cells S.kind kinds fun env he t1 x => ?_
  subst he
  refine ⟨lm.keeps x.toInCall.keep, codeAny_func ?_⟩
  obtain ⟨r, ht, hq⟩ := hb B out t H ws Q E hg (hr.deeper _) hsp
  have J := inv_start (CX := CX) (E := E) S hr.hd ee hl rr x
  refine wpAny_mono (ht.run [] t1 (start N ws) H _ J hq) (fun fl t' hs => ?_) (fun _ _ hs => hs)
  cases fl with
  | brk => exact hs.elim fun _ z => z.elim fun _ z => z.2.elim
  | cont => exact hs.elim fun _ z => z.elim fun _ z => z.2.elim
  | ret u =>
    obtain ⟨v, _, H', J', rv, q⟩ := hs
    exact ⟨v, H', J'.os, J'.bare, J'.base, J'.hok, rv, q⟩
  | next =>
    obtain ⟨_, H', J', q⟩ := hs
    exact ⟨.non, H', J'.os, J'.bare, J'.base, J'.hok, rfl, q⟩
end
section
variable {X : Cx} {CX : CXT} {k : Nat} {f : Addr} {fd : FuncData} {ps : List Str} {sp : Sp} {ds : List Value} {dvs : List V} {E : XK} {x : Str} {p pos : Pos} {e : Expr} {es : List Expr} {t : TA}
theorem pe_callG (F : FnG X.prog X.w X.K X.mg X.base CX k f fd ps sp) (gd : X.A.guards = some []) (hr : Room k X.A) (hg : Gl X x) (hm : X.mg x = some (.ref f)) (hk : PySem.W.keepIn X.K (.ref f) = true)
    (hb : Binds X.K fd ps ds) (hd : Vals dvs ds) (hx : Passes CX X E) (ha : PA X (e :: es) t) (hdb : (x == ("__debug__" : Str)) = false := by decide)
    (he : starEach (e :: es) X.env = (false, eval e X.env) :: starEach es X.env := by rfl) (hpl : (backTo pos (starEach es X.env)).any (·.1) = false := by rfl) :
    PE X (.Call (.Name x p) (e :: es) [] pos) (tCall sp dvs E t) := by
  refine ⟨fun pins s σ H Q I h => wpAny_Call_Name_kw (ld_glob I hg hm ?_ hdb)⟩
  refine PySem.W.callWith_K (h₀ := X.base) I.ok.mod.kin hk ?_ he hpl
  refine thn (ha.run pos pins s σ H _ I h) fun us t1 ⟨ws, H1, J, r, q⟩ => ⟨J.kIn, ?_⟩
  have r2 : Vals (ws ++ dvs) (us ++ ds) := r.append hd
  have hl : (us ++ ds).length = ps.length := r2.length.symm.trans (F.len _ _ _ _ q)
  refine wpAny_call (codeAny_mono (F.go X.A X.stack t1 H1 ⟨us, []⟩ (us ++ ds) (ws ++ dvs) Q E gd hr J.env0 (hb t1 us J.kIn hl) r2 q) ?_)
  intro r t' hq
  cases r with
  | error z => exact hx pins σ H1 t1 z t' J hq
  | ok fl =>
    cases fl with
    | ret u => exact J.after hq
    | next => exact False.elim hq
    | brk => exact False.elim hq
    | cont => exact False.elim hq
end
/-! the law's own call, where its def may print -/
abbrev Tru (s₁ : Shared) (r : Result) (t : Shared) : Prop := r = .ok (.ret (.bool true)) ∧ OldK s₁.heap t.heap ∧ t.os = s₁.os ∧ AllBare t.gens
theorem law_core {P : Program} {w : World} {K : PySem.W.Frag} {mg mb : Str → Option Value} {k : Nat} {fa a : Addr} {fd : FuncData} {x : Str} {sp : Sp} {s₁ : Shared} {vs : List Value} {ns : List Int}
    (kx : K.In s₁.heap) (n1 : s₁.heap.Ns mainGlobals mg) (n2 : s₁.heap.Ns builtinsNs mb) (n3 : ∀ x : Str, x ≠ "__name__" → mb x = bootBuiltins x) (n4 : s₁.heap.NoLimit) (g0 : s₁.gens = #[])
    (oa : s₁.heap.get? a = some { cls := .type "list", data := .seq vs.toArray }) (hr : Room k callerA)
    (F : ∀ base : Heap, K.In base → base.Ns mainGlobals mg → FnG P w K mg base CX0 k fa fd [x] sp) (bd : ∀ (s : Shared) (u : Value), BindsTo s fd ⟨[u], []⟩ [(x, u)])
    (hsp : ∀ H : Hp, Only H → SqL K H a (ns.map V.int) → sp [.ref a] H (fun v _ => v = .bl true) fun _ _ _ => False)
    (H : Hp) (hO : Only H) (hS : SqL K H a (ns.map V.int)) (ok : HOk P w H s₁.heap) (hA : ∀ b, H b ≠ none → b = a) (hK : H a ≠ none → K.lookup a = none) :
    codeAny (model P w) callerA (.call (.ref fa) ⟨[.ref a], []⟩) (Tru s₁) s₁ := by
  have out : ∀ {b : Addr} {o : Obj} {es : Array DictEntry} {ep : Nat}, s₁.heap.get? b = some o → o.data = .dict es ep → H b = none := by
    intro b o es ep e d
    by_cases q : H b = none
    · exact q
    · have z := hA b q
      subst z
      rw [oa] at e
      cases e
      exact nomatch d
  have nsK : ∀ {b : Addr} {m : Str → Option Value}, s₁.heap.Ns b m → (hidT s₁.heap H).Ns b m := by
    rintro b m ⟨o, es, ep, e, d, r⟩
    exact ⟨o, es, ep, hidT_get e (out e d), d, r⟩
  have kb : K.In (hidT s₁.heap H) := by
    intro b o e
    refine hidT_get (kx b o e) ?_
    by_cases q : H b = none
    · exact q
    · have z := hA b q
      subst z
      have y := hK q
      rw [y] at e
      cases e
  have lim : (hidT s₁.heap H).NoLimit := by
    obtain ⟨mc, h1, h2⟩ := n4
    exact ⟨mc, nsK h1, h2⟩
  have md : Mod K mg (hidT s₁.heap H) := ⟨kb, nsK n1, ⟨mb, nsK n2, n3⟩, lim⟩
  have ee : Env0 P w K mg (hidT s₁.heap H) callerA [] s₁ H := by
    refine ⟨rfl, md, fun b o e => of_hidT e, Nat.le_of_eq (hidT_size _ _), trivial, ?_, ok, .of_eq g0⟩
    intro b hb
    exact absurd (show b ∈ ([] : List Addr) from hb) (by simp)
  have run := (F _ kb (nsK n1)).go callerA [] s₁ H ⟨[.ref a], []⟩ [.ref a] [.ref a] _ _ rfl hr ee (bd s₁ (.ref a)) (.cons rfl .nil) (hsp H hO hS)
  refine codeAny_mono run ?_
  intro r t h
  cases r with
  | error e => exact False.elim h
  | ok fl =>
    cases fl with
    | brk => exact False.elim h
    | cont => exact False.elim h
    | next => exact False.elim h
    | ret u =>
      obtain ⟨v, H', os, bare, un, ok', rv, q⟩ := h
      have q' : v = .bl true := q
      subst q'
      obtain rfl : u = Value.bool true := rv
      refine ⟨rfl, OldK.of_keep ?_, os, bare⟩
      intro b o e
      rcases hO b with z | ⟨ob, xs, z⟩
      · exact un.keep b o e z (fun y => absurd (show b ∈ ([] : List Addr) from y) (by simp)) (by simp)
      · obtain ⟨e1, _⟩ := ok b _ z
        obtain ⟨e2, _⟩ := ok' b _ (un.frzs b ob _ z)
        rw [e] at e1
        cases e1
        exact e2
theorem law_callG {P : Program} {w : World} {K : PySem.W.Frag} {mg mb : Str → Option Value} {k : Nat} {fa a : Addr} {fd : FuncData} {x : Str} {sp : Sp} {s₁ : Shared} {vs : List Value} {ns : List Int}
    (kx : K.In s₁.heap) (n1 : s₁.heap.Ns mainGlobals mg) (n2 : s₁.heap.Ns builtinsNs mb) (n3 : ∀ x : Str, x ≠ "__name__" → mb x = bootBuiltins x) (n4 : s₁.heap.NoLimit) (g0 : s₁.gens = #[])
    (oa : s₁.heap.get? a = some { cls := .type "list", data := .seq vs.toArray }) (hi : IntsAre vs ns) (hl : ns.length ≤ sizeLine) (hr : Room k callerA)
    (F : ∀ base : Heap, K.In base → base.Ns mainGlobals mg → FnG P w K mg base CX0 k fa fd [x] sp) (bd : ∀ (s : Shared) (u : Value), BindsTo s fd ⟨[u], []⟩ [(x, u)])
    (hsp : ∀ H : Hp, Only H → SqL K H a (ns.map V.int) → sp [.ref a] H (fun v _ => v = .bl true) fun _ _ _ => False) :
    codeAny (model P w) callerA (.call (.ref fa) ⟨[.ref a], []⟩) (Tru s₁) s₁ := by
  have rv := vals_ints hi
  have lv := rv.length
  rw [List.length_map] at lv
  have go := law_core (ns := ns) kx n1 n2 n3 n4 g0 oa hr F bd hsp
  by_cases hk : K.lookup a = none
  · refine go (fun b => if b = a then some (.frz { cls := .type "list", data := .seq vs.toArray } (.lst (ns.map V.int))) else none) ?_ ?_ ?_ ?_ (fun _ => hk)
    · intro b
      by_cases hb : b = a
      · exact Or.inr ⟨_, _, if_pos hb⟩
      · exact Or.inl (if_neg hb)
    · exact .inl (.inr ⟨{ cls := .type "list", data := .seq vs.toArray }, if_pos rfl⟩)
    · intro b u z
      by_cases hb : b = a
      · cases (if_pos hb).symm.trans z
        subst hb
        exact ⟨oa, by rw [List.length_map]; exact hl, vs, _, rv, oa⟩
      · cases (if_neg hb).symm.trans z
    · intro b z
      by_cases hb : b = a
      · exact hb
      · exact absurd (if_neg hb) z
  · obtain ⟨o, hk⟩ := Option.ne_none_iff_exists'.mp hk
    have e := kx a o hk
    rw [oa] at e
    cases e
    refine go (fun _ => none) (fun _ => .inl rfl) ?_ ?_ (fun b z => absurd rfl z) (fun z => absurd rfl z)
    · exact .inr ⟨_, vs.toArray, _, hk, rfl, rfl, rfl, by rw [List.size_toArray, ← lv]; exact hl, by simpa using rv⟩
    · intro b u z
      exact nomatch (show (none : Option HO) = some u from z)
theorem walkG {l : PySem.W.OpenLaw} {n k : Nat} {q : Program} {loose : List Str} {XP : (Str → Option Value) → Heap → Prop} {YP : World → Heap → Prop} {d : DefRec} {K : Params → PySem.W.Frag} {sp : PySem.W.Frag → Sp} {x : Str}
    (hn : l.most = some n) (hn2 : n ≤ sizeLine) (hdf : d.params.defaults = []) (hr : Room k callerA) (hY : ∀ (w : World) (h : Heap), YP w h → (K w.params).In h)
    (F : ∀ (w : World) (mg : Str → Option Value) (fa : Addr) (h : Heap), (K w.params).In h → h.Ns mainGlobals mg → mg d.name = some (.ref fa) →
      ∃ fd : FuncData, (∀ (s : Shared) (u : Value), BindsTo s fd ⟨[u], []⟩ [(x, u)]) ∧ ∀ base : Heap, (K w.params).In base → base.Ns mainGlobals mg → FnG l.prog w (K w.params) mg base CX0 k fa fd [x] (sp (K w.params)))
    (hsp : ∀ (K : PySem.W.Frag) (H : Hp) (a : Addr) (ns : List Int), ns.length ≤ n → Only H → SqL K H a (ns.map V.int) → sp K [.ref a] H (fun v _ => v = .bl true) fun _ _ _ => False) :
    PySem.W.WalkO q loose XP YP l.row.toRowW d [] (fun f vs => PySem.call f vs) := by
  refine Att.attach_call hn hdf ?_
  intro w s₀ s₁ mg mb fa o pm cd doc a vs ns G Y ho hd hcd hmg hobj hints hlen hg
  obtain ⟨fd, hb, hF⟩ := F w mg fa _ (hY w _ Y) G.T.g hmg
  exact law_callG (hY w _ Y) G.T.g G.T.b G.T.builtins G.T.nolimit hg hobj hints (Nat.le_trans hlen hn2) hr hF hb (fun H hO hS => hsp (K w.params) H a ns hlen hO hS)
/-! heaps: what is kept, but for some addresses -/
def cut (l : List Addr) (H : Hp) : Hp := fun b => if b ∈ l then none else H b
def Off (l : List Addr) (H H' : Hp) : Prop := Same (cut l H) (cut l H')
theorem cut_out {l : List Addr} {H : Hp} {b : Addr} (h : b ∉ l) : cut l H b = H b := if_neg h
theorem cut_in {l : List Addr} {H : Hp} {b : Addr} (h : b ∈ l) : cut l H b = none := if_pos h
theorem cut_some {l : List Addr} {H : Hp} {b : Addr} {o : HO} (h : cut l H b = some o) : b ∉ l ∧ H b = some o := by
  by_cases e : b ∈ l
  · rw [cut_in e] at h
    cases h
  · rw [cut_out e] at h
    exact ⟨e, h⟩
theorem same_new {H : Hp} {p : Addr} (h : H p = none) (o : HO) : Same H (upd H p o) := fun b u q => by
  rw [upd_ne (ne_of_none q h)]
  exact q
theorem cut_same (l : List Addr) (H : Hp) : Same (cut l H) H := fun _ _ h => (cut_some h).2
theorem Off.refl (l : List Addr) (H : Hp) : Off l H H := Same.refl _
theorem Off.trans {l : List Addr} {H H1 H2 : Hp} (a : Off l H H1) (b : Off l H1 H2) : Off l H H2 := Same.trans a b
theorem Off.of {l : List Addr} {H H' : Hp} (s : Same H H') : Off l H H' := fun b o h => by
  obtain ⟨n, e⟩ := cut_some h
  rw [cut_out n]
  exact s b o e
theorem Off.get {l : List Addr} {H H' : Hp} (s : Off l H H') {b : Addr} {o : HO} (h : H b = some o) (n : b ∉ l) : H' b = some o := by
  have q := s b o (by rw [cut_out n]; exact h)
  exact (cut_some q).2
theorem Off.mono {l m : List Addr} {H H' : Hp} (s : Off l H H') (h : ∀ b ∈ l, b ∈ m) : Off m H H' := fun b o e => by
  obtain ⟨n, e⟩ := cut_some e
  rw [cut_out n]
  exact s.get e fun z => n (h b z)
/-- a change at an address that is not counted -/
theorem Off.put {l : List Addr} {H : Hp} {p : Addr} {o : HO} (h : p ∈ l) : Off l H (upd H p o) := fun b u e => by
  obtain ⟨n, e⟩ := cut_some e
  rw [cut_out n, upd_ne (fun z => n (by rw [z]; exact h))]
  exact e
/-- an address that was free then -/
theorem Off.free {l : List Addr} {H H' : Hp} (s : Off l H H') {b : Addr} (h : H' b = none) (n : b ∉ l) : H b = none := by
  cases q : H b with
  | none => rfl
  | some o =>
    rw [s.get q n] at h
    cases h
/-! data -/
theorem seqT_up {K : PySem.W.Frag} {H H' : Hp} {a : Addr} {xs : List V} (s : Same H H') (h : SqT K H a xs) : SqT K H' a xs := by
  rcases h with (h | ⟨o, h⟩) | h
  · exact .inl (.inl (s _ _ h))
  · exact .inl (.inr ⟨o, s _ _ h⟩)
  · exact .inr h
mutual
theorem Dp.up {K : PySem.W.Frag} {H H' : Hp} (s : Same H H') : ∀ (d : PyData) (v : V), Dp K H v d → Dp K H' v d
  | .none, _, h => by cases h; exact .non
  | .bool b, _, h => by cases h; exact .bl b
  | .int i, _, h => by cases h; exact .int i
  | .str x, _, h => by cases h; exact .str x
  | .list ds, _, h => by
    cases h with
    | lst h1 h2 => exact .lst (s.seq h1) (Dp.ups s ds _ h2)
  | .tuple ds, _, h => by
    cases h with
    | tup h1 h2 => exact .tup (seqT_up s h1) (Dp.ups s ds _ h2)
  | .dict _, _, h => by cases h
theorem Dp.ups {K : PySem.W.Frag} {H H' : Hp} (s : Same H H') : ∀ (ds : List PyData) (vs : List V), DpAll K H vs ds → DpAll K H' vs ds
  | [], _, h => by cases h; exact .nil
  | d :: ds, _, h => by
    cases h with
    | cons h1 h2 => exact .cons (Dp.up s d _ h1) (Dp.ups s ds _ h2)
end
theorem DpAll.len {K : PySem.W.Frag} {H : Hp} : ∀ {vs : List V} {ds : List PyData}, DpAll K H vs ds → vs.length = ds.length
  | _, _, .nil => rfl
  | _, _, .cons _ t => congrArg (· + 1) (DpAll.len t)
theorem DpAll.get {K : PySem.W.Frag} {H : Hp} : ∀ {vs : List V} {ds : List PyData} {i : Nat} {v : V}, DpAll K H vs ds → vs[i]? = some v → ∃ d, ds[i]? = some d ∧ Dp K H v d
  | _, _, _, _, .nil, e => by simp at e
  | _, _, 0, _, .cons h _, e => by simp at e; subst e; exact ⟨_, rfl, h⟩
  | _, _, i + 1, _, .cons _ t, e => by
    obtain ⟨d, a, b⟩ := DpAll.get (i := i) t (by simpa using e)
    exact ⟨d, by simpa using a, b⟩
theorem DpAll.app {K : PySem.W.Frag} {H : Hp} : ∀ {vs ws : List V} {ds es : List PyData}, DpAll K H vs ds → DpAll K H ws es → DpAll K H (vs ++ ws) (ds ++ es)
  | _, _, _, _, .nil, s => s
  | _, _, _, _, .cons r t, s => .cons r (DpAll.app t s)
/-- the name of a thing's type -/
def tyN : PyData → String
  | .none => "NoneType"
  | .bool _ => "bool"
  | .int _ => "int"
  | .str _ => "str"
  | .list _ => "list"
  | .tuple _ => "tuple"
  | .dict _ => "dict"
theorem tyD {K : PySem.W.Frag} {H : Hp} {v : V} {d : PyData} (h : Dp K H v d) : TyX K H v (.type (tyN d)) := by
  cases h with
  | non => exact .base .non
  | bl b => exact .base (.bl b)
  | int i => exact .base (.int i)
  | str x => exact .base (.str x)
  | lst h _ =>
    rcases h with (h | ⟨o, h⟩) | ⟨o, its, n, h, c, _⟩
    · exact .base (.lst h)
    · exact .base (.frz h)
    · exact .kList h c
  | tup h _ =>
    rcases h with (h | ⟨o, h⟩) | ⟨o, its, n, h, c, _⟩
    · exact .base (.tup h)
    · exact .fTuple h
    · exact .kTuple h c
/-- isinstance(x, T) of data -/
def rIsD (K : PySem.W.Frag) : List V → Hp → VK → Prop := fun xs H Q =>
  ∃ v d T b, xs = [v, .ty T] ∧ Dp K H v d ∧ kitB (tyN d) T = some b ∧ Q (.bl b) H
theorem call_isD {X : Cx} : CallR X (.builtin "isinstance") (rIsD X.K) := by
  intro pins s σ H xs us Q I r h
  obtain ⟨v, d, T, b, rfl, hd, hk, q⟩ := h
  exact call_isi pins s σ H _ us Q I r ⟨v, .ty T, _, _, b, rfl, .ty T, tyD hd, kit_ty hk, q⟩
/-! the box that a law draws from -/
def bx (g : Addr) (n s t : Int) : List (Key × V) := [(Sum.inr "great", .ref g), (Sum.inr "now", .int n), (Sum.inr "seed", .int s), (Sum.inr "turn", .int t)]
structure Box (H : Hp) (p g : Addr) : Prop where
  ex : ∃ n s t gs, H p = some (.dK (bx g n s t)) ∧ H g = some (.lst (List.map V.int gs)) ∧ gs.length ≤ 1000
theorem Box.ne {H : Hp} {p g : Addr} (b : Box H p g) : p ≠ g := by
  obtain ⟨n, s, t, gs, h1, h2, _⟩ := b.ex
  exact ne_of h1 h2 (by intro z; cases z)
theorem Box.off {H H' : Hp} {p g : Addr} {l : List Addr} (b : Box H p g) (h : Off l H H') (n1 : p ∉ l) (n2 : g ∉ l) : Box H' p g := by
  obtain ⟨n, s, t, gs, h1, h2, h3⟩ := b.ex
  exact ⟨n, s, t, gs, h.get h1 n1, h.get h2 n2, h3⟩
theorem Box.same {H H' : Hp} {p g : Addr} (b : Box H p g) (h : Same H H') : Box H' p g := by
  obtain ⟨n, s, t, gs, h1, h2, h3⟩ := b.ex
  exact ⟨n, s, t, gs, h _ _ h1, h _ _ h2, h3⟩
theorem kgn : ¬ ((Sum.inr "great" : Key) = (Sum.inr "now" : Key)) := by decide +kernel
theorem kgs : ¬ ((Sum.inr "great" : Key) = (Sum.inr "seed" : Key)) := by decide +kernel
theorem kgt : ¬ ((Sum.inr "great" : Key) = (Sum.inr "turn" : Key)) := by decide +kernel
theorem kns : ¬ ((Sum.inr "now" : Key) = (Sum.inr "seed" : Key)) := by decide +kernel
theorem knt : ¬ ((Sum.inr "now" : Key) = (Sum.inr "turn" : Key)) := by decide +kernel
theorem kst : ¬ ((Sum.inr "seed" : Key) = (Sum.inr "turn" : Key)) := by decide +kernel
theorem knf (a b : Key) (h : ¬ a = b) : ¬ b = a := fun z => h z.symm
section
variable (g : Addr) (n s t : Int)
theorem bx_great : valV (bx g n s t) (Sum.inr "great" : Key) = some (.ref g) := by
  simp [valV, bx]
theorem bx_now : valV (bx g n s t) (Sum.inr "now" : Key) = some (.int n) := by
  simp only [valV, bx, List.find?_cons, decide_eq_false kgn, decide_true, Option.map_some]
theorem bx_seed : valV (bx g n s t) (Sum.inr "seed" : Key) = some (.int s) := by
  simp only [valV, bx, List.find?_cons, decide_eq_false kgs, decide_eq_false kns, decide_true, Option.map_some]
theorem bx_turn : valV (bx g n s t) (Sum.inr "turn" : Key) = some (.int t) := by
  simp only [valV, bx, List.find?_cons, decide_eq_false kgt, decide_eq_false knt, decide_eq_false kst, decide_true, Option.map_some]
theorem put_now (y : Int) : putK (bx g n s t) (Sum.inr "now" : Key) (.int y) = bx g y s t := by
  simp only [putK, bx, List.any_cons, List.map_cons, List.map_nil, decide_true, Bool.true_or, Bool.or_true, if_true, if_neg kgn, if_neg (knf _ _ kns), if_neg (knf _ _ knt)]
theorem put_seed (y : Int) : putK (bx g n s t) (Sum.inr "seed" : Key) (.int y) = bx g n y t := by
  simp only [putK, bx, List.any_cons, List.map_cons, List.map_nil, decide_true, Bool.true_or, Bool.or_true, if_true, if_neg kgs, if_neg kns, if_neg (knf _ _ kst)]
theorem put_turn (y : Int) : putK (bx g n s t) (Sum.inr "turn" : Key) (.int y) = bx g n s y := by
  simp only [putK, bx, List.any_cons, List.map_cons, List.map_nil, decide_true, Bool.true_or, Bool.or_true, if_true, if_neg kgt, if_neg knt, if_neg kst]
theorem mer_box : mergeK [] (bx g n s t) = bx g n s t := by
  simp only [mergeK, bx, List.foldl_cons, List.foldl_nil, putK, List.any_nil, List.any_cons, List.nil_append, List.cons_append, decide_eq_false kgn, decide_eq_false kgs, decide_eq_false kgt, decide_eq_false kns, decide_eq_false knt, decide_eq_false kst, Bool.or_false, if_neg Bool.false_ne_true]
end
/-! data that can be printed: small ints, short texts, few nodes -/
mutual
def gd : PyData → Bool
  | .none => true
  | .bool _ => true
  | .int i => decide (i.natAbs.log2 < 1920)
  | .str x => decide (x.length ≤ 100) && x.cps.toList.all fun c => decide (c < 128)
  | .list ds => gds ds
  | .tuple ds => gds ds
  | .dict _ => false
def gds : List PyData → Bool
  | [] => true
  | d :: ds => gd d && gds ds
end
mutual
def nod : PyData → Nat
  | .list ds => 1 + nods ds
  | .tuple ds => 1 + nods ds
  | .none => 1
  | .bool _ => 1
  | .int _ => 1
  | .str _ => 1
  | .dict _ => 1
def nods : List PyData → Nat
  | [] => 0
  | d :: ds => nod d + nods ds
end
mutual
theorem gd_sh : ∀ d : PyData, gd d = true → d.showable = true ∧ d.hasDict = false
  | .none, _ => ⟨by simp only [PyData.showable], by simp only [PyData.hasDict]⟩
  | .bool _, _ => ⟨by simp only [PyData.showable], by simp only [PyData.hasDict]⟩
  | .int i, h => ⟨by simpa only [PyData.showable, gd] using h, by simp only [PyData.hasDict]⟩
  | .str _, _ => ⟨by simp only [PyData.showable], by simp only [PyData.hasDict]⟩
  | .list ds, h => by
    have q := gds_sh ds (by simpa only [gd] using h)
    exact ⟨by simpa only [PyData.showable] using q.1, by simpa only [PyData.hasDict] using q.2⟩
  | .tuple ds, h => by
    have q := gds_sh ds (by simpa only [gd] using h)
    exact ⟨by simpa only [PyData.showable] using q.1, by simpa only [PyData.hasDict] using q.2⟩
  | .dict _, h => by simp [gd] at h
theorem gds_sh : ∀ ds : List PyData, gds ds = true → PyData.showableAll ds = true ∧ PyData.hasDictAll ds = false
  | [], _ => ⟨by simp only [PyData.showableAll], by simp only [PyData.hasDictAll]⟩
  | d :: ds, h => by
    simp only [gds, Bool.and_eq_true] at h
    have q1 := gd_sh d h.1
    have q2 := gds_sh ds h.2
    exact ⟨by simp only [PyData.showableAll, q1.1, q2.1, Bool.and_self], by simp only [PyData.hasDictAll, q1.2, q2.2, Bool.or_self]⟩
end
mutual
theorem gd_sz : ∀ d : PyData, gd d = true → d.shown.length + 2 ≤ 2000 * nod d
  | .none, _ => by
    simp only [PyData.shown, nod]
    decide +kernel
  | .bool b, _ => by
    simp only [PyData.shown, nod]
    cases b <;> decide +kernel
  | .int i, h => by
    have h1 : i.natAbs.log2 < 1920 := by simpa only [gd, decide_eq_true_eq] using h
    have q := int_text_len_1921 h1
    simp only [PyData.shown, nod]
    show (Str.ofString (toString i)).length + 2 ≤ _
    omega
  | .str x, h => by
    simp only [gd, Bool.and_eq_true, decide_eq_true_eq, List.all_eq_true] at h
    have q := StrLaws.reprText_len x (fun c hc => Nat.lt_of_lt_of_le (h.2 c hc) (by decide))
    simp only [PyData.shown, nod]
    omega
  | .list ds, h => by
    have q := gds_sz ds (by simpa only [gd] using h)
    have q2 := listText_len_le (PyData.shownAll ds)
    simp only [PyData.shown, nod]
    omega
  | .tuple ds, h => by
    have q := gds_sz ds (by simpa only [gd] using h)
    have q2 := tupleText_len_le (PyData.shownAll ds)
    simp only [PyData.shown, nod]
    omega
  | .dict _, h => by simp [gd] at h
theorem gds_sz : ∀ ds : List PyData, gds ds = true → ((PyData.shownAll ds).map (·.length)).sum + 2 * (PyData.shownAll ds).length ≤ 2000 * nods ds
  | [], _ => by simp [PyData.shownAll, nods]
  | d :: ds, h => by
    simp only [gds, Bool.and_eq_true] at h
    have q1 := gd_sz d h.1
    have q2 := gds_sz ds h.2
    simp only [PyData.shownAll, nods, List.map_cons, List.sum_cons, List.length_cons]
    omega
end
theorem prn_of {d : PyData} (h : gd d = true) (hn : nod d ≤ 8000) (hd : d.depth ≤ 60) : Prn d :=
  ⟨(gd_sh d h).1, (gd_sh d h).2, hd, by
    have q := gd_sz d h
    have e : sizeLine = 16777216 := by decide
    omega⟩
theorem gds_app : ∀ ds es : List PyData, gds (ds ++ es) = (gds ds && gds es)
  | [], es => by simp [gds]
  | d :: ds, es => by simp only [List.cons_append, gds, gds_app ds es, Bool.and_assoc]
theorem nods_app : ∀ ds es : List PyData, nods (ds ++ es) = nods ds + nods es
  | [], es => by simp [nods]
  | d :: ds, es => by simp only [List.cons_append, nods, nods_app ds es, Nat.add_assoc]
theorem nod_pos : ∀ d : PyData, 1 ≤ nod d
  | .list _ => by simp only [nod]; omega
  | .tuple _ => by simp only [nod]; omega
  | .none => by simp only [nod]; omega
  | .bool _ => by simp only [nod]; omega
  | .int _ => by simp only [nod]; omega
  | .str _ => by simp only [nod]; omega
  | .dict _ => by simp only [nod]; omega
theorem nods_len : ∀ ds : List PyData, ds.length ≤ nods ds
  | [] => Nat.le_refl _
  | d :: ds => by
    have := nod_pos d
    have := nods_len ds
    simp only [nods, List.length_cons]
    omega
theorem gds_mem : ∀ {ds : List PyData} {d : PyData}, gds ds = true → d ∈ ds → gd d = true
  | _ :: _, _, h, m => by
    simp only [gds, Bool.and_eq_true] at h
    rcases List.mem_cons.mp m with e | e
    · rw [e]
      exact h.1
    · exact gds_mem h.2 e
theorem nods_mem : ∀ {ds : List PyData} {d : PyData}, d ∈ ds → nod d ≤ nods ds
  | _ :: _, _, m => by
    simp only [nods]
    rcases List.mem_cons.mp m with e | e
    · rw [e]
      omega
    · have := nods_mem e
      omega
theorem depth_mem : ∀ {ds : List PyData} {d : PyData}, d ∈ ds → d.depth ≤ PyData.depthAll ds
  | _ :: _, _, m => by
    simp only [PyData.depthAll]
    rcases List.mem_cons.mp m with e | e
    · rw [e]
      omega
    · have := depth_mem e
      omega
theorem depthAll_app : ∀ ds es : List PyData, PyData.depthAll (ds ++ es) = max (PyData.depthAll ds) (PyData.depthAll es)
  | [], es => by simp [PyData.depthAll]
  | d :: ds, es => by simp only [List.cons_append, PyData.depthAll, depthAll_app ds es, Nat.max_assoc]
/-- built-in names that the top leaves as they are -/
structure Bi (mg : Str → Option Value) : Prop where
  ii : mg "isinstance" = none
  len : mg "len" = none
  all : mg "all" = none
  str : mg "str" = none
  tup : mg "tuple" = none
  int : mg "int" = none
  bool : mg "bool" = none
  rng : mg "range" = none
  rep : mg "repr" = none
  abs : mg "abs" = none
/-! names -/
def lowOk (c : Nat) : Bool := decide (97 ≤ c) && decide (c ≤ 122)
def isNm (x : Str) : Bool := decide (1 ≤ x.length) && decide (x.length ≤ 8) && x.cps.toList.all lowOk
mutual
def isVal : PyData → Bool
  | .int _ => true
  | .str x => isNm x
  | .tuple ds => isVals ds
  | .none => false
  | .bool _ => false
  | .list _ => false
  | .dict _ => false
def isVals : List PyData → Bool
  | [] => true
  | d :: ds => isVal d && isVals ds
end
theorem isVals_app : ∀ ds es : List PyData, isVals (ds ++ es) = (isVals ds && isVals es)
  | [], es => by simp [isVals]
  | d :: ds, es => by simp only [List.cons_append, isVals, isVals_app ds es, Bool.and_assoc]
def isTup : PyData → Bool
  | .tuple _ => true
  | _ => false
def nmD : PyData → Bool
  | .str x => isNm x
  | _ => false
def inD : PyData → Bool
  | .int _ => true
  | _ => false
def isStr : PyData → Bool
  | .str _ => true
  | _ => false
def isIntB : PyData → Bool
  | .int _ => true
  | .bool _ => true
  | _ => false
def isBool : PyData → Bool
  | .bool _ => true
  | _ => false
theorem kit_tup : ∀ d : PyData, kitB (tyN d) "tuple" = some (isTup d)
  | .none => (by decide +kernel : kitB "NoneType" "tuple" = some false)
  | .bool _ => (by decide +kernel : kitB "bool" "tuple" = some false)
  | .int _ => (by decide +kernel : kitB "int" "tuple" = some false)
  | .str _ => (by decide +kernel : kitB "str" "tuple" = some false)
  | .list _ => (by decide +kernel : kitB "list" "tuple" = some false)
  | .tuple _ => (by decide +kernel : kitB "tuple" "tuple" = some true)
  | .dict _ => (by decide +kernel : kitB "dict" "tuple" = some false)
theorem kit_str : ∀ d : PyData, kitB (tyN d) "str" = some (isStr d)
  | .none => (by decide +kernel : kitB "NoneType" "str" = some false)
  | .bool _ => (by decide +kernel : kitB "bool" "str" = some false)
  | .int _ => (by decide +kernel : kitB "int" "str" = some false)
  | .str _ => (by decide +kernel : kitB "str" "str" = some true)
  | .list _ => (by decide +kernel : kitB "list" "str" = some false)
  | .tuple _ => (by decide +kernel : kitB "tuple" "str" = some false)
  | .dict _ => (by decide +kernel : kitB "dict" "str" = some false)
theorem kit_int : ∀ d : PyData, kitB (tyN d) "int" = some (isIntB d)
  | .none => (by decide +kernel : kitB "NoneType" "int" = some false)
  | .bool _ => (by decide +kernel : kitB "bool" "int" = some true)
  | .int _ => (by decide +kernel : kitB "int" "int" = some true)
  | .str _ => (by decide +kernel : kitB "str" "int" = some false)
  | .list _ => (by decide +kernel : kitB "list" "int" = some false)
  | .tuple _ => (by decide +kernel : kitB "tuple" "int" = some false)
  | .dict _ => (by decide +kernel : kitB "dict" "int" = some false)
theorem kit_bool : ∀ d : PyData, kitB (tyN d) "bool" = some (isBool d)
  | .none => (by decide +kernel : kitB "NoneType" "bool" = some false)
  | .bool _ => (by decide +kernel : kitB "bool" "bool" = some true)
  | .int _ => (by decide +kernel : kitB "int" "bool" = some false)
  | .str _ => (by decide +kernel : kitB "str" "bool" = some false)
  | .list _ => (by decide +kernel : kitB "list" "bool" = some false)
  | .tuple _ => (by decide +kernel : kitB "tuple" "bool" = some false)
  | .dict _ => (by decide +kernel : kitB "dict" "bool" = some false)
theorem one_lt (c d : Nat) : (([c] : List Nat) < [d]) ↔ c < d := by
  constructor
  · intro h
    cases h with
    | rel h => exact h
    | cons h => cases h
  · intro h
    exact .rel h
theorem cps_a : (("a" : Str)).cps.toList = [97] := by decide +kernel
theorem cps_z : (("z" : Str)).cps.toList = [122] := by decide +kernel
theorem ge_a (c : Nat) : (!decide ((⟨#[c]⟩ : Str).cps.toList < ("a" : Str).cps.toList)) = decide (97 ≤ c) := by
  rw [cps_a]
  by_cases h : 97 ≤ c
  · have : ¬ ((⟨#[c]⟩ : Str).cps.toList < [97]) := fun z => by
      have := (one_lt c 97).mp z
      omega
    rw [decide_eq_false this, decide_eq_true h]
    rfl
  · have : ((⟨#[c]⟩ : Str).cps.toList < [97]) := (one_lt c 97).mpr (by omega)
    rw [decide_eq_true this, decide_eq_false h]
    rfl
theorem le_z (c : Nat) : (!decide (("z" : Str).cps.toList < (⟨#[c]⟩ : Str).cps.toList)) = decide (c ≤ 122) := by
  rw [cps_z]
  by_cases h : c ≤ 122
  · have : ¬ (([122] : List Nat) < (⟨#[c]⟩ : Str).cps.toList) := fun z => by
      have := (one_lt 122 c).mp z
      omega
    rw [decide_eq_false this, decide_eq_true h]
    rfl
  · have : (([122] : List Nat) < (⟨#[c]⟩ : Str).cps.toList) := (one_lt 122 c).mpr (by omega)
    rw [decide_eq_true this, decide_eq_false h]
    rfl
theorem gd_str {x : Str} (h : gd (.str x) = true) : x.length ≤ 100 := by
  simp only [gd, Bool.and_eq_true, decide_eq_true_eq] at h
  exact h.1
theorem len_cps (x : Str) : x.length = x.cps.size := rfl
theorem cps_at {x : Str} {i c : Nat} (h : x.cps[i]? = some c) : x.cps.toList[i]? = some c := by simpa using h
/-- what is found going along a list -/
theorem take_snoc {α β : Type} (f : α → β) {l : List α} {i : Nat} {a : α} (h : l[i]? = some a) : (l.take (i + 1)).map f = (l.take i).map f ++ [f a] := by
  rw [List.take_add_one, h, List.map_append]
  rfl
theorem all_map {α : Type} (f : α → Bool) : ∀ l : List α, (l.map f).all id = l.all f
  | [] => rfl
  | a :: l => by simp only [List.map_cons, List.all_cons, all_map f l, id]
/-! promises of those that only look -/
def spLook (K : PySem.W.Frag) (ok : PyData → Prop) (g : PyData → V) : Sp := fun vs H Q _ => ∃ v d, vs = [v] ∧ Dp K H v d ∧ ok d ∧ ∀ H', Same H H' → Q (g d) H'
theorem DpAll.unapp {K : PySem.W.Frag} {H : Hp} : ∀ {xs ys : List V} {ds : List PyData}, DpAll K H (xs ++ ys) ds → ∃ d1 d2, ds = d1 ++ d2 ∧ DpAll K H xs d1 ∧ DpAll K H ys d2
  | [], _, ds, h => ⟨[], ds, rfl, .nil, h⟩
  | x :: xs, _, _, h => by
    cases h with
    | cons h1 h2 =>
      obtain ⟨d1, d2, e, a, b⟩ := DpAll.unapp (xs := xs) h2
      exact ⟨_ :: d1, d2, by rw [e]; rfl, .cons h1 a, b⟩
theorem DpAll.last {K : PySem.W.Frag} {H : Hp} {xs : List V} {ds : List PyData} (h : DpAll K H xs ds) (hx : xs ≠ []) : ∃ xs' v ds' d, xs = xs' ++ [v] ∧ ds = ds' ++ [d] ∧ DpAll K H xs' ds' ∧ Dp K H v d := by
  have e := (List.dropLast_concat_getLast hx).symm
  rw [e] at h
  obtain ⟨d1, d2, e2, a, b⟩ := DpAll.unapp h
  cases b with
  | cons b1 b2 =>
    cases b2
    exact ⟨_, _, d1, _, e, e2, a, b1⟩
theorem last_at (xs : List V) (v : V) : (xs ++ [v])[(xs ++ [v]).length - 1]? = some v := by simp
theorem drop_last (xs : List V) (v : V) : (xs ++ [v]).dropLast = xs := by simp
theorem tup_of {K : PySem.W.Frag} {H : Hp} {v : V} {d : PyData} (h : Dp K H v d) (ht : isTup d = true) : ∃ a xs ds, v = .ref a ∧ d = .tuple ds ∧ SqT K H a xs ∧ DpAll K H xs ds := by
  cases h with
  | tup h1 h2 => exact ⟨_, _, _, rfl, rfl, h1, h2⟩
  | non => cases ht
  | bl b => cases ht
  | int i => cases ht
  | str x => cases ht
  | lst h1 h2 => cases ht
theorem isVal_no {d : PyData} (h1 : isTup d = false) : isVal d = (inD d || nmD d) := by
  cases d with
  | tuple ds => exact absurd (show true = false from h1) (by decide)
  | str x => simp only [isVal, inD, nmD, Bool.false_or]
  | int i => simp only [isVal, inD, nmD, Bool.true_or]
  | none => simp only [isVal, inD, nmD, Bool.or_self]
  | bool b => simp only [isVal, inD, nmD, Bool.or_self]
  | list b => simp only [isVal, inD, nmD, Bool.or_self]
  | dict b => simp only [isVal, inD, nmD, Bool.or_self]
/-- going along anything: what one turn does is B -/
theorem along {J : It} {n : Nat} {G : Hp → Prop} {Y : Nat → Hp → V → Hp → Prop} (w : Walk J n G Y) {B : (Hp → Prop) → V → Hp → Prop} {H0 : Hp} {Qd : Hp → Prop} (Pv : Nat → Hp → Prop) (h0 : Pv 0 H0) (hG : ∀ i H, i ≤ n → Pv i H → G H)
    (hs : ∀ i x H H', i < n → Pv i H → Y i H x H' → B (Pv (i + 1)) x H') (hd : ∀ H, Pv n H → Qd H) :
    ∃ W : Nat → Nat → Hp → Prop, (∃ m, W 0 m H0) ∧ ∀ i m H, W i m H → (J.stop i H ∧ Qd H) ∨ (J.go i H ∧ ∃ Nx : Hp → Prop, (∀ H', Nx H' → ∃ m', m' < m ∧ W (i + 1) m' H') ∧ ∀ x H', J.yld i H x H' → B Nx x H') := by
  refine ⟨fun i m H => i ≤ n ∧ m + i = n ∧ Pv i H, ⟨n, Nat.zero_le _, rfl, h0⟩, ?_⟩
  rintro i m H ⟨hi, hm, p⟩
  have gg := hG i H hi p
  by_cases lt : i < n
  · refine Or.inr ⟨w.goes i H lt gg, Pv (i + 1), ?_, ?_⟩
    · intro H' p'
      exact ⟨m - 1, by omega, by omega, by omega, p'⟩
    · intro x H' y
      exact hs i x H H' lt p (w.yields i H x H' lt gg y)
  · have e : i = n := by omega
    subst e
    exact Or.inl ⟨w.stops H gg, hd H p⟩
mutual
def dep : PyData → Nat
  | .tuple ds => 1 + deps ds
  | .none => 0
  | .bool _ => 0
  | .int _ => 0
  | .str _ => 0
  | .list _ => 0
  | .dict _ => 0
def deps : List PyData → Nat
  | [] => 0
  | d :: ds => max (dep d) (deps ds)
end
def kids : PyData → List PyData
  | .tuple ds => ds
  | _ => []
theorem deps_app : ∀ ds es : List PyData, deps (ds ++ es) = max (deps ds) (deps es)
  | [], es => by simp [deps]
  | d :: ds, es => by simp only [List.cons_append, deps, deps_app ds es, Nat.max_assoc]
theorem dep_no {d : PyData} (h : isTup d = false) : dep d = 0 := by
  cases d with
  | tuple ds => exact absurd (show true = false from h) (by decide)
  | str x => simp only [dep]
  | int i => simp only [dep]
  | none => simp only [dep]
  | bool b => simp only [dep]
  | list b => simp only [dep]
  | dict b => simp only [dep]
theorem deps_filter : ∀ ds : List PyData, deps (ds.filter isTup) = deps ds
  | [] => rfl
  | d :: ds => by
    cases h : isTup d with
    | true => simp only [List.filter_cons, h, if_true, deps, deps_filter ds]
    | false => simp only [List.filter_cons, h, Bool.false_eq_true, if_false, deps, deps_filter ds, dep_no h, Nat.zero_max]
theorem deps_kids : ∀ ds : List PyData, (∀ d ∈ ds, isTup d = true) → ds ≠ [] → deps ds = 1 + deps (ds.flatMap kids)
  | [], _, h => absurd rfl h
  | d :: ds, h, _ => by
    have hd := h d List.mem_cons_self
    have e1 : dep d = 1 + deps (kids d) := by
      cases d with
      | tuple es => simp only [dep, kids]
      | _ => cases hd
    rw [List.flatMap_cons, deps_app]
    simp only [deps]
    by_cases e : ds = []
    · subst e
      simp only [deps, List.flatMap_nil, e1]
      omega
    · have ih := deps_kids ds (fun x hx => h x (List.mem_cons_of_mem _ hx)) e
      rw [ih, e1]
      omega
theorem nods_kids : ∀ ds : List PyData, nods (ds.flatMap kids) ≤ nods ds
  | [] => Nat.le_refl _
  | d :: ds => by
    rw [List.flatMap_cons, nods_app]
    have ih := nods_kids ds
    have e : nods (kids d) ≤ nod d := by
      cases d <;> simp only [kids, nods, nod] <;> omega
    simp only [nods]
    omega
theorem nods_filter (p : PyData → Bool) : ∀ ds : List PyData, nods (ds.filter p) ≤ nods ds
  | [] => Nat.le_refl _
  | d :: ds => by
    have ih := nods_filter p ds
    have := nod_pos d
    cases h : p d with
    | true =>
      simp only [List.filter_cons, h, if_true, nods]
      omega
    | false =>
      simp only [List.filter_cons, h, Bool.false_eq_true, if_false, nods]
      omega
theorem nods_take (ds : List PyData) (i : Nat) : nods (ds.take i) ≤ nods ds := by
  have e := congrArg nods (List.take_append_drop i ds)
  rw [nods_app] at e
  omega
theorem get_take {α : Type} {l : List α} {i : Nat} {a : α} (h : l[i]? = some a) : l.take (i + 1) = l.take i ++ [a] := by
  rw [List.take_add_one, h]
  rfl
theorem call_isK {X : Cx} {K : PySem.W.Frag} (h : X.K = K) : CallR X (.builtin "isinstance") (rIsD K) := by
  subst h
  exact call_isD
theorem pi_tupK {X : Cx} {K : PySem.W.Frag} {tg l : Expr} {tl : TE} (h : X.K = K) (hl : PE X l tl) : PI X tg l (iTup K tl) := by
  subst h
  exact pi_tup hl
theorem pi_listK {X : Cx} {K : PySem.W.Frag} {tg l : Expr} {tl : TE} (h : X.K = K) (hl : PE X l tl) : PI X tg l (iList K tl) := by
  subst h
  exact pi_list hl
theorem b_ii : bootBuiltins "isinstance" = some (.builtin "isinstance") := by decide +kernel
theorem b_tup : bootBuiltins "tuple" = some (.type "tuple") := by decide +kernel
theorem b_all : bootBuiltins "all" = some (.builtin "all") := by decide +kernel
theorem b_str : bootBuiltins "str" = some (.type "str") := by decide +kernel
theorem b_int : bootBuiltins "int" = some (.type "int") := by decide +kernel
theorem b_bool : bootBuiltins "bool" = some (.type "bool") := by decide +kernel
theorem b_abs : bootBuiltins "abs" = some (.builtin "abs") := by decide +kernel
theorem b_rep : bootBuiltins "repr" = some (.builtin "repr") := by decide +kernel
theorem b_max : bootBuiltins "max" = some (.builtin "max") := by decide +kernel
theorem b_list : bootBuiltins "list" = some (.type "list") := by decide +kernel
/-! short texts of plain signs -/
structure Sm (n : Nat) (x : Str) : Prop where
  le : x.length ≤ n
  lo : ∀ c ∈ x.cps.toList, c < 128
theorem Sm.gd {n : Nat} {x : Str} (h : Sm n x) (hn : n ≤ 100) : Rl.gd (.str x) = true := by
  have h1 := h.le
  have h3 : x.length ≤ 100 := by omega
  have h2 : (x.cps.toList.all fun c => decide (c < 128)) = true := List.all_eq_true.mpr fun c hc => decide_eq_true (h.lo c hc)
  simp only [Rl.gd, decide_eq_true h3, h2, Bool.and_self]
theorem Sm.mono {n m : Nat} {x : Str} (h : Sm n x) (hn : n ≤ m) : Sm m x := ⟨Nat.le_trans h.le hn, h.lo⟩
theorem Sm.fits {n : Nat} {x : Str} (h : Sm n x) (hn : n ≤ 1000) : x.length ≤ sizeLine := Nat.le_trans h.le (Nat.le_of_lt (small1000 hn))
theorem app_cps (x y : Str) : (x ++ y).cps.toList = x.cps.toList ++ y.cps.toList := by
  show (x.cps ++ y.cps).toList = _
  simp
theorem Sm.app {n m : Nat} {x y : Str} (h : Sm n x) (g : Sm m y) : Sm (n + m) (x ++ y) := by
  refine ⟨?_, fun c hc => ?_⟩
  · rw [Str.length_append]
    have := h.le
    have := g.le
    omega
  · rw [app_cps] at hc
    rcases List.mem_append.mp hc with z | z
    · exact h.lo c z
    · exact g.lo c z
theorem Sm.cut {n : Nat} {x : Str} (h : Sm n x) (lo hi : Option Int) : Sm n (cutS x lo hi) := by
  refine ⟨Nat.le_trans (cutS_length x lo hi) h.le, fun c hc => h.lo c ?_⟩
  unfold cutS at hc
  exact List.mem_of_mem_drop (List.mem_of_mem_take (by simpa using hc))
theorem Sm.up {n : Nat} {x : Str} (h : Sm n x) : Sm n (Txt.upper x) := by
  rw [upper_ascii h.lo]
  refine ⟨?_, fun c hc => ?_⟩
  · have := h.le
    show (x.cps.map up1).size ≤ n
    rw [Array.size_map]
    exact this
  · rw [Array.toList_map] at hc
    obtain ⟨b, hb, rfl⟩ := List.mem_map.mp hc
    have := h.lo b hb
    unfold up1
    split <;> omega
theorem Sm.of {x : Str} {n : Nat} (h : (decide (x.length ≤ n) && x.cps.toList.all fun c => decide (c < 128)) = true) : Sm n x := by
  rw [Bool.and_eq_true] at h
  exact ⟨of_decide_eq_true h.1, fun c hc => of_decide_eq_true (List.all_eq_true.mp h.2 c hc)⟩
theorem Sm.join : ∀ (ys : List Str), (∀ y ∈ ys, Sm 1 y) → Sm ys.length (Txt.join "" ys) := by
  intro ys h
  rw [show Txt.join "" ys = Str.join "" ys from StrLaws.glued_eq_join "" ys]
  refine ⟨?_, fun c hc => ?_⟩
  · have q := StrLaws.join_length_le "" ys
    have e0 : (("" : Str)).length = 0 := by decide +kernel
    have s : (ys.map (·.length)).sum ≤ ys.length := by
      clear q
      induction ys with
      | nil => exact Nat.le_refl _
      | cons y r ih =>
        have h1 := (h y List.mem_cons_self).le
        have h2 := ih fun z hz => h z (List.mem_cons_of_mem _ hz)
        simp only [List.map_cons, List.sum_cons, List.length_cons]
        omega
    rw [e0] at q
    exact Nat.le_trans q (by simpa using s)
  · have q := (mem_join "" c ys).mp hc
    rcases q with ⟨t, ht, hc⟩ | ⟨_, hc⟩
    · exact (h t ht).lo c hc
    · have e0 : (("" : Str)).cps.toList = [] := by decide +kernel
      rw [e0] at hc
      cases hc
mutual
theorem gd_lay : ∀ d : PyData, gd d = true → d.canLay0 = true
  | .none, _ => by simp only [PyData.canLay0]
  | .bool _, _ => by simp only [PyData.canLay0]
  | .int _, _ => by simp only [PyData.canLay0]
  | .str x, h => by
    simp only [gd, Bool.and_eq_true, List.all_eq_true, decide_eq_true_eq] at h
    simp only [PyData.canLay0, PyData.strOk, Array.all_eq_true]
    intro i hi
    exact decide_eq_true (Nat.lt_trans (h.2 _ (by simp)) (by decide))
  | .list ds, h => by
    simp only [PyData.canLay0]
    exact gds_lay ds (by simpa only [gd] using h)
  | .tuple ds, h => by
    simp only [PyData.canLay0]
    exact gds_lay ds (by simpa only [gd] using h)
  | .dict _, h => by simp [gd] at h
theorem gds_lay : ∀ ds : List PyData, gds ds = true → PyData.canLayAll0 ds = true
  | [], _ => by simp only [PyData.canLayAll0]
  | d :: ds, h => by
    simp only [gds, Bool.and_eq_true] at h
    simp only [PyData.canLayAll0, gd_lay d h.1, gds_lay ds h.2, Bool.and_self]
end
theorem shaped_of {d : PyData} (h : gd d = true) (hd : d.depth ≤ 64) : SeqAt.shaped d = true := by
  show (d.canLay0 && decide (d.depth ≤ 64)) = true
  rw [gd_lay d h, decide_eq_true hd]
  rfl
theorem Box.notin {H : Hp} {p g a : Addr} (b : Box H p g) (h : H a = none) : a ∉ [p, g] := by
  obtain ⟨n, s, t, gs, h1, h2, _⟩ := b.ex
  intro z
  rcases List.mem_cons.mp z with e | z
  · rw [e, h1] at h
    cases h
  · rcases List.mem_cons.mp z with e | z
    · rw [e, h2] at h
      cases h
    · cases z
/-- all of these are tracked -/
def Tr (l : List Addr) (H : Hp) : Prop := ∀ b ∈ l, H b ≠ none
theorem off_new {l : List Addr} {H H' : Hp} {a : Addr} {o : HO} (h : Off l H H') (n : a ∉ l) (hn : H a = none) : Off l H (upd H' a o) := by
  intro b u e
  obtain ⟨nb, e⟩ := cut_some e
  rw [cut_out nb, upd_ne (ne_of_none e hn)]
  exact h.get e nb
theorem Box.put {H : Hp} {p g a : Addr} {o : HO} (b : Box H p g) (n : a ∉ [p, g]) : Box (upd H a o) p g := by
  obtain ⟨x, s, t, gs, h1, h2, h3⟩ := b.ex
  exact ⟨x, s, t, gs, by rw [upd_ne (fun z => n (by simp [← z]))]; exact h1, by rw [upd_ne (fun z => n (by simp [← z]))]; exact h2, h3⟩
theorem few {n : Nat} (h : n ≤ 1000) : n ≤ sizeLine := Nat.le_of_lt (small1000 h)
theorem cut_new {l : List Addr} {H : Hp} {a : Addr} {o : HO} (h : H a = none) : Same (cut l H) (cut l (upd H a o)) := Off.of (same_new h o)
theorem Tr.go {l m : List Addr} {H H' : Hp} (t : Tr l H) (o : Off m H H') (hm : ∀ b ∈ m, H' b ≠ none) : Tr l H' := fun b hb => by
  by_cases e : b ∈ m
  · exact hm b e
  · intro z
    exact t b hb (o.free z e)
theorem Box.tr {H : Hp} {p g : Addr} (b : Box H p g) : H p ≠ none ∧ H g ≠ none := by
  obtain ⟨x, s, t, gs, h1, h2, _⟩ := b.ex
  constructor
  · rw [h1]
    exact fun z => nomatch z
  · rw [h2]
    exact fun z => nomatch z
theorem ne_mem {l : List Addr} {a b : Addr} (n : a ∉ l) (h : b ∈ l) : b ≠ a := fun e => n (by rw [← e]; exact h)
theorem few2 {n : Nat} (h : n ≤ 100000) : n ≤ sizeLine := Nat.le_trans h (by decide)
theorem Tr.out {l : List Addr} {H : Hp} (t : Tr l H) {a : Addr} (h : H a = none) : a ∉ l := fun z => t a z h
theorem Tr.same {l : List Addr} {H H' : Hp} (t : Tr l H) (s : Same H H') : Tr l H' := fun b hb z => by
  cases q : H b with
  | none => exact t b hb q
  | some o =>
    rw [s b o q] at z
    cases z
theorem seqT_cut {K : PySem.W.Frag} {l : List Addr} {H : Hp} {a : Addr} {xs : List V} (h : SqT K (cut l H) a xs) : SqT K H a xs := seqT_up (cut_same l H) h
theorem cutV_all (xs : List V) (lo hi : Option Int) (h : HT.sIx xs.length 0 lo = 0 ∧ HT.sIx xs.length xs.length hi = xs.length) : cutV xs lo hi = xs := by
  unfold cutV
  rw [h.1, h.2]
  simp
/-- t + u, what comes of it, apart from the addresses l -/
def rCatU (K : PySem.W.Frag) : R2 := fun x y H Q => ∃ a b xs ys l, x = .ref a ∧ y = .ref b ∧ SqT K (cut l H) a xs ∧ SqT K (cut l H) b ys ∧ Tr l H ∧ xs.length + ys.length ≤ sizeLine ∧
  ∀ c H', Same H H' → SqT K (cut l H') c (xs ++ ys) → Q (.ref c) H'
theorem op_catU {X : Cx} : OpR X (binaryOp .Add) (rCatU X.K) := by
  intro pins s σ H x y v u Q I rx ry h
  obtain ⟨a, b, xs, ys, l, rfl, rfl, ha, hb, tl, hz, q⟩ := h
  refine op_catA pins s σ H _ _ v u Q I rx ry ⟨a, b, xs, ys, rfl, rfl, seqT_cut ha, seqT_cut hb, hz, ?_, ?_, ?_⟩
  · intro e
    exact q b H (Same.refl H) (by rw [e]; exact hb)
  · intro _ e
    exact q a H (Same.refl H) (by rw [e, List.append_nil]; exact ha)
  · intro _ _ c hc
    exact q c _ (same_new hc _) (.inl (.inl (by rw [cut_out (tl.out hc)]; exact upd_same)))
def rSlU (K : PySem.W.Frag) : V → Option Int → Option Int → Hp → VK → Prop := fun x lo hi H Q => ∃ a xs l, x = .ref a ∧ SqT K (cut l H) a xs ∧ Tr l H ∧
  ∀ c H', Same H H' → SqT K (cut l H') c (cutV xs lo hi) → Q (.ref c) H'
theorem sl_tupU {X : Cx} : SlR X (rSlU X.K) := by
  intro pins s σ H x v vl vu lo hi sl Q I rx hs pl pu h
  obtain ⟨a, xs, l, rfl, ha, tl, q⟩ := h
  refine sl_tupA pins s σ H _ v vl vu lo hi sl Q I rx hs pl pu ⟨a, xs, rfl, seqT_cut ha, ?_, ?_⟩
  · intro e
    exact q a H (Same.refl H) (by rw [cutV_all xs lo hi e]; exact ha)
  · intro _ c hc
    exact q c _ (same_new hc _) (.inl (.inl (by rw [cut_out (tl.out hc)]; exact upd_same)))
theorem cutV_take (xs : List V) {r : Int} (h0 : 0 ≤ r) (h : r ≤ (xs.length : Int)) : cutV xs none (some r) = xs.take r.toNat := by
  obtain ⟨n, rfl⟩ := Int.eq_ofNat_of_zero_le h0
  unfold cutV
  rw [HT.sIx_none, HT.sIx_nat]
  have : min n xs.length = n := by omega
  rw [this]
  rfl
theorem cutV_drop (xs : List V) {r : Int} (h0 : 0 ≤ r) (h : r ≤ (xs.length : Int)) : cutV xs (some r) none = xs.drop r.toNat := by
  obtain ⟨n, rfl⟩ := Int.eq_ofNat_of_zero_le h0
  unfold cutV
  rw [HT.sIx_none, HT.sIx_nat]
  have : min n xs.length = n := by omega
  rw [this]
  exact List.take_of_length_le (by rw [List.length_drop]; exact Nat.le_refl _)
/-! own classes: ==, !=, str, repr by the class's own defs -/
section
variable {X : Cx} {pins : List (Addr × Obj)} {σ : L2.St} {H : Hp} {s : Shared}
theorem run_at {A' : Around} {k : Nat} {f : Addr} {fd : FuncData} {ps : List Str} {sp : Sp} {us : List Value} {vs : List V} {Q : VK} {E' : Value → Shared → Prop}
    (F : FnOk X.prog X.w X.K X.mg X.base CX0 k f fd ps sp) (hr : Room k A') (ee : Env0 X.prog X.w X.K X.mg X.base A' X.stack s H) (hb : Binds X.K fd ps []) (I : Inv X pins σ H s) (r : Vals vs us) (h : sp vs H Q E0) :
    wpAny (model X.prog X.w) A' (call (.ref f) us) (EP X pins σ Q) E' s := by
  have hl : us.length = ps.length := r.length.symm.trans (F.len _ _ _ _ h)
  have bd := hb s us I.kIn (by rw [List.append_nil]; exact hl)
  rw [List.append_nil] at bd
  refine wpAny_call (codeAny_mono (F.run A' X.stack s H ⟨us, []⟩ us vs Q E0 hr ee bd r h) ?_)
  intro x t hq
  cases x with
  | error z => exact False.elim hq
  | ok fl =>
    cases fl with
    | ret u => exact I.after hq
    | next => exact False.elim hq
    | brk => exact False.elim hq
    | cont => exact False.elim hq
theorem dp_type {v : V} {d : PyData} {u : Value} (I : Inv X pins σ H s) (h : Dp X.K H v d) (r : RelV v u) : s.TypeIs u (tyN d) := by
  cases h with
  | non => cases r; rfl
  | bl b => cases r; rfl
  | int i => obtain ⟨t, rfl⟩ := r; rfl
  | str x => obtain ⟨t, rfl⟩ := r; rfl
  | lst h1 h2 =>
    cases r
    obtain ⟨its, _, ⟨o, n, ho, hc, _, _⟩, _⟩ := I.list h1
    exact ⟨o, ho, hc⟩
  | tup h1 h2 =>
    cases r
    obtain ⟨its, _, ⟨o, ho, hc, _⟩, _⟩ := I.tuple h1
    exact ⟨o, ho, hc⟩
theorem sub_looks {K : PySem.W.Frag} {h : Heap} {t c : Value} {b : Bool} (X : K.In h) (hk : PySem.W.kitOne K t c = some b) (hn : (t == c) = false) (M : Model) : PySem.W.Looks M h (isSubtype t c) b := by
  unfold PySem.W.kitOne at hk
  rw [hn] at hk
  exact (PySem.W.kit_cls X (by simpa using hk)).2.2
end
/-- what an own class says of its special names, and that built-in data are none of it -/
structure OwnC (K : PySem.W.Frag) (C fE : Addr) : Prop where
  c : C8.InsC K C
  eq : Meth K C "__eq__" fE
  ne : PySem.W.findIn K (.ref C) "__ne__" = some (some (.builtin "object.__ne__"))
  k1 : PySem.W.kitOne K (.type "NoneType") (.ref C) = some false
  k2 : PySem.W.kitOne K (.type "bool") (.ref C) = some false
  k3 : PySem.W.kitOne K (.type "int") (.ref C) = some false
  k4 : PySem.W.kitOne K (.type "str") (.ref C) = some false
  k5 : PySem.W.kitOne K (.type "list") (.ref C) = some false
  k6 : PySem.W.kitOne K (.type "tuple") (.ref C) = some false
  j1 : PySem.W.kitOne K (.ref C) (.type "NoneType") = some false
  j2 : PySem.W.kitOne K (.ref C) (.type "bool") = some false
  j3 : PySem.W.kitOne K (.ref C) (.type "int") = some false
  j4 : PySem.W.kitOne K (.ref C) (.type "str") = some false
  j5 : PySem.W.kitOne K (.ref C) (.type "list") = some false
  j6 : PySem.W.kitOne K (.ref C) (.type "tuple") = some false
theorem OwnC.of {K : PySem.W.Frag} {C fE : Addr} (o : OwnC K C fE) {H : Hp} {v : V} {d : PyData} (h : Dp K H v d) : PySem.W.kitOne K (.type (tyN d)) (.ref C) = some false ∧ PySem.W.kitOne K (.ref C) (.type (tyN d)) = some false := by
  cases h with
  | non => exact ⟨o.k1, o.j1⟩
  | bl b => exact ⟨o.k2, o.j2⟩
  | int i => exact ⟨o.k3, o.j3⟩
  | str x => exact ⟨o.k4, o.j4⟩
  | lst h1 h2 => exact ⟨o.k5, o.j5⟩
  | tup h1 h2 => exact ⟨o.k6, o.j6⟩
section
variable {X : Cx} {C fE : Addr} {k : Nat} {fd : FuncData} {sp : Sp}
theorem inst_at {pins : List (Addr × Obj)} {σ : L2.St} {H : Hp} {s : Shared} {a dx : Addr} {fs : List (Str × V)} (I : Inv X pins σ H s) (ha : H a = some (.ins C dx fs)) : ∃ ox od, PySem.W.InstAt s.heap a ox C od := by
  obtain ⟨mA, O, _⟩ := ins_get I.hok ha
  obtain ⟨od, J, _⟩ := O.look
  exact ⟨_, od, J⟩
/-- x == y, x of the class: its own __eq__ tells -/
def rEqL (C : Addr) (sp : Sp) (K : PySem.W.Frag) : R2 := fun x y H Q => ∃ a dx fs, x = .ref a ∧ H a = some (.ins C dx fs) ∧ ((∃ d, Dp K H y d) ∨ ∃ b dy gs, y = .ref b ∧ H b = some (.ins C dy gs)) ∧
  sp [x, y] H (fun v H' => ∃ b, v = .bl b ∧ Q (.bl b) H') E0
theorem op_eqL (O : OwnC X.K C fE) (F : FnOk X.prog X.w X.K X.mg X.base CX0 k fE fd ["self", "other"] sp) (hb : Binds X.K fd ["self", "other"] []) (hr : Room k X.A) : OpR X (compareOp .Eq) (rEqL C sp X.K) := by
  intro pins s σ H x y v u Q I rx ry h
  obtain ⟨a, dx, fs, rfl, ha, hy, q⟩ := h
  cases (show v = Value.ref a from rx)
  obtain ⟨ox, od, J⟩ := inst_at I ha
  have run := run_at (E' := X.xe) F hr I.env0 hb I (.cons rx (.cons ry .nil)) q
  have fin : wpAny (model X.prog X.w) X.A (tryCompare (.ref a) (Str.ofString "__eq__") u) (fun r t => ∃ b, r = some (Value.bool b) ∧ EP X pins σ Q (.bool b) t) X.xe s := by
    unfold tryCompare
    refine wpAny_bind (PySem.W.ifBound_K I.kIn J O.eq.at_ O.eq.fn (wpAny_mono run (fun r t hq => ?_) fun _ _ z => z))
    obtain ⟨v', H', I', rv, b, rfl, q'⟩ := hq
    cases (show r = Value.bool b from rv)
    exact wpAny_pure ⟨b, rfl, .bl b, H', I', rfl, q'⟩
  show wpAny _ _ (richCompare .Eq (.ref a) u) _ _ _
  unfold richCompare
  simp only [oneThing_ref]
  refine wpAny_holding ?_
  refine wpAny_bind (wpAny_cRoomFor hr.units0 ?_)
  refine wpAny_bind (J.type.here ?_)
  rcases hy with ⟨d, hd⟩ | ⟨b, dy, gs, rfl, hb2⟩
  · have ty := dp_type I hd ry
    have kk := O.of hd
    refine wpAny_bind (wpAny_typeOf ty ?_)
    have ne : (Value.ref C != Value.type (tyN d)) = true := rfl
    simp only [ne, if_true]
    refine wpAny_bind ((sub_looks I.kIn kk.1 rfl _).here ?_)
    simp only [Bool.false_eq_true, if_false]
    refine wpAny_bind (m := tryCompare (.ref a) (Str.ofString "__eq__") u) (wpAny_mono fin (fun r t hq => ?_) fun _ _ z => z)
    obtain ⟨b, rfl, hq⟩ := hq
    exact wpAny_pure hq
  · cases (show u = Value.ref b from ry)
    obtain ⟨oy, oe, J2⟩ := inst_at I hb2
    refine wpAny_bind (J2.type.here ?_)
    have ne : (Value.ref C != Value.ref C) = false := by simp
    simp only [ne, Bool.false_eq_true, if_false]
    refine wpAny_bind (wpAny_pure ?_)
    simp only [Bool.false_eq_true, if_false]
    refine wpAny_bind (m := tryCompare (.ref a) (Str.ofString "__eq__") (.ref b)) (wpAny_mono fin (fun r t hq => ?_) fun _ _ z => z)
    obtain ⟨b, rfl, hq⟩ := hq
    exact wpAny_pure hq
end
open AutoSeq1 (wpAny_loadPart')
/-! == of built-in data and an instance: the data decline -/
abbrev plainObj (C : Addr) (dd : Option Addr) (sl : Array (Option Value)) : Obj := { cls := .ref C, dict := dd, data := .plain, slots := sl }
theorem str_declines (b : Str) (u : Tok) (l C : Addr) (dd : Option Addr) (sl : Array (Option Value)) :
    Meets (Builtin.«str.__eq__» ⟨[.str b u, .ref l], []⟩) (fun _ R s => s.heap.get? l = some (plainObj C dd sl) ∧ R (.ok (.ret .notImplemented)) s) :=
  .of_wp fun prog w A R s h => by
    obtain ⟨hp, g, d, tk, os⟩ := s
    obtain ⟨hl, h⟩ := h
    wp_walk using wpAny_loadPart' hl, wpAny_load hl
    exact ⟨_, rfl, h⟩
theorem int_declines (b : Int) (u : Tok) (l C : Addr) (dd : Option Addr) (sl : Array (Option Value)) :
    Meets (Builtin.«int.__eq__» ⟨[.int b u, .ref l], []⟩) (fun _ R s => s.heap.get? l = some (plainObj C dd sl) ∧ R (.ok (.ret .notImplemented)) s) :=
  .of_wp fun prog w A R s h => by
    obtain ⟨hp, g, d, tk, os⟩ := s
    obtain ⟨hl, h⟩ := h
    wp_walk using wpAny_loadPart' hl, wpAny_load hl
    exact ⟨_, rfl, h⟩
theorem bool_declines (b : Bool) (l C : Addr) (dd : Option Addr) (sl : Array (Option Value)) :
    Meets (Builtin.«int.__eq__» ⟨[.bool b, .ref l], []⟩) (fun _ R s => s.heap.get? l = some (plainObj C dd sl) ∧ R (.ok (.ret .notImplemented)) s) :=
  .of_wp fun prog w A R s h => by
    obtain ⟨hp, g, d, tk, os⟩ := s
    obtain ⟨hl, h⟩ := h
    wp_walk using wpAny_loadPart' hl, wpAny_load hl
    exact ⟨_, rfl, h⟩
theorem sub_wp {M : Model} {A : Around} {E : Value → Shared → Prop} {s : Shared} {c t : Value} {b : Bool} {Q : Bool → Shared → Prop} (h : ∀ M, PySem.W.Looks M s.heap (isSubtype c t) b) (q : Q b s) : wpAny M A (isSubtype c t) Q E s := (h M).here q
theorem list_declines (a l C : Addr) (dd : Option Addr) (sl : Array (Option Value)) (o : Obj) :
    Meets (Builtin.«list.__eq__» ⟨[.ref a, .ref l], []⟩) (fun _ R s => s.heap.get? a = some o ∧ s.heap.get? l = some (plainObj C dd sl) ∧ (∀ M, PySem.W.Looks M s.heap (isSubtype (.ref C) (.type "list")) false) ∧ R (.ok (.ret .notImplemented)) s) :=
  .of_wp fun prog w A R s h => by
    obtain ⟨hp, g, d, tk, os⟩ := s
    obtain ⟨ha, hl, hs, h⟩ := h
    wp_walk using wpAny_loadPart' hl, wpAny_load hl, sub_wp hs
    exact ⟨_, rfl, h⟩
theorem tuple_declines (a l C : Addr) (dd : Option Addr) (sl : Array (Option Value)) (o : Obj) :
    Meets (Builtin.«tuple.__eq__» ⟨[.ref a, .ref l], []⟩) (fun _ R s => s.heap.get? a = some o ∧ s.heap.get? l = some (plainObj C dd sl) ∧ (∀ M, PySem.W.Looks M s.heap (isSubtype (.ref C) (.type "tuple")) false) ∧ R (.ok (.ret .notImplemented)) s) :=
  .of_wp fun prog w A R s h => by
    obtain ⟨hp, g, d, tk, os⟩ := s
    obtain ⟨ha, hl, hs, h⟩ := h
    wp_walk using wpAny_loadPart' hl, wpAny_load hl, sub_wp hs
    exact ⟨_, rfl, h⟩
section
variable {X : Cx} {C fE : Addr} {k : Nat} {fd : FuncData} {sp : Sp}
/-- the built-in type's own __eq__ declines -/
theorem data_declines {pins : List (Addr × Obj)} {σ : L2.St} {H : Hp} {s : Shared} {A : Around} {E : Value → Shared → Prop} {x : V} {d : PyData} {v : Value} {b dx : Addr} {fs : List (Str × V)} {Q : Option Value → Shared → Prop} (I : Inv X pins σ H s)
    (hs : ∀ M, PySem.W.Looks M s.heap (isSubtype (.ref C) (.type (tyN d))) false)
    (hd : Dp X.K H x d) (rx : RelV x v) (hb : H b = some (.ins C dx fs)) (q : Q none s) : wpAny (model X.prog X.w) A (tryCompare v (Str.ofString "__eq__") (.ref b)) Q E s := by
  obtain ⟨mA, O, _⟩ := ins_get I.hok hb
  have ob := O.obj
  cases hd with
  | non =>
    cases rx
    exact wpAny_tryCompare_declines (T := "NoneType") rfl F.slot_NoneType_eq (call_gives F.slot_NoneType_eq rfl F.entry_NoneType_eq (F.args_NoneType_eq_2 _ _) (SeqAt.NoneType___eq___none_ref_0 b) ⟨rfl, q⟩)
  | bl z =>
    cases rx
    exact wpAny_tryCompare_declines (T := "bool") rfl F.slot_bool_eq (call_meets F.slot_bool_eq rfl F.entry_int_eq (F.args_int_eq_2 _ _) (bool_declines z b C _ _) ⟨ob, ⟨rfl, q⟩⟩)
  | int i =>
    obtain ⟨t, rfl⟩ := rx
    exact wpAny_tryCompare_declines (T := "int") rfl F.slot_int_eq (call_meets F.slot_int_eq rfl F.entry_int_eq (F.args_int_eq_2 _ _) (int_declines i t b C _ _) ⟨ob, ⟨rfl, q⟩⟩)
  | str y =>
    obtain ⟨t, rfl⟩ := rx
    exact wpAny_tryCompare_declines (T := "str") rfl F.slot_str_eq (call_meets F.slot_str_eq rfl F.entry_str_eq (F.args_str_eq_2 _ _) (str_declines y t b C _ _) ⟨ob, ⟨rfl, q⟩⟩)
  | lst h1 h2 =>
    cases rx
    obtain ⟨its, _, ⟨o, n, ho, hc, _, _⟩, _⟩ := I.list h1
    exact wpAny_tryCompare_declines (T := "list") ⟨o, ho, hc⟩ F.slot_list_eq (call_meets F.slot_list_eq ⟨o, ho, hc⟩ F.entry_list_eq (F.args_list_eq_2 _ _) (list_declines _ b C _ _ o) ⟨ho, ob, hs, ⟨rfl, q⟩⟩)
  | tup h1 h2 =>
    cases rx
    obtain ⟨its, _, ⟨o, ho, hc, _⟩, _⟩ := I.tuple h1
    exact wpAny_tryCompare_declines (T := "tuple") ⟨o, ho, hc⟩ F.slot_tuple_eq (call_meets F.slot_tuple_eq ⟨o, ho, hc⟩ F.entry_tuple_eq (F.args_tuple_eq_2 _ _) (tuple_declines _ b C _ _ o) ⟨ho, ob, hs, ⟨rfl, q⟩⟩)
/-- x == y, y of the class, x built-in data: y's own __eq__ tells -/
def rEqR (C : Addr) (sp : Sp) (K : PySem.W.Frag) : R2 := fun x y H Q => ∃ b dy gs d, y = .ref b ∧ H b = some (.ins C dy gs) ∧ Dp K H x d ∧ sp [y, x] H (fun v H' => ∃ z, v = .bl z ∧ Q (.bl z) H') E0
theorem op_eqR (O : OwnC X.K C fE) (F : FnOk X.prog X.w X.K X.mg X.base CX0 k fE fd ["self", "other"] sp) (hb : Binds X.K fd ["self", "other"] []) (hr : Room k X.A) : OpR X (compareOp .Eq) (rEqR C sp X.K) := by
  intro pins s σ H x y v u Q I rx ry h
  obtain ⟨b, dy, gs, d, rfl, ha, hd, q⟩ := h
  cases (show u = Value.ref b from ry)
  obtain ⟨ox, od, J⟩ := inst_at I ha
  have run := run_at (E' := X.xe) F hr I.env0 hb I (.cons ry (.cons rx .nil)) q
  have ty := dp_type I hd rx
  have kk := O.of hd
  have sb := sub_looks I.kIn kk.2 rfl
  have fin : wpAny (model X.prog X.w) X.A (tryCompare (.ref b) (Str.ofString "__eq__") v) (fun r t => ∃ b, r = some (Value.bool b) ∧ EP X pins σ Q (.bool b) t) X.xe s := by
    unfold tryCompare
    refine wpAny_bind (PySem.W.ifBound_K I.kIn J O.eq.at_ O.eq.fn (wpAny_mono run (fun r t hq => ?_) fun _ _ z => z))
    obtain ⟨v', H', I', rv, b, rfl, q'⟩ := hq
    cases (show r = Value.bool b from rv)
    exact wpAny_pure ⟨b, rfl, .bl b, H', I', rfl, q'⟩
  show wpAny _ _ (richCompare .Eq v (.ref b)) _ _ _
  unfold richCompare
  simp only [ty.oneThing_none]
  refine wpAny_holding ?_
  refine wpAny_bind (wpAny_cRoomFor hr.units0 ?_)
  refine wpAny_bind (wpAny_typeOf ty ?_)
  refine wpAny_bind (J.type.here ?_)
  have ne : (Value.type (tyN d) != Value.ref C) = true := rfl
  simp only [ne, if_true]
  refine wpAny_bind ((sb _).here ?_)
  simp only [Bool.false_eq_true, if_false]
  refine wpAny_bind (m := tryCompare v (Str.ofString "__eq__") (.ref b)) (data_declines I sb hd rx ha ?_)
  simp only [Bool.not_false, if_true]
  refine wpAny_bind (m := tryCompare (.ref b) (Str.ofString "__eq__") v) (wpAny_mono fin (fun r t hq => ?_) fun _ _ z => z)
  obtain ⟨z, rfl, hq⟩ := hq
  exact wpAny_pure hq
theorem ifBound_b {M : Model} {A : Around} {E : Value → Shared → Prop} {s : Shared} {K : PySem.W.Frag} {x C : Addr} {ox : Obj} {od : Option Obj} {name : Str} {id : String} {args : List Value} {Q : Option Value → Shared → Prop} (X : K.In s.heap) (I : PySem.W.InstAt s.heap x ox C od)
    (hs : PySem.W.findIn K (.ref C) name = some (some (.builtin id))) (hb : ∀ self, bindSpecial (.builtin id) self = pure (.builtin id, [self])) (h : wpAny M A (call (.builtin id) (.ref x :: args)) (fun v => Q (some v)) E s) :
    wpAny M A (callSpecialIfBound? (.ref x) name args) Q E s := by
  simp only [callSpecialIfBound?, bindSpecialIfBound?]
  refine wpAny_holding (wpAny_bind (wpAny_bind (wpAny_bind (I.type.here ((PySem.W.looks_findIn X hs).here ?_)))))
  refine wpAny_bind (wpAny_askSetting (wpAny_ite ?_))
  have fin : wpAny M A (call (.builtin id) ([.ref x] ++ args) >>= fun v => pure (some v)) Q E s := wpAny_bind (wpAny_mono h (fun _ _ z => wpAny_pure z) fun _ _ z => z)
  split
  · exact wpAny_bind ((PySem.W.Looks.of_pure (hb _)).here (wpAny_pure (by exact fin)))
  · exact wpAny_tryCatch (wpAny_bind ((PySem.W.Looks.of_pure (hb _)).here (wpAny_pure (by exact fin))))
/-- x != y, x of the class (which has no own __ne__): not what its own __eq__ tells -/
def rNeL (C : Addr) (sp : Sp) (K : PySem.W.Frag) : R2 := fun x y H Q => ∃ a dx fs, x = .ref a ∧ H a = some (.ins C dx fs) ∧ ((∃ d, Dp K H y d) ∨ ∃ b dy gs, y = .ref b ∧ H b = some (.ins C dy gs)) ∧
  sp [x, y] H (fun v H' => ∃ b, v = .bl b ∧ Q (.bl (!b)) H') E0
theorem op_neL (O : OwnC X.K C fE) (F : FnOk X.prog X.w X.K X.mg X.base CX0 k fE fd ["self", "other"] sp) (hb : Binds X.K fd ["self", "other"] []) (hr : Room (k + 1) X.A) : OpR X (compareOp .NotEq) (rNeL C sp X.K) := by
  intro pins s σ H x y v u Q I rx ry h
  obtain ⟨a, dx, fs, rfl, ha, hy, q⟩ := h
  cases (show v = Value.ref a from rx)
  obtain ⟨ox, od, J⟩ := inst_at I ha
  have run := run_at (E' := X.xe) F hr.in1 I.env0.in1 hb I (.cons rx (.cons ry .nil)) q
  have body : wpAny (model X.prog X.w) X.A (call (.builtin "object.__ne__") [.ref a, u]) (fun v t => ∃ b, v = Value.bool b ∧ EP X pins σ Q (.bool b) t) X.xe s := by
    refine wpAny_call (codeAny_call_builtin PySem.F.slot_object_ne.plain PySem.F.entry_object_ne (PySem.W.check_slot (i := "object.__ne__") (owner := "object") (n := "__ne__") (by decide +kernel) (by decide +kernel) (J.type.andThen (PySem.W.looks_mroIn I.kIn O.c.hm)) (PySem.F.args_object_ne_2 _ _) ?_))
    unfold Builtin.«object.__ne__»
    refine wpAny_bind (m := slotArgs "__ne__" 1 _) (wpAny_pure ?_)
    refine wpAny_bind (m := cRoomFor _ _) (wpAny_cRoomFor (by have := hr.units; show X.A.units + 1 < cLine; omega) ?_)
    refine wpAny_bind (m := callSpecialIfBound? (.ref a) (Str.ofString "__eq__") [u]) (PySem.W.ifBound_K I.kIn J O.eq.at_ O.eq.fn (wpAny_mono run (fun r t hq => ?_) fun _ _ z => z))
    obtain ⟨v', H', I', rv, b, rfl, q'⟩ := hq
    cases (show r = Value.bool b from rv)
    refine wpAny_bind (m := truthy (.bool b)) (wpAny_truthy_bool ?_)
    exact wpAny_pure ⟨!b, rfl, .bl (!b), H', I', rfl, q'⟩
  have fin : wpAny (model X.prog X.w) X.A (tryCompare (.ref a) (Str.ofString "__ne__") u) (fun r t => ∃ b, r = some (Value.bool b) ∧ EP X pins σ Q (.bool b) t) X.xe s := by
    unfold tryCompare
    refine wpAny_bind (ifBound_b I.kIn J O.ne PySem.F.slot_object_ne.bind (wpAny_mono body (fun r t hq => ?_) fun _ _ z => z))
    obtain ⟨b, rfl, hq⟩ := hq
    exact wpAny_pure ⟨b, rfl, hq⟩
  show wpAny _ _ (richCompare .NotEq (.ref a) u) _ _ _
  unfold richCompare
  simp only [oneThing_ref]
  refine wpAny_holding ?_
  refine wpAny_bind (wpAny_cRoomFor hr.units0 ?_)
  refine wpAny_bind (J.type.here ?_)
  rcases hy with ⟨d, hd⟩ | ⟨b, dy, gs, rfl, hb2⟩
  · have ty := dp_type I hd ry
    have kk := O.of hd
    refine wpAny_bind (wpAny_typeOf ty ?_)
    have ne : (Value.ref C != Value.type (tyN d)) = true := rfl
    simp only [ne, if_true]
    refine wpAny_bind ((sub_looks I.kIn kk.1 rfl _).here ?_)
    simp only [Bool.false_eq_true, if_false]
    refine wpAny_bind (m := tryCompare (.ref a) (Str.ofString "__ne__") u) (wpAny_mono fin (fun r t hq => ?_) fun _ _ z => z)
    obtain ⟨b, rfl, hq⟩ := hq
    exact wpAny_pure hq
  · cases (show u = Value.ref b from ry)
    obtain ⟨oy, oe, J2⟩ := inst_at I hb2
    refine wpAny_bind (J2.type.here ?_)
    have ne : (Value.ref C != Value.ref C) = false := by simp
    simp only [ne, Bool.false_eq_true, if_false]
    refine wpAny_bind (wpAny_pure ?_)
    simp only [Bool.false_eq_true, if_false]
    refine wpAny_bind (m := tryCompare (.ref a) (Str.ofString "__ne__") (.ref b)) (wpAny_mono fin (fun r t hq => ?_) fun _ _ z => z)
    obtain ⟨b, rfl, hq⟩ := hq
    exact wpAny_pure hq
/-- repr(x), x of a class with its own __repr__ -/
def rRepO (C : Addr) (sp : Sp) : List V → Hp → VK → Prop := fun xs H Q => ∃ a dx fs, xs = [.ref a] ∧ H a = some (.ins C dx fs) ∧ sp [.ref a] H (fun v H' => ∃ y, v = .str y ∧ Q (.str y) H') E0
theorem call_repO {fR : Addr} (m : Meth X.K C "__repr__" fR) (F : FnOk X.prog X.w X.K X.mg X.base CX0 k fR fd ["self"] sp) (hb : Binds X.K fd ["self"] []) (hr : Room (k + 1) X.A) : CallR X (.builtin "repr") (rRepO C sp) := by
  intro pins s σ H xs us Q I r h
  obtain ⟨a, dx, fs, rfl, ha, q⟩ := h
  obtain ⟨u, rfl, ru⟩ := vals1 r
  cases (show u = Value.ref a from ru)
  obtain ⟨ox, od, J⟩ := inst_at I ha
  have run := run_at (E' := X.xe) F hr.in1 I.env0.in1 hb I (.cons ru .nil) q
  refine Calls.call_function_entry PySem.F.kind_repr PySem.F.plain_repr PySem.F.entry_repr (PySem.F.args_repr1 _) ?_
  unfold Builtin.«repr»
  refine wpAny_bind (m := oneArg "repr" _) (wpAny_pure ?_)
  refine wpAny_bind (wpAny_cRoomFor (by have := hr.units; show X.A.units + 1 < cLine; omega) ?_)
  refine wpAny_bind (m := specialOf (.ref a) (Str.ofString "__repr__")) (wpAny_bind (J.type.here ((PySem.W.looks_findIn I.kIn m.at_).here ?_)))
  show wpAny _ _ (if (some (Value.ref fR)).isNone = true then _ else _) _ _ _
  rw [if_neg (by simp)]
  refine wpAny_bind (m := callSpecialIfBound? (.ref a) (Str.ofString "__repr__") _) (PySem.W.ifBound_K I.kIn J m.at_ m.fn (wpAny_mono run (fun r t hq => ?_) fun _ _ z => z))
  obtain ⟨v', H', I', rv, y, rfl, q'⟩ := hq
  obtain ⟨tk, rfl⟩ := (show ∃ t, r = Value.str y t from rv)
  refine wpAny_bind (wpAny_isInstance (typeIs_str _ _ _) isSubtype_str_str ?_)
  have fin : EP X pins σ Q (.str y tk) t := ⟨.str y, H', I', ⟨tk, rfl⟩, q'⟩
  first
    | exact wpAny_pure ⟨_, rfl, fin⟩
    | (rw [if_pos rfl]; exact wpAny_pure ⟨_, rfl, fin⟩)
    | (simp only [if_true]; exact wpAny_pure ⟨_, rfl, fin⟩)
    | (simp only [if_true]; exact wpAny_pure fin)
/-- str(x), x of a class with its own __str__ -/
theorem call_strO {fS : Addr} (m : Meth X.K C "__str__" fS) (F : FnOk X.prog X.w X.K X.mg X.base CX0 k fS fd ["self"] sp) (hb : Binds X.K fd ["self"] []) (hr : Room (k + 2) X.A) : CallR X (.type "str") (rRepO C sp) := by
  intro pins s σ H xs us Q I r h
  obtain ⟨a, dx, fs, rfl, ha, q⟩ := h
  obtain ⟨u, rfl, ru⟩ := vals1 r
  cases (show u = Value.ref a from ru)
  obtain ⟨ox, od, J⟩ := inst_at I ha
  have run := run_at (A' := X.A.in1.in1) (E' := X.xe) F hr.in1.in1 I.env0.in1.in1 hb I (.cons ru .nil) q
  have un := hr.units
  refine callType_codes (T := "str") (Bi := Builtin.«object.__init__») (Q₁ := fun r s₁ => ∃ y u, r = .str y u ∧ EP X pins σ Q r s₁) PySem.F.called_str (PySem.F.typeCall_str_1 _) PySem.F.entry_object_init ?_ ?_
  · refine codeAny_of_tree ?_
    show wpAny _ X.A.in1.in1 (do checkBuiltinCall "str.__new__" ⟨[.type "str", .ref a], []⟩; again (.builtin "str.__new__" ⟨[.type "str", .ref a], []⟩)) _ _ s
    refine wpAny_bind (wpAny_of_eq (PySem.F.newCall_str_1 _) (wpAny_pure ⟨plainId_quiet (by decide +kernel) _, codeAny_builtin PySem.F.entry_str_new ?_⟩))
    rw [Around.under_plainId (by decide +kernel) _]
    rw [str_new_tree]
    refine wpAny_bind (wpAny_pure ?_)
    refine wpAny_bind (wpAny_of_eq isSubtype_str_str ?_)
    have key : wpAny (model X.prog X.w) X.A.in1.in1 (PySem.Builtin.Str.strOf (.ref a)) (fun r s₁ => ∃ y u, r = .str y u ∧ EP X pins σ Q r s₁) X.xe s := by
      unfold PySem.Builtin.Str.strOf
      rw [show Builtin.Str.isExactStr (.ref a) = false from rfl]
      refine wpAny_bind (m := cRoomFor _ _) (wpAny_cRoomFor (by show X.A.units + 1 + 1 < cLine; omega) ?_)
      refine wpAny_bind (m := callSpecial? (.ref a) (Str.ofString "__str__")) (PySem.W.special_fn I.kIn J m.at_ (beq_iff_eq.mp m.fn) (wpAny_mono run (fun r t hq => ?_) fun _ _ z => z))
      obtain ⟨v', H', I', rv, y, rfl, q'⟩ := hq
      obtain ⟨tk, rfl⟩ := (show ∃ t, r = Value.str y t from rv)
      exact wpAny_pure ⟨_, _, rfl, .str y, H', I', ⟨tk, rfl⟩, q'⟩
    exact wpAny_bind (wpAny_mono key (fun r s₁ hr => wpAny_pure hr) fun _ _ y => y)
  · rintro obj s₁ ⟨y, u, rfl, hq⟩
    exact ⟨typeIs_str _ _ _, PySem.F.args_object_init_2 _ _, object_init_meets PySem.F.called_str.init.lookup PySem.F.called_str.made (by decide) X.prog X.w X.A.in1 _ s₁ ⟨typeIs_str _ _ _, rfl, hq⟩⟩
end
/-! list(zip(t, u)) of two tuples: new pairs in a new list -/
section
variable {prog : Program} {w : World} {A : Around} {E : Value → Shared → Prop} {s : Shared}
/-- the next pair, while the one handed out before is still there -/
theorem held_item {z TI TO T i1 i2 l1 l2 : Addr} {f : Bool} {oT : Obj} {k1 k2 : Nat} {xs ys : Array Value} {x y : Value} {Q : Option Value → Shared → Prop} (D : ZipApart z TI TO i1 i2 l1 l2) (hz : IsZipHeld s.heap z TI TO T f)
    (hT : s.heap.get? T = some oT) (pI : IsPair s.heap TI (.ref i1) (.ref i2)) (t1 : s.heap.IsTupleIter i1 l1 k1) (t2 : s.heap.IsTupleIter i2 l2 k2) (u1 : s.heap.IsTuple l1 xs) (u2 : s.heap.IsTuple l2 ys) (hx : xs[k1]? = some x) (hy : ys[k2]? = some y)
    (q : ∀ h', IsZipHeld h' z TI TO T true → h'.IsTupleIter i1 l1 (k1 + 1) → h'.IsTupleIter i2 l2 (k2 + 1) → IsPair h' s.heap.objs.size x y → h'.objs.size = s.heap.objs.size + 1 → (∀ c o, c ≠ z → c ≠ i1 → c ≠ i2 → s.heap.get? c = some o → h'.get? c = some o) →
      Q (some (.ref s.heap.objs.size)) { s with heap := h' }) : wpAny (model prog w) A (pyNext (.ref z)) Q E s := by
  have ty : s.TypeIs (.ref z) "zip" := ⟨_, hz, rfl⟩
  unfold pyNext
  refine wpAny_bind (wpAny_attempt (wpAny_callSpecial?_slot (name := Str.ofString "__next__") ty F.slot_zip_next (wpAny_call_entry F.slot_zip_next ty F.entry_zip_next ?_ (F.args_zip_next_1 _))))
  show wpAny _ _ (field (.ref z) 2 >>= _) _ _ s
  refine wpAny_bind (wpAny_field hz rfl (x := .bool false) rfl ?_); show wpAny _ _ (field (.ref z) 3 >>= _) _ _ s
  refine wpAny_bind (wpAny_field hz rfl (x := .ref TI) rfl ?_); refine wpAny_bind (wpAny_seqItems pI rfl ?_); show wpAny _ _ (Builtin.SmallTypes.ownedTupleIsFree (.ref z) >>= _) _ _ s
  refine wpAny_bind (wpAny_tupleHeld_zip hz hT fun ha za sa => ?_); simp only [Bool.false_eq_true, if_false]
  refine wpAny_bind ?_; rw [← Array.forIn_toList]; simp only [List.forIn_cons, List.forIn_nil]
  refine wpAny_bind (wpAny_bind (wpAny_holding ?_)); show wpAny _ _ (Builtin.SmallTypes.nextOf (.ref i1) >>= _) _ _ _
  refine wpAny_bind (RZ.nextOf_tuple_item (s := { s with heap := ha }) (t1.extBut sa.extBut D.i1z) (u1.extBut sa.extBut D.l1z) hx fun hb tb sb => wpAny_pure ?_)
  refine wpAny_pure ?_; refine wpAny_bind (wpAny_bind (wpAny_holding ?_)); show wpAny _ _ (Builtin.SmallTypes.nextOf (.ref i2) >>= _) _ _ _
  refine wpAny_bind (RZ.nextOf_tuple_item (s := { s with heap := hb }) ((t2.extBut sa.extBut D.i2z).extBut sb.extBut D.i12.symm) ((u2.extBut sa.extBut D.l2z).extBut sb.extBut D.l2i1) hy fun hc tc sc => wpAny_pure ?_)
  refine wpAny_pure (wpAny_pure ?_); show wpAny _ _ (newTuple [x, y] >>= _) _ _ _
  refine wpAny_bind (wpAny_newTuple ?_)
  have hsz : hc.objs.size = s.heap.objs.size := by rw [sc.1, sb.1, sa.1]
  have zc : IsZipHeld hc z TI TO T true := sc.extBut _ _ D.i2z.symm (sb.extBut _ _ D.i1z.symm za)
  have hk : ∀ c o, c ≠ z → c ≠ i1 → c ≠ i2 → s.heap.get? c = some o → hc.get? c = some o := fun c o n1 n2 n3 e => sc.extBut _ _ n3 (sb.extBut _ _ n2 (sa.extBut _ _ n1 e))
  have r1 : hc.IsTupleIter i1 l1 (k1 + 1) := tb.extBut sc.extBut D.i12
  have hp : IsPair (hc.push { cls := .type "tuple", data := .seq #[x, y] }) hc.objs.size x y := Heap.get?_push_size _ rfl
  have hw : (hc.push { cls := .type "tuple", data := .seq #[x, y] }).objs.size = hc.objs.size + 1 := Heap.size_push ..
  refine wpAny_pure ⟨_, rfl, wpAny_pure ?_⟩
  show Q (some (.ref hc.objs.size)) _
  rw [hsz] at hp hw ⊢
  exact q _ (Heap.get?_push_of_some _ zc) (r1.at fun o e => Heap.get?_push_of_some _ e) (tc.at fun o e => Heap.get?_push_of_some _ e) hp hw fun c o n1 n2 n3 e => Heap.get?_push_of_some _ (hk c o n1 n2 n3 e)
theorem held_end {z TI TO T i1 i2 l1 l2 : Addr} {f : Bool} {oT : Obj} {k1 k2 : Nat} {xs ys : Array Value} {Q : Option Value → Shared → Prop} (hh : A.handled = none) (D : ZipApart z TI TO i1 i2 l1 l2) (hz : IsZipHeld s.heap z TI TO T f)
    (hT : s.heap.get? T = some oT) (pI : IsPair s.heap TI (.ref i1) (.ref i2)) (t1 : s.heap.IsTupleIter i1 l1 k1) (t2 : s.heap.IsTupleIter i2 l2 k2) (u1 : s.heap.IsTuple l1 xs) (u2 : s.heap.IsTuple l2 ys) (he : xs[k1]? = none ∨ ys[k2]? = none)
    (q : ∀ h', (∀ c o, c ≠ z → c ≠ i1 → c ≠ i2 → s.heap.get? c = some o → h'.get? c = some o) → Q none { s with heap := h' }) : wpAny (model prog w) A (pyNext (.ref z)) Q E s := by
  have ty : s.TypeIs (.ref z) "zip" := ⟨_, hz, rfl⟩
  have fin : ∀ h' e, (∀ c o, c ≠ z → c ≠ i1 → c ≠ i2 → s.heap.get? c = some o → h'.get? c = some o) → (∃ o, h'.get? e = some o ∧ o.cls = .type "StopIteration") →
      wpAny (model prog w) A (do if ← isInstance (.ref e) (.type "StopIteration") then pure none else throw (.ref e)) Q E { s with heap := h' } := fun h' e hk ⟨o, ho, hc⟩ =>
    wpAny_bind (wpAny_isInstance (T := "StopIteration") (b := true) ⟨o, ho, hc⟩ isSubtype_stop (wpAny_pure (q _ hk)))
  unfold pyNext
  refine wpAny_bind (wpAny_attempt (wpAny_callSpecial?_slot (name := Str.ofString "__next__") ty F.slot_zip_next (wpAny_call_entry F.slot_zip_next ty F.entry_zip_next ?_ (F.args_zip_next_1 _))))
  show wpAny _ _ (field (.ref z) 2 >>= _) _ _ s
  refine wpAny_bind (wpAny_field hz rfl (x := .bool false) rfl ?_); show wpAny _ _ (field (.ref z) 3 >>= _) _ _ s
  refine wpAny_bind (wpAny_field hz rfl (x := .ref TI) rfl ?_); refine wpAny_bind (wpAny_seqItems pI rfl ?_); show wpAny _ _ (Builtin.SmallTypes.ownedTupleIsFree (.ref z) >>= _) _ _ s
  refine wpAny_bind (wpAny_tupleHeld_zip hz hT fun ha za sa => ?_); simp only [Bool.false_eq_true, if_false]
  refine wpAny_bind ?_; rw [← Array.forIn_toList]; simp only [List.forIn_cons, List.forIn_nil]
  refine wpAny_bind (wpAny_bind (wpAny_holding ?_)); show wpAny _ _ (Builtin.SmallTypes.nextOf (.ref i1) >>= _) _ _ _
  cases hx : xs[k1]? with
  | none =>
    refine wpAny_bind (RZ.nextOf_tuple_end (s := { s with heap := ha }) hh (t1.extBut sa.extBut D.i1z) (u1.extBut sa.extBut D.l1z) hx fun hb e sb ie => ?_)
    exact fin hb e (fun c o n1 n2 _ x => sb _ _ n2 (sa.extBut _ _ n1 x)) ie
  | some x =>
    have hy : ys[k2]? = none := by
      rcases he with h | h
      · rw [hx] at h
        cases h
      · exact h
    refine wpAny_bind (RZ.nextOf_tuple_item (s := { s with heap := ha }) (t1.extBut sa.extBut D.i1z) (u1.extBut sa.extBut D.l1z) hx fun hb tb sb => wpAny_pure ?_)
    refine wpAny_pure ?_; refine wpAny_bind (wpAny_bind (wpAny_holding ?_)); show wpAny _ _ (Builtin.SmallTypes.nextOf (.ref i2) >>= _) _ _ _
    refine wpAny_bind (RZ.nextOf_tuple_end (s := { s with heap := hb }) hh ((t2.extBut sa.extBut D.i2z).extBut sb.extBut D.i12.symm) ((u2.extBut sa.extBut D.l2z).extBut sb.extBut D.l2i1) hy fun hc e sc ie => ?_)
    exact fin hc e (fun c o n1 n2 n3 x => sc _ _ n3 (sb.extBut _ _ n2 (sa.extBut _ _ n1 x))) ie
end
/-- how far a zip of two tuples has come -/
def ZSt (h : Heap) (z TI TO i1 i2 l1 l2 S : Addr) (i : Nat) : Prop := IsPair h TI (.ref i1) (.ref i2) ∧ h.IsTupleIter i1 l1 i ∧ h.IsTupleIter i2 l2 i ∧
  ((IsZip h z TI TO .none ∧ ∃ a b, IsPair h TO a b) ∨ ∃ T f oT, IsZipHeld h z TI TO T f ∧ h.get? T = some oT ∧ T ≠ z ∧ T ≠ i1 ∧ T ≠ i2 ∧ T ≠ S)
theorem ZSt.type {s : Shared} {z TI TO i1 i2 l1 l2 S : Addr} {i : Nat} (h : ZSt s.heap z TI TO i1 i2 l1 l2 S i) : s.TypeIs (.ref z) "zip" := by
  obtain ⟨_, _, _, ⟨hz, _⟩ | ⟨T, f, oT, hz, _⟩⟩ := h
  · exact ⟨_, hz, rfl⟩
  · exact ⟨_, hz, rfl⟩
/-- nothing but S is another -/
theorem ZSt.keep {h h' : Heap} {z TI TO i1 i2 l1 l2 S : Addr} {i : Nat} (st : ZSt h z TI TO i1 i2 l1 l2 S i) (n : S ∉ [z, TI, TO, i1, i2]) (k : ∀ b o, b ≠ S → h.get? b = some o → h'.get? b = some o) : ZSt h' z TI TO i1 i2 l1 l2 S i := by
  obtain ⟨p, t1, t2, c⟩ := st
  simp only [List.mem_cons, List.not_mem_nil, or_false, not_or] at n
  obtain ⟨n1, n2, n3, n4, n5⟩ := n
  refine ⟨k _ _ (Ne.symm n2) p, t1.at fun o e => k _ o (Ne.symm n4) e, t2.at fun o e => k _ o (Ne.symm n5) e, ?_⟩
  rcases c with ⟨hz, a, b, hb⟩ | ⟨T, f, oT, hz, hT, r1, r2, r3, r4⟩
  · exact .inl ⟨k _ _ (Ne.symm n1) hz, a, b, k _ _ (Ne.symm n3) hb⟩
  · exact .inr ⟨T, f, oT, k _ _ (Ne.symm n1) hz, k _ _ r4 hT, r1, r2, r3, r4⟩
section
variable {prog : Program} {w : World} {A : Around} {E : Value → Shared → Prop} {s : Shared}
theorem zst_item {z TI TO i1 i2 l1 l2 S : Addr} {i : Nat} {xs ys : Array Value} {x y : Value} {Q : Option Value → Shared → Prop} (D : ZipApart z TI TO i1 i2 l1 l2) (st : ZSt s.heap z TI TO i1 i2 l1 l2 S i) (hS : S < s.heap.objs.size)
    (u1 : s.heap.IsTuple l1 xs) (u2 : s.heap.IsTuple l2 ys) (hx : xs[i]? = some x) (hy : ys[i]? = some y)
    (q : ∀ h', ZSt h' z TI TO i1 i2 l1 l2 S (i + 1) → IsPair h' s.heap.objs.size x y → h'.objs.size = s.heap.objs.size + 1 → (∀ c o, c ∉ [z, TO, i1, i2] → s.heap.get? c = some o → h'.get? c = some o) → Q (some (.ref s.heap.objs.size)) { s with heap := h' }) :
    wpAny (model prog w) A (pyNext (.ref z)) Q E s := by
  obtain ⟨p, t1, t2, c⟩ := st
  have lt : ∀ {c : Addr} {o : Obj}, s.heap.get? c = some o → s.heap.objs.size ≠ c := fun e => Nat.ne_of_gt (Heap.lt_size e)
  have m1 : s.heap.objs.size ≠ i1 := let ⟨_, e, _⟩ := t1; lt e
  have m2 : s.heap.objs.size ≠ i2 := let ⟨_, e, _⟩ := t2; lt e
  rcases c with ⟨hz, a, b, hb⟩ | ⟨T, f, oT, hz, hT, r1, r2, r3, r4⟩
  · refine RZ.pyNext_zipT_item D hz p hb t1 t2 u1 u2 hx hy fun h' a1 a2 a3 a4 a5 a6 hk => ?_
    refine q h' ⟨hk _ _ D.TIz D.TITO D.TIi1 D.TIi2 p, a3, a4, .inr ⟨s.heap.objs.size, false, _, a1, a5, lt hz, m1, m2, Nat.ne_of_gt hS⟩⟩ a5 a6 fun c o n e => ?_
    simp only [List.mem_cons, List.not_mem_nil, or_false, not_or] at n
    exact hk c o n.1 n.2.1 n.2.2.1 n.2.2.2 e
  · refine held_item D hz hT p t1 t2 u1 u2 hx hy fun h' a1 a3 a4 a5 a6 hk => ?_
    refine q h' ⟨hk _ _ D.TIz D.TIi1 D.TIi2 p, a3, a4, .inr ⟨T, true, oT, a1, hk _ _ r1 r2 r3 hT, r1, r2, r3, r4⟩⟩ a5 a6 fun c o n e => ?_
    simp only [List.mem_cons, List.not_mem_nil, or_false, not_or] at n
    exact hk c o n.1 n.2.2.1 n.2.2.2 e
theorem zst_end {z TI TO i1 i2 l1 l2 S : Addr} {i : Nat} {xs ys : Array Value} {Q : Option Value → Shared → Prop} (hh : A.handled = none) (D : ZipApart z TI TO i1 i2 l1 l2) (st : ZSt s.heap z TI TO i1 i2 l1 l2 S i)
    (u1 : s.heap.IsTuple l1 xs) (u2 : s.heap.IsTuple l2 ys) (he : xs[i]? = none ∨ ys[i]? = none) (q : ∀ h', (∀ c o, c ∉ [z, TO, i1, i2] → s.heap.get? c = some o → h'.get? c = some o) → Q none { s with heap := h' }) : wpAny (model prog w) A (pyNext (.ref z)) Q E s := by
  obtain ⟨p, t1, t2, c⟩ := st
  rcases c with ⟨hz, a, b, hb⟩ | ⟨T, f, oT, hz, hT, r1, r2, r3, r4⟩
  · refine RZ.pyNext_zipT_end hh D hz p hb t1 t2 u1 u2 he fun h' hk => q h' fun c o n e => ?_
    simp only [List.mem_cons, List.not_mem_nil, or_false, not_or] at n
    exact hk c o n.1 n.2.1 n.2.2.1 n.2.2.2 e
  · refine held_end hh D hz hT p t1 t2 u1 u2 he fun h' hk => q h' fun c o n e => ?_
    simp only [List.mem_cons, List.not_mem_nil, or_false, not_or] at n
    exact hk c o n.1 n.2.2.1 n.2.2.2 e
end
/-- the pairs laid so far, above lo -/
structure ZG (xs ys : Array Value) (lo : Addr) (h : Heap) (as : List Addr) : Prop where
  rise : as.Pairwise (· < ·)
  above : ∀ a ∈ as, lo < a
  pairs : ∀ (j : Nat) (a : Addr), as[j]? = some a → ∃ x y, xs[j]? = some x ∧ ys[j]? = some y ∧ IsPair h a x y
theorem ZG.there {xs ys : Array Value} {lo : Addr} {h : Heap} {as : List Addr} (g : ZG xs ys lo h as) {a : Addr} (ha : a ∈ as) : a < h.objs.size := by
  obtain ⟨j, hj⟩ := List.mem_iff_getElem?.mp ha
  obtain ⟨x, y, _, _, e⟩ := g.pairs j a hj
  exact Heap.lt_size e
theorem ZG.keep {xs ys : Array Value} {lo : Addr} {h h' : Heap} {as : List Addr} (g : ZG xs ys lo h as) (k : ∀ b o, lo < b → h.get? b = some o → h'.get? b = some o) : ZG xs ys lo h' as :=
  ⟨g.rise, g.above, fun j a hj => let ⟨x, y, e1, e2, e3⟩ := g.pairs j a hj; ⟨x, y, e1, e2, k a _ (g.above a (List.mem_of_getElem? hj)) e3⟩⟩
theorem ZG.snoc {xs ys : Array Value} {lo : Addr} {h h' : Heap} {as : List Addr} {b : Addr} {x y : Value} (g : ZG xs ys lo h as) (k : ∀ b o, lo < b → h.get? b = some o → h'.get? b = some o) (hb : b = h.objs.size) (hl : lo < b)
    (hx : xs[as.length]? = some x) (hy : ys[as.length]? = some y) (hp : IsPair h' b x y) : ZG xs ys lo h' (as ++ [b]) := by
  have g' := g.keep k
  refine ⟨List.pairwise_append.mpr ⟨g.rise, List.pairwise_singleton _ _, fun a ha c hc => ?_⟩, fun a ha => ?_, fun j a hj => ?_⟩
  · rw [List.mem_singleton.mp hc, hb]
    exact g.there ha
  · rcases List.mem_append.mp ha with ha | ha
    · exact g.above a ha
    · rw [List.mem_singleton.mp ha]
      exact hl
  · by_cases lt : j < as.length
    · rw [List.getElem?_append_left lt] at hj
      exact g'.pairs j a hj
    · rw [List.getElem?_append_right (by omega)] at hj
      have e : j - as.length = 0 := by
        by_cases z : j - as.length = 0
        · exact z
        · rw [List.getElem?_eq_none (by simp; omega)] at hj
          cases hj
      rw [e] at hj
      have ej : j = as.length := by omega
      subst ej
      cases hj
      exact ⟨x, y, hx, hy, hp⟩
section
variable {prog : Program} {w : World} {A : Around} {s : Shared} {R : Result → Shared → Prop}
theorem z_loop {S z TI TO i1 i2 l1 l2 lo : Addr} {xs ys : Array Value} {n : Nat} (hh : A.handled = none) (D : ZipApart z TI TO i1 i2 l1 l2) (hn : n = min xs.size ys.size) (hz : n ≤ sizeLine) (aS : S ∉ [z, TI, TO, i1, i2]) (aL : l1 ≠ S ∧ l2 ≠ S)
    (low : ∀ b ∈ [S, z, TO, i1, i2], b ≤ lo) (res : Value) {h₁ : Heap}
    (hR : ∀ h' tk acc c as, (∀ b o, b ∉ [S, z, TO, i1, i2] → h₁.get? b = some o → h'.get? b = some o) → h'.get? S = some { cls := .type "list", dict := none, data := .seq acc c, slots := #[] } → as.length = n → ZG xs ys lo h' as →
      acc.toList = as.map Value.ref → R (.ok (.ret res)) { s with heap := h', toks := tk }) :
    ∀ (k i : Nat) (h : Heap) (tk c : Nat) (acc : Array Value) (as : List Addr), n - i = k → i ≤ n → ZSt h z TI TO i1 i2 l1 l2 S i → h.IsTuple l1 xs → h.IsTuple l2 ys → (∀ b o, b ∉ [S, z, TO, i1, i2] → h₁.get? b = some o → h.get? b = some o) →
      h.get? S = some { cls := .type "list", dict := none, data := .seq acc c, slots := #[] } → acc.toList = as.map Value.ref → as.length = i → ZG xs ys lo h as → lo < h.objs.size →
      codeAny (model prog w) A (.builtin "list.extend.loop" ⟨[.ref S, .ref z, res], []⟩) R { s with heap := h, toks := tk } := by
  have sub : ∀ b, b ∉ [S, z, TO, i1, i2] → b ∉ [z, TO, i1, i2] := fun b hb m => hb (List.mem_cons_of_mem _ m)
  have up2 : ∀ b, lo < b → b ∉ [S, z, TO, i1, i2] := fun b hb m => absurd (low b m) (Nat.not_le_of_lt hb)
  have S4 : S ∉ [z, TO, i1, i2] := fun m => aS (by
    simp only [List.mem_cons, List.not_mem_nil, or_false] at m ⊢
    rcases m with m | m | m | m
    · exact .inl m
    · exact .inr (.inr (.inl m))
    · exact .inr (.inr (.inr (.inl m)))
    · exact .inr (.inr (.inr (.inr m))))
  intro k
  induction k with
  | zero =>
    intro i h tk c acc as hk hi st u1 u2 kp hS ha hl g hs
    refine codeAny_builtin PySem.F.entry_extend_loop ?_; rw [Around.under_plainId PySem.F.plain_extend_loop _]
    show wpAny _ A.in1 (pyNext (.ref z) >>= _) _ _ _
    have e : xs[i]? = none ∨ ys[i]? = none := by
      have : i = min xs.size ys.size := by omega
      rcases Nat.le_total xs.size ys.size with q | q
      · exact .inl (Array.getElem?_eq_none (by omega))
      · exact .inr (Array.getElem?_eq_none (by omega))
    refine wpAny_bind (zst_end (A := A.in1) (s := { s with heap := h, toks := tk }) hh D st u1 u2 e fun h' hk' => ?_)
    exact wpAny_pure (hR h' tk acc c as (fun b o m e => hk' b o (sub b m) (kp b o m e)) (hk' S _ S4 hS) (by omega) (g.keep fun b o lb e => hk' b o (sub b (up2 b lb)) e) ha)
  | succ k ih =>
    intro i h tk c acc as hk hi st u1 u2 kp hS ha hl g hs
    have hx : i < xs.size := by omega
    have hy : i < ys.size := by omega
    have sz : acc.size = i := by rw [← Array.length_toList, ha, List.length_map, hl]
    have lS : S < h.objs.size := Heap.lt_size hS
    refine codeAny_builtin PySem.F.entry_extend_loop ?_; rw [Around.under_plainId PySem.F.plain_extend_loop _]
    show wpAny _ A.in1 (pyNext (.ref z) >>= _) _ _ _
    refine wpAny_bind (zst_item (A := A.in1) (s := { s with heap := h, toks := tk }) D st lS u1 u2 (Array.getElem?_eq_getElem hx) (Array.getElem?_eq_getElem hy) fun h' st' hp sz' hk' => ?_)
    dsimp only at hp sz' hk' ⊢
    have hS' := hk' S _ S4 hS
    have up : ∀ b o, b ≠ S → h'.get? b = some o → (h'.update S (Obj.mapSeq (·.push (Value.ref h.objs.size)))).get? b = some o := fun b o hb e => (Heap.get?_update_other _ _ (Ne.symm hb)).trans e
    have nl : ∀ b o, lo < b → h.get? b = some o → (h'.update S (Obj.mapSeq (·.push (Value.ref h.objs.size)))).get? b = some o := fun b o lb e => up b o (fun z => up2 b lb (by simp [z])) (hk' b o (sub b (up2 b lb)) e)
    have hp' : IsPair (h'.update S (Obj.mapSeq (·.push (Value.ref h.objs.size)))) h.objs.size _ _ := up _ _ (Nat.ne_of_gt lS) hp
    show wpAny _ A.in1 (updateSeq S (·.push (Value.ref h.objs.size)) >>= _) _ _ _
    refine wpAny_bind (wpAny_updateSeq hS' rfl (wpAny_pure ⟨plainId_quiet PySem.F.plain_extend_loop _, ?_⟩) (by rw [sz]; omega) (by show (acc.push (Value.ref h.objs.size)).size ≤ sizeLine + 1; rw [Array.size_push, sz]; omega))
    have tup : ∀ {l : Addr} {vs : Array Value}, l ≠ S → l ∉ [z, TO, i1, i2] → h.IsTuple l vs → (h'.update S (Obj.mapSeq (·.push (Value.ref h.objs.size)))).IsTuple l vs := fun n1 n2 ⟨o, e, r⟩ => ⟨o, up _ o n1 (hk' _ o n2 e), r⟩
    have L1 : l1 ∉ [z, TO, i1, i2] := by
      simp only [List.mem_cons, List.not_mem_nil, or_false, not_or]
      exact ⟨D.l1z, D.l1TO, D.l1i1, D.l1i2⟩
    have L2 : l2 ∉ [z, TO, i1, i2] := by
      simp only [List.mem_cons, List.not_mem_nil, or_false, not_or]
      exact ⟨D.l2z, D.l2TO, D.l2i1, D.l2i2⟩
    refine ih (i + 1) _ tk _ (acc.push (Value.ref h.objs.size)) (as ++ [h.objs.size]) (by omega) (by omega) (st'.keep aS up) (tup aL.1 L1 u1) (tup aL.2 L2 u2) (fun b o m e => up b o (fun z => m (by simp [z])) (hk' b o (sub b m) (kp b o m e)))
      (Heap.get?_update_self _ hS' rfl) (by rw [Array.toList_push, ha, List.map_append]; rfl) (by rw [List.length_append, hl]; rfl) (g.snoc nl rfl hs (by rw [hl]; exact Array.getElem?_eq_getElem hx) (by rw [hl]; exact Array.getElem?_eq_getElem hy) hp') (Nat.lt_trans hs (Heap.lt_size hp'))
end
theorem zip_len0 : typeLookup (.type "zip") "__len__" = pure none := am_miss_of_fast (by decide +kernel)
theorem zip_hint0 : typeLookup (.type "zip") "__length_hint__" = pure none := am_miss_of_fast (by decide +kernel)
section
variable {prog : Program} {w : World} {A : Around} {E : Value → Shared → Prop} {s : Shared}
/-- a zip of two tuples just made -/
structure Z0 (h : Heap) (z TI TO i1 i2 l1 l2 : Addr) (xs ys : Array Value) : Prop where
  iz : IsZip h z TI TO .none
  ti : IsPair h TI (.ref i1) (.ref i2)
  to : ∃ a b, IsPair h TO a b
  t1 : h.IsTupleIter i1 l1 0
  t2 : h.IsTupleIter i2 l2 0
  u1 : h.IsTuple l1 xs
  u2 : h.IsTuple l2 ys
  d : ZipApart z TI TO i1 i2 l1 l2
theorem Z0.keep {h h' : Heap} {z TI TO i1 i2 l1 l2 : Addr} {xs ys : Array Value} (q : Z0 h z TI TO i1 i2 l1 l2 xs ys) (k : ∀ b o, b < h.objs.size → h.get? b = some o → h'.get? b = some o) : Z0 h' z TI TO i1 i2 l1 l2 xs ys := by
  have kk : ∀ b o, h.get? b = some o → h'.get? b = some o := fun b o e => k b o (Heap.lt_size e) e
  obtain ⟨a, b, e⟩ := q.to
  obtain ⟨o1, e1, r1⟩ := q.u1
  obtain ⟨o2, e2, r2⟩ := q.u2
  exact ⟨kk _ _ q.iz, kk _ _ q.ti, ⟨a, b, kk _ _ e⟩, q.t1.at fun o e => kk _ o e, q.t2.at fun o e => kk _ o e, ⟨o1, kk _ _ e1, r1⟩, ⟨o2, kk _ _ e2, r2⟩, q.d⟩
theorem Z0.lt {h : Heap} {z TI TO i1 i2 l1 l2 : Addr} {xs ys : Array Value} (q : Z0 h z TI TO i1 i2 l1 l2 xs ys) : ∀ b ∈ [z, TI, TO, i1, i2, l1, l2], b < h.objs.size := by
  obtain ⟨a, b, e⟩ := q.to
  obtain ⟨o1, e1, r1⟩ := q.u1
  obtain ⟨o2, e2, r2⟩ := q.u2
  obtain ⟨o3, e3, _⟩ := q.t1
  obtain ⟨o4, e4, _⟩ := q.t2
  intro c hc
  simp only [List.mem_cons, List.not_mem_nil, or_false] at hc
  rcases hc with h | h | h | h | h | h | h
  · rw [h]; exact Heap.lt_size q.iz
  · rw [h]; exact Heap.lt_size q.ti
  · rw [h]; exact Heap.lt_size e
  · rw [h]; exact Heap.lt_size e3
  · rw [h]; exact Heap.lt_size e4
  · rw [h]; exact Heap.lt_size e1
  · rw [h]; exact Heap.lt_size e2
theorem z_extend {R : Result → Shared → Prop} {z TI TO i1 i2 l1 l2 S : Addr} {xs ys : Array Value} {n c₀ : Nat} (hh : A.handled = none) (q0 : Z0 s.heap z TI TO i1 i2 l1 l2 xs ys) (hn : n = min xs.size ys.size) (hz : n ≤ sizeLine)
    (aS : ∀ b ∈ [z, TI, TO, i1, i2, l1, l2], b < S) (res : Value) (hS : s.heap.get? S = some { cls := .type "list", data := .seq #[] c₀ })
    (hR : ∀ h' tk acc c as, (∀ b o, b ∉ [S, z, TO, i1, i2] → s.heap.get? b = some o → h'.get? b = some o) → h'.get? S = some { cls := .type "list", dict := none, data := .seq acc c, slots := #[] } → as.length = n → ZG xs ys S h' as →
      acc.toList = as.map Value.ref → R (.ok (.ret res)) { s with heap := h', toks := tk }) :
    wpAny (model prog w) A.in1 (Builtin.List.listExtendWith (.ref S) (.ref z) res) (fun fin s' => match fin with | .done f => R (.ok f) s' | .again c' => c'.quiet = true ∧ codeAny (model prog w) A c' R s') (fun e s' => R (.error e) s') s := by
  have nS : ∀ b ∈ [z, TI, TO, i1, i2, l1, l2], b ≠ S := fun b hb => Nat.ne_of_lt (aS b hb)
  have ty : s.TypeIs (.ref z) "zip" := ⟨_, q0.iz, rfl⟩
  have lS : S < s.heap.objs.size := Heap.lt_size hS
  unfold Builtin.List.listExtendWith
  refine wpAny_bind (wpAny_typeOf ty ?_)
  have e1 : Builtin.List.listSameRef (.ref S) (.ref z) = false := by simp [Builtin.List.listSameRef, Ne.symm (nS z (by simp))]
  have e2 : (Value.type "zip" == Value.type "list") = false := by decide
  have e3 : (Value.type "zip" == Value.type "tuple") = false := by decide
  simp only [e1, e2, e3, Bool.or_false, Bool.false_eq_true, if_false]
  refine wpAny_bind (wpAny_pyIter_zip q0.iz ?_); refine wpAny_bind (wpAny_holding ?_)
  unfold Builtin.List.listLengthHint
  refine wpAny_bind (wpAny_specialOf ty zip_len0 ?_); show wpAny _ A.in1 (specialOf (Value.ref z) (Str.ofString "__length_hint__") >>= _) _ _ s
  refine wpAny_bind (wpAny_specialOf ty zip_hint0 ?_); refine wpAny_pure ?_
  show wpAny _ A.in1 (rule "list.extend.makes-room" >>= fun _ => Builtin.List.listTouch (.ref S) >>= fun _ => again (.builtin "list.extend.loop" ⟨[.ref S, .ref z, res], []⟩)) _ _ s
  refine wpAny_bind (wpAny_rule ?_); refine wpAny_bind ?_
  show wpAny _ A.in1 (updateSeq S (·.push .none) >>= fun _ => updateSeq S (·.pop)) _ _ s
  refine wpAny_bind (wpAny_updateSeq hS rfl ?_)
  have g1 := Heap.get?_update_self (Obj.mapSeq (·.push Value.none)) hS rfl
  refine wpAny_updateSeq (hz := by seq_fits) g1 rfl ?_
  have g2 := Heap.get?_update_self (Obj.mapSeq (·.pop)) g1 rfl
  have oth : ∀ b o, b ≠ S → s.heap.get? b = some o → ((s.heap.update S (Obj.mapSeq (·.push Value.none))).update S (Obj.mapSeq (·.pop))).get? b = some o := fun b o n e => (Heap.get?_update_other _ _ (Ne.symm n)).trans ((Heap.get?_update_other _ _ (Ne.symm n)).trans e)
  obtain ⟨a, b, e⟩ := q0.to
  obtain ⟨o1, x1, r1⟩ := q0.u1
  obtain ⟨o2, x2, r2⟩ := q0.u2
  refine wpAny_pure ⟨plainId_quiet PySem.F.plain_extend_loop _, z_loop (s := s) (h₁ := s.heap) (lo := S) (n := n) hh q0.d hn hz ?_ ⟨nS _ (by simp), nS _ (by simp)⟩ ?_ res hR n 0 _ _ _ #[] [] (Nat.sub_zero _) (Nat.zero_le _)
    ⟨oth _ _ (nS _ (by simp)) q0.ti, q0.t1.at fun o e => oth _ o (nS _ (by simp)) e, q0.t2.at fun o e => oth _ o (nS _ (by simp)) e, .inl ⟨oth _ _ (nS _ (by simp)) q0.iz, a, b, oth _ _ (nS _ (by simp)) e⟩⟩
    ⟨o1, oth _ _ (nS _ (by simp)) x1, r1⟩ ⟨o2, oth _ _ (nS _ (by simp)) x2, r2⟩ (fun b o m e => oth b o (fun z => m (by simp [z])) e) g2 rfl rfl ⟨List.Pairwise.nil, (fun _ ha => nomatch ha), (fun j a hj => by simp at hj)⟩ (Heap.lt_size g2)⟩
  · intro m
    exact Nat.lt_irrefl _ (aS S (by
      simp only [List.mem_cons, List.not_mem_nil, or_false] at m ⊢
      rcases m with m | m | m | m | m
      · exact .inl m
      · exact .inr (.inl m)
      · exact .inr (.inr (.inl m))
      · exact .inr (.inr (.inr (.inl m)))
      · exact .inr (.inr (.inr (.inr (.inl m))))))
  · intro b hb
    simp only [List.mem_cons, List.not_mem_nil, or_false] at hb
    rcases hb with h | h | h | h | h
    · rw [h]; exact Nat.le_refl _
    · rw [h]; exact Nat.le_of_lt (aS _ (by simp))
    · rw [h]; exact Nat.le_of_lt (aS _ (by simp))
    · rw [h]; exact Nat.le_of_lt (aS _ (by simp))
    · rw [h]; exact Nat.le_of_lt (aS _ (by simp))
theorem z_call {Q : Value → Shared → Prop} {z TI TO i1 i2 l1 l2 : Addr} {xs ys : Array Value} {n : Nat} (hh : A.handled = none) (q0 : Z0 s.heap z TI TO i1 i2 l1 l2 xs ys) (hn : n = min xs.size ys.size) (hz : n ≤ sizeLine)
    (q : ∀ h' tk acc c as, (∀ b o, b ∉ [z, TO, i1, i2] → s.heap.get? b = some o → h'.get? b = some o) → h'.get? s.heap.objs.size = some { cls := .type "list", dict := none, data := .seq acc c, slots := #[] } → as.length = n → ZG xs ys s.heap.objs.size h' as →
      acc.toList = as.map Value.ref → Q (.ref s.heap.objs.size) { s with heap := h', toks := tk }) : wpAny (model prog w) A (call (.type "list") [.ref z]) Q E s := by
  refine callType_codes (Q₁ := fun obj s₁ => obj = .ref s.heap.objs.size ∧ s₁ = { s with heap := s.heap.push { cls := .type "list", data := .seq #[] } }) PySem.F.called_list (PySem.F.typeCall_list_1 _) PySem.F.entry_list_init (code_list_new _ ⟨rfl, rfl⟩) fun obj s₁ h₁ => ?_
  obtain ⟨rfl, rfl⟩ := h₁
  have hS : (s.heap.push { cls := .type "list", data := .seq #[] }).get? s.heap.objs.size = some { cls := .type "list", data := .seq #[] } := Heap.get?_push_size _ rfl
  refine ⟨⟨_, hS, rfl⟩, PySem.F.args_list_init_2 _ _, ?_⟩
  show wpAny _ _ (do let old ← Builtin.List.listItems (.ref s.heap.objs.size); Builtin.List.listUpdate (.ref s.heap.objs.size) (fun _ => #[]); letGo old.toList.reverse; Builtin.List.listExtendWith (.ref s.heap.objs.size) (.ref z) .none) _ _ _
  refine wpAny_bind ?_; unfold Builtin.List.listItems; refine wpAny_bind (wpAny_seqItems hS rfl (wpAny_pure ?_))
  show wpAny _ _ (updateSeq s.heap.objs.size (fun _ => #[]) >>= fun _ => letGo (#[] : Array Value).toList.reverse >>= fun _ => Builtin.List.listExtendWith (.ref s.heap.objs.size) (.ref z) .none) _ _ _
  refine wpAny_bind (wpAny_updateSeq hS rfl ?_)
  have g1 := Heap.get?_update_self (Obj.mapSeq (fun _ => (#[] : Array Value))) hS rfl
  have oth : ∀ b o, b ≠ s.heap.objs.size → s.heap.get? b = some o → ((s.heap.push { cls := .type "list", data := .seq #[] }).update s.heap.objs.size (Obj.mapSeq (fun _ => (#[] : Array Value)))).get? b = some o :=
    fun b o n e => (Heap.get?_update_other _ _ (Ne.symm n)).trans (Heap.get?_push_of_some _ e)
  refine wpAny_bind (wpAny_letGo ?_)
  refine z_extend (A := A.in1) hh (q0.keep fun b o lb e => oth b o (Nat.ne_of_lt lb) e) hn hz q0.lt .none g1 fun h' tk acc c as hk hS' hl hG ha => ?_
  refine ⟨rfl, q h' tk acc c as (fun b o m e => hk b o (fun y => ?_) (oth b o (Nat.ne_of_lt (Heap.lt_size e)) e)) hS' hl hG ha⟩
  rcases List.mem_cons.mp y with y | y
  · exact Nat.ne_of_lt (Heap.lt_size e) y
  · exact m y
end
/-- pairs tracked at these addresses -/
def putP : Hp → List Addr → List (V × V) → Hp
  | H, a :: as, p :: ps => putP (upd H a (.tup [p.1, p.2])) as ps
  | H, _, _ => H
theorem putP_off {b : Addr} : ∀ (as : List Addr) (ps : List (V × V)) (H : Hp), b ∉ as → putP H as ps b = H b
  | [], _, _, _ => by unfold putP; rfl
  | _ :: _, [], _, _ => by unfold putP; rfl
  | a :: as, p :: ps, H, h => by
    unfold putP
    rw [putP_off as ps _ fun z => h (List.mem_cons_of_mem _ z), upd_ne fun z => h (by rw [z]; exact List.mem_cons_self)]
theorem putP_at : ∀ (as : List Addr) (ps : List (V × V)) (H : Hp), as.length = ps.length → as.Nodup → ∀ (j : Nat) (a : Addr), as[j]? = some a → ∃ x y, ps[j]? = some (x, y) ∧ putP H as ps a = some (.tup [x, y])
  | [], _, _, _, _, _, _, e => by simp at e
  | _ :: _, [], _, h, _, _, _, _ => by cases h
  | a :: as, p :: ps, H, h, nd, j, b, e => by
    have nd := List.nodup_cons.mp nd
    unfold putP
    cases j with
    | zero =>
      cases e
      exact ⟨p.1, p.2, rfl, by rw [putP_off as ps _ nd.1, upd_same]⟩
    | succ j =>
      exact putP_at as ps _ (Nat.succ.inj h) nd.2 j b e
section
variable {X : Cx} {pins : List (Addr × Obj)} {σ : L2.St} {H : Hp} {s : Shared}
theorem zip_laid {h' : Heap} {tk c : Nat} {xs ys : List V} {its its2 : List Value} {acc : Array Value} {as : List Addr} {S n : Nat} (I : Inv X pins σ H s) (rx : Vals xs its) (ry : Vals ys its2) (hn : n = min xs.length ys.length) (hz : n ≤ sizeLine) (lS : s.heap.objs.size ≤ S)
    (hk : ∀ b o, s.heap.get? b = some o → h'.get? b = some o) (hS : h'.get? S = some { cls := .type "list", dict := none, data := .seq acc c, slots := #[] }) (hl : as.length = n) (g : ZG its.toArray its2.toArray S h' as) (ha : acc.toList = as.map Value.ref) :
    ∃ H' : Hp, Same H H' ∧ H S = none ∧ (∀ t ∈ as, H t = none) ∧ S ∉ as ∧ H' S = some (.lst (as.map V.ref)) ∧ (∀ (j : Nat) (t : Addr), as[j]? = some t → ∃ x y, xs[j]? = some x ∧ ys[j]? = some y ∧ H' t = some (.tup [x, y])) ∧ Inv X pins σ H' { s with heap := h', toks := tk } := by
  have nS : S ∉ as := fun z => Nat.lt_irrefl _ (g.above _ z)
  have nd : as.Nodup := List.Pairwise.imp (fun {a b} (h : a < b) => Nat.ne_of_lt h) g.rise
  have new : ∀ t ∈ as, H t = none := fun t ht => I.hok.fresh (Nat.le_trans lS (Nat.le_of_lt (g.above t ht)))
  have newS : H S = none := I.hok.fresh lS
  have lz : as.length = (xs.zip ys).length := by rw [List.length_zip, hl, hn]
  generalize hH : putP (upd H S (.lst (as.map V.ref))) as (xs.zip ys) = H'
  have atP : ∀ (j : Nat) (t : Addr), as[j]? = some t → ∃ x y, xs[j]? = some x ∧ ys[j]? = some y ∧ H' t = some (.tup [x, y]) := fun j t e => by
    obtain ⟨x, y, e1, e2⟩ := putP_at as (xs.zip ys) (upd H S (.lst (as.map V.ref))) lz nd j t e
    rw [hH] at e2
    have q := List.getElem?_zip_eq_some.mp e1
    exact ⟨x, y, q.1, q.2, e2⟩
  have off : ∀ b, b ∉ as → b ≠ S → H' b = H b := fun b h1 h2 => by rw [← hH, putP_off as _ _ h1, upd_ne h2]
  have lo : ∀ b o, s.heap.get? b = some o → b ∉ as ∧ b ≠ S := fun b o e => ⟨fun z => absurd (Nat.lt_of_lt_of_le (Heap.lt_size e) (Nat.le_trans lS (Nat.le_of_lt (g.above b z)))) (Nat.lt_irrefl _), Nat.ne_of_lt (Nat.lt_of_lt_of_le (Heap.lt_size e) lS)⟩
  have kp : Same H H' := fun b u e => by
    rw [off b (fun z => by rw [new b z] at e; cases e) (fun z => by rw [z, newS] at e; cases e)]
    exact e
  have eS : H' S = some (.lst (as.map V.ref)) := by rw [← hH, putP_off as _ _ nS, upd_same]
  refine ⟨H', kp, newS, new, nS, eS, atP, ?_⟩
  refine I.call' (ch := []) rfl ⟨fun b o e _ _ _ => hk b o e, fun b o e _ _ _ => ⟨o.slots, hk b o e⟩, fun b o e m _ => ?_, fun b o e _ => ⟨o, hk b o e⟩, fun b vs e => kp b _ e, fun b o u e => kp b _ e, fun b ps e => ⟨#[], by rw [kp b _ e]; simp⟩⟩ (fun b u e => ?_) I.bare fun b z => by simp at z
  · obtain ⟨z1, z2⟩ := lo b o e
    rw [off b z1 z2]
    exact m
  · by_cases hb : b ∈ as
    · obtain ⟨j, ej⟩ := List.mem_iff_getElem?.mp hb
      obtain ⟨x, y, ex, ey, et⟩ := atP j b ej
      rw [et] at e
      cases e
      obtain ⟨u, v, eu, ev, hp⟩ := g.pairs j b ej
      obtain ⟨u', eu', ru⟩ := rx.get ex
      obtain ⟨v', ev', rv⟩ := ry.get ey
      have a1 : u' = u := by
        have eu : its[j]? = some u := by simpa using eu
        rw [eu] at eu'
        exact (Option.some.inj eu').symm
      have a2 : v' = v := by
        have ev : its2[j]? = some v := by simpa using ev
        rw [ev] at ev'
        exact (Option.some.inj ev').symm
      subst a1
      subst a2
      exact ⟨by show 2 ≤ sizeLine; decide, [u', v'], .cons ru (.cons rv .nil), ⟨_, hp, rfl, _, rfl⟩⟩
    · by_cases hb2 : b = S
      · rw [hb2] at e ⊢
        rw [eS] at e
        cases e
        refine ⟨by rw [List.length_map]; omega, acc.toList, c, by rw [ha]; exact LiI.vals_refs as, ?_⟩
        rw [Array.toArray_toList]
        exact hS
      · rw [off b hb hb2] at e
        exact (I.hok b u e).stay (fun d v _ y => hk d v y) (fun d y => kp d _ y) fun d vs y => kp d _ y
end
/-- list(zip(t, u)) of two tuples -/
def tListZip (K : PySem.W.Frag) (ta : TA) : TE := fun σ H Q => ta σ H fun vs H1 => ∃ a b xs ys, vs = [.ref a, .ref b] ∧ SqT K H1 a xs ∧ SqT K H1 b ys ∧
  ∀ (p : Addr) (ts : List Addr) (H' : Hp), Same H1 H' → H1 p = none → (∀ t ∈ ts, H1 t = none) → p ∉ ts → H' p = some (.lst (ts.map V.ref)) → ts.length = min xs.length ys.length → (∀ (j : Nat) (t : Addr), ts[j]? = some t → ∃ x y, xs[j]? = some x ∧ ys[j]? = some y ∧ H' t = some (.tup [x, y])) → Q (.ref p) H'
section
variable {X : Cx} {e e2 : Expr} {ta : TA} {p p2 zpos pos : Pos}
theorem pe_listZip (hc : X.calm = true) (ha : PA X [e, e2] ta) (hg : Gl X "list") (hm : X.mg "list" = none) (hgz : Gl X "zip") (hmz : X.mg "zip" = none)
    (hs : starEach [.Call (.Name "zip" p2) [e, e2] [] zpos] X.env = (false, eval (.Call (.Name "zip" p2) [e, e2] [] zpos) X.env) :: starEach [] X.env := by rfl)
    (hs2 : starEach [e, e2] X.env = (false, eval e X.env) :: starEach [e2] X.env := by rfl) (hpl : (backTo zpos (starEach [e2] X.env)).any (·.1) = false := by rfl) :
    PE X (.Call (.Name "list" p) [.Call (.Name "zip" p2) [e, e2] [] zpos] [] pos) (tListZip X.K ta) := by
  refine ⟨fun pins s σ H Q I hq => ?_⟩
  refine wpAny_Call_Name_kw (ld_blt I hg hm b_list ?_); refine PyProof.Rows.callWith_type1 ?_ hs rfl
  rw [hs]
  show wpAny _ _ (spliced ((false, eval (.Call (.Name "zip" p2) [e, e2] [] zpos) X.env) :: backTo pos (starEach [] X.env))) _ _ s
  refine Calls.spliced_cons ?_
  refine Call_ (ld_blt I hgz hmz PyProof.Rows.boot_zip (PyProof.Rows.callWith_type1 (thn (ha.run zpos pins s σ H _ I hq) fun us s1 ⟨vs, H1, I1, r1, q1⟩ => ?_) hs2 hpl))
  obtain ⟨a, b, xs, ys, ex, hx, hy, q⟩ := q1
  subst ex
  obtain ⟨u, u2, rfl, ru, ru2⟩ := vals2 r1
  cases ru
  cases ru2
  obtain ⟨its, rx, px, bx⟩ := I1.tuple hx
  obtain ⟨its2, ry, py, bY⟩ := I1.tuple hy
  obtain ⟨o1, e1, r1'⟩ := id px
  obtain ⟨o2, e2', r2'⟩ := id py
  have lx := rx.length
  have ly := ry.length
  refine RZ.call_zipT (show s1.heap.IsTuple a its.toArray from px) (show s1.heap.IsTuple b its2.toArray from py) fun h' hz hTI hTO h1 h2 hsz hk => ?_
  refine Calls.spliced_nil ?_
  have q0 : Z0 h' (s1.heap.objs.size + 4) (s1.heap.objs.size + 2) (s1.heap.objs.size + 3) s1.heap.objs.size (s1.heap.objs.size + 1) a b its.toArray its2.toArray :=
    ⟨hz, hTI, ⟨_, _, hTO⟩, h1, h2, ⟨o1, hk _ _ e1, r1'⟩, ⟨o2, hk _ _ e2', r2'⟩, PySem.W.ktu_apart s1.heap.objs.size a b (Heap.lt_size e1) (Heap.lt_size e2')⟩
  refine z_call (n := min xs.length ys.length) (s := { s1 with heap := h' }) (I1.ok.hd hc) q0 (by rw [List.size_toArray, List.size_toArray, lx, ly]) (Nat.le_trans (Nat.min_le_left _ _) bx) fun h'' tk acc c as hk2 hS hl g hacc => ?_
  have kk : ∀ b o, s1.heap.get? b = some o → h''.get? b = some o := fun b o z => hk2 b o (fun m => by
    have lb := Heap.lt_size z
    simp only [List.mem_cons, List.not_mem_nil, or_false] at m
    rcases m with m | m | m | m <;> rw [m] at lb <;> first | exact Nat.lt_irrefl _ lb | exact absurd lb (Nat.not_lt.mpr (Nat.le_add_right _ _))) (hk b o z)
  obtain ⟨H', k1, k2, k3, k4, k5, k6, J⟩ := zip_laid (S := h'.objs.size) (tk := tk) I1 rx ry rfl (Nat.le_trans (Nat.min_le_left _ _) bx) (by rw [hsz]; exact Nat.le_add_right _ _) kk hS hl g hacc
  exact ⟨.ref _, H', J, rfl, q _ as H' k1 k2 k3 k4 k5 hl k6⟩
end
open AutoSeq1 (wpAny_loadPart')
open PySem.SeqAt (EqAt)
/-- < of two tuples: what stands behind the first unequal pair need not be ordered -/
theorem tup_ltAt (l b : Addr) (xs ys : Array Value) (n m : Nat) (d1 d2 : Option Addr) (s1 s2 : Array (Option Value)) (e r : Nat → Bool) :
    Meets (Builtin.«tuple.__lt__» ⟨[.ref l, .ref b], []⟩) (fun A R s => s.heap.get? l = some { cls := .type "tuple", dict := d1, data := .seq xs n, slots := s1 } ∧ s.heap.get? b = some { cls := .type "tuple", dict := d2, data := .seq ys m, slots := s2 } ∧
        (∀ j (h1 : j < xs.size) (h2 : j < ys.size), EqAt A.in1 s xs[j] ys[j] (e j)) ∧ (∀ j (h1 : j < xs.size) (h2 : j < ys.size), (∀ i, i < j → e i = true) → e j = false → Ob.RcOp .Lt A.in1 s xs[j] ys[j] (r j)) ∧
        R (.ok (.ret (.bool (Ob.lexAt e r (decide (xs.size < ys.size)) 0 (min xs.size ys.size))))) s) :=
  .of_wp fun prog w A R s h => by
    obtain ⟨hp, g, d, tk, os⟩ := s
    obtain ⟨hl, hb, he, hr, h⟩ := h
    have f2 := AutoSeq1.sub_tuple_tuple
    have hZ : (xs.toList.zip ys.toList).length = min xs.size ys.size := by simp
    wp_walk using wpAny_loadPart' hl, wpAny_loadPart' hb, wpAny_forIn_list _ (fun rest b s' => b.1 = none ∧ s' = ⟨hp, g, d, tk, os⟩ ∧ ∃ i, rest = (xs.toList.zip ys.toList).drop i ∧ (∀ k, k < i → e k = true) ∧
      R (.ok (.ret (.bool (Ob.lexAt e r (decide (xs.size < ys.size)) i (min xs.size ys.size - i))))) ⟨hp, g, d, tk, os⟩) _
    case turn =>
      rintro ⟨y, x⟩ rest b s' ⟨hb', rfl, i, hz, hi, hR⟩
      have lt : i < (xs.toList.zip ys.toList).length := by
        by_cases q : i < (xs.toList.zip ys.toList).length
        · exact q
        · rw [List.drop_of_length_le (Nat.le_of_not_lt q)] at hz; cases hz
      have q1 : i < xs.size := by omega
      have q2 : i < ys.size := by omega
      rw [List.drop_eq_getElem_cons lt] at hz; injection hz with hyx hrest
      have ey : y = xs[i] := by simpa using congrArg Prod.fst hyx
      have ex : x = ys[i] := by simpa using congrArg Prod.snd hyx
      subst ey ex
      rw [show min xs.size ys.size - i = (min xs.size ys.size - (i + 1)) + 1 by omega, Ob.lexAt_succ] at hR
      refine wpAny_bind (he i q1 q2 prog w _ _ ?_)
      cases hei : e i with
      | true =>
        rw [hei, if_pos rfl] at hR; wp_walk
        exact ⟨rfl, rfl, i + 1, hrest, fun k hk => (Nat.lt_succ_iff_lt_or_eq.mp hk).elim (hi k) fun z => by rw [z]; exact hei, hR⟩
      | false =>
        rw [hei, if_neg Bool.false_ne_true] at hR; have hri := hr i q1 q2 hi hei prog w
        wp_walk using hri
        exact ⟨_, rfl, by simpa using hR⟩
    case fin =>
      rintro ⟨b1, b2⟩ s' ⟨hb', rfl, i, hz, hi, hR⟩
      simp only at hb'; subst hb'
      have ge : min xs.size ys.size ≤ i := by
        by_cases q : i < (xs.toList.zip ys.toList).length
        · rw [List.drop_eq_getElem_cons q] at hz; cases hz
        · omega
      rw [Nat.sub_eq_zero_of_le ge, Ob.lexAt_zero] at hR; wp_walk
      exact ⟨_, rfl, by simpa [Builtin.Tuple.tupleCompareSizes] using hR⟩
    case h => exact ⟨rfl, rfl, 0, rfl, fun k hk => absurd hk (Nat.not_lt_zero k), by simpa using h⟩
theorem tups_lt {A : Around} {s : Shared} {l b : Addr} {xs ys : Array Value} {e r : Nat → Bool} (hl : s.heap.IsTuple l xs) (hb : s.heap.IsTuple b ys) (hu : A.units < cLine) (he : ∀ j (h1 : j < xs.size) (h2 : j < ys.size), EqAt A.in1 s xs[j] ys[j] (e j))
    (hr : ∀ j (h1 : j < xs.size) (h2 : j < ys.size), (∀ i, i < j → e i = true) → e j = false → Ob.RcOp .Lt A.in1 s xs[j] ys[j] (r j)) : Ob.RcOp .Lt A s (.ref l) (.ref b) (Ob.lexAt e r (decide (xs.size < ys.size)) 0 (min xs.size ys.size)) := fun prog w E Q h => by
  obtain ⟨⟨c1, d1, a1, s1⟩, g1, hc, n, hd⟩ := id hl
  obtain ⟨⟨c2, d2, a2, s2⟩, g2, hc2, m, hd2⟩ := id hb
  simp only at hc hd hc2 hd2
  subst hc hd hc2 hd2
  exact richCompare_meets_room (op := .Lt) ⟨_, g1, rfl⟩ ⟨_, g2, rfl⟩ F.slot_tuple_lt F.entry_tuple_lt (F.args_tuple_lt_2 _ _) (tup_ltAt l b xs ys n m d1 d2 s1 s2 e r) ⟨g1, g2, he, hr, ⟨(fun x => nomatch x), h⟩⟩ hu
/-! ranks of values -/
inductive Rk where
  | i (m : Int) (b : Bool)
  | s (m : Int) (x : Str)
  | t (m : Int)
  | f
def rkV : Rk → List V
  | .i m b => [.int 0, .int m, .bl b]
  | .s m x => [.int 1, .int m, .str x]
  | .t m => [.int 2, .int m]
  | .f => [.int 3]
def rkD : Rk → List PyData
  | .i m b => [.int 0, .int m, .bool b]
  | .s m x => [.int 1, .int m, .str x]
  | .t m => [.int 2, .int m]
  | .f => [.int 3]
def rkEq : Rk → Rk → Bool
  | .i m b, .i n c => m == n && b == c
  | .s m x, .s n y => m == n && x == y
  | .t m, .t n => m == n
  | .f, .f => true
  | _, _ => false
def rkTag : Rk → Int
  | .i _ _ => 0
  | .s _ _ => 1
  | .t _ => 2
  | .f => 3
def rkLt : Rk → Rk → Bool
  | .i m b, .i n c => if m = n then !b && c else decide (m < n)
  | .s m x, .s n y => if m = n then decide (x.cps.toList < y.cps.toList) else decide (m < n)
  | .t m, .t n => decide (m < n)
  | a, b => decide (rkTag a < rkTag b)
theorem rk_eqv (a b : Rk) : PyData.eqv (.tuple (rkD a)) (.tuple (rkD b)) = rkEq a b := by
  cases a <;> cases b <;> simp [PyData.eqv, PyData.eqvAll, rkD, rkEq]
/-- what the pairs of two ranks give -/
def rkE (a b : Rk) (j : Nat) : Bool := PyData.eqv ((rkD a).getD j .none) ((rkD b).getD j .none)
def rkR : PyData → PyData → Bool
  | .int i, .int j => decide (i < j)
  | .str x, .str y => decide (x.cps.toList < y.cps.toList)
  | .bool b, .bool c => !b && c
  | _, _ => false
theorem rk_len (a : Rk) : (rkD a).length = (rkV a).length := by cases a <;> rfl
theorem str_irr (x : Str) : ¬ x.cps.toList < x.cps.toList := fun h => List.lt_irrefl _ h
theorem rk_lex (a b : Rk) : Ob.lexAt (rkE a b) (fun j => rkR ((rkD a).getD j .none) ((rkD b).getD j .none)) (decide ((rkD a).length < (rkD b).length)) 0 (min (rkD a).length (rkD b).length) = rkLt a b := by
  cases a with
  | i m p =>
    cases b with
    | i n c =>
      by_cases h : m = n
      · subst h
        cases p <;> cases c <;> simp [Ob.lexAt, rkE, rkR, rkD, rkLt, PyData.eqv]
      · simp [Ob.lexAt, rkE, rkR, rkD, rkLt, PyData.eqv, h]
    | _ => simp [Ob.lexAt, rkE, rkR, rkD, rkLt, PyData.eqv, rkTag]
  | s m x =>
    cases b with
    | s n y =>
      by_cases h : m = n
      · subst h
        by_cases hx : x = y
        · subst hx
          simp [Ob.lexAt, rkE, rkR, rkD, rkLt, PyData.eqv, str_irr x]
        · simp [Ob.lexAt, rkE, rkR, rkD, rkLt, PyData.eqv, hx]
      · simp [Ob.lexAt, rkE, rkR, rkD, rkLt, PyData.eqv, h]
    | _ => simp [Ob.lexAt, rkE, rkR, rkD, rkLt, PyData.eqv, rkTag]
  | t m =>
    cases b with
    | t n =>
      by_cases h : m = n
      · subst h
        simp [Ob.lexAt, rkE, rkR, rkD, rkLt, PyData.eqv]
      · simp [Ob.lexAt, rkE, rkR, rkD, rkLt, PyData.eqv, h]
    | _ => simp [Ob.lexAt, rkE, rkR, rkD, rkLt, PyData.eqv, rkTag]
  | f => cases b <;> simp [Ob.lexAt, rkE, rkR, rkD, rkLt, PyData.eqv, rkTag]
/-- a flat thing and its data -/
def FlV : Value → PyData → Prop
  | .int i _, .int j => i = j
  | .str x _, .str y => x = y
  | .bool b, .bool c => b = c
  | _, _ => False
theorem flat_eq {A : Around} {s : Shared} {u v : Value} {d e : PyData} (h : FlV u d) (k : FlV v e) : EqAt A s u v (PyData.eqv d e) := by
  cases u <;> cases d <;> first | exact h.elim | skip
  all_goals cases v <;> cases e <;> first | exact k.elim | skip
  all_goals simp only [FlV] at h k
  all_goals subst h
  all_goals subst k
  · simpa only [PyData.eqv] using SeqAt.EqAt.bool_bool _ _
  · simpa only [PyData.eqv] using SeqAt.EqAt.bool_int _ _ _
  · simpa only [PyData.eqv] using SeqAt.EqAt.bool_str _ _ _
  · simpa only [PyData.eqv] using SeqAt.EqAt.int_bool _ _ _
  · simpa only [PyData.eqv] using SeqAt.EqAt.int_int _ _ _ _
  · simpa only [PyData.eqv] using SeqAt.EqAt.int_str _ _ _ _
  · simpa only [PyData.eqv] using SeqAt.EqAt.str_bool _ _ _
  · simpa only [PyData.eqv] using SeqAt.EqAt.str_int _ _ _ _
  · simpa only [PyData.eqv] using SeqAt.EqAt.str_str _ _ _ _
def sameK : PyData → PyData → Bool
  | .int _, .int _ => true
  | .str _, .str _ => true
  | .bool _, .bool _ => true
  | _, _ => false
theorem flat_lt {A : Around} {s : Shared} {u v : Value} {d e : PyData} (h : FlV u d) (k : FlV v e) (sk : sameK d e = true) : Ob.RcOp .Lt A s u v (rkR d e) := by
  cases u <;> cases d <;> first | exact h.elim | skip
  all_goals cases v <;> cases e <;> first | exact k.elim | cases sk | skip
  all_goals simp only [FlV] at h k
  all_goals subst h
  all_goals subst k
  · rename_i b c
    intro prog w E Q q
    refine PyProof.Rows.lt_bool (p := b) (q := c) ?_
    cases b <;> cases c <;> exact q
  · exact fun prog w E Q q => PyProof.Rows.lt_int q
  · exact fun prog w E Q q => PyProof.Rows.lt_str q
theorem rk_flat {r : Rk} {us : List Value} (h : Vals (rkV r) us) : ∀ j (hj : j < us.toArray.size), FlV us.toArray[j] ((rkD r).getD j .none) := by
  cases r with
  | i m b =>
    cases h with
    | cons h0 h =>
    cases h with
    | cons h1 h =>
    cases h with
    | cons h2 h =>
    cases h
    obtain ⟨t, rfl⟩ := h0
    obtain ⟨t, rfl⟩ := h1
    cases h2
    intro j hj
    match j, hj with
    | 0, _ => rfl
    | 1, _ => rfl
    | 2, _ => rfl
  | s m x =>
    cases h with
    | cons h0 h =>
    cases h with
    | cons h1 h =>
    cases h with
    | cons h2 h =>
    cases h
    obtain ⟨t, rfl⟩ := h0
    obtain ⟨t, rfl⟩ := h1
    obtain ⟨t, rfl⟩ := h2
    intro j hj
    match j, hj with
    | 0, _ => rfl
    | 1, _ => rfl
    | 2, _ => rfl
  | t m =>
    cases h with
    | cons h0 h =>
    cases h with
    | cons h1 h =>
    cases h
    obtain ⟨t, rfl⟩ := h0
    obtain ⟨t, rfl⟩ := h1
    intro j hj
    match j, hj with
    | 0, _ => rfl
    | 1, _ => rfl
  | f =>
    cases h with
    | cons h0 h =>
    cases h
    obtain ⟨t, rfl⟩ := h0
    intro j hj
    match j, hj with
    | 0, _ => rfl
theorem rk_kinds (a b : Rk) : ∀ j, j < (rkD a).length → j < (rkD b).length → (∀ i, i < j → rkE a b i = true) → sameK ((rkD a).getD j .none) ((rkD b).getD j .none) = true := by
  intro j ha hb pre
  cases a <;> cases b <;> simp only [rkD, List.length_cons, List.length_nil] at ha hb
  all_goals
    match j with
    | 0 => rfl
    | 1 => first | rfl | omega
    | 2 => first | rfl | (have z := pre 0 (by omega); simp [rkE, rkD, PyData.eqv] at z; done) | omega
    | j + 3 => omega
/-- rank < rank -/
def rLtR (K : PySem.W.Frag) : R2 := fun x y H Q => ∃ a b r1 r2, x = .ref a ∧ y = .ref b ∧ SqT K H a (rkV r1) ∧ SqT K H b (rkV r2) ∧ Q (.bl (rkLt r1 r2)) H
theorem op_ltR {X : Cx} (hu : X.A.units + 64 < cLine) : OpR X (compareOp .Lt) (rLtR X.K) := by
  intro pins s σ H x y v u Q I rx ry h
  obtain ⟨a, b, r1, r2, rfl, rfl, ha, hb, q⟩ := h
  cases rx
  cases ry
  obtain ⟨its, w1, p1, _⟩ := I.tuple ha
  obtain ⟨its2, w2, p2, _⟩ := I.tuple hb
  have e1 : its.toArray.size = (rkD r1).length := by rw [List.size_toArray, ← w1.length, rk_len]
  have e2 : its2.toArray.size = (rkD r2).length := by rw [List.size_toArray, ← w2.length, rk_len]
  have R := tups_lt (A := X.A) (s := s) (e := rkE r1 r2) (r := fun j => rkR ((rkD r1).getD j .none) ((rkD r2).getD j .none)) p1 p2 (by omega) (fun j h1 h2 => flat_eq (rk_flat w1 j h1) (rk_flat w2 j h2))
    (fun j h1 h2 pre _ => flat_lt (rk_flat w1 j h1) (rk_flat w2 j h2) (rk_kinds r1 r2 j (by omega) (by omega) pre))
  rw [e1, e2, rk_lex] at R
  exact R X.prog X.w X.xe (EP X pins σ Q) ⟨.bl _, H, I, rfl, q⟩
theorem rk_dp {K : PySem.W.Frag} {H : Hp} (r : Rk) : DpAll K H (rkV r) (rkD r) := by
  cases r with
  | i m b => exact .cons (.int _) (.cons (.int _) (.cons (.bl _) .nil))
  | s m x => exact .cons (.int _) (.cons (.int _) (.cons (.str _) .nil))
  | t m => exact .cons (.int _) (.cons (.int _) .nil)
  | f => exact .cons (.int _) .nil
/-! the order of values -/
def rkOf : PyData → Rk
  | .int i => .i i.natAbs (decide (i < 0))
  | .str x => .s x.length x
  | .tuple ds => .t ds.length
  | _ => .f
def rkCmp (a b : Rk) : Ordering := if rkLt a b = true then .lt else if rkLt b a = true then .gt else .eq
mutual
def cmpD : PyData → PyData → Ordering
  | .tuple as, e => match e with
    | .tuple bs => if as.length = bs.length then cmpDs as bs else rkCmp (.t as.length) (.t bs.length)
    | e => rkCmp (.t as.length) (rkOf e)
  | .int i, e => rkCmp (rkOf (.int i)) (rkOf e)
  | .str x, e => rkCmp (rkOf (.str x)) (rkOf e)
  | .none, e => rkCmp .f (rkOf e)
  | .bool _, e => rkCmp .f (rkOf e)
  | .list _, e => rkCmp .f (rkOf e)
  | .dict _, e => rkCmp .f (rkOf e)
def cmpDs : List PyData → List PyData → Ordering
  | [], _ => .eq
  | a :: as, bs => match bs with
    | [] => .eq
    | b :: bs => match cmpD a b with
      | .eq => cmpDs as bs
      | o => o
end
theorem str_tri {x y : Str} (h : ¬ x.cps.toList < y.cps.toList) (k : ¬ y.cps.toList < x.cps.toList) : x = y := by
  have e : x.cps.toList = y.cps.toList := List.le_antisymm (List.not_lt.mp k) (List.not_lt.mp h)
  exact TL.ext_tl e
theorem rk_asym {a b : Rk} (h : rkLt a b = true) : rkLt b a = false := by
  cases a <;> cases b <;> simp [rkLt, rkTag] at h ⊢
  · rename_i m b n c
    by_cases e : m = n
    · subst e
      simp at h ⊢
      cases b <;> cases c <;> simp at h ⊢
    · have e2 : ¬ n = m := fun z => e z.symm
      simp [e, e2] at h ⊢
      omega
  · rename_i m x n y
    by_cases e : m = n
    · subst e
      simp at h ⊢
      exact List.lt_asymm h
    · have e2 : ¬ n = m := fun z => e z.symm
      simp [e, e2] at h ⊢
      omega
  · omega
theorem rk_tri {a b : Rk} (h : rkLt a b = false) (k : rkLt b a = false) : rkEq a b = true := by
  cases a <;> cases b <;> simp [rkLt, rkEq, rkTag] at h k ⊢
  · rename_i m b n c
    by_cases e : m = n
    · subst e
      cases b <;> cases c <;> simp at h k ⊢
    · have e2 : ¬ n = m := fun z => e z.symm
      simp [e, e2] at h k
      omega
  · rename_i m x n y
    by_cases e : m = n
    · subst e
      simp at h k
      exact ⟨rfl, str_tri (List.not_lt.mpr h) (List.not_lt.mpr k)⟩
    · have e2 : ¬ n = m := fun z => e z.symm
      simp [e, e2] at h k
      omega
  · omega
theorem rk_irr {a b : Rk} (h : rkEq a b = true) : rkLt a b = false ∧ rkLt b a = false := by
  cases a <;> cases b <;> simp [rkLt, rkEq, rkTag] at h ⊢
  · obtain ⟨rfl, rfl⟩ := h
    simp
  · obtain ⟨rfl, rfl⟩ := h
    simp
  · omega
theorem rkCmp_swap (a b : Rk) : rkCmp b a = (rkCmp a b).swap := by
  unfold rkCmp
  cases h : rkLt a b with
  | true =>
    rw [rk_asym h]
    rfl
  | false => cases k : rkLt b a <;> rfl
theorem rkCmp_eq {a b : Rk} (h : rkEq a b = true) : rkCmp a b = .eq := by
  unfold rkCmp
  rw [(rk_irr h).1, (rk_irr h).2]
  rfl
theorem rkCmp_lt {a b : Rk} (h : rkEq a b = false) : (rkCmp a b == .lt) = rkLt a b ∧ rkCmp a b ≠ .eq := by
  unfold rkCmp
  cases h1 : rkLt a b with
  | true => exact ⟨rfl, fun z => nomatch z⟩
  | false =>
    cases h2 : rkLt b a with
    | true => exact ⟨rfl, fun z => nomatch z⟩
    | false =>
      rw [rk_tri h1 h2] at h
      cases h
mutual
theorem cmpD_swap : ∀ a b : PyData, cmpD b a = (cmpD a b).swap
  | .tuple as, .tuple bs => by
    simp only [cmpD]
    by_cases h : as.length = bs.length
    · rw [if_pos h, if_pos h.symm]
      exact cmpDs_swap as bs
    · rw [if_neg h, if_neg fun z => h z.symm]
      exact rkCmp_swap _ _
  | .tuple as, .int _ => by simp only [cmpD]; exact rkCmp_swap _ _
  | .tuple as, .str _ => by simp only [cmpD]; exact rkCmp_swap _ _
  | .tuple as, .none => by simp only [cmpD]; exact rkCmp_swap _ _
  | .tuple as, .bool _ => by simp only [cmpD]; exact rkCmp_swap _ _
  | .tuple as, .list _ => by simp only [cmpD]; exact rkCmp_swap _ _
  | .tuple as, .dict _ => by simp only [cmpD]; exact rkCmp_swap _ _
  | .int i, b => by cases b <;> (simp only [cmpD]; exact rkCmp_swap _ _)
  | .str i, b => by cases b <;> (simp only [cmpD]; exact rkCmp_swap _ _)
  | .none, b => by cases b <;> (simp only [cmpD]; exact rkCmp_swap _ _)
  | .bool _, b => by cases b <;> (simp only [cmpD]; exact rkCmp_swap _ _)
  | .list _, b => by cases b <;> (simp only [cmpD]; exact rkCmp_swap _ _)
  | .dict _, b => by cases b <;> (simp only [cmpD]; exact rkCmp_swap _ _)
theorem cmpDs_swap : ∀ as bs : List PyData, cmpDs bs as = (cmpDs as bs).swap
  | [], [] => by simp only [cmpDs]; rfl
  | [], _ :: _ => by simp only [cmpDs]; rfl
  | _ :: _, [] => by simp only [cmpDs]; rfl
  | a :: as, b :: bs => by
    simp only [cmpDs]
    rw [cmpD_swap a b]
    have ih := cmpDs_swap as bs
    cases cmpD a b <;> first | exact ih | rfl
end
/-- one that is not a tuple, or one of another length, is told by its rank -/
theorem cmpD_rk {a b : PyData} (h : rkEq (rkOf a) (rkOf b) = false) : cmpD a b = rkCmp (rkOf a) (rkOf b) := by
  cases a <;> cases b <;> simp only [cmpD, rkOf]
  rename_i as bs
  rw [if_neg]
  intro z
  simp [rkOf, rkEq, z] at h
def topS (i : Nat) : Stmt := PySem.Challenge.pw_runlore_k03_values_in_order.main.body.getD i (.Pass ⟨0, 0, 0, 0⟩)
abbrev sInit : Stmt := inClass (topS 1) 0
abbrev sEq : Stmt := inClass (topS 1) 1
abbrev sStr : Stmt := inClass (topS 1) 2
abbrev sRep : Stmt := inClass (topS 1) 3
theorem scInit : FnScope ["self", "word", "rule", "path"] ["self", "word", "rule", "path"] (defScope sInit) := ⟨rfl, rfl, rfl, by decide +kernel, rfl, by decide +kernel, by decide +kernel⟩
theorem scEq : FnScope ["self", "other"] ["self", "other"] (defScope sEq) := ⟨rfl, rfl, rfl, by decide +kernel, rfl, by decide +kernel, by decide +kernel⟩
theorem scStr : FnScope ["self"] ["self"] (defScope sStr) := ⟨rfl, rfl, rfl, by decide +kernel, rfl, by decide +kernel, by decide +kernel⟩
theorem scRep : FnScope ["self"] ["self"] (defScope sRep) := ⟨rfl, rfl, rfl, by decide +kernel, rfl, by decide +kernel, by decide +kernel⟩
/-- the attributes of a fault -/
def fl (wd : Str) (r p : V) : List (Str × V) := putF "path" p (putF "rule" r (putF "word" (.str wd) []))
theorem kwr : ¬ (("word" : Str) = "rule") := by decide +kernel
theorem kwp : ¬ (("word" : Str) = "path") := by decide +kernel
theorem krp : ¬ (("rule" : Str) = "path") := by decide +kernel
theorem fl_word (wd : Str) (r p : V) : (fl wd r p).lookup ("word" : Str) = some (.str wd) := by
  unfold fl
  rw [lookup_putF, if_neg kwp, lookup_putF, if_neg kwr, lookup_putF, if_pos rfl]
theorem fl_rule (wd : Str) (r p : V) : (fl wd r p).lookup ("rule" : Str) = some r := by
  unfold fl
  rw [lookup_putF, if_neg krp, lookup_putF, if_pos rfl]
theorem fl_path (wd : Str) (r p : V) : (fl wd r p).lookup ("path" : Str) = some p := by
  unfold fl
  rw [lookup_putF, if_pos rfl]
/-- a fault stands at a -/
def FaultAt (C : Addr) (H : Hp) (a : Addr) (wd : Str) (r p : V) : Prop := ∃ dx, H a = some (.ins C dx (fl wd r p))
structure FaC (K : PySem.W.Frag) (mg : Str → Option Value) (C fE : Addr) : Prop where
  o : OwnC K C fE
  nw : NoAttr K C "word"
  nr : NoAttr K C "rule"
  np : NoAttr K C "path"
  mg : mg "Fault" = some (.ref C)
  kc : PySem.W.keepIn K (.ref C) = true
def spInitF (C : Addr) : Sp := fun vs H Q _ => ∃ (a dx : Addr) (wd : Str) (r p : V), vs = [.ref a, .str wd, r, p] ∧ H a = some (.ins C dx []) ∧ ∀ H', H' a = some (.ins C dx (fl wd r p)) → (∀ b, b ≠ a → H' b = H b) → Q .non H'
def spEqF (K : PySem.W.Frag) (C : Addr) : Sp := fun vs H Q _ => ∃ a wd r p y, vs = [.ref a, y] ∧ FaultAt C H a wd r p ∧
  ((∃ d, Dp K H y d ∧ Q (.bl false) H) ∨ ∃ b wd' r' p', y = .ref b ∧ FaultAt C H b wd' r' p' ∧ Q (.bl (decide (wd = wd'))) H)
def spStrF (C : Addr) : Sp := fun vs H Q _ => ∃ a wd r p, vs = [.ref a] ∧ FaultAt C H a wd r p ∧ Sm 20 wd ∧ Q (.str (Str.empty ++ ("fault " : Str) ++ wd)) H
def spRepF (C : Addr) : Sp := fun vs H Q _ => ∃ a wd r p, vs = [.ref a] ∧ FaultAt C H a wd r p ∧ Sm 20 wd ∧ Q (.str (Str.empty ++ ("Fault(" : Str) ++ reprText wd ++ (")" : Str))) H
theorem rep_len {n : Nat} {x : Str} (h : Sm n x) : (reprText x).length ≤ 10 * n + 2 := by
  have q := StrLaws.reprText_len x (fun c hc => Nat.lt_of_lt_of_le (h.lo c hc) (by decide))
  have := h.le
  omega
section
variable {P : Program} {w : World} {K : PySem.W.Frag} {mg : Str → Option Value} {base : Heap} {f C fE : Addr} {fd : FuncData}
theorem ok_initF {k : Nat} {dvs : List V} (F : FunD K "__init__" "Fault.__init__" (defArgs sInit) (defBody sInit) (defScope sInit) dvs [] f fd) (T : FaC K mg C fE) : FnOk P w K mg base CX0 (k + 1) f fd ["self", "word", "rule", "path"] (spInitF C) := by
  refine F.ok scInit (fun vs H Q E h => ?_) (fun cdv A outer s H vs Q E hr h => ?_)
  · obtain ⟨a, dx, wd, r, p, rfl, _⟩ := h
    rfl
  obtain ⟨a, dx, wd, r, p, rfl, ha, q⟩ := h
  refine ⟨_, pss_cons (ps_fld (pv 0) (pv 1) rfl) (pss_cons (ps_fld (pv 0) (pv 2) rfl) (pss_one (ps_fld (pv 0) (pv 3) rfl))), ?_⟩
  refine ⟨_, rfl, _, rfl, a, C, dx, [], rfl, ha, T.o.c.cl, T.nw, (by show 0 < 1000; decide), _, rfl, _, rfl, a, C, dx, _, rfl, upd_same, T.o.c.cl, T.nr, ?_, _, rfl, _, rfl, a, C, dx, _, rfl, upd_same, T.o.c.cl, T.np, ?_, q _ upd_same fun b hb => by rw [upd_ne hb, upd_ne hb, upd_ne hb]⟩
  · show 1 < 1000
    decide
  · have e : (putF "rule" r (putF "word" (.str wd) [])).length = 2 := by
      show (if ("word" : Str) = "rule" then _ else _ : List (Str × V)).length = 2
      rw [if_neg kwr]
      rfl
    rw [e]
    decide
theorem ok_eqF {k : Nat} (F : Fun K "__eq__" "Fault.__eq__" sEq f fd) (T : FaC K mg C fE) (B : Bi mg) : FnOk P w K mg base CX0 (k + 1) f fd ["self", "other"] (spEqF K C) := by
  refine F.ok scEq (fun vs H Q E h => ?_) (fun cdv A outer s H vs Q E hr h => ?_)
  · obtain ⟨a, wd, r, p, y, rfl, _⟩ := h
    rfl
  obtain ⟨a, wd, r, p, y, rfl, ⟨dx, ha⟩, q⟩ := h
  refine ⟨_, pss_one (ps_ret (pe_and (pe_callB call_isi (by rfl) B.ii b_ii (pa_cons (pv 1) (pa_cons (pe_glob (by rfl) T.mg (v := .ref C) rfl) pa_nil)))
    (pe_one (pe_cmpR op_eq (pe_fld (pv 0) rfl) (pe_fld (pv 1) rfl) (nomark _))))), ?_⟩
  rcases q with ⟨d, hd, q⟩ | ⟨b, wd', r', p', rfl, ⟨dy, hb⟩, q⟩
  · refine ⟨_, rfl, y, .ref C, _, _, false, rfl, .own C, tyD hd, (T.o.of hd).1, _, rfl, iteF q⟩
  · refine ⟨_, rfl, .ref b, .ref C, _, _, true, rfl, .own C, .base (.ins hb T.o.c.cl T.o.c.ha T.o.c.hn T.o.c.htk T.o.c.hm), T.o.c.me, _, rfl, iteT ?_⟩
    refine ⟨_, rfl, a, C, dx, _, _, rfl, ha, T.o.c.cl, T.nw, fl_word _ _ _, _, rfl, b, C, dy, _, _, rfl, hb, T.o.c.cl, T.nw, fl_word _ _ _, rfl, ?_⟩
    have e : decide (V.str wd = V.str wd') = decide (wd = wd') := by
      by_cases h : wd = wd'
      · rw [decide_eq_true h, decide_eq_true (congrArg V.str h)]
      · rw [decide_eq_false h, decide_eq_false fun z => h (V.str.inj z)]
    show Q (V.bl (decide (V.str wd = V.str wd'))) H
    rw [e]
    exact q
theorem ok_strF {k : Nat} (F : Fun K "__str__" "Fault.__str__" sStr f fd) (T : FaC K mg C fE) : FnOk P w K mg base CX0 (k + 1) f fd ["self"] (spStrF C) := by
  refine F.ok scStr (fun vs H Q E h => ?_) (fun cdv A outer s H vs Q E hr h => ?_)
  · obtain ⟨a, wd, r, p, rfl, _⟩ := h
    rfl
  obtain ⟨a, wd, r, p, rfl, ⟨dx, ha⟩, sw, q⟩ := h
  refine ⟨_, pss_one (ps_ret (pe_joined (.cons pe_str (.cons (pe_fmt (pe_fld (pv 0) rfl)) .nil)))), ?_⟩
  refine ⟨_, rfl, by decide +kernel, _, rfl, a, C, dx, _, _, rfl, ha, T.o.c.cl, T.nw, fl_word _ _ _, .inl ⟨wd, rfl, sw.fits (by decide), _, rfl, ?_, q⟩⟩
  have e : (Str.empty ++ ("fault " : Str)).length = 6 := by decide +kernel
  rw [Str.length_append, e]
  have := sw.le
  exact few (by omega)
theorem ok_repF {k : Nat} (F : Fun K "__repr__" "Fault.__repr__" sRep f fd) (T : FaC K mg C fE) : FnOk P w K mg base CX0 (k + 1) f fd ["self"] (spRepF C) := by
  refine F.ok scRep (fun vs H Q E h => ?_) (fun cdv A outer s H vs Q E hr h => ?_)
  · obtain ⟨a, wd, r, p, rfl, _⟩ := h
    rfl
  obtain ⟨a, wd, r, p, rfl, ⟨dx, ha⟩, sw, q⟩ := h
  refine ⟨_, pss_one (ps_ret (pe_joined (.cons pe_str (.cons (pe_fmtR (pe_fld (pv 0) rfl)) (.cons pe_str .nil))))), ?_⟩
  have rl := rep_len sw
  have e : (Str.empty ++ ("Fault(" : Str)).length = 6 := by decide +kernel
  have e2 : (")" : Str).length = 1 := by decide +kernel
  refine ⟨_, rfl, by decide +kernel, _, rfl, a, C, dx, _, _, rfl, ha, T.o.c.cl, T.nw, fl_word _ _ _, .inl ⟨wd, rfl, few (by omega), _, rfl, ?_, _, rfl, ?_, q⟩⟩
  · rw [Str.length_append, e]
    exact few (by omega)
  · rw [Str.length_append, Str.length_append, e, e2]
    exact few (by omega)
end
abbrev sBox : Stmt := topS 5
abbrev sTake : Stmt := topS 6
theorem c47 : (0 : Int) < 2147483647 := by decide
theorem c29 : (0 : Int) < 2147483629 := by decide
/-! _law_take: some number below many; the box stays a box -/
def spTake : Sp := fun vs H Q _ => ∃ (p g : Addr) (m : Int), vs = [.ref p, .int m] ∧ Box H p g ∧ 0 < m ∧ m.natAbs < 2 ^ 200 ∧
  ∀ (r : Int) (H' : Hp), 0 ≤ r → r < m → Box H' p g → Off [p, g] H H' → Q (.int r) H'
def spBox (K : PySem.W.Frag) : Sp := fun vs H Q _ => ∃ (a : Addr) (ns : List Int) (c : Int), vs = [.ref a, .int c] ∧ SqL K H a (ns.map V.int) ∧ ns.length ≤ 63 ∧ 0 ≤ c ∧ c < 1000 ∧
  ∀ (p g : Addr) (H' : Hp), Box H' p g → Same H H' → H p = none → H g = none → Q (.ref p) H'
theorem scTake : FnScope ["_law_box_here", "_law_many", "_law_digit", "_law_one"] ["_law_box_here", "_law_many"] (defScope sTake) :=
  ⟨rfl, rfl, rfl, by decide +kernel, rfl, by decide +kernel, by decide +kernel⟩
section
variable {P : Program} {w : World} {K : PySem.W.Frag} {mg : Str → Option Value} {base : Heap} {f : Addr} {fd : FuncData}
theorem get_now {H : Hp} {p g : Addr} {n s t : Int} (h : H p = some (.dK (bx g n s t))) : DGet H p (.str "now") (some (.int n)) := by
  have q := DGet.k (k := (Sum.inr "now" : Key)) h
  rw [bx_now] at q
  exact q
theorem get_great {H : Hp} {p g : Addr} {n s t : Int} (h : H p = some (.dK (bx g n s t))) : DGet H p (.str "great") (some (.ref g)) := by
  have q := DGet.k (k := (Sum.inr "great" : Key)) h
  rw [bx_great] at q
  exact q
theorem get_seed {H : Hp} {p g : Addr} {n s t : Int} (h : H p = some (.dK (bx g n s t))) : DGet H p (.str "seed") (some (.int s)) := by
  have q := DGet.k (k := (Sum.inr "seed" : Key)) h
  rw [bx_seed] at q
  exact q
theorem get_turn {H : Hp} {p g : Addr} {n s t : Int} (h : H p = some (.dK (bx g n s t))) : DGet H p (.str "turn") (some (.int t)) := by
  have q := DGet.k (k := (Sum.inr "turn" : Key)) h
  rw [bx_turn] at q
  exact q
theorem set_now {H : Hp} {p g : Addr} {n s t : Int} (y : Int) (h : H p = some (.dK (bx g n s t))) : DPut H p (.str "now") (.int y) (upd H p (.dK (bx g y s t))) := by
  have q := DPut.k (k := (Sum.inr "now" : Key)) (v := .int y) h (by show 4 < sizeLine; decide)
  rw [put_now] at q
  exact q
theorem set_seed {H : Hp} {p g : Addr} {n s t : Int} (y : Int) (h : H p = some (.dK (bx g n s t))) : DPut H p (.str "seed") (.int y) (upd H p (.dK (bx g n y t))) := by
  have q := DPut.k (k := (Sum.inr "seed" : Key)) (v := .int y) h (by show 4 < sizeLine; decide)
  rw [put_seed] at q
  exact q
theorem set_turn {H : Hp} {p g : Addr} {n s t : Int} (y : Int) (h : H p = some (.dK (bx g n s t))) : DPut H p (.str "turn") (.int y) (upd H p (.dK (bx g n s y))) := by
  have q := DPut.k (k := (Sum.inr "turn" : Key)) (v := .int y) h (by show 4 < sizeLine; decide)
  rw [put_turn] at q
  exact q
theorem ok_take {k : Nat} (F : Fun K "_law_take" "_law_take" sTake f fd) (ml : mg "len" = none) : FnOk P w K mg base CX0 (k + 1) f fd ["_law_box_here", "_law_many"] spTake := by
  refine F.ok scTake (fun vs H Q E h => ?_) (fun cdv A outer s H vs Q E hr h => ?_)
  · obtain ⟨p, g, m, rfl, _⟩ := h
    rfl
  obtain ⟨p, g, m, rfl, ⟨n, sd, t, gs, hp, hg, hl⟩, m0, m9, q⟩ := h
  have hu := hu_of hr
  have npg : p ≠ g := ne_of hp hg (by intro z; cases z)
  refine ⟨_, C8.pss_cut (ps_if (PW.pt (pw_and (pt_cmpR op_eq (pe_dget hu (pv 0) pe_str (fun _ _ => rfl)) pe_int (nomark _))
        (pw_and1 (pt_cmpR op_gt (pe_callB call_len_seq (by rfl) ml PySem.boot_len (pa_cons (pe_dget hu (pv 0) pe_str (fun _ _ => rfl)) pa_nil)) pe_int (nomark _)))))
        (pss_one (ps_dput hu (pv 0) pe_str (pe_bm0 PySem.F.plainAttrs_list PySem.F.slot_list_pop PySem.F.type_list_pop mt_pop (pe_dget hu (pv 0) pe_str (fun _ _ => rfl))) rfl)) pss_nil)
    (pss_cons (ps_if (pt_cmpR op_gt (pe_dget hu (pv 0) pe_str (fun _ _ => rfl)) pe_int (nomark _))
        (pss_cons (ps_set (i := 2) scTake.nd rfl (.inl rfl) (pe_op op_mod (pe_dget hu (pv 0) pe_str (fun _ _ => rfl)) (pv 1)))
        (pss_cons (ps_dput hu (pv 0) pe_str (pe_op op_fdivW (pe_dget hu (pv 0) pe_str (fun _ _ => rfl)) (pv 1)) rfl)
        (pss_one (ps_ret (pv 2))))) pss_nil)
    (pss_cons (ps_dput hu (pv 0) pe_str (pe_op op_add (pe_dget hu (pv 0) pe_str (fun _ _ => rfl)) pe_int) rfl)
    (pss_cons (ps_set (i := 3) scTake.nd rfl (.inl rfl) (pe_op op_mod (pe_op op_mul (pe_op op_mod (pe_op op_add (pe_dget hu (pv 0) pe_str (fun _ _ => rfl))
        (pe_op op_mul pe_int (pe_dget hu (pv 0) pe_str (fun _ _ => rfl)))) pe_int) pe_int) pe_int))
    (pss_cons (ps_dput hu (pv 0) pe_str (pe_op op_add (pe_op op_mod (pe_op op_add (pv 3) (pe_op op_mul pe_int (pe_dget hu (pv 0) pe_str (fun _ _ => rfl)))) pe_int) pe_int) rfl)
    (pss_one (ps_ret (pe_op op_mod (pe_op op_fdiv (pe_op op_add (pe_op op_mul (pv 3) pe_int) (pe_dget hu (pv 0) pe_str (fun _ _ => rfl))) pe_int) (pv 1)))))))), ?_⟩
  refine ⟨fun σ H1 => ∃ n1 gs1, σ = [some (.ref p), some (.int m), none, none] ∧ H1 p = some (.dK (bx g n1 sd t)) ∧ H1 g = some (.lst (List.map V.int gs1)) ∧ gs1.length ≤ 1000 ∧ Off [p, g] H H1, ?_, ?_⟩
  · refine ⟨_, rfl, p, _, rfl, get_now hp, rfl, _, rfl, ite2 (fun c => ?_) (fun c => iteF ⟨n, gs, rfl, hp, hg, hl, Off.refl _ _⟩)⟩
    refine ⟨_, rfl, p, _, rfl, get_great hp, g, _, rfl, .inl (SqL.of hg), _, _, rfl, rfl, _, rfl, ite2 (fun c2 => ?_) (fun c2 => ⟨n, gs, rfl, hp, hg, hl, Off.refl _ _⟩)⟩
    have c3 : (0 : Int) < (((List.map V.int gs).length : Nat) : Int) := of_decide_eq_true c2
    rw [List.length_map] at c3
    have hlast : (List.map V.int gs)[(List.map V.int gs).length - 1]? = some (V.int (gs[gs.length - 1]'(by omega))) := by
      rw [List.length_map, List.getElem?_map, List.getElem?_eq_getElem (by omega)]
      rfl
    have hp1 : (upd H g (.lst (List.map V.int gs).dropLast)) p = some (.dK (bx g n sd t)) := by rw [upd_ne npg]; exact hp
    refine ⟨_, rfl, p, _, rfl, get_great hp, .inl ⟨rfl, _, .inl (.inl hg)⟩, g, _, _, rfl, rfl, hg, hlast, _, rfl, p, _, rfl, set_now _ hp1, ?_⟩
    refine ⟨_, gs.dropLast, rfl, upd_same, ?_, ?_, ?_⟩
    · rw [upd_ne npg.symm, upd_same, List.map_dropLast]
    · rw [List.length_dropLast]
      omega
    · exact (Off.put (by simp)).trans (Off.put (by simp))
  · rintro σ H1 ⟨n1, gs1, rfl, hp1, hg1, hl1, of1⟩
    refine ⟨_, rfl, p, _, rfl, get_now hp1, _, _, rfl, rfl, _, rfl, ite2 (fun c => ?_) (fun c => ?_)⟩
    · refine ⟨_, rfl, p, _, rfl, get_now hp1, _, rfl, _, _, rfl, rfl, m0, ?_⟩
      refine ⟨_, rfl, p, _, rfl, get_now hp1, _, rfl, _, _, rfl, rfl, wide_div m0 m9 (by decide) (by decide), _, rfl, p, _, rfl, set_now _ hp1, ?_⟩
      refine ⟨_, rfl, q _ _ (Int.emod_nonneg _ (by omega)) (Int.emod_lt_of_pos _ m0) ⟨_, sd, t, gs1, upd_same, by rw [upd_ne npg.symm]; exact hg1, hl1⟩ (of1.trans (Off.put (by simp)))⟩
    · refine ⟨_, rfl, p, _, rfl, get_turn hp1, _, _, rfl, rfl, _, rfl, p, _, rfl, set_turn _ hp1, ?_⟩
      refine ⟨_, rfl, p, _, rfl, get_seed upd_same, _, rfl, p, _, rfl, get_turn upd_same, _, _, rfl, rfl, .inl ⟨by decide, by decide⟩, _, _, rfl, rfl, _, _, rfl, rfl, c47, _, _, rfl, rfl, .inr ⟨by decide, by decide⟩, _, _, rfl, rfl, c47, ?_⟩
      refine ⟨_, rfl, _, rfl, p, _, rfl, get_seed upd_same, _, _, rfl, rfl, .inl ⟨by decide, by decide⟩, _, _, rfl, rfl, _, _, rfl, rfl, c29, _, _, rfl, rfl, _, rfl, p, _, rfl, set_seed _ upd_same, ?_⟩
      refine ⟨_, rfl, _, _, rfl, rfl, .inr ⟨by decide, by decide⟩, _, rfl, p, _, rfl, get_seed upd_same, _, _, rfl, rfl, _, _, rfl, rfl, ⟨by decide, by decide⟩, _, rfl, _, _, rfl, rfl, m0, ?_⟩
      refine q _ _ (Int.emod_nonneg _ (by omega)) (Int.emod_lt_of_pos _ m0) ⟨n1, _, _, gs1, upd_same, ?_, hl1⟩ (of1.trans ((Off.put (by simp)).trans (Off.put (by simp))))
      rw [upd_ne npg.symm, upd_ne npg.symm]
      exact hg1
end
theorem cutV_ints (ns : List Int) (lo hi : Option Int) : ∃ ms : List Int, cutV (ns.map V.int) lo hi = ms.map V.int ∧ ms.length ≤ ns.length := by
  refine ⟨(ns.drop (HT.sIx ns.length 0 lo)).take (HT.sIx ns.length ns.length hi - HT.sIx ns.length 0 lo), ?_, ?_⟩
  · unfold cutV
    rw [List.length_map, List.map_take, List.map_drop]
  · rw [List.length_take, List.length_drop]
    omega
theorem int_at {ms : List Int} {i : Nat} {y : V} (h : (ms.map V.int)[i]? = some y) : ∃ z, y = V.int z := by
  rw [List.getElem?_map] at h
  cases e : ms[i]? with
  | none =>
    rw [e] at h
    cases h
  | some z =>
    rw [e] at h
    exact ⟨z, (Option.some.inj h).symm⟩
theorem scBox : FnScope ["_law_script", "_law_base", "_law_seed", "_law_cell", "_law_great"] ["_law_script", "_law_base"] (defScope sBox) :=
  ⟨rfl, rfl, rfl, by decide +kernel, rfl, by decide +kernel, by decide +kernel⟩
section
variable {P : Program} {w : World} {K : PySem.W.Frag} {mg : Str → Option Value} {base : Heap} {f : Addr} {fd : FuncData}
theorem ok_box {k : Nat} (F : Fun K "_law_box" "_law_box" sBox f fd) (mab : mg "abs" = none) : FnOk P w K mg base CX0 (k + 1) f fd ["_law_script", "_law_base"] (spBox K) := by
  refine F.ok scBox (fun vs H Q E h => ?_) (fun cdv A outer s H vs Q E hr h => ?_)
  · obtain ⟨a, ns, c, rfl, _⟩ := h
    rfl
  obtain ⟨a, ns, c, rfl, hS, hlen, c0, c9, q⟩ := h
  have hu := hu_of hr
  refine ⟨_, pss_cons (ps_set (i := 2) scBox.nd rfl (.inl rfl) (pe_op op_add pe_int (pe_op op_mul pe_int (pv 1))))
    (pss_cons (ps_for PassesOwn.never rfl (pi_list (pe_slice sl_list (pv 0) po_none (po_some pe_int))) (pg_name (i := 3) scBox.nd rfl (.inl rfl))
      (pss_one (ps_set (i := 2) scBox.nd rfl (.inl rfl) (pe_op op_mod (pe_op op_add (pe_op op_add (pe_op op_mul (pv 2) pe_int)
        (pe_op op_mod (pe_callB call_abs (by rfl) mab (by decide +kernel) (pa_cons (pv 3) pa_nil)) pe_int)) pe_int) pe_int))))
    (pss_cons (ps_setLc (i := 4) (own := [("_law_cell", 3)]) (g := gName 3) (by rfl) scBox.nd rfl rfl (sw_true rfl rfl rfl (by decide +kernel))
      (pi_list (pe_slice sl_list (pv 0) (po_some (pv 1)) (po_some pe_int)))
      (blkOk_by (own := [("_law_cell", 3)]) (N := ["_law_script", "_law_base", "_law_seed", "_law_cell", "_law_great"]) (sc := defScope sBox) (by decide +kernel))
      (fun _ _ _ _ _ => pg_name (i := 3) scBox.nd rfl (Or.inl rfl))
      (fun _ _ _ _ _ => pts_one (pt_cmpR op_ge (pe_callB call_abs (by rfl) mab (by decide +kernel) (pa_cons (pv 3) pa_nil)) (pe_op op_pow pe_int pe_int) (nomark _)))
      (fun _ _ _ _ _ => pe_callB call_abs (by rfl) mab (by decide +kernel) (pa_cons (pv 3) pa_nil)))
    (pss_one (ps_ret (pe_disp (pps_cons pe_str (pe_revL (pv 4)) (pps_cons pe_str pe_int (pps_cons pe_str (pe_op op_add (pv 2) pe_int) (pps_cons pe_str pe_int pps_nil))))
      (by rfl) (by rfl) (fun z => by cases z) (by decide)))))), ?_⟩
  refine ⟨_, rfl, _, _, rfl, rfl, .inl ⟨by decide, by decide⟩, _, _, rfl, rfl, ?_⟩
  refine ⟨_, rfl, 50, rfl, a, _, rfl, hS, fun q0 hq0 => ?_⟩
  obtain ⟨ms, em, lm⟩ := cutV_ints ns none (some 50)
  rw [em]
  have s1 : Same H (upd H q0 (.lst (ms.map V.int))) := same_new hq0 _
  refine ⟨q0, rfl, ⟨_, SqL.of upd_same⟩, for_list (K := K) (a := q0) (xs := ms.map V.int) (fun i σ H2 => ∃ (z : Int) (v : Option V), σ = [some (.ref a), some (.int c), some (.int z), v, none] ∧ -(2 ^ 40) < z ∧ z < 2 ^ 40 ∧ H2 = upd H q0 (.lst (ms.map V.int)))
    ⟨7001 + 211 * c, none, rfl, by omega, by omega, rfl⟩ (fun i σ H2 _ ⟨_, _, _, _, _, e⟩ => by rw [e]; exact SqL.of upd_same) ?_ ?_⟩
  · rintro i y σ H2 hi ⟨z, v, rfl, z0, z1, rfl⟩
    obtain ⟨x, rfl⟩ := int_at hi
    refine ⟨_, rfl, _, _, rfl, rfl, .inr ⟨by decide, by decide⟩, _, rfl, _, rfl, _, _, rfl, rfl, c29, _, _, rfl, rfl, _, _, rfl, rfl, _, _, rfl, rfl, c47, ?_⟩
    exact ⟨_, _, rfl, Int.lt_of_lt_of_le (by decide) (Int.emod_nonneg _ (by decide)), Int.lt_trans (Int.emod_lt_of_pos _ c47) (by decide), rfl⟩
  · rintro σ H2 ⟨z, v, rfl, z0, z1, rfl⟩
    refine ⟨_, rfl, _, rfl, c, rfl, 50, rfl, a, _, rfl, s1.seq hS, fun q1 hq1 => ?_⟩
    obtain ⟨ks, ek, lk⟩ := cutV_ints ns (some c) (some 50)
    rw [ek]
    have s2 := s1.trans (same_new hq1 (.lst (ks.map V.int)))
    refine ⟨q1, rfl, ⟨_, SqL.of upd_same⟩, fun D hD => lc_list (K := K) (a := q1) (xs := ks.map V.int) (fun i H3 => ∃ gs : List Int, gs.length ≤ i ∧ H3 D = some (.lst (gs.map V.int)) ∧ H3 q1 = some (.lst (ks.map V.int)) ∧ Same H H3)
      ⟨[], Nat.le_refl _, upd_same, by rw [upd_ne (ne_of_none upd_same hD), upd_same], s2.trans (same_new hD _)⟩ (fun i H3 _ ⟨_, _, _, h, _⟩ => SqL.of h) ?_ ?_⟩
    · rintro i y H3 hi ⟨gs, lg, h1, h2, h3⟩
      have hik := (List.getElem?_eq_some_iff.mp hi).1
      rw [List.length_map] at hik
      obtain ⟨x, rfl⟩ := int_at hi
      refine ⟨rfl, _, rfl, _, rfl, _, _, rfl, rfl, ⟨by decide, by decide, by decide⟩, _, _, rfl, rfl, _, rfl, ite2 (fun _ => ?_) (fun _ => ?_)⟩
      · refine ⟨_, rfl, _, rfl, _, h1, ?_, gs ++ [if x < 0 then -x else x], ?_, ?_, ?_, ?_⟩
        · rw [List.length_map]
          exact small1000 (by omega)
        · rw [List.length_append, List.length_singleton]
          omega
        · rw [upd_same, List.map_append]
          rfl
        · rw [upd_ne (ne_of_none upd_same hD)]
          exact h2
        · intro b o e
          rw [upd_ne (ne_of_none e (s2.free hD))]
          exact h3 b o e
      · exact ⟨gs, by omega, h1, h2, h3⟩
    · rintro H3 ⟨gs, lg, h1, h2, h3⟩
      rw [List.length_map] at lg
      refine fun p hp => ⟨_, rfl, D, _, rfl, SqL.of (by rw [upd_ne (ne_of_none h1 hp)]; exact h1), fun g hg => ?_⟩
      have ngp : g ≠ p := fun e => by
        rw [e, upd_same] at hg
        cases hg
      have hp2 : (upd (upd H3 p (.dK [])) g (.lst (gs.map V.int).reverse)) p = some (.dK []) := by rw [upd_ne ngp.symm, upd_same]
      refine ⟨_, rfl, _, _, rfl, rfl, hp2, bx g 0 (z + 1) 0, rfl, by show 4 ≤ 15; decide, ?_⟩
      rw [mer_box]
      have hg3 : H3 g = none := by
        rw [upd_ne ngp] at hg
        exact hg
      refine q p g _ ⟨0, z + 1, 0, gs.reverse, upd_same, ?_, ?_⟩ ?_ (h3.free hp) (h3.free hg3)
      · rw [upd_ne ngp, upd_same, List.map_reverse]
      · rw [List.length_reverse]
        omega
      · intro b o e
        have e3 := h3 b o e
        rw [upd_ne (ne_of_none e3 hp), upd_ne (ne_of_none e3 hg3), upd_ne (ne_of_none e3 hp)]
        exact e3
end
structure Tk (P : Program) (w : World) (K : PySem.W.Frag) (mg : Str → Option Value) (base : Heap) (f : Addr) (fd : FuncData) : Prop where
  ok : FnOk P w K mg base CX0 1 f fd ["_law_box_here", "_law_many"] spTake
  kp : PySem.W.keepIn K (.ref f) = true
  bd : Binds K fd ["_law_box_here", "_law_many"] []
  mg : mg "_law_take" = some (.ref f)
theorem atI_ok {α : Type} {xs : List α} {r : Int} (h0 : 0 ≤ r) (h : r < (xs.length : Int)) : ∃ x, atI xs r = some x ∧ x ∈ xs ∧ xs[r.toNat]? = some x := by
  have hr : r.toNat < xs.length := by omega
  have e : r = (r.toNat : Int) := by omega
  have q : atI xs ((r.toNat : Nat) : Int) = some xs[r.toNat] := atI_nat (List.getElem?_eq_getElem hr)
  rw [← e] at q
  exact ⟨xs[r.toNat], q, List.getElem_mem hr, List.getElem?_eq_getElem hr⟩
theorem okG {P : Program} {w : World} {K : PySem.W.Frag} {mg : Str → Option Value} {base : Heap} {x qual : Str} {st : Stmt} {f : Addr} {fd : FuncData} {N ps : List Str} {k : Nat} {sp : Sp} (F : Fun K x qual st f fd) (S : FnScope N ps (defScope st))
    (len : ∀ ws H Q E, sp ws H Q E → ws.length = ps.length)
    (hb : ∀ (cdv : Value) (A : Around) (outer : List Env) (s : Shared) (H : Hp) (vs : List V) (Q : VK) (E : XK), A.guards = some [] → Room k (A.deeper (envOfC qual (defScope st) s.heap.objs.size f cdv)) → sp vs H Q E →
      ∃ t, PSs (cxOf CX0 P w K mg base N qual (defScope st) f cdv A outer s H E).nox (defBody st) t ∧ t { nx := fun _ H' => Q .non H', rt := Q } (start N vs) H) : FnG P w K mg base CX0 (k + 1) f fd ps sp := by
  obtain ⟨oc, od, kV, doc, pm, an, cdv, ct, osl, rfl, lk, hcd⟩ := F.ex
  refine fnG_of lk hcd S len ?_
  intro A outer s H vs Q E hg hr hsp
  obtain ⟨t, h, q⟩ := hb cdv A outer s H vs Q E hg hr hsp
  exact ⟨t, h.nox, q⟩
theorem bool_prn (b : Bool) : Prn (.bool b) := prn_of (by simp only [gd]) (by simp only [nod]; omega) (by simp only [PyData.depth]; omega)
/-- a def of the top that keeps a promise -/
structure Dn (P : Program) (w : World) (K : PySem.W.Frag) (mg : Str → Option Value) (base : Heap) (lvl : Nat) (nm : Str) (ps : List Str) (sp : Sp) (f : Addr) (fd : FuncData) : Prop where
  ok : FnOk P w K mg base CX0 lvl f fd ps sp
  kp : PySem.W.keepIn K (.ref f) = true
  bd : Binds K fd ps []
  mg : mg nm = some (.ref f)
theorem cut_less {l m : List Addr} {H : Hp} (h : ∀ b ∈ m, b ∈ l) : Same (cut l H) (cut m H) := fun b o e => by
  obtain ⟨n, e⟩ := cut_some e
  rw [cut_out (fun z => n (h b z))]
  exact e
theorem cut_more {l : List Addr} {H : Hp} {a : Addr} {o : HO} (h : H a = none) : Same (cut l H) (cut (a :: l) (upd H a o)) := fun b u e => by
  obtain ⟨n, e⟩ := cut_some e
  have nb := ne_of_none e h
  rw [cut_out (fun z => (List.mem_cons.mp z).elim nb n), upd_ne nb]
  exact e
theorem dp_true {K : PySem.W.Frag} {H : Hp} {b : Bool} (h : b = true) : Dp K H (.bl b) (.bool true) := by
  rw [h]
  exact .bl true
theorem DpAll.parts {K : PySem.W.Frag} {H : Hp} {xs : List V} {ds : List PyData} (h : DpAll K H xs ds) (i : Nat) : DpAll K H (xs.take i) (ds.take i) ∧ DpAll K H (xs.drop i) (ds.drop i) := by
  have lx := DpAll.len h
  obtain ⟨d1, d2, e, a, b⟩ := DpAll.unapp (xs := xs.take i) (ys := xs.drop i) (by rw [List.take_append_drop]; exact h)
  have la := DpAll.len a
  have lb := DpAll.len b
  rw [List.length_take] at la
  rw [List.length_drop] at lb
  subst e
  by_cases hi : i ≤ xs.length
  · have l1 : d1.length = i := by omega
    have e1 : (d1 ++ d2).take i = d1 := by rw [← l1]; exact List.take_left
    have e2 : (d1 ++ d2).drop i = d2 := by rw [← l1]; exact List.drop_left
    rw [e1, e2]
    exact ⟨a, b⟩
  · have l2 : d2 = [] := List.length_eq_zero_iff.mp (by omega)
    subst l2
    rw [List.append_nil, List.take_of_length_le (l := d1) (by omega), List.drop_of_length_le (l := d1) (by omega)]
    exact ⟨a, b⟩
theorem cutV_dp {K : PySem.W.Frag} {H : Hp} {xs : List V} {ds : List PyData} (h : DpAll K H xs ds) (lo hi : Option Int) : ∃ es, DpAll K H (cutV xs lo hi) es ∧ ∀ e ∈ es, e ∈ ds := by
  unfold cutV
  exact ⟨_, (DpAll.parts (DpAll.parts h _).2 _).1, fun e he => List.mem_of_mem_drop (List.mem_of_mem_take he)⟩
theorem gd_int {i : Int} (h : i.natAbs < 2 ^ 1000) : gd (.int i) = true := by
  simp only [gd]
  exact decide_eq_true (Nat.lt_trans (PySem.Flt.log2_lt_of (by decide) h) (by decide))
theorem FaultAt.up {C : Addr} {H H' : Hp} {a : Addr} {wd : Str} {r p : V} (s : Same H H') (h : FaultAt C H a wd r p) : FaultAt C H' a wd r p := by
  obtain ⟨dx, h⟩ := h
  exact ⟨dx, s _ _ h⟩
/-- how a fault is made -/
structure MkF (P : Program) (w : World) (K : PySem.W.Frag) (mg : Str → Option Value) (base : Heap) (C fI : Addr) (dI : FuncData) (t0 : Addr) : Prop where
  mkr : Mk K C fI
  ok : FnOk P w K mg base CX0 1 fI dI ["self", "word", "rule", "path"] (spInitF C)
  b2 : ∃ ds, Vals [.str "", .ref t0] ds ∧ Binds K dI ["self", "word", "rule", "path"] ds
  b3 : ∃ ds, Vals [.ref t0] ds ∧ Binds K dI ["self", "word", "rule", "path"] ds
  b4 : ∃ ds, Vals [] ds ∧ Binds K dI ["self", "word", "rule", "path"] ds
  bk : ∃ its : List Value, KBn K dI ["self", "word", "rule", "path"] 1 ["path", "word"] (fun us ws => us ++ (ws.drop 1 ++ (its.take 1 ++ ws.take 1))) (fun vs zs => vs ++ (zs.drop 1 ++ ([V.str "", .ref t0].take 1 ++ zs.take 1)))
  z : ∀ H, SqT K H t0 []
theorem mem_words {n : Nat} : ∀ {xs : List Str}, (xs.all fun x => decide (x.length ≤ n) && x.cps.toList.all fun c => decide (c < 128)) = true → ∀ v ∈ xs.map V.str, ∃ x, v = .str x ∧ Sm n x := by
  intro xs h v hv
  obtain ⟨x, hx, rfl⟩ := List.mem_map.mp hv
  exact ⟨x, rfl, Sm.of (List.all_eq_true.mp h x hx)⟩
section
variable {K : PySem.W.Frag} {C : Addr}
theorem ints_dp {H : Hp} : ∀ ks : List Int, DpAll K H (ks.map V.int) (ks.map PyData.int)
  | [] => .nil
  | _ :: ks => .cons (.int _) (ints_dp ks)
theorem ints_gd : ∀ ks : List Int, (∀ z ∈ ks, z.natAbs < 2 ^ 10) → gds (ks.map PyData.int) = true ∧ nods (ks.map PyData.int) = ks.length ∧ PyData.depthAll (ks.map PyData.int) = 0
  | [], _ => ⟨by simp only [List.map_nil, gds], by simp only [List.map_nil, nods, List.length_nil], by simp only [List.map_nil, PyData.depthAll]⟩
  | k :: ks, h => by
    have ih := ints_gd ks fun z hz => h z (List.mem_cons_of_mem _ hz)
    have g := gd_int (i := k) (Nat.lt_of_lt_of_le (h k List.mem_cons_self) (Nat.pow_le_pow_right (by decide) (by decide)))
    exact ⟨by simp only [List.map_cons, gds, g, ih.1, Bool.and_self], by simp only [List.map_cons, nods, nod, ih.2.1, List.length_cons]; omega, by simp only [List.map_cons, PyData.depthAll, PyData.depth, ih.2.2, Nat.max_self]⟩
theorem made_same {H6 H7 : Hp} {a dx : Addr} {o1 o2 : HO} (ha : H6 a = none) (hdx : H6 dx = none) (e : ∀ b, b ≠ a → H7 b = upd (upd H6 dx o1) a o2 b) : Same H6 H7 := fun b o z => by
  rw [e b (ne_of_none z ha), upd_ne (ne_of_none z ha), upd_ne (ne_of_none z hdx)]
  exact z
end
mutual
def lv : PyData → Bool
  | .int _ => true
  | .str _ => true
  | .tuple ds => lvs ds
  | .none => false
  | .bool _ => false
  | .list _ => false
  | .dict _ => false
def lvs : List PyData → Bool
  | [] => true
  | d :: ds => lv d && lvs ds
end
/-- a value, or a fault (which .none stands for) -/
def Th (K : PySem.W.Frag) (C : Addr) (H : Hp) (v : V) (d : PyData) : Prop := (d = .none ∧ ∃ a wd r p, v = .ref a ∧ FaultAt C H a wd r p) ∨ (lv d = true ∧ gd d = true ∧ Dp K H v d)
theorem Th.up {K : PySem.W.Frag} {C : Addr} {H H' : Hp} {v : V} {d : PyData} (s : Same H H') (h : Th K C H v d) : Th K C H' v d := by
  rcases h with ⟨e, a, wd, r, p, h1, h2⟩ | ⟨h1, h2, h3⟩
  · exact .inl ⟨e, a, wd, r, p, h1, h2.up s⟩
  · exact .inr ⟨h1, h2, Dp.up s _ _ h3⟩
abbrev sRk : Stmt := topS 2
abbrev sBef : Stmt := topS 3
theorem scRk : FnScope ["thing"] ["thing"] (defScope sRk) := ⟨rfl, rfl, rfl, by decide +kernel, rfl, by decide +kernel, by decide +kernel⟩
theorem scBef : FnScope ["one", "other", "todo", "first", "second", "pairs"] ["one", "other"] (defScope sBef) := ⟨rfl, rfl, rfl, by decide +kernel, rfl, by decide +kernel, by decide +kernel⟩
def spRk (K : PySem.W.Frag) (C : Addr) : Sp := fun vs H Q _ => ∃ v d, vs = [v] ∧ Th K C H v d ∧ ∀ a H', Same H H' → SqT K H' a (rkV (rkOf d)) → Q (.ref a) H'
theorem abs_nat (i : Int) : (if i < 0 then -i else i) = (i.natAbs : Int) := by
  split <;> omega
section
variable {P : Program} {w : World} {K : PySem.W.Frag} {mg : Str → Option Value} {base : Heap} {f C fE : Addr} {fd : FuncData}
theorem ok_rk {k : Nat} (F : Fun K "rank_of" "rank_of" sRk f fd) (B : Bi mg) (T : FaC K mg C fE) : FnOk P w K mg base CX0 (k + 1) f fd ["thing"] (spRk K C) := by
  refine F.ok scRk (fun vs H Q E h => ?_) (fun cdv A outer s H vs Q E hr h => ?_)
  · obtain ⟨v, d, rfl, _⟩ := h
    rfl
  obtain ⟨v, d, rfl, hd, q⟩ := h
  refine ⟨_, pss_cons (ps_if (pt_val (pe_callB call_isi (by rfl) B.ii b_ii (pa_cons (pv 0) (pa_cons (pe_glob (by rfl) T.mg (v := .ref C) rfl) pa_nil)))) (pss_one (ps_ret (pe_tup (pa_cons pe_int pa_nil)))) pss_nil)
    (pss_cons (ps_if (pt_val (pe_callB call_isD (by rfl) B.ii b_ii (pa_cons (pv 0) (pa_cons (pe_bltn (by rfl) B.tup b_tup (v := .ty "tuple") rfl) pa_nil)))) (pss_one (ps_ret (pe_tup (pa_cons pe_int (pa_cons (pe_callB call_len_seq (by rfl) B.len PySem.boot_len (pa_cons (pv 0) pa_nil)) pa_nil))))) pss_nil)
    (pss_cons (ps_if (pt_val (pe_callB call_isD (by rfl) B.ii b_ii (pa_cons (pv 0) (pa_cons (pe_bltn (by rfl) B.str b_str (v := .ty "str") rfl) pa_nil)))) (pss_one (ps_ret (pe_tup (pa_cons pe_int (pa_cons (pe_callB call_len_str (by rfl) B.len PySem.boot_len (pa_cons (pv 0) pa_nil)) (pa_cons (pv 0) pa_nil)))))) pss_nil)
    (pss_one (ps_ret (pe_tup (pa_cons pe_int (pa_cons (pe_callB call_abs (by rfl) B.abs b_abs (pa_cons (pv 0) pa_nil)) (pa_cons (pe_cmpR op_lt (pv 0) pe_int (nomark _)) pa_nil)))))))), ?_⟩
  rcases hd with ⟨rfl, b, wd, r, p, rfl, dy, hb⟩ | ⟨hl, hg, hd⟩
  · refine ⟨_, rfl, .ref b, .ref C, _, _, true, rfl, .own C, .base (.ins hb T.o.c.cl T.o.c.ha T.o.c.hn T.o.c.htk T.o.c.hm), T.o.c.me, _, rfl, iteT ⟨few (by simp), fun t ht => ?_⟩⟩
    exact q t _ (same_new ht _) (.inl (.inl upd_same))
  · refine ⟨_, rfl, v, .ref C, _, _, false, rfl, .own C, tyD hd, (T.o.of hd).1, _, rfl, iteF ?_⟩
    refine ⟨_, rfl, v, d, "tuple", _, rfl, hd, kit_tup d, _, rfl, ?_⟩
    cases hd with
    | tup h1 h2 =>
      have lx := DpAll.len h2
      refine iteT ⟨_, rfl, _, _, rfl, .inr h1, few (by simp), fun t ht => ?_⟩
      rw [lx]
      exact q t _ (same_new ht _) (.inl (.inl upd_same))
    | str x =>
      refine iteF ⟨_, rfl, _, .str x, "str", _, rfl, .str x, kit_str _, _, rfl, iteT ?_⟩
      refine ⟨_, rfl, x, rfl, Nat.le_trans (gd_str hg) (by decide), _, rfl, few (by simp), fun t ht => ?_⟩
      exact q t _ (same_new ht _) (.inl (.inl upd_same))
    | int i =>
      refine iteF ⟨_, rfl, _, .int i, "str", _, rfl, .int i, kit_str _, _, rfl, iteF ?_⟩
      refine ⟨_, rfl, i, rfl, _, rfl, i, 0, rfl, rfl, few (by simp), fun t ht => ?_⟩
      rw [abs_nat]
      exact q t _ (same_new ht _) (.inl (.inl upd_same))
    | non => cases hl
    | bl b => cases hl
    | lst _ _ => cases hl
end
/-! the stack of pairs -/
def cmpSt : List (PyData × PyData) → Ordering
  | [] => .eq
  | p :: r => match cmpD p.1 p.2 with
    | .eq => cmpSt r
    | o => o
theorem cmpSt_zip : ∀ (as bs : List PyData) (r : List (PyData × PyData)), as.length = bs.length → cmpSt (as.zip bs ++ r) = match cmpDs as bs with
    | .eq => cmpSt r
    | o => o
  | [], [], r, _ => by simp only [List.zip_nil_left, List.nil_append, cmpDs]
  | a :: as, b :: bs, r, h => by
    simp only [List.zip_cons_cons, List.cons_append, cmpSt, cmpDs]
    have ih := cmpSt_zip as bs r (Nat.succ.inj h)
    cases cmpD a b <;> first | exact ih | rfl
  | [], _ :: _, _, h => by cases h
  | _ :: _, [], _, h => by cases h
def me (ps : List (PyData × PyData)) : Nat := (ps.map fun p => nod p.1).sum
theorem me_app (a b : List (PyData × PyData)) : me (a ++ b) = me a + me b := by
  unfold me
  rw [List.map_append, List.sum_append]
theorem me_rev (a : List (PyData × PyData)) : me a.reverse = me a := by
  induction a with
  | nil => rfl
  | cons p a ih =>
    rw [List.reverse_cons, me_app, ih]
    unfold me
    simp only [List.map_cons, List.map_nil, List.sum_cons, List.sum_nil]
    omega
theorem me_zip : ∀ (as bs : List PyData), as.length = bs.length → me (as.zip bs) = nods as
  | [], _, _ => by unfold me; simp only [List.zip_nil_left, List.map_nil, List.sum_nil, nods]
  | _ :: _, [], h => by cases h
  | a :: as, b :: bs, h => by
    have ih := me_zip as bs (Nat.succ.inj h)
    unfold me at ih ⊢
    simp only [List.zip_cons_cons, List.map_cons, List.sum_cons, nods]
    omega
theorem me_len : ∀ ps : List (PyData × PyData), ps.length ≤ me ps
  | [] => Nat.le_refl _
  | p :: ps => by
    have ih := me_len ps
    have := nod_pos p.1
    unfold me at ih ⊢
    simp only [List.map_cons, List.sum_cons, List.length_cons]
    omega
def PrAt (K : PySem.W.Frag) (C : Addr) (H : Hp) (t : V) (p : PyData × PyData) : Prop := ∃ a v1 v2, t = .ref a ∧ SqT K H a [v1, v2] ∧ Th K C H v1 p.1 ∧ Th K C H v2 p.2
theorem PrAt.up {K : PySem.W.Frag} {C : Addr} {H H' : Hp} {t : V} {p : PyData × PyData} (s : Same H H') (h : PrAt K C H t p) : PrAt K C H' t p := by
  obtain ⟨a, v1, v2, h1, h2, h3, h4⟩ := h
  exact ⟨a, v1, v2, h1, seqT_up s h2, h3.up s, h4.up s⟩
structure Prs (K : PySem.W.Frag) (C : Addr) (H : Hp) (ts : List V) (ps : List (PyData × PyData)) : Prop where
  len : ts.length = ps.length
  at_ : ∀ (j : Nat) (t : V), ts[j]? = some t → ∃ p, ps[j]? = some p ∧ PrAt K C H t p
theorem Prs.up {K : PySem.W.Frag} {C : Addr} {H H' : Hp} {ts : List V} {ps : List (PyData × PyData)} (s : Same H H') (h : Prs K C H ts ps) : Prs K C H' ts ps :=
  ⟨h.len, fun j t e => let ⟨p, e1, e2⟩ := h.at_ j t e; ⟨p, e1, e2.up s⟩⟩
theorem Prs.app {K : PySem.W.Frag} {C : Addr} {H : Hp} {ts us : List V} {ps qs : List (PyData × PyData)} (h : Prs K C H ts ps) (g : Prs K C H us qs) : Prs K C H (ts ++ us) (ps ++ qs) := by
  refine ⟨by rw [List.length_append, List.length_append, h.len, g.len], fun j t e => ?_⟩
  by_cases lt : j < ts.length
  · rw [List.getElem?_append_left lt] at e
    obtain ⟨p, e1, e2⟩ := h.at_ j t e
    exact ⟨p, by rw [List.getElem?_append_left (by rw [← h.len]; exact lt)]; exact e1, e2⟩
  · rw [List.getElem?_append_right (by omega)] at e
    obtain ⟨p, e1, e2⟩ := g.at_ _ t e
    exact ⟨p, by rw [List.getElem?_append_right (by rw [← h.len]; omega), ← h.len]; exact e1, e2⟩
theorem Prs.rev {K : PySem.W.Frag} {C : Addr} {H : Hp} {ts : List V} {ps : List (PyData × PyData)} (h : Prs K C H ts ps) : Prs K C H ts.reverse ps.reverse := by
  refine ⟨by rw [List.length_reverse, List.length_reverse, h.len], fun j t e => ?_⟩
  have lt : j < ts.length := by
    have := (List.getElem?_eq_some_iff.mp e).1
    rwa [List.length_reverse] at this
  rw [List.getElem?_reverse lt] at e
  obtain ⟨p, e1, e2⟩ := h.at_ _ t e
  exact ⟨p, by rw [List.getElem?_reverse (by rw [← h.len]; exact lt), ← h.len]; exact e1, e2⟩
theorem Prs.last {K : PySem.W.Frag} {C : Addr} {H : Hp} {ts : List V} {ps : List (PyData × PyData)} (h : Prs K C H ts ps) (hx : ts ≠ []) : ∃ ts' t ps' p, ts = ts' ++ [t] ∧ ps = ps' ++ [p] ∧ Prs K C H ts' ps' ∧ PrAt K C H t p := by
  have hp : ps ≠ [] := fun e => hx (List.length_eq_zero_iff.mp (by rw [h.len, e]; rfl))
  have e1 := (List.dropLast_concat_getLast hx).symm
  have e2 := (List.dropLast_concat_getLast hp).symm
  have ln := h.len
  have l1 : ts.dropLast.length = ps.dropLast.length := by rw [List.length_dropLast, List.length_dropLast, ln]
  refine ⟨_, _, _, _, e1, e2, ⟨l1, fun j t e => ?_⟩, ?_⟩
  · have lt := (List.getElem?_eq_some_iff.mp e).1
    obtain ⟨p, q1, q2⟩ := h.at_ j t (by rw [e1, List.getElem?_append_left lt]; exact e)
    rw [e2, List.getElem?_append_left (by rw [← l1]; exact lt)] at q1
    exact ⟨p, q1, q2⟩
  · obtain ⟨p, q1, q2⟩ := h.at_ (ts.length - 1) (ts.getLast hx) (by rw [← List.getLast?_eq_getElem?, List.getLast?_eq_some_getLast hx])
    rw [ln, ← List.getLast?_eq_getElem?, List.getLast?_eq_some_getLast hp] at q1
    rw [Option.some.inj q1]
    exact q2
theorem rk_gd {d : PyData} (h : gd d = true ∨ d = .none) (hn : nod d ≤ 100000) : SeqAt.shaped (.tuple (rkD (rkOf d))) = true := by
  have small : ∀ n : Nat, n ≤ 100000 → gd (.int (n : Int)) = true := fun n hn => gd_int (Nat.lt_of_le_of_lt (by omega : ((n : Int)).natAbs ≤ 100000) (Nat.lt_of_lt_of_le (by decide : 100000 < 2 ^ 20) (Nat.pow_le_pow_right (by decide) (by decide))))
  have z0 := small 0 (by decide)
  have z1 := small 1 (by decide)
  have z2 := small 2 (by decide)
  have z3 := small 3 (by decide)
  have three : gd (.tuple [.int 3]) = true := by
    simp only [gd, gds] at z3 ⊢
    simpa using z3
  cases d with
  | tuple ds =>
    have ln := nods_len ds
    simp only [nod] at hn
    have z := small ds.length (by omega)
    refine shaped_of (d := .tuple [.int 2, .int ds.length]) ?_ (by simp only [PyData.depth, PyData.depthAll]; omega)
    simp only [gd, gds] at z z2 ⊢
    simp only [Bool.and_eq_true]
    exact ⟨by simpa using z2, z, trivial⟩
  | int i =>
    have hg : gd (.int i) = true := by
      rcases h with h | h
      · exact h
      · cases h
    refine shaped_of (d := .tuple [.int 0, .int i.natAbs, .bool (decide (i < 0))]) ?_ (by simp only [PyData.depth, PyData.depthAll]; omega)
    simp only [gd, gds] at hg z0 ⊢
    simp only [Bool.and_eq_true]
    exact ⟨by simpa using z0, by simpa using hg, trivial, trivial⟩
  | str x =>
    have hg : gd (.str x) = true := by
      rcases h with h | h
      · exact h
      · cases h
    have z := small x.length (Nat.le_trans (gd_str hg) (by decide))
    refine shaped_of (d := .tuple [.int 1, .int x.length, .str x]) ?_ (by simp only [PyData.depth, PyData.depthAll]; omega)
    simp only [gd, gds] at hg z z1 ⊢
    simp only [Bool.and_eq_true] at hg ⊢
    exact ⟨by simpa using z1, z, hg, trivial⟩
  | none => exact shaped_of three (by simp only [rkOf, rkD, PyData.depth, PyData.depthAll]; omega)
  | bool b => exact shaped_of three (by simp only [rkOf, rkD, PyData.depth, PyData.depthAll]; omega)
  | list b => exact shaped_of three (by simp only [rkOf, rkD, PyData.depth, PyData.depthAll]; omega)
  | dict b => exact shaped_of three (by simp only [rkOf, rkD, PyData.depth, PyData.depthAll]; omega)
def spBef (K : PySem.W.Frag) (C : Addr) : Sp := fun vs H Q _ => ∃ v1 v2 d1 d2, vs = [v1, v2] ∧ Th K C H v1 d1 ∧ Th K C H v2 d2 ∧ nod d1 ≤ 10000 ∧ nod d2 ≤ 10000 ∧ ∀ H', Same H H' → Q (.bl (cmpD d1 d2 == .lt)) H'
theorem Th.gd {K : PySem.W.Frag} {C : Addr} {H : Hp} {v : V} {d : PyData} (h : Th K C H v d) : Rl.gd d = true ∨ d = .none := by
  rcases h with ⟨e, _⟩ | ⟨_, h, _⟩
  · exact .inr e
  · exact .inl h
def bigP (N : Nat) (ps : List (PyData × PyData)) : Prop := ∀ p ∈ ps, nod p.1 ≤ N ∧ nod p.2 ≤ N
theorem lvs_mem : ∀ {ds : List PyData} {d : PyData}, lvs ds = true → d ∈ ds → lv d = true
  | _ :: _, _, h, m => by
    simp only [lvs, Bool.and_eq_true] at h
    rcases List.mem_cons.mp m with e | e
    · rw [e]
      exact h.1
    · exact lvs_mem h.2 e
theorem cmpD_flat {a b : PyData} (h : isTup a = false) : cmpD a b = rkCmp (rkOf a) (rkOf b) := by
  cases a <;> first | (simp only [cmpD, rkOf]; done) | cases h
theorem same_len {as : List PyData} {e : PyData} (h : rkEq (rkOf (.tuple as)) (rkOf e) = true) : ∃ bs, e = .tuple bs ∧ as.length = bs.length := by
  cases e <;> simp [rkOf, rkEq] at h
  exact ⟨_, rfl, by omega⟩
section
variable {P : Program} {w : World} {K : PySem.W.Frag} {mg : Str → Option Value} {base : Heap} {f fR C fE : Addr} {fd dR : FuncData}
theorem ok_bef {k : Nat} (F : Fun K "is_before" "is_before" sBef f fd) (B : Bi mg) (T : FaC K mg C fE) (ml : mg "list" = none) (mz : mg "zip" = none) (GR : Dn P w K mg base 1 "rank_of" ["thing"] (spRk K C) fR dR) :
    FnOk P w K mg base CX0 (k + 2) f fd ["one", "other"] (spBef K C) := by
  refine F.ok scBef (fun vs H Q E h => ?_) (fun cdv A outer s H vs Q E hr h => ?_)
  · obtain ⟨v1, v2, d1, d2, rfl, _⟩ := h
    rfl
  obtain ⟨v1, v2, d1, d2, rfl, h1, h2, n1, n2, q⟩ := h
  have hr1 : Room 1 _ := hr.mono (by omega)
  refine ⟨_, pss_cons (ps_set (i := 2) scBef.nd rfl (.inl rfl) (pe_lst (pa_cons (pe_tup (pa_cons (pv 0) (pa_cons (pv 1) pa_nil))) pa_nil)))
    (pss_cons (ps_while PassesOwn.never (pt_truth (pv 2) (by intro _; rfl))
      (pss_cons (ps_asg (pe_bm0 PySem.F.plainAttrs_list PySem.F.slot_list_pop PySem.F.type_list_pop mt_pop (pv 2)) (pg_tup (by rfl) (pgs_cons (pg_name (i := 3) scBef.nd rfl (.inl rfl)) (pgs_cons (pg_name (i := 4) scBef.nd rfl (.inl rfl)) pgs_nil))))
      (pss_cons (ps_if (pt_cmpR (op_neD hr.units) (pe_call GR.ok hr1 (by rfl) GR.mg GR.kp GR.bd .nil pass0 (pa_cons (pv 3) pa_nil)) (pe_call GR.ok hr1 (by rfl) GR.mg GR.kp GR.bd .nil pass0 (pa_cons (pv 4) pa_nil)) (nomark _))
        (pss_one (ps_ret (pe_cmpR (op_ltR hr.units) (pe_call GR.ok hr1 (by rfl) GR.mg GR.kp GR.bd .nil pass0 (pa_cons (pv 3) pa_nil)) (pe_call GR.ok hr1 (by rfl) GR.mg GR.kp GR.bd .nil pass0 (pa_cons (pv 4) pa_nil)) (nomark _)))) pss_nil)
      (pss_one (ps_if (pt_val (pe_callB call_isi (by rfl) B.ii b_ii (pa_cons (pv 3) (pa_cons (pe_bltn (by rfl) B.tup b_tup (v := .ty "tuple") rfl) pa_nil))))
        (pss_cons (ps_set (i := 5) scBef.nd rfl (.inl rfl) (pe_listZip (by rfl) (pa_cons (pv 3) (pa_cons (pv 4) pa_nil)) (by rfl) ml (by rfl) mz))
        (pss_one (ps_expr (pe_bm PySem.F.plainAttrs_list PySem.F.slot_list_extend PySem.F.type_list_extend mt_extend (pv 2) (pa_cons (pe_revL (pv 5)) pa_nil))))) pss_nil)))))
    (pss_one (ps_ret pe_bl))), ?_⟩
  refine ⟨_, rfl, _, rfl, few (by simp), fun t0 ht0 => ⟨few (by simp), fun L hL => ?_⟩⟩
  have nLt : t0 ≠ L := ne_of_none upd_same hL
  have hHL : H L = none := (same_new (o := .tup [v1, v2]) ht0).free hL
  have s0 : Same H (cut [L] (upd (upd H t0 (.tup [v1, v2])) L (.lst [.ref t0]))) := fun b u z => by
    rw [cut_out (by simp only [List.mem_singleton]; exact ne_of_none z hHL), upd_ne (ne_of_none z hHL), upd_ne (ne_of_none z ht0)]
    exact z
  refine ⟨fun m σ H2 => ∃ ts ps o3 o4 o5, σ = [some v1, some v2, some (.ref L), o3, o4, o5] ∧ H2 L = some (.lst ts) ∧ Prs K C (cut [L] H2) ts ps ∧ m = me ps ∧ me ps ≤ 10000 ∧ bigP 10000 ps ∧ cmpSt ps.reverse = cmpD d1 d2 ∧ Same H (cut [L] H2),
    ⟨_, [.ref t0], [(d1, d2)], none, none, none, rfl, upd_same, ⟨rfl, fun j t e => ?_⟩, rfl, ?_, ?_, ?_, s0⟩, ?_⟩
  · cases j with
    | zero =>
      cases e
      exact ⟨(d1, d2), rfl, t0, v1, v2, rfl, .inl (.inl (by rw [cut_out (by simp only [List.mem_singleton]; exact nLt), upd_ne nLt]; exact upd_same)), h1.up s0, h2.up s0⟩
    | succ j => simp at e
  · unfold me
    simp only [List.map_cons, List.map_nil, List.sum_cons, List.sum_nil]
    omega
  · intro p hp
    rw [List.mem_singleton.mp hp]
    exact ⟨n1, n2⟩
  · simp only [List.reverse_cons, List.reverse_nil, List.nil_append, cmpSt]
    cases cmpD d1 d2 <;> rfl
  rintro m σ H2 ⟨ts, ps, o3, o4, o5, rfl, hx, pr, rfl, mb, bp, cs, sm⟩
  refine ⟨_, rfl, _, .inl ⟨ts, SqL.of hx, rfl⟩, ?_⟩
  by_cases ex : ts = []
  · subst ex
    have e0 : ps = [] := List.length_eq_zero_iff.mp (by rw [← pr.len]; rfl)
    subst e0
    refine iteF ?_
    have e : (cmpD d1 d2 == .lt) = false := by rw [← cs]; rfl
    rw [e] at q
    exact q H2 (sm.trans (cut_same _ _))
  · have e1 : (!ts.isEmpty) = true := by simp [ex]
    rw [e1]
    refine iteT ?_
    obtain ⟨ts', t, ps', ⟨x1, x2⟩, rfl, rfl, pr', a, u1, u2, rfl, sq, th1, th2⟩ := pr.last ex
    rw [me_app] at mb ⊢
    have m1 : me [(x1, x2)] = nod x1 := by
      unfold me
      simp only [List.map_cons, List.map_nil, List.sum_cons, List.sum_nil]
      omega
    rw [m1] at mb ⊢
    have bx : nod x1 ≤ 10000 ∧ nod x2 ≤ 10000 := bp (x1, x2) (by simp)
    have th1 : Th K C (cut [L] H2) u1 x1 := th1
    have th2 : Th K C (cut [L] H2) u2 x2 := th2
    have npos := nod_pos x1
    refine ⟨fun σ' H3 => ∃ m', m' < me ps' + nod x1 ∧ ∃ ts ps o3 o4 o5, σ' = [some v1, some v2, some (.ref L), o3, o4, o5] ∧ H3 L = some (.lst ts) ∧ Prs K C (cut [L] H3) ts ps ∧ m' = me ps ∧ me ps ≤ 10000 ∧ bigP 10000 ps ∧ cmpSt ps.reverse = cmpD d1 d2 ∧ Same H (cut [L] H3), fun _ _ z => z, ?_⟩
    refine ⟨_, rfl, .inl ⟨rfl, _, SqL.of hx⟩, L, _, _, rfl, rfl, hx, last_at _ _, ?_⟩
    rw [drop_last]
    have p3 : Off [L] H2 (upd H2 L (.lst ts')) := Off.put (by simp)
    have hx3 : (upd H2 L (.lst ts')) L = some (.lst ts') := upd_same
    generalize upd H2 L (.lst ts') = H3 at p3 hx3
    have sm3 := sm.trans p3
    have c3 := cut_same [L] H3
    refine ⟨a, _, rfl, seqT_up (Same.trans p3 c3) sq, rfl, _, _, rfl, _, _, rfl, rfl, ?_⟩
    refine ⟨_, rfl, u1, x1, rfl, th1.up (Same.trans p3 c3), fun a1 H4 s4 q4 => ⟨_, rfl, u2, x2, rfl, th2.up (Same.trans p3 (Same.trans c3 s4)), fun a2 H5 s5 q5 => ?_⟩⟩
    have s35 := s4.trans s5
    refine ⟨.tuple (rkD (rkOf x1)), .tuple (rkD (rkOf x2)), .tup (seqT_up s5 q4) (rk_dp _), .tup q5 (rk_dp _), rk_gd th1.gd (by omega), rk_gd th2.gd (by omega), _, rfl, ?_⟩
    rw [rk_eqv]
    rw [List.reverse_append] at cs
    simp only [List.reverse_cons, List.reverse_nil, List.nil_append, List.cons_append, cmpSt] at cs
    have t1 : Th K C H5 u1 x1 := th1.up (Same.trans p3 (Same.trans c3 s35))
    have t2 : Th K C H5 u2 x2 := th2.up (Same.trans p3 (Same.trans c3 s35))
    cases hq : rkEq (rkOf x1) (rkOf x2) with
    | false =>
      refine iteT ⟨_, rfl, u1, x1, rfl, t1, fun a3 H6 s6 q6 => ⟨_, rfl, u2, x2, rfl, t2.up s6, fun a4 H7 s7 q7 => ⟨a3, a4, _, _, rfl, rfl, seqT_up s7 q6, q7, ?_⟩⟩⟩
      have rk := rkCmp_lt hq
      rw [cmpD_rk hq] at cs
      have e : (cmpD d1 d2 == .lt) = rkLt (rkOf x1) (rkOf x2) := by
        rw [← cs, ← rk.1]
        have nq := rk.2
        cases hz : rkCmp (rkOf x1) (rkOf x2) <;> first | rfl | exact absurd hz nq
      rw [e] at q
      exact q H7 (sm3.trans ((cut_same [L] H3).trans (s35.trans (s6.trans s7))))
    | true =>
      refine iteF ?_
      have f5 : Off [L] H3 H5 := Off.of s35
      have keep : isTup x1 = false → ∃ m', m' < me ps' + nod x1 ∧ ∃ ts ps w3 w4 w5, [some v1, some v2, some (.ref L), some u1, some u2, o5] = [some v1, some v2, some (.ref L), w3, w4, w5] ∧ H5 L = some (.lst ts) ∧ Prs K C (cut [L] H5) ts ps ∧ m' = me ps ∧ me ps ≤ 10000 ∧ bigP 10000 ps ∧ cmpSt ps.reverse = cmpD d1 d2 ∧ Same H (cut [L] H5) := fun hf => by
        rw [cmpD_flat hf, rkCmp_eq hq] at cs
        exact ⟨me ps', by omega, ts', ps', _, _, _, rfl, s35 _ _ hx3, pr'.up (p3.trans f5), rfl, by omega, fun p hp => bp p (List.mem_append_left _ hp), cs, sm3.trans f5⟩
      rcases th1 with ⟨rfl, b1, wd, r, p, rfl, dy, hb⟩ | ⟨hl1, hg1, hd1⟩
      · have hb5 := Same.trans p3 (Same.trans c3 s35) _ _ hb
        refine ⟨_, rfl, .ref b1, .ty "tuple", _, _, false, rfl, .ty "tuple", .base (.ins hb5 T.o.c.cl T.o.c.ha T.o.c.hn T.o.c.htk T.o.c.hm), T.o.j6, _, rfl, iteF ?_⟩
        exact keep rfl
      · have hd5 := Dp.up (Same.trans p3 (Same.trans c3 s35)) _ _ hd1
        refine ⟨_, rfl, u1, .ty "tuple", _, _, isTup x1, rfl, .ty "tuple", tyD hd5, kit_ty (kit_tup x1), _, rfl, ?_⟩
        cases ht : isTup x1 with
        | false => exact iteF (keep ht)
        | true =>
          clear keep
          obtain ⟨b1, xs, as, rfl, rfl, sx, dx⟩ := tup_of hd1 ht
          obtain ⟨bs, rfl, len⟩ := same_len hq
          rcases th2 with ⟨z, _⟩ | ⟨hl2, hg2, hd2⟩
          · cases z
          obtain ⟨b2, ys, bs', rfl, eb, sy, dy⟩ := tup_of hd2 rfl
          cases eb
          have up5 := Same.trans p3 (Same.trans c3 s35)
          have lx := DpAll.len dx
          have ly := DpAll.len dy
          have lnx := nods_len as
          simp only [nod, lv, gd] at bx mb hl1 hg1 hl2 hg2
          have hx5 := s35 _ _ hx3
          refine iteT ⟨_, rfl, _, rfl, b1, b2, xs, ys, rfl, seqT_up up5 sx, seqT_up up5 sy, fun pz ts2 H6 s6 np nt npt hp len2 pairs => ?_⟩
          have hx6 := s6 _ _ hx5
          have nLpz : L ≠ pz := ne_of_none hx5 np
          refine ⟨_, rfl, .inl ⟨rfl, _, SqL.of hx6⟩, _, rfl, pz, _, rfl, SqL.of hp, fun rv hrv => ?_⟩
          have nLrv : L ≠ rv := ne_of_none hx6 hrv
          have s7 := same_new (o := .lst (ts2.map V.ref).reverse) hrv
          have l2 : ts2.length = as.length := by omega
          have lts := pr'.len
          have lme := me_len ps'
          refine ⟨L, rv, ts', (ts2.map V.ref).reverse, rfl, rfl, s7 _ _ hx6, upd_same, few2 (by rw [List.length_reverse, List.length_map]; omega), ?_⟩
          have f6 : Off [L] H5 H6 := Off.of s6
          have f8 : Off [L] H6 (upd (upd H6 rv (.lst (ts2.map V.ref).reverse)) L (.lst (ts' ++ (ts2.map V.ref).reverse))) := Off.trans (Off.of s7) (Off.put (by simp))
          have fA : Off [L] H2 _ := p3.trans (f5.trans (f6.trans f8))
          have lz : (as.zip bs).length = as.length := by rw [List.length_zip]; omega
          have pz8 : Prs K C (cut [L] (upd (upd H6 rv (.lst (ts2.map V.ref).reverse)) L (.lst (ts' ++ (ts2.map V.ref).reverse)))) (ts2.map V.ref) (as.zip bs) := by
            refine ⟨by rw [List.length_map]; omega, fun j t e => ?_⟩
            rw [List.getElem?_map] at e
            obtain ⟨t', e1, rfl⟩ := Option.map_eq_some_iff.mp e
            obtain ⟨x, y, ex, ey, et⟩ := pairs j t' e1
            obtain ⟨da, ea, hda⟩ := DpAll.get dx ex
            obtain ⟨db, eb, hdb⟩ := DpAll.get dy ey
            have nt' : t' ≠ L := fun z => by
              have q1 := nt t' (List.mem_of_getElem? e1)
              rw [z, hx5] at q1
              cases q1
            refine ⟨(da, db), List.getElem?_zip_eq_some.mpr ⟨ea, eb⟩, t', x, y, rfl, .inl (.inl (f8 _ _ (by rw [cut_out (by simp only [List.mem_singleton]; exact nt')]; exact et))), ?_, ?_⟩
            · exact .inr ⟨lvs_mem hl1 (List.mem_of_getElem? ea), gds_mem hg1 (List.mem_of_getElem? ea), Dp.up fA _ _ hda⟩
            · exact .inr ⟨lvs_mem hl2 (List.mem_of_getElem? eb), gds_mem hg2 (List.mem_of_getElem? eb), Dp.up fA _ _ hdb⟩
          refine ⟨me (ps' ++ (as.zip bs).reverse), ?_, ts' ++ (ts2.map V.ref).reverse, ps' ++ (as.zip bs).reverse, _, _, _, rfl, upd_same, (pr'.up fA).app pz8.rev, rfl, ?_, ?_, ?_, sm.trans fA⟩
          · rw [me_app, me_rev, me_zip _ _ len]
            simp only [nod]
            omega
          · rw [me_app, me_rev, me_zip _ _ len]
            omega
          · intro p hp
            rcases List.mem_append.mp hp with h | h
            · exact bp p (List.mem_append_left _ h)
            · have m := List.of_mem_zip (List.mem_reverse.mp h)
              have m1 := nods_mem m.1
              have m2 := nods_mem m.2
              omega
          · rw [List.reverse_append, List.reverse_reverse, cmpSt_zip _ _ _ len]
            rw [← cs]
            simp only [cmpD]
            rw [if_pos len]
end
abbrev sWord : Stmt := topS 8
abbrev sValue : Stmt := topS 9
abbrev sValIn : Stmt := topS 10
theorem scWord : FnScope ["_law_box_here", "_law_stem", "_law_k"] ["_law_box_here"] (defScope sWord) := ⟨rfl, rfl, rfl, by decide +kernel, rfl, by decide +kernel, by decide +kernel⟩
theorem scValue : FnScope ["_law_box_here", "_law_deep"] ["_law_box_here", "_law_deep"] (defScope sValue) := ⟨rfl, rfl, rfl, by decide +kernel, rfl, by decide +kernel, by decide +kernel⟩
theorem scValIn : FnScope ["_law_box_here", "_law_deep", "_law_room", "_law_form", "_law_many", "_law_near_here", "_law_some", "_law_great", "_law_k"] ["_law_box_here", "_law_deep", "_law_room"] (defScope sValIn) :=
  ⟨rfl, rfl, rfl, by decide +kernel, rfl, by decide +kernel, by decide +kernel⟩
def spWord : Sp := fun vs H Q _ => ∃ p g, vs = [.ref p] ∧ Box H p g ∧ ∀ x H', Sm 8 x → Box H' p g → Off [p, g] H H' → Q (.str x) H'
def phi (w : Int) : Nat := (max w 1).toNat
def spVal (K : PySem.W.Frag) (n : Nat) : Sp := fun vs H Q _ => ∃ p g wd e w0 l, vs = [.ref p, .int e, .ref wd] ∧ Box H p g ∧ H wd = some (.lst [.int w0]) ∧ wd ∉ [p, g] ∧ 0 ≤ e ∧ e < (n : Int) ∧ Tr l H ∧
  ∀ v d H' w1, Box H' p g → H' wd = some (.lst [.int w1]) → Off [p, g, wd] H H' → Dp K (cut l H') v d → (gd d = true ∧ lv d = true) → (d.depth : Int) ≤ e → w1 ≤ w0 - 1 → nod d + 12 * phi w1 ≤ 1 + 12 * phi w0 → Q v H'
def spValue (K : PySem.W.Frag) : Sp := fun vs H Q _ => ∃ p g e l, vs = [.ref p, .int e] ∧ Box H p g ∧ 0 ≤ e ∧ e < 8 ∧ Tr l H ∧ ∀ v d H', Box H' p g → Off [p, g] H H' → Dp K (cut l H') v d → gd d = true → lv d = true → (d.depth : Int) ≤ e → nod d ≤ 481 → Q v H'
theorem abz_sm : Sm 3 ("abz" : Str) := Sm.of (by decide +kernel)
theorem abz_len : ("abz" : Str).cps.toList.length = 3 := by decide +kernel
theorem alpha_sm : Sm 26 ("abcdefghijklmnopqrstuvwxyz" : Str) := Sm.of (by decide +kernel)
theorem alpha_len : ("abcdefghijklmnopqrstuvwxyz" : Str).cps.toList.length = 26 := by decide +kernel
theorem lvs_app : ∀ ds es : List PyData, lvs (ds ++ es) = (lvs ds && lvs es)
  | [], es => by simp [lvs]
  | d :: ds, es => by simp only [List.cons_append, lvs, lvs_app ds es, Bool.and_assoc]
theorem one_sm {n c : Nat} {x : Str} (h : Sm n x) (m : c ∈ x.cps.toList) : Sm 1 (⟨#[c]⟩ : Str) := ⟨Nat.le_refl _, fun d hd => by
  have hd : d ∈ [c] := hd
  rw [List.mem_singleton.mp hd]
  exact h.lo c m⟩
section
variable {P : Program} {w : World} {K : PySem.W.Frag} {mg : Str → Option Value} {base : Heap} {f fT fW : Addr} {fd dT dW : FuncData}
theorem ok_word {k : Nat} (F : Fun K "_law_word" "_law_word" sWord f fd) (B : Bi mg) (T : Tk P w K mg base fT dT) : FnOk P w K mg base CX0 (k + 2) f fd ["_law_box_here"] spWord := by
  refine F.ok scWord (fun vs H Q E h => ?_) (fun cdv A outer s H vs Q E hr h => ?_)
  · obtain ⟨p, g, rfl, _⟩ := h
    rfl
  obtain ⟨p, g, rfl, hb, q⟩ := h
  have hr1 : Room 1 _ := hr.mono (by omega)
  refine ⟨_, pss_cons (ps_set (i := 1) scWord.nd rfl (.inl rfl) (pe_join pe_str (pe_lc (own := [("_law_k", 2)]) (g := gName 2) (by rfl) scWord.nd
      (pi_range1 (by rfl) B.rng (pa_cons (pe_call T.ok hr1 (by rfl) T.mg T.kp T.bd .nil pass0 (pa_cons (pv 0) (pa_cons pe_int pa_nil))) pa_nil))
      (blkOk_by (own := [("_law_k", 2)]) (N := ["_law_box_here", "_law_stem", "_law_k"]) (sc := defScope sWord) (by decide +kernel))
      (fun _ _ _ _ _ => pg_name (i := 2) scWord.nd rfl (Or.inl rfl)) (fun _ _ _ _ _ => pts_nil)
      (fun _ _ _ _ _ => pe_ix ix_str pe_str (pe_call T.ok hr1 (by rfl) T.mg T.kp T.bd .nil pass0 (pa_cons (pv 0) (pa_cons pe_int pa_nil))) (fun _ _ => rfl)))))
    (pss_one (ps_ret (pe_op op_add_str (pv 1) (pe_ix ix_str pe_str (pe_call T.ok hr1 (by rfl) T.mg T.kp T.bd .nil pass0 (pa_cons (pv 0) (pa_cons pe_int pa_nil))) (fun _ _ => rfl))))), ?_⟩
  refine ⟨⟨_, rfl⟩, _, rfl, p, g, 8, rfl, hb, by decide, by decide, fun r H1 r0 r8 b1 o1 => ?_⟩
  refine ⟨r, rfl, by omega, by omega, fun D hD => ?_⟩
  have nD := b1.notin hD
  refine lc_range (lo := 0) (n := r.toNat) (fun i H2 => ∃ ys : List Str, ys.length ≤ i ∧ (∀ y ∈ ys, Sm 1 y) ∧ H2 D = some (.lst (ys.map V.str)) ∧ Box H2 p g ∧ Off [p, g] H H2)
    ⟨[], Nat.le_refl _, fun _ z => (List.not_mem_nil z).elim, upd_same, b1.same (same_new hD _), o1.trans (Off.of (same_new hD _))⟩ ?_ ?_
  · rintro i H2 hi ⟨ys, ly, sy, h1, b2, o2⟩
    refine ⟨rfl, _, rfl, p, g, 3, rfl, b2, by decide, by decide, fun r2 H3 s0 s3 b3 o3 => ?_⟩
    obtain ⟨c, hc, mc, _⟩ := atI_ok (xs := ("abz" : Str).cps.toList) (r := r2) s0 (by rw [abz_len]; exact s3)
    refine ⟨_, _, c, rfl, rfl, abz_sm.fits (by decide), hc, _, o3.get h1 nD, ?_, ys ++ [⟨#[c]⟩], ?_, ?_, ?_, ?_, ?_⟩
    · rw [List.length_map]
      exact small1000 (by omega)
    · rw [List.length_append, List.length_singleton]
      omega
    · intro y hy
      rcases List.mem_append.mp hy with z | z
      · exact sy y z
      · rw [List.mem_singleton.mp z]
        exact one_sm abz_sm mc
    · rw [upd_same, List.map_append]
      rfl
    · exact b3.put nD
    · exact off_new (o2.trans o3) nD (o1.free hD nD)
  · rintro H2 ⟨ys, ly, sy, h1, b2, o2⟩
    have j := Sm.join ys sy
    refine ⟨_, D, ys, rfl, rfl, .inl (SqL.of h1), ?_, ?_⟩
    · have e0 : (("" : Str)).length = 0 := by decide +kernel
      rw [e0, Nat.mul_zero, Nat.add_zero]
      have : (ys.map (·.length)).sum ≤ ys.length := by
        clear h1 j ly
        induction ys with
        | nil => exact Nat.le_refl _
        | cons y r ih =>
          have h1 := (sy y List.mem_cons_self).le
          have h2 := ih fun z hz => sy z (List.mem_cons_of_mem _ hz)
          simp only [List.map_cons, List.sum_cons, List.length_cons]
          omega
      exact few (by omega)
    refine ⟨_, rfl, _, rfl, p, g, 26, rfl, b2, by decide, by decide, fun r2 H3 s0 s26 b3 o3 => ?_⟩
    obtain ⟨c, hc, mc, _⟩ := atI_ok (xs := ("abcdefghijklmnopqrstuvwxyz" : Str).cps.toList) (r := r2) s0 (by rw [alpha_len]; exact s26)
    have one := one_sm alpha_sm mc
    have sA := (j.mono (by omega : ys.length ≤ 7)).app one
    refine ⟨_, _, c, rfl, rfl, alpha_sm.fits (by decide), hc, _, _, rfl, rfl, ?_, q _ _ sA b3 (o2.trans o3)⟩
    have l1 := j.le
    have l2 := one.le
    exact few (by omega)
end
theorem atN {xs : List V} {r : Int} (h0 : 0 ≤ r) (h : r < (xs.length : Int)) : ∃ x, atI xs r = some x ∧ x ∈ xs := by
  obtain ⟨x, h1, h2, _⟩ := atI_ok (xs := xs) h0 h
  exact ⟨x, h1, h2⟩
section
variable {P : Program} {w : World} {K : PySem.W.Frag} {mg : Str → Option Value} {base : Heap} {f fT fW : Addr} {fd dT dW : FuncData}
theorem ok_valIn {k n : Nat} (F : Fun K "_law_value_in" "_law_value_in" sValIn f fd) (B : Bi mg) (T : Tk P w K mg base fT dT) (GW : Dn P w K mg base 2 "_law_word" ["_law_box_here"] spWord fW dW)
    (G : FnOk P w K mg base CX0 (k + 2) f fd ["_law_box_here", "_law_deep", "_law_room"] (spVal K n)) (bV : Binds K fd ["_law_box_here", "_law_deep", "_law_room"] []) (mV : mg "_law_value_in" = some (.ref f)) :
    FnOk P w K mg base CX0 (k + 3) f fd ["_law_box_here", "_law_deep", "_law_room"] (spVal K (n + 1)) := by
  refine F.ok scValIn (fun vs H Q E h => ?_) (fun cdv A outer s H vs Q E hr h => ?_)
  · obtain ⟨p, g, wd, e, w0, l, rfl, _⟩ := h
    rfl
  obtain ⟨p, g, wd, e, w0, l, rfl, hb, hw, nw, e0, en, tl, q⟩ := h
  have hr1 : Room 1 _ := hr.mono (by omega)
  have hr2 : Room 2 _ := hr.mono (by omega)
  refine ⟨_, pss_cons (ps_asg (pe_tup (pa_cons (pe_op op_sub (pe_ix ix_list (pv 2) pe_int (fun _ _ => rfl)) pe_int) (pa_cons (pe_call T.ok hr1 (by rfl) T.mg T.kp T.bd .nil pass0 (pa_cons (pv 0) (pa_cons pe_int pa_nil))) pa_nil)))
      (pg_tup (by rfl) (pgs_cons (pg_sub (pv 2) pe_int set_list) (pgs_cons (pg_name (i := 3) scValIn.nd rfl (.inl rfl)) pgs_nil))))
    (pss_cons (ps_if (PW.pt (pw_and (pt_cmpR op_gt (pv 1) pe_int (nomark _)) (pw_and (pt_cmpR op_gt (pv 3) pe_int (nomark _)) (pw_and1 (pt_cmpR op_gt (pe_ix ix_list (pv 2) pe_int (fun _ _ => rfl)) pe_int (nomark _))))))
      (pss_cons (ps_set (i := 4) scValIn.nd rfl (.inl rfl) (pe_ix ix_list (pe_lst (pa_cons (pe_call T.ok hr1 (by rfl) T.mg T.kp T.bd .nil pass0 (pa_cons (pv 0) (pa_cons pe_int pa_nil)))
          (pa_cons (pe_op op_add pe_int (pe_call T.ok hr1 (by rfl) T.mg T.kp T.bd .nil pass0 (pa_cons (pv 0) (pa_cons pe_int pa_nil)))) pa_nil)))
          (pe_op op_fdiv (pe_call T.ok hr1 (by rfl) T.mg T.kp T.bd .nil pass0 (pa_cons (pv 0) (pa_cons pe_int pa_nil))) pe_int) (fun _ _ => rfl)))
      (pss_one (ps_ret (pe_callTy call_tuple_of (by rfl) B.tup b_tup (pa_cons (pe_lc (own := [("_law_k", 8)]) (g := gName 8) (by rfl) scValIn.nd (pi_range1 (by rfl) B.rng (pa_cons (pv 4) pa_nil))
        (blkOk_by (own := [("_law_k", 8)]) (N := ["_law_box_here", "_law_deep", "_law_room", "_law_form", "_law_many", "_law_near_here", "_law_some", "_law_great", "_law_k"]) (sc := defScope sValIn) (by decide +kernel))
        (fun _ _ _ _ _ => pg_name (i := 8) scValIn.nd rfl (Or.inl rfl)) (fun _ _ _ _ _ => pts_nil)
        (fun _ _ _ _ _ => pe_call G hr (by rfl) mV F.kp bV .nil pass0 (pa_cons (pv 0) (pa_cons (pe_op op_sub (pv 1) pe_int) (pa_cons (pv 2) pa_nil))))) pa_nil)))))
      pss_nil)
    (pss_cons (ps_set (i := 5) scValIn.nd rfl (.inl rfl) (pe_op op_sub (pe_call T.ok hr1 (by rfl) T.mg T.kp T.bd .nil pass0 (pa_cons (pv 0) (pa_cons pe_int pa_nil))) pe_int))
    (pss_cons (ps_set (i := 6) scValIn.nd rfl (.inl rfl) (pe_lst (pa_cons (pv 5) (pa_cons (pe_op op_sub (pe_op op_pow pe_int pe_int) (pe_call T.ok hr1 (by rfl) T.mg T.kp T.bd .nil pass0 (pa_cons (pv 0) (pa_cons pe_int pa_nil))))
        (pa_cons (pe_op op_sub (pe_call T.ok hr1 (by rfl) T.mg T.kp T.bd .nil pass0 (pa_cons (pv 0) (pa_cons pe_int pa_nil))) (pe_op op_pow pe_int pe_int))
        (pa_cons (pe_op op_sub (pe_call T.ok hr1 (by rfl) T.mg T.kp T.bd .nil pass0 (pa_cons (pv 0) (pa_cons (pe_op op_pow pe_int pe_int) pa_nil))) (pe_op op_mul pe_int (pe_op op_pow pe_int pe_int))) pa_nil))))))
    (pss_cons (ps_set (i := 7) scValIn.nd rfl (.inl rfl) (pe_ix ix_list (pv 6) (pe_op op_fdiv (pe_call T.ok hr1 (by rfl) T.mg T.kp T.bd .nil pass0 (pa_cons (pv 0) (pa_cons pe_int pa_nil))) pe_int) (fun _ _ => rfl)))
    (pss_one (ps_ret (pe_ix ix_list (pe_lst (pa_cons (pv 7) (pa_cons (pv 7) (pa_cons (pe_call GW.ok hr2 (by rfl) GW.mg GW.kp GW.bd .nil pass0 (pa_cons (pv 0) pa_nil)) (pa_cons (pv 5)
        (pa_cons (pe_call GW.ok hr2 (by rfl) GW.mg GW.kp GW.bd .nil pass0 (pa_cons (pv 0) pa_nil)) pa_nil)))))) (pv 3) (fun _ _ => rfl)))))))), ?_⟩
  refine ⟨_, rfl, wd, _, 0, _, rfl, rfl, SqL.of hw, rfl, _, _, rfl, rfl, _, rfl, p, g, 5, rfl, hb, by decide, by decide, fun fo H1 f0 f5 b1 o1 => ⟨few (by simp), fun tq htq => ?_⟩⟩
  have sub : ∀ b ∈ [p, g], b ∈ [p, g, wd] := fun b hb => by
    simp only [List.mem_cons, List.not_mem_nil, or_false] at hb ⊢
    rcases hb with h | h
    · exact .inl h
    · exact .inr (.inl h)
  have hw1 : H1 wd = some (.lst [.int w0]) := o1.get hw nw
  have nq := b1.notin htq
  have nwq : wd ≠ tq := ne_of_none hw1 htq
  have nq3 : tq ∉ [p, g, wd] := by
    simp only [List.mem_cons, List.not_mem_nil, or_false, not_or] at nq ⊢
    exact ⟨nq.1, nq.2, fun z => nwq z.symm⟩
  have oq := off_new (o := .tup [.int (w0 - 1), .int fo]) (o1.mono sub) nq3 ((o1.mono sub).free htq nq3)
  refine ⟨tq, _, rfl, .inl (.inl upd_same), rfl, _, _, rfl, _, rfl, wd, _, 0, 0, rfl, rfl, by rw [upd_ne nwq]; exact hw1, rfl, ?_⟩
  refine ⟨_, _, rfl, rfl, ?_⟩
  have b2 : Box (upd (upd H1 tq (.tup [.int (w0 - 1), .int fo])) wd (.lst [.int (w0 - 1)])) p g := (b1.put nq).put nw
  have hw2 : (upd (upd H1 tq (.tup [.int (w0 - 1), .int fo])) wd (.lst [.int (w0 - 1)])) wd = some (.lst [.int (w0 - 1)]) := upd_same
  have o2 : Off [p, g, wd] H (upd (upd H1 tq (.tup [.int (w0 - 1), .int fo])) wd (.lst [.int (w0 - 1)])) := oq.trans (Off.put (by simp))
  refine ⟨_, rfl, _, _, rfl, rfl, _, rfl, ite2 (fun c1 => ⟨_, rfl, _, _, rfl, rfl, _, rfl, ite2 (fun c2 => ⟨_, rfl, wd, _, 0, _, rfl, rfl, SqL.of hw2, rfl, _, _, rfl, rfl, _, rfl, ite2 (fun c3 => ?r) (fun c3 => ?l3)⟩) (fun c2 => ?l2)⟩) (fun c1 => ?l1)⟩
  case r =>
    have e1 : (0 : Int) < e := of_decide_eq_true c1
    have w1' : (0 : Int) < w0 - 1 := of_decide_eq_true c3
    refine ⟨_, rfl, p, g, 4, rfl, b2, by decide, by decide, fun s1 H3 s10 s14 b3 o3 => ⟨_, rfl, p, g, 9, rfl, b3, by decide, by decide, fun s2 H4 s20 s29 b4 o4 => ⟨_, _, rfl, rfl, few (by simp), fun D hD => ?_⟩⟩⟩
    have o34 := o3.trans o4
    have hw4 : H4 wd = some (.lst [.int (w0 - 1)]) := o34.get hw2 nw
    have o4 := o2.trans (o34.mono sub)
    have nD := b4.notin hD
    have nwD : wd ≠ D := ne_of_none hw4 hD
    have nD3 : D ∉ [p, g, wd] := by
      simp only [List.mem_cons, List.not_mem_nil, or_false, not_or] at nD ⊢
      exact ⟨nD.1, nD.2, fun z => nwD z.symm⟩
    have b5 := b4.put (o := .lst [V.int s1, V.int (4 + s2)]) nD
    have o5 := off_new (o := .lst [V.int s1, V.int (4 + s2)]) o4 nD3 (o4.free hD nD3)
    refine ⟨_, rfl, p, g, 3, rfl, b5, by decide, by decide, fun s3 H6 s30 s33 b6 o6 => ⟨_, _, rfl, rfl, ⟨by decide, by decide⟩, ?_⟩⟩
    have hD6 : H6 D = some (.lst [V.int s1, V.int (4 + s2)]) := o6.get upd_same nD
    have hw6 : H6 wd = some (.lst [.int (w0 - 1)]) := o6.get (by rw [upd_ne nwD]; exact hw4) nw
    have o6 := o5.trans (o6.mono sub)
    obtain ⟨v, hv, mv⟩ := atN (xs := [V.int s1, V.int (4 + s2)]) (r := s3 / 2) (by omega) (by show s3 / 2 < 2; omega)
    refine ⟨D, _, _, v, rfl, rfl, SqL.of hD6, hv, ?_⟩
    obtain ⟨m, rfl, m0, m12⟩ : ∃ m : Int, v = .int m ∧ 0 ≤ m ∧ m ≤ 12 := by
      simp only [List.mem_cons, List.not_mem_nil, or_false] at mv
      rcases mv with e | e
      · exact ⟨_, e, by omega, by omega⟩
      · exact ⟨_, e, by omega, by omega⟩
    have tr6 : Tr l H6 := tl.go o6 fun b hb => by
      have t := b6.tr
      simp only [List.mem_cons, List.not_mem_nil, or_false] at hb
      rcases hb with h | h | h
      · rw [h]; exact t.1
      · rw [h]; exact t.2
      · rw [h, hw6]; exact fun z => nomatch z
    refine ⟨_, rfl, m, rfl, by omega, by omega, fun D2 hD2 => ?_⟩
    have n2 := b6.notin hD2
    have nw2 : wd ≠ D2 := ne_of_none hw6 hD2
    have n23 : D2 ∉ [p, g, wd] := by
      simp only [List.mem_cons, List.not_mem_nil, or_false, not_or] at n2 ⊢
      exact ⟨n2.1, n2.2, fun z => nw2 z.symm⟩
    have nl2 : D2 ∉ l := fun z => tr6 D2 z hD2
    refine lc_range (lo := 0) (n := m.toNat) (fun i H7 => ∃ vs ds wi, vs.length = i ∧ H7 D2 = some (.lst vs) ∧ DpAll K (cut (D2 :: p :: g :: wd :: l) H7) vs ds ∧ (gds ds = true ∧ lvs ds = true) ∧ (PyData.depthAll ds : Int) ≤ e - 1 ∧
        Box H7 p g ∧ H7 wd = some (.lst [.int wi]) ∧ Off [p, g, wd] H H7 ∧ Tr l H7 ∧ wi ≤ w0 - 1 ∧ nods ds + 12 * phi wi ≤ i + 12 * phi (w0 - 1))
      ⟨[], [], w0 - 1, rfl, upd_same, .nil, ⟨by simp only [gds], by simp only [lvs]⟩, by simp only [PyData.depthAll]; omega, b6.put n2, by rw [upd_ne nw2]; exact hw6, off_new o6 n23 (o6.free hD2 n23), fun b hb => by rw [upd_ne (ne_mem nl2 hb)]; exact tr6 b hb, Int.le_refl _, by simp only [nods]; omega⟩ ?_ ?_
    · rintro i H7 hi ⟨vs, ds, wi, lv, h1, h2, h3, h4, h5, h6, h7, h8, h9, h10⟩
      have trk : Tr (D2 :: p :: g :: wd :: l) H7 := fun b hb => by
        have t := h5.tr
        simp only [List.mem_cons] at hb
        rcases hb with h | h | h | h | h
        · rw [h, h1]; exact fun z => nomatch z
        · rw [h]; exact t.1
        · rw [h]; exact t.2
        · rw [h, h6]; exact fun z => nomatch z
        · exact h8 b h
      refine ⟨rfl, _, rfl, _, rfl, _, _, rfl, rfl, _, rfl, p, g, wd, e - 1, wi, D2 :: p :: g :: wd :: l, rfl, h5, h6, nw, by omega, by omega, trk, fun v d H8 wj k1 k2 k3 k4 k5 k6 k7 k8 => ?_⟩
      have o8 : Off (D2 :: p :: g :: wd :: l) H7 H8 := k3.mono fun b hb => by
        simp only [List.mem_cons, List.not_mem_nil, or_false] at hb ⊢
        rcases hb with h | h | h
        · exact .inr (.inl h)
        · exact .inr (.inr (.inl h))
        · exact .inr (.inr (.inr (.inl h)))
      have put8 : Off (D2 :: p :: g :: wd :: l) H8 (upd H8 D2 (.lst (vs ++ [v]))) := Off.put (by simp)
      refine ⟨vs, k3.get h1 n23, few (by omega), vs ++ [v], ds ++ [d], wj, by rw [List.length_append, List.length_singleton, lv], upd_same, ?_, ?_, ?_, k1.put n2, by rw [upd_ne nw2]; exact k2, ?_, ?_, by omega, ?_⟩
      · exact DpAll.app (Dp.ups (o8.trans put8) _ _ h2) (.cons (Dp.up put8 _ _ k4) .nil)
      · rw [gds_app, lvs_app, h3.1, h3.2]
        simp only [gds, lvs, k5.1, k5.2, Bool.and_self, and_self]
      · rw [depthAll_app]
        simp only [PyData.depthAll]
        omega
      · exact off_new (h7.trans k3) n23 (o6.free hD2 n23)
      · intro b hb
        by_cases eb : b = D2
        · exact absurd eb (ne_mem nl2 hb)
        · rw [upd_ne eb]
          have q1 := trk.go k3 (fun b hb => by
            have t := k1.tr
            simp only [List.mem_cons, List.not_mem_nil, or_false] at hb
            rcases hb with h | h | h
            · rw [h]; exact t.1
            · rw [h]; exact t.2
            · rw [h, k2]; exact fun z => nomatch z)
          exact q1 b (by simp [hb])
      · rw [nods_app]
        simp only [nods]
        omega
    · rintro H7 ⟨vs, ds, wi, lv, h1, h2, h3, h4, h5, h6, h7, h8, h9, h10⟩
      refine ⟨D2, vs, rfl, .inl ⟨SqL.of h1, fun t ht => ?_⟩⟩
      have nt := h5.notin ht
      have nwt : wd ≠ t := ne_of_none h6 ht
      have nt3 : t ∉ [p, g, wd] := by
        simp only [List.mem_cons, List.not_mem_nil, or_false, not_or] at nt ⊢
        exact ⟨nt.1, nt.2, fun z => nwt z.symm⟩
      have ntl : t ∉ l := fun z => h8 t z ht
      have s1 : Same (cut (D2 :: p :: g :: wd :: l) H7) (cut l (upd H7 t (.tup vs))) := fun b o z => by
        obtain ⟨a1, a2⟩ := cut_some z
        rw [cut_out (fun y => a1 (by simp [y])), upd_ne (ne_of_none a2 ht)]
        exact a2
      refine q (.ref t) (.tuple ds) _ wi (h5.put nt) (by rw [upd_ne nwt]; exact h6) (off_new h7 nt3 (h7.free ht nt3)) (.tup (.inl (.inl (by rw [cut_out ntl]; exact upd_same))) (Dp.ups s1 _ _ h2)) ⟨by simpa only [gd] using h3.1, by simp only [Rl.lv]; exact h3.2⟩ (by simp only [PyData.depth]; omega) h9 ?_
      simp only [nod]
      have f0 : phi w0 = phi (w0 - 1) + 1 := by
        unfold phi
        omega
      have m1 : (m.toNat : Int) = m := by omega
      omega
  all_goals
    refine ⟨_, rfl, p, g, 9, rfl, b2, by decide, by decide, fun s1 H3 s10 s19 b3 o3 => ⟨_, _, rfl, rfl, ?_⟩⟩
    refine ⟨_, rfl, _, _, rfl, rfl, ⟨by decide, by decide, by decide⟩, _, rfl, p, g, 3, rfl, b3, by decide, by decide, fun s2 H4 s20 s23 b4 o4 => ⟨_, _, rfl, rfl, ?_⟩⟩
    refine ⟨_, rfl, p, g, 3, rfl, b4, by decide, by decide, fun s3 H5 s30 s33 b5 o5 => ⟨_, _, rfl, rfl, ⟨by decide, by decide, by decide⟩, _, _, rfl, rfl, ?_⟩⟩
    refine ⟨_, rfl, _, _, rfl, rfl, ⟨by decide, by decide, by decide⟩, p, g, _, rfl, b5, by decide, by decide, fun s4 H6 s40 s46 b6 o6 => ⟨_, _, rfl, rfl, ⟨by decide, by decide, by decide⟩, _, _, rfl, rfl, .inl ⟨by decide, by decide⟩, _, _, rfl, rfl, few (by simp), fun D hD => ?_⟩⟩
    have o36 : Off [p, g] (upd (upd H1 tq (.tup [.int (w0 - 1), .int fo])) wd (.lst [.int (w0 - 1)])) H6 := o3.trans (o4.trans (o5.trans o6))
    have nD := b6.notin hD
    have b7 := b6.put (o := .lst [V.int (s1 - 4), V.int (10 ^ (9 : Int).toNat - s2), V.int (s3 - 10 ^ (9 : Int).toNat), V.int (s4 - 5 * 10 ^ (5 : Int).toNat)]) nD
    have o7 := off_new (o := .lst [V.int (s1 - 4), V.int (10 ^ (9 : Int).toNat - s2), V.int (s3 - 10 ^ (9 : Int).toNat), V.int (s4 - 5 * 10 ^ (5 : Int).toNat)]) o36 nD (o36.free hD nD)
    refine ⟨_, rfl, _, rfl, p, g, 8, rfl, b7, by decide, by decide, fun s5 H8 s50 s58 b8 o8 => ⟨_, _, rfl, rfl, ⟨by decide, by decide⟩, ?_⟩⟩
    have hD8 := o8.get upd_same nD
    have o8 := o7.trans o8
    obtain ⟨v, hv, mv⟩ := atN (xs := [V.int (s1 - 4), V.int (10 ^ (9 : Int).toNat - s2), V.int (s3 - 10 ^ (9 : Int).toNat), V.int (s4 - 5 * 10 ^ (5 : Int).toNat)]) (r := s5 / 2) (by omega) (by show s5 / 2 < 4; omega)
    refine ⟨D, _, _, v, rfl, rfl, SqL.of hD8, hv, ?_⟩
    have p2 : (2 : Nat) ^ 40 ≤ 2 ^ 1000 := Nat.pow_le_pow_right (by decide) (by decide)
    have big : (10 : Int) ^ (9 : Int).toNat = 1000000000 := by decide
    have big5 : (10 : Int) ^ (5 : Int).toNat = 100000 := by decide
    have big6 : (10 : Int) ^ (6 : Int).toNat = 1000000 := by decide
    obtain ⟨z, rfl, hz⟩ : ∃ z : Int, v = .int z ∧ z.natAbs < 2 ^ 1000 := by
      have s46' : s4 < 10 ^ (6 : Int).toNat := s46
      rw [big6] at s46'
      rw [big, big5] at mv
      simp only [List.mem_cons, List.not_mem_nil, or_false] at mv
      rcases mv with e | e | e | e
      · exact ⟨_, e, Nat.lt_of_lt_of_le (by omega) p2⟩
      · exact ⟨_, e, Nat.lt_of_lt_of_le (by omega) p2⟩
      · exact ⟨_, e, Nat.lt_of_lt_of_le (by omega) p2⟩
      · exact ⟨_, e, Nat.lt_of_lt_of_le (by omega) p2⟩
    refine ⟨_, rfl, _, rfl, _, rfl, p, g, rfl, b8, fun x9 H9 sx9 b9 o9 => ⟨_, rfl, _, rfl, p, g, rfl, b9, fun x10 H10 sx10 b10 o10 => ⟨few (by simp), fun D2 hD2 => ?_⟩⟩⟩
    have o10 := o8.trans (o9.trans o10)
    have nD2 := b10.notin hD2
    have b11 := b10.put (o := .lst [V.int z, V.int z, V.str x9, V.int (s1 - 4), V.str x10]) nD2
    have o11 := off_new (o := .lst [V.int z, V.int z, V.str x9, V.int (s1 - 4), V.str x10]) o10 nD2 (o10.free hD2 nD2)
    obtain ⟨v2, hv2, mv2⟩ := atN (xs := [V.int z, V.int z, V.str x9, V.int (s1 - 4), V.str x10]) (r := fo) f0 (by show fo < 5; exact f5)
    refine ⟨_, rfl, D2, _, _, v2, rfl, rfl, SqL.of upd_same, hv2, ?_⟩
    have ph : phi (w0 - 1) ≤ phi w0 := by
      unfold phi
      omega
    have fin : ∀ d, Dp K (cut l (upd H10 D2 (.lst [V.int z, V.int z, V.str x9, V.int (s1 - 4), V.str x10]))) v2 d → gd d = true → lv d = true → nod d = 1 → d.depth = 0 → Q v2 (upd H10 D2 (.lst [V.int z, V.int z, V.str x9, V.int (s1 - 4), V.str x10])) := fun d k1 k2 k3 k4 k5 =>
      q v2 d _ (w0 - 1) b11 (o11.get hw2 nw) (o2.trans (o11.mono sub)) k1 ⟨k2, k3⟩ (by omega) (Int.le_refl _) (by omega)
    simp only [List.mem_cons, List.not_mem_nil, or_false] at mv2
    rcases mv2 with e | e | e | e | e
    · rw [e] at fin ⊢; exact fin _ (.int z) (gd_int hz) (by simp only [lv]) (by simp only [nod]) (by simp only [PyData.depth])
    · rw [e] at fin ⊢; exact fin _ (.int z) (gd_int hz) (by simp only [lv]) (by simp only [nod]) (by simp only [PyData.depth])
    · rw [e] at fin ⊢; exact fin _ (.str x9) (sx9.gd (by decide)) (by simp only [lv]) (by simp only [nod]) (by simp only [PyData.depth])
    · rw [e] at fin ⊢; exact fin _ (.int _) (gd_int (Nat.lt_of_lt_of_le (by omega) p2)) (by simp only [lv]) (by simp only [nod]) (by simp only [PyData.depth])
    · rw [e] at fin ⊢; exact fin _ (.str x10) (sx10.gd (by decide)) (by simp only [lv]) (by simp only [nod]) (by simp only [PyData.depth])
end
section
variable {P : Program} {w : World} {K : PySem.W.Frag} {mg : Str → Option Value} {base : Heap} {f fT fV : Addr} {fd dT dV : FuncData}
theorem ok_value {k : Nat} (F : Fun K "_law_value" "_law_value" sValue f fd) (GV : Dn P w K mg base 10 "_law_value_in" ["_law_box_here", "_law_deep", "_law_room"] (spVal K 8) fV dV) : FnOk P w K mg base CX0 (k + 11) f fd ["_law_box_here", "_law_deep"] (spValue K) := by
  refine F.ok scValue (fun vs H Q E h => ?_) (fun cdv A outer s H vs Q E hr h => ?_)
  · obtain ⟨p, g, e, l, rfl, _⟩ := h
    rfl
  obtain ⟨p, g, e, l, rfl, hb, e0, e8, tl, q⟩ := h
  refine ⟨_, pss_one (ps_ret (pe_call GV.ok (hr.mono (by omega)) (by rfl) GV.mg GV.kp GV.bd .nil pass0 (pa_cons (pv 0) (pa_cons (pv 1) (pa_cons (pe_lst (pa_cons pe_int pa_nil)) pa_nil))))), ?_⟩
  refine ⟨_, rfl, _, rfl, few (by simp), fun wd hwd => ?_⟩
  have nw := hb.notin hwd
  have nl : wd ∉ l := tl.out hwd
  have ph : phi 40 = 40 := by decide
  refine ⟨p, g, wd, e, 40, wd :: l, rfl, hb.put nw, upd_same, nw, e0, by omega, fun b h => ?_, fun v d H' w1 k1 k2 k3 k4 k5 k6 k7 k8 => ?_⟩
  · rcases List.mem_cons.mp h with h | h
    · rw [h, upd_same]; exact fun z => nomatch z
    · rw [upd_ne (ne_mem nl h)]; exact tl b h
  · have off : Off [p, g] H H' := fun b o z => by
      obtain ⟨n1, z1⟩ := cut_some z
      have nb := ne_of_none z1 hwd
      rw [cut_out n1]
      exact k3.get (by rw [upd_ne nb]; exact z1) (by
        simp only [List.mem_cons, List.not_mem_nil, or_false, not_or] at n1 ⊢
        exact ⟨n1.1, n1.2, nb⟩)
    exact q v d H' k1 off (Dp.up (cut_less fun b hb => List.mem_cons_of_mem _ hb) _ _ k4) k5.1 k5.2 (by omega) (by omega)
end
abbrev sLRank : Stmt := topS 12
theorem scLRank : FnScope ["_law_value_here"] ["_law_value_here"] (defScope sLRank) := ⟨rfl, rfl, rfl, by decide +kernel, rfl, by decide +kernel, by decide +kernel⟩
def spLRank (K : PySem.W.Frag) (C : Addr) : Sp := fun vs H Q _ => ∃ v d, vs = [v] ∧ Th K C H v d ∧ Q (.int (rkTag (rkOf d))) H
section
variable {P : Program} {w : World} {K : PySem.W.Frag} {mg : Str → Option Value} {base : Heap} {f C fE : Addr} {fd : FuncData}
theorem ok_lrank {k : Nat} (F : Fun K "_law_rank" "_law_rank" sLRank f fd) (B : Bi mg) (T : FaC K mg C fE) : FnOk P w K mg base CX0 (k + 1) f fd ["_law_value_here"] (spLRank K C) := by
  refine F.ok scLRank (fun vs H Q E h => ?_) (fun cdv A outer s H vs Q E hr h => ?_)
  · obtain ⟨v, d, rfl, _⟩ := h
    rfl
  obtain ⟨v, d, rfl, hd, q⟩ := h
  refine ⟨_, pss_one (ps_ret (pe_ifExp (pt_val (pe_callB call_isi (by rfl) B.ii b_ii (pa_cons (pv 0) (pa_cons (pe_glob (by rfl) T.mg (v := .ref C) rfl) pa_nil)))) pe_int
    (pe_ifExp (pt_val (pe_callB call_isD (by rfl) B.ii b_ii (pa_cons (pv 0) (pa_cons (pe_bltn (by rfl) B.tup b_tup (v := .ty "tuple") rfl) pa_nil)))) pe_int
      (pe_callTy call_int1 (by rfl) B.int b_int (pa_cons (pe_callB call_isD (by rfl) B.ii b_ii (pa_cons (pv 0) (pa_cons (pe_bltn (by rfl) B.str b_str (v := .ty "str") rfl) pa_nil))) pa_nil))))), ?_⟩
  rcases hd with ⟨rfl, b, wd, r, p, rfl, dy, hb⟩ | ⟨hl, hg, hd⟩
  · exact ⟨_, rfl, .ref b, .ref C, _, _, true, rfl, .own C, .base (.ins hb T.o.c.cl T.o.c.ha T.o.c.hn T.o.c.htk T.o.c.hm), T.o.c.me, _, rfl, iteT q⟩
  · refine ⟨_, rfl, v, .ref C, _, _, false, rfl, .own C, tyD hd, (T.o.of hd).1, _, rfl, iteF ?_⟩
    refine ⟨_, rfl, v, d, "tuple", _, rfl, hd, kit_tup d, _, rfl, ?_⟩
    cases hd with
    | tup h1 h2 => exact iteT q
    | str x => exact iteF ⟨_, rfl, _, .str x, "str", _, rfl, .str x, kit_str _, .inr ⟨_, rfl, q⟩⟩
    | int i => exact iteF ⟨_, rfl, _, .int i, "str", _, rfl, .int i, kit_str _, .inr ⟨_, rfl, q⟩⟩
    | non => cases hl
    | bl b => cases hl
    | lst _ _ => cases hl
end
abbrev sLess : Stmt := topS 13
theorem scLess : FnScope ["_law_one", "_law_other", "_law_left", "_law_right"] ["_law_one", "_law_other"] (defScope sLess) := ⟨rfl, rfl, rfl, by decide +kernel, rfl, by decide +kernel, by decide +kernel⟩
def spLess (K : PySem.W.Frag) (C : Addr) (n : Nat) : Sp := fun vs H Q _ => ∃ v1 v2 d1 d2, vs = [v1, v2] ∧ Th K C H v1 d1 ∧ Th K C H v2 d2 ∧ d1.depth < n ∧ d2.depth < n ∧ ∀ H', Same H H' → Q (.bl (cmpD d1 d2 == .lt)) H'
theorem int_dec (i j : Int) : decide (V.int i = V.int j) = decide (i = j) := by
  by_cases h : i = j
  · rw [decide_eq_true h, decide_eq_true (congrArg V.int h)]
  · rw [decide_eq_false h, decide_eq_false fun z => h (V.int.inj z)]
def rLenD (K : PySem.W.Frag) : List V → Hp → VK → Prop := fun xs H Q => ∃ v d, xs = [v] ∧ Dp K H v d ∧ ((∃ x, d = .str x ∧ x.length ≤ sizeLine ∧ Q (.int x.length) H) ∨ ∃ ds, d = .tuple ds ∧ Q (.int ds.length) H)
theorem call_lenD {X : Cx} : CallR X (.builtin "len") (rLenD X.K) := by
  intro pins s σ H xs us Q I r h
  obtain ⟨v, d, rfl, hd, ⟨x, rfl, hx, q⟩ | ⟨ds, rfl, q⟩⟩ := h
  · cases hd
    exact call_len_str pins s σ H _ us Q I r ⟨x, rfl, hx, q⟩
  · cases hd with
    | tup h1 h2 =>
      have lx := DpAll.len h2
      rw [← lx] at q
      exact call_len_seq pins s σ H _ us Q I r ⟨_, _, rfl, .inr h1, q⟩
theorem rk_tag {a b : Rk} (h : rkTag a ≠ rkTag b) : rkEq a b = false ∧ rkLt a b = decide (rkTag a < rkTag b) := by
  cases a <;> cases b <;> first | exact ⟨rfl, rfl⟩ | exact absurd rfl h
theorem cmp_lt (a b : Rk) : (rkCmp a b == .lt) = rkLt a b := by
  unfold rkCmp
  cases rkLt a b <;> cases rkLt b a <;> rfl
theorem max_abs (i : Int) : (if 0 - i > i then 0 - i else i) = (i.natAbs : Int) := by
  split <;> omega
section
variable {P : Program} {w : World} {K : PySem.W.Frag} {mg : Str → Option Value} {base : Heap} {f fR C fE : Addr} {fd dR : FuncData}
theorem ok_less {k n : Nat} (F : Fun K "_law_less" "_law_less" sLess f fd) (B : Bi mg) (T : FaC K mg C fE) (mx : mg "max" = none) (mz : mg "zip" = none) (GR : Dn P w K mg base 1 "_law_rank" ["_law_value_here"] (spLRank K C) fR dR)
    (G : FnOk P w K mg base CX0 (k + 1) f fd ["_law_one", "_law_other"] (spLess K C n)) (bL : Binds K fd ["_law_one", "_law_other"] []) (mL : mg "_law_less" = some (.ref f)) : FnOk P w K mg base CX0 (k + 2) f fd ["_law_one", "_law_other"] (spLess K C (n + 1)) := by
  refine F.ok scLess (fun vs H Q E h => ?_) (fun cdv A outer s H vs Q E hr h => ?_)
  · obtain ⟨v1, v2, d1, d2, rfl, _⟩ := h
    rfl
  obtain ⟨v1, v2, d1, d2, rfl, h1, h2, n1, n2, q⟩ := h
  have hr1 : Room 1 _ := hr.mono (by omega)
  refine ⟨_, pss_cons (ps_if (pt_cmpR op_ne (pe_call GR.ok hr1 (by rfl) GR.mg GR.kp GR.bd .nil pass0 (pa_cons (pv 0) pa_nil)) (pe_call GR.ok hr1 (by rfl) GR.mg GR.kp GR.bd .nil pass0 (pa_cons (pv 1) pa_nil)) (nomark _))
      (pss_one (ps_ret (pe_cmpR op_lt (pe_call GR.ok hr1 (by rfl) GR.mg GR.kp GR.bd .nil pass0 (pa_cons (pv 0) pa_nil)) (pe_call GR.ok hr1 (by rfl) GR.mg GR.kp GR.bd .nil pass0 (pa_cons (pv 1) pa_nil)) (nomark _)))) pss_nil)
    (pss_cons (ps_if (pt_val (pe_callB call_isi (by rfl) B.ii b_ii (pa_cons (pv 0) (pa_cons (pe_glob (by rfl) T.mg (v := .ref C) rfl) pa_nil)))) (pss_one (ps_ret pe_bl)) pss_nil)
    (pss_cons (ps_if (pt_val (pe_callB call_isD (by rfl) B.ii b_ii (pa_cons (pv 0) (pa_cons (pe_bltn (by rfl) B.int b_int (v := .ty "int") rfl) pa_nil))))
      (pss_cons (ps_if (pt_cmpR op_ne (pe_callB (call_max2 rfl) (by rfl) mx b_max (pa_cons (pv 0) (pa_cons (pe_op op_sub pe_int (pv 0)) pa_nil))) (pe_callB (call_max2 rfl) (by rfl) mx b_max (pa_cons (pv 1) (pa_cons (pe_op op_sub pe_int (pv 1)) pa_nil))) (nomark _))
        (pss_one (ps_ret (pe_cmpR op_lt (pe_callB (call_max2 rfl) (by rfl) mx b_max (pa_cons (pv 0) (pa_cons (pe_op op_sub pe_int (pv 0)) pa_nil))) (pe_callB (call_max2 rfl) (by rfl) mx b_max (pa_cons (pv 1) (pa_cons (pe_op op_sub pe_int (pv 1)) pa_nil))) (nomark _)))) pss_nil)
      (pss_one (ps_ret (pe_cmpR op_gt (pv 0) (pv 1) (nomark _))))) pss_nil)
    (pss_cons (ps_if (pt_cmpR op_ne (pe_callB call_lenD (by rfl) B.len PySem.boot_len (pa_cons (pv 0) pa_nil)) (pe_callB call_lenD (by rfl) B.len PySem.boot_len (pa_cons (pv 1) pa_nil)) (nomark _))
      (pss_one (ps_ret (pe_cmpR op_lt (pe_callB call_lenD (by rfl) B.len PySem.boot_len (pa_cons (pv 0) pa_nil)) (pe_callB call_lenD (by rfl) B.len PySem.boot_len (pa_cons (pv 1) pa_nil)) (nomark _)))) pss_nil)
    (pss_cons (ps_if (pt_val (pe_callB call_isD (by rfl) B.ii b_ii (pa_cons (pv 0) (pa_cons (pe_bltn (by rfl) B.str b_str (v := .ty "str") rfl) pa_nil)))) (pss_one (ps_ret (pe_cmpR op_lt_str (pv 0) (pv 1) (nomark _)))) pss_nil)
    (pss_cons (ps_for PassesOwn.never rfl (RZ.pi_zipA (by rfl) mz (pa_cons (pv 0) (pa_cons (pv 1) pa_nil))) (pg_tup (by rfl) (pgs_cons (pg_name (i := 2) scLess.nd rfl (.inl rfl)) (pgs_cons (pg_name (i := 3) scLess.nd rfl (.inl rfl)) pgs_nil)))
      (pss_one (ps_if (PW.pt (pw_or (pt_val (pe_call G hr (by rfl) mL F.kp bL .nil pass0 (pa_cons (pv 2) (pa_cons (pv 3) pa_nil)))) (pw_or1 (pt_val (pe_call G hr (by rfl) mL F.kp bL .nil pass0 (pa_cons (pv 3) (pa_cons (pv 2) pa_nil)))))))
        (pss_one (ps_ret (pe_call G hr (by rfl) mL F.kp bL .nil pass0 (pa_cons (pv 2) (pa_cons (pv 3) pa_nil))))) pss_nil)))
    (pss_one (ps_ret pe_bl))))))), ?_⟩
  have same0 := Same.refl H
  refine ⟨_, rfl, v1, d1, rfl, h1, _, rfl, v2, d2, rfl, h2, rfl, _, rfl, ?_⟩
  rw [int_dec]
  by_cases ht : rkTag (rkOf d1) = rkTag (rkOf d2)
  · rw [decide_eq_true ht]
    refine iteF ?_
    rcases h1 with ⟨rfl, b, wd, r, p, rfl, dy, hb⟩ | ⟨hl1, hg1, hd1⟩
    · refine ⟨_, rfl, .ref b, .ref C, _, _, true, rfl, .own C, .base (.ins hb T.o.c.cl T.o.c.ha T.o.c.hn T.o.c.htk T.o.c.hm), T.o.c.me, _, rfl, iteT ?_⟩
      have e : (cmpD .none d2 == .lt) = false := by
        rw [cmpD_flat rfl, cmp_lt]
        cases d2 <;> first | rfl | (simp [rkOf, rkTag] at ht; done)
      rw [e] at q
      exact q H same0
    rcases h2 with ⟨rfl, b, wd, r, p, rfl, dy, hb⟩ | ⟨hl2, hg2, hd2⟩
    · cases d1 <;> first | (cases hl1; done) | (simp [rkOf, rkTag] at ht; done)
    refine ⟨_, rfl, v1, .ref C, _, _, false, rfl, .own C, tyD hd1, (T.o.of hd1).1, _, rfl, iteF ?_⟩
    refine ⟨_, rfl, v1, d1, "int", _, rfl, hd1, kit_int d1, _, rfl, ?_⟩
    cases hd1 with
    | int i =>
      cases hd2 with
      | int j =>
        refine iteT ⟨_, rfl, _, rfl, _, _, rfl, rfl, i, _, rfl, _, rfl, _, rfl, _, _, rfl, rfl, j, _, rfl, rfl, _, rfl, ?_⟩
        rw [max_abs, max_abs, int_dec]
        have e : (cmpD (.int i) (.int j) == .lt) = if (i.natAbs : Int) = j.natAbs then decide (i > j) else decide ((i.natAbs : Int) < j.natAbs) := by
          rw [cmpD_flat rfl, cmp_lt]
          simp only [rkOf, rkLt]
          by_cases h : (i.natAbs : Int) = j.natAbs
          · rw [if_pos h, if_pos h]
            by_cases a1 : i < 0 <;> by_cases a2 : j < 0 <;> simp [a1, a2] <;> omega
          · rw [if_neg h, if_neg h]
        by_cases h : (i.natAbs : Int) = j.natAbs
        · rw [if_pos h] at e
          rw [decide_eq_true h]
          rw [e] at q
          exact iteF ⟨_, rfl, _, rfl, _, _, rfl, rfl, q H same0⟩
        · rw [if_neg h] at e
          rw [decide_eq_false h]
          rw [e] at q
          refine iteT ⟨_, rfl, _, rfl, _, _, rfl, rfl, i, _, rfl, _, rfl, _, rfl, _, _, rfl, rfl, j, _, rfl, _, _, rfl, rfl, ?_⟩
          rw [max_abs, max_abs]
          exact q H same0
      | str x => simp [rkOf, rkTag] at ht
      | tup _ _ => simp [rkOf, rkTag] at ht
      | non => cases hl2
      | bl _ => cases hl2
      | lst _ _ => cases hl2
    | str x =>
      cases hd2 with
      | str y =>
        have lx : x.length ≤ sizeLine := Nat.le_trans (gd_str hg1) (by decide)
        have ly : y.length ≤ sizeLine := Nat.le_trans (gd_str hg2) (by decide)
        refine iteF ⟨_, rfl, _, .str x, rfl, .str x, .inl ⟨x, rfl, lx, _, rfl, _, .str y, rfl, .str y, .inl ⟨y, rfl, ly, rfl, _, rfl, ?_⟩⟩⟩
        rw [int_dec]
        have e : (cmpD (.str x) (.str y) == .lt) = if (x.length : Int) = y.length then decide (x.cps.toList < y.cps.toList) else decide ((x.length : Int) < y.length) := by
          rw [cmpD_flat rfl, cmp_lt]
          rfl
        by_cases h : (x.length : Int) = y.length
        · rw [if_pos h] at e
          rw [decide_eq_true h]
          rw [e] at q
          exact iteF ⟨_, rfl, _, .str x, "str", _, rfl, .str x, kit_str _, _, rfl, iteT ⟨_, rfl, _, rfl, _, _, rfl, rfl, q H same0⟩⟩
        · rw [if_neg h] at e
          rw [decide_eq_false h]
          rw [e] at q
          exact iteT ⟨_, rfl, _, .str x, rfl, .str x, .inl ⟨x, rfl, lx, _, rfl, _, .str y, rfl, .str y, .inl ⟨y, rfl, ly, _, _, rfl, rfl, q H same0⟩⟩⟩
      | int x => simp [rkOf, rkTag] at ht
      | tup _ _ => simp [rkOf, rkTag] at ht
      | non => cases hl2
      | bl _ => cases hl2
      | lst _ _ => cases hl2
    | tup sx dx =>
      rename_i a1 xs as
      have hD1 : Dp K H (.ref a1) (.tuple as) := .tup sx dx
      cases hd2 with
      | tup sy dy =>
        rename_i a2 ys bs
        have hD2 : Dp K H (.ref a2) (.tuple bs) := .tup sy dy
        refine iteF ⟨_, rfl, _, _, rfl, hD1, .inr ⟨as, rfl, _, rfl, _, _, rfl, hD2, .inr ⟨bs, rfl, rfl, _, rfl, ?_⟩⟩⟩
        rw [int_dec]
        by_cases h : (as.length : Int) = bs.length
        · have len : as.length = bs.length := by omega
          rw [decide_eq_true h]
          refine iteF ⟨_, rfl, _, _, "str", _, rfl, hD1, kit_str _, _, rfl, iteF ?_⟩
          have e : cmpD (.tuple as) (.tuple bs) = cmpDs as bs := by
            simp only [cmpD]
            rw [if_pos len]
          rw [e] at q
          have lx := DpAll.len dx
          have ly := DpAll.len dy
          simp only [PyData.depth, lv, gd] at n1 n2 hl1 hl2 hg1 hg2
          refine ⟨_, rfl, _, rfl, a1, a2, xs, ys, rfl, .inr ⟨sx, sy, RZ.for_zipT (K := K) (by omega) (fun i σ H2 => ∃ o2 o3, σ = [some (.ref a1), some (.ref a2), o2, o3] ∧ Same H H2 ∧ cmpDs (as.drop i) (bs.drop i) = cmpDs as bs) ⟨none, none, rfl, same0, by simp⟩ (fun i σ H2 ⟨_, _, _, s2, _⟩ => ⟨seqT_up s2 sx, seqT_up s2 sy⟩) ?_ ?_⟩⟩
          · rintro i x y t σ H2 ex ey ⟨o2, o3, rfl, s2, cs⟩ ht2
            obtain ⟨da, ea, hda⟩ := DpAll.get dx ex
            obtain ⟨db, eb, hdb⟩ := DpAll.get dy ey
            have s3 := s2.trans (same_new (o := .tup [x, y]) ht2)
            have ma := List.mem_of_getElem? ea
            have mb := List.mem_of_getElem? eb
            have pa := depth_mem ma
            have pb := depth_mem mb
            have ta : Th K C H x da := .inr ⟨lvs_mem hl1 ma, gds_mem hg1 ma, hda⟩
            have tb : Th K C H y db := .inr ⟨lvs_mem hl2 mb, gds_mem hg2 mb, hdb⟩
            refine ⟨t, _, rfl, .inl (.inl upd_same), rfl, _, _, rfl, _, _, rfl, rfl, ?_⟩
            have ed : cmpDs (as.drop i) (bs.drop i) = match cmpD da db with
              | .eq => cmpDs (as.drop (i + 1)) (bs.drop (i + 1))
              | o => o := by
              rw [List.drop_eq_getElem_cons (List.getElem?_eq_some_iff.mp ea).1, List.drop_eq_getElem_cons (List.getElem?_eq_some_iff.mp eb).1, (List.getElem?_eq_some_iff.mp ea).2, (List.getElem?_eq_some_iff.mp eb).2]
              first
                | (simp only [cmpDs]; done)
                | (simp only [cmpDs]; cases cmpD da db <;> rfl)
            rw [ed] at cs
            refine ⟨_, rfl, _, rfl, x, y, da, db, rfl, ta.up s3, tb.up s3, by omega, by omega, fun H4 s4 => ⟨_, rfl, ?_⟩⟩
            have s4' := s3.trans s4
            cases hc : cmpD da db with
            | lt =>
              rw [hc] at cs
              refine iteT ⟨_, rfl, _, rfl, x, y, da, db, rfl, ta.up s4', tb.up s4', by omega, by omega, fun H5 s5 => ?_⟩
              rw [hc]
              rw [← cs] at q
              exact q H5 (s4'.trans s5)
            | eq =>
              rw [hc] at cs
              refine iteF ⟨_, rfl, _, rfl, y, x, db, da, rfl, tb.up s4', ta.up s4', by omega, by omega, fun H5 s5 => ⟨_, rfl, ?_⟩⟩
              rw [cmpD_swap da db, hc]
              exact iteF ⟨_, _, rfl, s4'.trans s5, cs⟩
            | gt =>
              rw [hc] at cs
              refine iteF ⟨_, rfl, _, rfl, y, x, db, da, rfl, tb.up s4', ta.up s4', by omega, by omega, fun H5 s5 => ⟨_, rfl, ?_⟩⟩
              rw [cmpD_swap da db, hc]
              refine iteT ⟨_, rfl, _, rfl, x, y, da, db, rfl, ta.up (s4'.trans s5), tb.up (s4'.trans s5), by omega, by omega, fun H6 s6 => ?_⟩
              rw [hc]
              rw [← cs] at q
              exact q H6 ((s4'.trans s5).trans s6)
          · rintro σ H2 ⟨o2, o3, rfl, s2, cs⟩
            rw [List.drop_of_length_le (by omega), List.drop_of_length_le (by omega)] at cs
            rw [← cs] at q
            exact q H2 s2
        · have len : ¬ as.length = bs.length := by omega
          rw [decide_eq_false h]
          have e : (cmpD (.tuple as) (.tuple bs) == .lt) = decide ((as.length : Int) < bs.length) := by
            simp only [cmpD]
            rw [if_neg len, cmp_lt]
            rfl
          rw [e] at q
          exact iteT ⟨_, rfl, _, _, rfl, hD1, .inr ⟨as, rfl, _, rfl, _, _, rfl, hD2, .inr ⟨bs, rfl, _, _, rfl, rfl, q H same0⟩⟩⟩
      | int x => simp [rkOf, rkTag] at ht
      | str _ => simp [rkOf, rkTag] at ht
      | non => cases hl2
      | bl _ => cases hl2
      | lst _ _ => cases hl2
    | non => cases hl1
    | bl _ => cases hl1
    | lst _ _ => cases hl1
  · rw [decide_eq_false ht]
    have rt := rk_tag ht
    have e : (cmpD d1 d2 == .lt) = decide (rkTag (rkOf d1) < rkTag (rkOf d2)) := by rw [cmpD_rk rt.1, cmp_lt, rt.2]
    rw [e] at q
    exact iteT ⟨_, rfl, v1, d1, rfl, h1, _, rfl, v2, d2, rfl, h2, _, _, rfl, rfl, q H same0⟩
end
abbrev sNear : Stmt := topS 11
theorem scNear : FnScope ["_law_box_here", "_law_value_here", "_law_at", "_law_form"] ["_law_box_here", "_law_value_here"] (defScope sNear) := ⟨rfl, rfl, rfl, by decide +kernel, rfl, by decide +kernel, by decide +kernel⟩
def spNear (K : PySem.W.Frag) (n : Nat) : Sp := fun vs H Q _ => ∃ p g v d l, vs = [.ref p, v] ∧ Box H p g ∧ Dp K (cut l H) v d ∧ (gd d = true ∧ lv d = true) ∧ nod d ≤ 5000 ∧ d.depth < n ∧ p ∈ l ∧ g ∈ l ∧ Tr l H ∧
  ∀ v' d' H', Box H' p g → Off [p, g] H H' → Dp K (cut l H') v' d' → gd d' = true → lv d' = true → d'.depth ≤ d.depth + 1 → nod d' ≤ nod d + 481 → Q v' H'
theorem eqv_nil (ds : List PyData) : PyData.eqv (.tuple ds) (.tuple []) = ds.isEmpty := by
  cases ds with
  | nil => simp only [PyData.eqv, PyData.eqvAll, List.isEmpty_nil]
  | cons d ds => simp only [PyData.eqv, PyData.eqvAll, List.isEmpty_cons]
theorem nods_split {ds : List PyData} {i : Nat} {e : PyData} (h : ds[i]? = some e) : nods ds = nods (ds.take i) + nod e + nods (ds.drop (i + 1)) := by
  have q := congrArg nods (List.take_append_drop (i + 1) ds)
  rw [nods_app, get_take h, nods_app] at q
  simp only [nods] at q
  omega
theorem gds_split {ds : List PyData} {i : Nat} {e : PyData} (h : ds[i]? = some e) (g : gds ds = true) : gds (ds.take i) = true ∧ gd e = true ∧ gds (ds.drop (i + 1)) = true := by
  have q := congrArg gds (List.take_append_drop (i + 1) ds)
  rw [gds_app, get_take h, gds_app, g] at q
  simp only [gds, Bool.and_true, Bool.and_eq_true] at q
  exact ⟨q.1.1, q.1.2, q.2⟩
theorem dps_split {ds : List PyData} {i : Nat} {e : PyData} (h : ds[i]? = some e) : PyData.depthAll (ds.take i) ≤ PyData.depthAll ds ∧ e.depth ≤ PyData.depthAll ds ∧ PyData.depthAll (ds.drop (i + 1)) ≤ PyData.depthAll ds := by
  have q := congrArg PyData.depthAll (List.take_append_drop (i + 1) ds)
  rw [depthAll_app, get_take h, depthAll_app] at q
  simp only [PyData.depthAll] at q
  omega
theorem lvs_split {ds : List PyData} {i : Nat} {e : PyData} (h : ds[i]? = some e) (g : lvs ds = true) : lvs (ds.take i) = true ∧ lv e = true ∧ lvs (ds.drop (i + 1)) = true := by
  have q := congrArg lvs (List.take_append_drop (i + 1) ds)
  rw [lvs_app, get_take h, lvs_app, g] at q
  simp only [lvs, Bool.and_true, Bool.and_eq_true] at q
  exact ⟨q.1.1, q.1.2, q.2⟩
section
variable {P : Program} {w : World} {K : PySem.W.Frag} {mg : Str → Option Value} {base : Heap} {f fT fV : Addr} {fd dT dV : FuncData}
theorem ok_near {k n : Nat} (hn60 : n ≤ 60) (F : Fun K "_law_near" "_law_near" sNear f fd) (B : Bi mg) (T : Tk P w K mg base fT dT) (GV : Dn P w K mg base 11 "_law_value" ["_law_box_here", "_law_deep"] (spValue K) fV dV)
    (G : FnOk P w K mg base CX0 (k + 12) f fd ["_law_box_here", "_law_value_here"] (spNear K n)) (bS : Binds K fd ["_law_box_here", "_law_value_here"] []) (mS : mg "_law_near" = some (.ref f)) :
    FnOk P w K mg base CX0 (k + 13) f fd ["_law_box_here", "_law_value_here"] (spNear K (n + 1)) := by
  refine F.ok scNear (fun vs H Q E h => ?_) (fun cdv A outer s H vs Q E hr h => ?_)
  · obtain ⟨p, g, v, d, l, rfl, _⟩ := h
    rfl
  obtain ⟨p, g, v, d, l, rfl, hb, hd, ⟨hg, hlv⟩, hn, hdep, pl, gl, tl, q⟩ := h
  have hr1 : Room 1 _ := hr.mono (by omega)
  have hrO : Room 11 _ := hr.mono (by omega)
  refine ⟨_, pss_cons (ps_if (PW.pt (pw_or (pt_not (pt_val (pe_callB call_isD (by rfl) B.ii b_ii (pa_cons (pv 1) (pa_cons (pe_bltn (by rfl) B.tup b_tup (v := .ty "tuple") rfl) pa_nil)))))
      (pw_or (pt_cmpR (op_eqD hr.units) (pv 1) (pe_tup pa_nil) (nomark _)) (pw_or1 (pt_cmpR op_eq (pe_call T.ok hr1 (by rfl) T.mg T.kp T.bd .nil pass0 (pa_cons (pv 0) (pa_cons pe_int pa_nil))) pe_int (nomark _))))))
      (pss_one (ps_ret (pe_call GV.ok hrO (by rfl) GV.mg GV.kp GV.bd .nil pass0 (pa_cons (pv 0) (pa_cons pe_int pa_nil))))) pss_nil)
    (pss_cons (ps_par (i := 2) (j := 3) (by rfl) scNear.nd rfl rfl (by decide) rfl rfl (pa_cons (pe_call T.ok hr1 (by rfl) T.mg T.kp T.bd .nil pass0 (pa_cons (pv 0) (pa_cons (pe_callB call_len_seq (by rfl) B.len PySem.boot_len (pa_cons (pv 1) pa_nil)) pa_nil)))
      (pa_cons (pe_call T.ok hr1 (by rfl) T.mg T.kp T.bd .nil pass0 (pa_cons (pv 0) (pa_cons pe_int pa_nil))) pa_nil)) (by rfl))
    (pss_cons (ps_if (pt_cmpR op_eq (pv 3) pe_int (nomark _)) (pss_one (ps_ret (pe_op op_catU (pe_slice sl_tupU (pv 1) po_none (po_some (pv 2))) (pe_slice sl_tupU (pv 1) (po_some (pe_op op_add (pv 2) pe_int)) po_none)))) pss_nil)
    (pss_cons (ps_if (PW.pt (pw_and (pt_val (pe_callB call_isD (by rfl) B.ii b_ii (pa_cons (pe_ix ix_tup (pv 1) (pv 2) (fun _ _ => rfl)) (pa_cons (pe_bltn (by rfl) B.int b_int (v := .ty "int") rfl) pa_nil)))) (pw_and1 (pt_cmpR op_eq (pv 3) pe_int (nomark _)))))
      (pss_one (ps_ret (pe_op op_catU (pe_op op_catU (pe_slice sl_tupU (pv 1) po_none (po_some (pv 2))) (pe_tup (pa_cons (pe_op op_sub pe_int (pe_ix ix_tup (pv 1) (pv 2) (fun _ _ => rfl))) pa_nil))) (pe_slice sl_tupU (pv 1) (po_some (pe_op op_add (pv 2) pe_int)) po_none)))) pss_nil)
    (pss_one (ps_ret (pe_op op_catU (pe_op op_catU (pe_slice sl_tupU (pv 1) po_none (po_some (pv 2)))
        (pe_tup (pa_cons (pe_call G hr (by rfl) mS F.kp bS .nil pass0 (pa_cons (pv 0) (pa_cons (pe_ix ix_tup (pv 1) (pv 2) (fun _ _ => rfl)) pa_nil))) pa_nil)))
        (pe_slice sl_tupU (pv 1) (po_some (pe_op op_add (pv 2) pe_int)) po_none))))))), ?_⟩
  have npd := nod_pos d
  have odd : ∀ H2, Box H2 p g → Off [p, g] H H2 → spValue K [.ref p, .int 1] H2 Q E0 := fun H2 b2 o2 => by
    have t2 : Tr l H2 := tl.go o2 fun b hb => by
      have t := b2.tr
      simp only [List.mem_cons, List.not_mem_nil, or_false] at hb
      rcases hb with h | h
      · rw [h]; exact t.1
      · rw [h]; exact t.2
    exact ⟨p, g, 1, l, rfl, b2, by decide, by decide, t2, fun v' d' H' k1 k2 k3 k4 k5 k6 k7 => q v' d' H' k1 (o2.trans k2) k3 k4 k5 (by omega) (by omega)⟩
  refine ⟨_, rfl, v, d, "tuple", _, rfl, Dp.up (cut_same l H) _ _ hd, kit_tup d, _, rfl, ?_⟩
  cases ht : isTup d with
  | false => exact iteT ⟨_, rfl, odd H hb (Off.refl _ _)⟩
  | true =>
    refine iteF ?_
    obtain ⟨a, xs, ds, rfl, rfl, hx, dx⟩ := tup_of hd ht
    simp only [gd, lv] at hg hlv
    simp only [nod] at hn
    simp only [PyData.depth] at hdep
    have sh : SeqAt.shaped (.tuple ds) = true := shaped_of (by simpa only [gd] using hg) (by simp only [PyData.depth]; omega)
    refine ⟨_, rfl, by decide, fun t ht2 => ?_⟩
    have s1 : Same H (upd H t (.tup [])) := same_new ht2 _
    have b1 := hb.same s1
    have o1 : Off [p, g] H (upd H t (.tup [])) := Off.of s1
    refine ⟨.tuple ds, .tuple [], Dp.up (Same.trans (cut_same l H) s1) _ _ hd, .tup (.inl (.inl upd_same)) .nil, sh, by decide +kernel, _, rfl, ?_⟩
    rw [eqv_nil]
    cases ds with
    | nil => exact iteT ⟨_, rfl, odd _ b1 o1⟩
    | cons d0 dr =>
      refine iteF ?_
      refine ⟨_, rfl, p, g, 4, rfl, b1, by decide, by decide, fun r5 H2 r50 r55 b2 o2 => ⟨rfl, _, rfl, ite2 (fun c => ⟨_, rfl, odd _ b2 (o1.trans o2)⟩) (fun c => ?_)⟩⟩
      have o2 := o1.trans o2
      have lsub : ∀ b ∈ [p, g], b ∈ l := fun b hb => by
        simp only [List.mem_cons, List.not_mem_nil, or_false] at hb
        rcases hb with h | h <;> rw [h] <;> assumption
      have trl : ∀ {H2 : Hp}, Box H2 p g → Off [p, g] H H2 → Tr l H2 := fun b2 o2 => tl.go o2 fun b hb => by
        have t := b2.tr
        simp only [List.mem_cons, List.not_mem_nil, or_false] at hb
        rcases hb with h | h
        · rw [h]; exact t.1
        · rw [h]; exact t.2
      have c2 := o2.mono lsub
      have lx := DpAll.len dx
      have ln := nods_len (d0 :: dr)
      have hx2 := seqT_up (c2.trans (Off.refl l H2)) hx
      have pos : 0 < xs.length := by rw [lx]; simp
      refine ⟨_, rfl, _, rfl, a, xs, rfl, .inr (seqT_cut hx2), p, g, _, rfl, b2, by omega, ?_, fun r HA r0 r1 bA oA => ?_⟩
      · show xs.length < 2 ^ 200
        exact Nat.lt_of_le_of_lt (by omega : xs.length ≤ 100000) (by decide)
      refine ⟨_, rfl, p, g, 4, rfl, bA, by decide, by decide, fun fo H3 f0 f4 b3 oB => ⟨_, _, rfl, ?_⟩⟩
      have o3 := o2.trans (oA.trans oB)
      have c3 := o3.mono lsub
      have hx3 := seqT_up c3 hx
      obtain ⟨y, hy, my, iy⟩ := atI_ok (xs := xs) r0 r1
      obtain ⟨e, he, de⟩ := DpAll.get dx iy
      have sn := nods_split he
      have sg := gds_split he hg
      have sl := lvs_split he hlv
      have sd := dps_split he
      have lt := List.length_take (i := r.toNat) (l := xs)
      have ld := List.length_drop (i := (r + 1).toNat) (l := xs)
      have er : (r + 1).toNat = r.toNat + 1 := by omega
      refine ⟨_, rfl, rfl, _, rfl, ite2 (fun cA => ?_) (fun cA => ?_)⟩
      · refine ⟨_, rfl, _, rfl, r, rfl, a, xs, l, rfl, hx3, trl b3 o3, fun c1 H4 s4 hc1 => ?_⟩
        rw [cutV_take xs r0 (by omega)] at hc1
        have b4 := b3.same s4
        have o4 := o3.trans (Off.of s4)
        have c4 := o4.mono lsub
        refine ⟨_, rfl, _, rfl, _, _, rfl, rfl, r + 1, rfl, a, xs, l, rfl, seqT_up c4 hx, trl b4 o4, fun c8 H8 s8 hc8 => ?_⟩
        rw [cutV_drop xs (by omega) (by omega)] at hc8
        have b8 := b4.same s8
        have o8 := o4.trans (Off.of s8)
        refine ⟨c1, c8, _, _, l, rfl, rfl, seqT_up (Off.of s8) hc1, hc8, trl b8 o8, few2 (by rw [ld, lt]; omega), fun c9 H9 s9 hc9 => ?_⟩
        have b9 := b8.same s9
        have o9 := o8.trans (Off.of s9)
        have c9' := o9.mono lsub
        have da : DpAll K (cut l H9) (xs.take r.toNat ++ xs.drop (r + 1).toNat) ((d0 :: dr).take r.toNat ++ (d0 :: dr).drop (r.toNat + 1)) := by
          rw [er]
          have dx9 := Dp.ups c9' _ _ dx
          exact DpAll.app (DpAll.parts dx9 _).1 (DpAll.parts dx9 _).2
        refine q (.ref c9) _ H9 b9 o9 (.tup hc9 da) ?_ ?_ ?_ ?_
        · simp only [gd, gds_app, sg.1, sg.2.2, Bool.and_self]
        · simp only [lv, lvs_app, sl.1, sl.2.2, Bool.and_self]
        · simp only [PyData.depth, depthAll_app, PyData.depthAll] at sd ⊢
          omega
        · simp only [nod, nods_app, nods] at sn ⊢
          omega
      refine ⟨_, rfl, _, rfl, a, xs, r, y, rfl, rfl, seqT_cut hx3, hy, y, e, "int", _, rfl, Dp.up (Same.trans c3 (cut_same l H3)) _ _ de, kit_int e, _, rfl, ?_⟩
      cases hi : isIntB e with
      | false =>
        refine iteF ?_
        refine ⟨_, rfl, _, rfl, r, rfl, a, xs, l, rfl, hx3, trl b3 o3, fun c1 H4 s4 hc1 => ?_⟩
        rw [cutV_take xs r0 (by omega)] at hc1
        have b4 := b3.same s4
        have o4 := o3.trans (Off.of s4)
        have c4 := o4.mono lsub
        refine ⟨_, rfl, _, rfl, _, rfl, a, xs, r, y, rfl, rfl, seqT_cut (seqT_up c4 hx), hy, p, g, y, e, l, rfl, b4, Dp.up c4 _ _ de, ⟨sg.2.1, sl.2.1⟩, by omega, by omega, pl, gl, trl b4 o4, fun v' d' H5 k1 k2 k3 k4 k7 k5 k6 => ?_⟩
        have o5 := o4.trans k2
        refine ⟨few (by simp), fun t2 ht3 => ?_⟩
        have s6 : Same H5 (upd H5 t2 (.tup [v'])) := same_new ht3 _
        have b6 := k1.same s6
        have o6 := o5.trans (Off.of s6)
        have c6 := o6.mono lsub
        have tr6 := trl b6 o6
        have nt2 : t2 ∉ l := (trl k1 o5).out ht3
        have hc6 := seqT_up ((k2.mono lsub).trans (Off.of s6)) hc1
        refine ⟨c1, t2, _, _, l, rfl, rfl, hc6, .inl (.inl (by rw [cut_out nt2]; exact upd_same)), tr6, few2 (by rw [lt]; simp only [List.length_cons, List.length_nil]; omega), fun c2' H7 s7 hc7 => ?_⟩
        have b7 := b6.same s7
        have o7 := o6.trans (Off.of s7)
        have c7 := o7.mono lsub
        refine ⟨_, rfl, _, rfl, _, _, rfl, rfl, r + 1, rfl, a, xs, l, rfl, seqT_up c7 hx, trl b7 o7, fun c8 H8 s8 hc8 => ?_⟩
        rw [cutV_drop xs (by omega) (by omega)] at hc8
        have b8 := b7.same s8
        have o8 := o7.trans (Off.of s8)
        have c8' := o8.mono lsub
        refine ⟨c2', c8, _, _, l, rfl, rfl, seqT_up (Off.of s8) hc7, hc8, trl b8 o8, few2 (by rw [List.length_append, ld, lt]; simp only [List.length_cons, List.length_nil]; omega), fun c9 H9 s9 hc9 => ?_⟩
        have b9 := b8.same s9
        have o9 := o8.trans (Off.of s9)
        have c9' := o9.mono lsub
        have da : DpAll K (cut l H9) (xs.take r.toNat ++ [v'] ++ xs.drop (r + 1).toNat) ((d0 :: dr).take r.toNat ++ [d'] ++ (d0 :: dr).drop (r.toNat + 1)) := by
          rw [er]
          have dx9 := Dp.ups c9' _ _ dx
          exact DpAll.app (DpAll.app (DpAll.parts dx9 _).1 (.cons (Dp.up ((((Off.of s6).trans (Off.of s7)).trans (Off.of s8)).trans (Off.of s9)) _ _ k3) .nil)) (DpAll.parts dx9 _).2
        refine q (.ref c9) _ H9 b9 o9 (.tup hc9 da) ?_ ?_ ?_ ?_
        · simp only [gd, gds_app, gds, sg.1, sg.2.2, k4, Bool.and_self]
        · simp only [lv, lvs_app, lvs, sl.1, sl.2.2, k7, Bool.and_self]
        · simp only [PyData.depth, depthAll_app, PyData.depthAll] at sd ⊢
          omega
        · simp only [nod, nods_app, nods] at sn ⊢
          omega
      | true =>
        have hse := sl.2.1
        obtain ⟨i, rfl⟩ : ∃ i, e = .int i := by cases e <;> first | exact ⟨_, rfl⟩ | (cases hi; done) | (simp [lv] at hse; done)
        cases de
        refine iteT ⟨_, rfl, rfl, _, rfl, ite2 (fun cB => ?_) (fun cB => ?_)⟩
        · refine ⟨_, rfl, _, rfl, r, rfl, a, xs, l, rfl, hx3, trl b3 o3, fun c1 H4 s4 hc1 => ?_⟩
          rw [cutV_take xs r0 (by omega)] at hc1
          have b4 := b3.same s4
          have o4 := o3.trans (Off.of s4)
          have c4 := o4.mono lsub
          refine ⟨_, rfl, _, rfl, a, xs, r, _, rfl, rfl, seqT_cut (seqT_up c4 hx), hy, _, _, rfl, rfl, ?_⟩
          have k1 : Box H4 p g := b4
          have k2 : Off [p, g] H4 H4 := Off.refl _ _
          have k3 : Dp K (cut l H4) (.int (0 - i)) (.int (0 - i)) := .int _
          have k4 : gd (.int (0 - i)) = true := by
            have z := sg.2.1
            simp only [gd] at z ⊢
            rw [show (0 - i).natAbs = i.natAbs by omega]
            exact z
          have k7 : lv (.int (0 - i)) = true := by simp only [lv]
          have k5 : (PyData.int (0 - i)).depth = 0 := by simp only [PyData.depth]
          have k6 : nod (.int (0 - i)) = 1 := by simp only [nod]
          have o5 := o4.trans k2
          refine ⟨few (by simp), fun t2 ht3 => ?_⟩
          have s6 : Same H4 (upd H4 t2 (.tup [(.int (0 - i))])) := same_new ht3 _
          have b6 := k1.same s6
          have o6 := o5.trans (Off.of s6)
          have c6 := o6.mono lsub
          have tr6 := trl b6 o6
          have nt2 : t2 ∉ l := (trl k1 o5).out ht3
          have hc6 := seqT_up ((k2.mono lsub).trans (Off.of s6)) hc1
          refine ⟨c1, t2, _, _, l, rfl, rfl, hc6, .inl (.inl (by rw [cut_out nt2]; exact upd_same)), tr6, few2 (by rw [lt]; simp only [List.length_cons, List.length_nil]; omega), fun c2' H7 s7 hc7 => ?_⟩
          have b7 := b6.same s7
          have o7 := o6.trans (Off.of s7)
          have c7 := o7.mono lsub
          refine ⟨_, rfl, _, rfl, _, _, rfl, rfl, r + 1, rfl, a, xs, l, rfl, seqT_up c7 hx, trl b7 o7, fun c8 H8 s8 hc8 => ?_⟩
          rw [cutV_drop xs (by omega) (by omega)] at hc8
          have b8 := b7.same s8
          have o8 := o7.trans (Off.of s8)
          have c8' := o8.mono lsub
          refine ⟨c2', c8, _, _, l, rfl, rfl, seqT_up (Off.of s8) hc7, hc8, trl b8 o8, few2 (by rw [List.length_append, ld, lt]; simp only [List.length_cons, List.length_nil]; omega), fun c9 H9 s9 hc9 => ?_⟩
          have b9 := b8.same s9
          have o9 := o8.trans (Off.of s9)
          have c9' := o9.mono lsub
          have da : DpAll K (cut l H9) (xs.take r.toNat ++ [(.int (0 - i))] ++ xs.drop (r + 1).toNat) ((d0 :: dr).take r.toNat ++ [.int (0 - i)] ++ (d0 :: dr).drop (r.toNat + 1)) := by
            rw [er]
            have dx9 := Dp.ups c9' _ _ dx
            exact DpAll.app (DpAll.app (DpAll.parts dx9 _).1 (.cons (Dp.up ((((Off.of s6).trans (Off.of s7)).trans (Off.of s8)).trans (Off.of s9)) _ _ k3) .nil)) (DpAll.parts dx9 _).2
          refine q (.ref c9) _ H9 b9 o9 (.tup hc9 da) ?_ ?_ ?_ ?_
          · have k4' := k4
            simp only [gd] at k4'
            simp only [gd, gds_app, gds, sg.1, sg.2.2, k4', Bool.and_self]
          · simp only [lv, lvs_app, lvs, sl.1, sl.2.2, k7, Bool.and_self]
          · simp only [PyData.depth, depthAll_app, PyData.depthAll] at sd ⊢
            omega
          · simp only [nod, nods_app, nods] at sn ⊢
            omega
        · refine ⟨_, rfl, _, rfl, r, rfl, a, xs, l, rfl, hx3, trl b3 o3, fun c1 H4 s4 hc1 => ?_⟩
          rw [cutV_take xs r0 (by omega)] at hc1
          have b4 := b3.same s4
          have o4 := o3.trans (Off.of s4)
          have c4 := o4.mono lsub
          refine ⟨_, rfl, _, rfl, _, rfl, a, xs, r, _, rfl, rfl, seqT_cut (seqT_up c4 hx), hy, p, g, _, .int i, l, rfl, b4, .int _, ⟨sg.2.1, sl.2.1⟩, by omega, by omega, pl, gl, trl b4 o4, fun v' d' H5 k1 k2 k3 k4 k7 k5 k6 => ?_⟩
          have o5 := o4.trans k2
          refine ⟨few (by simp), fun t2 ht3 => ?_⟩
          have s6 : Same H5 (upd H5 t2 (.tup [v'])) := same_new ht3 _
          have b6 := k1.same s6
          have o6 := o5.trans (Off.of s6)
          have c6 := o6.mono lsub
          have tr6 := trl b6 o6
          have nt2 : t2 ∉ l := (trl k1 o5).out ht3
          have hc6 := seqT_up ((k2.mono lsub).trans (Off.of s6)) hc1
          refine ⟨c1, t2, _, _, l, rfl, rfl, hc6, .inl (.inl (by rw [cut_out nt2]; exact upd_same)), tr6, few2 (by rw [lt]; simp only [List.length_cons, List.length_nil]; omega), fun c2' H7 s7 hc7 => ?_⟩
          have b7 := b6.same s7
          have o7 := o6.trans (Off.of s7)
          have c7 := o7.mono lsub
          refine ⟨_, rfl, _, rfl, _, _, rfl, rfl, r + 1, rfl, a, xs, l, rfl, seqT_up c7 hx, trl b7 o7, fun c8 H8 s8 hc8 => ?_⟩
          rw [cutV_drop xs (by omega) (by omega)] at hc8
          have b8 := b7.same s8
          have o8 := o7.trans (Off.of s8)
          have c8' := o8.mono lsub
          refine ⟨c2', c8, _, _, l, rfl, rfl, seqT_up (Off.of s8) hc7, hc8, trl b8 o8, few2 (by rw [List.length_append, ld, lt]; simp only [List.length_cons, List.length_nil]; omega), fun c9 H9 s9 hc9 => ?_⟩
          have b9 := b8.same s9
          have o9 := o8.trans (Off.of s9)
          have c9' := o9.mono lsub
          have da : DpAll K (cut l H9) (xs.take r.toNat ++ [v'] ++ xs.drop (r + 1).toNat) ((d0 :: dr).take r.toNat ++ [d'] ++ (d0 :: dr).drop (r.toNat + 1)) := by
            rw [er]
            have dx9 := Dp.ups c9' _ _ dx
            exact DpAll.app (DpAll.app (DpAll.parts dx9 _).1 (.cons (Dp.up ((((Off.of s6).trans (Off.of s7)).trans (Off.of s8)).trans (Off.of s9)) _ _ k3) .nil)) (DpAll.parts dx9 _).2
          simp only [PyData.depth, nod] at k5 k6
          refine q (.ref c9) _ H9 b9 o9 (.tup hc9 da) ?_ ?_ ?_ ?_
          · simp only [gd, gds_app, gds, sg.1, sg.2.2, k4, Bool.and_self]
          · simp only [lv, lvs_app, lvs, sl.1, sl.2.2, k7, Bool.and_self]
          · simp only [PyData.depth, depthAll_app, PyData.depthAll] at sd ⊢
            omega
          · simp only [nod, nods_app, nods] at sn ⊢
            omega
end
abbrev sLaw : Stmt := topS 14
theorem scLaw : FnScope ["_law_script", "_law_box_here", "_law_turn", "_law_values", "_law_k", "_law_value_here", "_law_wide", "_law_at", "_law_one", "_law_other"] ["_law_script"] (defScope sLaw) :=
  ⟨rfl, rfl, rfl, by decide +kernel, rfl, by decide +kernel, by decide +kernel⟩
def spLaw (K : PySem.W.Frag) : Sp := fun vs H Q _ => ∃ (a : Addr) (ns : List Int), vs = [.ref a] ∧ SqL K H a (ns.map V.int) ∧ ns.length ≤ 63 ∧ ∀ H', Q (.bl true) H'
def Ths (K : PySem.W.Frag) (C : Addr) (H : Hp) (vs : List V) : Prop := ∀ v ∈ vs, ∃ d, Th K C H v d ∧ nod d ≤ 10000 ∧ d.depth < 20
theorem Ths.up {K : PySem.W.Frag} {C : Addr} {H H' : Hp} {vs : List V} (s : Same H H') (h : Ths K C H vs) : Ths K C H' vs := fun v hv => let ⟨d, a, b⟩ := h v hv; ⟨d, a.up s, b⟩
theorem Ths.app {K : PySem.W.Frag} {C : Addr} {H : Hp} {vs us : List V} (h : Ths K C H vs) (g : Ths K C H us) : Ths K C H (vs ++ us) := fun v hv => (List.mem_append.mp hv).elim (h v) (g v)
theorem bool_prn2 (b : Bool) : Prn (.bool b) := bool_prn b
section
variable {P : Program} {w : World} {K : PySem.W.Frag} {mg : Str → Option Value} {base : Heap}
theorem ok_law {f fB fT fV fN fL fF fI C t0 : Addr} {fd dB dT dV dN dL dF dI : FuncData} (F : Fun K "law" "law" sLaw f fd) (B : Bi mg)
    (GB : Dn P w K mg base 1 "_law_box" ["_law_script", "_law_base"] (spBox K) fB dB) (T : Tk P w K mg base fT dT)
    (GV : Dn P w K mg base 11 "_law_value" ["_law_box_here", "_law_deep"] (spValue K) fV dV) (GN : Dn P w K mg base 22 "_law_near" ["_law_box_here", "_law_value_here"] (spNear K 10) fN dN)
    (GL : Dn P w K mg base 21 "_law_less" ["_law_one", "_law_other"] (spLess K C 20) fL dL) (GF : Dn P w K mg base 2 "is_before" ["one", "other"] (spBef K C) fF dF) (M : MkF P w K mg base C fI dI t0) (mF : mg "Fault" = some (.ref C)) :
    FnG P w K mg base CX0 23 f fd ["_law_script"] (spLaw K) := by
  refine okG F scLaw (fun vs H Q E h => ?_) (fun cdv A outer s H vs Q E hgd hr h => ?_)
  · obtain ⟨a, ns, rfl, _⟩ := h
    rfl
  obtain ⟨a, ns, rfl, hS, hlen, q⟩ := h
  have hr1 : Room 1 _ := hr.mono (by decide)
  have hr2 : Room 2 _ := hr.mono (by decide)
  have hr11 : Room 11 _ := hr.mono (by decide)
  have hr21 : Room 21 _ := hr.mono (by decide)
  obtain ⟨ds3, v3, b3⟩ := M.b3
  obtain ⟨ds4, v4, b4⟩ := M.b4
  refine ⟨_, pss_cons (ps_set (i := 1) scLaw.nd rfl (.inr rfl) (pe_call GB.ok hr1 (by rfl) GB.mg GB.kp GB.bd .nil pass0 (pa_cons (pv 0) (pa_cons pe_int pa_nil))))
    (pss_cons (ps_for PassesOwn.never rfl (pi_range1 (by rfl) B.rng (pa_cons pe_int pa_nil)) (pg_name (i := 2) scLaw.nd rfl (.inl rfl))
      (pss_cons (ps_set (i := 3) scLaw.nd rfl (.inl rfl) (pe_lst (pa_cons (pe_make M.mkr M.ok hr2 (by rfl) mF b4 v4 pass0 (pa_cons pe_str (pa_cons pe_str (pa_cons (pe_tup (pa_cons pe_int pa_nil)) pa_nil))))
          (pa_cons (pe_make M.mkr M.ok hr2 (by rfl) mF b3 v3 pass0 (pa_cons pe_str (pa_cons pe_str pa_nil)))
          (pa_cons (pe_make M.mkr M.ok hr2 (by rfl) mF b4 v4 pass0 (pa_cons pe_str (pa_cons pe_str (pa_cons (pe_tup (pa_cons (pe_call T.ok hr1 (by rfl) T.mg T.kp T.bd .nil pass0 (pa_cons (pv 1) (pa_cons pe_int pa_nil))) pa_nil)) pa_nil)))) pa_nil)))))
      (pss_cons (ps_for PassesOwn.never rfl (pi_range1 (by rfl) B.rng (pa_cons (pe_op op_add pe_int (pe_call T.ok hr1 (by rfl) T.mg T.kp T.bd .nil pass0 (pa_cons (pv 1) (pa_cons pe_int pa_nil)))) pa_nil)) (pg_name (i := 4) scLaw.nd rfl (.inl rfl))
        (pss_cons (ps_set (i := 5) scLaw.nd rfl (.inl rfl) (pe_call GV.ok hr11 (by rfl) GV.mg GV.kp GV.bd .nil pass0 (pa_cons (pv 1) (pa_cons (pe_ix ix_list (pe_lst (pa_cons pe_int (pa_cons pe_int (pa_cons pe_int pa_nil))))
            (pe_call T.ok hr1 (by rfl) T.mg T.kp T.bd .nil pass0 (pa_cons (pv 1) (pa_cons pe_int pa_nil))) (fun _ _ => rfl)) pa_nil))))
        (pss_one (ps_expr (pe_bm PySem.F.plainAttrs_list PySem.F.slot_list_extend PySem.F.type_list_extend mt_extend (pv 3) (pa_cons (pe_op op_cat (pe_lst (pa_cons (pv 5) pa_nil))
            (pe_op op_rep (pe_lst (pa_cons (pe_call GN.ok hr (by rfl) GN.mg GN.kp GN.bd .nil pass0 (pa_cons (pv 1) (pa_cons (pv 5) pa_nil))) pa_nil)) (pe_call T.ok hr1 (by rfl) T.mg T.kp T.bd .nil pass0 (pa_cons (pv 1) (pa_cons pe_int pa_nil))))) pa_nil))))))
      (pss_cons (ps_set (i := 6) scLaw.nd rfl (.inl rfl) (pe_callTy call_tuple_of (by rfl) B.tup b_tup (pa_cons (pe_lc (own := [("_law_k", 4)]) (g := gName 4) (by rfl) scLaw.nd
          (pi_range1 (by rfl) B.rng (pa_cons (pe_op op_add pe_int (pe_call T.ok hr1 (by rfl) T.mg T.kp T.bd .nil pass0 (pa_cons (pv 1) (pa_cons pe_int pa_nil)))) pa_nil))
          (blkOk_by (own := [("_law_k", 4)]) (N := ["_law_script", "_law_box_here", "_law_turn", "_law_values", "_law_k", "_law_value_here", "_law_wide", "_law_at", "_law_one", "_law_other"]) (sc := defScope sLaw) (by decide +kernel))
          (fun _ _ _ _ _ => pg_name (i := 4) scLaw.nd rfl (Or.inl rfl)) (fun _ _ _ _ _ => pts_nil)
          (fun _ _ _ _ _ => pe_op op_sub (pe_call T.ok hr1 (by rfl) T.mg T.kp T.bd .nil pass0 (pa_cons (pv 1) (pa_cons pe_int pa_nil))) pe_int)) pa_nil)))
      (pss_cons (ps_set (i := 7) scLaw.nd rfl (.inl rfl) (pe_call T.ok hr1 (by rfl) T.mg T.kp T.bd .nil pass0 (pa_cons (pv 1) (pa_cons (pe_callB call_len_seq (by rfl) B.len PySem.boot_len (pa_cons (pv 6) pa_nil)) pa_nil))))
      (pss_cons (ps_expr (pe_bm PySem.F.plainAttrs_list PySem.F.slot_list_extend PySem.F.type_list_extend mt_extend (pv 3) (pa_cons (pe_lst (pa_cons (pv 6) (pa_cons (pe_op op_catU (pe_op op_catU (pe_slice sl_tupU (pv 6) po_none (po_some (pv 7)))
          (pe_tup (pa_cons (pe_op op_add (pe_ix ix_tup (pv 6) (pv 7) (fun _ _ => rfl)) pe_int) pa_nil))) (pe_slice sl_tupU (pv 6) (po_some (pe_op op_add (pv 7) pe_int)) po_none)) pa_nil))) pa_nil)))
      (pss_one (ps_for PassesOwn.never rfl (pi_list (pv 3)) (pg_name (i := 8) scLaw.nd rfl (.inl rfl))
        (pss_one (ps_for PassesOwn.never rfl (pi_list (pv 3)) (pg_name (i := 9) scLaw.nd rfl (.inl rfl))
          (pss_one (ps_if (pt_cmpR op_ne (pe_callB (call_rep hgd hr.units) (by rfl) B.rep b_rep (pa_cons (pe_call GF.ok hr2 (by rfl) GF.mg GF.kp GF.bd .nil pass0 (pa_cons (pv 8) (pa_cons (pv 9) pa_nil))) pa_nil))
            (pe_callB (call_rep hgd hr.units) (by rfl) B.rep b_rep (pa_cons (pe_call GL.ok hr21 (by rfl) GL.mg GL.kp GL.bd .nil pass0 (pa_cons (pv 8) (pa_cons (pv 9) pa_nil))) pa_nil)) (nomark _)) (pss_one (ps_ret pe_bl)) pss_nil)))))))))))) 
    (pss_one (ps_ret pe_bl))), ?_⟩
  refine ⟨_, rfl, a, ns, 0, rfl, hS, hlen, Int.le_refl _, by decide, fun p g H1 b1 s1 np ng => ?_⟩
  refine ⟨3, rfl, by decide, by decide, for_range (n := 3) (fun i σ H2 => ∃ o2 o3 o4 o5 o6 o7 o8 o9, σ = [some (.ref a), some (.ref p), o2, o3, o4, o5, o6, o7, o8, o9] ∧ Box H2 p g) ⟨none, none, none, none, none, none, none, none, rfl, b1⟩ ?_ ?_⟩
  · rintro i σ H2 hi ⟨o2, o3, o4, o5, o6, o7, o8, o9, rfl, b2⟩
    refine ⟨few (by simp), fun t1 ht1 => ?_⟩
    have sA := same_new (o := .tup [V.int 1]) ht1
    have bA := b2.same sA
    refine fun a1 x1 ha1 hx1 ne1 => ⟨a1, x1, "kind", .str "a", .ref t1, rfl, upd_same, fun G1 e1 k1 => ⟨rfl, ?_⟩⟩
    have sB : Same _ G1 := made_same ha1 hx1 k1
    have bB := bA.same sB
    have F1 : FaultAt C (cut [p, g] G1) a1 "kind" (.str "a") (.ref t1) := ⟨x1, by rw [cut_out (bA.notin ha1)]; exact e1⟩
    refine fun a2 x2 ha2 hx2 ne2 => ⟨a2, x2, "kind", .str "b", .ref t0, rfl, upd_same, fun G2 e2 k2 => ⟨rfl, ?_⟩⟩
    have sC : Same G1 G2 := made_same ha2 hx2 k2
    have bC := bB.same sC
    have F2 : FaultAt C (cut [p, g] G2) a2 "kind" (.str "b") (.ref t0) := ⟨x2, by rw [cut_out (bB.notin ha2)]; exact e2⟩
    refine ⟨_, rfl, p, g, 3, rfl, bC, by decide, by decide, fun r1 G3 r10 r13 bD oD => ⟨few (by simp), fun t3 ht3 => ?_⟩⟩
    have sE := same_new (o := .tup [V.int r1]) ht3
    have bE := bD.same sE
    refine fun a3 x3 ha3 hx3 ne3 => ⟨a3, x3, "read", .str "a", .ref t3, rfl, upd_same, fun G4 e3 k3 => ⟨rfl, few (by simp), fun L hL => ?_⟩⟩
    have sF : Same _ G4 := made_same ha3 hx3 k3
    have bF := bE.same sF
    have F3 : FaultAt C (cut [p, g] G4) a3 "read" (.str "a") (.ref t3) := ⟨x3, by rw [cut_out (bE.notin ha3)]; exact e3⟩
    have oCF : Off [p, g] G2 G4 := oD.trans (Off.of (sE.trans sF))
    have nL := bF.notin hL
    have pT : L ≠ p ∧ L ≠ g := by
      simp only [List.mem_cons, List.not_mem_nil, or_false, not_or] at nL
      exact nL
    have mo : Same (cut [p, g] G4) (cut [L, p, g] (upd G4 L (.lst [.ref a1, .ref a2, .ref a3]))) := cut_more hL
    have th0 : Ths K C (cut [L, p, g] (upd G4 L (.lst [.ref a1, .ref a2, .ref a3]))) [.ref a1, .ref a2, .ref a3] := fun v hv => by
      have z : nod .none ≤ 10000 ∧ PyData.none.depth < 20 := ⟨by simp only [nod]; omega, by simp only [PyData.depth]; omega⟩
      simp only [List.mem_cons, List.not_mem_nil, or_false] at hv
      rcases hv with h | h | h
      · exact ⟨.none, .inl ⟨rfl, a1, _, _, _, h, (F1.up (Same.trans (Off.of sC) oCF)).up mo⟩, z⟩
      · exact ⟨.none, .inl ⟨rfl, a2, _, _, _, h, (F2.up oCF).up mo⟩, z⟩
      · exact ⟨.none, .inl ⟨rfl, a3, _, _, _, h, F3.up mo⟩, z⟩
    have b5 := bF.put (o := .lst [.ref a1, .ref a2, .ref a3]) nL
    refine ⟨_, rfl, p, g, 4, rfl, b5, by decide, by decide, fun r H5 r0 r4 b6 off6 => ?_⟩
    have hx6 := off6.get (upd_same (H := G4) (a := L) (o := .lst [.ref a1, .ref a2, .ref a3])) nL
    have th6 := th0.up (off6.mono (m := [L, p, g]) fun b hb => List.mem_cons_of_mem _ hb)
    have trT : ∀ {H : Hp} {xs : List V}, Box H p g → H L = some (.lst xs) → Tr [L, p, g] H := fun b6 hx b hb => by
      have t := b6.tr
      simp only [List.mem_cons, List.not_mem_nil, or_false] at hb
      rcases hb with h | h | h
      · rw [h, hx]; exact fun z => nomatch z
      · rw [h]; exact t.1
      · rw [h]; exact t.2
    have lsub : ∀ b ∈ [p, g], b ∈ [L, p, g] := fun b hb => List.mem_cons_of_mem _ hb
    refine ⟨_, _, rfl, rfl, 3 + r, rfl, by omega, by omega, for_range (n := (3 + r).toNat) (fun i' σ H2 => ∃ xs z2 z4 z5, σ = [some (.ref a), some (.ref p), z2, some (.ref L), z4, z5, o6, o7, o8, o9] ∧ H2 L = some (.lst xs) ∧ Ths K C (cut [L, p, g] H2) xs ∧ xs.length ≤ 3 + 2 * i' ∧ Box H2 p g)
      ⟨_, _, _, _, rfl, hx6, th6, by simp, b6⟩ ?_ ?_⟩
    · rintro j σ H2 hj ⟨xs, z2, z4, z5, rfl, hx, th, lx, b2⟩
      refine ⟨_, rfl, few (by simp), fun L1 hL1 => ?_⟩
      have g1 := same_new (o := .lst [V.int 4, V.int 7, V.int 2]) hL1
      have bL := b2.same g1
      have nL1 := b2.notin hL1
      refine ⟨_, rfl, p, g, 3, rfl, bL, by decide, by decide, fun r2 H3 r20 r23 b3 o3 => ?_⟩
      obtain ⟨v, hv, mv⟩ := atN (xs := [V.int 4, V.int 7, V.int 2]) r20 r23
      obtain ⟨e, rfl, e0, e8⟩ : ∃ e : Int, v = .int e ∧ 0 ≤ e ∧ e < 8 := by
        simp only [List.mem_cons, List.not_mem_nil, or_false] at mv
        rcases mv with h | h | h
        · exact ⟨_, h, by decide, by decide⟩
        · exact ⟨_, h, by decide, by decide⟩
        · exact ⟨_, h, by decide, by decide⟩
      have o3' : Off [p, g] H2 H3 := (Off.of g1).trans o3
      have hx3 := o3'.get hx nL
      have th3 := th.up (o3'.mono lsub)
      refine ⟨L1, _, _, _, rfl, rfl, SqL.of (o3.get upd_same nL1), hv, p, g, e, [L, p, g], rfl, b3, e0, e8, trT b3 hx3, fun v d H5 k1 k2 k3 k4 k5 k6 k7 => ?_⟩
      have hx5 := k2.get hx3 nL
      have th5 := th3.up (k2.mono lsub)
      refine ⟨_, rfl, .inl ⟨rfl, _, SqL.of hx5⟩, _, rfl, few (by simp), fun L2 hL2 => ?_⟩
      have g2 := same_new (o := .lst [v]) hL2
      have b6 := k1.same g2
      have hx6 := g2 _ _ hx5
      have c2 : Off [L, p, g] H5 (upd H5 L2 (.lst [v])) := Off.of g2
      have nL2 := k1.notin hL2
      refine ⟨_, rfl, _, rfl, p, g, v, d, [L, p, g], rfl, b6, Dp.up c2 _ _ k3, ⟨k4, k5⟩, by omega, by omega, by simp, by simp, trT b6 hx6, fun v' d' H7 j1 j2 j3 j4 j5 j6 j7 => ⟨few (by simp), fun L3 hL3 => ?_⟩⟩
      have hx7 := j2.get hx6 nL
      have h27 := j2.get (upd_same (H := H5) (a := L2) (o := .lst [v])) nL2
      have g3 := same_new (o := .lst [v']) hL3
      have b8 := j1.same g3
      have nL3 := j1.notin hL3
      refine ⟨_, rfl, p, g, 2, rfl, b8, by decide, by decide, fun r3 H8 r30 r32 b9 o9 => ?_⟩
      have h38 := o9.get (upd_same (H := H7) (a := L3) (o := .lst [v'])) nL3
      refine ⟨L3, r3, _, rfl, rfl, h38, by omega, by omega, few (by simp only [List.length_cons, List.length_nil]; omega), fun L4 hL4 => ?_⟩
      have g4 := same_new (o := .lst (List.replicate r3.toNat [v']).flatten) hL4
      have h28 := g4 _ _ (o9.get (g3 _ _ h27) nL2)
      have lfl : ((List.replicate r3.toNat [v']).flatten).length ≤ 1 := by
        rw [List.length_flatten, List.map_replicate, List.sum_replicate_nat]
        simp only [List.length_cons, List.length_nil]
        omega
      refine ⟨L2, L4, _, _, rfl, rfl, h28, upd_same, few (by simp only [List.length_cons, List.length_nil]; omega), fun L5 hL5 => ?_⟩
      have g5 := same_new (o := .lst ([v] ++ (List.replicate r3.toNat [v']).flatten)) hL5
      have hx8 := g5 _ _ (g4 _ _ (o9.get (g3 _ _ hx7) nL))
      have nLL5 : L ≠ L5 := ne_of_none (g4 _ _ (o9.get (g3 _ _ hx7) nL)) hL5
      refine ⟨L, L5, xs, _, rfl, rfl, hx8, upd_same, few (by rw [List.length_append, List.length_singleton]; omega), ?_⟩
      have f37 : Off [L, p, g] H5 H7 := c2.trans (j2.mono lsub)
      have f78 : Off [L, p, g] H7 (upd (upd (upd H8 L4 (.lst (List.replicate r3.toNat [v']).flatten)) L5 (.lst ([v] ++ (List.replicate r3.toNat [v']).flatten))) L (.lst (xs ++ ([v] ++ (List.replicate r3.toNat [v']).flatten)))) :=
        Off.trans (Off.of g3) ((o9.mono lsub).trans ((Off.of g4).trans ((Off.of g5).trans (Off.put (by simp)))))
      refine ⟨_, _, _, _, rfl, upd_same, ?_, ?_, ((b9.same g4).same g5).put nL⟩
      · refine (th5.up (f37.trans f78)).app fun u hu => ?_
        rcases List.mem_append.mp hu with h | h
        · rw [List.mem_singleton.mp h]
          exact ⟨d, .inr ⟨k5, k4, Dp.up (f37.trans f78) _ _ k3⟩, by omega, by omega⟩
        · obtain ⟨l1, m1, m2⟩ := List.mem_flatten.mp h
          rw [(List.mem_replicate.mp m1).2] at m2
          rw [List.mem_singleton.mp m2]
          exact ⟨d', .inr ⟨j5, j4, Dp.up f78 _ _ j3⟩, by omega, by omega⟩
      · rw [List.length_append, List.length_append, List.length_singleton]
        omega
    rintro σ H2 ⟨xs, z2, z4, z5, rfl, hx, th, lx, b2⟩
    refine ⟨_, rfl, p, g, 9, rfl, b2, by decide, by decide, fun r1 H3 r10 r19 b3 o3 => ⟨_, _, rfl, rfl, 4 + r1, rfl, by omega, by omega, fun D3 hD3 => ?_⟩⟩
    have n3 := b3.notin hD3
    refine lc_range (lo := 0) (n := (4 + r1).toNat) (fun i H4 => ∃ ks : List Int, ks.length = i ∧ (∀ z ∈ ks, z.natAbs < 2 ^ 9) ∧ H4 D3 = some (.lst (ks.map V.int)) ∧ Box H4 p g ∧ Off [p, g] H2 H4) ⟨[], rfl, fun _ z => (List.not_mem_nil z).elim, upd_same, b3.put n3, off_new o3 n3 (o3.free hD3 n3)⟩ ?_ ?_
    · rintro i H4 hi ⟨ks, lk, sk, h1, c4, o4⟩
      refine ⟨rfl, _, rfl, p, g, 5, rfl, c4, by decide, by decide, fun r2 H5 r20 r25 c5 o5 => ⟨_, _, rfl, rfl, ?_⟩⟩
      refine ⟨_, o5.get h1 n3, few (by rw [List.length_map]; omega), ks ++ [r2 - 2], by rw [List.length_append, List.length_singleton, lk], fun z hz => ?_, by rw [upd_same, List.map_append]; rfl, c5.put n3, off_new (o4.trans o5) n3 (o3.free hD3 n3)⟩
      rcases List.mem_append.mp hz with h | h
      · exact sk z h
      · rw [List.mem_singleton.mp h]
        omega
    rintro H4 ⟨ks, lk, sk, h1, c4, o4⟩
    refine ⟨D3, ks.map V.int, rfl, .inl ⟨SqL.of h1, fun t ht => ?_⟩⟩
    have nt := c4.notin ht
    have lks : (ks.map V.int).length = ks.length := List.length_map _
    have oT := off_new (o := .tup (ks.map V.int)) o4 nt (o4.free ht nt)
    have cT := c4.put (o := .tup (ks.map V.int)) nt
    refine ⟨_, rfl, _, rfl, t, _, rfl, .inr (.inl (.inl upd_same)), p, g, _, rfl, cT, by rw [lks]; omega, ?_, fun r3 H6 r30 r34 c6 o6 => ?_⟩
    · show (ks.map V.int).length < 2 ^ 200
      exact Nat.lt_of_le_of_lt (by omega : (ks.map V.int).length ≤ 100000) (by decide)
    have ht6 := o6.get (upd_same (H := H4) (a := t) (o := .tup (ks.map V.int))) nt
    have o26 := oT.trans o6
    have hx6 := o26.get hx nL
    have th6 := th.up (o26.mono lsub)
    have nLt : t ≠ L := fun z => by
      rw [z] at ht6
      rw [hx6] at ht6
      cases ht6
    have tl6 : t ∉ [L, p, g] := by
      simp only [List.mem_cons, List.not_mem_nil, or_false, not_or] at nt ⊢
      exact ⟨nLt, nt.1, nt.2⟩
    have sq6 : SqT K (cut [L, p, g] H6) t (ks.map V.int) := .inl (.inl (by rw [cut_out tl6]; exact ht6))
    obtain ⟨y, hy, my, iy⟩ := atI_ok (xs := ks.map V.int) r30 r34
    obtain ⟨z, rfl⟩ := int_at iy
    have mz : z ∈ ks := by
      obtain ⟨z', q1, q2⟩ := List.mem_map.mp my
      rw [← V.int.inj q2]
      exact q1
    refine ⟨_, rfl, .inl ⟨rfl, _, SqL.of hx6⟩, _, rfl, _, rfl, _, rfl, r3, rfl, t, _, [L, p, g], rfl, sq6, trT c6 hx6, fun c1 H7 s7 hc1 => ?_⟩
    rw [cutV_take _ r30 (by omega)] at hc1
    have b7 := c6.same s7
    have hx7 := s7 _ _ hx6
    have f7 : Off [L, p, g] H6 H7 := Off.of s7
    refine ⟨_, rfl, _, rfl, t, _, r3, _, rfl, rfl, seqT_cut (seqT_up f7 sq6), hy, _, _, rfl, rfl, few (by simp), fun t2 ht2 => ?_⟩
    have s8 := same_new (o := .tup [V.int (z + 1)]) ht2
    have b8 := b7.same s8
    have hx8 := s8 _ _ hx7
    have f8 : Off [L, p, g] H7 (upd H7 t2 (.tup [V.int (z + 1)])) := Off.of s8
    have nt2 := (trT b7 hx7).out ht2
    have ltk := List.length_take (i := r3.toNat) (l := ks.map V.int)
    have ldk := List.length_drop (i := (r3 + 1).toNat) (l := ks.map V.int)
    refine ⟨c1, t2, _, _, [L, p, g], rfl, rfl, seqT_up f8 hc1, .inl (.inl (by rw [cut_out nt2]; exact upd_same)), trT b8 hx8, few (by rw [ltk]; simp only [List.length_cons, List.length_nil]; omega), fun c2 H9 s9 hc2 => ?_⟩
    have b9 := b8.same s9
    have hx9 := s9 _ _ hx8
    have f9 : Off [L, p, g] _ H9 := Off.of s9
    refine ⟨_, rfl, _, rfl, _, _, rfl, rfl, r3 + 1, rfl, t, _, [L, p, g], rfl, seqT_up (f7.trans (f8.trans f9)) sq6, trT b9 hx9, fun c3 HA sA' hc3 => ?_⟩
    rw [cutV_drop _ (by omega) (by omega)] at hc3
    have bA' := b9.same sA'
    have hxA := sA' _ _ hx9
    have fA : Off [L, p, g] H9 HA := Off.of sA'
    refine ⟨c2, c3, _, _, [L, p, g], rfl, rfl, seqT_up fA hc2, hc3, trT bA' hxA, few (by rw [List.length_append, ldk, ltk]; simp only [List.length_cons, List.length_nil]; omega), fun c5 HB sB' hc5 => ⟨few (by simp), fun L6 hL6 => ?_⟩⟩
    have bB' := bA'.same sB'
    have hxB := sB' _ _ hxA
    have gL6 := same_new (o := .lst [V.ref t, V.ref c5]) hL6
    have nLL6 : L ≠ L6 := ne_of_none hxB hL6
    refine ⟨L, L6, xs, _, rfl, rfl, gL6 _ _ hxB, upd_same, few (by simp only [List.length_cons, List.length_nil]; omega), ?_⟩
    have fB : Off [L, p, g] HA (upd (upd HB L6 (.lst [V.ref t, V.ref c5])) L (.lst (xs ++ [V.ref t, V.ref c5]))) := Off.trans (Off.of sB') ((Off.of gL6).trans (Off.put (by simp)))
    have fAll := f7.trans (f8.trans (f9.trans (fA.trans fB)))
    have gk := ints_gd ks fun z hz => Nat.lt_trans (sk z hz) (by decide)
    have dA := Dp.ups fB _ _ (Dp.ups fA _ _ (Dp.ups f9 _ _ (Dp.ups f8 _ _ (Dp.ups f7 _ _ (ints_dp (K := K) (H := cut [L, p, g] H6) ks)))))
    have lvI : ∀ l : List Int, lvs (l.map PyData.int) = true := fun l => by
      induction l with
      | nil => simp only [List.map_nil, lvs]
      | cons x l ih => simp only [List.map_cons, lvs, lv, ih, Bool.and_self]
    have thW : Ths K C (cut [L, p, g] (upd (upd HB L6 (.lst [V.ref t, V.ref c5])) L (.lst (xs ++ [V.ref t, V.ref c5])))) [V.ref t, V.ref c5] := fun v hv => by
      simp only [List.mem_cons, List.not_mem_nil, or_false] at hv
      rcases hv with h | h
      · refine ⟨.tuple (ks.map PyData.int), .inr ⟨by simp only [lv]; exact lvI ks, by simp only [gd]; exact gk.1, ?_⟩, by simp only [nod, gk.2.1]; omega, by simp only [PyData.depth, gk.2.2]; omega⟩
        rw [h]
        exact .tup (seqT_up fAll sq6) dA
      · have e2 : ks.take r3.toNat ++ [z + 1] ++ ks.drop (r3 + 1).toNat = ks.take r3.toNat ++ [z + 1] ++ ks.drop (r3 + 1).toNat := rfl
        have gk2 := ints_gd (ks.take r3.toNat ++ [z + 1] ++ ks.drop (r3 + 1).toNat) fun u hu => by
          simp only [List.mem_append, List.mem_singleton] at hu
          rcases hu with (hu | hu) | hu
          · exact Nat.lt_trans (sk u (List.mem_of_mem_take hu)) (by decide)
          · have := sk z mz
            rw [hu]
            omega
          · exact Nat.lt_trans (sk u (List.mem_of_mem_drop hu)) (by decide)
        have ln2 : (ks.take r3.toNat ++ [z + 1] ++ ks.drop (r3 + 1).toNat).length ≤ 100 := by
          rw [List.length_append, List.length_append, List.length_take, List.length_drop, List.length_singleton]
          omega
        refine ⟨.tuple ((ks.take r3.toNat ++ [z + 1] ++ ks.drop (r3 + 1).toNat).map PyData.int), .inr ⟨by simp only [lv]; exact lvI _, by simp only [gd]; exact gk2.1, ?_⟩, by simp only [nod, gk2.2.1]; omega, by simp only [PyData.depth, gk2.2.2]; omega⟩
        rw [h]
        refine .tup (xs := (ks.take r3.toNat ++ [z + 1] ++ ks.drop (r3 + 1).toNat).map V.int) ?_ (ints_dp _)
        have hf := seqT_up (Off.trans (Off.of gL6) (Off.put (l := [L, p, g]) (p := L) (o := .lst (xs ++ [V.ref t, V.ref c5])) (by simp))) hc5
        rw [List.map_append, List.map_append, List.map_take, List.map_drop]
        exact hf
    have thF := (th6.up fAll).app thW
    generalize hHL : upd (upd HB L6 (.lst [V.ref t, V.ref c5])) L (.lst (xs ++ [V.ref t, V.ref c5])) = HL at thF
    have hL9 : HL L = some (.lst (xs ++ [V.ref t, V.ref c5])) := by rw [← hHL]; exact upd_same
    have bHL : Box HL p g := by rw [← hHL]; exact (bB'.same gL6).put nL
    have thF := thF.up (cut_same _ _)
    refine ⟨_, rfl, L, rfl, ⟨_, SqL.of hL9⟩, for_list (K := K) (a := L) (xs := xs ++ [V.ref t, V.ref c5]) (fun i σ H5 => ∃ w2 w4 w5 w6 w7 w8 w9, σ = [some (.ref a), some (.ref p), w2, some (.ref L), w4, w5, w6, w7, w8, w9] ∧ Same HL H5)
      ⟨_, _, _, _, _, _, _, rfl, Same.refl _⟩ (fun i σ H5 _ ⟨_, _, _, _, _, _, _, _, h⟩ => SqL.of (h _ _ hL9)) ?_ ?_⟩
    · rintro i8 v8 σ H5 hi8 ⟨w2, w4, w5, w6, w7, w8, w9, rfl, s5⟩
      obtain ⟨d8, th8, nd8, dp8⟩ := thF v8 (List.mem_of_getElem? hi8)
      refine ⟨_, rfl, L, rfl, ⟨_, SqL.of (s5 _ _ hL9)⟩, for_list (K := K) (a := L) (xs := xs ++ [V.ref t, V.ref c5]) (fun i σ H6 => ∃ u9, σ = [some (.ref a), some (.ref p), w2, some (.ref L), w4, w5, w6, w7, some v8, u9] ∧ Same HL H6)
        ⟨_, rfl, s5⟩ (fun i σ H6 _ ⟨_, _, h⟩ => SqL.of (h _ _ hL9)) ?_ ?_⟩
      · rintro i9 v9 σ H6 hi9 ⟨u9, rfl, s6⟩
        obtain ⟨d9, th9, nd9, dp9⟩ := thF v9 (List.mem_of_getElem? hi9)
        refine ⟨_, rfl, _, rfl, v8, v9, d8, d9, rfl, th8.up s6, th9.up s6, nd8, nd9, fun H7 s7 => ⟨_, .bool (cmpD d8 d9 == .lt), rfl, .bl _, bool_prn _, ?_⟩⟩
        have s7 := s6.trans s7
        refine ⟨_, rfl, _, rfl, v8, v9, d8, d9, rfl, th8.up s7, th9.up s7, dp8, dp9, fun H8 s8 => ⟨_, .bool (cmpD d8 d9 == .lt), rfl, .bl _, bool_prn _, rfl, _, rfl, ?_⟩⟩
        rw [decide_eq_true rfl]
        exact iteF ⟨_, rfl, s7.trans s8⟩
      · rintro σ H6 ⟨u9, rfl, s6⟩
        exact ⟨_, _, _, _, _, _, _, rfl, s6⟩
    · rintro σ H5 ⟨w2, w4, w5, w6, w7, w8, w9, rfl, s5⟩
      exact ⟨_, _, _, _, _, _, _, _, rfl, bHL.same s5⟩
  · rintro σ H2 ⟨o2, o3, o4, o5, o6, o7, o8, o9, rfl, b2⟩
    exact q H2
end
theorem kit_me {K : PySem.W.Frag} {C : Addr} : PySem.W.kitOne K (.ref C) (.ref C) = some true := by
  unfold PySem.W.kitOne
  simp
theorem kit_own {K : PySem.W.Frag} {C : Addr} {T : String} (c : (PySem.W.clsIn K C).isSome = true) (t : PySem.W.typeIn K (.ref C) = some (.type "type")) (s : PySem.W.subIn K (.type T) (.ref C) = some false) : PySem.W.kitOne K (.type T) (.ref C) = some false := by
  unfold PySem.W.kitOne PySem.W.kitCls
  rw [if_neg (show ¬ (Value.type T == Value.ref C) = true from by intro z; cases z)]
  show (if ((PySem.W.clsIn K C).isSome && PySem.W.typeIn K (.ref C) == some (.type "type")) = true then PySem.W.subIn K (.type T) (.ref C) else none) = some false
  rw [c, t]
  simp only [beq_self_eq_true, Bool.and_self, if_true]
  exact s
theorem kit_ofC {K : PySem.W.Frag} {C : Addr} {T : String} (m : PySem.W.kitMeta T = true) (s : PySem.W.subIn K (.ref C) (.type T) = some false) : PySem.W.kitOne K (.ref C) (.type T) = some false := by
  unfold PySem.W.kitOne PySem.W.kitCls
  rw [if_neg (show ¬ (Value.ref C == Value.type T) = true from by intro z; cases z)]
  show (if PySem.W.kitMeta T = true then _ else _) = _
  rw [if_pos m]
  exact s
theorem kmt1 : PySem.W.kitMeta "NoneType" = true := by decide +kernel
theorem kmt2 : PySem.W.kitMeta "bool" = true := by decide +kernel
theorem kmt3 : PySem.W.kitMeta "int" = true := by decide +kernel
theorem kmt4 : PySem.W.kitMeta "str" = true := by decide +kernel
theorem kmt5 : PySem.W.kitMeta "list" = true := by decide +kernel
theorem kmt6 : PySem.W.kitMeta "tuple" = true := by decide +kernel
theorem all_mk {l : PySem.W.OpenLaw} {w : World} {K : PySem.W.Frag} {h : Heap} {mg : Str → Option Value} {fa f1 f2 f3 f4 f5 f6 f7 f8 f9 f10 f11 : Addr} (X : K.In h) (G : h.Ns mainGlobals mg) (hfa : mg "law" = some (.ref fa))
    {C g1 g2 g3 g4 T t0 : Addr} {oT ou1 ou2 ou3 ou4 : Value} {oTd o0d od1' od2' od3' od4' an1' an2' an3' an4' : Option Addr} {sT s0 sl1' sl2' sl3' sl4' : Array (Option Value)} {nT n0 : Nat} {tk : Tok} {cdC : ClassData}
    {kV1' dc1' pm1' cd1' ct1' kV2' dc2' pm2' cd2' ct2' kV3' dc3' pm3' cd3' ct3' kV4' dc4' pm4' cd4' ct4' : Value}
    {od1 an1 od2 an2 od3 an3 od4 an4 od5 an5 od6 an6 od7 an7 od8 an8 od9 an9 od10 an10 od11 an11 : Option Addr} {sl1 sl2 sl3 sl4 sl5 sl6 sl7 sl8 sl9 sl10 sl11 : Array (Option Value)} {oc1 kV1 dc1 pm1 cd1 ct1 oc2 kV2 dc2 pm2 cd2 ct2 oc3 kV3 dc3 pm3 cd3 ct3 oc4 kV4 dc4 pm4 cd4 ct4 oc5 kV5 dc5 pm5 cd5 ct5 oc6 kV6 dc6 pm6 cd6 ct6 oc7 kV7 dc7 pm7 cd7 ct7 oc8 kV8 dc8 pm8 cd8 ct8 oc9 kV9 dc9 pm9 cd9 ct9 oc10 kV10 dc10 pm10 cd10 ct10 oc11 kV11 dc11 pm11 cd11 ct11 : Value}
    (aC : PySem.W.nsIn K mainGlobals "Fault" = some (some (.ref C)))
    (am1 : PySem.W.findIn K (.ref C) "__init__" = some (some (.ref g1)))
    (im1 : PySem.W.isFn K (.ref g1) = true)
    (lm1 : K.lookup g1 = some ⟨ou1, od1', .func (PySem.W.fnOf "__init__" "Fault.__init__" (defArgs sInit) (defBody sInit) (defScope sInit) (.ref T) kV1' dc1' pm1' an1' cd1' ct1'), sl1'⟩)
    (cm1 : PySem.W.codeIn K cd1' "Fault.__init__" = true)
    (km1 : PySem.W.keepIn K (.ref g1) = true)
    (lT : K.lookup T = some ⟨oT, oTd, .seq #[.str "" tk, .ref t0] nT, sT⟩)
    (l0 : K.lookup t0 = some ⟨.type "tuple", o0d, .seq #[] n0, s0⟩)
    (am2 : PySem.W.findIn K (.ref C) "__eq__" = some (some (.ref g2)))
    (im2 : PySem.W.isFn K (.ref g2) = true)
    (lm2 : K.lookup g2 = some ⟨ou2, od2', .func (PySem.W.fnOf "__eq__" "Fault.__eq__" (defArgs sEq) (defBody sEq) (defScope sEq) .none kV2' dc2' pm2' an2' cd2' ct2'), sl2'⟩)
    (cm2 : PySem.W.codeIn K cd2' "Fault.__eq__" = true)
    (km2 : PySem.W.keepIn K (.ref g2) = true)
    (am3 : PySem.W.findIn K (.ref C) "__str__" = some (some (.ref g3)))
    (im3 : PySem.W.isFn K (.ref g3) = true)
    (lm3 : K.lookup g3 = some ⟨ou3, od3', .func (PySem.W.fnOf "__str__" "Fault.__str__" (defArgs sStr) (defBody sStr) (defScope sStr) .none kV3' dc3' pm3' an3' cd3' ct3'), sl3'⟩)
    (cm3 : PySem.W.codeIn K cd3' "Fault.__str__" = true)
    (km3 : PySem.W.keepIn K (.ref g3) = true)
    (am4 : PySem.W.findIn K (.ref C) "__repr__" = some (some (.ref g4)))
    (im4 : PySem.W.isFn K (.ref g4) = true)
    (lm4 : K.lookup g4 = some ⟨ou4, od4', .func (PySem.W.fnOf "__repr__" "Fault.__repr__" (defArgs sRep) (defBody sRep) (defScope sRep) .none kV4' dc4' pm4' an4' cd4' ct4'), sl4'⟩)
    (cm4 : PySem.W.codeIn K cd4' "Fault.__repr__" = true)
    (km4 : PySem.W.keepIn K (.ref g4) = true)
    (pg : PySem.W.plainGet K C Str.empty = true)
    (hd : PySem.W.hasDictIn K C = true)
    (po : PySem.W.plainOver K C = true)
    (sa : PySem.W.findIn K (.ref C) "__setattr__" = some (some (.builtin "object.__setattr__")))
    (mk : PySem.W.makesIn K C = true)
    (kc : PySem.W.keepIn K (.ref C) = true)
    (nw : PySem.W.findIn K (.ref C) "word" = some none)
    (nr : PySem.W.findIn K (.ref C) "rule" = some none)
    (np : PySem.W.findIn K (.ref C) "path" = some none)
    (ha : PySem.W.findIn K (.ref C) "__class__" = some (some (.builtin "object.__class__")))
    (hn : PySem.W.specialIn K (.builtin "object.__class__") "__get__" = some (some (.builtin "getset_descriptor.__get__")))
    (htk : PySem.W.takesIn K (.builtin "object.__class__") = some true)
    (hm : PySem.W.mroIn K C (.type "object") = some true)
    (tC : PySem.W.typeIn K (.ref C) = some (.type "type"))
    (cC : PySem.W.clsIn K C = some cdC)
    (ne : PySem.W.findIn K (.ref C) "__ne__" = some (some (.builtin "object.__ne__")))
    (ka1 : PySem.W.subIn K (.type "NoneType") (.ref C) = some false)
    (ja1 : PySem.W.subIn K (.ref C) (.type "NoneType") = some false)
    (ka2 : PySem.W.subIn K (.type "bool") (.ref C) = some false)
    (ja2 : PySem.W.subIn K (.ref C) (.type "bool") = some false)
    (ka3 : PySem.W.subIn K (.type "int") (.ref C) = some false)
    (ja3 : PySem.W.subIn K (.ref C) (.type "int") = some false)
    (ka4 : PySem.W.subIn K (.type "str") (.ref C) = some false)
    (ja4 : PySem.W.subIn K (.ref C) (.type "str") = some false)
    (ka5 : PySem.W.subIn K (.type "list") (.ref C) = some false)
    (ja5 : PySem.W.subIn K (.ref C) (.type "list") = some false)
    (ka6 : PySem.W.subIn K (.type "tuple") (.ref C) = some false)
    (ja6 : PySem.W.subIn K (.ref C) (.type "tuple") = some false)
    (a1 : PySem.W.nsIn K mainGlobals "rank_of" = some (some (.ref f1)))
    (l1 : K.lookup f1 = some ⟨oc1, od1, .func (PySem.W.fnOf "rank_of" "rank_of" (defArgs sRk) (defBody sRk) (defScope sRk) .none kV1 dc1 pm1 an1 cd1 ct1), sl1⟩)
    (c1 : PySem.W.codeIn K cd1 "rank_of" = true) (k1 : PySem.W.keepIn K (.ref f1) = true)
    (a2 : PySem.W.nsIn K mainGlobals "is_before" = some (some (.ref f2)))
    (l2 : K.lookup f2 = some ⟨oc2, od2, .func (PySem.W.fnOf "is_before" "is_before" (defArgs sBef) (defBody sBef) (defScope sBef) .none kV2 dc2 pm2 an2 cd2 ct2), sl2⟩)
    (c2 : PySem.W.codeIn K cd2 "is_before" = true) (k2 : PySem.W.keepIn K (.ref f2) = true)
    (a3 : PySem.W.nsIn K mainGlobals "_law_box" = some (some (.ref f3)))
    (l3 : K.lookup f3 = some ⟨oc3, od3, .func (PySem.W.fnOf "_law_box" "_law_box" (defArgs sBox) (defBody sBox) (defScope sBox) .none kV3 dc3 pm3 an3 cd3 ct3), sl3⟩)
    (c3 : PySem.W.codeIn K cd3 "_law_box" = true) (k3 : PySem.W.keepIn K (.ref f3) = true)
    (a4 : PySem.W.nsIn K mainGlobals "_law_take" = some (some (.ref f4)))
    (l4 : K.lookup f4 = some ⟨oc4, od4, .func (PySem.W.fnOf "_law_take" "_law_take" (defArgs sTake) (defBody sTake) (defScope sTake) .none kV4 dc4 pm4 an4 cd4 ct4), sl4⟩)
    (c4 : PySem.W.codeIn K cd4 "_law_take" = true) (k4 : PySem.W.keepIn K (.ref f4) = true)
    (a5 : PySem.W.nsIn K mainGlobals "_law_word" = some (some (.ref f5)))
    (l5 : K.lookup f5 = some ⟨oc5, od5, .func (PySem.W.fnOf "_law_word" "_law_word" (defArgs sWord) (defBody sWord) (defScope sWord) .none kV5 dc5 pm5 an5 cd5 ct5), sl5⟩)
    (c5 : PySem.W.codeIn K cd5 "_law_word" = true) (k5 : PySem.W.keepIn K (.ref f5) = true)
    (a6 : PySem.W.nsIn K mainGlobals "_law_value" = some (some (.ref f6)))
    (l6 : K.lookup f6 = some ⟨oc6, od6, .func (PySem.W.fnOf "_law_value" "_law_value" (defArgs sValue) (defBody sValue) (defScope sValue) .none kV6 dc6 pm6 an6 cd6 ct6), sl6⟩)
    (c6 : PySem.W.codeIn K cd6 "_law_value" = true) (k6 : PySem.W.keepIn K (.ref f6) = true)
    (a7 : PySem.W.nsIn K mainGlobals "_law_value_in" = some (some (.ref f7)))
    (l7 : K.lookup f7 = some ⟨oc7, od7, .func (PySem.W.fnOf "_law_value_in" "_law_value_in" (defArgs sValIn) (defBody sValIn) (defScope sValIn) .none kV7 dc7 pm7 an7 cd7 ct7), sl7⟩)
    (c7 : PySem.W.codeIn K cd7 "_law_value_in" = true) (k7 : PySem.W.keepIn K (.ref f7) = true)
    (a8 : PySem.W.nsIn K mainGlobals "_law_near" = some (some (.ref f8)))
    (l8 : K.lookup f8 = some ⟨oc8, od8, .func (PySem.W.fnOf "_law_near" "_law_near" (defArgs sNear) (defBody sNear) (defScope sNear) .none kV8 dc8 pm8 an8 cd8 ct8), sl8⟩)
    (c8 : PySem.W.codeIn K cd8 "_law_near" = true) (k8 : PySem.W.keepIn K (.ref f8) = true)
    (a9 : PySem.W.nsIn K mainGlobals "_law_rank" = some (some (.ref f9)))
    (l9 : K.lookup f9 = some ⟨oc9, od9, .func (PySem.W.fnOf "_law_rank" "_law_rank" (defArgs sLRank) (defBody sLRank) (defScope sLRank) .none kV9 dc9 pm9 an9 cd9 ct9), sl9⟩)
    (c9 : PySem.W.codeIn K cd9 "_law_rank" = true) (k9 : PySem.W.keepIn K (.ref f9) = true)
    (a10 : PySem.W.nsIn K mainGlobals "_law_less" = some (some (.ref f10)))
    (l10 : K.lookup f10 = some ⟨oc10, od10, .func (PySem.W.fnOf "_law_less" "_law_less" (defArgs sLess) (defBody sLess) (defScope sLess) .none kV10 dc10 pm10 an10 cd10 ct10), sl10⟩)
    (c10 : PySem.W.codeIn K cd10 "_law_less" = true) (k10 : PySem.W.keepIn K (.ref f10) = true)
    (a11 : PySem.W.nsIn K mainGlobals "law" = some (some (.ref f11)))
    (l11 : K.lookup f11 = some ⟨oc11, od11, .func (PySem.W.fnOf "law" "law" (defArgs sLaw) (defBody sLaw) (defScope sLaw) .none kV11 dc11 pm11 an11 cd11 ct11), sl11⟩)
    (c11 : PySem.W.codeIn K cd11 "law" = true) (k11 : PySem.W.keepIn K (.ref f11) = true)
    (z1 : PySem.W.nsIn K mainGlobals "isinstance" = some none)
    (z2 : PySem.W.nsIn K mainGlobals "len" = some none)
    (z3 : PySem.W.nsIn K mainGlobals "all" = some none)
    (z4 : PySem.W.nsIn K mainGlobals "str" = some none)
    (z5 : PySem.W.nsIn K mainGlobals "tuple" = some none)
    (z6 : PySem.W.nsIn K mainGlobals "int" = some none)
    (z7 : PySem.W.nsIn K mainGlobals "bool" = some none)
    (z8 : PySem.W.nsIn K mainGlobals "range" = some none)
    (z9 : PySem.W.nsIn K mainGlobals "repr" = some none)
    (z10 : PySem.W.nsIn K mainGlobals "abs" = some none)
    (z11 : PySem.W.nsIn K mainGlobals "max" = some none)
    (z12 : PySem.W.nsIn K mainGlobals "list" = some none)
    (z13 : PySem.W.nsIn K mainGlobals "zip" = some none)
    : ∃ fd : FuncData, (∀ (s : Shared) (v : Value), BindsTo s fd ⟨[v], []⟩ [("_law_script", v)]) ∧ ∀ base : Heap, K.In base → base.Ns mainGlobals mg → FnG l.prog w K mg base CX0 23 fa fd ["_law_script"] (spLaw K) := by
  have e := hfa.symm.trans (PySem.W.mg_of X G a11)
  cases e
  have F1 := fun_mk (st := sRk) l1 c1 k1
  have b1 := F1.binds (ps := ["thing"]) fun _ _ _ _ _ _ us hl => match us, hl with | [_], _ => rfl
  have m1 := PySem.W.mg_of X G a1
  have F2 := fun_mk (st := sBef) l2 c2 k2
  have b2 := F2.binds (ps := ["one", "other"]) fun _ _ _ _ _ _ us hl => match us, hl with | [_, _], _ => rfl
  have m2 := PySem.W.mg_of X G a2
  have F3 := fun_mk (st := sBox) l3 c3 k3
  have b3 := F3.binds (ps := ["_law_script", "_law_base"]) fun _ _ _ _ _ _ us hl => match us, hl with | [_, _], _ => rfl
  have m3 := PySem.W.mg_of X G a3
  have F4 := fun_mk (st := sTake) l4 c4 k4
  have b4 := F4.binds (ps := ["_law_box_here", "_law_many"]) fun _ _ _ _ _ _ us hl => match us, hl with | [_, _], _ => rfl
  have m4 := PySem.W.mg_of X G a4
  have F5 := fun_mk (st := sWord) l5 c5 k5
  have b5 := F5.binds (ps := ["_law_box_here"]) fun _ _ _ _ _ _ us hl => match us, hl with | [_], _ => rfl
  have m5 := PySem.W.mg_of X G a5
  have F6 := fun_mk (st := sValue) l6 c6 k6
  have b6 := F6.binds (ps := ["_law_box_here", "_law_deep"]) fun _ _ _ _ _ _ us hl => match us, hl with | [_, _], _ => rfl
  have m6 := PySem.W.mg_of X G a6
  have F7 := fun_mk (st := sValIn) l7 c7 k7
  have b7 := F7.binds (ps := ["_law_box_here", "_law_deep", "_law_room"]) fun _ _ _ _ _ _ us hl => match us, hl with | [_, _, _], _ => rfl
  have m7 := PySem.W.mg_of X G a7
  have F8 := fun_mk (st := sNear) l8 c8 k8
  have b8 := F8.binds (ps := ["_law_box_here", "_law_value_here"]) fun _ _ _ _ _ _ us hl => match us, hl with | [_, _], _ => rfl
  have m8 := PySem.W.mg_of X G a8
  have F9 := fun_mk (st := sLRank) l9 c9 k9
  have b9 := F9.binds (ps := ["_law_value_here"]) fun _ _ _ _ _ _ us hl => match us, hl with | [_], _ => rfl
  have m9 := PySem.W.mg_of X G a9
  have F10 := fun_mk (st := sLess) l10 c10 k10
  have b10 := F10.binds (ps := ["_law_one", "_law_other"]) fun _ _ _ _ _ _ us hl => match us, hl with | [_, _], _ => rfl
  have m10 := PySem.W.mg_of X G a10
  have F11 := fun_mk (st := sLaw) l11 c11 k11
  have n_isinstance := PySem.W.mg_none_of X G z1
  have n_len := PySem.W.mg_none_of X G z2
  have n_all := PySem.W.mg_none_of X G z3
  have n_str := PySem.W.mg_none_of X G z4
  have n_tuple := PySem.W.mg_none_of X G z5
  have n_int := PySem.W.mg_none_of X G z6
  have n_bool := PySem.W.mg_none_of X G z7
  have n_range := PySem.W.mg_none_of X G z8
  have n_repr := PySem.W.mg_none_of X G z9
  have n_abs := PySem.W.mg_none_of X G z10
  have n_max := PySem.W.mg_none_of X G z11
  have n_list := PySem.W.mg_none_of X G z12
  have n_zip := PySem.W.mg_none_of X G z13
  refine ⟨PySem.W.fnOf "law" "law" (defArgs sLaw) (defBody sLaw) (defScope sLaw) .none kV11 dc11 pm11 an11 cd11 ct11, fun s v => .of_eq rfl, fun base _ _ => ?_⟩
  have B : Bi mg := ⟨n_isinstance, n_len, n_all, n_str, n_tuple, n_int, n_bool, n_range, n_repr, n_abs⟩
  have Tt : Tk l.prog w K mg base f4 _ := ⟨ok_take (k := 0) F4 n_len, k4, b4, m4⟩
  have mC := PySem.W.mg_of X G aC
  have ko : ∀ {T : String}, PySem.W.subIn K (.type T) (.ref C) = some false → PySem.W.kitOne K (.type T) (.ref C) = some false := fun s => kit_own (by rw [cC]; rfl) tC s
  have O : OwnC K C g2 := ⟨⟨⟨pg, hd, po, sa⟩, ha, hn, htk, hm, kit_me⟩, ⟨am2, im2, km2⟩, ne, ko ka1, ko ka2, ko ka3, ko ka4, ko ka5, ko ka6, kit_ofC kmt1 ja1, kit_ofC kmt2 ja2, kit_ofC kmt3 ja3, kit_ofC kmt4 ja4, kit_ofC kmt5 ja5, kit_ofC kmt6 ja6⟩
  have FC : FaC K mg C g2 := ⟨O, nw, nr, np, mC, kc⟩
  obtain ⟨dI, FD⟩ : ∃ dI, FunD K "__init__" "Fault.__init__" (defArgs sInit) (defBody sInit) (defScope sInit) [.str "", .ref t0] [] g1 dI := ⟨_, ⟨_, _, _, _, _, _, _, _, _, _, rfl, lm1, cm1, .inr ⟨(fun z => nomatch z), T, _, [.str "" tk, .ref t0], nT, rfl, lT, rfl, .cons ⟨tk, rfl⟩ (.cons rfl .nil)⟩, .inl rfl⟩, km1⟩
  have z0 : ∀ H : Hp, SqT K H t0 [] := fun H => .inr ⟨_, _, _, l0, rfl, rfl, by decide, .nil⟩
  have MF : MkF l.prog w K mg base C g1 dI t0 := by
    refine ⟨⟨mk, am1, im1, kc⟩, ok_initF (k := 0) FD FC, ?_, ?_, ?_, ?_, z0⟩
    · exact FD.binds1 2 0 (fun z => nomatch z) rfl fun _ _ _ _ _ _ _ us its h1 h2 => match us, its, h1, h2 with | [_, _], [_, _], _, _ => ⟨_, rfl, rfl⟩
    · exact FD.binds1 3 1 (fun z => nomatch z) rfl fun _ _ _ _ _ _ _ us its h1 h2 => match us, its, h1, h2 with | [_, _, _], [_, _], _, _ => ⟨_, rfl, rfl⟩
    · exact FD.binds1 4 2 (fun z => nomatch z) rfl fun _ _ _ _ _ _ _ us its h1 h2 => match us, its, h1, h2 with | [_, _, _, _], [_, _], _, _ => ⟨_, rfl, rfl⟩
    · exact FD.kbindsD 1 ["path", "word"] (fun us its ws => us ++ (ws.drop 1 ++ (its.take 1 ++ ws.take 1))) (fun z => nomatch z) (fun r1 r2 r3 => r1.append ((r3.drop 1).append ((r2.take 1).append (r3.take 1))))
        fun _ _ _ _ _ _ _ us its ws h1 h2 h3 => match us, its, ws, h1, h2, h3 with | [_], [_, _], [_, _], _, _, _ => ⟨_, rfl, rfl⟩
  have GR : Dn l.prog w K mg base 1 "rank_of" ["thing"] (spRk K C) f1 _ := ⟨ok_rk (k := 0) F1 B FC, k1, b1, m1⟩
  have GF : Dn l.prog w K mg base 2 "is_before" ["one", "other"] (spBef K C) f2 _ := ⟨ok_bef (k := 0) F2 B FC n_list n_zip GR, k2, b2, m2⟩
  have GW : Dn l.prog w K mg base 2 "_law_word" ["_law_box_here"] spWord f5 _ := ⟨ok_word (k := 0) F5 B Tt, k5, b5, m5⟩
  have V : ∀ n : Nat, FnOk l.prog w K mg base CX0 (n + 2) f7 _ ["_law_box_here", "_law_deep", "_law_room"] (spVal K n) := fun n => by
    induction n with
    | zero =>
      have no : ∀ vs H Q E, ¬ spVal K 0 vs H Q E := fun vs H Q E h => by
        obtain ⟨p, g, wd, e, w0, l, _, _, _, _, h1, h2, _⟩ := h
        omega
      exact ⟨fun vs H Q E h => absurd h (no vs H Q E), fun A outer s H args us vs Q E _ _ _ _ h => absurd h (no vs H Q E)⟩
    | succ n ih => exact ok_valIn F7 B Tt GW ih b7 m7
  have GV : Dn l.prog w K mg base 11 "_law_value" ["_law_box_here", "_law_deep"] (spValue K) f6 _ := ⟨ok_value (k := 0) F6 ⟨V 8, k7, b7, m7⟩, k6, b6, m6⟩
  have N : ∀ n : Nat, n ≤ 60 → FnOk l.prog w K mg base CX0 (n + 12) f8 _ ["_law_box_here", "_law_value_here"] (spNear K n) := fun n => by
    induction n with
    | zero =>
      intro _
      have no : ∀ vs H Q E, ¬ spNear K 0 vs H Q E := fun vs H Q E h => by
        obtain ⟨p, g, v, d, l, _, _, _, _, _, h1, _⟩ := h
        omega
      exact ⟨fun vs H Q E h => absurd h (no vs H Q E), fun A outer s H args us vs Q E _ _ _ _ h => absurd h (no vs H Q E)⟩
    | succ n ih => exact fun hn => ok_near (by omega) F8 B Tt GV (ih (by omega)) b8 m8
  have GK : Dn l.prog w K mg base 1 "_law_rank" ["_law_value_here"] (spLRank K C) f9 _ := ⟨ok_lrank (k := 0) F9 B FC, k9, b9, m9⟩
  have Ls : ∀ n : Nat, FnOk l.prog w K mg base CX0 (n + 1) f10 _ ["_law_one", "_law_other"] (spLess K C n) := fun n => by
    induction n with
    | zero =>
      have no : ∀ vs H Q E, ¬ spLess K C 0 vs H Q E := fun vs H Q E h => by
        obtain ⟨v1, v2, d1, d2, _, _, _, h1, _⟩ := h
        omega
      exact ⟨fun vs H Q E h => absurd h (no vs H Q E), fun A outer s H args us vs Q E _ _ _ _ h => absurd h (no vs H Q E)⟩
    | succ n ih => exact ok_less F10 B FC n_max n_zip GK ih b10 m10
  exact ok_law F11 B ⟨ok_box (k := 0) F3 n_abs, k3, b3, m3⟩ Tt GV ⟨N 10 (by decide), k8, b8, m8⟩ ⟨Ls 20, k10, b10, m10⟩ GF MF mC
end Rl
open PySem PySem.W PyProof.Rows in
set_option maxRecDepth 100000 in
set_option maxHeartbeats 0 in
theorem PySem.Challenge.cw_runlore_k03_values_in_order_holds : PySem.Challenge.rw_runlore_k03_values_in_order.Holds := by
  w_on; o_law; k_head; (case hw => w_witness2)
  k_fill
  refine Rl.walkG (l := PySem.Challenge.rw_runlore_k03_values_in_order) (n := 63) (k := 23) (x := "_law_script") (sp := Rl.spLaw) rfl (by decide) rfl ⟨rfl, by decide, by decide⟩ (fun w h Y => PySem.W.kIn_of Y) ?F (fun K H a ns hl _ hS => ⟨a, ns, rfl, hS, hl, fun _ => rfl⟩)
  case F =>
    intro w mg fa h KX G hmg
    refine' Rl.all_mk KX G hmg ?aC ?am1 ?im1 ?lm1 ?cm1 ?km1 ?lT ?l0 ?am2 ?im2 ?lm2 ?cm2 ?km2 ?am3 ?im3 ?lm3 ?cm3 ?km3 ?am4 ?im4 ?lm4 ?cm4 ?km4 ?pg ?hd ?po ?sa ?mk ?kc ?nw ?nr ?np ?ha ?hn ?htk ?hm ?tC ?cC ?ne ?ka1 ?ja1 ?ka2 ?ja2 ?ka3 ?ja3 ?ka4 ?ja4 ?ka5 ?ja5 ?ka6 ?ja6 ?a1 ?l1 ?c1 ?k1 ?a2 ?l2 ?c2 ?k2 ?a3 ?l3 ?c3 ?k3 ?a4 ?l4 ?c4 ?k4 ?a5 ?l5 ?c5 ?k5 ?a6 ?l6 ?c6 ?k6 ?a7 ?l7 ?c7 ?k7 ?a8 ?l8 ?c8 ?k8 ?a9 ?l9 ?c9 ?k9 ?a10 ?l10 ?c10 ?k10 ?a11 ?l11 ?c11 ?k11 ?z1 ?z2 ?z3 ?z4 ?z5 ?z6 ?z7 ?z8 ?z9 ?z10 ?z11 ?z12 ?z13
    (case aC => k_is)
    (case am1 => k_is)
    (case im1 => k_is)
    (case lm1 => k_is)
    (case cm1 => k_is)
    (case km1 => k_is)
    (case lT => k_is)
    (case l0 => k_is)
    (case am2 => k_is)
    (case im2 => k_is)
    (case lm2 => k_is)
    (case cm2 => k_is)
    (case km2 => k_is)
    (case am3 => k_is)
    (case im3 => k_is)
    (case lm3 => k_is)
    (case cm3 => k_is)
    (case km3 => k_is)
    (case am4 => k_is)
    (case im4 => k_is)
    (case lm4 => k_is)
    (case cm4 => k_is)
    (case km4 => k_is)
    (case pg => k_is)
    (case hd => k_is)
    (case po => k_is)
    (case sa => k_is)
    (case mk => k_is)
    (case kc => k_is)
    (case nw => k_is)
    (case nr => k_is)
    (case np => k_is)
    (case ha => k_is)
    (case hn => k_is)
    (case htk => k_is)
    (case hm => k_is)
    (case tC => k_is)
    (case cC => k_is)
    (case ne => k_is)
    (case ka1 => k_is)
    (case ja1 => k_is)
    (case ka2 => k_is)
    (case ja2 => k_is)
    (case ka3 => k_is)
    (case ja3 => k_is)
    (case ka4 => k_is)
    (case ja4 => k_is)
    (case ka5 => k_is)
    (case ja5 => k_is)
    (case ka6 => k_is)
    (case ja6 => k_is)
    (case a1 => k_is)
    (case l1 => k_is)
    (case c1 => k_is)
    (case k1 => k_is)
    (case a2 => k_is)
    (case l2 => k_is)
    (case c2 => k_is)
    (case k2 => k_is)
    (case a3 => k_is)
    (case l3 => k_is)
    (case c3 => k_is)
    (case k3 => k_is)
    (case a4 => k_is)
    (case l4 => k_is)
    (case c4 => k_is)
    (case k4 => k_is)
    (case a5 => k_is)
    (case l5 => k_is)
    (case c5 => k_is)
    (case k5 => k_is)
    (case a6 => k_is)
    (case l6 => k_is)
    (case c6 => k_is)
    (case k6 => k_is)
    (case a7 => k_is)
    (case l7 => k_is)
    (case c7 => k_is)
    (case k7 => k_is)
    (case a8 => k_is)
    (case l8 => k_is)
    (case c8 => k_is)
    (case k8 => k_is)
    (case a9 => k_is)
    (case l9 => k_is)
    (case c9 => k_is)
    (case k9 => k_is)
    (case a10 => k_is)
    (case l10 => k_is)
    (case c10 => k_is)
    (case k10 => k_is)
    (case a11 => k_is)
    (case l11 => k_is)
    (case c11 => k_is)
    (case k11 => k_is)
    (case z1 => k_is)
    (case z2 => k_is)
    (case z3 => k_is)
    (case z4 => k_is)
    (case z5 => k_is)
    (case z6 => k_is)
    (case z7 => k_is)
    (case z8 => k_is)
    (case z9 => k_is)
    (case z10 => k_is)
    (case z11 => k_is)
    (case z12 => k_is)
    (case z13 => k_is)

import PyProof.Rows.All
import Wide.All
import OpenK.AllK
import Wide.FinOn
import PyProof.ReprRoads
import PyProof.StrLawsRepr
import PyProof.ReprLen
import PyProof.Rows.RegStrFacts
import PyProof.Rows.StrCase
import PyProof.Rows.ReprOcc
import HandS.ForMost
import HandS.IsInst
import HandS.Wide
import HandS.Style
import HandS.Flow
import HandS.Conv
import HandS.Walk
import HandS.Codes
import HandS.TupAny
import HandS.FStr
import HandS.Zip
import HandS.ListItems
import HandS.Iter
import HandS.More
import KE.KDictZip
import KE.GoesEnum
import PyProof.CollectWalk
import PySem.Challenge.RW_runlore_k08_trees_taken_apart
set_option Elab.async false
set_option linter.all false
set_option maxRecDepth 100000
set_option exponentiation.threshold 2000
set_option maxHeartbeats 4000000
namespace Rl
open PySem PySem.Spec PyProof.Rows L2
/-- what can be printed: data of bounded depth whose text is short enough -/
structure Prn (d : PyData) : Prop where
  sh : d.showable = true
  nd : d.hasDict = false
  dp : d.depth ≤ 60
  sz : d.shown.length ≤ sizeLine
def rRep (K : PySem.W.Frag) : List V → Hp → VK → Prop := fun xs H Q =>
  ∃ v d, xs = [v] ∧ Dp K H v d ∧ Prn d ∧ Q (.str d.shown) H
theorem meets_extT (l b : Addr) (items items2 : Array Value) (n : Nat) (hlong : (!items.isEmpty && Builtin.List.listTooLong (items.size + items2.size)) = false) (h1 : items.size ≤ sizeLine) (h2 : items.size + items2.size ≤ sizeLine + 1) :
    Meets (Builtin.«list.extend» ⟨[.ref l, .ref b], []⟩) (fun _ R s => s.heap.get? l = some { cls := .type "list", data := .seq items n } ∧ IsTup s.heap b items2 ∧
      R (.ok (.ret .none)) { s with heap := s.heap.update l (Obj.mapSeq fun x => x ++ items2) }) := by
  intro prog w A R s ⟨hl, ⟨o, ho, hc, n2, hd⟩, hR⟩
  show wpAny _ A.in1 (Builtin.List.listExtendWith (.ref l) (.ref b) .none) _ _ s
  unfold Builtin.List.listExtendWith
  refine wpAny_bind (wpAny_typeOf ⟨o, ho, hc⟩ ?_)
  have e1 : (Builtin.List.listSameRef (.ref l) (.ref b) || Value.type "tuple" == Value.type "list" || Value.type "tuple" == Value.type "tuple") = true := by simp
  simp only [e1, if_true]
  refine wpAny_bind ?_
  unfold Builtin.List.listItems
  refine wpAny_bind (wpAny_seqItems ho hd (wpAny_pure ?_))
  refine wpAny_bind ?_
  refine wpAny_bind (wpAny_seqItems hl rfl (wpAny_pure ?_))
  rw [hlong]
  show wpAny _ A.in1 (updateSeq l (· ++ items2) >>= fun _ => ret .none) _ _ s
  have h3 : (items ++ items2).size ≤ sizeLine + 1 := by rw [Array.size_append]; exact h2
  refine wpAny_bind (wpAny_updateSeq hl rfl ?_ h1 h3)
  exact wpAny_pure hR
section
variable {X : Cx}
theorem call_rep (hg : X.A.guards = some []) (hu : X.A.units + 64 < cLine) : CallR X (.builtin "repr") (rRep X.K) := by
  intro pins s σ H xs us Q I r h
  obtain ⟨v, d, rfl, hd, ⟨hs, hnd, hdep, hsz⟩, q⟩ := h
  obtain ⟨u, rfl, ru⟩ := vals1 r
  obtain ⟨as, rd⟩ := Dp.reads I d v u hd ru
  cases hd with
  | non =>
    cases ru
    exact PySem.P.repr_of_none ⟨.str _, H, I.tok _, ⟨_, rfl⟩, q⟩
  | bl b =>
    cases ru
    refine PySem.P.repr_of_bool ⟨.str (if b then "True" else "False"), H, I.tok _, ⟨_, rfl⟩, ?_⟩
    cases b <;> exact q
  | int i =>
    obtain ⟨t, rfl⟩ := ru
    exact PySem.P.repr_of_int (of_decide_eq_true (by simpa only [PyData.showable] using hs)) ⟨.str _, H, I.tok _, ⟨_, rfl⟩, q⟩
  | str x =>
    obtain ⟨t, rfl⟩ := ru
    exact PySem.P.repr_of_str ⟨.str _, H, I.tok _, ⟨_, rfl⟩, q⟩ hsz
  | lst h1 h2 =>
    cases ru
    exact repr_of_reads' rd hs (PyData.noDict_hsm hnd) hg (by omega) (fun _ _ e => e) (fun h' u tk hk => ⟨.str _, H, I.kept hk, ⟨_, rfl⟩, q⟩) hsz
  | tup h1 h2 =>
    cases ru
    exact repr_of_reads' rd hs (PyData.noDict_hsm hnd) hg (by omega) (fun _ _ e => e) (fun h' u tk hk => ⟨.str _, H, I.kept hk, ⟨_, rfl⟩, q⟩) hsz
/-- xs.extend(t), t a tuple -/
def rExtT (K : PySem.W.Frag) : V → List V → Hp → VK → Prop := fun x vs H Q =>
  ∃ l b xs zs, x = .ref l ∧ vs = [.ref b] ∧ H l = some (.lst xs) ∧ SqT K H b zs ∧ xs.length + zs.length ≤ sizeLine ∧ Q .non (upd H l (.lst (xs ++ zs)))
theorem mt_extT : MtM X "list.extend" (rExtT X.K) := by
  intro pins s σ H x vs v us Q I rx rv h
  obtain ⟨l, b, xs, zs, rfl, rfl, hH, hB, hz, q⟩ := h
  cases rx
  obtain ⟨u, rfl, ru⟩ := rv.one
  cases ru
  obtain ⟨z, its, n, r, hl, e⟩ := I.lstM hH
  obtain ⟨its2, r2, tp, hl2⟩ := I.tuple hB
  have hl3 := r2.length
  have hl4 := r.length
  have hsz : its.toArray.size + its2.toArray.size ≤ sizeLine := by rw [List.size_toArray, List.size_toArray]; omega
  have hlong : (!its.toArray.isEmpty && Builtin.List.listTooLong (its.toArray.size + its2.toArray.size)) = false := by
    rw [notLongL hsz, Bool.and_false]
  refine call_meets F.slot_list_extend ⟨_, e, rfl⟩ F.entry_list_extend (F.args_list_extend_2 _ _)
    (meets_extT l b its.toArray its2.toArray n hlong (by omega) (by omega)) ⟨e, tp, ?_⟩
  refine ⟨.non, _, I.lset (its' := its ++ its2) hH e (by simp) (r.append r2) ?_, rfl, q⟩
  rw [List.length_append]
  omega
end
/-! a def that may print (repr): called where nothing is being printed -/
section
variable {P : Program} {w : World} {K : PySem.W.Frag} {mg : Str → Option Value} {base : Heap} {CX : CXT}
structure FnG (P : Program) (w : World) (K : PySem.W.Frag) (mg : Str → Option Value) (base : Heap)
    (CX : CXT) (k : Nat) (f : Addr) (fd : FuncData) (ps : List Str) (sp : Sp) : Prop where
  len : ∀ ws H Q E, sp ws H Q E → ws.length = ps.length
  go : ∀ (B : Around) (out : List Env) (t : Shared) (H : Hp) (as : Args) (us : List Value) (ws : List V) (Q : VK) (E : XK), B.guards = some [] → Room k B →
    Env0 P w K mg base B out t H → BindsTo t fd as (ps.zip us) → Vals ws us → sp ws H Q E →
    codeAny (model P w) B (.call (.ref f) as) (CR CX out P w H t Q E) t
theorem FnOk.toG {k : Nat} {f : Addr} {fd : FuncData} {ps : List Str} {sp : Sp} (F : FnOk P w K mg base CX k f fd ps sp) : FnG P w K mg base CX k f fd ps sp :=
  ⟨F.len, fun B out t H as us ws Q E _ => F.run B out t H as us ws Q E⟩
theorem FnG.mono {j k : Nat} {f : Addr} {fd : FuncData} {ps : List Str} {sp : Sp} (F : FnG P w K mg base CX j f fd ps sp) (h : j ≤ k) : FnG P w K mg base CX k f fd ps sp :=
  ⟨F.len, fun B out t H as us ws Q E g r => F.go B out t H as us ws Q E g (r.mono h)⟩
theorem fnG_of {k : Nat} {f : Addr} {name qual : Str} {params : Arguments} {body : List Stmt} {scope : Scope} {dV kV doc pm cdv ct oc : Value} {an od : Option Addr} {osl : Array (Option Value)} {N ps : List Str} {sp : Sp}
    (lk : K.lookup f = some ⟨oc, od, .func (PySem.W.fnOf name qual params body scope dV kV doc pm an cdv ct), osl⟩) (hcd : PySem.W.codeIn K cdv qual = true) (S : FnScope N ps scope)
    (len : ∀ ws H Q E, sp ws H Q E → ws.length = ps.length)
    (hb : ∀ (B : Around) (out : List Env) (t : Shared) (H : Hp) (ws : List V) (Q : VK) (E : XK), B.guards = some [] → Room k (B.deeper (envOfC qual scope t.heap.objs.size f cdv)) → sp ws H Q E →
      ∃ r, PSs (cxOf CX P w K mg base N qual scope f cdv B out t H E) body r ∧ r { nx := fun _ H' => Q .non H', rt := Q } (start N ws) H) :
    FnG P w K mg base CX (k + 1) f (PySem.W.fnOf name qual params body scope dV kV doc pm an cdv ct) ps sp := by
  refine ⟨len, ?_⟩
  intro B out t H as us ws Q E hg hr ee bb rr hsp
  have hl := len _ _ _ _ hsp
  have kx : K.In t.heap := ee.mod.kin.keeps fun b o z => (ee.bs b o z).1
  have lm : t.heap.NoLimit := ee.mod.nolimit.keeps fun b o z => (ee.bs b o z).1
  have kinds : ∀ y ∈ ps.zip us, scope.names.lookup y.1 = some .local ∨ (scope.names.lookup y.1 = some .cell ∧
      ((cellsFrom (t.heap.objs.size + 1) scope.names []).lookup y.1).isSome = true) := by
    rintro ⟨n, v⟩ hy
    rcases S.par n (List.of_mem_zip hy).1 with q | q
    · exact Or.inl q
    · exact Or.inr ⟨q, PySem.W.cellsFrom_some _ _ _ (Or.inl q)⟩
  refine codeAny_call_function hr.depth (kx _ _ lk) rfl S.co S.gen rfl (PySem.W.codeRec_of kx hcd) (bb _ _ _ _ ?_)
  refine wpAny_newFunctionEnv_cells S.kind kinds fun env he t1 x => ?_
  subst he
  refine ⟨lm.keeps x.toInCall.keep, codeAny_func ?_⟩
  obtain ⟨r, ht, hq⟩ := hb B out t H ws Q E hg (hr.deeper _) hsp
  have J := inv_start (CX := CX) (E := E) S hr.hd ee hl rr x
  refine wpAny_mono (ht.run [] t1 (start N ws) H _ J hq) (fun fl t' hs => ?_) (fun _ _ hs => hs)
  cases fl with
  | brk => exact hs.elim fun _ z => z.elim fun _ z => z.2.elim
  | cont => exact hs.elim fun _ z => z.elim fun _ z => z.2.elim
  | ret u =>
    obtain ⟨v, _, H', J', rv, q⟩ := hs
    exact ⟨v, H', J'.os, J'.bare, J'.base, J'.hok, rv, q⟩
  | next =>
    obtain ⟨_, H', J', q⟩ := hs
    exact ⟨.non, H', J'.os, J'.bare, J'.base, J'.hok, rfl, q⟩
end
section
variable {X : Cx} {CX : CXT} {k : Nat} {f : Addr} {fd : FuncData} {ps : List Str} {sp : Sp} {ds : List Value} {dvs : List V} {E : XK} {x : Str} {p pos : Pos} {e : Expr} {es : List Expr} {t : TA}
theorem pe_callG (F : FnG X.prog X.w X.K X.mg X.base CX k f fd ps sp) (gd : X.A.guards = some []) (hr : Room k X.A) (hg : Gl X x) (hm : X.mg x = some (.ref f)) (hk : PySem.W.keepIn X.K (.ref f) = true)
    (hb : Binds X.K fd ps ds) (hd : Vals dvs ds) (hx : Passes CX X E) (ha : PA X (e :: es) t) (hdb : (x == ("__debug__" : Str)) = false := by decide)
    (he : starEach (e :: es) X.env = (false, eval e X.env) :: starEach es X.env := by rfl) (hpl : (backTo pos (starEach es X.env)).any (·.1) = false := by rfl) :
    PE X (.Call (.Name x p) (e :: es) [] pos) (tCall sp dvs E t) := by
  refine ⟨fun pins s σ H Q I h => wpAny_Call_Name_kw (ld_glob I hg hm ?_ hdb)⟩
  refine PySem.W.callWith_K (h₀ := X.base) I.ok.mod.kin hk ?_ he hpl
  refine thn (ha.run pos pins s σ H _ I h) fun us t1 ⟨ws, H1, J, r, q⟩ => ⟨J.kIn, ?_⟩
  have r2 : Vals (ws ++ dvs) (us ++ ds) := r.append hd
  have hl : (us ++ ds).length = ps.length := r2.length.symm.trans (F.len _ _ _ _ q)
  refine wpAny_call (codeAny_mono (F.go X.A X.stack t1 H1 ⟨us, []⟩ (us ++ ds) (ws ++ dvs) Q E gd hr J.env0 (hb t1 us J.kIn hl) r2 q) ?_)
  intro r t' hq
  cases r with
  | error z => exact hx pins σ H1 t1 z t' J hq
  | ok fl =>
    cases fl with
    | ret u => exact J.after hq
    | next => exact False.elim hq
    | brk => exact False.elim hq
    | cont => exact False.elim hq
end
/-! the law's own call, where its def may print -/
abbrev Tru (s₁ : Shared) (r : Result) (t : Shared) : Prop := r = .ok (.ret (.bool true)) ∧ OldK s₁.heap t.heap ∧ t.os = s₁.os ∧ AllBare t.gens
theorem law_core {P : Program} {w : World} {K : PySem.W.Frag} {mg mb : Str → Option Value} {k : Nat} {fa a : Addr} {fd : FuncData} {x : Str} {sp : Sp} {s₁ : Shared} {vs : List Value} {ns : List Int}
    (kx : K.In s₁.heap) (n1 : s₁.heap.Ns mainGlobals mg) (n2 : s₁.heap.Ns builtinsNs mb) (n3 : ∀ x : Str, x ≠ "__name__" → mb x = bootBuiltins x) (n4 : s₁.heap.NoLimit) (g0 : s₁.gens = #[])
    (oa : s₁.heap.get? a = some { cls := .type "list", data := .seq vs.toArray }) (hr : Room k callerA)
    (F : ∀ base : Heap, K.In base → base.Ns mainGlobals mg → FnG P w K mg base CX0 k fa fd [x] sp) (bd : ∀ (s : Shared) (u : Value), BindsTo s fd ⟨[u], []⟩ [(x, u)])
    (hsp : ∀ H : Hp, Only H → SqL K H a (ns.map V.int) → sp [.ref a] H (fun v _ => v = .bl true) fun _ _ _ => False)
    (H : Hp) (hO : Only H) (hS : SqL K H a (ns.map V.int)) (ok : HOk P w H s₁.heap) (hA : ∀ b, H b ≠ none → b = a) (hK : H a ≠ none → K.lookup a = none) :
    codeAny (model P w) callerA (.call (.ref fa) ⟨[.ref a], []⟩) (Tru s₁) s₁ := by
  have out : ∀ {b : Addr} {o : Obj} {es : Array DictEntry} {ep : Nat}, s₁.heap.get? b = some o → o.data = .dict es ep → H b = none := by
    intro b o es ep e d
    by_cases q : H b = none
    · exact q
    · have z := hA b q
      subst z
      rw [oa] at e
      cases e
      exact nomatch d
  have nsK : ∀ {b : Addr} {m : Str → Option Value}, s₁.heap.Ns b m → (hidT s₁.heap H).Ns b m := by
    rintro b m ⟨o, es, ep, e, d, r⟩
    exact ⟨o, es, ep, hidT_get e (out e d), d, r⟩
  have kb : K.In (hidT s₁.heap H) := by
    intro b o e
    refine hidT_get (kx b o e) ?_
    by_cases q : H b = none
    · exact q
    · have z := hA b q
      subst z
      have y := hK q
      rw [y] at e
      cases e
  have lim : (hidT s₁.heap H).NoLimit := by
    obtain ⟨mc, h1, h2⟩ := n4
    exact ⟨mc, nsK h1, h2⟩
  have md : Mod K mg (hidT s₁.heap H) := ⟨kb, nsK n1, ⟨mb, nsK n2, n3⟩, lim⟩
  have ee : Env0 P w K mg (hidT s₁.heap H) callerA [] s₁ H := by
    refine ⟨rfl, md, fun b o e => of_hidT e, Nat.le_of_eq (hidT_size _ _), trivial, ?_, ok, .of_eq g0⟩
    intro b hb
    exact absurd (show b ∈ ([] : List Addr) from hb) (by simp)
  have run := (F _ kb (nsK n1)).go callerA [] s₁ H ⟨[.ref a], []⟩ [.ref a] [.ref a] _ _ rfl hr ee (bd s₁ (.ref a)) (.cons rfl .nil) (hsp H hO hS)
  refine codeAny_mono run ?_
  intro r t h
  cases r with
  | error e => exact False.elim h
  | ok fl =>
    cases fl with
    | brk => exact False.elim h
    | cont => exact False.elim h
    | next => exact False.elim h
    | ret u =>
      obtain ⟨v, H', os, bare, un, ok', rv, q⟩ := h
      have q' : v = .bl true := q
      subst q'
      obtain rfl : u = Value.bool true := rv
      refine ⟨rfl, OldK.of_keep ?_, os, bare⟩
      intro b o e
      rcases hO b with z | ⟨ob, xs, z⟩
      · exact un.keep b o e z (fun y => absurd (show b ∈ ([] : List Addr) from y) (by simp)) (by simp)
      · obtain ⟨e1, _⟩ := ok b _ z
        obtain ⟨e2, _⟩ := ok' b _ (un.frzs b ob _ z)
        rw [e] at e1
        cases e1
        exact e2
theorem law_callG {P : Program} {w : World} {K : PySem.W.Frag} {mg mb : Str → Option Value} {k : Nat} {fa a : Addr} {fd : FuncData} {x : Str} {sp : Sp} {s₁ : Shared} {vs : List Value} {ns : List Int}
    (kx : K.In s₁.heap) (n1 : s₁.heap.Ns mainGlobals mg) (n2 : s₁.heap.Ns builtinsNs mb) (n3 : ∀ x : Str, x ≠ "__name__" → mb x = bootBuiltins x) (n4 : s₁.heap.NoLimit) (g0 : s₁.gens = #[])
    (oa : s₁.heap.get? a = some { cls := .type "list", data := .seq vs.toArray }) (hi : IntsAre vs ns) (hl : ns.length ≤ sizeLine) (hr : Room k callerA)
    (F : ∀ base : Heap, K.In base → base.Ns mainGlobals mg → FnG P w K mg base CX0 k fa fd [x] sp) (bd : ∀ (s : Shared) (u : Value), BindsTo s fd ⟨[u], []⟩ [(x, u)])
    (hsp : ∀ H : Hp, Only H → SqL K H a (ns.map V.int) → sp [.ref a] H (fun v _ => v = .bl true) fun _ _ _ => False) :
    codeAny (model P w) callerA (.call (.ref fa) ⟨[.ref a], []⟩) (Tru s₁) s₁ := by
  have rv := vals_ints hi
  have lv := rv.length
  rw [List.length_map] at lv
  have go := law_core (ns := ns) kx n1 n2 n3 n4 g0 oa hr F bd hsp
  by_cases hk : K.lookup a = none
  · refine go (fun b => if b = a then some (.frz { cls := .type "list", data := .seq vs.toArray } (.lst (ns.map V.int))) else none) ?_ ?_ ?_ ?_ (fun _ => hk)
    · intro b
      by_cases hb : b = a
      · exact Or.inr ⟨_, _, if_pos hb⟩
      · exact Or.inl (if_neg hb)
    · exact .inl (.inr ⟨{ cls := .type "list", data := .seq vs.toArray }, if_pos rfl⟩)
    · intro b u z
      by_cases hb : b = a
      · cases (if_pos hb).symm.trans z
        subst hb
        exact ⟨oa, by rw [List.length_map]; exact hl, vs, _, rv, oa⟩
      · cases (if_neg hb).symm.trans z
    · intro b z
      by_cases hb : b = a
      · exact hb
      · exact absurd (if_neg hb) z
  · obtain ⟨o, hk⟩ := Option.ne_none_iff_exists'.mp hk
    have e := kx a o hk
    rw [oa] at e
    cases e
    refine go (fun _ => none) (fun _ => .inl rfl) ?_ ?_ (fun b z => absurd rfl z) (fun z => absurd rfl z)
    · exact .inr ⟨_, vs.toArray, _, hk, rfl, rfl, rfl, by rw [List.size_toArray, ← lv]; exact hl, by simpa using rv⟩
    · intro b u z
      exact nomatch (show (none : Option HO) = some u from z)
theorem walkG {l : PySem.W.OpenLaw} {n k : Nat} {q : Program} {loose : List Str} {XP : (Str → Option Value) → Heap → Prop} {YP : World → Heap → Prop} {d : DefRec} {K : Params → PySem.W.Frag} {sp : PySem.W.Frag → Sp} {x : Str}
    (hn : l.most = some n) (hn2 : n ≤ sizeLine) (hdf : d.params.defaults = []) (hr : Room k callerA) (hY : ∀ (w : World) (h : Heap), YP w h → (K w.params).In h)
    (F : ∀ (w : World) (mg : Str → Option Value) (fa : Addr) (h : Heap), (K w.params).In h → h.Ns mainGlobals mg → mg d.name = some (.ref fa) →
      ∃ fd : FuncData, (∀ (s : Shared) (u : Value), BindsTo s fd ⟨[u], []⟩ [(x, u)]) ∧ ∀ base : Heap, (K w.params).In base → base.Ns mainGlobals mg → FnG l.prog w (K w.params) mg base CX0 k fa fd [x] (sp (K w.params)))
    (hsp : ∀ (K : PySem.W.Frag) (H : Hp) (a : Addr) (ns : List Int), ns.length ≤ n → Only H → SqL K H a (ns.map V.int) → sp K [.ref a] H (fun v _ => v = .bl true) fun _ _ _ => False) :
    PySem.W.WalkO q loose XP YP l.row.toRowW d [] (fun f vs => PySem.call f vs) := by
  refine Att.attach_call hn hdf ?_
  intro w s₀ s₁ mg mb fa o pm cd doc a vs ns G Y ho hd hcd hmg hobj hints hlen hg
  obtain ⟨fd, hb, hF⟩ := F w mg fa _ (hY w _ Y) G.T.g hmg
  exact law_callG (hY w _ Y) G.T.g G.T.b G.T.builtins G.T.nolimit hg hobj hints (Nat.le_trans hlen hn2) hr hF hb (fun H hO hS => hsp (K w.params) H a ns hlen hO hS)
/-! heaps: what is kept, but for some addresses -/
def cut (l : List Addr) (H : Hp) : Hp := fun b => if b ∈ l then none else H b
def Off (l : List Addr) (H H' : Hp) : Prop := Same (cut l H) (cut l H')
theorem cut_out {l : List Addr} {H : Hp} {b : Addr} (h : b ∉ l) : cut l H b = H b := if_neg h
theorem cut_in {l : List Addr} {H : Hp} {b : Addr} (h : b ∈ l) : cut l H b = none := if_pos h
theorem cut_some {l : List Addr} {H : Hp} {b : Addr} {o : HO} (h : cut l H b = some o) : b ∉ l ∧ H b = some o := by
  by_cases e : b ∈ l
  · rw [cut_in e] at h
    cases h
  · rw [cut_out e] at h
    exact ⟨e, h⟩
theorem same_new {H : Hp} {p : Addr} (h : H p = none) (o : HO) : Same H (upd H p o) := fun b u q => by
  rw [upd_ne (ne_of_none q h)]
  exact q
theorem cut_same (l : List Addr) (H : Hp) : Same (cut l H) H := fun _ _ h => (cut_some h).2
theorem Off.refl (l : List Addr) (H : Hp) : Off l H H := Same.refl _
theorem Off.trans {l : List Addr} {H H1 H2 : Hp} (a : Off l H H1) (b : Off l H1 H2) : Off l H H2 := Same.trans a b
theorem Off.of {l : List Addr} {H H' : Hp} (s : Same H H') : Off l H H' := fun b o h => by
  obtain ⟨n, e⟩ := cut_some h
  rw [cut_out n]
  exact s b o e
theorem Off.get {l : List Addr} {H H' : Hp} (s : Off l H H') {b : Addr} {o : HO} (h : H b = some o) (n : b ∉ l) : H' b = some o := by
  have q := s b o (by rw [cut_out n]; exact h)
  exact (cut_some q).2
theorem Off.mono {l m : List Addr} {H H' : Hp} (s : Off l H H') (h : ∀ b ∈ l, b ∈ m) : Off m H H' := fun b o e => by
  obtain ⟨n, e⟩ := cut_some e
  rw [cut_out n]
  exact s.get e fun z => n (h b z)
/-- a change at an address that is not counted -/
theorem Off.put {l : List Addr} {H : Hp} {p : Addr} {o : HO} (h : p ∈ l) : Off l H (upd H p o) := fun b u e => by
  obtain ⟨n, e⟩ := cut_some e
  rw [cut_out n, upd_ne (fun z => n (by rw [z]; exact h))]
  exact e
/-- an address that was free then -/
theorem Off.free {l : List Addr} {H H' : Hp} (s : Off l H H') {b : Addr} (h : H' b = none) (n : b ∉ l) : H b = none := by
  cases q : H b with
  | none => rfl
  | some o =>
    rw [s.get q n] at h
    cases h
/-! data -/
theorem seqT_up {K : PySem.W.Frag} {H H' : Hp} {a : Addr} {xs : List V} (s : Same H H') (h : SqT K H a xs) : SqT K H' a xs := by
  rcases h with (h | ⟨o, h⟩) | h
  · exact .inl (.inl (s _ _ h))
  · exact .inl (.inr ⟨o, s _ _ h⟩)
  · exact .inr h
mutual
theorem Dp.up {K : PySem.W.Frag} {H H' : Hp} (s : Same H H') : ∀ (d : PyData) (v : V), Dp K H v d → Dp K H' v d
  | .none, _, h => by cases h; exact .non
  | .bool b, _, h => by cases h; exact .bl b
  | .int i, _, h => by cases h; exact .int i
  | .str x, _, h => by cases h; exact .str x
  | .list ds, _, h => by
    cases h with
    | lst h1 h2 => exact .lst (s.seq h1) (Dp.ups s ds _ h2)
  | .tuple ds, _, h => by
    cases h with
    | tup h1 h2 => exact .tup (seqT_up s h1) (Dp.ups s ds _ h2)
  | .dict _, _, h => by cases h
theorem Dp.ups {K : PySem.W.Frag} {H H' : Hp} (s : Same H H') : ∀ (ds : List PyData) (vs : List V), DpAll K H vs ds → DpAll K H' vs ds
  | [], _, h => by cases h; exact .nil
  | d :: ds, _, h => by
    cases h with
    | cons h1 h2 => exact .cons (Dp.up s d _ h1) (Dp.ups s ds _ h2)
end
theorem DpAll.len {K : PySem.W.Frag} {H : Hp} : ∀ {vs : List V} {ds : List PyData}, DpAll K H vs ds → vs.length = ds.length
  | _, _, .nil => rfl
  | _, _, .cons _ t => congrArg (· + 1) (DpAll.len t)
theorem DpAll.get {K : PySem.W.Frag} {H : Hp} : ∀ {vs : List V} {ds : List PyData} {i : Nat} {v : V}, DpAll K H vs ds → vs[i]? = some v → ∃ d, ds[i]? = some d ∧ Dp K H v d
  | _, _, _, _, .nil, e => by simp at e
  | _, _, 0, _, .cons h _, e => by simp at e; subst e; exact ⟨_, rfl, h⟩
  | _, _, i + 1, _, .cons _ t, e => by
    obtain ⟨d, a, b⟩ := DpAll.get (i := i) t (by simpa using e)
    exact ⟨d, by simpa using a, b⟩
theorem DpAll.app {K : PySem.W.Frag} {H : Hp} : ∀ {vs ws : List V} {ds es : List PyData}, DpAll K H vs ds → DpAll K H ws es → DpAll K H (vs ++ ws) (ds ++ es)
  | _, _, _, _, .nil, s => s
  | _, _, _, _, .cons r t, s => .cons r (DpAll.app t s)
/-- the name of a thing's type -/
def tyN : PyData → String
  | .none => "NoneType"
  | .bool _ => "bool"
  | .int _ => "int"
  | .str _ => "str"
  | .list _ => "list"
  | .tuple _ => "tuple"
  | .dict _ => "dict"
theorem tyD {K : PySem.W.Frag} {H : Hp} {v : V} {d : PyData} (h : Dp K H v d) : TyX K H v (.type (tyN d)) := by
  cases h with
  | non => exact .base .non
  | bl b => exact .base (.bl b)
  | int i => exact .base (.int i)
  | str x => exact .base (.str x)
  | lst h _ =>
    rcases h with (h | ⟨o, h⟩) | ⟨o, its, n, h, c, _⟩
    · exact .base (.lst h)
    · exact .base (.frz h)
    · exact .kList h c
  | tup h _ =>
    rcases h with (h | ⟨o, h⟩) | ⟨o, its, n, h, c, _⟩
    · exact .base (.tup h)
    · exact .fTuple h
    · exact .kTuple h c
/-- isinstance(x, T) of data -/
def rIsD (K : PySem.W.Frag) : List V → Hp → VK → Prop := fun xs H Q =>
  ∃ v d T b, xs = [v, .ty T] ∧ Dp K H v d ∧ kitB (tyN d) T = some b ∧ Q (.bl b) H
theorem call_isD {X : Cx} : CallR X (.builtin "isinstance") (rIsD X.K) := by
  intro pins s σ H xs us Q I r h
  obtain ⟨v, d, T, b, rfl, hd, hk, q⟩ := h
  exact call_isi pins s σ H _ us Q I r ⟨v, .ty T, _, _, b, rfl, .ty T, tyD hd, kit_ty hk, q⟩
/-! the box that a law draws from -/
def bx (g : Addr) (n s t : Int) : List (Key × V) := [(Sum.inr "great", .ref g), (Sum.inr "now", .int n), (Sum.inr "seed", .int s), (Sum.inr "turn", .int t)]
structure Box (H : Hp) (p g : Addr) : Prop where
  ex : ∃ n s t gs, H p = some (.dK (bx g n s t)) ∧ H g = some (.lst (List.map V.int gs)) ∧ gs.length ≤ 1000
theorem Box.ne {H : Hp} {p g : Addr} (b : Box H p g) : p ≠ g := by
  obtain ⟨n, s, t, gs, h1, h2, _⟩ := b.ex
  exact ne_of h1 h2 (by intro z; cases z)
theorem Box.off {H H' : Hp} {p g : Addr} {l : List Addr} (b : Box H p g) (h : Off l H H') (n1 : p ∉ l) (n2 : g ∉ l) : Box H' p g := by
  obtain ⟨n, s, t, gs, h1, h2, h3⟩ := b.ex
  exact ⟨n, s, t, gs, h.get h1 n1, h.get h2 n2, h3⟩
theorem Box.same {H H' : Hp} {p g : Addr} (b : Box H p g) (h : Same H H') : Box H' p g := by
  obtain ⟨n, s, t, gs, h1, h2, h3⟩ := b.ex
  exact ⟨n, s, t, gs, h _ _ h1, h _ _ h2, h3⟩
theorem kgn : ¬ ((Sum.inr "great" : Key) = (Sum.inr "now" : Key)) := by decide +kernel
theorem kgs : ¬ ((Sum.inr "great" : Key) = (Sum.inr "seed" : Key)) := by decide +kernel
theorem kgt : ¬ ((Sum.inr "great" : Key) = (Sum.inr "turn" : Key)) := by decide +kernel
theorem kns : ¬ ((Sum.inr "now" : Key) = (Sum.inr "seed" : Key)) := by decide +kernel
theorem knt : ¬ ((Sum.inr "now" : Key) = (Sum.inr "turn" : Key)) := by decide +kernel
theorem kst : ¬ ((Sum.inr "seed" : Key) = (Sum.inr "turn" : Key)) := by decide +kernel
theorem knf (a b : Key) (h : ¬ a = b) : ¬ b = a := fun z => h z.symm
section
variable (g : Addr) (n s t : Int)
theorem bx_great : valV (bx g n s t) (Sum.inr "great" : Key) = some (.ref g) := by
  simp [valV, bx]
theorem bx_now : valV (bx g n s t) (Sum.inr "now" : Key) = some (.int n) := by
  simp only [valV, bx, List.find?_cons, decide_eq_false kgn, decide_true, Option.map_some]
theorem bx_seed : valV (bx g n s t) (Sum.inr "seed" : Key) = some (.int s) := by
  simp only [valV, bx, List.find?_cons, decide_eq_false kgs, decide_eq_false kns, decide_true, Option.map_some]
theorem bx_turn : valV (bx g n s t) (Sum.inr "turn" : Key) = some (.int t) := by
  simp only [valV, bx, List.find?_cons, decide_eq_false kgt, decide_eq_false knt, decide_eq_false kst, decide_true, Option.map_some]
theorem put_now (y : Int) : putK (bx g n s t) (Sum.inr "now" : Key) (.int y) = bx g y s t := by
  simp only [putK, bx, List.any_cons, List.map_cons, List.map_nil, decide_true, Bool.true_or, Bool.or_true, if_true, if_neg kgn, if_neg (knf _ _ kns), if_neg (knf _ _ knt)]
theorem put_seed (y : Int) : putK (bx g n s t) (Sum.inr "seed" : Key) (.int y) = bx g n y t := by
  simp only [putK, bx, List.any_cons, List.map_cons, List.map_nil, decide_true, Bool.true_or, Bool.or_true, if_true, if_neg kgs, if_neg kns, if_neg (knf _ _ kst)]
theorem put_turn (y : Int) : putK (bx g n s t) (Sum.inr "turn" : Key) (.int y) = bx g n s y := by
  simp only [putK, bx, List.any_cons, List.map_cons, List.map_nil, decide_true, Bool.true_or, Bool.or_true, if_true, if_neg kgt, if_neg knt, if_neg kst]
theorem mer_box : mergeK [] (bx g n s t) = bx g n s t := by
  simp only [mergeK, bx, List.foldl_cons, List.foldl_nil, putK, List.any_nil, List.any_cons, List.nil_append, List.cons_append, decide_eq_false kgn, decide_eq_false kgs, decide_eq_false kgt, decide_eq_false kns, decide_eq_false knt, decide_eq_false kst, Bool.or_false, if_neg Bool.false_ne_true]
end
/-! data that can be printed: small ints, short texts, few nodes -/
mutual
def gd : PyData → Bool
  | .none => true
  | .bool _ => true
  | .int i => decide (i.natAbs.log2 < 1920)
  | .str x => decide (x.length ≤ 100) && x.cps.toList.all fun c => decide (c < 128)
  | .list ds => gds ds
  | .tuple ds => gds ds
  | .dict _ => false
def gds : List PyData → Bool
  | [] => true
  | d :: ds => gd d && gds ds
end
mutual
def nod : PyData → Nat
  | .list ds => 1 + nods ds
  | .tuple ds => 1 + nods ds
  | .none => 1
  | .bool _ => 1
  | .int _ => 1
  | .str _ => 1
  | .dict _ => 1
def nods : List PyData → Nat
  | [] => 0
  | d :: ds => nod d + nods ds
end
mutual
theorem gd_sh : ∀ d : PyData, gd d = true → d.showable = true ∧ d.hasDict = false
  | .none, _ => ⟨by simp only [PyData.showable], by simp only [PyData.hasDict]⟩
  | .bool _, _ => ⟨by simp only [PyData.showable], by simp only [PyData.hasDict]⟩
  | .int i, h => ⟨by simpa only [PyData.showable, gd] using h, by simp only [PyData.hasDict]⟩
  | .str _, _ => ⟨by simp only [PyData.showable], by simp only [PyData.hasDict]⟩
  | .list ds, h => by
    have q := gds_sh ds (by simpa only [gd] using h)
    exact ⟨by simpa only [PyData.showable] using q.1, by simpa only [PyData.hasDict] using q.2⟩
  | .tuple ds, h => by
    have q := gds_sh ds (by simpa only [gd] using h)
    exact ⟨by simpa only [PyData.showable] using q.1, by simpa only [PyData.hasDict] using q.2⟩
  | .dict _, h => by simp [gd] at h
theorem gds_sh : ∀ ds : List PyData, gds ds = true → PyData.showableAll ds = true ∧ PyData.hasDictAll ds = false
  | [], _ => ⟨by simp only [PyData.showableAll], by simp only [PyData.hasDictAll]⟩
  | d :: ds, h => by
    simp only [gds, Bool.and_eq_true] at h
    have q1 := gd_sh d h.1
    have q2 := gds_sh ds h.2
    exact ⟨by simp only [PyData.showableAll, q1.1, q2.1, Bool.and_self], by simp only [PyData.hasDictAll, q1.2, q2.2, Bool.or_self]⟩
end
mutual
theorem gd_sz : ∀ d : PyData, gd d = true → d.shown.length + 2 ≤ 2000 * nod d
  | .none, _ => by
    simp only [PyData.shown, nod]
    decide +kernel
  | .bool b, _ => by
    simp only [PyData.shown, nod]
    cases b <;> decide +kernel
  | .int i, h => by
    have h1 : i.natAbs.log2 < 1920 := by simpa only [gd, decide_eq_true_eq] using h
    have q := int_text_len_1921 h1
    simp only [PyData.shown, nod]
    show (Str.ofString (toString i)).length + 2 ≤ _
    omega
  | .str x, h => by
    simp only [gd, Bool.and_eq_true, decide_eq_true_eq, List.all_eq_true] at h
    have q := StrLaws.reprText_len x (fun c hc => Nat.lt_of_lt_of_le (h.2 c hc) (by decide))
    simp only [PyData.shown, nod]
    omega
  | .list ds, h => by
    have q := gds_sz ds (by simpa only [gd] using h)
    have q2 := listText_len_le (PyData.shownAll ds)
    simp only [PyData.shown, nod]
    omega
  | .tuple ds, h => by
    have q := gds_sz ds (by simpa only [gd] using h)
    have q2 := tupleText_len_le (PyData.shownAll ds)
    simp only [PyData.shown, nod]
    omega
  | .dict _, h => by simp [gd] at h
theorem gds_sz : ∀ ds : List PyData, gds ds = true → ((PyData.shownAll ds).map (·.length)).sum + 2 * (PyData.shownAll ds).length ≤ 2000 * nods ds
  | [], _ => by simp [PyData.shownAll, nods]
  | d :: ds, h => by
    simp only [gds, Bool.and_eq_true] at h
    have q1 := gd_sz d h.1
    have q2 := gds_sz ds h.2
    simp only [PyData.shownAll, nods, List.map_cons, List.sum_cons, List.length_cons]
    omega
end
theorem prn_of {d : PyData} (h : gd d = true) (hn : nod d ≤ 8000) (hd : d.depth ≤ 60) : Prn d :=
  ⟨(gd_sh d h).1, (gd_sh d h).2, hd, by
    have q := gd_sz d h
    have e : sizeLine = 16777216 := by decide
    omega⟩
theorem gds_app : ∀ ds es : List PyData, gds (ds ++ es) = (gds ds && gds es)
  | [], es => by simp [gds]
  | d :: ds, es => by simp only [List.cons_append, gds, gds_app ds es, Bool.and_assoc]
theorem nods_app : ∀ ds es : List PyData, nods (ds ++ es) = nods ds + nods es
  | [], es => by simp [nods]
  | d :: ds, es => by simp only [List.cons_append, nods, nods_app ds es, Nat.add_assoc]
theorem nod_pos : ∀ d : PyData, 1 ≤ nod d
  | .list _ => by simp only [nod]; omega
  | .tuple _ => by simp only [nod]; omega
  | .none => by simp only [nod]; omega
  | .bool _ => by simp only [nod]; omega
  | .int _ => by simp only [nod]; omega
  | .str _ => by simp only [nod]; omega
  | .dict _ => by simp only [nod]; omega
theorem nods_len : ∀ ds : List PyData, ds.length ≤ nods ds
  | [] => Nat.le_refl _
  | d :: ds => by
    have := nod_pos d
    have := nods_len ds
    simp only [nods, List.length_cons]
    omega
theorem gds_mem : ∀ {ds : List PyData} {d : PyData}, gds ds = true → d ∈ ds → gd d = true
  | _ :: _, _, h, m => by
    simp only [gds, Bool.and_eq_true] at h
    rcases List.mem_cons.mp m with e | e
    · rw [e]
      exact h.1
    · exact gds_mem h.2 e
theorem nods_mem : ∀ {ds : List PyData} {d : PyData}, d ∈ ds → nod d ≤ nods ds
  | _ :: _, _, m => by
    simp only [nods]
    rcases List.mem_cons.mp m with e | e
    · rw [e]
      omega
    · have := nods_mem e
      omega
theorem depth_mem : ∀ {ds : List PyData} {d : PyData}, d ∈ ds → d.depth ≤ PyData.depthAll ds
  | _ :: _, _, m => by
    simp only [PyData.depthAll]
    rcases List.mem_cons.mp m with e | e
    · rw [e]
      omega
    · have := depth_mem e
      omega
theorem depthAll_app : ∀ ds es : List PyData, PyData.depthAll (ds ++ es) = max (PyData.depthAll ds) (PyData.depthAll es)
  | [], es => by simp [PyData.depthAll]
  | d :: ds, es => by simp only [List.cons_append, PyData.depthAll, depthAll_app ds es, Nat.max_assoc]
/-- built-in names that the top leaves as they are -/
structure Bi (mg : Str → Option Value) : Prop where
  ii : mg "isinstance" = none
  len : mg "len" = none
  all : mg "all" = none
  str : mg "str" = none
  tup : mg "tuple" = none
  int : mg "int" = none
  bool : mg "bool" = none
  rng : mg "range" = none
  rep : mg "repr" = none
  abs : mg "abs" = none
/-! names -/
def lowOk (c : Nat) : Bool := decide (97 ≤ c) && decide (c ≤ 122)
def isNm (x : Str) : Bool := decide (1 ≤ x.length) && decide (x.length ≤ 8) && x.cps.toList.all lowOk
mutual
def isVal : PyData → Bool
  | .int _ => true
  | .str x => isNm x
  | .tuple ds => isVals ds
  | .none => false
  | .bool _ => false
  | .list _ => false
  | .dict _ => false
def isVals : List PyData → Bool
  | [] => true
  | d :: ds => isVal d && isVals ds
end
theorem isVals_app : ∀ ds es : List PyData, isVals (ds ++ es) = (isVals ds && isVals es)
  | [], es => by simp [isVals]
  | d :: ds, es => by simp only [List.cons_append, isVals, isVals_app ds es, Bool.and_assoc]
def isTup : PyData → Bool
  | .tuple _ => true
  | _ => false
def nmD : PyData → Bool
  | .str x => isNm x
  | _ => false
def inD : PyData → Bool
  | .int _ => true
  | _ => false
def isStr : PyData → Bool
  | .str _ => true
  | _ => false
def isIntB : PyData → Bool
  | .int _ => true
  | .bool _ => true
  | _ => false
def isBool : PyData → Bool
  | .bool _ => true
  | _ => false
theorem kit_tup : ∀ d : PyData, kitB (tyN d) "tuple" = some (isTup d)
  | .none => (by decide +kernel : kitB "NoneType" "tuple" = some false)
  | .bool _ => (by decide +kernel : kitB "bool" "tuple" = some false)
  | .int _ => (by decide +kernel : kitB "int" "tuple" = some false)
  | .str _ => (by decide +kernel : kitB "str" "tuple" = some false)
  | .list _ => (by decide +kernel : kitB "list" "tuple" = some false)
  | .tuple _ => (by decide +kernel : kitB "tuple" "tuple" = some true)
  | .dict _ => (by decide +kernel : kitB "dict" "tuple" = some false)
theorem kit_str : ∀ d : PyData, kitB (tyN d) "str" = some (isStr d)
  | .none => (by decide +kernel : kitB "NoneType" "str" = some false)
  | .bool _ => (by decide +kernel : kitB "bool" "str" = some false)
  | .int _ => (by decide +kernel : kitB "int" "str" = some false)
  | .str _ => (by decide +kernel : kitB "str" "str" = some true)
  | .list _ => (by decide +kernel : kitB "list" "str" = some false)
  | .tuple _ => (by decide +kernel : kitB "tuple" "str" = some false)
  | .dict _ => (by decide +kernel : kitB "dict" "str" = some false)
theorem kit_int : ∀ d : PyData, kitB (tyN d) "int" = some (isIntB d)
  | .none => (by decide +kernel : kitB "NoneType" "int" = some false)
  | .bool _ => (by decide +kernel : kitB "bool" "int" = some true)
  | .int _ => (by decide +kernel : kitB "int" "int" = some true)
  | .str _ => (by decide +kernel : kitB "str" "int" = some false)
  | .list _ => (by decide +kernel : kitB "list" "int" = some false)
  | .tuple _ => (by decide +kernel : kitB "tuple" "int" = some false)
  | .dict _ => (by decide +kernel : kitB "dict" "int" = some false)
theorem kit_bool : ∀ d : PyData, kitB (tyN d) "bool" = some (isBool d)
  | .none => (by decide +kernel : kitB "NoneType" "bool" = some false)
  | .bool _ => (by decide +kernel : kitB "bool" "bool" = some true)
  | .int _ => (by decide +kernel : kitB "int" "bool" = some false)
  | .str _ => (by decide +kernel : kitB "str" "bool" = some false)
  | .list _ => (by decide +kernel : kitB "list" "bool" = some false)
  | .tuple _ => (by decide +kernel : kitB "tuple" "bool" = some false)
  | .dict _ => (by decide +kernel : kitB "dict" "bool" = some false)
theorem one_lt (c d : Nat) : (([c] : List Nat) < [d]) ↔ c < d := by
  constructor
  · intro h
    cases h with
    | rel h => exact h
    | cons h => cases h
  · intro h
    exact .rel h
theorem cps_a : (("a" : Str)).cps.toList = [97] := by decide +kernel
theorem cps_z : (("z" : Str)).cps.toList = [122] := by decide +kernel
theorem ge_a (c : Nat) : (!decide ((⟨#[c]⟩ : Str).cps.toList < ("a" : Str).cps.toList)) = decide (97 ≤ c) := by
  rw [cps_a]
  by_cases h : 97 ≤ c
  · have : ¬ ((⟨#[c]⟩ : Str).cps.toList < [97]) := fun z => by
      have := (one_lt c 97).mp z
      omega
    rw [decide_eq_false this, decide_eq_true h]
    rfl
  · have : ((⟨#[c]⟩ : Str).cps.toList < [97]) := (one_lt c 97).mpr (by omega)
    rw [decide_eq_true this, decide_eq_false h]
    rfl
theorem le_z (c : Nat) : (!decide (("z" : Str).cps.toList < (⟨#[c]⟩ : Str).cps.toList)) = decide (c ≤ 122) := by
  rw [cps_z]
  by_cases h : c ≤ 122
  · have : ¬ (([122] : List Nat) < (⟨#[c]⟩ : Str).cps.toList) := fun z => by
      have := (one_lt 122 c).mp z
      omega
    rw [decide_eq_false this, decide_eq_true h]
    rfl
  · have : (([122] : List Nat) < (⟨#[c]⟩ : Str).cps.toList) := (one_lt 122 c).mpr (by omega)
    rw [decide_eq_true this, decide_eq_false h]
    rfl
theorem gd_str {x : Str} (h : gd (.str x) = true) : x.length ≤ 100 := by
  simp only [gd, Bool.and_eq_true, decide_eq_true_eq] at h
  exact h.1
theorem len_cps (x : Str) : x.length = x.cps.size := rfl
theorem cps_at {x : Str} {i c : Nat} (h : x.cps[i]? = some c) : x.cps.toList[i]? = some c := by simpa using h
/-- what is found going along a list -/
theorem take_snoc {α β : Type} (f : α → β) {l : List α} {i : Nat} {a : α} (h : l[i]? = some a) : (l.take (i + 1)).map f = (l.take i).map f ++ [f a] := by
  rw [List.take_add_one, h, List.map_append]
  rfl
theorem all_map {α : Type} (f : α → Bool) : ∀ l : List α, (l.map f).all id = l.all f
  | [] => rfl
  | a :: l => by simp only [List.map_cons, List.all_cons, all_map f l, id]
/-! promises of those that only look -/
def spLook (K : PySem.W.Frag) (ok : PyData → Prop) (g : PyData → V) : Sp := fun vs H Q _ => ∃ v d, vs = [v] ∧ Dp K H v d ∧ ok d ∧ ∀ H', Same H H' → Q (g d) H'
theorem DpAll.unapp {K : PySem.W.Frag} {H : Hp} : ∀ {xs ys : List V} {ds : List PyData}, DpAll K H (xs ++ ys) ds → ∃ d1 d2, ds = d1 ++ d2 ∧ DpAll K H xs d1 ∧ DpAll K H ys d2
  | [], _, ds, h => ⟨[], ds, rfl, .nil, h⟩
  | x :: xs, _, _, h => by
    cases h with
    | cons h1 h2 =>
      obtain ⟨d1, d2, e, a, b⟩ := DpAll.unapp (xs := xs) h2
      exact ⟨_ :: d1, d2, by rw [e]; rfl, .cons h1 a, b⟩
theorem DpAll.last {K : PySem.W.Frag} {H : Hp} {xs : List V} {ds : List PyData} (h : DpAll K H xs ds) (hx : xs ≠ []) : ∃ xs' v ds' d, xs = xs' ++ [v] ∧ ds = ds' ++ [d] ∧ DpAll K H xs' ds' ∧ Dp K H v d := by
  have e := (List.dropLast_concat_getLast hx).symm
  rw [e] at h
  obtain ⟨d1, d2, e2, a, b⟩ := DpAll.unapp h
  cases b with
  | cons b1 b2 =>
    cases b2
    exact ⟨_, _, d1, _, e, e2, a, b1⟩
theorem last_at (xs : List V) (v : V) : (xs ++ [v])[(xs ++ [v]).length - 1]? = some v := by simp
theorem drop_last (xs : List V) (v : V) : (xs ++ [v]).dropLast = xs := by simp
theorem tup_of {K : PySem.W.Frag} {H : Hp} {v : V} {d : PyData} (h : Dp K H v d) (ht : isTup d = true) : ∃ a xs ds, v = .ref a ∧ d = .tuple ds ∧ SqT K H a xs ∧ DpAll K H xs ds := by
  cases h with
  | tup h1 h2 => exact ⟨_, _, _, rfl, rfl, h1, h2⟩
  | non => cases ht
  | bl b => cases ht
  | int i => cases ht
  | str x => cases ht
  | lst h1 h2 => cases ht
theorem isVal_no {d : PyData} (h1 : isTup d = false) : isVal d = (inD d || nmD d) := by
  cases d with
  | tuple ds => exact absurd (show true = false from h1) (by decide)
  | str x => simp only [isVal, inD, nmD, Bool.false_or]
  | int i => simp only [isVal, inD, nmD, Bool.true_or]
  | none => simp only [isVal, inD, nmD, Bool.or_self]
  | bool b => simp only [isVal, inD, nmD, Bool.or_self]
  | list b => simp only [isVal, inD, nmD, Bool.or_self]
  | dict b => simp only [isVal, inD, nmD, Bool.or_self]
/-- going along anything: what one turn does is B -/
theorem along {J : It} {n : Nat} {G : Hp → Prop} {Y : Nat → Hp → V → Hp → Prop} (w : Walk J n G Y) {B : (Hp → Prop) → V → Hp → Prop} {H0 : Hp} {Qd : Hp → Prop} (Pv : Nat → Hp → Prop) (h0 : Pv 0 H0) (hG : ∀ i H, i ≤ n → Pv i H → G H)
    (hs : ∀ i x H H', i < n → Pv i H → Y i H x H' → B (Pv (i + 1)) x H') (hd : ∀ H, Pv n H → Qd H) :
    ∃ W : Nat → Nat → Hp → Prop, (∃ m, W 0 m H0) ∧ ∀ i m H, W i m H → (J.stop i H ∧ Qd H) ∨ (J.go i H ∧ ∃ Nx : Hp → Prop, (∀ H', Nx H' → ∃ m', m' < m ∧ W (i + 1) m' H') ∧ ∀ x H', J.yld i H x H' → B Nx x H') := by
  refine ⟨fun i m H => i ≤ n ∧ m + i = n ∧ Pv i H, ⟨n, Nat.zero_le _, rfl, h0⟩, ?_⟩
  rintro i m H ⟨hi, hm, p⟩
  have gg := hG i H hi p
  by_cases lt : i < n
  · refine Or.inr ⟨w.goes i H lt gg, Pv (i + 1), ?_, ?_⟩
    · intro H' p'
      exact ⟨m - 1, by omega, by omega, by omega, p'⟩
    · intro x H' y
      exact hs i x H H' lt p (w.yields i H x H' lt gg y)
  · have e : i = n := by omega
    subst e
    exact Or.inl ⟨w.stops H gg, hd H p⟩
mutual
def dep : PyData → Nat
  | .tuple ds => 1 + deps ds
  | .none => 0
  | .bool _ => 0
  | .int _ => 0
  | .str _ => 0
  | .list _ => 0
  | .dict _ => 0
def deps : List PyData → Nat
  | [] => 0
  | d :: ds => max (dep d) (deps ds)
end
def kids : PyData → List PyData
  | .tuple ds => ds
  | _ => []
theorem deps_app : ∀ ds es : List PyData, deps (ds ++ es) = max (deps ds) (deps es)
  | [], es => by simp [deps]
  | d :: ds, es => by simp only [List.cons_append, deps, deps_app ds es, Nat.max_assoc]
theorem dep_no {d : PyData} (h : isTup d = false) : dep d = 0 := by
  cases d with
  | tuple ds => exact absurd (show true = false from h) (by decide)
  | str x => simp only [dep]
  | int i => simp only [dep]
  | none => simp only [dep]
  | bool b => simp only [dep]
  | list b => simp only [dep]
  | dict b => simp only [dep]
theorem deps_filter : ∀ ds : List PyData, deps (ds.filter isTup) = deps ds
  | [] => rfl
  | d :: ds => by
    cases h : isTup d with
    | true => simp only [List.filter_cons, h, if_true, deps, deps_filter ds]
    | false => simp only [List.filter_cons, h, Bool.false_eq_true, if_false, deps, deps_filter ds, dep_no h, Nat.zero_max]
theorem deps_kids : ∀ ds : List PyData, (∀ d ∈ ds, isTup d = true) → ds ≠ [] → deps ds = 1 + deps (ds.flatMap kids)
  | [], _, h => absurd rfl h
  | d :: ds, h, _ => by
    have hd := h d List.mem_cons_self
    have e1 : dep d = 1 + deps (kids d) := by
      cases d with
      | tuple es => simp only [dep, kids]
      | _ => cases hd
    rw [List.flatMap_cons, deps_app]
    simp only [deps]
    by_cases e : ds = []
    · subst e
      simp only [deps, List.flatMap_nil, e1]
      omega
    · have ih := deps_kids ds (fun x hx => h x (List.mem_cons_of_mem _ hx)) e
      rw [ih, e1]
      omega
theorem nods_kids : ∀ ds : List PyData, nods (ds.flatMap kids) ≤ nods ds
  | [] => Nat.le_refl _
  | d :: ds => by
    rw [List.flatMap_cons, nods_app]
    have ih := nods_kids ds
    have e : nods (kids d) ≤ nod d := by
      cases d <;> simp only [kids, nods, nod] <;> omega
    simp only [nods]
    omega
theorem nods_filter (p : PyData → Bool) : ∀ ds : List PyData, nods (ds.filter p) ≤ nods ds
  | [] => Nat.le_refl _
  | d :: ds => by
    have ih := nods_filter p ds
    have := nod_pos d
    cases h : p d with
    | true =>
      simp only [List.filter_cons, h, if_true, nods]
      omega
    | false =>
      simp only [List.filter_cons, h, Bool.false_eq_true, if_false, nods]
      omega
theorem nods_take (ds : List PyData) (i : Nat) : nods (ds.take i) ≤ nods ds := by
  have e := congrArg nods (List.take_append_drop i ds)
  rw [nods_app] at e
  omega
theorem get_take {α : Type} {l : List α} {i : Nat} {a : α} (h : l[i]? = some a) : l.take (i + 1) = l.take i ++ [a] := by
  rw [List.take_add_one, h]
  rfl
theorem call_isK {X : Cx} {K : PySem.W.Frag} (h : X.K = K) : CallR X (.builtin "isinstance") (rIsD K) := by
  subst h
  exact call_isD
theorem pi_tupK {X : Cx} {K : PySem.W.Frag} {tg l : Expr} {tl : TE} (h : X.K = K) (hl : PE X l tl) : PI X tg l (iTup K tl) := by
  subst h
  exact pi_tup hl
theorem pi_listK {X : Cx} {K : PySem.W.Frag} {tg l : Expr} {tl : TE} (h : X.K = K) (hl : PE X l tl) : PI X tg l (iList K tl) := by
  subst h
  exact pi_list hl
theorem b_ii : bootBuiltins "isinstance" = some (.builtin "isinstance") := by decide +kernel
theorem b_tup : bootBuiltins "tuple" = some (.type "tuple") := by decide +kernel
theorem b_all : bootBuiltins "all" = some (.builtin "all") := by decide +kernel
theorem b_str : bootBuiltins "str" = some (.type "str") := by decide +kernel
theorem b_int : bootBuiltins "int" = some (.type "int") := by decide +kernel
theorem b_bool : bootBuiltins "bool" = some (.type "bool") := by decide +kernel
theorem b_abs : bootBuiltins "abs" = some (.builtin "abs") := by decide +kernel
theorem b_rep : bootBuiltins "repr" = some (.builtin "repr") := by decide +kernel
theorem b_max : bootBuiltins "max" = some (.builtin "max") := by decide +kernel
theorem b_list : bootBuiltins "list" = some (.type "list") := by decide +kernel
/-! short texts of plain signs -/
structure Sm (n : Nat) (x : Str) : Prop where
  le : x.length ≤ n
  lo : ∀ c ∈ x.cps.toList, c < 128
theorem Sm.gd {n : Nat} {x : Str} (h : Sm n x) (hn : n ≤ 100) : Rl.gd (.str x) = true := by
  have h1 := h.le
  have h3 : x.length ≤ 100 := by omega
  have h2 : (x.cps.toList.all fun c => decide (c < 128)) = true := List.all_eq_true.mpr fun c hc => decide_eq_true (h.lo c hc)
  simp only [Rl.gd, decide_eq_true h3, h2, Bool.and_self]
theorem Sm.mono {n m : Nat} {x : Str} (h : Sm n x) (hn : n ≤ m) : Sm m x := ⟨Nat.le_trans h.le hn, h.lo⟩
theorem Sm.fits {n : Nat} {x : Str} (h : Sm n x) (hn : n ≤ 1000) : x.length ≤ sizeLine := Nat.le_trans h.le (Nat.le_of_lt (small1000 hn))
theorem app_cps (x y : Str) : (x ++ y).cps.toList = x.cps.toList ++ y.cps.toList := by
  show (x.cps ++ y.cps).toList = _
  simp
theorem Sm.app {n m : Nat} {x y : Str} (h : Sm n x) (g : Sm m y) : Sm (n + m) (x ++ y) := by
  refine ⟨?_, fun c hc => ?_⟩
  · rw [Str.length_append]
    have := h.le
    have := g.le
    omega
  · rw [app_cps] at hc
    rcases List.mem_append.mp hc with z | z
    · exact h.lo c z
    · exact g.lo c z
theorem Sm.cut {n : Nat} {x : Str} (h : Sm n x) (lo hi : Option Int) : Sm n (cutS x lo hi) := by
  refine ⟨Nat.le_trans (cutS_length x lo hi) h.le, fun c hc => h.lo c ?_⟩
  unfold cutS at hc
  exact List.mem_of_mem_drop (List.mem_of_mem_take (by simpa using hc))
theorem Sm.up {n : Nat} {x : Str} (h : Sm n x) : Sm n (Txt.upper x) := by
  rw [upper_ascii h.lo]
  refine ⟨?_, fun c hc => ?_⟩
  · have := h.le
    show (x.cps.map up1).size ≤ n
    rw [Array.size_map]
    exact this
  · rw [Array.toList_map] at hc
    obtain ⟨b, hb, rfl⟩ := List.mem_map.mp hc
    have := h.lo b hb
    unfold up1
    split <;> omega
theorem Sm.of {x : Str} {n : Nat} (h : (decide (x.length ≤ n) && x.cps.toList.all fun c => decide (c < 128)) = true) : Sm n x := by
  rw [Bool.and_eq_true] at h
  exact ⟨of_decide_eq_true h.1, fun c hc => of_decide_eq_true (List.all_eq_true.mp h.2 c hc)⟩
theorem Sm.join : ∀ (ys : List Str), (∀ y ∈ ys, Sm 1 y) → Sm ys.length (Txt.join "" ys) := by
  intro ys h
  rw [show Txt.join "" ys = Str.join "" ys from StrLaws.glued_eq_join "" ys]
  refine ⟨?_, fun c hc => ?_⟩
  · have q := StrLaws.join_length_le "" ys
    have e0 : (("" : Str)).length = 0 := by decide +kernel
    have s : (ys.map (·.length)).sum ≤ ys.length := by
      clear q
      induction ys with
      | nil => exact Nat.le_refl _
      | cons y r ih =>
        have h1 := (h y List.mem_cons_self).le
        have h2 := ih fun z hz => h z (List.mem_cons_of_mem _ hz)
        simp only [List.map_cons, List.sum_cons, List.length_cons]
        omega
    rw [e0] at q
    exact Nat.le_trans q (by simpa using s)
  · have q := (mem_join "" c ys).mp hc
    rcases q with ⟨t, ht, hc⟩ | ⟨_, hc⟩
    · exact (h t ht).lo c hc
    · have e0 : (("" : Str)).cps.toList = [] := by decide +kernel
      rw [e0] at hc
      cases hc
mutual
theorem gd_lay : ∀ d : PyData, gd d = true → d.canLay0 = true
  | .none, _ => by simp only [PyData.canLay0]
  | .bool _, _ => by simp only [PyData.canLay0]
  | .int _, _ => by simp only [PyData.canLay0]
  | .str x, h => by
    simp only [gd, Bool.and_eq_true, List.all_eq_true, decide_eq_true_eq] at h
    simp only [PyData.canLay0, PyData.strOk, Array.all_eq_true]
    intro i hi
    exact decide_eq_true (Nat.lt_trans (h.2 _ (by simp)) (by decide))
  | .list ds, h => by
    simp only [PyData.canLay0]
    exact gds_lay ds (by simpa only [gd] using h)
  | .tuple ds, h => by
    simp only [PyData.canLay0]
    exact gds_lay ds (by simpa only [gd] using h)
  | .dict _, h => by simp [gd] at h
theorem gds_lay : ∀ ds : List PyData, gds ds = true → PyData.canLayAll0 ds = true
  | [], _ => by simp only [PyData.canLayAll0]
  | d :: ds, h => by
    simp only [gds, Bool.and_eq_true] at h
    simp only [PyData.canLayAll0, gd_lay d h.1, gds_lay ds h.2, Bool.and_self]
end
theorem shaped_of {d : PyData} (h : gd d = true) (hd : d.depth ≤ 64) : SeqAt.shaped d = true := by
  show (d.canLay0 && decide (d.depth ≤ 64)) = true
  rw [gd_lay d h, decide_eq_true hd]
  rfl
theorem Box.notin {H : Hp} {p g a : Addr} (b : Box H p g) (h : H a = none) : a ∉ [p, g] := by
  obtain ⟨n, s, t, gs, h1, h2, _⟩ := b.ex
  intro z
  rcases List.mem_cons.mp z with e | z
  · rw [e, h1] at h
    cases h
  · rcases List.mem_cons.mp z with e | z
    · rw [e, h2] at h
      cases h
    · cases z
/-- all of these are tracked -/
def Tr (l : List Addr) (H : Hp) : Prop := ∀ b ∈ l, H b ≠ none
theorem off_new {l : List Addr} {H H' : Hp} {a : Addr} {o : HO} (h : Off l H H') (n : a ∉ l) (hn : H a = none) : Off l H (upd H' a o) := by
  intro b u e
  obtain ⟨nb, e⟩ := cut_some e
  rw [cut_out nb, upd_ne (ne_of_none e hn)]
  exact h.get e nb
theorem Box.put {H : Hp} {p g a : Addr} {o : HO} (b : Box H p g) (n : a ∉ [p, g]) : Box (upd H a o) p g := by
  obtain ⟨x, s, t, gs, h1, h2, h3⟩ := b.ex
  exact ⟨x, s, t, gs, by rw [upd_ne (fun z => n (by simp [← z]))]; exact h1, by rw [upd_ne (fun z => n (by simp [← z]))]; exact h2, h3⟩
theorem few {n : Nat} (h : n ≤ 1000) : n ≤ sizeLine := Nat.le_of_lt (small1000 h)
theorem cut_new {l : List Addr} {H : Hp} {a : Addr} {o : HO} (h : H a = none) : Same (cut l H) (cut l (upd H a o)) := Off.of (same_new h o)
theorem Tr.go {l m : List Addr} {H H' : Hp} (t : Tr l H) (o : Off m H H') (hm : ∀ b ∈ m, H' b ≠ none) : Tr l H' := fun b hb => by
  by_cases e : b ∈ m
  · exact hm b e
  · intro z
    exact t b hb (o.free z e)
theorem Box.tr {H : Hp} {p g : Addr} (b : Box H p g) : H p ≠ none ∧ H g ≠ none := by
  obtain ⟨x, s, t, gs, h1, h2, _⟩ := b.ex
  constructor
  · rw [h1]
    exact fun z => nomatch z
  · rw [h2]
    exact fun z => nomatch z
theorem ne_mem {l : List Addr} {a b : Addr} (n : a ∉ l) (h : b ∈ l) : b ≠ a := fun e => n (by rw [← e]; exact h)
theorem few2 {n : Nat} (h : n ≤ 100000) : n ≤ sizeLine := Nat.le_trans h (by decide)
theorem Tr.out {l : List Addr} {H : Hp} (t : Tr l H) {a : Addr} (h : H a = none) : a ∉ l := fun z => t a z h
theorem Tr.same {l : List Addr} {H H' : Hp} (t : Tr l H) (s : Same H H') : Tr l H' := fun b hb z => by
  cases q : H b with
  | none => exact t b hb q
  | some o =>
    rw [s b o q] at z
    cases z
theorem seqT_cut {K : PySem.W.Frag} {l : List Addr} {H : Hp} {a : Addr} {xs : List V} (h : SqT K (cut l H) a xs) : SqT K H a xs := seqT_up (cut_same l H) h
theorem cutV_all (xs : List V) (lo hi : Option Int) (h : HT.sIx xs.length 0 lo = 0 ∧ HT.sIx xs.length xs.length hi = xs.length) : cutV xs lo hi = xs := by
  unfold cutV
  rw [h.1, h.2]
  simp
/-- t + u, what comes of it, apart from the addresses l -/
def rCatU (K : PySem.W.Frag) : R2 := fun x y H Q => ∃ a b xs ys l, x = .ref a ∧ y = .ref b ∧ SqT K (cut l H) a xs ∧ SqT K (cut l H) b ys ∧ Tr l H ∧ xs.length + ys.length ≤ sizeLine ∧
  ∀ c H', Same H H' → SqT K (cut l H') c (xs ++ ys) → Q (.ref c) H'
theorem op_catU {X : Cx} : OpR X (binaryOp .Add) (rCatU X.K) := by
  intro pins s σ H x y v u Q I rx ry h
  obtain ⟨a, b, xs, ys, l, rfl, rfl, ha, hb, tl, hz, q⟩ := h
  refine op_catA pins s σ H _ _ v u Q I rx ry ⟨a, b, xs, ys, rfl, rfl, seqT_cut ha, seqT_cut hb, hz, ?_, ?_, ?_⟩
  · intro e
    exact q b H (Same.refl H) (by rw [e]; exact hb)
  · intro _ e
    exact q a H (Same.refl H) (by rw [e, List.append_nil]; exact ha)
  · intro _ _ c hc
    exact q c _ (same_new hc _) (.inl (.inl (by rw [cut_out (tl.out hc)]; exact upd_same)))
def rSlU (K : PySem.W.Frag) : V → Option Int → Option Int → Hp → VK → Prop := fun x lo hi H Q => ∃ a xs l, x = .ref a ∧ SqT K (cut l H) a xs ∧ Tr l H ∧
  ∀ c H', Same H H' → SqT K (cut l H') c (cutV xs lo hi) → Q (.ref c) H'
theorem sl_tupU {X : Cx} : SlR X (rSlU X.K) := by
  intro pins s σ H x v vl vu lo hi sl Q I rx hs pl pu h
  obtain ⟨a, xs, l, rfl, ha, tl, q⟩ := h
  refine sl_tupA pins s σ H _ v vl vu lo hi sl Q I rx hs pl pu ⟨a, xs, rfl, seqT_cut ha, ?_, ?_⟩
  · intro e
    exact q a H (Same.refl H) (by rw [cutV_all xs lo hi e]; exact ha)
  · intro _ c hc
    exact q c _ (same_new hc _) (.inl (.inl (by rw [cut_out (tl.out hc)]; exact upd_same)))
theorem cutV_take (xs : List V) {r : Int} (h0 : 0 ≤ r) (h : r ≤ (xs.length : Int)) : cutV xs none (some r) = xs.take r.toNat := by
  obtain ⟨n, rfl⟩ := Int.eq_ofNat_of_zero_le h0
  unfold cutV
  rw [HT.sIx_none, HT.sIx_nat]
  have : min n xs.length = n := by omega
  rw [this]
  rfl
theorem cutV_drop (xs : List V) {r : Int} (h0 : 0 ≤ r) (h : r ≤ (xs.length : Int)) : cutV xs (some r) none = xs.drop r.toNat := by
  obtain ⟨n, rfl⟩ := Int.eq_ofNat_of_zero_le h0
  unfold cutV
  rw [HT.sIx_none, HT.sIx_nat]
  have : min n xs.length = n := by omega
  rw [this]
  exact List.take_of_length_le (by rw [List.length_drop]; exact Nat.le_refl _)
/-! list(zip(t, u)) of two tuples: new pairs in a new list -/
section
variable {prog : Program} {w : World} {A : Around} {E : Value → Shared → Prop} {s : Shared}
/-- the next pair, while the one handed out before is still there -/
theorem held_item {z TI TO T i1 i2 l1 l2 : Addr} {f : Bool} {oT : Obj} {k1 k2 : Nat} {xs ys : Array Value} {x y : Value} {Q : Option Value → Shared → Prop} (D : ZipApart z TI TO i1 i2 l1 l2) (hz : IsZipHeld s.heap z TI TO T f)
    (hT : s.heap.get? T = some oT) (pI : IsPair s.heap TI (.ref i1) (.ref i2)) (t1 : s.heap.IsTupleIter i1 l1 k1) (t2 : s.heap.IsTupleIter i2 l2 k2) (u1 : s.heap.IsTuple l1 xs) (u2 : s.heap.IsTuple l2 ys) (hx : xs[k1]? = some x) (hy : ys[k2]? = some y)
    (q : ∀ h', IsZipHeld h' z TI TO T true → h'.IsTupleIter i1 l1 (k1 + 1) → h'.IsTupleIter i2 l2 (k2 + 1) → IsPair h' s.heap.objs.size x y → h'.objs.size = s.heap.objs.size + 1 → (∀ c o, c ≠ z → c ≠ i1 → c ≠ i2 → s.heap.get? c = some o → h'.get? c = some o) →
      Q (some (.ref s.heap.objs.size)) { s with heap := h' }) : wpAny (model prog w) A (pyNext (.ref z)) Q E s := by
  have ty : s.TypeIs (.ref z) "zip" := ⟨_, hz, rfl⟩
  unfold pyNext
  refine wpAny_bind (wpAny_attempt (wpAny_callSpecial?_slot (name := Str.ofString "__next__") ty F.slot_zip_next (wpAny_call_entry F.slot_zip_next ty F.entry_zip_next ?_ (F.args_zip_next_1 _))))
  show wpAny _ _ (field (.ref z) 2 >>= _) _ _ s
  refine wpAny_bind (wpAny_field hz rfl (x := .bool false) rfl ?_); show wpAny _ _ (field (.ref z) 3 >>= _) _ _ s
  refine wpAny_bind (wpAny_field hz rfl (x := .ref TI) rfl ?_); refine wpAny_bind (wpAny_seqItems pI rfl ?_); show wpAny _ _ (Builtin.SmallTypes.ownedTupleIsFree (.ref z) >>= _) _ _ s
  refine wpAny_bind (wpAny_tupleHeld_zip hz hT fun ha za sa => ?_); simp only [Bool.false_eq_true, if_false]
  refine wpAny_bind ?_; rw [← Array.forIn_toList]; simp only [List.forIn_cons, List.forIn_nil]
  refine wpAny_bind (wpAny_bind (wpAny_holding ?_)); show wpAny _ _ (Builtin.SmallTypes.nextOf (.ref i1) >>= _) _ _ _
  refine wpAny_bind (RZ.nextOf_tuple_item (s := { s with heap := ha }) (t1.extBut sa.extBut D.i1z) (u1.extBut sa.extBut D.l1z) hx fun hb tb sb => wpAny_pure ?_)
  refine wpAny_pure ?_; refine wpAny_bind (wpAny_bind (wpAny_holding ?_)); show wpAny _ _ (Builtin.SmallTypes.nextOf (.ref i2) >>= _) _ _ _
  refine wpAny_bind (RZ.nextOf_tuple_item (s := { s with heap := hb }) ((t2.extBut sa.extBut D.i2z).extBut sb.extBut D.i12.symm) ((u2.extBut sa.extBut D.l2z).extBut sb.extBut D.l2i1) hy fun hc tc sc => wpAny_pure ?_)
  refine wpAny_pure (wpAny_pure ?_); show wpAny _ _ (newTuple [x, y] >>= _) _ _ _
  refine wpAny_bind (wpAny_newTuple ?_)
  have hsz : hc.objs.size = s.heap.objs.size := by rw [sc.1, sb.1, sa.1]
  have zc : IsZipHeld hc z TI TO T true := sc.extBut _ _ D.i2z.symm (sb.extBut _ _ D.i1z.symm za)
  have hk : ∀ c o, c ≠ z → c ≠ i1 → c ≠ i2 → s.heap.get? c = some o → hc.get? c = some o := fun c o n1 n2 n3 e => sc.extBut _ _ n3 (sb.extBut _ _ n2 (sa.extBut _ _ n1 e))
  have r1 : hc.IsTupleIter i1 l1 (k1 + 1) := tb.extBut sc.extBut D.i12
  have hp : IsPair (hc.push { cls := .type "tuple", data := .seq #[x, y] }) hc.objs.size x y := Heap.get?_push_size _ rfl
  have hw : (hc.push { cls := .type "tuple", data := .seq #[x, y] }).objs.size = hc.objs.size + 1 := Heap.size_push ..
  refine wpAny_pure ⟨_, rfl, wpAny_pure ?_⟩
  show Q (some (.ref hc.objs.size)) _
  rw [hsz] at hp hw ⊢
  exact q _ (Heap.get?_push_of_some _ zc) (r1.at fun o e => Heap.get?_push_of_some _ e) (tc.at fun o e => Heap.get?_push_of_some _ e) hp hw fun c o n1 n2 n3 e => Heap.get?_push_of_some _ (hk c o n1 n2 n3 e)
theorem held_end {z TI TO T i1 i2 l1 l2 : Addr} {f : Bool} {oT : Obj} {k1 k2 : Nat} {xs ys : Array Value} {Q : Option Value → Shared → Prop} (hh : A.handled = none) (D : ZipApart z TI TO i1 i2 l1 l2) (hz : IsZipHeld s.heap z TI TO T f)
    (hT : s.heap.get? T = some oT) (pI : IsPair s.heap TI (.ref i1) (.ref i2)) (t1 : s.heap.IsTupleIter i1 l1 k1) (t2 : s.heap.IsTupleIter i2 l2 k2) (u1 : s.heap.IsTuple l1 xs) (u2 : s.heap.IsTuple l2 ys) (he : xs[k1]? = none ∨ ys[k2]? = none)
    (q : ∀ h', (∀ c o, c ≠ z → c ≠ i1 → c ≠ i2 → s.heap.get? c = some o → h'.get? c = some o) → Q none { s with heap := h' }) : wpAny (model prog w) A (pyNext (.ref z)) Q E s := by
  have ty : s.TypeIs (.ref z) "zip" := ⟨_, hz, rfl⟩
  have fin : ∀ h' e, (∀ c o, c ≠ z → c ≠ i1 → c ≠ i2 → s.heap.get? c = some o → h'.get? c = some o) → (∃ o, h'.get? e = some o ∧ o.cls = .type "StopIteration") →
      wpAny (model prog w) A (do if ← isInstance (.ref e) (.type "StopIteration") then pure none else throw (.ref e)) Q E { s with heap := h' } := fun h' e hk ⟨o, ho, hc⟩ =>
    wpAny_bind (wpAny_isInstance (T := "StopIteration") (b := true) ⟨o, ho, hc⟩ isSubtype_stop (wpAny_pure (q _ hk)))
  unfold pyNext
  refine wpAny_bind (wpAny_attempt (wpAny_callSpecial?_slot (name := Str.ofString "__next__") ty F.slot_zip_next (wpAny_call_entry F.slot_zip_next ty F.entry_zip_next ?_ (F.args_zip_next_1 _))))
  show wpAny _ _ (field (.ref z) 2 >>= _) _ _ s
  refine wpAny_bind (wpAny_field hz rfl (x := .bool false) rfl ?_); show wpAny _ _ (field (.ref z) 3 >>= _) _ _ s
  refine wpAny_bind (wpAny_field hz rfl (x := .ref TI) rfl ?_); refine wpAny_bind (wpAny_seqItems pI rfl ?_); show wpAny _ _ (Builtin.SmallTypes.ownedTupleIsFree (.ref z) >>= _) _ _ s
  refine wpAny_bind (wpAny_tupleHeld_zip hz hT fun ha za sa => ?_); simp only [Bool.false_eq_true, if_false]
  refine wpAny_bind ?_; rw [← Array.forIn_toList]; simp only [List.forIn_cons, List.forIn_nil]
  refine wpAny_bind (wpAny_bind (wpAny_holding ?_)); show wpAny _ _ (Builtin.SmallTypes.nextOf (.ref i1) >>= _) _ _ _
  cases hx : xs[k1]? with
  | none =>
    refine wpAny_bind (RZ.nextOf_tuple_end (s := { s with heap := ha }) hh (t1.extBut sa.extBut D.i1z) (u1.extBut sa.extBut D.l1z) hx fun hb e sb ie => ?_)
    exact fin hb e (fun c o n1 n2 _ x => sb _ _ n2 (sa.extBut _ _ n1 x)) ie
  | some x =>
    have hy : ys[k2]? = none := by
      rcases he with h | h
      · rw [hx] at h
        cases h
      · exact h
    refine wpAny_bind (RZ.nextOf_tuple_item (s := { s with heap := ha }) (t1.extBut sa.extBut D.i1z) (u1.extBut sa.extBut D.l1z) hx fun hb tb sb => wpAny_pure ?_)
    refine wpAny_pure ?_; refine wpAny_bind (wpAny_bind (wpAny_holding ?_)); show wpAny _ _ (Builtin.SmallTypes.nextOf (.ref i2) >>= _) _ _ _
    refine wpAny_bind (RZ.nextOf_tuple_end (s := { s with heap := hb }) hh ((t2.extBut sa.extBut D.i2z).extBut sb.extBut D.i12.symm) ((u2.extBut sa.extBut D.l2z).extBut sb.extBut D.l2i1) hy fun hc e sc ie => ?_)
    exact fin hc e (fun c o n1 n2 n3 x => sc _ _ n3 (sb.extBut _ _ n2 (sa.extBut _ _ n1 x))) ie
end
/-- how far a zip of two tuples has come -/
def ZSt (h : Heap) (z TI TO i1 i2 l1 l2 S : Addr) (i : Nat) : Prop := IsPair h TI (.ref i1) (.ref i2) ∧ h.IsTupleIter i1 l1 i ∧ h.IsTupleIter i2 l2 i ∧
  ((IsZip h z TI TO .none ∧ ∃ a b, IsPair h TO a b) ∨ ∃ T f oT, IsZipHeld h z TI TO T f ∧ h.get? T = some oT ∧ T ≠ z ∧ T ≠ i1 ∧ T ≠ i2 ∧ T ≠ S)
theorem ZSt.type {s : Shared} {z TI TO i1 i2 l1 l2 S : Addr} {i : Nat} (h : ZSt s.heap z TI TO i1 i2 l1 l2 S i) : s.TypeIs (.ref z) "zip" := by
  obtain ⟨_, _, _, ⟨hz, _⟩ | ⟨T, f, oT, hz, _⟩⟩ := h
  · exact ⟨_, hz, rfl⟩
  · exact ⟨_, hz, rfl⟩
/-- nothing but S is another -/
theorem ZSt.keep {h h' : Heap} {z TI TO i1 i2 l1 l2 S : Addr} {i : Nat} (st : ZSt h z TI TO i1 i2 l1 l2 S i) (n : S ∉ [z, TI, TO, i1, i2]) (k : ∀ b o, b ≠ S → h.get? b = some o → h'.get? b = some o) : ZSt h' z TI TO i1 i2 l1 l2 S i := by
  obtain ⟨p, t1, t2, c⟩ := st
  simp only [List.mem_cons, List.not_mem_nil, or_false, not_or] at n
  obtain ⟨n1, n2, n3, n4, n5⟩ := n
  refine ⟨k _ _ (Ne.symm n2) p, t1.at fun o e => k _ o (Ne.symm n4) e, t2.at fun o e => k _ o (Ne.symm n5) e, ?_⟩
  rcases c with ⟨hz, a, b, hb⟩ | ⟨T, f, oT, hz, hT, r1, r2, r3, r4⟩
  · exact .inl ⟨k _ _ (Ne.symm n1) hz, a, b, k _ _ (Ne.symm n3) hb⟩
  · exact .inr ⟨T, f, oT, k _ _ (Ne.symm n1) hz, k _ _ r4 hT, r1, r2, r3, r4⟩
section
variable {prog : Program} {w : World} {A : Around} {E : Value → Shared → Prop} {s : Shared}
theorem zst_item {z TI TO i1 i2 l1 l2 S : Addr} {i : Nat} {xs ys : Array Value} {x y : Value} {Q : Option Value → Shared → Prop} (D : ZipApart z TI TO i1 i2 l1 l2) (st : ZSt s.heap z TI TO i1 i2 l1 l2 S i) (hS : S < s.heap.objs.size)
    (u1 : s.heap.IsTuple l1 xs) (u2 : s.heap.IsTuple l2 ys) (hx : xs[i]? = some x) (hy : ys[i]? = some y)
    (q : ∀ h', ZSt h' z TI TO i1 i2 l1 l2 S (i + 1) → IsPair h' s.heap.objs.size x y → h'.objs.size = s.heap.objs.size + 1 → (∀ c o, c ∉ [z, TO, i1, i2] → s.heap.get? c = some o → h'.get? c = some o) → Q (some (.ref s.heap.objs.size)) { s with heap := h' }) :
    wpAny (model prog w) A (pyNext (.ref z)) Q E s := by
  obtain ⟨p, t1, t2, c⟩ := st
  have lt : ∀ {c : Addr} {o : Obj}, s.heap.get? c = some o → s.heap.objs.size ≠ c := fun e => Nat.ne_of_gt (Heap.lt_size e)
  have m1 : s.heap.objs.size ≠ i1 := let ⟨_, e, _⟩ := t1; lt e
  have m2 : s.heap.objs.size ≠ i2 := let ⟨_, e, _⟩ := t2; lt e
  rcases c with ⟨hz, a, b, hb⟩ | ⟨T, f, oT, hz, hT, r1, r2, r3, r4⟩
  · refine RZ.pyNext_zipT_item D hz p hb t1 t2 u1 u2 hx hy fun h' a1 a2 a3 a4 a5 a6 hk => ?_
    refine q h' ⟨hk _ _ D.TIz D.TITO D.TIi1 D.TIi2 p, a3, a4, .inr ⟨s.heap.objs.size, false, _, a1, a5, lt hz, m1, m2, Nat.ne_of_gt hS⟩⟩ a5 a6 fun c o n e => ?_
    simp only [List.mem_cons, List.not_mem_nil, or_false, not_or] at n
    exact hk c o n.1 n.2.1 n.2.2.1 n.2.2.2 e
  · refine held_item D hz hT p t1 t2 u1 u2 hx hy fun h' a1 a3 a4 a5 a6 hk => ?_
    refine q h' ⟨hk _ _ D.TIz D.TIi1 D.TIi2 p, a3, a4, .inr ⟨T, true, oT, a1, hk _ _ r1 r2 r3 hT, r1, r2, r3, r4⟩⟩ a5 a6 fun c o n e => ?_
    simp only [List.mem_cons, List.not_mem_nil, or_false, not_or] at n
    exact hk c o n.1 n.2.2.1 n.2.2.2 e
theorem zst_end {z TI TO i1 i2 l1 l2 S : Addr} {i : Nat} {xs ys : Array Value} {Q : Option Value → Shared → Prop} (hh : A.handled = none) (D : ZipApart z TI TO i1 i2 l1 l2) (st : ZSt s.heap z TI TO i1 i2 l1 l2 S i)
    (u1 : s.heap.IsTuple l1 xs) (u2 : s.heap.IsTuple l2 ys) (he : xs[i]? = none ∨ ys[i]? = none) (q : ∀ h', (∀ c o, c ∉ [z, TO, i1, i2] → s.heap.get? c = some o → h'.get? c = some o) → Q none { s with heap := h' }) : wpAny (model prog w) A (pyNext (.ref z)) Q E s := by
  obtain ⟨p, t1, t2, c⟩ := st
  rcases c with ⟨hz, a, b, hb⟩ | ⟨T, f, oT, hz, hT, r1, r2, r3, r4⟩
  · refine RZ.pyNext_zipT_end hh D hz p hb t1 t2 u1 u2 he fun h' hk => q h' fun c o n e => ?_
    simp only [List.mem_cons, List.not_mem_nil, or_false, not_or] at n
    exact hk c o n.1 n.2.1 n.2.2.1 n.2.2.2 e
  · refine held_end hh D hz hT p t1 t2 u1 u2 he fun h' hk => q h' fun c o n e => ?_
    simp only [List.mem_cons, List.not_mem_nil, or_false, not_or] at n
    exact hk c o n.1 n.2.2.1 n.2.2.2 e
end
/-- the pairs laid so far, above lo -/
structure ZG (xs ys : Array Value) (lo : Addr) (h : Heap) (as : List Addr) : Prop where
  rise : as.Pairwise (· < ·)
  above : ∀ a ∈ as, lo < a
  pairs : ∀ (j : Nat) (a : Addr), as[j]? = some a → ∃ x y, xs[j]? = some x ∧ ys[j]? = some y ∧ IsPair h a x y
theorem ZG.there {xs ys : Array Value} {lo : Addr} {h : Heap} {as : List Addr} (g : ZG xs ys lo h as) {a : Addr} (ha : a ∈ as) : a < h.objs.size := by
  obtain ⟨j, hj⟩ := List.mem_iff_getElem?.mp ha
  obtain ⟨x, y, _, _, e⟩ := g.pairs j a hj
  exact Heap.lt_size e
theorem ZG.keep {xs ys : Array Value} {lo : Addr} {h h' : Heap} {as : List Addr} (g : ZG xs ys lo h as) (k : ∀ b o, lo < b → h.get? b = some o → h'.get? b = some o) : ZG xs ys lo h' as :=
  ⟨g.rise, g.above, fun j a hj => let ⟨x, y, e1, e2, e3⟩ := g.pairs j a hj; ⟨x, y, e1, e2, k a _ (g.above a (List.mem_of_getElem? hj)) e3⟩⟩
theorem ZG.snoc {xs ys : Array Value} {lo : Addr} {h h' : Heap} {as : List Addr} {b : Addr} {x y : Value} (g : ZG xs ys lo h as) (k : ∀ b o, lo < b → h.get? b = some o → h'.get? b = some o) (hb : b = h.objs.size) (hl : lo < b)
    (hx : xs[as.length]? = some x) (hy : ys[as.length]? = some y) (hp : IsPair h' b x y) : ZG xs ys lo h' (as ++ [b]) := by
  have g' := g.keep k
  refine ⟨List.pairwise_append.mpr ⟨g.rise, List.pairwise_singleton _ _, fun a ha c hc => ?_⟩, fun a ha => ?_, fun j a hj => ?_⟩
  · rw [List.mem_singleton.mp hc, hb]
    exact g.there ha
  · rcases List.mem_append.mp ha with ha | ha
    · exact g.above a ha
    · rw [List.mem_singleton.mp ha]
      exact hl
  · by_cases lt : j < as.length
    · rw [List.getElem?_append_left lt] at hj
      exact g'.pairs j a hj
    · rw [List.getElem?_append_right (by omega)] at hj
      have e : j - as.length = 0 := by
        by_cases z : j - as.length = 0
        · exact z
        · rw [List.getElem?_eq_none (by simp; omega)] at hj
          cases hj
      rw [e] at hj
      have ej : j = as.length := by omega
      subst ej
      cases hj
      exact ⟨x, y, hx, hy, hp⟩
section
variable {prog : Program} {w : World} {A : Around} {s : Shared} {R : Result → Shared → Prop}
theorem z_loop {S z TI TO i1 i2 l1 l2 lo : Addr} {xs ys : Array Value} {n : Nat} (hh : A.handled = none) (D : ZipApart z TI TO i1 i2 l1 l2) (hn : n = min xs.size ys.size) (hz : n ≤ sizeLine) (aS : S ∉ [z, TI, TO, i1, i2]) (aL : l1 ≠ S ∧ l2 ≠ S)
    (low : ∀ b ∈ [S, z, TO, i1, i2], b ≤ lo) (res : Value) {h₁ : Heap}
    (hR : ∀ h' tk acc c as, (∀ b o, b ∉ [S, z, TO, i1, i2] → h₁.get? b = some o → h'.get? b = some o) → h'.get? S = some { cls := .type "list", dict := none, data := .seq acc c, slots := #[] } → as.length = n → ZG xs ys lo h' as →
      acc.toList = as.map Value.ref → R (.ok (.ret res)) { s with heap := h', toks := tk }) :
    ∀ (k i : Nat) (h : Heap) (tk c : Nat) (acc : Array Value) (as : List Addr), n - i = k → i ≤ n → ZSt h z TI TO i1 i2 l1 l2 S i → h.IsTuple l1 xs → h.IsTuple l2 ys → (∀ b o, b ∉ [S, z, TO, i1, i2] → h₁.get? b = some o → h.get? b = some o) →
      h.get? S = some { cls := .type "list", dict := none, data := .seq acc c, slots := #[] } → acc.toList = as.map Value.ref → as.length = i → ZG xs ys lo h as → lo < h.objs.size →
      codeAny (model prog w) A (.builtin "list.extend.loop" ⟨[.ref S, .ref z, res], []⟩) R { s with heap := h, toks := tk } := by
  have sub : ∀ b, b ∉ [S, z, TO, i1, i2] → b ∉ [z, TO, i1, i2] := fun b hb m => hb (List.mem_cons_of_mem _ m)
  have up2 : ∀ b, lo < b → b ∉ [S, z, TO, i1, i2] := fun b hb m => absurd (low b m) (Nat.not_le_of_lt hb)
  have S4 : S ∉ [z, TO, i1, i2] := fun m => aS (by
    simp only [List.mem_cons, List.not_mem_nil, or_false] at m ⊢
    rcases m with m | m | m | m
    · exact .inl m
    · exact .inr (.inr (.inl m))
    · exact .inr (.inr (.inr (.inl m)))
    · exact .inr (.inr (.inr (.inr m))))
  intro k
  induction k with
  | zero =>
    intro i h tk c acc as hk hi st u1 u2 kp hS ha hl g hs
    refine codeAny_builtin PySem.F.entry_extend_loop ?_; rw [Around.under_plainId PySem.F.plain_extend_loop _]
    show wpAny _ A.in1 (pyNext (.ref z) >>= _) _ _ _
    have e : xs[i]? = none ∨ ys[i]? = none := by
      have : i = min xs.size ys.size := by omega
      rcases Nat.le_total xs.size ys.size with q | q
      · exact .inl (Array.getElem?_eq_none (by omega))
      · exact .inr (Array.getElem?_eq_none (by omega))
    refine wpAny_bind (zst_end (A := A.in1) (s := { s with heap := h, toks := tk }) hh D st u1 u2 e fun h' hk' => ?_)
    exact wpAny_pure (hR h' tk acc c as (fun b o m e => hk' b o (sub b m) (kp b o m e)) (hk' S _ S4 hS) (by omega) (g.keep fun b o lb e => hk' b o (sub b (up2 b lb)) e) ha)
  | succ k ih =>
    intro i h tk c acc as hk hi st u1 u2 kp hS ha hl g hs
    have hx : i < xs.size := by omega
    have hy : i < ys.size := by omega
    have sz : acc.size = i := by rw [← Array.length_toList, ha, List.length_map, hl]
    have lS : S < h.objs.size := Heap.lt_size hS
    refine codeAny_builtin PySem.F.entry_extend_loop ?_; rw [Around.under_plainId PySem.F.plain_extend_loop _]
    show wpAny _ A.in1 (pyNext (.ref z) >>= _) _ _ _
    refine wpAny_bind (zst_item (A := A.in1) (s := { s with heap := h, toks := tk }) D st lS u1 u2 (Array.getElem?_eq_getElem hx) (Array.getElem?_eq_getElem hy) fun h' st' hp sz' hk' => ?_)
    dsimp only at hp sz' hk' ⊢
    have hS' := hk' S _ S4 hS
    have up : ∀ b o, b ≠ S → h'.get? b = some o → (h'.update S (Obj.mapSeq (·.push (Value.ref h.objs.size)))).get? b = some o := fun b o hb e => (Heap.get?_update_other _ _ (Ne.symm hb)).trans e
    have nl : ∀ b o, lo < b → h.get? b = some o → (h'.update S (Obj.mapSeq (·.push (Value.ref h.objs.size)))).get? b = some o := fun b o lb e => up b o (fun z => up2 b lb (by simp [z])) (hk' b o (sub b (up2 b lb)) e)
    have hp' : IsPair (h'.update S (Obj.mapSeq (·.push (Value.ref h.objs.size)))) h.objs.size _ _ := up _ _ (Nat.ne_of_gt lS) hp
    show wpAny _ A.in1 (updateSeq S (·.push (Value.ref h.objs.size)) >>= _) _ _ _
    refine wpAny_bind (wpAny_updateSeq hS' rfl (wpAny_pure ⟨plainId_quiet PySem.F.plain_extend_loop _, ?_⟩) (by rw [sz]; omega) (by show (acc.push (Value.ref h.objs.size)).size ≤ sizeLine + 1; rw [Array.size_push, sz]; omega))
    have tup : ∀ {l : Addr} {vs : Array Value}, l ≠ S → l ∉ [z, TO, i1, i2] → h.IsTuple l vs → (h'.update S (Obj.mapSeq (·.push (Value.ref h.objs.size)))).IsTuple l vs := fun n1 n2 ⟨o, e, r⟩ => ⟨o, up _ o n1 (hk' _ o n2 e), r⟩
    have L1 : l1 ∉ [z, TO, i1, i2] := by
      simp only [List.mem_cons, List.not_mem_nil, or_false, not_or]
      exact ⟨D.l1z, D.l1TO, D.l1i1, D.l1i2⟩
    have L2 : l2 ∉ [z, TO, i1, i2] := by
      simp only [List.mem_cons, List.not_mem_nil, or_false, not_or]
      exact ⟨D.l2z, D.l2TO, D.l2i1, D.l2i2⟩
    refine ih (i + 1) _ tk _ (acc.push (Value.ref h.objs.size)) (as ++ [h.objs.size]) (by omega) (by omega) (st'.keep aS up) (tup aL.1 L1 u1) (tup aL.2 L2 u2) (fun b o m e => up b o (fun z => m (by simp [z])) (hk' b o (sub b m) (kp b o m e)))
      (Heap.get?_update_self _ hS' rfl) (by rw [Array.toList_push, ha, List.map_append]; rfl) (by rw [List.length_append, hl]; rfl) (g.snoc nl rfl hs (by rw [hl]; exact Array.getElem?_eq_getElem hx) (by rw [hl]; exact Array.getElem?_eq_getElem hy) hp') (Nat.lt_trans hs (Heap.lt_size hp'))
end
theorem zip_len0 : typeLookup (.type "zip") "__len__" = pure none := am_miss_of_fast (by decide +kernel)
theorem zip_hint0 : typeLookup (.type "zip") "__length_hint__" = pure none := am_miss_of_fast (by decide +kernel)
section
variable {prog : Program} {w : World} {A : Around} {E : Value → Shared → Prop} {s : Shared}
/-- a zip of two tuples just made -/
structure Z0 (h : Heap) (z TI TO i1 i2 l1 l2 : Addr) (xs ys : Array Value) : Prop where
  iz : IsZip h z TI TO .none
  ti : IsPair h TI (.ref i1) (.ref i2)
  to : ∃ a b, IsPair h TO a b
  t1 : h.IsTupleIter i1 l1 0
  t2 : h.IsTupleIter i2 l2 0
  u1 : h.IsTuple l1 xs
  u2 : h.IsTuple l2 ys
  d : ZipApart z TI TO i1 i2 l1 l2
theorem Z0.keep {h h' : Heap} {z TI TO i1 i2 l1 l2 : Addr} {xs ys : Array Value} (q : Z0 h z TI TO i1 i2 l1 l2 xs ys) (k : ∀ b o, b < h.objs.size → h.get? b = some o → h'.get? b = some o) : Z0 h' z TI TO i1 i2 l1 l2 xs ys := by
  have kk : ∀ b o, h.get? b = some o → h'.get? b = some o := fun b o e => k b o (Heap.lt_size e) e
  obtain ⟨a, b, e⟩ := q.to
  obtain ⟨o1, e1, r1⟩ := q.u1
  obtain ⟨o2, e2, r2⟩ := q.u2
  exact ⟨kk _ _ q.iz, kk _ _ q.ti, ⟨a, b, kk _ _ e⟩, q.t1.at fun o e => kk _ o e, q.t2.at fun o e => kk _ o e, ⟨o1, kk _ _ e1, r1⟩, ⟨o2, kk _ _ e2, r2⟩, q.d⟩
theorem Z0.lt {h : Heap} {z TI TO i1 i2 l1 l2 : Addr} {xs ys : Array Value} (q : Z0 h z TI TO i1 i2 l1 l2 xs ys) : ∀ b ∈ [z, TI, TO, i1, i2, l1, l2], b < h.objs.size := by
  obtain ⟨a, b, e⟩ := q.to
  obtain ⟨o1, e1, r1⟩ := q.u1
  obtain ⟨o2, e2, r2⟩ := q.u2
  obtain ⟨o3, e3, _⟩ := q.t1
  obtain ⟨o4, e4, _⟩ := q.t2
  intro c hc
  simp only [List.mem_cons, List.not_mem_nil, or_false] at hc
  rcases hc with h | h | h | h | h | h | h
  · rw [h]; exact Heap.lt_size q.iz
  · rw [h]; exact Heap.lt_size q.ti
  · rw [h]; exact Heap.lt_size e
  · rw [h]; exact Heap.lt_size e3
  · rw [h]; exact Heap.lt_size e4
  · rw [h]; exact Heap.lt_size e1
  · rw [h]; exact Heap.lt_size e2
theorem z_extend {R : Result → Shared → Prop} {z TI TO i1 i2 l1 l2 S : Addr} {xs ys : Array Value} {n c₀ : Nat} (hh : A.handled = none) (q0 : Z0 s.heap z TI TO i1 i2 l1 l2 xs ys) (hn : n = min xs.size ys.size) (hz : n ≤ sizeLine)
    (aS : ∀ b ∈ [z, TI, TO, i1, i2, l1, l2], b < S) (res : Value) (hS : s.heap.get? S = some { cls := .type "list", data := .seq #[] c₀ })
    (hR : ∀ h' tk acc c as, (∀ b o, b ∉ [S, z, TO, i1, i2] → s.heap.get? b = some o → h'.get? b = some o) → h'.get? S = some { cls := .type "list", dict := none, data := .seq acc c, slots := #[] } → as.length = n → ZG xs ys S h' as →
      acc.toList = as.map Value.ref → R (.ok (.ret res)) { s with heap := h', toks := tk }) :
    wpAny (model prog w) A.in1 (Builtin.List.listExtendWith (.ref S) (.ref z) res) (fun fin s' => match fin with | .done f => R (.ok f) s' | .again c' => c'.quiet = true ∧ codeAny (model prog w) A c' R s') (fun e s' => R (.error e) s') s := by
  have nS : ∀ b ∈ [z, TI, TO, i1, i2, l1, l2], b ≠ S := fun b hb => Nat.ne_of_lt (aS b hb)
  have ty : s.TypeIs (.ref z) "zip" := ⟨_, q0.iz, rfl⟩
  have lS : S < s.heap.objs.size := Heap.lt_size hS
  unfold Builtin.List.listExtendWith
  refine wpAny_bind (wpAny_typeOf ty ?_)
  have e1 : Builtin.List.listSameRef (.ref S) (.ref z) = false := by simp [Builtin.List.listSameRef, Ne.symm (nS z (by simp))]
  have e2 : (Value.type "zip" == Value.type "list") = false := by decide
  have e3 : (Value.type "zip" == Value.type "tuple") = false := by decide
  simp only [e1, e2, e3, Bool.or_false, Bool.false_eq_true, if_false]
  refine wpAny_bind (wpAny_pyIter_zip q0.iz ?_); refine wpAny_bind (wpAny_holding ?_)
  unfold Builtin.List.listLengthHint
  refine wpAny_bind (wpAny_specialOf ty zip_len0 ?_); show wpAny _ A.in1 (specialOf (Value.ref z) (Str.ofString "__length_hint__") >>= _) _ _ s
  refine wpAny_bind (wpAny_specialOf ty zip_hint0 ?_); refine wpAny_pure ?_
  show wpAny _ A.in1 (rule "list.extend.makes-room" >>= fun _ => Builtin.List.listTouch (.ref S) >>= fun _ => again (.builtin "list.extend.loop" ⟨[.ref S, .ref z, res], []⟩)) _ _ s
  refine wpAny_bind (wpAny_rule ?_); refine wpAny_bind ?_
  show wpAny _ A.in1 (updateSeq S (·.push .none) >>= fun _ => updateSeq S (·.pop)) _ _ s
  refine wpAny_bind (wpAny_updateSeq hS rfl ?_)
  have g1 := Heap.get?_update_self (Obj.mapSeq (·.push Value.none)) hS rfl
  refine wpAny_updateSeq (hz := by seq_fits) g1 rfl ?_
  have g2 := Heap.get?_update_self (Obj.mapSeq (·.pop)) g1 rfl
  have oth : ∀ b o, b ≠ S → s.heap.get? b = some o → ((s.heap.update S (Obj.mapSeq (·.push Value.none))).update S (Obj.mapSeq (·.pop))).get? b = some o := fun b o n e => (Heap.get?_update_other _ _ (Ne.symm n)).trans ((Heap.get?_update_other _ _ (Ne.symm n)).trans e)
  obtain ⟨a, b, e⟩ := q0.to
  obtain ⟨o1, x1, r1⟩ := q0.u1
  obtain ⟨o2, x2, r2⟩ := q0.u2
  refine wpAny_pure ⟨plainId_quiet PySem.F.plain_extend_loop _, z_loop (s := s) (h₁ := s.heap) (lo := S) (n := n) hh q0.d hn hz ?_ ⟨nS _ (by simp), nS _ (by simp)⟩ ?_ res hR n 0 _ _ _ #[] [] (Nat.sub_zero _) (Nat.zero_le _)
    ⟨oth _ _ (nS _ (by simp)) q0.ti, q0.t1.at fun o e => oth _ o (nS _ (by simp)) e, q0.t2.at fun o e => oth _ o (nS _ (by simp)) e, .inl ⟨oth _ _ (nS _ (by simp)) q0.iz, a, b, oth _ _ (nS _ (by simp)) e⟩⟩
    ⟨o1, oth _ _ (nS _ (by simp)) x1, r1⟩ ⟨o2, oth _ _ (nS _ (by simp)) x2, r2⟩ (fun b o m e => oth b o (fun z => m (by simp [z])) e) g2 rfl rfl ⟨List.Pairwise.nil, (fun _ ha => nomatch ha), (fun j a hj => by simp at hj)⟩ (Heap.lt_size g2)⟩
  · intro m
    exact Nat.lt_irrefl _ (aS S (by
      simp only [List.mem_cons, List.not_mem_nil, or_false] at m ⊢
      rcases m with m | m | m | m | m
      · exact .inl m
      · exact .inr (.inl m)
      · exact .inr (.inr (.inl m))
      · exact .inr (.inr (.inr (.inl m)))
      · exact .inr (.inr (.inr (.inr (.inl m))))))
  · intro b hb
    simp only [List.mem_cons, List.not_mem_nil, or_false] at hb
    rcases hb with h | h | h | h | h
    · rw [h]; exact Nat.le_refl _
    · rw [h]; exact Nat.le_of_lt (aS _ (by simp))
    · rw [h]; exact Nat.le_of_lt (aS _ (by simp))
    · rw [h]; exact Nat.le_of_lt (aS _ (by simp))
    · rw [h]; exact Nat.le_of_lt (aS _ (by simp))
theorem z_call {Q : Value → Shared → Prop} {z TI TO i1 i2 l1 l2 : Addr} {xs ys : Array Value} {n : Nat} (hh : A.handled = none) (q0 : Z0 s.heap z TI TO i1 i2 l1 l2 xs ys) (hn : n = min xs.size ys.size) (hz : n ≤ sizeLine)
    (q : ∀ h' tk acc c as, (∀ b o, b ∉ [z, TO, i1, i2] → s.heap.get? b = some o → h'.get? b = some o) → h'.get? s.heap.objs.size = some { cls := .type "list", dict := none, data := .seq acc c, slots := #[] } → as.length = n → ZG xs ys s.heap.objs.size h' as →
      acc.toList = as.map Value.ref → Q (.ref s.heap.objs.size) { s with heap := h', toks := tk }) : wpAny (model prog w) A (call (.type "list") [.ref z]) Q E s := by
  refine callType_codes (Q₁ := fun obj s₁ => obj = .ref s.heap.objs.size ∧ s₁ = { s with heap := s.heap.push { cls := .type "list", data := .seq #[] } }) PySem.F.called_list (PySem.F.typeCall_list_1 _) PySem.F.entry_list_init (code_list_new _ ⟨rfl, rfl⟩) fun obj s₁ h₁ => ?_
  obtain ⟨rfl, rfl⟩ := h₁
  have hS : (s.heap.push { cls := .type "list", data := .seq #[] }).get? s.heap.objs.size = some { cls := .type "list", data := .seq #[] } := Heap.get?_push_size _ rfl
  refine ⟨⟨_, hS, rfl⟩, PySem.F.args_list_init_2 _ _, ?_⟩
  show wpAny _ _ (do let old ← Builtin.List.listItems (.ref s.heap.objs.size); Builtin.List.listUpdate (.ref s.heap.objs.size) (fun _ => #[]); letGo old.toList.reverse; Builtin.List.listExtendWith (.ref s.heap.objs.size) (.ref z) .none) _ _ _
  refine wpAny_bind ?_; unfold Builtin.List.listItems; refine wpAny_bind (wpAny_seqItems hS rfl (wpAny_pure ?_))
  show wpAny _ _ (updateSeq s.heap.objs.size (fun _ => #[]) >>= fun _ => letGo (#[] : Array Value).toList.reverse >>= fun _ => Builtin.List.listExtendWith (.ref s.heap.objs.size) (.ref z) .none) _ _ _
  refine wpAny_bind (wpAny_updateSeq hS rfl ?_)
  have g1 := Heap.get?_update_self (Obj.mapSeq (fun _ => (#[] : Array Value))) hS rfl
  have oth : ∀ b o, b ≠ s.heap.objs.size → s.heap.get? b = some o → ((s.heap.push { cls := .type "list", data := .seq #[] }).update s.heap.objs.size (Obj.mapSeq (fun _ => (#[] : Array Value)))).get? b = some o :=
    fun b o n e => (Heap.get?_update_other _ _ (Ne.symm n)).trans (Heap.get?_push_of_some _ e)
  refine wpAny_bind (wpAny_letGo ?_)
  refine z_extend (A := A.in1) hh (q0.keep fun b o lb e => oth b o (Nat.ne_of_lt lb) e) hn hz q0.lt .none g1 fun h' tk acc c as hk hS' hl hG ha => ?_
  refine ⟨rfl, q h' tk acc c as (fun b o m e => hk b o (fun y => ?_) (oth b o (Nat.ne_of_lt (Heap.lt_size e)) e)) hS' hl hG ha⟩
  rcases List.mem_cons.mp y with y | y
  · exact Nat.ne_of_lt (Heap.lt_size e) y
  · exact m y
end
/-- pairs tracked at these addresses -/
def putP : Hp → List Addr → List (V × V) → Hp
  | H, a :: as, p :: ps => putP (upd H a (.tup [p.1, p.2])) as ps
  | H, _, _ => H
theorem putP_off {b : Addr} : ∀ (as : List Addr) (ps : List (V × V)) (H : Hp), b ∉ as → putP H as ps b = H b
  | [], _, _, _ => by unfold putP; rfl
  | _ :: _, [], _, _ => by unfold putP; rfl
  | a :: as, p :: ps, H, h => by
    unfold putP
    rw [putP_off as ps _ fun z => h (List.mem_cons_of_mem _ z), upd_ne fun z => h (by rw [z]; exact List.mem_cons_self)]
theorem putP_at : ∀ (as : List Addr) (ps : List (V × V)) (H : Hp), as.length = ps.length → as.Nodup → ∀ (j : Nat) (a : Addr), as[j]? = some a → ∃ x y, ps[j]? = some (x, y) ∧ putP H as ps a = some (.tup [x, y])
  | [], _, _, _, _, _, _, e => by simp at e
  | _ :: _, [], _, h, _, _, _, _ => by cases h
  | a :: as, p :: ps, H, h, nd, j, b, e => by
    have nd := List.nodup_cons.mp nd
    unfold putP
    cases j with
    | zero =>
      cases e
      exact ⟨p.1, p.2, rfl, by rw [putP_off as ps _ nd.1, upd_same]⟩
    | succ j =>
      exact putP_at as ps _ (Nat.succ.inj h) nd.2 j b e
section
variable {X : Cx} {pins : List (Addr × Obj)} {σ : L2.St} {H : Hp} {s : Shared}
theorem zip_laid {h' : Heap} {tk c : Nat} {xs ys : List V} {its its2 : List Value} {acc : Array Value} {as : List Addr} {S n : Nat} (I : Inv X pins σ H s) (rx : Vals xs its) (ry : Vals ys its2) (hn : n = min xs.length ys.length) (hz : n ≤ sizeLine) (lS : s.heap.objs.size ≤ S)
    (hk : ∀ b o, s.heap.get? b = some o → h'.get? b = some o) (hS : h'.get? S = some { cls := .type "list", dict := none, data := .seq acc c, slots := #[] }) (hl : as.length = n) (g : ZG its.toArray its2.toArray S h' as) (ha : acc.toList = as.map Value.ref) :
    ∃ H' : Hp, Same H H' ∧ H S = none ∧ (∀ t ∈ as, H t = none) ∧ S ∉ as ∧ H' S = some (.lst (as.map V.ref)) ∧ (∀ (j : Nat) (t : Addr), as[j]? = some t → ∃ x y, xs[j]? = some x ∧ ys[j]? = some y ∧ H' t = some (.tup [x, y])) ∧ Inv X pins σ H' { s with heap := h', toks := tk } := by
  have nS : S ∉ as := fun z => Nat.lt_irrefl _ (g.above _ z)
  have nd : as.Nodup := List.Pairwise.imp (fun {a b} (h : a < b) => Nat.ne_of_lt h) g.rise
  have new : ∀ t ∈ as, H t = none := fun t ht => I.hok.fresh (Nat.le_trans lS (Nat.le_of_lt (g.above t ht)))
  have newS : H S = none := I.hok.fresh lS
  have lz : as.length = (xs.zip ys).length := by rw [List.length_zip, hl, hn]
  generalize hH : putP (upd H S (.lst (as.map V.ref))) as (xs.zip ys) = H'
  have atP : ∀ (j : Nat) (t : Addr), as[j]? = some t → ∃ x y, xs[j]? = some x ∧ ys[j]? = some y ∧ H' t = some (.tup [x, y]) := fun j t e => by
    obtain ⟨x, y, e1, e2⟩ := putP_at as (xs.zip ys) (upd H S (.lst (as.map V.ref))) lz nd j t e
    rw [hH] at e2
    have q := List.getElem?_zip_eq_some.mp e1
    exact ⟨x, y, q.1, q.2, e2⟩
  have off : ∀ b, b ∉ as → b ≠ S → H' b = H b := fun b h1 h2 => by rw [← hH, putP_off as _ _ h1, upd_ne h2]
  have lo : ∀ b o, s.heap.get? b = some o → b ∉ as ∧ b ≠ S := fun b o e => ⟨fun z => absurd (Nat.lt_of_lt_of_le (Heap.lt_size e) (Nat.le_trans lS (Nat.le_of_lt (g.above b z)))) (Nat.lt_irrefl _), Nat.ne_of_lt (Nat.lt_of_lt_of_le (Heap.lt_size e) lS)⟩
  have kp : Same H H' := fun b u e => by
    rw [off b (fun z => by rw [new b z] at e; cases e) (fun z => by rw [z, newS] at e; cases e)]
    exact e
  have eS : H' S = some (.lst (as.map V.ref)) := by rw [← hH, putP_off as _ _ nS, upd_same]
  refine ⟨H', kp, newS, new, nS, eS, atP, ?_⟩
  refine I.call' (ch := []) rfl ⟨fun b o e _ _ _ => hk b o e, fun b o e _ _ _ => ⟨o.slots, hk b o e⟩, fun b o e m _ => ?_, fun b o e _ => ⟨o, hk b o e⟩, fun b vs e => kp b _ e, fun b o u e => kp b _ e, fun b ps e => ⟨#[], by rw [kp b _ e]; simp⟩⟩ (fun b u e => ?_) I.bare fun b z => by simp at z
  · obtain ⟨z1, z2⟩ := lo b o e
    rw [off b z1 z2]
    exact m
  · by_cases hb : b ∈ as
    · obtain ⟨j, ej⟩ := List.mem_iff_getElem?.mp hb
      obtain ⟨x, y, ex, ey, et⟩ := atP j b ej
      rw [et] at e
      cases e
      obtain ⟨u, v, eu, ev, hp⟩ := g.pairs j b ej
      obtain ⟨u', eu', ru⟩ := rx.get ex
      obtain ⟨v', ev', rv⟩ := ry.get ey
      have a1 : u' = u := by
        have eu : its[j]? = some u := by simpa using eu
        rw [eu] at eu'
        exact (Option.some.inj eu').symm
      have a2 : v' = v := by
        have ev : its2[j]? = some v := by simpa using ev
        rw [ev] at ev'
        exact (Option.some.inj ev').symm
      subst a1
      subst a2
      exact ⟨by show 2 ≤ sizeLine; decide, [u', v'], .cons ru (.cons rv .nil), ⟨_, hp, rfl, _, rfl⟩⟩
    · by_cases hb2 : b = S
      · rw [hb2] at e ⊢
        rw [eS] at e
        cases e
        refine ⟨by rw [List.length_map]; omega, acc.toList, c, by rw [ha]; exact LiI.vals_refs as, ?_⟩
        rw [Array.toArray_toList]
        exact hS
      · rw [off b hb hb2] at e
        exact (I.hok b u e).stay (fun d v _ y => hk d v y) (fun d y => kp d _ y) fun d vs y => kp d _ y
end
/-- list(zip(t, u)) of two tuples -/
def tListZip (K : PySem.W.Frag) (ta : TA) : TE := fun σ H Q => ta σ H fun vs H1 => ∃ a b xs ys, vs = [.ref a, .ref b] ∧ SqT K H1 a xs ∧ SqT K H1 b ys ∧
  ∀ (p : Addr) (ts : List Addr) (H' : Hp), Same H1 H' → H1 p = none → (∀ t ∈ ts, H1 t = none) → p ∉ ts → H' p = some (.lst (ts.map V.ref)) → ts.length = min xs.length ys.length → (∀ (j : Nat) (t : Addr), ts[j]? = some t → ∃ x y, xs[j]? = some x ∧ ys[j]? = some y ∧ H' t = some (.tup [x, y])) → Q (.ref p) H'
section
variable {X : Cx} {e e2 : Expr} {ta : TA} {p p2 zpos pos : Pos}
theorem pe_listZip (hc : X.calm = true) (ha : PA X [e, e2] ta) (hg : Gl X "list") (hm : X.mg "list" = none) (hgz : Gl X "zip") (hmz : X.mg "zip" = none)
    (hs : starEach [.Call (.Name "zip" p2) [e, e2] [] zpos] X.env = (false, eval (.Call (.Name "zip" p2) [e, e2] [] zpos) X.env) :: starEach [] X.env := by rfl)
    (hs2 : starEach [e, e2] X.env = (false, eval e X.env) :: starEach [e2] X.env := by rfl) (hpl : (backTo zpos (starEach [e2] X.env)).any (·.1) = false := by rfl) :
    PE X (.Call (.Name "list" p) [.Call (.Name "zip" p2) [e, e2] [] zpos] [] pos) (tListZip X.K ta) := by
  refine ⟨fun pins s σ H Q I hq => ?_⟩
  refine wpAny_Call_Name_kw (ld_blt I hg hm b_list ?_); refine PyProof.Rows.callWith_type1 ?_ hs rfl
  rw [hs]
  show wpAny _ _ (spliced ((false, eval (.Call (.Name "zip" p2) [e, e2] [] zpos) X.env) :: backTo pos (starEach [] X.env))) _ _ s
  refine Calls.spliced_cons ?_
  refine Call_ (ld_blt I hgz hmz PyProof.Rows.boot_zip (PyProof.Rows.callWith_type1 (thn (ha.run zpos pins s σ H _ I hq) fun us s1 ⟨vs, H1, I1, r1, q1⟩ => ?_) hs2 hpl))
  obtain ⟨a, b, xs, ys, ex, hx, hy, q⟩ := q1
  subst ex
  obtain ⟨u, u2, rfl, ru, ru2⟩ := vals2 r1
  cases ru
  cases ru2
  obtain ⟨its, rx, px, bx⟩ := I1.tuple hx
  obtain ⟨its2, ry, py, bY⟩ := I1.tuple hy
  obtain ⟨o1, e1, r1'⟩ := id px
  obtain ⟨o2, e2', r2'⟩ := id py
  have lx := rx.length
  have ly := ry.length
  refine RZ.call_zipT (show s1.heap.IsTuple a its.toArray from px) (show s1.heap.IsTuple b its2.toArray from py) fun h' hz hTI hTO h1 h2 hsz hk => ?_
  refine Calls.spliced_nil ?_
  have q0 : Z0 h' (s1.heap.objs.size + 4) (s1.heap.objs.size + 2) (s1.heap.objs.size + 3) s1.heap.objs.size (s1.heap.objs.size + 1) a b its.toArray its2.toArray :=
    ⟨hz, hTI, ⟨_, _, hTO⟩, h1, h2, ⟨o1, hk _ _ e1, r1'⟩, ⟨o2, hk _ _ e2', r2'⟩, PySem.W.ktu_apart s1.heap.objs.size a b (Heap.lt_size e1) (Heap.lt_size e2')⟩
  refine z_call (n := min xs.length ys.length) (s := { s1 with heap := h' }) (I1.ok.hd hc) q0 (by rw [List.size_toArray, List.size_toArray, lx, ly]) (Nat.le_trans (Nat.min_le_left _ _) bx) fun h'' tk acc c as hk2 hS hl g hacc => ?_
  have kk : ∀ b o, s1.heap.get? b = some o → h''.get? b = some o := fun b o z => hk2 b o (fun m => by
    have lb := Heap.lt_size z
    simp only [List.mem_cons, List.not_mem_nil, or_false] at m
    rcases m with m | m | m | m <;> rw [m] at lb <;> first | exact Nat.lt_irrefl _ lb | exact absurd lb (Nat.not_lt.mpr (Nat.le_add_right _ _))) (hk b o z)
  obtain ⟨H', k1, k2, k3, k4, k5, k6, J⟩ := zip_laid (S := h'.objs.size) (tk := tk) I1 rx ry rfl (Nat.le_trans (Nat.min_le_left _ _) bx) (by rw [hsz]; exact Nat.le_add_right _ _) kk hS hl g hacc
  exact ⟨.ref _, H', J, rfl, q _ as H' k1 k2 k3 k4 k5 hl k6⟩
end
/-! enumerate over a list, a tuple or a text, from any number on -/
/-- what stands in Its is gone along by the iterator at it -/
structure Goer (P : Program) (w : World) (K : PySem.W.Frag) (it : Addr) (Its : Hp → List V → Prop) (tn : Nat → Heap → Prop) : Prop where
  cell : ∀ i h, tn i h → ∃ o, h.get? it = some o ∧ ∀ v, o.data ≠ .cell v
  keep : ∀ i h h', tn i h → (∀ o, h.get? it = some o → h'.get? it = some o) → tn i h'
  uniq : ∀ (X : Cx) (pins : List (Addr × Obj)) (σ : L2.St) (H : Hp) (s : Shared) xs ys, X.K = K → Inv X pins σ H s → Its H xs → Its H ys → xs = ys
  drw : ∀ (X : Cx) (i0 : Nat) (pins : List (Addr × Obj)) (σ : L2.St) (H : Hp) (s : Shared) (e : Addr) (xs : List V), X.prog = P → X.w = w → X.K = K → X.calm = true → Inv X pins σ H s → tn i0 s.heap → e ≠ it → (∃ ob, s.heap.get? e = some ob ∧ ob.cls = .type "enumerate") → Its H xs →
    ∃ (Pq : Nat → Value → Prop) (Z : Nat → Heap → Prop) (fp : List Addr), Draws P w X.A.in1 it fp xs.length Pq Z ∧ (∀ i, tn i s.heap → Z i s.heap) ∧ (∀ i h, Z i h → tn i h) ∧ e ∉ fp ∧ ∀ i u, Pq i u → ∃ x, xs[i]? = some x ∧ RelV x u
def ItC (Its : Hp → List V → Prop) (k0 : Int) : It :=
  ⟨fun i H => ∃ (zs : List V) (z : V), Its H zs ∧ zs[i]? = some z,
   fun i H y H' => ∃ T z, y = .ref T ∧ H T = none ∧ H' = upd H T (.tup [.int (k0 + (i : Nat)), z]) ∧ ∀ zs, Its H zs → zs[i]? = some z,
   fun i H => ∃ zs : List V, Its H zs ∧ zs.length = i⟩
theorem turn_enumC {P : Program} {w : World} {K : PySem.W.Frag} {elts : List Expr} {kk : Nat} {tpos : Pos} {Its : Hp → List V → Prop} {tn : Nat → Heap → Prop} (k0 : Int) (e it : Addr) (G : Goer P w K it Its tn) :
    Turn P w K (.Tuple elts kk tpos) (ItC Its k0) [e, it] e (fun i h => (∃ old, IsEnum h e it (k0 + (i : Nat)) old) ∧ tn i h ∧ e ≠ it) where
  mem := List.mem_cons_self
  obj := fun i h st b hb => by
    obtain ⟨⟨old, ee⟩, ii, _⟩ := st
    rcases List.mem_cons.mp hb with z | hb
    · subst z
      exact ⟨_, ee, fun v q => nomatch q⟩
    · rw [List.mem_singleton.mp hb]
      exact G.cell i h ii
  keep := fun i h h' st k => by
    obtain ⟨⟨old, ee⟩, ii, ne⟩ := st
    exact ⟨⟨old, k e List.mem_cons_self _ ee⟩, G.keep i h h' ii (fun o q => k it (List.mem_cons_of_mem _ List.mem_cons_self) o q), ne⟩
  item := by
    intro X hP hw hK hc i pins s σ H E I fr st hg
    subst hP hw hK
    obtain ⟨⟨old, ee⟩, ii, ne⟩ := st
    obtain ⟨zs, z, hz, hi⟩ := hg
    obtain ⟨Pq, Z, fp, D, z1, z2, ef, pq⟩ := G.drw X i pins σ H s e zs rfl rfl rfl hc I ii ne ⟨_, ee, rfl⟩ hz
    have le : e < s.heap.objs.size := Heap.lt_size ee
    have li : it < s.heap.objs.size := by
      obtain ⟨o, q, _⟩ := G.cell i _ ii
      exact Heap.lt_size q
    refine wpAny_pyNext_enum_itemC D ee (z1 i ii) (List.getElem?_eq_some_iff.mp hi).1 ne ef fun x h1 tk px ho st1 hT hs kp => ?_
    obtain ⟨x', e', rx⟩ := pq i x px
    have ex := Option.some.inj (e'.symm.trans hi)
    subst ex
    refine ⟨_, rfl, wpAny_letOwnedTupleGo_enum (s := { s with heap := h1, toks := tk + 1 }) ho fun h2 e2 sb => ?_⟩
    have t2 : h2.get? s.heap.objs.size = some { cls := .type "tuple", data := .seq #[.int (k0 + (i : Nat)) tk, x] } := (sb.2 _ (Nat.ne_of_gt le)).trans hT
    have fresh : ObjOk X.prog X.w (upd H s.heap.objs.size (.tup [.int (k0 + (i : Nat)), x'])) h2 s.heap.objs.size (.tup [.int (k0 + (i : Nat)), x']) :=
      ⟨by show 2 ≤ sizeLine; decide, [.int (k0 + (i : Nat)) tk, x], .cons ⟨_, rfl⟩ (.cons rx .nil), ⟨_, t2, rfl, _, rfl⟩⟩
    have I1 : Inv X pins σ (upd H s.heap.objs.size (.tup [.int (k0 + (i : Nat)), x'])) { s with heap := h2, toks := tk + 1 } :=
      I.turnedNew (ch := [e, it]) (fun b o nb q => (sb.2 b (fun y => nb (by simp [y]))).trans (kp b o (fun y => nb (by simp [y])) (fun y => nb (by simp [y])) q)) fr (Nat.le_refl _) fresh
    refine ⟨.ref s.heap.objs.size, _, I1, rfl, ⟨_, x', rfl, I.hok.fresh (Nat.le_refl _), rfl, fun ys hy => by rw [G.uniq X pins σ H s ys zs rfl I hy hz]; exact hi⟩, ⟨⟨x, ?_⟩, ?_, ne⟩, fun b hb => ?_⟩
    · have a1 : k0 + ((i + 1 : Nat) : Int) = k0 + (i : Nat) + 1 := by omega
      rw [a1]
      exact e2
    · exact G.keep _ h1 h2 (z2 _ _ st1) fun o q => (sb.2 it (Ne.symm ne)).trans q
    · have lb : b < s.heap.objs.size := by
        rcases List.mem_cons.mp hb with y | hb
        · rw [y]; exact le
        · rw [List.mem_singleton.mp hb]; exact li
      rw [upd_ne (Nat.ne_of_lt lb)]
      exact (fr b hb).1
  done := by
    intro X hP hw hK hc i pins s σ H E I fr st hg
    subst hP hw hK
    obtain ⟨⟨old, ee⟩, ii, ne⟩ := st
    obtain ⟨zs, hz, hl⟩ := hg
    obtain ⟨Pq, Z, fp, D, z1, z2, ef, pq⟩ := G.drw X i pins σ H s e zs rfl rfl rfl hc I ii ne ⟨_, ee, rfl⟩ hz
    subst hl
    obtain ⟨f0, f1, f2, f3, f4, f5⟩ := fr it (List.mem_cons_of_mem _ List.mem_cons_self)
    exact wpAny_pyNext_enum_endD D ee (z1 _ ii) fun h1 eb => ⟨rfl, I.turned (t' := s.toks) (fun b o nb q => eb b o nb q) f0 f1 f3 f4 f5⟩
  self := fun A i s Q E st h => by
    obtain ⟨⟨_, ee⟩, _⟩ := st
    exact wpAny_pyIter_enum ee h
theorem vals_back : ∀ {xs : List V} {us : List Value} {i : Nat} {u : Value}, Vals xs us → us[i]? = some u → ∃ x, xs[i]? = some x ∧ RelV x u := by
  intro xs us i u r e
  have hi := (List.getElem?_eq_some_iff.mp e).1
  have l := r.length
  obtain ⟨u2, e2, r2⟩ := r.get (List.getElem?_eq_getElem (l := xs) (i := i) (by omega))
  have z := Option.some.inj (e2.symm.trans e)
  subst z
  exact ⟨_, List.getElem?_eq_getElem (by omega), r2⟩
section
variable {P : Program} {w : World} {K : PySem.W.Frag}
theorem goer_tup (a it : Addr) : Goer P w K it (fun H xs => SqT K H a xs) (fun i h => h.IsTupleIter it a i) where
  cell := fun i h st => by
    obtain ⟨o, q, _, r⟩ := st
    exact ⟨o, q, fun v y => by rw [r] at y; cases y⟩
  keep := fun i h h' st k => st.at fun o q => k o q
  uniq := fun X pins σ H s xs ys hK I hx hy => by
    subst hK
    exact I.tuple_inj hx hy
  drw := fun X i0 pins σ H s e xs hP hw hK hc I ti ne ⟨oe, oq, oc⟩ hx => by
    subst hP hw hK
    obtain ⟨its, rv, p, hz⟩ := I.tuple hx
    have p2 : s.heap.IsTuple a its.toArray := p
    obtain ⟨ot, t1, t2, _⟩ := p
    have nt : a ≠ it := by
      intro y
      obtain ⟨oi, q1, q2, _⟩ := ti
      rw [y, q1] at t1
      cases t1
      rw [q2] at t2
      exact absurd (Value.type.inj t2) (by decide)
    have net : e ≠ a := by
      intro y
      rw [y, t1] at oq
      cases oq
      rw [t2] at oc
      exact absurd (Value.type.inj oc) (by decide)
    have D := Draws.tuple (prog := X.prog) (w := X.w) (A := X.A.in1) (I.ok.hd hc) it a nt its.toArray
    rw [List.size_toArray, ← rv.length] at D
    refine ⟨_, _, _, D, fun i st => ⟨st, p2⟩, fun i h z => z.1, ?_, ?_⟩
    · simp only [List.mem_cons, List.not_mem_nil, or_false, not_or]
      exact ⟨ne, net⟩
    · intro i u q
      have q : its.toArray[i]? = some u := q
      rw [List.getElem?_toArray] at q
      exact vals_back rv q
theorem goer_lst (a it : Addr) : Goer P w K it (fun H xs => SqL K H a xs) (fun i h => h.IsListIter it a i) where
  cell := fun i h st => by
    obtain ⟨o, q, _, r⟩ := st
    exact ⟨o, q, fun v y => by rw [r] at y; cases y⟩
  keep := fun i h h' st k => st.at fun o q => k o q
  uniq := fun X pins σ H s xs ys hK I hx hy => by
    subst hK
    exact I.list_inj hx hy
  drw := fun X i0 pins σ H s e xs hP hw hK hc I ti ne ⟨oe, oq, oc⟩ hx => by
    subst hP hw hK
    obtain ⟨its, rv, p, hz⟩ := I.list hx
    have p2 : s.heap.IsList a its.toArray := p.isList
    obtain ⟨ot, t1, t2, _⟩ := id p2
    have nt : a ≠ it := by
      intro y
      obtain ⟨oi, q1, q2, _⟩ := ti
      rw [y, q1] at t1
      cases t1
      rw [q2] at t2
      exact absurd (Value.type.inj t2) (by decide)
    have net : e ≠ a := by
      intro y
      rw [y, t1] at oq
      cases oq
      rw [t2] at oc
      exact absurd (Value.type.inj oc) (by decide)
    have D := Draws.list (prog := X.prog) (w := X.w) (A := X.A.in1) (I.ok.hd hc) it a nt its.toArray
    rw [List.size_toArray, ← rv.length] at D
    refine ⟨_, _, _, D, fun i st => ⟨st, p2⟩, fun i h z => z.1, ?_, ?_⟩
    · simp only [List.mem_cons, List.not_mem_nil, or_false, not_or]
      exact ⟨ne, net⟩
    · intro i u q
      have q : its.toArray[i]? = some u := q
      rw [List.getElem?_toArray] at q
      exact vals_back rv q
/-- the signs of a text -/
def signs (z : Str) : List V := z.cps.toList.map fun c => V.str ⟨#[c]⟩
theorem goer_str (z : Str) (t : Tok) (it : Addr) : Goer P w K it (fun _ xs => xs = signs z) (fun i h => h.IsStrIter it (strIterType z) z t i) where
  cell := fun i h st => by
    obtain ⟨o, q, _, r⟩ := st
    exact ⟨o, q, fun v y => by rw [r] at y; cases y⟩
  keep := fun i h h' st k => by
    obtain ⟨o, q, r⟩ := st
    exact ⟨o, k o q, r⟩
  uniq := fun X pins σ H s xs ys hK I hx hy => hx.trans hy.symm
  drw := fun X i0 pins σ H s e xs hP hw hK hc I ti ne _ hx => by
    subst hP hw hK hx
    have D := Draws.text (prog := X.prog) (w := X.w) (A := X.A.in1) (I.ok.hd hc) it z t
    have ez : z.cps.size = (signs z).length := by simp [signs]
    rw [ez] at D
    refine ⟨_, _, _, D, fun i st => st, fun i h z => z, ?_, ?_⟩
    · simp only [List.mem_cons, List.not_mem_nil, or_false]
      exact ne
    · rintro i u ⟨c, u2, q, rfl⟩
      refine ⟨.str ⟨#[c]⟩, ?_, ⟨_, rfl⟩⟩
      unfold signs
      rw [List.getElem?_map]
      have q2 : z.cps.toList[i]? = some c := by simpa using q
      rw [q2]
      rfl
end
set_option maxHeartbeats 1000000 in
theorem meets_enum1 {v : Value} {ob : Obj} {Z : Heap → Prop} (B : Begins v ob Z) :
    Meets (Builtin.«enumerate.__new__» ⟨[.type "enumerate", v], []⟩) (fun _ R s => Z s.heap ∧
      R (.ok (.ret (.ref (s.heap.push ob).objs.size))) { s with heap := (s.heap.push ob).push { cls := .type "enumerate", data := .fields #[.none, .bool false, .ref s.heap.objs.size, rawInt 0, .none, .none] } }) :=
  .of_wp fun prog w A R s hh => by
    obtain ⟨hp, g, d, tk, os⟩ := s
    obtain ⟨hz, hh⟩ := hh
    have hsub := sub_enumerate
    have go : ∀ {A' : Around} {E : Value → Shared → Prop} {Q : Value → Shared → Prop}, Q (.ref hp.objs.size) ⟨hp.push ob, g, d, tk, os⟩ → wpAny (model prog w) A' (pyIter v) Q E ⟨hp, g, d, tk, os⟩ :=
      fun q => B.iter prog w _ _ ⟨hp, g, d, tk, os⟩ _ hz q
    wp_walk using go
    refine wpAny_stack_any fun st => wpAny_pure ?_
    split
    · rename_i c _ _ _ _ _
      cases (c == Value.type "enumerate") <;>
      · wp_walk using go
        exact ⟨_, rfl, hh⟩
    · wp_walk using go
      exact ⟨_, rfl, hh⟩
theorem enum_made {prog : Program} {w : World} {A : Around} {E : Value → Shared → Prop} {s : Shared} {v : Value} {ob : Obj} {Z : Heap → Prop} {Q : Value → Shared → Prop} (B : Begins v ob Z) (hz : Z s.heap)
    (h : ∀ h', IsEnum h' (s.heap.objs.size + 1) s.heap.objs.size 0 .none → h'.get? s.heap.objs.size = some ob → (∀ b o, s.heap.get? b = some o → h'.get? b = some o) → Q (.ref (s.heap.objs.size + 1)) { s with heap := h' }) :
    wpAny (model prog w) A (call (.type "enumerate") [v]) Q E s := by
  refine callType_new F.called_enumerate (by decide) (F.typeCall_enumerate_1 _) (F.newCall_enumerate_1 _) (fun obj => F.args_object_init_2 obj _) F.entry_enumerate_new (meets_enum1 B) ⟨hz, ?_⟩
  have sz : (s.heap.push ob).objs.size = s.heap.objs.size + 1 := Heap.size_push ..
  show _ ∧ _
  rw [sz]
  have ee := Heap.get?_push_size (s.heap.push ob) (o := { cls := .type "enumerate", data := .fields #[.none, .bool false, .ref s.heap.objs.size, rawInt 0, .none, .none] }) rfl
  rw [sz] at ee
  exact ⟨⟨_, ee, rfl⟩, h _ ee (Heap.get?_push_of_some _ (Heap.get?_push_size _ B.free)) fun b o x => Heap.get?_push_of_some _ (Heap.get?_push_of_some _ x)⟩
def iEnumA (K : PySem.W.Frag) (ta : TA) : TI := fun σ H R => ta σ H fun vs H1 =>
  (∃ a xs, vs = [.ref a] ∧ SqT K H1 a xs ∧ R (ItC (fun H ys => SqT K H a ys) 0) H1) ∨ ∃ z, vs = [.str z] ∧ R (ItC (fun _ ys => ys = signs z) 0) H1
def iEnumK (K : PySem.W.Frag) (ta : TA) : TI := fun σ H R => ta σ H fun vs H1 => ∃ a xs k, vs = [.ref a, .int k] ∧ SqL K H1 a xs ∧ -(2 ^ 63) ≤ k ∧ k < 2 ^ 63 ∧ R (ItC (fun H ys => SqL K H a ys) k) H1
section
variable {X : Cx} {e e2 : Expr} {ta : TA} {p pos tpos : Pos} {elts : List Expr} {kk : Nat}
theorem pie_enum {pins : List (Addr × Obj)} {σ : L2.St} {H : Hp} {s : Shared} {h' : Heap} {Its : Hp → List V → Prop} {tn : Nat → Heap → Prop} {R : It → Hp → Prop} {k : Int} (I : Inv X pins σ H s) (G : Goer X.prog X.w X.K s.heap.objs.size Its tn)
    (ee : IsEnum h' (s.heap.objs.size + 1) s.heap.objs.size k .none) (t0 : tn 0 h') (kp : ∀ b o, s.heap.get? b = some o → h'.get? b = some o) (q : R (ItC Its k) H) :
    wpAny (model X.prog X.w) X.A (pyIter (.ref (s.heap.objs.size + 1))) (PIE X pins σ (.Tuple elts kk tpos) R) X.xe { s with heap := h' } := by
  refine wpAny_pyIter_enum ee ?_
  refine ⟨s.heap.objs.size + 1, [s.heap.objs.size + 1, s.heap.objs.size], _, _, H, rfl, I.kept (t' := s.toks) kp, turn_enumC k (s.heap.objs.size + 1) s.heap.objs.size G, ⟨⟨.none, ?_⟩, t0, Nat.succ_ne_self _⟩, fun b hb => ?_, q⟩
  · have z : k + ((0 : Nat) : Int) = k := by omega
    rw [z]
    exact ee
  · have lb : s.heap.objs.size ≤ b := by
      rcases List.mem_cons.mp hb with y | hb
      · rw [y]; exact Nat.le_succ _
      · rw [List.mem_singleton.mp hb]; exact Nat.le_refl _
    exact I.fpOk lb (I.hok.fresh lb)
theorem pi_enumA (hg : Gl X "enumerate") (hm : X.mg "enumerate" = none) (ha : PA X [e] ta) (hs : starEach [e] X.env = [(false, eval e X.env)] := by rfl) :
    PI X (.Tuple elts kk tpos) (.Call (.Name "enumerate" p) [e] [] pos) (iEnumA X.K ta) := by
  refine ⟨fun pins s σ H R I h => ?_⟩
  refine Call_ (ld_blt I hg hm boot_enumerate (PyProof.Rows.callWith_type1 (thn (ha.run pos pins s σ H _ I h) fun us s1 ⟨vs, H1, I1, r1, q1⟩ => ?_) hs rfl))
  rcases q1 with ⟨a, xs, rfl, hx, q⟩ | ⟨z, rfl, q⟩
  · obtain ⟨u, rfl, ru⟩ := r1.one
    cases ru
    obtain ⟨its, rv, tp, hz⟩ := I1.tuple hx
    exact enum_made (begins_tuple a its.toArray) tp fun h' ee hi kp => pie_enum I1 (goer_tup a _) ee ⟨_, hi, rfl, rfl⟩ kp q
  · obtain ⟨u, rfl, ru⟩ := r1.one
    obtain ⟨t, rfl⟩ := ru
    exact enum_made (begins_text z t) trivial fun h' ee hi kp => pie_enum I1 (goer_str z t _) ee ⟨_, hi, rfl, rfl⟩ kp q
theorem pi_enumK (hg : Gl X "enumerate") (hm : X.mg "enumerate" = none) (ha : PA X [e, e2] ta) (hs : starEach [e, e2] X.env = (false, eval e X.env) :: starEach [e2] X.env := by rfl) (hpl : (backTo pos (starEach [e2] X.env)).any (·.1) = false := by rfl) :
    PI X (.Tuple elts kk tpos) (.Call (.Name "enumerate" p) [e, e2] [] pos) (iEnumK X.K ta) := by
  refine ⟨fun pins s σ H R I h => ?_⟩
  refine Call_ (ld_blt I hg hm boot_enumerate (PyProof.Rows.callWith_type1 (thn (ha.run pos pins s σ H _ I h) fun us s1 ⟨vs, H1, I1, r1, q1⟩ => ?_) hs hpl))
  obtain ⟨a, xs, k, rfl, hx, k0, k1, q⟩ := q1
  obtain ⟨u, v, rfl, ru, rv⟩ := r1.two
  cases ru
  obtain ⟨t, rfl⟩ := rv
  obtain ⟨its, rv, tp, hz⟩ := I1.list hx
  exact enum_begins (begins_list a its.toArray) tp.isList k0 k1 fun h' ee hi _ kp => pie_enum I1 (goer_lst a _) ee ⟨_, hi, rfl, rfl⟩ kp q
end
/-- going along what enumerate hands out -/
theorem walk_C {Its : Hp → List V → Prop} {xs : List V} {k0 : Int} : Walk (ItC Its k0) xs.length (fun H => Its H xs)
    (fun i H y H' => ∃ T z, y = .ref T ∧ H T = none ∧ H' = upd H T (.tup [.int (k0 + (i : Nat)), z]) ∧ xs[i]? = some z) := by
  refine ⟨fun i H hi g => ⟨xs, _, g, List.getElem?_eq_getElem hi⟩, ?_, ?_⟩
  · intro H g
    exact ⟨xs, g, rfl⟩
  · rintro i H y H' hi g ⟨T, z, e1, e2, e3, e4⟩
    exact ⟨T, z, e1, e2, e3, e4 xs g⟩
/-- d.get(key), d a dict of the program's top with texts for keys -/
def tKGet (K : PySem.W.Frag) (d : Addr) (td ty : TE) : TE := fun σ H Q => td σ H fun x H1 => x = .ref d ∧ ty σ H1 fun y H2 => ∃ z r v, y = .str z ∧ PySem.W.nsIn K d z = some r ∧ RelV v (r.getD .none) ∧ Q v H2
theorem pe_kget {X : Cx} {d : Addr} {es : Array DictEntry} {n : Nat} {o e : Expr} {apos cpos : Pos} {td ty : TE} (D : KDict X.K X.w d es n) (ho : PE X o td) (he : PE X e ty) (m : M1 X o "get" apos e cpos) :
    PE X (.Call (.Attribute o "get" apos) [e] [] cpos) (tKGet X.K d td ty) := by
  refine ⟨fun pins s σ H Q I h => ?_⟩
  refine wpAny_Call_method m.base m.few m.line PySem.F.plainAttrs_dict PySem.F.slot_dict_get PySem.F.type_dict_get (thn (ho.run pins s σ H _ I h) fun u s1 ⟨x, H1, I1, rx, ex, q1⟩ => ?_)
  subst ex
  cases rx
  refine ⟨kd_type D I1, fun b q => ?_, ?_⟩
  · cases q
    exact ⟨_, I1.kIn _ _ D.at_, rfl⟩
  rw [m.trees]
  refine Calls.callWith_builtin rfl (Calls.evalArgs_plain (Calls.spliced_cons (thn (he.run pins s1 σ H1 _ I1 q1) fun iv s2 ⟨y, H2, I2, ry, z, r, v, ey, en, rv, q2⟩ => Calls.spliced_nil ?_)))
  subst ey
  obtain ⟨t, rfl⟩ := ry
  refine call_meetsIn PySem.F.slot_dict_get (kd_type D I2) PySem.F.entry_dict_get (PySem.F.args_dict_get_2 _ _) (meets_dict_get (strKind X.prog X.w) d (strKind_is X.prog X.w z t) D.low) ⟨_, PySem.W.mapOf_K (prog := X.prog) I2.kIn D.at_ D.lit, ?_⟩
  rw [PySem.W.find_K D.at_ en]
  exact ⟨v, H2, I2.tok _, rv, q2⟩
def topS (i : Nat) : Stmt := PySem.Challenge.pw_runlore_k08_trees_taken_apart.main.body.getD i (.Pass ⟨0, 0, 0, 0⟩)
/-! the forms of trees, and what is inside of one -/
def exL : List (Str × Str) := [("int", "k"), ("atom", "n"), ("name", "n"), ("plus", "ek"), ("tuple", "s"), ("part", "ei"), ("join", "ee"), ("read", "n"), ("reach", "e"), ("call", "ns"), ("let", "nee"), ("if", "tee"), ("each", "nee"), ("pick", "net"), ("fold", "nenee"), ("fail", "n")]
def teL : List (Str × Str) := [("is", "we"), ("sized", "ei"), ("most", "eke"), ("alike", "ee"), ("not", "t"), ("both", "tt"), ("either", "tt")]
def allL : List (Str × Str) := exL ++ teL
/-- what stands in a slot: many trees (s), one tree (e, t), or none -/
def inSlot (k : Nat) (c : Nat) (d : PyData) : List (List Int × PyData) :=
  if c = 115 then (match d with | .tuple es => es.zipIdx.map fun p => ([(k : Int), (p.2 : Int)], p.1) | _ => [])
  else if c = 101 ∨ c = 116 then [([(k : Int)], d)] else []
def inArgs : Nat → List Nat → List PyData → List (List Int × PyData)
  | k, c :: cs, d :: ds => inSlot k c d ++ inArgs (k + 1) cs ds
  | _, [], _ => []
  | _, _ :: _, [] => []
/-- arguments as the slots want them -/
def ShA : List Nat → List PyData → Prop
  | c :: cs, d :: ds => (c = 115 → ∃ es, d = .tuple es) ∧ ShA cs ds
  | [], [] => True
  | [], _ :: _ => False
  | _ :: _, [] => False
/-- a tree of n trees, nested less than f deep -/
def Wf : Nat → Nat → PyData → Prop
  | 0, _, _ => False
  | f + 1, n, d => ∃ (h sl : Str) (args : List PyData) (ns : List Nat), d = .tuple (.str h :: args) ∧ (h, sl) ∈ allL ∧ ShA sl.cps.toList args ∧
      Paired (fun (m : Nat) (p : List Int × PyData) => Wf f m p.2) ns (inArgs 1 sl.cps.toList args) ∧ n = 1 + ns.sum
theorem ShA.len : ∀ {cs : List Nat} {ds : List PyData}, ShA cs ds → cs.length = ds.length
  | [], [], _ => rfl
  | _ :: _, _ :: _, h => congrArg (· + 1) (ShA.len h.2)
  | [], _ :: _, h => h.elim
  | _ :: _, [], h => h.elim
theorem paired_mono {α β : Type} {F G : α → β → Prop} (h : ∀ a b, F a b → G a b) : ∀ {xs : List α} {ys : List β}, Paired F xs ys → Paired G xs ys
  | _, _, .nil => .nil
  | _, _, .cons a t => .cons (h _ _ a) (paired_mono h t)
theorem paired_app {α β : Type} {F : α → β → Prop} : ∀ {xs : List α} {ys : List β} {xs2 : List α} {ys2 : List β}, Paired F xs ys → Paired F xs2 ys2 → Paired F (xs ++ xs2) (ys ++ ys2)
  | _, _, _, _, .nil, g => g
  | _, _, _, _, .cons a t, g => .cons a (paired_app t g)
theorem Wf.up : ∀ {f n : Nat} {d : PyData}, Wf f n d → Wf (f + 1) n d
  | 0, _, _, h => h.elim
  | f + 1, n, d, h => by
    obtain ⟨h0, sl, args, ns, e, m, s, p, q⟩ := h
    exact ⟨h0, sl, args, ns, e, m, s, paired_mono (fun a b z => Wf.up z) p, q⟩
theorem Wf.mono {f g n : Nat} {d : PyData} (h : Wf f n d) (hg : f ≤ g) : Wf g n d := by
  induction hg with
  | refl => exact h
  | step _ ih => exact ih.up
theorem inArgs_app : ∀ (k : Nat) (cs cs2 : List Nat) (ds ds2 : List PyData), cs.length = ds.length → inArgs k (cs ++ cs2) (ds ++ ds2) = inArgs k cs ds ++ inArgs (k + cs.length) cs2 ds2
  | k, [], cs2, [], ds2, _ => by simp [inArgs]
  | k, c :: cs, cs2, d :: ds, ds2, h => by
    have h2 : cs.length = ds.length := by simpa using h
    show inSlot k c d ++ inArgs (k + 1) (cs ++ cs2) (ds ++ ds2) = (inSlot k c d ++ inArgs (k + 1) cs ds) ++ _
    rw [inArgs_app (k + 1) cs cs2 ds ds2 h2, List.append_assoc, List.length_cons, show k + 1 + cs.length = k + (cs.length + 1) by omega]
  | k, [], cs2, _ :: _, ds2, h => by cases h
  | k, _ :: _, cs2, [], ds2, h => by cases h
theorem inArgs_take {k i : Nat} {cs : List Nat} {ds : List PyData} {c : Nat} {d : PyData} (h : cs.length = ds.length) (hc : cs[i]? = some c) (hd : ds[i]? = some d) :
    inArgs k (cs.take (i + 1)) (ds.take (i + 1)) = inArgs k (cs.take i) (ds.take i) ++ inSlot (k + i) c d := by
  have hi := (List.getElem?_eq_some_iff.mp hc).1
  rw [get_take hc, get_take hd, inArgs_app k _ _ _ _ (by rw [List.length_take, List.length_take, h])]
  have e : (cs.take i).length = i := by rw [List.length_take]; omega
  rw [e]
  simp [inArgs]
theorem ShA.at {cs : List Nat} {ds : List PyData} {i c : Nat} {d : PyData} (h : ShA cs ds) (hc : cs[i]? = some c) (hd : ds[i]? = some d) : c = 115 → ∃ es, d = .tuple es := by
  induction cs generalizing ds i with
  | nil => simp at hc
  | cons c0 cs ih =>
    cases ds with
    | nil => simp at hd
    | cons d0 ds =>
      cases i with
      | zero =>
        simp at hc hd
        subst hc hd
        exact h.1
      | succ i => exact ih (i := i) h.2 (by simpa using hc) (by simpa using hd)
/-- the trees inside, as pairs of path and tree -/
def pairD (p : List Int × PyData) : PyData := .tuple [.tuple (p.1.map PyData.int), p.2]
/-- a place inside of data -/
def atD : PyData → List Int → Option PyData
  | d, [] => some d
  | .tuple ds, i :: r => if 0 ≤ i then (match ds[i.toNat]? with | some e => atD e r | none => none) else none
  | _, _ :: _ => none
theorem atD_app : ∀ (p q : List Int) (d e : PyData), atD d p = some e → atD d (p ++ q) = atD e q
  | [], q, d, e, h => by
    have h : d = e := by simpa [atD] using h
    rw [h]
    rfl
  | i :: r, q, d, e, h => by
    cases d with
    | tuple ds =>
      simp only [atD, List.cons_append] at h ⊢
      split at h
      · rename_i h0
        rw [if_pos h0]
        cases hd : ds[i.toNat]? with
        | none => rw [hd] at h; cases h
        | some x =>
          rw [hd] at h
          exact atD_app r q x e h
      · cases h
    | none => simp [atD] at h
    | bool _ => simp [atD] at h
    | int _ => simp [atD] at h
    | str _ => simp [atD] at h
    | list _ => simp [atD] at h
    | dict _ => simp [atD] at h
theorem inSlot_at {k c : Nat} {d : PyData} {p : List Int × PyData} (h : p ∈ inSlot k c d) (ds : List PyData) (hk : ds[k]? = some d) : atD (.tuple ds) p.1 = some p.2 := by
  unfold inSlot at h
  split at h
  · cases d with
    | tuple es =>
      obtain ⟨q, hq, rfl⟩ := List.mem_map.mp h
      obtain ⟨j, hj⟩ := List.mem_iff_getElem?.mp hq
      rw [List.getElem?_zipIdx] at hj
      obtain ⟨x, hx, e⟩ := Option.map_eq_some_iff.mp hj
      subst e
      simp only [atD]
      rw [if_pos (by omega)]
      simp only [Int.toNat_natCast, hk]
      have e2 : ((0 + j : Nat) : Int).toNat = j := by omega
      simp only [atD]
      rw [if_pos (by omega), e2, hx]
    | none => simp at h
    | bool _ => simp at h
    | int _ => simp at h
    | str _ => simp at h
    | list _ => simp at h
    | dict _ => simp at h
  · split at h
    · rw [List.mem_singleton] at h
      subst h
      simp only [atD]
      rw [if_pos (by omega)]
      simp only [Int.toNat_natCast, hk]
    · cases h
theorem inArgs_at : ∀ (k : Nat) (cs : List Nat) (ds all : List PyData) (p : List Int × PyData), p ∈ inArgs k cs ds → (∀ i d, ds[i]? = some d → all[k + i]? = some d) → atD (.tuple all) p.1 = some p.2
  | k, c :: cs, d :: ds, all, p, h, g => by
    rcases List.mem_append.mp (show p ∈ inSlot k c d ++ inArgs (k + 1) cs ds from h) with h | h
    · exact inSlot_at h all (g 0 d rfl)
    · refine inArgs_at (k + 1) cs ds all p h fun i e he => ?_
      have q := g (i + 1) e (by simpa using he)
      rw [show k + 1 + i = k + (i + 1) by omega]
      exact q
  | k, [], ds, all, p, h, g => by simp [inArgs] at h
  | k, _ :: _, [], all, p, h, g => by simp [inArgs] at h
/-- what is inside of a tree -/
def kids8 : PyData → List (List Int × PyData)
  | .tuple (.str h :: args) => inArgs 1 (((allL.find? fun p => decide (p.1 = h)).map Prod.snd).getD "").cps.toList args
  | _ => []
theorem allL_find : ∀ p ∈ allL, ((allL.find? fun q => decide (q.1 = p.1)).map Prod.snd).getD "" = p.2 := by decide +kernel
theorem Wf.open {f n : Nat} {d : PyData} (w : Wf f n d) : ∃ (h sl : Str) (args : List PyData) (ns : List Nat) (f' : Nat), f = f' + 1 ∧ d = .tuple (.str h :: args) ∧ (h, sl) ∈ allL ∧ ShA sl.cps.toList args ∧ kids8 d = inArgs 1 sl.cps.toList args ∧
    Paired (fun (m : Nat) (p : List Int × PyData) => Wf f' m p.2) ns (kids8 d) ∧ n = 1 + ns.sum := by
  cases f with
  | zero => exact w.elim
  | succ f =>
    obtain ⟨h, sl, args, ns, rfl, m, s, p, q⟩ := w
    have e : kids8 (.tuple (.str h :: args)) = inArgs 1 sl.cps.toList args := by
      have z := allL_find _ m
      simp only [kids8]
      rw [z]
    exact ⟨h, sl, args, ns, f, rfl, rfl, m, s, e, by rw [e]; exact p, q⟩
theorem kids_at {f n : Nat} {d : PyData} (w : Wf f n d) : ∀ p ∈ kids8 d, atD d p.1 = some p.2 := by
  obtain ⟨h, sl, args, ns, f', _, rfl, m, s, e, p, q⟩ := w.open
  rw [e]
  intro p hp
  refine inArgs_at 1 _ args _ p hp fun i x hx => ?_
  rw [show 1 + i = i + 1 by omega]
  simpa using hx
mutual
/-- no list in it -/
def nl : PyData → Bool
  | .list _ => false
  | .dict _ => false
  | .tuple ds => nls ds
  | .none => true
  | .bool _ => true
  | .int _ => true
  | .str _ => true
def nls : List PyData → Bool
  | [] => true
  | d :: ds => nl d && nls ds
end
/-- none of these is a tuple -/
def NT (l : List Addr) (H : Hp) : Prop := ∀ b ∈ l, ∀ xs, ¬ Rd H b (.tup xs)
mutual
theorem Dp.less {K : PySem.W.Frag} {H : Hp} {l : List Addr} (hl : NT l H) : ∀ (d : PyData) (v : V), nl d = true → Dp K H v d → Dp K (cut l H) v d
  | .none, _, _, h => by cases h; exact .non
  | .bool b, _, _, h => by cases h; exact .bl b
  | .int i, _, _, h => by cases h; exact .int i
  | .str x, _, _, h => by cases h; exact .str x
  | .list ds, _, n, _ => by simp [nl] at n
  | .dict _, _, n, _ => by simp [nl] at n
  | .tuple ds, _, n, h => by
    cases h with
    | @tup a xs _ h1 h2 =>
      refine .tup ?_ (Dp.lesss hl ds _ (by simpa only [nl] using n) h2)
      rcases h1 with (h1 | ⟨o, h1⟩) | h1
      · refine .inl (.inl ?_)
        rw [cut_out fun z => hl _ z _ (.inl h1)]
        exact h1
      · refine .inl (.inr ⟨o, ?_⟩)
        rw [cut_out fun z => hl _ z _ (.inr ⟨o, h1⟩)]
        exact h1
      · exact .inr h1
theorem Dp.lesss {K : PySem.W.Frag} {H : Hp} {l : List Addr} (hl : NT l H) : ∀ (ds : List PyData) (vs : List V), nls ds = true → DpAll K H vs ds → DpAll K (cut l H) vs ds
  | [], _, _, h => by cases h; exact .nil
  | d :: ds, _, n, h => by
    simp only [nls, Bool.and_eq_true] at n
    cases h with
    | cons h1 h2 => exact .cons (Dp.less hl d _ n.1 h1) (Dp.lesss hl ds _ n.2 h2)
end
theorem nls_mem : ∀ {ds : List PyData} {d : PyData}, nls ds = true → d ∈ ds → nl d = true
  | _ :: _, _, h, m => by
    simp only [nls, Bool.and_eq_true] at h
    rcases List.mem_cons.mp m with e | e
    · rw [e]
      exact h.1
    · exact nls_mem h.2 e
theorem nls_app : ∀ ds es : List PyData, nls (ds ++ es) = (nls ds && nls es)
  | [], es => by simp [nls]
  | d :: ds, es => by simp only [List.cons_append, nls, nls_app ds es, Bool.and_assoc]
theorem Dp.off {K : PySem.W.Frag} {H H' : Hp} {l : List Addr} {d : PyData} {v : V} (h : Dp K H v d) (hl : NT l H) (n : nl d = true) (o : Off l H H') : Dp K H' v d :=
  Dp.up (Same.trans o (cut_same l H')) _ _ (Dp.less hl d v n h)
theorem DpAll.off {K : PySem.W.Frag} {H H' : Hp} {l : List Addr} {ds : List PyData} {vs : List V} (h : DpAll K H vs ds) (hl : NT l H) (n : nls ds = true) (o : Off l H H') : DpAll K H' vs ds :=
  Dp.ups (Same.trans o (cut_same l H')) _ _ (Dp.lesss hl ds vs n h)
theorem nt_lst {H : Hp} {b : Addr} {ys : List V} (h : H b = some (.lst ys)) : ∀ xs, ¬ Rd H b (.tup xs) := fun xs z => by
  rcases z with z | ⟨o, z⟩
  · rw [h] at z
    cases z
  · rw [h] at z
    cases z
theorem nt_dk {H : Hp} {b : Addr} {ys : List (Key × V)} (h : H b = some (.dK ys)) : ∀ xs, ¬ Rd H b (.tup xs) := fun xs z => by
  rcases z with z | ⟨o, z⟩
  · rw [h] at z
    cases z
  · rw [h] at z
    cases z
theorem NT.cons {H : Hp} {b : Addr} {l : List Addr} (h : ∀ xs, ¬ Rd H b (.tup xs)) (n : NT l H) : NT (b :: l) H := fun c hc => by
  rcases List.mem_cons.mp hc with e | e
  · rw [e]
    exact h
  · exact n c e
theorem NT.nil {H : Hp} : NT [] H := fun _ z => nomatch z
theorem Box.nt {H : Hp} {p g : Addr} (b : Box H p g) : NT [p, g] H := by
  obtain ⟨n, s, t, gs, h1, h2, _⟩ := b.ex
  exact .cons (nt_dk h1) (.cons (nt_lst h2) .nil)
theorem inSlot_sum (k c : Nat) (d : PyData) : ((inSlot k c d).map fun p => nod p.2).sum ≤ nod d := by
  unfold inSlot
  split
  · cases d with
    | tuple es =>
      have key : ∀ (es : List PyData) (j : Nat), ((es.zipIdx j).map fun p : PyData × Nat => nod p.1).sum = nods es := fun es => by
        induction es with
        | nil => intro j; simp [nods]
        | cons e es ih =>
          intro j
          simp only [List.zipIdx_cons, List.map_cons, List.sum_cons, nods, ih]
      simp only [List.map_map, nod]
      have := key es 0
      have e : ((fun p : List Int × PyData => nod p.2) ∘ fun p : PyData × Nat => ([(k : Int), (p.2 : Int)], p.1)) = fun p : PyData × Nat => nod p.1 := rfl
      rw [e]
      omega
    | _ => simp
  · split
    · simp
    · simp
theorem inArgs_sum : ∀ (k : Nat) (cs : List Nat) (ds : List PyData), ((inArgs k cs ds).map fun p => nod p.2).sum ≤ nods ds
  | k, c :: cs, d :: ds => by
    have h1 := inSlot_sum k c d
    have h2 := inArgs_sum (k + 1) cs ds
    simp only [inArgs, List.map_append, List.sum_append, nods]
    omega
  | _, [], _ => by simp [inArgs]
  | _, _ :: _, [] => by simp [inArgs]
theorem Wf.le : ∀ {f n : Nat} {d : PyData}, Wf f n d → n ≤ nod d
  | 0, _, _, h => h.elim
  | f + 1, n, d, h => by
    obtain ⟨h0, sl, args, ns, rfl, m, s, p, rfl⟩ := h
    have q := inArgs_sum 1 sl.cps.toList args
    have r : ns.sum ≤ ((inArgs 1 sl.cps.toList args).map fun p => nod p.2).sum := by
      revert p
      generalize inArgs 1 sl.cps.toList args = ks
      intro p
      clear q
      induction p with
      | nil => exact Nat.le_refl _
      | cons a t ih =>
        have := Wf.le a
        simp only [List.map_cons, List.sum_cons]
        omega
    simp only [nod, nods]
    omega
abbrev sBox : Stmt := topS 12
abbrev sTake : Stmt := topS 13
theorem c47 : (0 : Int) < 2147483647 := by decide
theorem c29 : (0 : Int) < 2147483629 := by decide
/-! _law_take: some number below many; the box stays a box -/
def spTake : Sp := fun vs H Q _ => ∃ (p g : Addr) (m : Int), vs = [.ref p, .int m] ∧ Box H p g ∧ 0 < m ∧ m.natAbs < 2 ^ 200 ∧
  ∀ (r : Int) (H' : Hp), 0 ≤ r → r < m → Box H' p g → Off [p, g] H H' → Q (.int r) H'
def spBox (K : PySem.W.Frag) : Sp := fun vs H Q _ => ∃ (a : Addr) (ns : List Int) (c : Int), vs = [.ref a, .int c] ∧ SqL K H a (ns.map V.int) ∧ ns.length ≤ 63 ∧ 0 ≤ c ∧ c < 1000 ∧
  ∀ (p g : Addr) (H' : Hp), Box H' p g → Same H H' → H p = none → H g = none → Q (.ref p) H'
theorem scTake : FnScope ["_law_box_here", "_law_many", "_law_digit", "_law_one"] ["_law_box_here", "_law_many"] (defScope sTake) :=
  ⟨rfl, rfl, rfl, by decide +kernel, rfl, by decide +kernel, by decide +kernel⟩
section
variable {P : Program} {w : World} {K : PySem.W.Frag} {mg : Str → Option Value} {base : Heap} {f : Addr} {fd : FuncData}
theorem get_now {H : Hp} {p g : Addr} {n s t : Int} (h : H p = some (.dK (bx g n s t))) : DGet H p (.str "now") (some (.int n)) := by
  have q := DGet.k (k := (Sum.inr "now" : Key)) h
  rw [bx_now] at q
  exact q
theorem get_great {H : Hp} {p g : Addr} {n s t : Int} (h : H p = some (.dK (bx g n s t))) : DGet H p (.str "great") (some (.ref g)) := by
  have q := DGet.k (k := (Sum.inr "great" : Key)) h
  rw [bx_great] at q
  exact q
theorem get_seed {H : Hp} {p g : Addr} {n s t : Int} (h : H p = some (.dK (bx g n s t))) : DGet H p (.str "seed") (some (.int s)) := by
  have q := DGet.k (k := (Sum.inr "seed" : Key)) h
  rw [bx_seed] at q
  exact q
theorem get_turn {H : Hp} {p g : Addr} {n s t : Int} (h : H p = some (.dK (bx g n s t))) : DGet H p (.str "turn") (some (.int t)) := by
  have q := DGet.k (k := (Sum.inr "turn" : Key)) h
  rw [bx_turn] at q
  exact q
theorem set_now {H : Hp} {p g : Addr} {n s t : Int} (y : Int) (h : H p = some (.dK (bx g n s t))) : DPut H p (.str "now") (.int y) (upd H p (.dK (bx g y s t))) := by
  have q := DPut.k (k := (Sum.inr "now" : Key)) (v := .int y) h (by show 4 < sizeLine; decide)
  rw [put_now] at q
  exact q
theorem set_seed {H : Hp} {p g : Addr} {n s t : Int} (y : Int) (h : H p = some (.dK (bx g n s t))) : DPut H p (.str "seed") (.int y) (upd H p (.dK (bx g n y t))) := by
  have q := DPut.k (k := (Sum.inr "seed" : Key)) (v := .int y) h (by show 4 < sizeLine; decide)
  rw [put_seed] at q
  exact q
theorem set_turn {H : Hp} {p g : Addr} {n s t : Int} (y : Int) (h : H p = some (.dK (bx g n s t))) : DPut H p (.str "turn") (.int y) (upd H p (.dK (bx g n s y))) := by
  have q := DPut.k (k := (Sum.inr "turn" : Key)) (v := .int y) h (by show 4 < sizeLine; decide)
  rw [put_turn] at q
  exact q
theorem ok_take {k : Nat} (F : Fun K "_law_take" "_law_take" sTake f fd) (ml : mg "len" = none) : FnOk P w K mg base CX0 (k + 1) f fd ["_law_box_here", "_law_many"] spTake := by
  refine F.ok scTake (fun vs H Q E h => ?_) (fun cdv A outer s H vs Q E hr h => ?_)
  · obtain ⟨p, g, m, rfl, _⟩ := h
    rfl
  obtain ⟨p, g, m, rfl, ⟨n, sd, t, gs, hp, hg, hl⟩, m0, m9, q⟩ := h
  have hu := hu_of hr
  have npg : p ≠ g := ne_of hp hg (by intro z; cases z)
  refine ⟨_, C8.pss_cut (ps_if (PW.pt (pw_and (pt_cmpR op_eq (pe_dget hu (pv 0) pe_str (fun _ _ => rfl)) pe_int (nomark _))
        (pw_and1 (pt_cmpR op_gt (pe_callB call_len_seq (by rfl) ml PySem.boot_len (pa_cons (pe_dget hu (pv 0) pe_str (fun _ _ => rfl)) pa_nil)) pe_int (nomark _)))))
        (pss_one (ps_dput hu (pv 0) pe_str (pe_bm0 PySem.F.plainAttrs_list PySem.F.slot_list_pop PySem.F.type_list_pop mt_pop (pe_dget hu (pv 0) pe_str (fun _ _ => rfl))) rfl)) pss_nil)
    (pss_cons (ps_if (pt_cmpR op_gt (pe_dget hu (pv 0) pe_str (fun _ _ => rfl)) pe_int (nomark _))
        (pss_cons (ps_set (i := 2) scTake.nd rfl (.inl rfl) (pe_op op_mod (pe_dget hu (pv 0) pe_str (fun _ _ => rfl)) (pv 1)))
        (pss_cons (ps_dput hu (pv 0) pe_str (pe_op op_fdivW (pe_dget hu (pv 0) pe_str (fun _ _ => rfl)) (pv 1)) rfl)
        (pss_one (ps_ret (pv 2))))) pss_nil)
    (pss_cons (ps_dput hu (pv 0) pe_str (pe_op op_add (pe_dget hu (pv 0) pe_str (fun _ _ => rfl)) pe_int) rfl)
    (pss_cons (ps_set (i := 3) scTake.nd rfl (.inl rfl) (pe_op op_mod (pe_op op_mul (pe_op op_mod (pe_op op_add (pe_dget hu (pv 0) pe_str (fun _ _ => rfl))
        (pe_op op_mul pe_int (pe_dget hu (pv 0) pe_str (fun _ _ => rfl)))) pe_int) pe_int) pe_int))
    (pss_cons (ps_dput hu (pv 0) pe_str (pe_op op_add (pe_op op_mod (pe_op op_add (pv 3) (pe_op op_mul pe_int (pe_dget hu (pv 0) pe_str (fun _ _ => rfl)))) pe_int) pe_int) rfl)
    (pss_one (ps_ret (pe_op op_mod (pe_op op_fdiv (pe_op op_add (pe_op op_mul (pv 3) pe_int) (pe_dget hu (pv 0) pe_str (fun _ _ => rfl))) pe_int) (pv 1)))))))), ?_⟩
  refine ⟨fun σ H1 => ∃ n1 gs1, σ = [some (.ref p), some (.int m), none, none] ∧ H1 p = some (.dK (bx g n1 sd t)) ∧ H1 g = some (.lst (List.map V.int gs1)) ∧ gs1.length ≤ 1000 ∧ Off [p, g] H H1, ?_, ?_⟩
  · refine ⟨_, rfl, p, _, rfl, get_now hp, rfl, _, rfl, ite2 (fun c => ?_) (fun c => iteF ⟨n, gs, rfl, hp, hg, hl, Off.refl _ _⟩)⟩
    refine ⟨_, rfl, p, _, rfl, get_great hp, g, _, rfl, .inl (SqL.of hg), _, _, rfl, rfl, _, rfl, ite2 (fun c2 => ?_) (fun c2 => ⟨n, gs, rfl, hp, hg, hl, Off.refl _ _⟩)⟩
    have c3 : (0 : Int) < (((List.map V.int gs).length : Nat) : Int) := of_decide_eq_true c2
    rw [List.length_map] at c3
    have hlast : (List.map V.int gs)[(List.map V.int gs).length - 1]? = some (V.int (gs[gs.length - 1]'(by omega))) := by
      rw [List.length_map, List.getElem?_map, List.getElem?_eq_getElem (by omega)]
      rfl
    have hp1 : (upd H g (.lst (List.map V.int gs).dropLast)) p = some (.dK (bx g n sd t)) := by rw [upd_ne npg]; exact hp
    refine ⟨_, rfl, p, _, rfl, get_great hp, .inl ⟨rfl, _, .inl (.inl hg)⟩, g, _, _, rfl, rfl, hg, hlast, _, rfl, p, _, rfl, set_now _ hp1, ?_⟩
    refine ⟨_, gs.dropLast, rfl, upd_same, ?_, ?_, ?_⟩
    · rw [upd_ne npg.symm, upd_same, List.map_dropLast]
    · rw [List.length_dropLast]
      omega
    · exact (Off.put (by simp)).trans (Off.put (by simp))
  · rintro σ H1 ⟨n1, gs1, rfl, hp1, hg1, hl1, of1⟩
    refine ⟨_, rfl, p, _, rfl, get_now hp1, _, _, rfl, rfl, _, rfl, ite2 (fun c => ?_) (fun c => ?_)⟩
    · refine ⟨_, rfl, p, _, rfl, get_now hp1, _, rfl, _, _, rfl, rfl, m0, ?_⟩
      refine ⟨_, rfl, p, _, rfl, get_now hp1, _, rfl, _, _, rfl, rfl, wide_div m0 m9 (by decide) (by decide), _, rfl, p, _, rfl, set_now _ hp1, ?_⟩
      refine ⟨_, rfl, q _ _ (Int.emod_nonneg _ (by omega)) (Int.emod_lt_of_pos _ m0) ⟨_, sd, t, gs1, upd_same, by rw [upd_ne npg.symm]; exact hg1, hl1⟩ (of1.trans (Off.put (by simp)))⟩
    · refine ⟨_, rfl, p, _, rfl, get_turn hp1, _, _, rfl, rfl, _, rfl, p, _, rfl, set_turn _ hp1, ?_⟩
      refine ⟨_, rfl, p, _, rfl, get_seed upd_same, _, rfl, p, _, rfl, get_turn upd_same, _, _, rfl, rfl, .inl ⟨by decide, by decide⟩, _, _, rfl, rfl, _, _, rfl, rfl, c47, _, _, rfl, rfl, .inr ⟨by decide, by decide⟩, _, _, rfl, rfl, c47, ?_⟩
      refine ⟨_, rfl, _, rfl, p, _, rfl, get_seed upd_same, _, _, rfl, rfl, .inl ⟨by decide, by decide⟩, _, _, rfl, rfl, _, _, rfl, rfl, c29, _, _, rfl, rfl, _, rfl, p, _, rfl, set_seed _ upd_same, ?_⟩
      refine ⟨_, rfl, _, _, rfl, rfl, .inr ⟨by decide, by decide⟩, _, rfl, p, _, rfl, get_seed upd_same, _, _, rfl, rfl, _, _, rfl, rfl, ⟨by decide, by decide⟩, _, rfl, _, _, rfl, rfl, m0, ?_⟩
      refine q _ _ (Int.emod_nonneg _ (by omega)) (Int.emod_lt_of_pos _ m0) ⟨n1, _, _, gs1, upd_same, ?_, hl1⟩ (of1.trans ((Off.put (by simp)).trans (Off.put (by simp))))
      rw [upd_ne npg.symm, upd_ne npg.symm]
      exact hg1
end
theorem cutV_ints (ns : List Int) (lo hi : Option Int) : ∃ ms : List Int, cutV (ns.map V.int) lo hi = ms.map V.int ∧ ms.length ≤ ns.length := by
  refine ⟨(ns.drop (HT.sIx ns.length 0 lo)).take (HT.sIx ns.length ns.length hi - HT.sIx ns.length 0 lo), ?_, ?_⟩
  · unfold cutV
    rw [List.length_map, List.map_take, List.map_drop]
  · rw [List.length_take, List.length_drop]
    omega
theorem int_at {ms : List Int} {i : Nat} {y : V} (h : (ms.map V.int)[i]? = some y) : ∃ z, y = V.int z := by
  rw [List.getElem?_map] at h
  cases e : ms[i]? with
  | none =>
    rw [e] at h
    cases h
  | some z =>
    rw [e] at h
    exact ⟨z, (Option.some.inj h).symm⟩
theorem scBox : FnScope ["_law_script", "_law_base", "_law_seed", "_law_cell", "_law_great"] ["_law_script", "_law_base"] (defScope sBox) :=
  ⟨rfl, rfl, rfl, by decide +kernel, rfl, by decide +kernel, by decide +kernel⟩
section
variable {P : Program} {w : World} {K : PySem.W.Frag} {mg : Str → Option Value} {base : Heap} {f : Addr} {fd : FuncData}
theorem ok_box {k : Nat} (F : Fun K "_law_box" "_law_box" sBox f fd) (mab : mg "abs" = none) : FnOk P w K mg base CX0 (k + 1) f fd ["_law_script", "_law_base"] (spBox K) := by
  refine F.ok scBox (fun vs H Q E h => ?_) (fun cdv A outer s H vs Q E hr h => ?_)
  · obtain ⟨a, ns, c, rfl, _⟩ := h
    rfl
  obtain ⟨a, ns, c, rfl, hS, hlen, c0, c9, q⟩ := h
  have hu := hu_of hr
  refine ⟨_, pss_cons (ps_set (i := 2) scBox.nd rfl (.inl rfl) (pe_op op_add pe_int (pe_op op_mul pe_int (pv 1))))
    (pss_cons (ps_for PassesOwn.never rfl (pi_list (pe_slice sl_list (pv 0) po_none (po_some pe_int))) (pg_name (i := 3) scBox.nd rfl (.inl rfl))
      (pss_one (ps_set (i := 2) scBox.nd rfl (.inl rfl) (pe_op op_mod (pe_op op_add (pe_op op_add (pe_op op_mul (pv 2) pe_int)
        (pe_op op_mod (pe_callB call_abs (by rfl) mab (by decide +kernel) (pa_cons (pv 3) pa_nil)) pe_int)) pe_int) pe_int))))
    (pss_cons (ps_setLc (i := 4) (own := [("_law_cell", 3)]) (g := gName 3) (by rfl) scBox.nd rfl rfl (sw_true rfl rfl rfl (by decide +kernel))
      (pi_list (pe_slice sl_list (pv 0) (po_some (pv 1)) (po_some pe_int)))
      (blkOk_by (own := [("_law_cell", 3)]) (N := ["_law_script", "_law_base", "_law_seed", "_law_cell", "_law_great"]) (sc := defScope sBox) (by decide +kernel))
      (fun _ _ _ _ _ => pg_name (i := 3) scBox.nd rfl (Or.inl rfl))
      (fun _ _ _ _ _ => pts_one (pt_cmpR op_ge (pe_callB call_abs (by rfl) mab (by decide +kernel) (pa_cons (pv 3) pa_nil)) (pe_op op_pow pe_int pe_int) (nomark _)))
      (fun _ _ _ _ _ => pe_callB call_abs (by rfl) mab (by decide +kernel) (pa_cons (pv 3) pa_nil)))
    (pss_one (ps_ret (pe_disp (pps_cons pe_str (pe_revL (pv 4)) (pps_cons pe_str pe_int (pps_cons pe_str (pe_op op_add (pv 2) pe_int) (pps_cons pe_str pe_int pps_nil))))
      (by rfl) (by rfl) (fun z => by cases z) (by decide)))))), ?_⟩
  refine ⟨_, rfl, _, _, rfl, rfl, .inl ⟨by decide, by decide⟩, _, _, rfl, rfl, ?_⟩
  refine ⟨_, rfl, 50, rfl, a, _, rfl, hS, fun q0 hq0 => ?_⟩
  obtain ⟨ms, em, lm⟩ := cutV_ints ns none (some 50)
  rw [em]
  have s1 : Same H (upd H q0 (.lst (ms.map V.int))) := same_new hq0 _
  refine ⟨q0, rfl, ⟨_, SqL.of upd_same⟩, for_list (K := K) (a := q0) (xs := ms.map V.int) (fun i σ H2 => ∃ (z : Int) (v : Option V), σ = [some (.ref a), some (.int c), some (.int z), v, none] ∧ -(2 ^ 40) < z ∧ z < 2 ^ 40 ∧ H2 = upd H q0 (.lst (ms.map V.int)))
    ⟨7001 + 211 * c, none, rfl, by omega, by omega, rfl⟩ (fun i σ H2 _ ⟨_, _, _, _, _, e⟩ => by rw [e]; exact SqL.of upd_same) ?_ ?_⟩
  · rintro i y σ H2 hi ⟨z, v, rfl, z0, z1, rfl⟩
    obtain ⟨x, rfl⟩ := int_at hi
    refine ⟨_, rfl, _, _, rfl, rfl, .inr ⟨by decide, by decide⟩, _, rfl, _, rfl, _, _, rfl, rfl, c29, _, _, rfl, rfl, _, _, rfl, rfl, _, _, rfl, rfl, c47, ?_⟩
    exact ⟨_, _, rfl, Int.lt_of_lt_of_le (by decide) (Int.emod_nonneg _ (by decide)), Int.lt_trans (Int.emod_lt_of_pos _ c47) (by decide), rfl⟩
  · rintro σ H2 ⟨z, v, rfl, z0, z1, rfl⟩
    refine ⟨_, rfl, _, rfl, c, rfl, 50, rfl, a, _, rfl, s1.seq hS, fun q1 hq1 => ?_⟩
    obtain ⟨ks, ek, lk⟩ := cutV_ints ns (some c) (some 50)
    rw [ek]
    have s2 := s1.trans (same_new hq1 (.lst (ks.map V.int)))
    refine ⟨q1, rfl, ⟨_, SqL.of upd_same⟩, fun D hD => lc_list (K := K) (a := q1) (xs := ks.map V.int) (fun i H3 => ∃ gs : List Int, gs.length ≤ i ∧ H3 D = some (.lst (gs.map V.int)) ∧ H3 q1 = some (.lst (ks.map V.int)) ∧ Same H H3)
      ⟨[], Nat.le_refl _, upd_same, by rw [upd_ne (ne_of_none upd_same hD), upd_same], s2.trans (same_new hD _)⟩ (fun i H3 _ ⟨_, _, _, h, _⟩ => SqL.of h) ?_ ?_⟩
    · rintro i y H3 hi ⟨gs, lg, h1, h2, h3⟩
      have hik := (List.getElem?_eq_some_iff.mp hi).1
      rw [List.length_map] at hik
      obtain ⟨x, rfl⟩ := int_at hi
      refine ⟨rfl, _, rfl, _, rfl, _, _, rfl, rfl, ⟨by decide, by decide, by decide⟩, _, _, rfl, rfl, _, rfl, ite2 (fun _ => ?_) (fun _ => ?_)⟩
      · refine ⟨_, rfl, _, rfl, _, h1, ?_, gs ++ [if x < 0 then -x else x], ?_, ?_, ?_, ?_⟩
        · rw [List.length_map]
          exact small1000 (by omega)
        · rw [List.length_append, List.length_singleton]
          omega
        · rw [upd_same, List.map_append]
          rfl
        · rw [upd_ne (ne_of_none upd_same hD)]
          exact h2
        · intro b o e
          rw [upd_ne (ne_of_none e (s2.free hD))]
          exact h3 b o e
      · exact ⟨gs, by omega, h1, h2, h3⟩
    · rintro H3 ⟨gs, lg, h1, h2, h3⟩
      rw [List.length_map] at lg
      refine fun p hp => ⟨_, rfl, D, _, rfl, SqL.of (by rw [upd_ne (ne_of_none h1 hp)]; exact h1), fun g hg => ?_⟩
      have ngp : g ≠ p := fun e => by
        rw [e, upd_same] at hg
        cases hg
      have hp2 : (upd (upd H3 p (.dK [])) g (.lst (gs.map V.int).reverse)) p = some (.dK []) := by rw [upd_ne ngp.symm, upd_same]
      refine ⟨_, rfl, _, _, rfl, rfl, hp2, bx g 0 (z + 1) 0, rfl, by show 4 ≤ 15; decide, ?_⟩
      rw [mer_box]
      have hg3 : H3 g = none := by
        rw [upd_ne ngp] at hg
        exact hg
      refine q p g _ ⟨0, z + 1, 0, gs.reverse, upd_same, ?_, ?_⟩ ?_ (h3.free hp) (h3.free hg3)
      · rw [upd_ne ngp, upd_same, List.map_reverse]
      · rw [List.length_reverse]
        omega
      · intro b o e
        have e3 := h3 b o e
        rw [upd_ne (ne_of_none e3 hp), upd_ne (ne_of_none e3 hg3), upd_ne (ne_of_none e3 hp)]
        exact e3
end
structure Tk (P : Program) (w : World) (K : PySem.W.Frag) (mg : Str → Option Value) (base : Heap) (f : Addr) (fd : FuncData) : Prop where
  ok : FnOk P w K mg base CX0 1 f fd ["_law_box_here", "_law_many"] spTake
  kp : PySem.W.keepIn K (.ref f) = true
  bd : Binds K fd ["_law_box_here", "_law_many"] []
  mg : mg "_law_take" = some (.ref f)
theorem atI_ok {α : Type} {xs : List α} {r : Int} (h0 : 0 ≤ r) (h : r < (xs.length : Int)) : ∃ x, atI xs r = some x ∧ x ∈ xs ∧ xs[r.toNat]? = some x := by
  have hr : r.toNat < xs.length := by omega
  have e : r = (r.toNat : Int) := by omega
  have q : atI xs ((r.toNat : Nat) : Int) = some xs[r.toNat] := atI_nat (List.getElem?_eq_getElem hr)
  rw [← e] at q
  exact ⟨xs[r.toNat], q, List.getElem_mem hr, List.getElem?_eq_getElem hr⟩
theorem okG {P : Program} {w : World} {K : PySem.W.Frag} {mg : Str → Option Value} {base : Heap} {x qual : Str} {st : Stmt} {f : Addr} {fd : FuncData} {N ps : List Str} {k : Nat} {sp : Sp} (F : Fun K x qual st f fd) (S : FnScope N ps (defScope st))
    (len : ∀ ws H Q E, sp ws H Q E → ws.length = ps.length)
    (hb : ∀ (cdv : Value) (A : Around) (outer : List Env) (s : Shared) (H : Hp) (vs : List V) (Q : VK) (E : XK), A.guards = some [] → Room k (A.deeper (envOfC qual (defScope st) s.heap.objs.size f cdv)) → sp vs H Q E →
      ∃ t, PSs (cxOf CX0 P w K mg base N qual (defScope st) f cdv A outer s H E).nox (defBody st) t ∧ t { nx := fun _ H' => Q .non H', rt := Q } (start N vs) H) : FnG P w K mg base CX0 (k + 1) f fd ps sp := by
  obtain ⟨oc, od, kV, doc, pm, an, cdv, ct, osl, rfl, lk, hcd⟩ := F.ex
  refine fnG_of lk hcd S len ?_
  intro A outer s H vs Q E hg hr hsp
  obtain ⟨t, h, q⟩ := hb cdv A outer s H vs Q E hg hr hsp
  exact ⟨t, h.nox, q⟩
theorem bool_prn (b : Bool) : Prn (.bool b) := prn_of (by simp only [gd]) (by simp only [nod]; omega) (by simp only [PyData.depth]; omega)
/-- a def of the top that keeps a promise -/
structure Dn (P : Program) (w : World) (K : PySem.W.Frag) (mg : Str → Option Value) (base : Heap) (lvl : Nat) (nm : Str) (ps : List Str) (sp : Sp) (f : Addr) (fd : FuncData) : Prop where
  ok : FnOk P w K mg base CX0 lvl f fd ps sp
  kp : PySem.W.keepIn K (.ref f) = true
  bd : Binds K fd ps []
  mg : mg nm = some (.ref f)
theorem cut_less {l m : List Addr} {H : Hp} (h : ∀ b ∈ m, b ∈ l) : Same (cut l H) (cut m H) := fun b o e => by
  obtain ⟨n, e⟩ := cut_some e
  rw [cut_out (fun z => n (h b z))]
  exact e
theorem cut_more {l : List Addr} {H : Hp} {a : Addr} {o : HO} (h : H a = none) : Same (cut l H) (cut (a :: l) (upd H a o)) := fun b u e => by
  obtain ⟨n, e⟩ := cut_some e
  have nb := ne_of_none e h
  rw [cut_out (fun z => (List.mem_cons.mp z).elim nb n), upd_ne nb]
  exact e
theorem dp_true {K : PySem.W.Frag} {H : Hp} {b : Bool} (h : b = true) : Dp K H (.bl b) (.bool true) := by
  rw [h]
  exact .bl true
theorem DpAll.parts {K : PySem.W.Frag} {H : Hp} {xs : List V} {ds : List PyData} (h : DpAll K H xs ds) (i : Nat) : DpAll K H (xs.take i) (ds.take i) ∧ DpAll K H (xs.drop i) (ds.drop i) := by
  have lx := DpAll.len h
  obtain ⟨d1, d2, e, a, b⟩ := DpAll.unapp (xs := xs.take i) (ys := xs.drop i) (by rw [List.take_append_drop]; exact h)
  have la := DpAll.len a
  have lb := DpAll.len b
  rw [List.length_take] at la
  rw [List.length_drop] at lb
  subst e
  by_cases hi : i ≤ xs.length
  · have l1 : d1.length = i := by omega
    have e1 : (d1 ++ d2).take i = d1 := by rw [← l1]; exact List.take_left
    have e2 : (d1 ++ d2).drop i = d2 := by rw [← l1]; exact List.drop_left
    rw [e1, e2]
    exact ⟨a, b⟩
  · have l2 : d2 = [] := List.length_eq_zero_iff.mp (by omega)
    subst l2
    rw [List.append_nil, List.take_of_length_le (l := d1) (by omega), List.drop_of_length_le (l := d1) (by omega)]
    exact ⟨a, b⟩
theorem cutV_dp {K : PySem.W.Frag} {H : Hp} {xs : List V} {ds : List PyData} (h : DpAll K H xs ds) (lo hi : Option Int) : ∃ es, DpAll K H (cutV xs lo hi) es ∧ ∀ e ∈ es, e ∈ ds := by
  unfold cutV
  exact ⟨_, (DpAll.parts (DpAll.parts h _).2 _).1, fun e he => List.mem_of_mem_drop (List.mem_of_mem_take he)⟩
theorem gd_int {i : Int} (h : i.natAbs < 2 ^ 1000) : gd (.int i) = true := by
  simp only [gd]
  exact decide_eq_true (Nat.lt_trans (PySem.Flt.log2_lt_of (by decide) h) (by decide))
abbrev sSorts : Stmt := topS 3
abbrev sItems : Stmt := topS 4
abbrev sInner : Stmt := topS 5
def isT (h : Str) : Bool := teL.any fun p => decide (p.1 = h)
def sortS (c : Nat) : Str := if c = 101 then "expression" else if c = 116 then "test" else if c = 115 then "expressions" else if c = 107 then "integer" else if c = 110 then "name" else if c = 105 then "index" else "kind"
def sortsV (sl : Str) : List V := sl.cps.toList.map fun c => V.str (sortS c)
def wantS (h : Str) : Str := if isT h = true then "test" else "expression"
theorem isT_e : ∀ p ∈ exL, isT p.1 = false := by decide +kernel
theorem isT_t : ∀ p ∈ teL, isT p.1 = true := by decide +kernel
/-- the two tables of the program's top -/
structure Tab (K : PySem.W.Frag) (w : World) (mg : Str → Option Value) (aE : Addr) (esE : Array DictEntry) (nE : Nat) (aT : Addr) (esT : Array DictEntry) (nT : Nat) : Prop where
  mE : mg "EXPRESSIONS" = some (.ref aE)
  mT : mg "TESTS" = some (.ref aT)
  dE : KDict K w aE esE nE
  dT : KDict K w aT esT nT
  e1 : ∀ p ∈ exL, ∃ a, PySem.W.nsIn K aE p.1 = some (some (.ref a)) ∧ ∀ H, SqT K H a (sortsV p.2)
  t1 : ∀ p ∈ teL, ∃ a, PySem.W.nsIn K aT p.1 = some (some (.ref a)) ∧ ∀ H, SqT K H a (sortsV p.2)
  e0 : ∀ p ∈ exL, PySem.W.nsIn K aT p.1 = some none
theorem scSorts : FnScope ["word", "wanted"] ["word", "wanted"] (defScope sSorts) := ⟨rfl, rfl, rfl, by decide +kernel, rfl, by decide +kernel, by decide +kernel⟩
theorem scItems : FnScope ["tree", "wanted"] ["tree"] (defScope sItems) := ⟨rfl, rfl, rfl, by decide +kernel, rfl, by decide +kernel, by decide +kernel⟩
def spSorts (K : PySem.W.Frag) : Sp := fun vs H Q _ => ∃ h sl, vs = [.str h, .str (wantS h)] ∧ (h, sl) ∈ allL ∧ ∀ a, (∀ H', SqT K H' a (sortsV sl)) → Q (.ref a) H
/-- pairs of an item and its sort -/
def spItems (K : PySem.W.Frag) : Sp := fun vs H Q _ => ∃ a h sl xs, vs = [.ref a] ∧ SqT K H a (.str h :: xs) ∧ xs.length ≤ 1000 ∧ (h, sl) ∈ allL ∧ xs.length = sl.cps.toList.length ∧
  ∀ (p : Addr) (ts : List Addr) (H' : Hp), Same H H' → H p = none → H' p = some (.lst (ts.map V.ref)) → ts.length = xs.length → (∀ (j : Nat) (t : Addr), ts[j]? = some t → ∃ x c, xs[j]? = some x ∧ sl.cps.toList[j]? = some c ∧ H' t = some (.tup [x, .str (sortS c)])) → Q (.ref p) H'
section
variable {P : Program} {w : World} {K : PySem.W.Frag} {mg : Str → Option Value} {base : Heap} {f fS : Addr} {fd dS : FuncData} {aE aT : Addr} {esE esT : Array DictEntry} {nE nT : Nat}
theorem ok_sorts {k : Nat} (F : Fun K "sorts_behind" "sorts_behind" sSorts f fd) (TB : Tab K w mg aE esE nE aT esT nT) : FnOk P w K mg base CX0 (k + 1) f fd ["word", "wanted"] (spSorts K) := by
  refine F.ok scSorts (fun vs H Q E h => ?_) (fun cdv A outer s H vs Q E hr h => ?_)
  · obtain ⟨h, sl, rfl, _⟩ := h
    rfl
  obtain ⟨h, sl, rfl, m, q⟩ := h
  refine ⟨_, pss_one (ps_ret (pe_ifExp (pt_cmpR op_eq (pv 1) pe_str (nomark _)) (pe_kget TB.dT (pe_glob (by rfl) TB.mT (v := .ref aT) rfl) (pv 0) ⟨rfl, rfl, rfl, rfl⟩) (pe_kget TB.dE (pe_glob (by rfl) TB.mE (v := .ref aE) rfl) (pv 0) ⟨rfl, rfl, rfl, rfl⟩))), ?_⟩
  refine ⟨_, rfl, rfl, _, rfl, ?_⟩
  rcases List.mem_append.mp m with m | m
  · have e := isT_e _ m
    obtain ⟨a, n1, sq⟩ := TB.e1 _ m
    have e2 : wantS h = "expression" := by unfold wantS; rw [e]; rfl
    rw [e2]
    exact iteF ⟨rfl, _, rfl, h, _, _, rfl, n1, (show RelV (V.ref a) (Value.ref a) from rfl), q a sq⟩
  · have e := isT_t _ m
    obtain ⟨a, n1, sq⟩ := TB.t1 _ m
    have e2 : wantS h = "test" := by unfold wantS; rw [e]; rfl
    rw [e2]
    exact iteT ⟨rfl, _, rfl, h, _, _, rfl, n1, (show RelV (V.ref a) (Value.ref a) from rfl), q a sq⟩
theorem ok_items {k : Nat} (F : Fun K "sorted_items" "sorted_items" sItems f fd) (TB : Tab K w mg aE esE nE aT esT nT) (ml : mg "list" = none) (mz : mg "zip" = none) (GS : Dn P w K mg base 1 "sorts_behind" ["word", "wanted"] (spSorts K) fS dS) :
    FnOk P w K mg base CX0 (k + 2) f fd ["tree"] (spItems K) := by
  refine F.ok scItems (fun vs H Q E h => ?_) (fun cdv A outer s H vs Q E hr h => ?_)
  · obtain ⟨a, h, sl, xs, rfl, _⟩ := h
    rfl
  obtain ⟨a, h, sl, xs, rfl, hx, lx, m, le, q⟩ := h
  have hr1 : Room 1 _ := hr.mono (by omega)
  refine ⟨_, pss_cons (ps_set (i := 1) scItems.nd rfl (.inl rfl) (pe_ifExp (pt_cmpR (op_in_kd TB.dT) (pe_ix ix_tup (pv 0) pe_int (fun _ _ => rfl)) (pe_glob (by rfl) TB.mT (v := .ref aT) rfl) rfl) pe_str pe_str))
    (pss_one (ps_ret (pe_listZip (by rfl) (pa_cons (pe_slice sl_tupA (pv 0) (po_some pe_int) po_none) (pa_cons (pe_call GS.ok hr1 (by rfl) GS.mg GS.kp GS.bd .nil pass0 (pa_cons (pe_ix ix_tup (pv 0) pe_int (fun _ _ => rfl)) (pa_cons (pv 1) pa_nil))) pa_nil)) (by rfl) ml (by rfl) mz))), ?_⟩
  have a0 : atI (V.str h :: xs) 0 = some (.str h) := atI_nat (j := 0) rfl
  have nr : ∃ r, PySem.W.nsIn K aT h = some r ∧ r.isSome = isT h := by
    rcases List.mem_append.mp m with m | m
    · exact ⟨_, TB.e0 _ m, (isT_e _ m).symm⟩
    · obtain ⟨a, n1, sq⟩ := TB.t1 _ m
      exact ⟨_, n1, (isT_t _ m).symm⟩
  obtain ⟨r, n1, er⟩ := nr
  have e3 : ∀ b : Bool, b = isT h → (if b = true then ("test" : Str) else "expression") = wantS h := fun b e => by
    unfold wantS
    rw [e]
  have fin : ∀ (cc : Addr) (H1 : Hp), Same H H1 → SqT K H1 cc xs → ∀ bb, (∀ H', SqT K H' bb (sortsV sl)) → ∀ (p : Addr) (ts : List Addr) (H' : Hp), Same H1 H' → H1 p = none → (∀ t ∈ ts, H1 t = none) → p ∉ ts → H' p = some (.lst (ts.map V.ref)) → ts.length = min xs.length (sortsV sl).length → (∀ (j : Nat) (t : Addr), ts[j]? = some t → ∃ x y, xs[j]? = some x ∧ (sortsV sl)[j]? = some y ∧ H' t = some (.tup [x, y])) → Q (.ref p) H' := by
    intro cc H1 s1 hc bb hb p ts H' s2 hp _ _ hl lt at'
    have ls : (sortsV sl).length = xs.length := by
      unfold sortsV
      rw [List.length_map, le]
    refine q p ts H' (s1.trans s2) (s1.free hp) hl (by omega) fun j t ht => ?_
    obtain ⟨x, y, e1, e2, e4⟩ := at' j t ht
    unfold sortsV at e2
    rw [List.getElem?_map] at e2
    obtain ⟨c, ec, rfl⟩ := Option.map_eq_some_iff.mp e2
    exact ⟨x, c, e1, ec, e4⟩
  refine ⟨_, rfl, a, _, 0, _, rfl, rfl, hx, a0, h, r, rfl, rfl, n1, ?_⟩
  rw [er]
  refine ⟨_, rfl, ite2 (fun c => ?_) (fun c => ?_)⟩
  all_goals
    refine ⟨_, rfl, 1, rfl, a, _, rfl, hx, (fun e => ?_), fun _ cc hcc => ?_⟩
    · have e := e.1
      rw [show (1 : Int) = ((1 : Nat) : Int) from rfl, HT.sIx_nat, List.length_cons] at e
      omega
    rw [cutV_drop _ (by decide) (by simp only [List.length_cons]; omega)]
    have s1 : Same H (upd H cc (.tup xs)) := same_new hcc _
    refine ⟨_, rfl, a, _, 0, _, rfl, rfl, seqT_up s1 hx, a0, _, rfl, h, sl, ?_, m, fun bb hb => ⟨cc, bb, xs, sortsV sl, rfl, .inl (.inl upd_same), hb _, fin cc _ s1 (.inl (.inl upd_same)) bb hb⟩⟩
    unfold wantS
    first
      | exact congrArg (fun z => [V.str h, V.str z]) (if_pos c).symm
      | exact congrArg (fun z => [V.str h, V.str z]) (if_neg c).symm
end
theorem scInner : FnScope ["tree", "found", "index", "item", "sort", "at", "inner"] ["tree"] (defScope sInner) := ⟨rfl, rfl, rfl, by decide +kernel, rfl, by decide +kernel, by decide +kernel⟩
/-- tuples of a path, a tree and a sort -/
def Inn (K : PySem.W.Frag) (H : Hp) (ts : List Addr) (ks : List (List Int × PyData)) : Prop :=
  ts.length = ks.length ∧ ∀ (j : Nat) (t : Addr), ts[j]? = some t → ∃ p q x s, ks[j]? = some p ∧ H t = some (.tup [.ref q, x, .str s]) ∧ H q = some (.tup (p.1.map V.int)) ∧ Dp K H x p.2
theorem Inn.nil {K : PySem.W.Frag} {H : Hp} : Inn K H [] [] := ⟨rfl, fun j t e => by simp at e⟩
theorem Inn.up {K : PySem.W.Frag} {H H' : Hp} {ts : List Addr} {ks : List (List Int × PyData)} (h : Inn K H ts ks) (s : Same H H') : Inn K H' ts ks :=
  ⟨h.1, fun j t e => by
    obtain ⟨p, q, x, z, e1, e2, e3, e4⟩ := h.2 j t e
    exact ⟨p, q, x, z, e1, s _ _ e2, s _ _ e3, Dp.up s _ _ e4⟩⟩
theorem Inn.app {K : PySem.W.Frag} {H : Hp} {ts ts2 : List Addr} {ks ks2 : List (List Int × PyData)} (h : Inn K H ts ks) (g : Inn K H ts2 ks2) : Inn K H (ts ++ ts2) (ks ++ ks2) := by
  refine ⟨by rw [List.length_append, List.length_append, h.1, g.1], fun j t e => ?_⟩
  by_cases hj : j < ts.length
  · rw [List.getElem?_append_left hj] at e
    rw [List.getElem?_append_left (by rw [← h.1]; exact hj)]
    exact h.2 j t e
  · rw [List.getElem?_append_right (by omega)] at e
    rw [List.getElem?_append_right (by rw [← h.1]; omega), ← h.1]
    exact g.2 _ t e
theorem Inn.one {K : PySem.W.Frag} {H : Hp} {t q : Addr} {p : List Int × PyData} {x : V} {s : Str} (e2 : H t = some (.tup [.ref q, x, .str s])) (e3 : H q = some (.tup (p.1.map V.int))) (e4 : Dp K H x p.2) : Inn K H [t] [p] := by
  refine ⟨rfl, fun j t' e => ?_⟩
  cases j with
  | zero =>
    cases e
    exact ⟨p, q, x, s, rfl, e2, e3, e4⟩
  | succ j => simp at e
theorem Inn.ref {ts : List Addr} {j : Nat} {y : V} (h : (ts.map V.ref)[j]? = some y) : ∃ t, ts[j]? = some t ∧ y = .ref t := by
  rw [List.getElem?_map] at h
  obtain ⟨t, e, rfl⟩ := Option.map_eq_some_iff.mp h
  exact ⟨t, e, rfl⟩
theorem inSlot_len (k c : Nat) (d : PyData) : (inSlot k c d).length ≤ nod d := by
  have := nod_pos d
  unfold inSlot
  split
  · cases d with
    | tuple es =>
      have := nods_len es
      simp only [List.length_map, List.length_zipIdx, nod]
      omega
    | _ => simp
  · split
    · simpa using this
    · simp
theorem inArgs_len : ∀ (k : Nat) (cs : List Nat) (ds : List PyData), (inArgs k cs ds).length ≤ nods ds
  | k, c :: cs, d :: ds => by
    have h1 := inSlot_len k c d
    have h2 := inArgs_len (k + 1) cs ds
    simp only [inArgs, List.length_append, nods]
    omega
  | _, [], _ => by simp [inArgs]
  | _, _ :: _, [] => by simp [inArgs]
theorem inArgs_part (k : Nat) (cs : List Nat) (ds : List PyData) (i : Nat) : (inArgs k (cs.take i) (ds.take i)).length ≤ nods ds := Nat.le_trans (inArgs_len _ _ _) (nods_take _ _)
theorem pg_tupK {X : Cx} {K : PySem.W.Frag} {pos : Pos} {es : List Expr} {k : Nat} {t : TGs} {n : Nat} (h0 : X.K = K) (hc : X.calm = true) (h : PGs X es t)
    (hn : (assignEach es X.env).length = n := by rfl) (hst : (assignEach es X.env).findIdx? (·.1) = none := by rfl) : PG X (.Tuple es k pos) (gTup K n t) := by
  subst h0
  exact pg_tup hc h hn hst
def spInner (K : PySem.W.Frag) : Sp := fun vs H Q _ => ∃ a h sl xs args, vs = [.ref a] ∧ SqT K H a (.str h :: xs) ∧ DpAll K H xs args ∧ nods args ≤ 900 ∧ (h, sl) ∈ allL ∧ ShA sl.cps.toList args ∧
  ∀ (L : Addr) (ts : List Addr) (H' : Hp), Same H H' → H L = none → H' L = some (.lst (ts.map V.ref)) → Inn K H' ts (inArgs 1 sl.cps.toList args) → Q (.ref L) H'
theorem sortS_s : ∀ c : Nat, (sortS c = "expressions") = (c = 115) := by
  intro c
  unfold sortS
  refine propext ⟨fun h => ?_, fun h => by subst h; rfl⟩
  revert h
  repeat' split
  all_goals first
    | exact fun _ => by assumption
    | exact fun h => absurd h (by decide +kernel)
theorem sortS_et : ∀ c : Nat, (sortS c = "expression" ∨ sortS c = "test") = (c = 101 ∨ c = 116) := by
  intro c
  unfold sortS
  refine propext ⟨fun h => ?_, fun h => ?_⟩
  · revert h
    repeat' split
    all_goals first
      | exact fun _ => .inl (by assumption)
      | exact fun _ => .inr (by assumption)
      | exact fun h => absurd h (by decide +kernel)
  · rcases h with h | h
    · subst h
      exact .inl rfl
    · subst h
      exact .inr rfl
theorem inV2 (s : Str) : inV (.str s) [.str "expression", .str "test"] = true ↔ s = "expression" ∨ s = "test" := by
  simp only [inV, List.any_cons, List.any_nil, eqV, Bool.or_false, Bool.or_eq_true, beq_iff_eq]
  exact ⟨fun h => h.imp Eq.symm Eq.symm, fun h => h.imp Eq.symm Eq.symm⟩
section
variable {P : Program} {w : World} {K : PySem.W.Frag} {mg : Str → Option Value} {base : Heap} {f fI : Addr} {fd dI : FuncData}
theorem ok_inner {k : Nat} (F : Fun K "inner_trees" "inner_trees" sInner f fd) (me : mg "enumerate" = none) (GI : Dn P w K mg base 2 "sorted_items" ["tree"] (spItems K) fI dI) :
    FnOk P w K mg base CX0 (k + 3) f fd ["tree"] (spInner K) := by
  refine F.ok scInner (fun vs H Q E h => ?_) (fun cdv A outer s H vs Q E hr h => ?_)
  · obtain ⟨a, h, sl, xs, args, rfl, _⟩ := h
    rfl
  obtain ⟨a, h, sl, xs, args, rfl, hx, dx, na, m, sh, q⟩ := h
  have hr2 : Room 2 _ := hr.mono (by omega)
  refine ⟨_, pss_cons (ps_set (i := 1) scInner.nd rfl (.inl rfl) (pe_lst pa_nil))
    (pss_cons (ps_for PassesOwn.never rfl (pi_enumK (by rfl) me (pa_cons (pe_call GI.ok hr2 (by rfl) GI.mg GI.kp GI.bd .nil pass0 (pa_cons (pv 0) pa_nil)) (pa_cons pe_int pa_nil)))
      (pg_tup (by rfl) (pgs_cons (pg_name (i := 2) scInner.nd rfl (.inr rfl)) (pgs_cons (pg_tup (by rfl) (pgs_cons (pg_name (i := 3) scInner.nd rfl (.inl rfl)) (pgs_cons (pg_name (i := 4) scInner.nd rfl (.inl rfl)) pgs_nil))) pgs_nil)))
      (pss_one (ps_if (pt_cmpR op_eq (pv 4) pe_str (nomark _))
        (pss_one (ps_expr (pe_bm PySem.F.plainAttrs_list PySem.F.slot_list_extend PySem.F.type_list_extend mt_extend (pv 1) (pa_cons
          (pe_lc (own := [("at", 5), ("inner", 6)]) (g := gTup K 2 (gCons (gName 5) (gCons (gName 6) gNil))) (by rfl) scInner.nd (pi_enumA (by rfl) me (pa_cons (pv 3) pa_nil))
            (blkOk_by (own := [("at", 5), ("inner", 6)]) (N := ["tree", "found", "index", "item", "sort", "at", "inner"]) (sc := defScope sInner) (by decide +kernel))
            (fun _ _ _ _ _ => pg_tupK rfl (by rfl) (pgs_cons (pg_name (i := 5) scInner.nd rfl (Or.inl rfl)) (pgs_cons (pg_name (i := 6) scInner.nd rfl (Or.inl rfl)) pgs_nil))) (fun _ _ _ _ _ => pts_nil)
            (fun _ _ _ _ _ => pe_tup (pa_cons (pe_tup (pa_cons (pv 2) (pa_cons (pv 5) pa_nil))) (pa_cons (pv 6) (pa_cons pe_str pa_nil))))) pa_nil))))
        (pss_one (ps_if (pt_cmpR op_in_seq (pv 4) (pe_tup (pa_cons pe_str (pa_cons pe_str pa_nil))) rfl)
          (pss_one (ps_expr (pe_bm PySem.F.plainAttrs_list PySem.F.slot_list_append PySem.F.type_list_append mt_append (pv 1) (pa_cons (pe_tup (pa_cons (pe_tup (pa_cons (pv 2) pa_nil)) (pa_cons (pv 3) (pa_cons (pv 4) pa_nil)))) pa_nil)))) pss_nil)))))
    (pss_one (ps_ret (pv 1)))), ?_⟩
  refine ⟨by decide, fun L hL => ?_⟩
  have s1 : Same H (upd H L (.lst [])) := same_new hL _
  have lx := DpAll.len dx
  have la := sh.len
  have ln := nods_len args
  refine ⟨_, rfl, a, h, sl, xs, rfl, seqT_up s1 hx, by omega, m, by omega, fun p ts H3 s3 hp hl3 lt at3 => ⟨p, _, 1, rfl, SqL.of hl3, by decide, by decide, ?_⟩⟩
  have hL3 : H3 L = some (.lst []) := s3 _ _ upd_same
  have s03 : Same H (cut [L] H3) := fun b u z => by
    rw [cut_out (by simp only [List.mem_singleton]; exact ne_of_none z hL)]
    exact s3 _ _ (s1 _ _ z)
  have npL : p ≠ L := fun z => by
    rw [z, upd_same] at hp
    cases hp
  have ntL : ∀ (j : Nat) (t : Addr), ts[j]? = some t → t ≠ L := fun j t e z => by
    obtain ⟨x, c, _, _, h3⟩ := at3 j t e
    rw [z, hL3] at h3
    cases h3
  refine for_it (walk_C (Its := fun H ys => SqL K H p ys) (xs := ts.map V.ref) (k0 := 1)) (fun i σ H2 => ∃ o2 o3 o4 us, σ = [some (.ref a), some (.ref L), o2, o3, o4, none, none] ∧ H2 L = some (.lst (us.map V.ref)) ∧ Inn K (cut [L] H2) us (inArgs 1 (sl.cps.toList.take i) (args.take i)) ∧ Off [L] H3 H2)
    ⟨none, none, none, [], rfl, hL3, Inn.nil, Off.refl _ _⟩ ?_ ?_ ?_
  · rintro i σ H2 hi ⟨o2, o3, o4, us, rfl, h1, h2, h3⟩
    exact SqL.of (h3.get hl3 (by simpa using npL))
  · rintro i y σ H2 H2' hi ⟨o2, o3, o4, us, rfl, h1, h2, h3⟩ ⟨T, z, rfl, hT, rfl, hz⟩
    obtain ⟨t, ht, rfl⟩ := Inn.ref hz
    obtain ⟨x, c, ex, ec, h3t⟩ := at3 i t ht
    obtain ⟨d, ed, dxd⟩ := DpAll.get dx ex
    have s4 : Same H2 (upd H2 T (.tup [.int (1 + (i : Nat)), .ref t])) := same_new hT _
    have h2t := h3.get h3t (by simpa using ntL i t ht)
    have nTL : T ≠ L := fun e => by
      rw [e, h1] at hT
      cases hT
    have h4L : (upd H2 T (.tup [.int (1 + (i : Nat)), .ref t])) L = some (.lst (us.map V.ref)) := s4 _ _ h1
    have c4 : Same (cut [L] H2) (cut [L] (upd H2 T (.tup [.int (1 + (i : Nat)), .ref t]))) := Off.of s4
    have dxc : Dp K (cut [L] H2) x d := Dp.up (s03.trans h3) _ _ dxd
    have tk := inArgs_take (k := 1) la ec ed
    have lu : us.length ≤ 900 := by
      have := inArgs_part 1 sl.cps.toList args i
      rw [h2.1]
      omega
    have nd1 : nod d ≤ 900 := Nat.le_trans (nods_mem (List.mem_of_getElem? ed)) na
    refine ⟨T, [.int (1 + (i : Nat)), .ref t], rfl, .inl (.inl upd_same), rfl, _, _, rfl, _, _, rfl, t, [x, .str (sortS c)], rfl, .inl (.inl (s4 _ _ h2t)), rfl, _, _, rfl, _, _, rfl, rfl, rfl, ?_⟩
    refine ⟨_, rfl, rfl, _, rfl, ite2 (fun cc => ?_) (fun cc => ?_)⟩
    · have c115 : c = 115 := by
        have z : sortS c = "expressions" := V.str.inj (of_decide_eq_true cc)
        rw [sortS_s] at z
        exact z
      obtain ⟨es, rfl⟩ := sh.at ec ed c115
      subst c115
      have dx4 : Dp K (cut [L] (upd H2 T (.tup [.int (1 + (i : Nat)), .ref t]))) x (.tuple es) := Dp.up c4 _ _ dxc
      obtain ⟨b, ys, es2, rfl, e2, hb, dys⟩ := tup_of dx4 rfl
      cases e2
      have ly := DpAll.len dys
      have le2 : es.length ≤ 900 := by
        have := nods_len es
        simp only [nod] at nd1
        omega
      generalize hH4 : upd H2 T (.tup [.int (1 + (i : Nat)), .ref t]) = H4 at *
      refine ⟨_, rfl, .inl ⟨rfl, _, SqL.of h4L⟩, _, rfl, .inl ⟨b, ys, rfl, seqT_cut hb, fun D hD => ?_⟩⟩
      refine lc_it (walk_C (Its := fun H zs => SqT K H b zs) (xs := ys) (k0 := 0)) (fun j H5 => ∃ vs, H5 D = some (.lst (vs.map V.ref)) ∧ Inn K (cut [D, L] H5) vs ((es.zipIdx.take j).map fun p => ([((1 + i : Nat) : Int), (p.2 : Int)], p.1)) ∧ Same H4 (cut [D] H5) ∧ Off [L] H4 H5 ∧ Same (cut [L] H4) (cut [D, L] H5))
        ⟨[], upd_same, Inn.nil, ?_, Off.of (same_new hD _), ?_⟩ ?_ ?_ ?_
      · intro b2 u z
        rw [cut_out (by simp only [List.mem_singleton]; exact ne_of_none z hD), upd_ne (ne_of_none z hD)]
        exact z
      · intro b2 u z
        obtain ⟨z1, z2⟩ := cut_some z
        rw [cut_out (by simp only [List.mem_cons, List.not_mem_nil, or_false, not_or] at z1 ⊢; exact ⟨ne_of_none z2 hD, z1⟩), upd_ne (ne_of_none z2 hD)]
        exact z2
      · rintro j H5 hj ⟨vs, g1, g2, g3, g4, g5⟩
        exact seqT_up (g3.trans (cut_same _ _)) (seqT_cut hb)
      · rintro j y H5 H5' hj ⟨vs, g1, g2, g3, g4, g5⟩ ⟨T5, z, rfl, hT5, rfl, hz⟩
        obtain ⟨e, he, de⟩ := DpAll.get dys hz
        have q5 : Same H5 (upd H5 T5 (.tup [.int (0 + (j : Nat)), z])) := same_new hT5 _
        refine ⟨T5, [.int (0 + (j : Nat)), z], rfl, .inl (.inl upd_same), rfl, _, _, rfl, _, _, rfl, rfl, rfl, ?_⟩
        refine ⟨_, rfl, _, rfl, few (by simp), fun T6 hT6 => ⟨_, rfl, few (by simp), fun T7 hT7 => ?_⟩⟩
        have q6 := q5.trans (same_new (o := .tup [.int (1 + (i : Nat)), .int (0 + (j : Nat))]) hT6)
        have q7 := q6.trans (same_new (o := .tup [.ref T6, z, .str "expression"]) hT7)
        have g1' := q7 _ _ g1
        generalize hH6 : upd (upd H5 T5 (.tup [.int (0 + (j : Nat)), z])) T6 (.tup [.int (1 + (i : Nat)), .int (0 + (j : Nat))]) = H6 at *
        have h66 : H6 T6 = some (.tup [.int (1 + (i : Nat)), .int (0 + (j : Nat))]) := by rw [← hH6]; exact upd_same
        have g16 : H6 D = some (.lst (vs.map V.ref)) := q6 _ _ g1
        have nD7 : T7 ≠ D := fun y => by
          rw [y, g16] at hT7
          cases hT7
        have nD6 : T6 ≠ D := fun y => by
          rw [y, g16] at h66
          cases h66
        have gL : H5 L = some (.lst (us.map V.ref)) := cut_same _ _ _ _ (g3 _ _ h4L)
        have nL7 : T7 ≠ L := fun y => by
          rw [y, q6 _ _ gL] at hT7
          cases hT7
        have nL6 : T6 ≠ L := fun y => by
          rw [y, q6 _ _ gL] at h66
          cases h66
        have n67 : T6 ≠ T7 := ne_of_none h66 hT7
        have tk2 : (es.zipIdx.take (j + 1)) = es.zipIdx.take j ++ [(e, j)] := get_take (by rw [List.getElem?_zipIdx, he]; simp)
        have c8 : Off [D] H5 (upd (upd H6 T7 (.tup [.ref T6, z, .str "expression"])) D (.lst (vs.map V.ref ++ [.ref T7]))) := (Off.of q7).trans (Off.put (by simp))
        have c9 : Off [D, L] H5 (upd (upd H6 T7 (.tup [.ref T6, z, .str "expression"])) D (.lst (vs.map V.ref ++ [.ref T7]))) := c8.mono fun b hb => List.mem_cons.mpr (.inl (List.mem_singleton.mp hb))
        have lv : vs.length ≤ 900 := by
          rw [g2.1, List.length_map, List.length_take]
          simp only [List.length_zipIdx]
          omega
        refine ⟨_, g1', ?_, vs ++ [T7], ?_, ?_, g3.trans c8, ?_, g5.trans c9⟩
        · rw [List.length_map]
          exact small1000 (by omega)
        · rw [upd_same, List.map_append]
          rfl
        · rw [tk2, List.map_append]
          refine (g2.up c9).app (Inn.one (q := T6) (x := z) (s := "expression") ?_ ?_ ?_)
          · rw [cut_out (by simp [nD7, nL7]), upd_ne nD7]
            exact upd_same
          · rw [cut_out (by simp [nD6, nL6]), upd_ne nD6, upd_ne n67, h66]
            have a1 : (((1 + i : Nat)) : Int) = 1 + (i : Nat) := by omega
            have a2 : ((j : Nat) : Int) = 0 + (j : Nat) := by omega
            show some (HO.tup [V.int (1 + (i : Nat)), V.int (0 + (j : Nat))]) = some (HO.tup [V.int (((1 + i : Nat)) : Int), V.int ((j : Nat) : Int)])
            rw [a1, ← a2]
          · exact Dp.up (g5.trans c9) _ _ de
        · intro b2 u z2
          obtain ⟨y1, y2⟩ := cut_some z2
          rw [cut_out y1]
          exact c8.get (g4.get y2 y1) (by simpa using ne_of_none y2 hD)
      · rintro H5 ⟨vs, g1, g2, g3, g4, g5⟩
        rw [List.take_of_length_le (by rw [List.length_zipIdx]; omega)] at g2
        have g3' := g3.trans (cut_same _ _)
        have nDL : D ≠ L := fun y => by
          rw [y, h4L] at hD
          cases hD
        have lv : vs.length ≤ 900 := by
          rw [g2.1, List.length_map, List.length_zipIdx]
          omega
        refine ⟨L, D, _, _, rfl, rfl, g3' _ _ h4L, g1, ?_, ?_⟩
        · rw [List.length_map, List.length_map]
          exact few2 (by omega)
        have oD : Off [L] H4 (upd H5 L (.lst (us.map V.ref ++ vs.map V.ref))) := (Off.of g3').trans (Off.put (by simp))
        refine ⟨_, _, _, us ++ vs, rfl, ?_, ?_, ?_⟩
        · rw [upd_same, List.map_append]
        · rw [tk]
          have ei : inSlot (1 + i) 115 (.tuple es) = es.zipIdx.map fun p => ([((1 + i : Nat) : Int), (p.2 : Int)], p.1) := by
            unfold inSlot
            rw [if_pos rfl]
          rw [ei]
          exact (h2.up (c4.trans oD)).app (g2.up (Same.trans (cut_less fun b hb => List.mem_cons_of_mem _ hb) (Off.put (l := [L]) (by simp))))
        · exact h3.trans (c4.trans oD)
    · have n115 : ¬ c = 115 := fun z => cc (decide_eq_true (by rw [V.str.injEq, sortS_s]; exact z))
      refine ⟨_, rfl, few (by simp), fun T2 hT2 => ⟨T2, _, rfl, .inr (.inl (.inl upd_same)), rfl, rfl, _, rfl, ite2 (fun c2 => ?_) (fun c2 => ?_)⟩⟩
      · have hc : c = 101 ∨ c = 116 := by
          rw [← sortS_et]
          exact (inV2 _).mp c2
        have s5 := s4.trans (same_new (o := .tup [.str "expression", .str "test"]) hT2)
        refine ⟨_, rfl, .inl ⟨rfl, _, SqL.of (s5 _ _ h1)⟩, _, rfl, few (by simp), fun T3 hT3 => ⟨_, rfl, _, rfl, few (by simp), fun T4 hT4 => ?_⟩⟩
        have s6 := s5.trans (same_new (o := .tup [.int (1 + (i : Nat))]) hT3)
        have s7 := s6.trans (same_new (o := .tup [.ref T3, x, .str (sortS c)]) hT4)
        have h6L := s6 _ _ h1
        generalize hH6 : upd (upd (upd H2 T (.tup [.int (1 + (i : Nat)), .ref t])) T2 (.tup [.str "expression", .str "test"])) T3 (.tup [.int (1 + (i : Nat))]) = H6 at *
        have h63 : H6 T3 = some (.tup [.int (1 + (i : Nat))]) := by rw [← hH6]; exact upd_same
        have nL4 : T4 ≠ L := fun y => by
          rw [y, h6L] at hT4
          cases hT4
        have nL3 : T3 ≠ L := fun y => by
          rw [y, h6L] at h63
          cases h63
        have n34 : T3 ≠ T4 := ne_of_none h63 hT4
        have c8 : Off [L] H2 (upd (upd H6 T4 (.tup [.ref T3, x, .str (sortS c)])) L (.lst (us.map V.ref ++ [.ref T4]))) := (Off.of s7).trans (Off.put (by simp))
        refine ⟨L, _, _, rfl, rfl, s7 _ _ h1, by rw [List.length_map]; exact small1000 (by omega), _, _, _, us ++ [T4], rfl, ?_, ?_, h3.trans c8⟩
        · rw [upd_same, List.map_append]
          rfl
        · rw [tk]
          have ei : inSlot (1 + i) c d = [([((1 + i : Nat) : Int)], d)] := by
            unfold inSlot
            rw [if_neg n115, if_pos hc]
          rw [ei]
          refine (h2.up c8).app (Inn.one (q := T3) (x := x) (s := sortS c) ?_ ?_ ?_)
          · rw [cut_out (by simpa using nL4), upd_ne nL4]
            exact upd_same
          · rw [cut_out (by simpa using nL3), upd_ne nL3, upd_ne n34, h63]
            have a1 : (((1 + i : Nat)) : Int) = 1 + (i : Nat) := by omega
            show some (HO.tup [V.int (1 + (i : Nat))]) = some (HO.tup [V.int (((1 + i : Nat)) : Int)])
            rw [a1]
          · exact Dp.up c8 _ _ dxc
      · have hc : ¬ (c = 101 ∨ c = 116) := by
          rw [← sortS_et]
          exact fun z => c2 ((inV2 _).mpr z)
        have s5 := s4.trans (same_new (o := .tup [.str "expression", .str "test"]) hT2)
        refine ⟨_, _, _, us, rfl, s5 _ _ h1, ?_, h3.trans (Off.of s5)⟩
        rw [tk]
        have ei : inSlot (1 + i) c d = [] := by
          unfold inSlot
          rw [if_neg n115, if_neg hc]
        rw [ei, List.append_nil]
        exact h2.up (Off.of s5)
  · rintro σ H2 ⟨o2, o3, o4, us, rfl, h1, h2, h3⟩
    refine ⟨_, rfl, ?_⟩
    rw [List.length_map, List.take_of_length_le (by omega), List.take_of_length_le (by omega)] at h2
    have s2 : Same H H2 := s03.trans (Same.trans h3 (cut_same [L] H2))
    exact q L us H2 s2 hL h1 (h2.up (cut_same _ _))
end
abbrev sChildren : Stmt := topS 7
abbrev sSub : Stmt := topS 8
abbrev sCount : Stmt := topS 9
abbrev sAllT : Stmt := topS 10
theorem scChildren : FnScope ["tree", "path", "inner", "_"] ["tree"] (defScope sChildren) := ⟨rfl, rfl, rfl, by decide +kernel, rfl, by decide +kernel, by decide +kernel⟩
theorem scSub : FnScope ["tree", "path", "index"] ["tree", "path"] (defScope sSub) := ⟨rfl, rfl, rfl, by decide +kernel, rfl, by decide +kernel, by decide +kernel⟩
theorem scCount : FnScope ["tree"] ["tree"] (defScope sCount) := ⟨rfl, rfl, rfl, by decide +kernel, rfl, by decide +kernel, by decide +kernel⟩
theorem scAllT : FnScope ["tree", "found", "todo", "one", "_", "inner"] ["tree"] (defScope sAllT) := ⟨rfl, rfl, rfl, by decide +kernel, rfl, by decide +kernel, by decide +kernel⟩
def chD (d : PyData) : PyData := .tuple ((kids8 d).map pairD)
/-- a tree at a value: n trees, few nodes -/
structure Tre (K : PySem.W.Frag) (H : Hp) (v : V) (d : PyData) (f n : Nat) : Prop where
  dp : Dp K H v d
  wf : Wf f n d
  nd : nod d ≤ 900
  fl : nl d = true
theorem Tre.up {K : PySem.W.Frag} {H H' : Hp} {v : V} {d : PyData} {f n : Nat} (t : Tre K H v d f n) (s : Same H H') : Tre K H' v d f n := ⟨Dp.up s _ _ t.dp, t.wf, t.nd, t.fl⟩
theorem Tre.open {K : PySem.W.Frag} {H : Hp} {v : V} {d : PyData} {f n : Nat} (t : Tre K H v d f n) : ∃ a h sl xs args, v = .ref a ∧ SqT K H a (.str h :: xs) ∧ DpAll K H xs args ∧ nods args ≤ 900 ∧ (h, sl) ∈ allL ∧ ShA sl.cps.toList args ∧ kids8 d = inArgs 1 sl.cps.toList args ∧ d = .tuple (.str h :: args) := by
  obtain ⟨h, sl, args, ns, f', _, rfl, m, s, e, p, q⟩ := t.wf.open
  obtain ⟨a, xs, ds, rfl, e2, hx, dx⟩ := tup_of t.dp rfl
  cases e2
  have nn := t.nd
  simp only [nod, nods] at nn
  cases dx with
  | cons d1 d2 =>
    cases d1
    exact ⟨a, h, sl, _, args, rfl, hx, d2, by omega, m, s, e, rfl⟩
theorem inSlot_nod (k c : Nat) (d : PyData) : ∀ p ∈ inSlot k c d, nod p.2 ≤ nod d := by
  intro p hp
  unfold inSlot at hp
  split at hp
  · cases d with
    | tuple es =>
      obtain ⟨q, hq, rfl⟩ := List.mem_map.mp hp
      obtain ⟨j, hj⟩ := List.mem_iff_getElem?.mp hq
      rw [List.getElem?_zipIdx] at hj
      obtain ⟨x, hx, e⟩ := Option.map_eq_some_iff.mp hj
      subst e
      have := nods_mem (List.mem_of_getElem? hx)
      simp only [nod]
      omega
    | _ => simp at hp
  · split at hp
    · rw [List.mem_singleton.mp hp]
      exact Nat.le_refl _
    · cases hp
theorem inSlot_nl (k c : Nat) (d : PyData) (h : nl d = true) : ∀ p ∈ inSlot k c d, nl p.2 = true := by
  intro p hp
  unfold inSlot at hp
  split at hp
  · cases d with
    | tuple es =>
      obtain ⟨q, hq, rfl⟩ := List.mem_map.mp hp
      obtain ⟨j, hj⟩ := List.mem_iff_getElem?.mp hq
      rw [List.getElem?_zipIdx] at hj
      obtain ⟨x, hx, e⟩ := Option.map_eq_some_iff.mp hj
      subst e
      exact nls_mem (by simpa only [nl] using h) (List.mem_of_getElem? hx)
    | _ => simp at hp
  · split at hp
    · rw [List.mem_singleton.mp hp]
      exact h
    · cases hp
theorem inArgs_nl : ∀ (k : Nat) (cs : List Nat) (ds : List PyData), nls ds = true → ∀ p ∈ inArgs k cs ds, nl p.2 = true
  | k, c :: cs, d :: ds, g, p, hp => by
    simp only [nls, Bool.and_eq_true] at g
    rcases List.mem_append.mp (show p ∈ inSlot k c d ++ inArgs (k + 1) cs ds from hp) with h | h
    · exact inSlot_nl k c d g.1 p h
    · exact inArgs_nl (k + 1) cs ds g.2 p h
  | _, [], _, _, p, hp => by simp [inArgs] at hp
  | _, _ :: _, [], _, p, hp => by simp [inArgs] at hp
theorem inArgs_nod : ∀ (k : Nat) (cs : List Nat) (ds : List PyData), ∀ p ∈ inArgs k cs ds, nod p.2 ≤ nods ds
  | k, c :: cs, d :: ds, p, hp => by
    simp only [nods]
    rcases List.mem_append.mp (show p ∈ inSlot k c d ++ inArgs (k + 1) cs ds from hp) with h | h
    · have := inSlot_nod k c d p h
      omega
    · have := inArgs_nod (k + 1) cs ds p h
      omega
  | _, [], _, p, hp => by simp [inArgs] at hp
  | _, _ :: _, [], p, hp => by simp [inArgs] at hp
theorem ints_dp {K : PySem.W.Frag} {H : Hp} : ∀ is : List Int, DpAll K H (is.map V.int) (is.map PyData.int)
  | [] => .nil
  | i :: is => .cons (.int i) (ints_dp is)
/-- some trees -/
def Trs (K : PySem.W.Frag) (H : Hp) (vs : List V) (m : Nat) : Prop := ∃ ds ns f, DpAll K H vs ds ∧ Paired (fun (n : Nat) (d : PyData) => Wf f n d ∧ nod d ≤ 900 ∧ nl d = true) ns ds ∧ ns.sum = m
theorem Wf.pos {f n : Nat} {d : PyData} (w : Wf f n d) : 1 ≤ n := by
  obtain ⟨h, sl, args, ns, f', _, rfl, m, s, e, p, q⟩ := w.open
  omega
theorem paired_unsnoc {α β : Type} {F : α → β → Prop} : ∀ {xs : List α} {ys : List β} {y : β}, Paired F xs (ys ++ [y]) → ∃ xs2 x, xs = xs2 ++ [x] ∧ Paired F xs2 ys ∧ F x y := by
  intro xs ys y h
  induction ys generalizing xs with
  | nil =>
    cases h with
    | cons a t =>
      cases t
      exact ⟨[], _, rfl, .nil, a⟩
  | cons y0 ys ih =>
    cases h with
    | cons a t =>
      obtain ⟨xs2, x, rfl, p, q⟩ := ih t
      exact ⟨_ :: xs2, x, rfl, .cons a p, q⟩
theorem Trs.last {K : PySem.W.Frag} {H : Hp} {vs : List V} {m : Nat} (t : Trs K H vs m) (h : vs ≠ []) : ∃ vs2 v d f n m2, vs = vs2 ++ [v] ∧ Tre K H v d f n ∧ Trs K H vs2 m2 ∧ m = m2 + n := by
  obtain ⟨ds, ns, f, a, b, rfl⟩ := t
  obtain ⟨vs2, v, rfl⟩ : ∃ vs2 v, vs = vs2 ++ [v] := ⟨vs.dropLast, vs.getLast h, (List.dropLast_concat_getLast h).symm⟩
  obtain ⟨d1, d2, rfl, a1, a2⟩ := DpAll.unapp a
  cases a2 with
  | cons y1 y2 =>
    cases y2
    obtain ⟨ns2, n, rfl, p, q⟩ := paired_unsnoc b
    exact ⟨vs2, v, _, f, n, ns2.sum, rfl, ⟨y1, q.1, q.2.1, q.2.2⟩, ⟨d1, ns2, f, a1, p, rfl⟩, by simp⟩
theorem Trs.up {K : PySem.W.Frag} {H H' : Hp} {vs : List V} {m : Nat} (t : Trs K H vs m) (s : Same H H') : Trs K H' vs m := by
  obtain ⟨ds, ns, f, a, b, e⟩ := t
  exact ⟨ds, ns, f, Dp.ups s _ _ a, b, e⟩
theorem Trs.len {K : PySem.W.Frag} {H : Hp} {vs : List V} {m : Nat} (t : Trs K H vs m) : vs.length ≤ m := by
  obtain ⟨ds, ns, f, a, b, rfl⟩ := t
  have l1 := DpAll.len a
  have l2 := b.length
  have l3 : ns.length ≤ ns.sum := by
    clear a l1 l2
    induction b with
    | nil => exact Nat.le_refl _
    | cons a t ih =>
      have := a.1.pos
      simp only [List.length_cons, List.sum_cons]
      omega
  omega
theorem Trs.app {K : PySem.W.Frag} {H : Hp} {vs us : List V} {m k : Nat} (t : Trs K H vs m) (u : Trs K H us k) : Trs K H (vs ++ us) (m + k) := by
  obtain ⟨ds, ns, f, a, b, rfl⟩ := t
  obtain ⟨es, ks, g, a2, b2, rfl⟩ := u
  refine ⟨ds ++ es, ns ++ ks, max f g, DpAll.app a a2, paired_app (paired_mono (fun n d z => ⟨z.1.mono (Nat.le_max_left _ _), z.2⟩) b) (paired_mono (fun n d z => ⟨z.1.mono (Nat.le_max_right _ _), z.2⟩) b2), by simp⟩
theorem dpAll_rev {K : PySem.W.Frag} {H : Hp} : ∀ {vs : List V} {ds : List PyData}, DpAll K H vs ds → DpAll K H vs.reverse ds.reverse
  | _, _, .nil => .nil
  | _, _, .cons a t => by
    rw [List.reverse_cons, List.reverse_cons]
    exact DpAll.app (dpAll_rev t) (.cons a .nil)
theorem paired_rev {α β : Type} {F : α → β → Prop} : ∀ {xs : List α} {ys : List β}, Paired F xs ys → Paired F xs.reverse ys.reverse
  | _, _, .nil => .nil
  | _, _, .cons a t => by
    rw [List.reverse_cons, List.reverse_cons]
    exact paired_app (paired_rev t) (.cons a .nil)
theorem Trs.rev {K : PySem.W.Frag} {H : Hp} {vs : List V} {m : Nat} (t : Trs K H vs m) : Trs K H vs.reverse m := by
  obtain ⟨ds, ns, f, a, b, rfl⟩ := t
  exact ⟨_, _, f, dpAll_rev a, paired_rev b, by simp⟩
/-- the trees inside of one -/
theorem Tre.kids {K : PySem.W.Frag} {H H' : Hp} {v : V} {d : PyData} {f n : Nat} {vs : List V} (t : Tre K H v d f n) (h : DpAll K H' vs ((kids8 d).map Prod.snd)) : ∃ m, n = m + 1 ∧ Trs K H' vs m := by
  obtain ⟨h0, sl, args, ns, f', _, rfl, m, s, e, p, q⟩ := t.wf.open
  refine ⟨ns.sum, by omega, _, ns, f', h, ?_, rfl⟩
  have nn := t.nd
  simp only [nod, nods] at nn
  have nn2 := t.fl
  simp only [nl, nls, Bool.true_and] at nn2
  have key : ∀ p ∈ kids8 (.tuple (.str h0 :: args)), nod p.2 ≤ 900 ∧ nl p.2 = true := fun p hp => by
    rw [e] at hp
    have := inArgs_nod 1 _ _ p hp
    exact ⟨by omega, inArgs_nl 1 _ _ nn2 p hp⟩
  revert p key
  generalize kids8 (.tuple (.str h0 :: args)) = ks
  intro p key
  clear q
  induction p with
  | nil => exact .nil
  | cons a t ih => exact .cons ⟨a, key _ List.mem_cons_self⟩ (ih fun p hp => key p (List.mem_cons_of_mem _ hp))
def spChildren (K : PySem.W.Frag) : Sp := fun vs H Q _ => ∃ v d f n, vs = [v] ∧ Tre K H v d f n ∧ ∀ v' H', Same H H' → Dp K H' v' (chD d) → Q v' H'
def spSub (K : PySem.W.Frag) : Sp := fun vs H Q _ => ∃ v d b p e, vs = [v, .ref b] ∧ Dp K H v d ∧ SqT K H b (p.map V.int) ∧ p.length ≤ 1000 ∧ (∀ i ∈ p, i < 2 ^ 60) ∧ atD d p = some e ∧ ∀ v', Dp K H v' e → Q v' H
def spAllT (K : PySem.W.Frag) : Sp := fun vs H Q _ => ∃ v d f n, vs = [v] ∧ Tre K H v d f n ∧ n ≤ 5000 ∧ ∀ L us H', Same H H' → H L = none → H' L = some (.lst us) → us.length = n → Q (.ref L) H'
def spCount (K : PySem.W.Frag) : Sp := fun vs H Q _ => ∃ v d f n, vs = [v] ∧ Tre K H v d f n ∧ n ≤ 5000 ∧ ∀ H', Same H H' → Q (.int n) H'
section
variable {P : Program} {w : World} {K : PySem.W.Frag} {mg : Str → Option Value} {base : Heap} {f fI : Addr} {fd dI : FuncData}
theorem ok_children {k : Nat} (F : Fun K "children" "children" sChildren f fd) (mt : mg "tuple" = none) (GI : Dn P w K mg base 3 "inner_trees" ["tree"] (spInner K) fI dI) :
    FnOk P w K mg base CX0 (k + 4) f fd ["tree"] (spChildren K) := by
  refine F.ok scChildren (fun vs H Q E h => ?_) (fun cdv A outer s H vs Q E hr h => ?_)
  · obtain ⟨v, d, f0, n, rfl, _⟩ := h
    rfl
  obtain ⟨v, d, f0, n, rfl, t, q⟩ := h
  have hr3 : Room 3 _ := hr.mono (by omega)
  obtain ⟨a, h, sl, xs, args, rfl, hx, dx, na, m, sh, ek, _⟩ := t.open
  refine ⟨_, pss_one (ps_ret (pe_callTy call_tuple_of (by rfl) mt b_tup (pa_cons (pe_lc (own := [("path", 1), ("inner", 2), ("_", 3)]) (g := gTup K 3 (gCons (gName 1) (gCons (gName 2) (gCons (gName 3) gNil)))) (by rfl) scChildren.nd
      (pi_list (pe_call GI.ok hr3 (by rfl) GI.mg GI.kp GI.bd .nil pass0 (pa_cons (pv 0) pa_nil)))
      (blkOk_by (own := [("path", 1), ("inner", 2), ("_", 3)]) (N := ["tree", "path", "inner", "_"]) (sc := defScope sChildren) (by decide +kernel))
      (fun _ _ _ _ _ => pg_tupK rfl (by rfl) (pgs_cons (pg_name (i := 1) scChildren.nd rfl (Or.inl rfl)) (pgs_cons (pg_name (i := 2) scChildren.nd rfl (Or.inl rfl)) (pgs_cons (pg_name (i := 3) scChildren.nd rfl (Or.inl rfl)) pgs_nil)))) (fun _ _ _ _ _ => pts_nil)
      (fun _ _ _ _ _ => pe_tup (pa_cons (pv 1) (pa_cons (pv 2) pa_nil)))) pa_nil))), ?_⟩
  refine ⟨_, rfl, a, h, sl, xs, args, rfl, hx, dx, na, m, sh, fun L ts H1 s1 hL h1 inn => ⟨L, rfl, ⟨_, SqL.of h1⟩, fun D hD => ?_⟩⟩
  rw [← ek] at inn
  have s0 : Same H1 (cut [D] (upd H1 D (.lst []))) := fun b u z => by
    rw [cut_out (by simp only [List.mem_singleton]; exact ne_of_none z hD), upd_ne (ne_of_none z hD)]
    exact z
  have lk : (kids8 d).length ≤ 900 := by
    rw [ek]
    have := inArgs_len 1 sl.cps.toList args
    omega
  refine lc_list (K := K) (a := L) (xs := ts.map V.ref) (fun j H2 => ∃ us, H2 D = some (.lst us) ∧ DpAll K (cut [D] H2) us (((kids8 d).take j).map pairD) ∧ Same H1 (cut [D] H2)) ⟨[], upd_same, .nil, s0⟩ ?_ ?_ ?_
  · rintro j H2 hj ⟨us, g1, g2, g3⟩
    exact SqL.of (cut_same _ _ _ _ (g3 _ _ h1))
  · rintro j y H2 hy ⟨us, g1, g2, g3⟩
    obtain ⟨t, ht, rfl⟩ := Inn.ref hy
    obtain ⟨p, b, x, st, e1, e2, e3, e4⟩ := inn.2 j t ht
    have c2 := cut_same [D] H2
    refine ⟨t, _, rfl, .inl (.inl (c2 _ _ (g3 _ _ e2))), rfl, _, _, rfl, _, _, rfl, _, _, rfl, rfl, rfl, ?_⟩
    refine ⟨_, rfl, _, rfl, few (by simp), fun T hT => ?_⟩
    have q1 : Off [D] H2 (upd H2 T (.tup [.ref b, x])) := Off.of (same_new hT _)
    have nTD : T ≠ D := fun y => by
      rw [y, g1] at hT
      cases hT
    have q2 : Off [D] H2 (upd (upd H2 T (.tup [.ref b, x])) D (.lst (us ++ [.ref T]))) := q1.trans (Off.put (by simp))
    have lu := DpAll.len g2
    rw [List.length_map, List.length_take] at lu
    refine ⟨us, by rw [upd_ne nTD.symm]; exact g1, small1000 (by omega), us ++ [.ref T], upd_same, ?_, g3.trans q2⟩
    rw [get_take e1, List.map_append]
    refine DpAll.app (Dp.ups q2 _ _ g2) (.cons ?_ .nil)
    have hb : cut [D] (upd (upd H2 T (.tup [.ref b, x])) D (.lst (us ++ [.ref T]))) b = some (.tup (p.1.map V.int)) := (g3.trans q2) _ _ e3
    exact .tup (.inl (.inl (by rw [cut_out (by simpa using nTD), upd_ne nTD]; exact upd_same))) (.cons (.tup (.inl (.inl hb)) (ints_dp _)) (.cons (Dp.up (g3.trans q2) _ _ e4) .nil))
  · rintro H2 ⟨us, g1, g2, g3⟩
    rw [List.length_map, inn.1, List.take_length] at g2
    refine ⟨D, us, rfl, .inl ⟨SqL.of g1, fun T hT => ?_⟩⟩
    have s2 : Same H H2 := s1.trans (g3.trans (cut_same _ _))
    exact q (.ref T) _ (s2.trans (same_new hT _)) (.tup (.inl (.inl upd_same)) (Dp.ups (Same.trans (cut_same _ _) (same_new hT _)) _ _ g2))
theorem ok_sub {k : Nat} (F : Fun K "subtree" "subtree" sSub f fd) : FnOk P w K mg base CX0 (k + 1) f fd ["tree", "path"] (spSub K) := by
  refine F.ok scSub (fun vs H Q E h => ?_) (fun cdv A outer s H vs Q E hr h => ?_)
  · obtain ⟨v, d, b, p, e, rfl, _⟩ := h
    rfl
  obtain ⟨v, d, b, p, e, rfl, hd, hb, lp, hp, ha, q⟩ := h
  refine ⟨_, pss_cons (ps_for PassesOwn.never rfl (pi_tup (pv 1)) (pg_name (i := 2) scSub.nd rfl (Or.inl rfl))
      (pss_one (ps_set (i := 0) scSub.nd rfl (.inl rfl) (pe_ix ix_tup (pv 0) (pv 2) (fun _ _ => rfl)))))
    (pss_one (ps_ret (pv 0))), ?_⟩
  refine ⟨_, rfl, b, rfl, ⟨_, hb⟩, for_it (walk_tup (K := K) (a := b) (xs := p.map V.int)) (fun j σ H2 => ∃ v2 d2 o, σ = [some v2, some (.ref b), o] ∧ H2 = H ∧ Dp K H v2 d2 ∧ atD d2 (p.drop j) = some e) ⟨v, d, none, rfl, rfl, hd, ha⟩ ?_ ?_ ?_⟩
  · rintro j σ H2 hj ⟨v2, d2, o, rfl, rfl, g1, g2⟩
    exact hb
  · rintro j y σ H2 H2' hj ⟨v2, d2, o, rfl, rfl, g1, g2⟩ ⟨rfl, hy⟩
    rw [List.getElem?_map] at hy
    obtain ⟨i, hi, rfl⟩ := Option.map_eq_some_iff.mp hy
    rw [List.drop_eq_getElem_cons (by rw [List.length_map] at hj; exact hj)] at g2
    have ei : p[j]'(by rw [List.length_map] at hj; exact hj) = i := by
      have := List.getElem?_eq_some_iff.mp hi
      exact this.2
    rw [ei] at g2
    cases d2 with
    | tuple ds =>
      simp only [atD] at g2
      split at g2
      · rename_i i0
        obtain ⟨a, xs, ds2, rfl, e2, hx, dx⟩ := tup_of g1 rfl
        cases e2
        cases hds : ds[i.toNat]? with
        | none => rw [hds] at g2; cases g2
        | some d3 =>
          rw [hds] at g2
          have lx := DpAll.len dx
          have hlt := (List.getElem?_eq_some_iff.mp hds).1
          obtain ⟨x, hx1, hx2, hx3⟩ := atI_ok (xs := xs) (r := i) i0 (by omega)
          obtain ⟨d4, e4, dp4⟩ := DpAll.get dx hx3
          have e5 := Option.some.inj (e4.symm.trans hds)
          subst e5
          exact ⟨_, rfl, _, rfl, a, xs, i, x, rfl, rfl, hx, hx1, x, d4, _, rfl, rfl, dp4, g2⟩
      · cases g2
    | none => simp [atD] at g2
    | bool _ => simp [atD] at g2
    | int _ => simp [atD] at g2
    | str _ => simp [atD] at g2
    | list _ => simp [atD] at g2
    | dict _ => simp [atD] at g2
  · rintro σ H2 ⟨v2, d2, o, rfl, rfl, g1, g2⟩
    rw [List.length_map, List.drop_length] at g2
    have e2 : d2 = e := by simpa [atD] using g2
    rw [e2] at g1
    exact ⟨_, rfl, q v2 g1⟩
theorem ok_allT {k : Nat} (F : Fun K "all_trees" "all_trees" sAllT f fd) (GI : Dn P w K mg base 3 "inner_trees" ["tree"] (spInner K) fI dI) :
    FnOk P w K mg base CX0 (k + 4) f fd ["tree"] (spAllT K) := by
  refine F.ok scAllT (fun vs H Q E h => ?_) (fun cdv A outer s H vs Q E hr h => ?_)
  · obtain ⟨v, d, f0, n, rfl, _⟩ := h
    rfl
  obtain ⟨v, d, f0, n, rfl, t, hn, q⟩ := h
  have hr3 : Room 3 _ := hr.mono (by omega)
  refine ⟨_, pss_cons (ps_set (i := 1) scAllT.nd rfl (.inl rfl) (pe_lst pa_nil))
    (pss_cons (ps_set (i := 2) scAllT.nd rfl (.inl rfl) (pe_lst (pa_cons (pv 0) pa_nil)))
    (pss_cons (ps_while PassesOwn.never (pt_truth (pv 2) (by intro _; rfl))
      (pss_cons (ps_set (i := 3) scAllT.nd rfl (.inl rfl) (pe_bm0 PySem.F.plainAttrs_list PySem.F.slot_list_pop PySem.F.type_list_pop mt_pop (pv 2)))
      (pss_cons (ps_expr (pe_bm PySem.F.plainAttrs_list PySem.F.slot_list_append PySem.F.type_list_append mt_append (pv 1) (pa_cons (pv 3) pa_nil)))
      (pss_one (ps_expr (pe_bm PySem.F.plainAttrs_list PySem.F.slot_list_extend PySem.F.type_list_extend mt_extend (pv 2) (pa_cons (pe_revL
        (pe_lc (own := [("_", 4), ("inner", 5)]) (g := gTup K 3 (gCons (gName 4) (gCons (gName 5) (gCons (gName 4) gNil)))) (by rfl) scAllT.nd
          (pi_list (pe_call GI.ok hr3 (by rfl) GI.mg GI.kp GI.bd .nil pass0 (pa_cons (pv 3) pa_nil)))
          (blkOk_by (own := [("_", 4), ("inner", 5)]) (N := ["tree", "found", "todo", "one", "_", "inner"]) (sc := defScope sAllT) (by decide +kernel))
          (fun _ _ _ _ _ => pg_tupK rfl (by rfl) (pgs_cons (pg_name (i := 4) scAllT.nd rfl (Or.inl rfl)) (pgs_cons (pg_name (i := 5) scAllT.nd rfl (Or.inl rfl)) (pgs_cons (pg_name (i := 4) scAllT.nd rfl (Or.inl rfl)) pgs_nil)))) (fun _ _ _ _ _ => pts_nil)
          (fun _ _ _ _ _ => pv 5))) pa_nil)))))))
    (pss_one (ps_ret (pv 1))))), ?_⟩
  refine ⟨by decide, fun FA hFA => ⟨_, rfl, few (by simp), fun TD hTD => ?_⟩⟩
  have hT0 : H TD = none := (same_new (o := .lst []) hFA).free hTD
  have nFT : FA ≠ TD := ne_of_none upd_same hTD
  have s0 : Same H (cut [FA, TD] (upd (upd H FA (.lst [])) TD (.lst [v]))) := fun b u z => by
    rw [cut_out (by simp only [List.mem_cons, List.not_mem_nil, or_false, not_or]; exact ⟨ne_of_none z hFA, ne_of_none z hT0⟩), upd_ne (ne_of_none z hT0), upd_ne (ne_of_none z hFA)]
    exact z
  refine ⟨fun m σ H2 => ∃ us ts o3, σ = [some v, some (.ref FA), some (.ref TD), o3, none, none] ∧ H2 FA = some (.lst us) ∧ H2 TD = some (.lst ts) ∧ Trs K (cut [FA, TD] H2) ts m ∧ us.length + m = n ∧ Same H (cut [FA, TD] H2),
    ⟨n, [], [v], none, rfl, by rw [upd_ne nFT]; exact upd_same, upd_same, ⟨[d], [n], f0, .cons (Dp.up s0 _ _ t.dp) .nil, .cons ⟨t.wf, t.nd, t.fl⟩ .nil, by simp⟩, by simp, s0⟩, ?_⟩
  rintro m σ H2 ⟨us, ts, o3, rfl, hu, hx, tr, um, sm⟩
  refine ⟨_, rfl, _, .inl ⟨ts, SqL.of hx, rfl⟩, ?_⟩
  by_cases ex : ts = []
  · subst ex
    refine iteF ⟨_, rfl, ?_⟩
    have m0 : m = 0 := by
      obtain ⟨ds, ns, f, a, b, rfl⟩ := tr
      cases a
      cases b
      rfl
    exact q FA us H2 (sm.trans (cut_same _ _)) hFA hu (by omega)
  · have e1 : (!ts.isEmpty) = true := by simp [ex]
    rw [e1]
    refine iteT ?_
    obtain ⟨ts2, x, d2, f2, n2, m2, rfl, tx, tr2, rfl⟩ := tr.last ex
    have np := tx.wf.pos
    refine ⟨fun σ' H3 => ∃ m', m' < m2 + n2 ∧ ∃ us ts o3, σ' = [some v, some (.ref FA), some (.ref TD), o3, none, none] ∧ H3 FA = some (.lst us) ∧ H3 TD = some (.lst ts) ∧ Trs K (cut [FA, TD] H3) ts m' ∧ us.length + m' = n ∧ Same H (cut [FA, TD] H3), fun _ _ z => z, ?_⟩
    refine ⟨_, rfl, .inl ⟨rfl, _, SqL.of hx⟩, TD, _, _, rfl, rfl, hx, last_at _ _, ?_⟩
    rw [drop_last]
    have p3 : Off [FA, TD] H2 (upd H2 TD (.lst ts2)) := Off.put (by simp)
    have hu3 : (upd H2 TD (.lst ts2)) FA = some (.lst us) := by rw [upd_ne nFT]; exact hu
    have hx3 : (upd H2 TD (.lst ts2)) TD = some (.lst ts2) := upd_same
    generalize upd H2 TD (.lst ts2) = H3 at p3 hu3 hx3
    refine ⟨_, rfl, .inl ⟨rfl, _, SqL.of hu3⟩, _, rfl, FA, us, x, rfl, rfl, hu3, few2 (by omega), ?_⟩
    have p4 : Off [FA, TD] H2 (upd H3 FA (.lst (us ++ [x]))) := p3.trans (Off.put (by simp))
    have hu4 : (upd H3 FA (.lst (us ++ [x]))) FA = some (.lst (us ++ [x])) := upd_same
    have hx4 : (upd H3 FA (.lst (us ++ [x]))) TD = some (.lst ts2) := by rw [upd_ne nFT.symm]; exact hx3
    generalize upd H3 FA (.lst (us ++ [x])) = H4 at p4 hu4 hx4
    have tx4 : Tre K (cut [FA, TD] H4) x d2 f2 n2 := tx.up p4
    obtain ⟨a, h, sl, xs, args, rfl, hxs, dx, na, mm, sh, ek, _⟩ := (tx4.up (cut_same _ _)).open
    refine ⟨_, rfl, .inl ⟨rfl, _, SqL.of hx4⟩, ?_⟩
    refine ⟨_, rfl, a, h, sl, xs, args, rfl, hxs, dx, na, mm, sh, fun L ts' H5 s5 hL h5 inn => ⟨L, rfl, ⟨_, SqL.of h5⟩, fun D hD => ?_⟩⟩
    rw [← ek] at inn
    have lk : (kids8 d2).length ≤ 900 := by
      rw [ek]
      have := inArgs_len 1 sl.cps.toList args
      omega
    refine lc_list (K := K) (a := L) (xs := ts'.map V.ref) (fun j H6 => ∃ ys, H6 D = some (.lst ys) ∧ DpAll K H5 ys (((kids8 d2).take j).map Prod.snd) ∧ Same H5 (cut [D] H6)) ⟨[], upd_same, .nil, ?_⟩ ?_ ?_ ?_
    · intro b u z
      rw [cut_out (by simp only [List.mem_singleton]; exact ne_of_none z hD), upd_ne (ne_of_none z hD)]
      exact z
    · rintro j H6 hj ⟨ys, g1, g2, g3⟩
      exact SqL.of (cut_same _ _ _ _ (g3 _ _ h5))
    · rintro j y H6 hy ⟨ys, g1, g2, g3⟩
      obtain ⟨t6, ht, rfl⟩ := Inn.ref hy
      obtain ⟨p, b, x, st, k1, k2, k3, k4⟩ := inn.2 j t6 ht
      have ly := DpAll.len g2
      rw [List.length_map, List.length_take] at ly
      refine ⟨t6, _, rfl, .inl (.inl (cut_same _ _ _ _ (g3 _ _ k2))), rfl, _, _, rfl, _, _, rfl, _, _, rfl, rfl, rfl, ?_⟩
      refine ⟨_, rfl, ys, g1, small1000 (by omega), ys ++ [x], upd_same, ?_, g3.trans (Off.put (by simp))⟩
      rw [get_take k1, List.map_append]
      exact DpAll.app g2 (.cons k4 .nil)
    · rintro H6 ⟨ys, g1, g2, g3⟩
      rw [List.length_map, inn.1, List.take_length] at g2
      have g3' := g3.trans (cut_same _ _)
      have ly := DpAll.len g2
      rw [List.length_map] at ly
      refine ⟨D, ys, rfl, SqL.of g1, fun p hp => ?_⟩
      have s7 : Same H4 (upd H6 p (.lst ys.reverse)) := s5.trans (g3'.trans (same_new hp _))
      have lt2 := tr2.len
      refine ⟨TD, p, ts2, ys.reverse, rfl, rfl, s7 _ _ hx4, upd_same, few2 (by rw [List.length_reverse]; omega), ?_⟩
      have nl5 : nls ((kids8 d2).map Prod.snd) = true := by
        have hn : ∀ p ∈ kids8 d2, nl p.2 = true := fun p hp => by
          have z := tx.fl
          obtain ⟨h0, sl0, args0, ns0, f0', _, rfl, m0, s0', e0, p0, q0⟩ := tx.wf.open
          simp only [nl, nls, Bool.true_and] at z
          rw [e0] at hp
          exact inArgs_nl 1 _ _ z p hp
        revert hn
        generalize kids8 d2 = ks
        intro hn
        induction ks with
        | nil => simp only [List.map_nil, nls]
        | cons a ks ih =>
          simp only [List.map_cons, nls, hn a List.mem_cons_self, ih fun p hp => hn p (List.mem_cons_of_mem _ hp), Bool.and_self]
      have cL : NT [FA, TD] H5 := .cons (nt_lst (s5 _ _ hu4)) (.cons (nt_lst (s5 _ _ hx4)) .nil)
      have gk := Dp.lesss cL _ _ nl5 g2
      obtain ⟨m', en, trk⟩ := tx.kids gk
      have o58 : Off [FA, TD] H5 (upd (upd H6 p (.lst ys.reverse)) TD (.lst (ts2 ++ ys.reverse))) := (Off.of (g3'.trans (same_new hp _))).trans (Off.put (by simp))
      have o48 : Off [FA, TD] H2 (upd (upd H6 p (.lst ys.reverse)) TD (.lst (ts2 ++ ys.reverse))) := p4.trans ((Off.of s5).trans o58)
      refine ⟨m2 + m', by omega, us ++ [.ref a], ts2 ++ ys.reverse, _, rfl, ?_, upd_same, (tr2.up o48).app (trk.up o58).rev, ?_, sm.trans o48⟩
      · rw [upd_ne nFT]
        exact s7 _ _ hu4
      · rw [List.length_append, List.length_singleton]
        omega
theorem ok_count {k : Nat} (F : Fun K "count" "count" sCount f fd) (mn : mg "len" = none) (GA : Dn P w K mg base 4 "all_trees" ["tree"] (spAllT K) fI dI) :
    FnOk P w K mg base CX0 (k + 5) f fd ["tree"] (spCount K) := by
  refine F.ok scCount (fun vs H Q E h => ?_) (fun cdv A outer s H vs Q E hr h => ?_)
  · obtain ⟨v, d, f0, n, rfl, _⟩ := h
    rfl
  obtain ⟨v, d, f0, n, rfl, t, hn, q⟩ := h
  have hr4 : Room 4 _ := hr.mono (by omega)
  refine ⟨_, pss_one (ps_ret (pe_callB call_len_seq (by rfl) mn PySem.boot_len (pa_cons (pe_call GA.ok hr4 (by rfl) GA.mg GA.kp GA.bd .nil pass0 (pa_cons (pv 0) pa_nil)) pa_nil))), ?_⟩
  refine ⟨_, rfl, v, d, f0, n, rfl, t, hn, fun L us H' s1 hL h1 lu => ⟨L, us, rfl, .inl (SqL.of h1), ?_⟩⟩
  rw [lu]
  exact q H' s1
end
abbrev sPick : Stmt := topS 14
abbrev sForms : Stmt := topS 15
abbrev sWord : Stmt := topS 16
abbrev sThing : Stmt := topS 17
theorem scPick : FnScope ["_law_box_here", "_law_items"] ["_law_box_here", "_law_items"] (defScope sPick) := ⟨rfl, rfl, rfl, by decide +kernel, rfl, by decide +kernel, by decide +kernel⟩
theorem scForms : FnScope ["_law_sort", "_law_found", "_law_more", "_law_tests"] ["_law_sort"] (defScope sForms) := ⟨rfl, rfl, rfl, by decide +kernel, rfl, by decide +kernel, by decide +kernel⟩
theorem scWord : FnScope ["_law_box_here", "_law_letters", "_law_many", "_law_k"] ["_law_box_here"] (defScope sWord) := ⟨rfl, rfl, rfl, by decide +kernel, rfl, by decide +kernel, by decide +kernel⟩
theorem scThing : FnScope ["_law_box_here", "_law_slot", "_law_great"] ["_law_box_here", "_law_slot"] (defScope sThing) := ⟨rfl, rfl, rfl, by decide +kernel, rfl, by decide +kernel, by decide +kernel⟩
theorem b_dict : bootBuiltins "dict" = some (.type "dict") := by decide +kernel
def kvL (l : List (Str × Str)) : List (Key × V) := l.map fun p => (Sum.inr p.1, V.str p.2)
theorem putK_new {kvs : List (Key × V)} {k : Key} {v : V} (h : ∀ p ∈ kvs, p.1 ≠ k) : putK kvs k v = kvs ++ [(k, v)] := by
  unfold putK
  rw [if_neg]
  intro z
  obtain ⟨p, hp, e⟩ := List.any_eq_true.mp z
  exact h p hp (of_decide_eq_true e)
theorem mergeK_new : ∀ (more kvs : List (Key × V)), ((kvs ++ more).map Prod.fst).Nodup → mergeK kvs more = kvs ++ more
  | [], kvs, _ => by simp [mergeK]
  | (k, v) :: r, kvs, h => by
    have e : putK kvs k v = kvs ++ [(k, v)] := putK_new fun p hp e => by
      rw [List.map_append, List.nodup_append] at h
      exact h.2.2 p.1 (List.mem_map.mpr ⟨p, hp, rfl⟩) k (by simp) e
    show mergeK (putK kvs k v) r = _
    rw [e, mergeK_new r (kvs ++ [(k, v)]) (by rw [List.append_assoc]; exact h), List.append_assoc]
    rfl
theorem kvL_nodup {l : List (Str × Str)} (h : (l.map Prod.fst).Nodup) : ((kvL l).map Prod.fst).Nodup := by
  unfold kvL
  rw [List.map_map]
  have e : (Prod.fst ∘ fun p : Str × Str => ((Sum.inr p.1 : Key), V.str p.2)) = (fun x : Str => (Sum.inr x : Key)) ∘ Prod.fst := rfl
  rw [e, ← List.map_map]
  exact List.Pairwise.map _ (fun a b n z => n (Sum.inr.inj z)) h
theorem merge_kvL {l : List (Str × Str)} (h : (l.map Prod.fst).Nodup) : mergeK [] (kvL l) = kvL l := mergeK_new _ _ (kvL_nodup h)
theorem kvL_app (a b : List (Str × Str)) : kvL (a ++ b) = kvL a ++ kvL b := List.map_append
theorem nd_ex : (exL.map Prod.fst).Nodup := by decide +kernel
theorem nd_te : (teL.map Prod.fst).Nodup := by decide +kernel
theorem nd_all : (allL.map Prod.fst).Nodup := by decide +kernel
def spPick : Sp := fun vs H Q _ => ∃ p g a xs, vs = [.ref p, .ref a] ∧ Box H p g ∧ H a = some (.lst xs) ∧ a ∉ [p, g] ∧ 0 < xs.length ∧ xs.length ≤ 1000 ∧ ∀ x ∈ xs, ∀ H', Box H' p g → Off [p, g] H H' → Q x H'
def spForms : Sp := fun vs H Q _ => ∃ s, vs = [.str s] ∧ ∀ p H', Same H H' → H p = none → H' p = some (.dK (kvL (if s = "t" then teL else exL))) → Q (.ref p) H'
def spWord : Sp := fun vs H Q _ => ∃ p g, vs = [.ref p] ∧ Box H p g ∧ ∀ x H', Sm 8 x → Box H' p g → Off [p, g] H H' → Q (.str x) H'
def spThing : Sp := fun vs H Q _ => ∃ p g s, vs = [.ref p, .str s] ∧ Box H p g ∧ ∀ v d H', (∀ (K : PySem.W.Frag) (H'' : Hp), Dp K H'' v d) → gd d = true → nod d = 1 → d.depth = 0 → nl d = true → Box H' p g → Off [p, g] H H' → Q v H'
theorem alpha_sm : Sm 26 ("abcdefghijklmnopqrstuvwxyz" : Str) := Sm.of (by decide +kernel)
theorem alpha_len : ("abcdefghijklmnopqrstuvwxyz" : Str).cps.toList.length = 26 := by decide +kernel
section
variable {P : Program} {w : World} {K : PySem.W.Frag} {mg : Str → Option Value} {base : Heap} {f fT fP fW : Addr} {fd dT dP dW : FuncData}
theorem ok_pick {k : Nat} (F : Fun K "_law_pick" "_law_pick" sPick f fd) (mn : mg "len" = none) (T : Tk P w K mg base fT dT) : FnOk P w K mg base CX0 (k + 2) f fd ["_law_box_here", "_law_items"] spPick := by
  refine F.ok scPick (fun vs H Q E h => ?_) (fun cdv A outer s H vs Q E hr h => ?_)
  · obtain ⟨p, g, a, xs, rfl, _⟩ := h
    rfl
  obtain ⟨p, g, a, xs, rfl, hb, ha, na, l0, l1, q⟩ := h
  have hr1 : Room 1 _ := hr.mono (by omega)
  refine ⟨_, pss_one (ps_ret (pe_ix ix_list (pv 1) (pe_call T.ok hr1 (by rfl) T.mg T.kp T.bd .nil pass0 (pa_cons (pv 0) (pa_cons (pe_callB call_len_seq (by rfl) mn PySem.boot_len (pa_cons (pv 1) pa_nil)) pa_nil))) (fun _ _ => rfl))), ?_⟩
  refine ⟨_, rfl, _, rfl, _, rfl, a, xs, rfl, .inl (SqL.of ha), p, g, _, rfl, hb, by omega, ?_, fun r H1 r0 r1 b1 o1 => ?_⟩
  · show xs.length < 2 ^ 200
    exact Nat.lt_of_le_of_lt l1 (by decide)
  obtain ⟨x, hx, mx, _⟩ := atI_ok (xs := xs) r0 r1
  exact ⟨a, _, _, x, rfl, rfl, SqL.of (o1.get ha na), hx, q x mx H1 b1 o1⟩
theorem ok_forms {k : Nat} (F : Fun K "_law_forms" "_law_forms" sForms f fd) (md : mg "dict" = none) (ml : mg "list" = none) : FnOk P w K mg base CX0 (k + 1) f fd ["_law_sort"] spForms := by
  refine F.ok scForms (fun vs H Q E h => ?_) (fun cdv A outer s H vs Q E hr h => ?_)
  · obtain ⟨s, rfl, _⟩ := h
    rfl
  obtain ⟨srt, rfl, q⟩ := h
  refine ⟨_, pss_cons (ps_set (i := 1) scForms.nd rfl (.inl rfl) (pe_disp (pps_cons pe_str pe_str (pps_cons pe_str pe_str (pps_cons pe_str pe_str (pps_cons pe_str pe_str (pps_cons pe_str pe_str (pps_cons pe_str pe_str (pps_cons pe_str pe_str (pps_cons pe_str pe_str pps_nil)))))))) (by rfl) (by rfl) (fun z => by cases z) (by decide)))
    (pss_cons (ps_set (i := 2) scForms.nd rfl (.inl rfl) (pe_disp (pps_cons pe_str pe_str (pps_cons pe_str pe_str (pps_cons pe_str pe_str (pps_cons pe_str pe_str (pps_cons pe_str pe_str (pps_cons pe_str pe_str (pps_cons pe_str pe_str pps_nil))))))) (by rfl) (by rfl) (fun z => by cases z) (by decide)))
    (pss_cons (ps_set (i := 3) scForms.nd rfl (.inl rfl) (pe_disp (pps_cons pe_str pe_str (pps_cons pe_str pe_str (pps_cons pe_str pe_str (pps_cons pe_str pe_str (pps_cons pe_str pe_str (pps_cons pe_str pe_str (pps_cons pe_str pe_str pps_nil))))))) (by rfl) (by rfl) (fun z => by cases z) (by decide)))
    (pss_one (ps_ret (pe_ifExp (pt_cmpR op_eq (pv 0) pe_str (nomark _)) (pv 3) (pe_callTy (call_dictP rfl) (by rfl) md b_dict (pa_cons
      (pe_op op_cat (pe_op op_cat (LiI.pe_listItems (by rfl) (pv 1) (by rfl) ml b_list) (LiI.pe_listItems (by rfl) (pv 2) (by rfl) ml b_list)) (pe_lst (pa_cons (pe_tup (pa_cons pe_str (pa_cons pe_str pa_nil))) pa_nil))) pa_nil))))))), ?_⟩
  refine fun p1 h1 => ⟨upd_same, kvL (exL.take 8), rfl, by decide, fun p2 h2 => ⟨upd_same, kvL ((exL.drop 8).take 7), rfl, by decide, fun p3 h3 => ⟨upd_same, kvL teL, rfl, by decide, ?_⟩⟩⟩
  rw [merge_kvL (by decide +kernel)] at h2
  rw [merge_kvL (by decide +kernel), merge_kvL (by decide +kernel)] at h3
  rw [merge_kvL (by decide +kernel), merge_kvL (by decide +kernel), merge_kvL (by decide +kernel)]
  have sA : Same H (upd (upd H p1 (.dK [])) p1 (.dK (kvL (exL.take 8)))) := fun b u z => by
    rw [upd_ne (ne_of_none z h1), upd_ne (ne_of_none z h1)]
    exact z
  have hA1 : (upd (upd H p1 (.dK [])) p1 (.dK (kvL (exL.take 8)))) p1 = some (.dK (kvL (exL.take 8))) := upd_same
  generalize upd (upd H p1 (.dK [])) p1 (.dK (kvL (exL.take 8))) = HA at *
  have sB : Same HA (upd (upd HA p2 (.dK [])) p2 (.dK (kvL ((exL.drop 8).take 7)))) := fun b u z => by
    rw [upd_ne (ne_of_none z h2), upd_ne (ne_of_none z h2)]
    exact z
  have hB2 : (upd (upd HA p2 (.dK [])) p2 (.dK (kvL ((exL.drop 8).take 7)))) p2 = some (.dK (kvL ((exL.drop 8).take 7))) := upd_same
  generalize upd (upd HA p2 (.dK [])) p2 (.dK (kvL ((exL.drop 8).take 7))) = HB at *
  have sC : Same HB (upd (upd HB p3 (.dK [])) p3 (.dK (kvL teL))) := fun b u z => by
    rw [upd_ne (ne_of_none z h3), upd_ne (ne_of_none z h3)]
    exact z
  have hC3 : (upd (upd HB p3 (.dK [])) p3 (.dK (kvL teL))) p3 = some (.dK (kvL teL)) := upd_same
  generalize upd (upd HB p3 (.dK [])) p3 (.dK (kvL teL)) = HC at *
  have s3 := sA.trans (sB.trans sC)
  refine ⟨_, rfl, rfl, _, rfl, ite2 (fun c => ⟨_, rfl, ?_⟩) (fun c => ?_)⟩
  · have c : srt = "t" := V.str.inj (of_decide_eq_true c)
    exact q p3 HC s3 ((sA.trans sB).free h3) (by rw [if_pos c]; exact hC3)
  · have c : ¬ srt = "t" := fun z => c (decide_eq_true (by rw [z]))
    refine ⟨_, rfl, p1, _, rfl, sC _ _ (sB _ _ hA1), fun H5 l1 ts1 s5 hl1 ht1 nl1 e1 P1 => ?_⟩
    have s5 : Same HC H5 := s5
    refine ⟨_, rfl, p2, _, rfl, s5 _ _ (sC _ _ hB2), fun H6 l2 ts2 s6 hl2 ht2 nl2 e2 P2 => ?_⟩
    have s6 : Same H5 H6 := s6
    have t1 := P1.length
    have t2 := P2.length
    have q1 : (kvL (exL.take 8)).length = 8 := by decide +kernel
    have q2 : (kvL ((exL.drop 8).take 7)).length = 7 := by decide +kernel
    refine ⟨l1, l2, _, _, rfl, rfl, s6 _ _ e1, e2, few (by rw [List.length_map, List.length_map]; omega), fun l3 hl3 => ⟨few (by simp), fun t3 ht3 => ⟨few (by simp), fun l4 hl4 => ?_⟩⟩⟩
    have s7 : Same H6 (upd H6 l3 (.lst (ts1.map V.ref ++ ts2.map V.ref))) := same_new hl3 _
    have e3 : (upd H6 l3 (.lst (ts1.map V.ref ++ ts2.map V.ref))) l3 = some (.lst (ts1.map V.ref ++ ts2.map V.ref)) := upd_same
    generalize upd H6 l3 (.lst (ts1.map V.ref ++ ts2.map V.ref)) = H7 at *
    have s8 : Same H7 (upd H7 t3 (.tup [.str "fail", .str "n"])) := same_new ht3 _
    have e4 : (upd H7 t3 (.tup [.str "fail", .str "n"])) t3 = some (.tup [.str "fail", .str "n"]) := upd_same
    generalize upd H7 t3 (.tup [.str "fail", .str "n"]) = H8 at *
    have s9 : Same H8 (upd H8 l4 (.lst [.ref t3])) := same_new hl4 _
    have e5 : (upd H8 l4 (.lst [.ref t3])) l4 = some (.lst [.ref t3]) := upd_same
    generalize upd H8 l4 (.lst [.ref t3]) = H9 at *
    refine ⟨l3, l4, _, _, rfl, rfl, s9 _ _ (s8 _ _ e3), e5, few (by simp only [List.length_append, List.length_map, List.length_cons, List.length_nil]; omega), fun l5 hl5 => ?_⟩
    have s10 : Same H9 (upd H9 l5 (.lst (ts1.map V.ref ++ ts2.map V.ref ++ [.ref t3]))) := same_new hl5 _
    have e6 : (upd H9 l5 (.lst (ts1.map V.ref ++ ts2.map V.ref ++ [.ref t3]))) l5 = some (.lst (ts1.map V.ref ++ ts2.map V.ref ++ [.ref t3])) := upd_same
    generalize upd H9 l5 (.lst (ts1.map V.ref ++ ts2.map V.ref ++ [.ref t3])) = HX at *
    have up : ∀ {H1 H2 : Hp} {ts : List Addr} {kvs : List (Key × V)}, Same H1 H2 → Paired (fun (t : Addr) (q : Key × V) => H1 t = some (.tup [kV q.1, q.2])) ts kvs → Paired (fun (t : Addr) (q : Key × V) => SqT K H2 t [kV q.1, q.2]) ts kvs := fun s p => paired_mono (fun a b z => .inl (.inl (s _ _ z))) p
    refine ⟨l5, ts1 ++ ts2 ++ [t3], kvL exL, rfl, ?_, ?_, fun r hr5 => ?_⟩
    · refine SqL.of ?_
      rw [e6, List.map_append, List.map_append]
      rfl
    · have e7 : kvL exL = kvL (exL.take 8) ++ kvL ((exL.drop 8).take 7) ++ [((Sum.inr "fail" : Key), V.str "n")] := by decide +kernel
      rw [e7]
      exact paired_app (paired_app (up (s6.trans (s7.trans (s8.trans (s9.trans s10)))) P1) (up (s7.trans (s8.trans (s9.trans s10))) P2)) (.cons (.inl (.inl (s10 _ _ (s9 _ _ e4)))) .nil)
    · rw [merge_kvL nd_ex]
      have sX : Same H HX := s3.trans (s5.trans (s6.trans (s7.trans (s8.trans (s9.trans s10)))))
      exact q r _ (sX.trans (same_new hr5 _)) (sX.free hr5) (by rw [if_neg c]; exact upd_same)
theorem ok_word {k : Nat} (F : Fun K "_law_word" "_law_word" sWord f fd) (mr : mg "range" = none) (T : Tk P w K mg base fT dT) (GP : Dn P w K mg base 2 "_law_pick" ["_law_box_here", "_law_items"] spPick fP dP) : FnOk P w K mg base CX0 (k + 3) f fd ["_law_box_here"] spWord := by
  refine F.ok scWord (fun vs H Q E h => ?_) (fun cdv A outer s H vs Q E hr h => ?_)
  · obtain ⟨p, g, rfl, _⟩ := h
    rfl
  obtain ⟨p, g, rfl, hb, q⟩ := h
  have hr1 : Room 1 _ := hr.mono (by omega)
  have hr2 : Room 2 _ := hr.mono (by omega)
  refine ⟨_, pss_cons (ps_set (i := 1) scWord.nd rfl (.inr rfl) pe_str)
    (pss_cons (ps_if (pt_cmpR op_eq (pe_call T.ok hr1 (by rfl) T.mg T.kp T.bd .nil pass0 (pa_cons (pv 0) (pa_cons pe_int pa_nil))) pe_int (nomark _))
      (pss_one (ps_ret (pe_call GP.ok hr2 (by rfl) GP.mg GP.kp GP.bd .nil pass0 (pa_cons (pv 0) (pa_cons (pe_lst (pa_cons pe_str (pa_cons pe_str (pa_cons pe_str (pa_cons pe_str (pa_cons pe_str (pa_cons pe_str (pa_cons pe_str (pa_cons pe_str (pa_cons pe_str (pa_cons pe_str pa_nil))))))))))) pa_nil))))) pss_nil)
    (pss_cons (ps_set (i := 2) scWord.nd rfl (.inl rfl) (pe_op op_add pe_int (pe_ix ix_list (pe_lst (pa_cons (pe_call T.ok hr1 (by rfl) T.mg T.kp T.bd .nil pass0 (pa_cons (pv 0) (pa_cons pe_int pa_nil))) (pa_cons (pe_call T.ok hr1 (by rfl) T.mg T.kp T.bd .nil pass0 (pa_cons (pv 0) (pa_cons pe_int pa_nil))) pa_nil)))
      (pe_op op_fdiv (pe_call T.ok hr1 (by rfl) T.mg T.kp T.bd .nil pass0 (pa_cons (pv 0) (pa_cons pe_int pa_nil))) pe_int) (fun _ _ => rfl))))
    (pss_one (ps_ret (pe_join pe_str (pe_lc (own := [("_law_k", 3)]) (g := gName 3) (by rfl) scWord.nd
      (pi_range1 (by rfl) mr (pa_cons (pv 2) pa_nil))
      (blkOk_by (own := [("_law_k", 3)]) (N := ["_law_box_here", "_law_letters", "_law_many", "_law_k"]) (sc := defScope sWord) (by decide +kernel))
      (fun _ _ _ _ _ => pg_name (i := 3) scWord.nd rfl (Or.inl rfl)) (fun _ _ _ _ _ => pts_nil)
      (fun _ _ _ _ _ => pe_ix ix_str (pv 1) (pe_call T.ok hr1 (by rfl) T.mg T.kp T.bd .nil pass0 (pa_cons (pv 0) (pa_cons pe_int pa_nil))) (fun _ _ => rfl)))))))), ?_⟩
  refine ⟨_, rfl, p, g, 6, rfl, hb, by decide, by decide, fun r H1 r0 r8 b1 o1 => ⟨rfl, _, rfl, ite2 (fun c => ?_) (fun c => ?_)⟩⟩
  · refine ⟨_, rfl, few (by simp), fun D hD => ?_⟩
    have nD := b1.notin hD
    refine ⟨p, g, D, _, rfl, b1.put nD, upd_same, nD, by simp, by simp, fun x mx H2 b2 o2 => ?_⟩
    have o3 := off_new (o := .lst [V.str "if", V.str "atom", V.str "tuple", V.str "is", V.str "int", V.str "name", V.str "read", V.str "abcdefgh", V.str "fold", V.str "not"]) o1 nD (o1.free hD nD)
    obtain ⟨y, rfl, sy⟩ : ∃ y : Str, x = .str y ∧ Sm 8 y := by
      have key : ∀ y ∈ (["if", "atom", "tuple", "is", "int", "name", "read", "abcdefgh", "fold", "not"] : List Str), Sm 8 y := fun y hy => Sm.of (by
        have all : ∀ y ∈ (["if", "atom", "tuple", "is", "int", "name", "read", "abcdefgh", "fold", "not"] : List Str), (decide (y.length ≤ 8) && y.cps.toList.all fun c => decide (c < 128)) = true := by decide +kernel
        exact all y hy)
      have mx2 : x ∈ (["if", "atom", "tuple", "is", "int", "name", "read", "abcdefgh", "fold", "not"] : List Str).map V.str := mx
      obtain ⟨y, hy, rfl⟩ := List.mem_map.mp mx2
      exact ⟨y, rfl, key y hy⟩
    exact q y H2 sy b2 (o3.trans o2)
  · refine ⟨_, rfl, p, g, 2, rfl, b1, by decide, by decide, fun s1 H3 s10 s12 b3 o3 => ⟨_, rfl, p, g, 8, rfl, b3, by decide, by decide, fun s2 H4 s20 s28 b4 o4 => ⟨few (by simp), fun D hD => ?_⟩⟩⟩
    have o4 := o1.trans (o3.trans o4)
    have nD := b4.notin hD
    have b5 := b4.put (o := .lst [V.int s1, V.int s2]) nD
    have o5 := off_new (o := .lst [V.int s1, V.int s2]) o4 nD (o4.free hD nD)
    refine ⟨_, rfl, p, g, 9, rfl, b5, by decide, by decide, fun s3 H6 s30 s39 b6 o6 => ⟨_, _, rfl, rfl, ⟨by decide, by decide⟩, ?_⟩⟩
    have hD6 := o6.get (upd_same (H := H4) (a := D) (o := .lst [V.int s1, V.int s2])) nD
    obtain ⟨x, hx, mx, _⟩ := atI_ok (xs := [V.int s1, V.int s2]) (r := s3 / 5) (by omega) (by simp only [List.length_cons, List.length_nil]; omega)
    refine ⟨D, _, _, x, rfl, rfl, SqL.of hD6, hx, ?_⟩
    obtain ⟨m, rfl, m0, m8⟩ : ∃ m : Int, x = .int m ∧ 0 ≤ m ∧ m < 8 := by
      simp only [List.mem_cons, List.not_mem_nil, or_false] at mx
      rcases mx with e | e
      · exact ⟨_, e, by omega, by omega⟩
      · exact ⟨_, e, by omega, by omega⟩
    have o6 := o5.trans o6
    refine ⟨1, m, rfl, rfl, ⟨_, rfl⟩, _, rfl, 1 + m, rfl, by omega, by omega, fun D2 hD2 => ?_⟩
    have n2 := b6.notin hD2
    refine lc_range (lo := 0) (n := (1 + m).toNat) (fun i H2 => ∃ ys : List Str, ys.length ≤ i ∧ (∀ y ∈ ys, Sm 1 y) ∧ H2 D2 = some (.lst (ys.map V.str)) ∧ Box H2 p g ∧ Off [p, g] H H2)
      ⟨[], Nat.le_refl _, fun _ z => (List.not_mem_nil z).elim, upd_same, b6.same (same_new hD2 _), o6.trans (Off.of (same_new hD2 _))⟩ ?_ ?_
    · rintro i H2 hi ⟨ys, ly, sy, h1, b2, o2⟩
      refine ⟨rfl, _, rfl, _, rfl, p, g, 26, rfl, b2, by decide, by decide, fun r2 H3 s0 s26 b3 o3 => ?_⟩
      obtain ⟨c, hc, mc, _⟩ := atI_ok (xs := ("abcdefghijklmnopqrstuvwxyz" : Str).cps.toList) (r := r2) s0 (by rw [alpha_len]; exact s26)
      refine ⟨_, _, c, rfl, rfl, alpha_sm.fits (by decide), hc, _, o3.get h1 n2, ?_, ys ++ [⟨#[c]⟩], ?_, ?_, ?_, b3.put n2, ?_⟩
      · rw [List.length_map]
        exact small1000 (by omega)
      · rw [List.length_append, List.length_singleton]
        omega
      · intro y hy
        rcases List.mem_append.mp hy with z | z
        · exact sy y z
        · rw [List.mem_singleton.mp z]
          exact ⟨Nat.le_refl _, fun d hd => by
            have hd : d ∈ [c] := hd
            rw [List.mem_singleton.mp hd]
            exact alpha_sm.lo c mc⟩
      · rw [upd_same, List.map_append]
        rfl
      · exact off_new (o2.trans o3) n2 (o6.free hD2 n2)
    · rintro H2 ⟨ys, ly, sy, h1, b2, o2⟩
      have j := Sm.join ys sy
      refine ⟨_, D2, ys, rfl, rfl, .inl (SqL.of h1), ?_, q _ _ (j.mono (by omega)) b2 o2⟩
      have e0 : (("" : Str)).length = 0 := by decide +kernel
      rw [e0, Nat.mul_zero, Nat.add_zero]
      have : (ys.map (·.length)).sum ≤ ys.length := by
        clear h1 j ly
        induction ys with
        | nil => exact Nat.le_refl _
        | cons y r ih =>
          have h1 := (sy y List.mem_cons_self).le
          have h2 := ih fun z hz => sy z (List.mem_cons_of_mem _ hz)
          simp only [List.map_cons, List.sum_cons, List.length_cons]
          omega
      omega
theorem ok_thing {k : Nat} (F : Fun K "_law_thing" "_law_thing" sThing f fd) (T : Tk P w K mg base fT dT) (GP : Dn P w K mg base 2 "_law_pick" ["_law_box_here", "_law_items"] spPick fP dP) (GW : Dn P w K mg base 3 "_law_word" ["_law_box_here"] spWord fW dW) :
    FnOk P w K mg base CX0 (k + 4) f fd ["_law_box_here", "_law_slot"] spThing := by
  refine F.ok scThing (fun vs H Q E h => ?_) (fun cdv A outer s H vs Q E hr h => ?_)
  · obtain ⟨p, g, s, rfl, _⟩ := h
    rfl
  obtain ⟨p, g, s, rfl, hb, q⟩ := h
  have hr1 : Room 1 _ := hr.mono (by omega)
  have hr2 : Room 2 _ := hr.mono (by omega)
  have hr3 : Room 3 _ := hr.mono (by omega)
  refine ⟨_, pss_cons (ps_if (pt_cmpR op_eq (pv 1) pe_str (nomark _)) (pss_one (ps_ret (pe_call GP.ok hr2 (by rfl) GP.mg GP.kp GP.bd .nil pass0 (pa_cons (pv 0) (pa_cons (pe_lst (pa_cons pe_str (pa_cons pe_str (pa_cons pe_str pa_nil)))) pa_nil))))) pss_nil)
    (pss_cons (ps_if (pt_cmpR op_eq (pv 1) pe_str (nomark _)) (pss_one (ps_ret (pe_call GW.ok hr3 (by rfl) GW.mg GW.kp GW.bd .nil pass0 (pa_cons (pv 0) pa_nil)))) pss_nil)
    (pss_cons (ps_if (pt_cmpR op_eq (pv 1) pe_str (nomark _)) (pss_one (ps_ret (pe_call T.ok hr1 (by rfl) T.mg T.kp T.bd .nil pass0 (pa_cons (pv 0) (pa_cons pe_int pa_nil))))) pss_nil)
    (pss_cons (ps_set (i := 2) scThing.nd rfl (.inl rfl) (pe_ix ix_list (pe_lst (pa_cons (pe_call T.ok hr1 (by rfl) T.mg T.kp T.bd .nil pass0 (pa_cons (pv 0) (pa_cons pe_int pa_nil))) (pa_cons (pe_call T.ok hr1 (by rfl) T.mg T.kp T.bd .nil pass0 (pa_cons (pv 0) (pa_cons pe_int pa_nil)))
      (pa_cons (pe_op op_sub (pe_op op_pow pe_int pe_int) (pe_call T.ok hr1 (by rfl) T.mg T.kp T.bd .nil pass0 (pa_cons (pv 0) (pa_cons pe_int pa_nil)))) pa_nil))))
      (pe_op op_fdiv (pe_call T.ok hr1 (by rfl) T.mg T.kp T.bd .nil pass0 (pa_cons (pv 0) (pa_cons pe_int pa_nil))) pe_int) (fun _ _ => rfl)))
    (pss_one (ps_ret (pe_ifExp (pt_cmpR op_gt (pe_call T.ok hr1 (by rfl) T.mg T.kp T.bd .nil pass0 (pa_cons (pv 0) (pa_cons pe_int pa_nil))) pe_int (nomark _)) (pv 2) (pe_op op_sub pe_int (pv 2)))))))), ?_⟩
  have strq : ∀ x H', Sm 8 x → Box H' p g → Off [p, g] H H' → Q (.str x) H' := fun x H' sx b o => q (.str x) (.str x) H' (fun _ _ => .str x) (sx.gd (by decide)) (by simp only [nod]) (by simp only [PyData.depth]) (by simp only [nl]) b o
  have intq : ∀ (i : Int) H', i.natAbs < 2 ^ 40 → Box H' p g → Off [p, g] H H' → Q (.int i) H' := fun i H' si b o =>
    q (.int i) (.int i) H' (fun _ _ => .int i) (gd_int (Nat.lt_of_lt_of_le si (Nat.pow_le_pow_right (by decide) (by decide)))) (by simp only [nod]) (by simp only [PyData.depth]) (by simp only [nl]) b o
  refine ⟨_, rfl, rfl, _, rfl, ite2 (fun c => ?_) (fun c => ⟨_, rfl, rfl, _, rfl, ite2 (fun c2 => ?_) (fun c2 => ⟨_, rfl, rfl, _, rfl, ite2 (fun c3 => ?_) (fun c3 => ?_)⟩)⟩)⟩
  · refine ⟨_, rfl, few (by simp), fun D hD => ?_⟩
    have nD := hb.notin hD
    have s1 : Same H (upd H D (.lst [V.str "integer", V.str "atom", V.str "tuple"])) := same_new hD _
    refine ⟨p, g, D, _, rfl, hb.put nD, upd_same, nD, by simp, by simp, fun x mx H2 b2 o2 => ?_⟩
    have mx2 : x ∈ (["integer", "atom", "tuple"] : List Str).map V.str := mx
    obtain ⟨y, hy, rfl⟩ := List.mem_map.mp mx2
    have key : ∀ y ∈ (["integer", "atom", "tuple"] : List Str), (decide (y.length ≤ 8) && y.cps.toList.all fun c => decide (c < 128)) = true := by decide +kernel
    exact strq y H2 (Sm.of (key y hy)) b2 ((Off.of s1).trans o2)
  · exact ⟨_, rfl, p, g, rfl, hb, fun x H' sx b o => strq x H' sx b o⟩
  · exact ⟨_, rfl, p, g, 21, rfl, hb, by decide, by decide, fun r H1 r0 r1 b1 o1 => intq r H1 (Nat.lt_of_lt_of_le (by omega : r.natAbs < 2 ^ 10) (by decide)) b1 o1⟩
  · have big : (10 : Int) ^ (6 : Int).toNat = 1000000 := by decide
    refine ⟨_, rfl, p, g, 9, rfl, hb, by decide, by decide, fun s1 H3 s10 s12 b3 o3 => ⟨_, rfl, p, g, 21, rfl, b3, by decide, by decide, fun s2 H4 s20 s28 b4 o4 => ?_⟩⟩
    refine ⟨_, _, rfl, rfl, ⟨by decide, by decide, by decide⟩, _, rfl, p, g, 99, rfl, b4, by decide, by decide, fun s3 H5 s30 s39 b5 o5 => ⟨_, _, rfl, rfl, few (by simp), fun D hD => ?_⟩⟩
    have o5 := o3.trans (o4.trans o5)
    have nD := b5.notin hD
    have b6 := b5.put (o := .lst [V.int s1, V.int s2, V.int (10 ^ (6 : Int).toNat - s3)]) nD
    have o6 := off_new (o := .lst [V.int s1, V.int s2, V.int (10 ^ (6 : Int).toNat - s3)]) o5 nD (o5.free hD nD)
    refine ⟨_, rfl, p, g, 9, rfl, b6, by decide, by decide, fun s4 H7 s40 s49 b7 o7 => ⟨_, _, rfl, rfl, ⟨by decide, by decide⟩, ?_⟩⟩
    have hD7 := o7.get (upd_same (H := H5) (a := D) (o := .lst [V.int s1, V.int s2, V.int (10 ^ (6 : Int).toNat - s3)])) nD
    obtain ⟨x, hx, mx, _⟩ := atI_ok (xs := [V.int s1, V.int s2, V.int (10 ^ (6 : Int).toNat - s3)]) (r := s4 / 4) (by omega) (by simp only [List.length_cons, List.length_nil]; omega)
    obtain ⟨m, rfl, m0, m8⟩ : ∃ m : Int, x = .int m ∧ 0 ≤ m ∧ m ≤ 1000000 := by
      rw [big] at mx
      simp only [List.mem_cons, List.not_mem_nil, or_false] at mx
      rcases mx with e | e | e
      · exact ⟨_, e, by omega, by omega⟩
      · exact ⟨_, e, by omega, by omega⟩
      · exact ⟨_, e, by omega, by omega⟩
    refine ⟨D, _, _, .int m, rfl, rfl, SqL.of hD7, hx, ?_⟩
    have o7 := o6.trans o7
    refine ⟨_, rfl, p, g, 3, rfl, b7, by decide, by decide, fun s5 H8 s50 s53 b8 o8 => ⟨_, _, rfl, rfl, _, rfl, ite2 (fun c => ⟨_, rfl, ?_⟩) (fun c => ⟨_, rfl, _, _, rfl, rfl, ?_⟩)⟩⟩
    · exact intq m H8 (Nat.lt_of_lt_of_le (by omega : m.natAbs < 2 ^ 30) (by decide)) b8 (o7.trans o8)
    · exact intq (0 - m) H8 (Nat.lt_of_lt_of_le (by omega : (0 - m).natAbs < 2 ^ 30) (by decide)) b8 (o7.trans o8)
end
abbrev sTree : Stmt := topS 18
theorem scTree : FnScope ["_law_box_here", "_law_sort", "_law_deep", "_law_room", "_law_forms_here", "_law_head", "_law_heads", "_law_found", "_law_slot", "_law_many", "_law_is_tree", "_law_k"] ["_law_box_here", "_law_sort", "_law_deep", "_law_room"] (defScope sTree) :=
  ⟨rfl, rfl, rfl, by decide +kernel, rfl, by decide +kernel, by decide +kernel⟩
def phi (w : Int) : Nat := (max w 1).toNat
def limS (s : Str) : Nat := if s = "t" then 6 else 3
def tblS (s : Str) : List (Str × Str) := if s = "t" then teL else exL
def cst (c : Nat) : Nat := if c = 115 then 37 else if c = 101 then 3 else if c = 116 then 6 else 1
def cstL (cs : List Nat) : Nat := (cs.map cst).sum
def keysV (l : List (Str × Str)) : List V := l.map fun p => V.str p.1
abbrev eightV : List V := [.str "int", .str "atom", .str "name", .str "read", .str "is", .str "sized", .str "alike", .str "most"]
abbrev fourV : List V := [.str "int", .str "atom", .str "name", .str "is"]
def spTree (K : PySem.W.Frag) (n : Nat) : Sp := fun vs H Q _ => ∃ p g wd e w0 s, vs = [.ref p, .str s, .int e, .ref wd] ∧ Box H p g ∧ H wd = some (.lst [.int w0]) ∧ wd ∉ [p, g] ∧ ((s = "e" ∧ 0 ≤ e) ∨ (s = "t" ∧ 1 ≤ e)) ∧ e < (n : Int) ∧
  ∀ v d H' w1 c, Box H' p g → H' wd = some (.lst [.int w1]) → Off [p, g, wd] H H' → Dp K H' v d → Wf n c d → gd d = true → nl d = true → (d.depth : Int) ≤ 2 * e + 1 → w1 ≤ w0 - 1 → nod d + 80 * phi w1 ≤ limS s + 80 * phi w0 → Q v H'
theorem heads_ok {s : Str} {hs : List V} (h : hs = (keysV (tblS s)).filter (fun x => inV x eightV) ∨ hs = keysV (tblS s)) : hs ≠ [] ∧ hs.length ≤ 16 ∧ hs.filter (fun x => inV x fourV) ≠ [] ∧ ∀ x ∈ hs, x ∈ keysV (tblS s) := by
  have a1 : ∀ b : Bool, (keysV (if b = true then teL else exL)).filter (fun x => inV x eightV) ≠ [] ∧ ((keysV (if b = true then teL else exL)).filter (fun x => inV x eightV)).length ≤ 16 ∧ ((keysV (if b = true then teL else exL)).filter (fun x => inV x eightV)).filter (fun x => inV x fourV) ≠ [] := by
    intro b
    cases b <;> exact ⟨by decide +kernel, by decide +kernel, by decide +kernel⟩
  have a2 : ∀ b : Bool, keysV (if b = true then teL else exL) ≠ [] ∧ (keysV (if b = true then teL else exL)).length ≤ 16 ∧ (keysV (if b = true then teL else exL)).filter (fun x => inV x fourV) ≠ [] := by
    intro b
    cases b <;> exact ⟨by decide +kernel, by decide +kernel, by decide +kernel⟩
  have e : tblS s = if decide (s = "t") = true then teL else exL := by
    unfold tblS
    by_cases z : s = "t"
    · rw [if_pos z, if_pos (decide_eq_true z)]
    · rw [if_neg z, if_neg (fun y => z (of_decide_eq_true y))]
  rcases h with rfl | rfl
  · refine ⟨?_, ?_, ?_, fun x hx => (List.mem_filter.mp hx).1⟩
    · rw [e]; exact (a1 _).1
    · rw [e]; exact (a1 _).2.1
    · rw [e]; exact (a1 _).2.2
  · refine ⟨?_, ?_, ?_, fun x hx => hx⟩
    · rw [e]; exact (a2 _).1
    · rw [e]; exact (a2 _).2.1
    · rw [e]; exact (a2 _).2.2
theorem four_ex : ∀ p ∈ exL, inV (.str p.1) fourV = true → p.2 = "k" ∨ p.2 = "n" := by decide +kernel
theorem four_te : ∀ p ∈ teL, inV (.str p.1) fourV = true → p.2 = "we" := by decide +kernel
theorem cst_all : ∀ p ∈ allL, cstL p.2.cps.toList ≤ 60 := by decide +kernel
theorem tbl_all {s : Str} : ∀ p ∈ tblS s, p ∈ allL := fun p h => by
  unfold tblS at h
  split at h
  · exact List.mem_append_right _ h
  · exact List.mem_append_left _ h
structure SlotOk (s : Str) (e w0 : Int) (sl : Str) : Prop where
  go : ∀ c ∈ sl.cps.toList, (c = 101 ∨ c = 115 → 1 ≤ e) ∧ (c = 116 → 2 ≤ e)
  co : 2 + cstL sl.cps.toList + 80 * phi (w0 - 1) ≤ limS s + 80 * phi w0
def PH (s : Str) (e w0 : Int) (hs : List V) : Prop := hs ≠ [] ∧ hs.length ≤ 16 ∧ ∀ x ∈ hs, ∃ h sl, x = .str h ∧ (h, sl) ∈ tblS s ∧ SlotOk s e w0 sl
theorem ph_few {s : Str} {e w0 : Int} {hs : List V} (h : hs = (keysV (tblS s)).filter (fun x => inV x eightV) ∨ hs = keysV (tblS s)) (he : (s = "e" ∧ 0 ≤ e) ∨ (s = "t" ∧ 1 ≤ e)) : PH s e w0 (hs.filter fun x => inV x fourV) := by
  obtain ⟨h1, h2, h3, h4⟩ := heads_ok h
  refine ⟨h3, Nat.le_trans (List.length_filter_le _ _) h2, fun x hx => ?_⟩
  obtain ⟨m1, m2⟩ := List.mem_filter.mp hx
  obtain ⟨⟨hd, sl⟩, m3, rfl⟩ := List.mem_map.mp (h4 x m1)
  refine ⟨hd, sl, rfl, m3, ?_⟩
  have ph : phi (w0 - 1) ≤ phi w0 := by
    unfold phi
    omega
  rcases he with ⟨rfl, e0⟩ | ⟨rfl, e1⟩
  · have l0 : limS "e" = 3 := by decide +kernel
    rcases four_ex _ m3 m2 with z | z
    · simp only at z
      subst z
      have q : cstL ("k" : Str).cps.toList = 1 := by decide +kernel
      exact ⟨fun c hc => by
        have hc : c = 107 := by
          have z : ("k" : Str).cps.toList = [107] := by decide +kernel
          rw [z] at hc
          exact List.mem_singleton.mp hc
        omega, by rw [q, l0]; omega⟩
    · simp only at z
      subst z
      have q : cstL ("n" : Str).cps.toList = 1 := by decide +kernel
      exact ⟨fun c hc => by
        have hc : c = 110 := by
          have z : ("n" : Str).cps.toList = [110] := by decide +kernel
          rw [z] at hc
          exact List.mem_singleton.mp hc
        omega, by rw [q, l0]; omega⟩
  · have l0 : limS "t" = 6 := by decide +kernel
    have z := four_te _ m3 m2
    simp only at z
    subst z
    have q : cstL ("we" : Str).cps.toList = 4 := by decide +kernel
    exact ⟨fun c hc => by
      have hc : c = 119 ∨ c = 101 := by
        have z : ("we" : Str).cps.toList = [119, 101] := by decide +kernel
        rw [z] at hc
        simpa using hc
      omega, by rw [q, l0]; omega⟩
theorem ph_many {s : Str} {e w0 : Int} {hs : List V} (h : hs = (keysV (tblS s)).filter (fun x => inV x eightV) ∨ hs = keysV (tblS s)) (he : 2 ≤ e) (hw : 1 ≤ w0 - 1) : PH s e w0 hs := by
  obtain ⟨h1, h2, h3, h4⟩ := heads_ok h
  refine ⟨h1, h2, fun x hx => ?_⟩
  obtain ⟨⟨hd, sl⟩, m3, rfl⟩ := List.mem_map.mp (h4 x hx)
  refine ⟨hd, sl, rfl, m3, fun c hc => by omega, ?_⟩
  have := cst_all _ (tbl_all _ m3)
  simp only at this
  have : phi w0 = phi (w0 - 1) + 1 := by
    unfold phi
    omega
  omega
theorem lock_same {H2 H3 : Hp} {d : Addr} {u x : HO} (h : H2 d = some u) (s : Same (upd H2 d x) H3) : Same H2 (upd H3 d u) := fun b o z => by
  by_cases e : b = d
  · rw [e, upd_same]
    rw [e, h] at z
    exact z
  · rw [upd_ne e]
    exact s b o (by rw [upd_ne e]; exact z)
theorem sg_one (c k : Nat) : ((⟨#[c]⟩ : Str) = ⟨#[k]⟩) ↔ c = k := by
  refine ⟨fun h => ?_, fun h => by rw [h]⟩
  have h2 := congrArg (fun z : Str => z.cps.toList) h
  simpa using h2
theorem sg_s (c : Nat) : (V.str ⟨#[c]⟩ = V.str "s") ↔ c = 115 := by
  rw [V.str.injEq]
  exact sg_one c 115
theorem sg_e : ("e" : Str) = ⟨#[101]⟩ := by decide +kernel
theorem sg_t : ("t" : Str) = ⟨#[116]⟩ := by decide +kernel
theorem inV_et (c : Nat) : inV (.str ⟨#[c]⟩) [.str "e", .str "t"] = true ↔ c = 101 ∨ c = 116 := by
  simp only [inV, List.any_cons, List.any_nil, eqV, Bool.or_false, Bool.or_eq_true, beq_iff_eq]
  rw [sg_e, sg_t, sg_one, sg_one]
  exact ⟨fun h => h.imp Eq.symm Eq.symm, fun h => h.imp Eq.symm Eq.symm⟩
theorem val_te : ∀ p ∈ teL, valV (kvL teL) (Sum.inr p.1 : Key) = some (.str p.2) := by decide +kernel
theorem val_ex : ∀ p ∈ exL, valV (kvL exL) (Sum.inr p.1 : Key) = some (.str p.2) := by decide +kernel
theorem val_tbl {s : Str} : ∀ p ∈ tblS s, valV (kvL (tblS s)) (Sum.inr p.1 : Key) = some (.str p.2) := fun p h => by
  unfold tblS at h ⊢
  split at h
  · rename_i c
    rw [if_pos c]
    exact val_te p h
  · rename_i c
    rw [if_neg c]
    exact val_ex p h
theorem ShA.snoc : ∀ {cs : List Nat} {ds : List PyData} {c : Nat} {d : PyData}, ShA cs ds → (c = 115 → ∃ es, d = .tuple es) → ShA (cs ++ [c]) (ds ++ [d])
  | [], [], _, _, _, h => ⟨h, trivial⟩
  | _ :: _, _ :: _, _, _, h, g => ⟨h.1, ShA.snoc h.2 g⟩
  | [], _ :: _, _, _, h, _ => h.elim
  | _ :: _, [], _, _, h, _ => h.elim
theorem inArgs_snoc {cs : List Nat} {ds : List PyData} (c : Nat) (d : PyData) (h : cs.length = ds.length) : inArgs 1 (cs ++ [c]) (ds ++ [d]) = inArgs 1 cs ds ++ inSlot (1 + cs.length) c d := by
  rw [inArgs_app 1 cs [c] ds [d] h]
  simp [inArgs]
theorem cstL_snoc (cs : List Nat) (c : Nat) : cstL (cs ++ [c]) = cstL cs + cst c := by
  unfold cstL
  rw [List.map_append, List.sum_append]
  simp
theorem paired_zip {n : Nat} {k : Int} : ∀ {ns : List Nat} {es : List PyData} (j : Nat), Paired (fun (m : Nat) (d : PyData) => Wf n m d) ns es → Paired (fun (m : Nat) (p : List Int × PyData) => Wf n m p.2) ns ((es.zipIdx j).map fun p => ([k, (p.2 : Int)], p.1))
  | _, _, _, .nil => .nil
  | _, _, j, .cons a t => .cons a (paired_zip (j + 1) t)
theorem gd_heads : ∀ p ∈ allL, gd (.str p.1) = true := by decide +kernel
theorem sl_ne : ∀ p ∈ allL, p.2.cps.toList ≠ [] := by decide +kernel
theorem op_inK {X : Cx} {K : PySem.W.Frag} (h : X.K = K) : OpR X (compareOp .In) (rIn K false) := by
  subst h
  exact op_in_seq
section
variable {P : Program} {w : World} {K : PySem.W.Frag} {mg : Str → Option Value} {base : Heap} {f fT fF fP fG : Addr} {fd dT dF dP dG : FuncData}
theorem ok_tree {k n : Nat} (F : Fun K "_law_tree" "_law_tree" sTree f fd) (ml : mg "list" = none) (mt : mg "tuple" = none) (mr : mg "range" = none) (T : Tk P w K mg base fT dT) (GF : Dn P w K mg base 1 "_law_forms" ["_law_sort"] spForms fF dF)
    (GP : Dn P w K mg base 2 "_law_pick" ["_law_box_here", "_law_items"] spPick fP dP) (GT : Dn P w K mg base 4 "_law_thing" ["_law_box_here", "_law_slot"] spThing fG dG)
    (G : FnOk P w K mg base CX0 (k + 4) f fd ["_law_box_here", "_law_sort", "_law_deep", "_law_room"] (spTree K n)) (bV : Binds K fd ["_law_box_here", "_law_sort", "_law_deep", "_law_room"] []) (mV : mg "_law_tree" = some (.ref f)) :
    FnOk P w K mg base CX0 (k + 5) f fd ["_law_box_here", "_law_sort", "_law_deep", "_law_room"] (spTree K (n + 1)) := by
  refine F.ok scTree (fun vs H Q E h => ?_) (fun cdv A outer s H vs Q E hr h => ?_)
  · obtain ⟨p, g, wd, e, w0, s, rfl, _⟩ := h
    rfl
  obtain ⟨p, g, wd, e, w0, srt, rfl, hb, hw, nw, hs, en, q⟩ := h
  have hr1 : Room 1 _ := hr.mono (by omega)
  have hr2 : Room 2 _ := hr.mono (by omega)
  have hr4 : Room 4 _ := hr.mono (by omega)
  have hu := hu_of hr
  refine ⟨_, pss_cons (ps_asg (pe_op op_sub (pe_ix ix_list (pv 3) pe_int (fun _ _ => rfl)) pe_int) (pg_sub (pv 3) pe_int set_list))
    (pss_cons (ps_set (i := 4) scTree.nd rfl (.inl rfl) (pe_call GF.ok hr1 (by rfl) GF.mg GF.kp GF.bd .nil pass0 (pa_cons (pv 1) pa_nil)))
    (pss_cons (ps_lock (ps_setLc (i := 6) (own := [("_law_head", 5)]) (g := gName 5) (by rfl) scTree.nd rfl rfl (sw_true rfl rfl rfl (by decide +kernel)) (pi_keys (pv 4))
        (blkOk_by (own := [("_law_head", 5)]) (N := ["_law_box_here", "_law_sort", "_law_deep", "_law_room", "_law_forms_here", "_law_head", "_law_heads", "_law_found", "_law_slot", "_law_many", "_law_is_tree", "_law_k"]) (sc := defScope sTree) (by decide +kernel))
        (fun _ _ _ _ _ => pg_name (i := 5) scTree.nd rfl (Or.inl rfl)) (fun _ _ _ _ _ => pts_one (pt_cmpR (op_inK (K := K) rfl) (pv 5) (pe_tup (pa_cons pe_str (pa_cons pe_str (pa_cons pe_str (pa_cons pe_str (pa_cons pe_str (pa_cons pe_str (pa_cons pe_str (pa_cons pe_str pa_nil))))))))) rfl)) (fun _ _ _ _ _ => pv 5)))
    (C8.pss_cut (ps_if (PW.pt (pw_and (pt_cmpR op_gt (pv 2) pe_int (nomark _)) (pw_and (pt_cmpR op_gt (pe_ix ix_list (pv 3) pe_int (fun _ _ => rfl)) pe_int (nomark _)) (pw_and1 (pt_cmpR op_gt (pe_call T.ok hr1 (by rfl) T.mg T.kp T.bd .nil pass0 (pa_cons (pv 0) (pa_cons pe_int pa_nil))) pe_int (nomark _))))))
      (pss_one (ps_set (i := 6) scTree.nd rfl (.inl rfl) (pe_callTy (call_listD rfl) (by rfl) ml b_list (pa_cons (pv 4) pa_nil)))) pss_nil)
    (C8.pss_cut (ps_if (PW.pt (pw_or (pt_cmpR op_lt (pv 2) pe_int (nomark _)) (pw_or1 (pt_cmpR op_lt (pe_ix ix_list (pv 3) pe_int (fun _ _ => rfl)) pe_int (nomark _)))))
      (pss_one (ps_setLc (i := 6) (own := [("_law_head", 5)]) (g := gName 5) (by rfl) scTree.nd rfl rfl (sw_true rfl rfl rfl (by decide +kernel)) (pi_list (pv 6))
        (blkOk_by (own := [("_law_head", 5)]) (N := ["_law_box_here", "_law_sort", "_law_deep", "_law_room", "_law_forms_here", "_law_head", "_law_heads", "_law_found", "_law_slot", "_law_many", "_law_is_tree", "_law_k"]) (sc := defScope sTree) (by decide +kernel))
        (fun _ _ _ _ _ => pg_name (i := 5) scTree.nd rfl (Or.inl rfl)) (fun _ _ _ _ _ => pts_one (pt_cmpR (op_inK (K := K) rfl) (pv 5) (pe_tup (pa_cons pe_str (pa_cons pe_str (pa_cons pe_str (pa_cons pe_str pa_nil))))) rfl)) (fun _ _ _ _ _ => pv 5))) pss_nil)
    (pss_cons (ps_par (i := 5) (j := 7) (by rfl) scTree.nd rfl rfl (by decide) rfl rfl (pa_cons (pe_call GP.ok hr2 (by rfl) GP.mg GP.kp GP.bd .nil pass0 (pa_cons (pv 0) (pa_cons (pv 6) pa_nil))) (pa_cons (pe_lst pa_nil) pa_nil)) (by rfl))
    (pss_cons (ps_for PassesOwn.never rfl (pi_str (pe_dget hu (pv 4) (pv 5) (fun _ _ => rfl))) (pg_name (i := 8) scTree.nd rfl (Or.inl rfl))
      (pss_one (ps_if (pt_cmpR op_eq (pv 8) pe_str (nomark _))
        (pss_cons (ps_set (i := 9) scTree.nd rfl (.inl rfl) (pe_ix ix_list (pe_lst (pa_cons (pe_call T.ok hr1 (by rfl) T.mg T.kp T.bd .nil pass0 (pa_cons (pv 0) (pa_cons pe_int pa_nil))) (pa_cons (pe_op op_add pe_int (pe_call T.ok hr1 (by rfl) T.mg T.kp T.bd .nil pass0 (pa_cons (pv 0) (pa_cons pe_int pa_nil)))) pa_nil)))
          (pe_op op_fdiv (pe_call T.ok hr1 (by rfl) T.mg T.kp T.bd .nil pass0 (pa_cons (pv 0) (pa_cons pe_int pa_nil))) pe_int) (fun _ _ => rfl)))
        (pss_one (ps_expr (pe_bm PySem.F.plainAttrs_list PySem.F.slot_list_append PySem.F.type_list_append mt_append (pv 7) (pa_cons (pe_callTy call_tuple_of (by rfl) mt b_tup (pa_cons (pe_lc (own := [("_law_k", 11)]) (g := gName 11) (by rfl) scTree.nd (pi_range1 (by rfl) mr (pa_cons (pv 9) pa_nil))
          (blkOk_by (own := [("_law_k", 11)]) (N := ["_law_box_here", "_law_sort", "_law_deep", "_law_room", "_law_forms_here", "_law_head", "_law_heads", "_law_found", "_law_slot", "_law_many", "_law_is_tree", "_law_k"]) (sc := defScope sTree) (by decide +kernel))
          (fun _ _ _ _ _ => pg_name (i := 11) scTree.nd rfl (Or.inl rfl)) (fun _ _ _ _ _ => pts_nil)
          (fun _ _ _ _ _ => pe_call G hr (by rfl) mV F.kp bV .nil pass0 (pa_cons (pv 0) (pa_cons pe_str (pa_cons (pe_op op_sub (pv 2) pe_int) (pa_cons (pv 3) pa_nil)))))) pa_nil)) pa_nil)))))
        (pss_cons (ps_set (i := 10) scTree.nd rfl (.inl rfl) (pe_cmpR op_in_seq (pv 8) (pe_tup (pa_cons pe_str (pa_cons pe_str pa_nil))) rfl))
        (pss_one (ps_expr (pe_bm PySem.F.plainAttrs_list PySem.F.slot_list_append PySem.F.type_list_append mt_append (pv 7) (pa_cons (pe_ifExp (pt_val (pv 10))
          (pe_call G hr (by rfl) mV F.kp bV .nil pass0 (pa_cons (pv 0) (pa_cons (pv 8) (pa_cons (pe_op op_sub (pv 2) pe_int) (pa_cons (pv 3) pa_nil)))))
          (pe_call GT.ok hr4 (by rfl) GT.mg GT.kp GT.bd .nil pass0 (pa_cons (pv 0) (pa_cons (pv 8) pa_nil)))) pa_nil))))))))
    (pss_one (ps_ret (pe_op op_catT (pe_tup (pa_cons (pv 5) pa_nil)) (pe_callTy call_tuple_of (by rfl) mt b_tup (pa_cons (pv 7) pa_nil)))))))))))  , ?_⟩
  have npg : p ∉ [wd] ∧ g ∉ [wd] := by
    simp only [List.mem_cons, List.not_mem_nil, or_false, not_or] at nw ⊢
    exact ⟨fun z => nw.1 z.symm, fun z => nw.2 z.symm⟩
  have sub : ∀ b ∈ [p, g], b ∈ [p, g, wd] := fun b hb => by
    simp only [List.mem_cons, List.not_mem_nil, or_false] at hb ⊢
    rcases hb with h | h
    · exact .inl h
    · exact .inr (.inl h)
  refine ⟨_, rfl, wd, _, 0, _, rfl, rfl, SqL.of hw, rfl, _, _, rfl, rfl, _, rfl, wd, _, 0, 0, rfl, rfl, hw, rfl, ?_⟩
  have b1 := hb.put (o := .lst [.int (w0 - 1)]) nw
  have o1 : Off [p, g, wd] H (upd H wd (.lst [.int (w0 - 1)])) := Off.put (by simp)
  have hw1 : (upd H wd (.lst [.int (w0 - 1)])) wd = some (.lst [.int (w0 - 1)]) := upd_same
  refine ⟨_, rfl, srt, rfl, fun pf H2 s2 hpf e2 => ?_⟩
  have s2 : Same (upd H wd (.lst [.int (w0 - 1)])) H2 := s2
  have et : (if srt = "t" then teL else exL) = tblS srt := rfl
  rw [et] at e2
  have b2 := b1.same s2
  have o2 : Off [p, g, wd] H H2 := o1.trans (Off.of s2)
  have hw2 := s2 _ _ hw1
  refine ⟨pf, .dK (kvL (tblS srt)), e2, trivial, fun od => ?_⟩
  refine ⟨_, rfl, pf, od, rfl, .inl ⟨kvL (tblS srt), upd_same, fun D hD => ?_⟩⟩
  refine lc_it walk_keys (fun i H3 => H3 D = some (.lst (((keysV (tblS srt)).take i).filter fun x => inV x eightV)) ∧ Same (upd H2 pf (.frz od (.dK (kvL (tblS srt))))) (cut [D] H3)) ⟨upd_same, ?_⟩ ?_ ?_ ?_
  · intro b u z
    rw [cut_out (by simp only [List.mem_singleton]; exact ne_of_none z hD), upd_ne (ne_of_none z hD)]
    exact z
  · rintro i H3 hi ⟨g1, g2⟩
    exact cut_same _ _ _ _ (g2 _ _ upd_same)
  · rintro i y H3 H3' hi ⟨g1, g2⟩ ⟨rfl, kk, vv, hk, rfl⟩
    unfold kvL at hk
    rw [List.getElem?_map] at hk
    obtain ⟨⟨hd, sl⟩, hp, ep⟩ := Option.map_eq_some_iff.mp hk
    cases ep
    have tk : (keysV (tblS srt)).take (i + 1) = (keysV (tblS srt)).take i ++ [V.str hd] := get_take (by unfold keysV; rw [List.getElem?_map, hp]; rfl)
    refine ⟨rfl, _, rfl, few (by simp), fun T1 hT1 => ⟨T1, _, rfl, .inr (.inl (.inl upd_same)), rfl, rfl, _, rfl, ite2 (fun c => ?_) (fun c => ?_)⟩⟩
    · have c2 : inV (V.str hd) eightV = true := c
      have q1 : Same H3' (upd H3' T1 (.tup eightV)) := same_new hT1 _
      refine ⟨_, rfl, _, q1 _ _ g1, ?_, ?_, ?_⟩
      · have l1 := List.length_filter_le (fun x => inV x eightV) ((keysV (tblS srt)).take i)
        rw [List.length_take] at l1
        have l2 := (heads_ok (s := srt) (.inr rfl)).2.1
        exact small1000 (by omega)
      · rw [upd_same, tk, List.filter_append]
        simp only [List.filter_cons, c2, if_true, List.filter_nil]
        rfl
      · exact g2.trans ((Off.of q1).trans (Off.put (by simp)))
    · have c2 : inV (V.str hd) eightV = false := Bool.eq_false_iff.mpr c
      have q1 : Same H3' (upd H3' T1 (.tup eightV)) := same_new hT1 _
      refine ⟨?_, g2.trans (Off.of q1)⟩
      rw [q1 _ _ g1, tk, List.filter_append]
      simp only [List.filter_cons, c2, Bool.false_eq_true, if_false, List.filter_nil, List.append_nil]
  · rintro H3 ⟨g1, g2⟩
    have g3 : H3 pf = some (.frz od (.dK (kvL (tblS srt)))) := cut_same _ _ _ _ (g2 _ _ upd_same)
    refine ⟨g3, ?_⟩
    have nDp : D ≠ pf := fun z => by
      rw [z, g3] at g1
      cases g1
    rw [List.take_of_length_le (by simp [kvL, keysV])] at g1
    have s4 : Same H2 (upd H3 pf (.dK (kvL (tblS srt)))) := lock_same e2 (g2.trans (cut_same _ _))
    have hd4 : (upd H3 pf (.dK (kvL (tblS srt)))) D = some (.lst ((keysV (tblS srt)).filter fun x => inV x eightV)) := by
      rw [upd_ne nDp]
      exact g1
    have e4 : (upd H3 pf (.dK (kvL (tblS srt)))) pf = some (.dK (kvL (tblS srt))) := upd_same
    generalize upd H3 pf (.dK (kvL (tblS srt))) = H4 at s4 hd4 e4
    have b4 := b2.same s4
    have o4 := o2.trans (Off.of s4)
    have hw4 := s4 _ _ hw2
    have hpf0 : pf ∉ [p, g, wd] := fun z => by
      simp only [List.mem_cons, List.not_mem_nil, or_false] at z
      rcases z with z | z | z
      · rw [z] at hpf
        exact b1.tr.1 hpf
      · rw [z] at hpf
        exact b1.tr.2 hpf
      · rw [z] at hpf
        exact absurd (hw1.symm.trans hpf) (fun y => nomatch y)
    -- what stands behind the first test
    refine ⟨fun σ H5 => ∃ hd hs, σ = [some (.ref p), some (.str srt), some (.int e), some (.ref wd), some (.ref pf), none, some (.ref hd), none, none, none, none, none] ∧ H5 hd = some (.lst hs) ∧ (hs = (keysV (tblS srt)).filter (fun x => inV x eightV) ∨ hs = keysV (tblS srt)) ∧
        Box H5 p g ∧ H5 wd = some (.lst [.int (w0 - 1)]) ∧ H5 pf = some (.dK (kvL (tblS srt))) ∧ Off [p, g, wd] H H5 ∧ hd ∉ [p, g, wd], ?_, ?_⟩
    · have upn : ∀ b, H2 b ≠ none → (upd H2 pf (.frz od (.dK (kvL (tblS srt))))) b ≠ none := fun b z => by
        by_cases y : b = pf
        · rw [y, upd_same]
          exact fun z => nomatch z
        · rw [upd_ne y]
          exact z
      have nD : D ∉ [p, g, wd] := fun z => by
        simp only [List.mem_cons, List.not_mem_nil, or_false] at z
        rcases z with z | z | z
        · rw [z] at hD
          exact upn _ b2.tr.1 hD
        · rw [z] at hD
          exact upn _ b2.tr.2 hD
        · rw [z] at hD
          exact upn _ (by rw [hw2]; exact fun z => nomatch z) hD
      refine ⟨_, rfl, _, _, rfl, rfl, _, rfl, ite2 (fun c => ?_) (fun c => iteF ⟨D, _, rfl, hd4, .inl rfl, b4, hw4, e4, o4, nD⟩)⟩
      refine ⟨_, rfl, wd, _, 0, _, rfl, rfl, SqL.of hw4, rfl, _, _, rfl, rfl, _, rfl, ite2 (fun c2 => ?_) (fun c2 => iteF ⟨D, _, rfl, hd4, .inl rfl, b4, hw4, e4, o4, nD⟩)⟩
      have nDs : D ∉ [p, g] := fun z => nD (sub _ z)
      have npf : pf ∉ [p, g] := fun z => hpf0 (sub _ z)
      refine ⟨_, rfl, p, g, 5, rfl, b4, by decide, by decide, fun r H5 r0 r5 b5 o5 => ⟨_, _, rfl, rfl, _, rfl, ite2 (fun c3 => ?_) (fun c3 => ⟨D, _, rfl, o5.get hd4 nDs, .inl rfl, b5, o5.get hw4 nw, o5.get e4 npf, o4.trans (o5.mono sub), nD⟩)⟩⟩
      have o6 := o4.trans (o5.mono sub)
      have e5 := o5.get e4 npf
      have w5 := o5.get hw4 nw
      refine ⟨_, rfl, pf, _, rfl, .inl e5, fun D2 hD2 => ?_⟩
      have s6 : Same H5 (upd H5 D2 (.lst ((kvL (tblS srt)).map fun kv => kV kv.1))) := same_new hD2 _
      have n2 : D2 ∉ [p, g, wd] := fun z => by
        simp only [List.mem_cons, List.not_mem_nil, or_false] at z
        rcases z with z | z | z
        · rw [z] at hD2
          exact b5.tr.1 hD2
        · rw [z] at hD2
          exact b5.tr.2 hD2
        · rw [z, w5] at hD2
          cases hD2
      refine ⟨D2, keysV (tblS srt), rfl, ?_, .inr rfl, b5.same s6, s6 _ _ w5, s6 _ _ e5, o6.trans (Off.of s6), n2⟩
      rw [upd_same]
      unfold kvL keysV
      rw [List.map_map]
      rfl
    · rintro σ H5 ⟨hd, hl, rfl, h1, h2, b5, w5, f5, o5, n5⟩
      refine ⟨fun σ H6 => ∃ hd hs, σ = [some (.ref p), some (.str srt), some (.int e), some (.ref wd), some (.ref pf), none, some (.ref hd), none, none, none, none, none] ∧ H6 hd = some (.lst hs) ∧ PH srt e w0 hs ∧
        Box H6 p g ∧ H6 wd = some (.lst [.int (w0 - 1)]) ∧ H6 pf = some (.dK (kvL (tblS srt))) ∧ Off [p, g, wd] H H6 ∧ hd ∉ [p, g, wd], ?_, ?_⟩
      · have stay : 2 ≤ e → 1 ≤ w0 - 1 → PH srt e w0 hl := fun z1 z2 => ph_many h2 z1 z2
        have nd5 : hd ∉ [p, g] := fun z => n5 (sub _ z)
        have cutd : ∀ {Nx : L2.St → Hp → Prop}, (∀ (D2 : Addr) (H6 : Hp), H6 D2 = some (.lst (hl.filter fun x => inV x fourV)) → Same H5 H6 → H5 D2 = none → Nx [some (.ref p), some (.str srt), some (.int e), some (.ref wd), some (.ref pf), none, some (.ref D2), none, none, none, none, none] H6) → Nx = Nx := fun _ => rfl
        have few4 : ∀ (D2 : Addr) (H6 : Hp), H6 D2 = some (.lst (hl.filter fun x => inV x fourV)) → Same H5 H6 → H5 D2 = none → ∃ hd hs, [some (V.ref p), some (V.str srt), some (V.int e), some (V.ref wd), some (V.ref pf), none, some (V.ref D2), none, none, none, none, none] = [some (V.ref p), some (V.str srt), some (V.int e), some (V.ref wd), some (V.ref pf), none, some (V.ref hd), none, none, none, none, none] ∧ H6 hd = some (.lst hs) ∧ PH srt e w0 hs ∧
            Box H6 p g ∧ H6 wd = some (.lst [.int (w0 - 1)]) ∧ H6 pf = some (.dK (kvL (tblS srt))) ∧ Off [p, g, wd] H H6 ∧ hd ∉ [p, g, wd] := fun D2 H6 hl6 s6 hD2 => by
          have n2 : D2 ∉ [p, g, wd] := fun z => by
            simp only [List.mem_cons, List.not_mem_nil, or_false] at z
            rcases z with z | z | z
            · rw [z] at hD2
              exact b5.tr.1 hD2
            · rw [z] at hD2
              exact b5.tr.2 hD2
            · rw [z, w5] at hD2
              cases hD2
          exact ⟨D2, _, rfl, hl6, ph_few h2 hs, b5.same s6, s6 _ _ w5, s6 _ _ f5, o5.trans (Off.of s6), n2⟩
        refine ⟨_, rfl, _, _, rfl, rfl, _, rfl, ite2 (fun c => ?_) (fun c => ⟨_, rfl, wd, _, 0, _, rfl, rfl, SqL.of w5, rfl, _, _, rfl, rfl, _, rfl, ite2 (fun c2 => ?_) (fun c2 => ?_)⟩)⟩
        case refine_3 => exact ⟨hd, hl, rfl, h1, stay (by have := of_decide_eq_false (Bool.eq_false_iff.mpr c); omega) (by have := of_decide_eq_false (Bool.eq_false_iff.mpr c2); omega), b5, w5, f5, o5, n5⟩
        all_goals
          refine ⟨_, rfl, hd, rfl, ⟨_, SqL.of h1⟩, fun D2 hD2 => lc_list (K := K) (a := hd) (xs := hl) (fun i H6 => H6 D2 = some (.lst ((hl.take i).filter fun x => inV x fourV)) ∧ Same H5 (cut [D2] H6)) ⟨upd_same, ?_⟩ ?_ ?_ ?_⟩
          · intro b u z
            rw [cut_out (by simp only [List.mem_singleton]; exact ne_of_none z hD2), upd_ne (ne_of_none z hD2)]
            exact z
          · rintro i H6 hi ⟨g1, g2⟩
            exact SqL.of (cut_same _ _ _ _ (g2 _ _ h1))
          · rintro i y H6 hy ⟨g1, g2⟩
            obtain ⟨hdd, mm, rfl⟩ : ∃ hdd, hdd ∈ tblS srt ∧ y = V.str hdd.1 := by
              have := (heads_ok h2).2.2.2 y (List.mem_of_getElem? hy)
              obtain ⟨pp, m1, m2⟩ := List.mem_map.mp this
              exact ⟨pp, m1, m2.symm⟩
            have tk := get_take hy
            refine ⟨rfl, _, rfl, few (by simp), fun T1 hT1 => ⟨T1, _, rfl, .inr (.inl (.inl upd_same)), rfl, rfl, _, rfl, ite2 (fun cc => ?_) (fun cc => ?_)⟩⟩
            · have c2 : inV (V.str hdd.1) fourV = true := cc
              have q1 : Same H6 (upd H6 T1 (.tup fourV)) := same_new hT1 _
              refine ⟨_, rfl, _, q1 _ _ g1, ?_, ?_, ?_⟩
              · have l1 := List.length_filter_le (fun x => inV x fourV) (hl.take i)
                rw [List.length_take] at l1
                have l2 := (heads_ok h2).2.1
                exact small1000 (by omega)
              · rw [upd_same, tk, List.filter_append]
                simp only [List.filter_cons, c2, if_true, List.filter_nil]
              · exact g2.trans ((Off.of q1).trans (Off.put (by simp)))
            · have c2 : inV (V.str hdd.1) fourV = false := Bool.eq_false_iff.mpr cc
              have q1 : Same H6 (upd H6 T1 (.tup fourV)) := same_new hT1 _
              refine ⟨?_, g2.trans (Off.of q1)⟩
              rw [q1 _ _ g1, tk, List.filter_append]
              simp only [List.filter_cons, c2, Bool.false_eq_true, if_false, List.filter_nil, List.append_nil]
          · rintro H6 ⟨g1, g2⟩
            rw [List.take_length] at g1
            exact few4 D2 H6 g1 (g2.trans (cut_same _ _)) hD2
      · rintro σ H6 ⟨hd, hl, rfl, h1, h2, b6, w6, f6, o6, n6⟩
        obtain ⟨pn, pl, pm⟩ := h2
        have nd6 : hd ∉ [p, g] := fun z => n6 (sub _ z)
        have npf : pf ∉ [p, g] := fun z => hpf0 (sub _ z)
        refine ⟨_, rfl, _, rfl, p, g, hd, hl, rfl, b6, h1, nd6, List.length_pos_iff.mpr pn, by omega, fun x mx H7 b7 o7 => ⟨by decide, fun fl hfl => ⟨_, _, rfl, ?_⟩⟩⟩
        obtain ⟨h, sl, rfl, m, so⟩ := pm x mx
        have s8 : Same H7 (upd H7 fl (.lst [])) := same_new hfl _
        have w7 := o7.get w6 nw
        have nfl : fl ∉ [p, g, wd] := fun z => by
          simp only [List.mem_cons, List.not_mem_nil, or_false] at z
          rcases z with z | z | z
          · rw [z] at hfl
            exact b7.tr.1 hfl
          · rw [z] at hfl
            exact b7.tr.2 hfl
          · rw [z, w7] at hfl
            cases hfl
        have hfl0 : H fl = none := (o6.trans (o7.mono sub)).free hfl nfl
        have nfl2 : fl ∉ [p, g] := fun z => nfl (sub _ z)
        have nwf : wd ≠ fl := fun z => nfl (by rw [← z]; simp)
        have o8 : Off [p, g, wd] H (upd H7 fl (.lst [])) := (o6.trans (o7.mono sub)).trans (Off.of s8)
        have f8 := s8 _ _ (o7.get f6 npf)
        have b8 := b7.same s8
        have w8 := s8 _ _ w7
        have l8 : (upd H7 fl (.lst [])) fl = some (.lst []) := upd_same
        generalize upd H7 fl (.lst []) = H8 at o8 f8 b8 w8 l8
        have dg := DGet.k (k := (Sum.inr h : Key)) f8
        rw [val_tbl _ m] at dg
        refine ⟨_, rfl, _, rfl, pf, _, rfl, dg, sl, rfl, ?_⟩
        refine for_it walk_str (fun i σ H9 => ∃ o8 o9 o10 xs ds ns wi, σ = [some (.ref p), some (.str srt), some (.int e), some (.ref wd), some (.ref pf), some (.str h), some (.ref hd), some (.ref fl), o8, o9, o10, none] ∧
            xs.length = i ∧ H9 fl = some (.lst xs) ∧ DpAll K H9 xs ds ∧ gds ds = true ∧ nls ds = true ∧ (PyData.depthAll ds : Int) ≤ 2 * e ∧ ShA (sl.cps.toList.take i) ds ∧ Paired (fun (m : Nat) (p : List Int × PyData) => Wf n m p.2) ns (inArgs 1 (sl.cps.toList.take i) ds) ∧
            Box H9 p g ∧ H9 wd = some (.lst [.int wi]) ∧ Off [p, g, wd] H H9 ∧ wi ≤ w0 - 1 ∧ nods ds + 80 * phi wi ≤ cstL (sl.cps.toList.take i) + 80 * phi (w0 - 1))
          ⟨none, none, none, [], [], [], w0 - 1, rfl, rfl, l8, .nil, by simp only [gds], by simp only [nls], ?_, trivial, .nil, b8, w8, o8, Int.le_refl _, by simp [nods, cstL]⟩ (fun _ _ _ _ _ => trivial) ?_ ?_
        · have e0 : 0 ≤ e := by
            rcases hs with z | z
            · exact z.2
            · omega
          simp only [PyData.depthAll]
          omega
        · rintro i y σ H9 H9' hi ⟨q8, q9, q10, xs, ds, ns, wi, rfl, lx, hx, dx, gx, nx, px, sx, wx, b9, w9, o9, wle, co⟩ ⟨rfl, c, hc, rfl⟩
          have hc2 : sl.cps.toList[i]? = some c := by simpa using hc
          have tk := get_take hc2
          have lcs : (sl.cps.toList.take i).length = i := by
            have := (List.getElem?_eq_some_iff.mp hc2).1
            rw [List.length_take]
            omega
          have sg := so.go c (List.mem_of_getElem? hc2)
          have lds := sx.len
          have li := (List.getElem?_eq_some_iff.mp hc2).1
          have lsl : sl.cps.toList.length ≤ 60 := by
            have z := cst_all _ (tbl_all _ m)
            have : sl.cps.toList.length ≤ cstL sl.cps.toList := by
              generalize sl.cps.toList = cs
              induction cs with
              | nil => simp
              | cons a cs ih =>
                have h1 : 1 ≤ cst a := by
                  unfold cst
                  repeat' split
                  all_goals omega
                have h2 : cstL (a :: cs) = cst a + cstL cs := by simp [cstL]
                rw [h2, List.length_cons]
                omega
            simp only at z
            omega
          -- one more argument
          have more : ∀ (v : V) (d : PyData) (ns2 : List Nat) (w2 : Int) (H10 : Hp) (r9 r10 : Option V), H10 fl = some (.lst (xs ++ [v])) → DpAll K H10 xs ds → Dp K H10 v d → gd d = true → nl d = true → (d.depth : Int) ≤ 2 * e → (c = 115 → ∃ es, d = .tuple es) → Paired (fun (m : Nat) (p : List Int × PyData) => Wf n m p.2) ns2 (inSlot (1 + i) c d) → Box H10 p g → H10 wd = some (.lst [.int w2]) → Off [p, g, wd] H H10 → w2 ≤ wi → nod d + 80 * phi w2 ≤ cst c + 80 * phi wi →
              ∃ o8 o9 o10 xs ds ns wi, [some (V.ref p), some (V.str srt), some (V.int e), some (V.ref wd), some (V.ref pf), some (V.str h), some (V.ref hd), some (V.ref fl), some (V.str ⟨#[c]⟩), r9, r10, none] = [some (V.ref p), some (V.str srt), some (V.int e), some (V.ref wd), some (V.ref pf), some (V.str h), some (V.ref hd), some (V.ref fl), o8, o9, o10, none] ∧
            xs.length = i + 1 ∧ H10 fl = some (.lst xs) ∧ DpAll K H10 xs ds ∧ gds ds = true ∧ nls ds = true ∧ (PyData.depthAll ds : Int) ≤ 2 * e ∧ ShA (sl.cps.toList.take (i + 1)) ds ∧ Paired (fun (m : Nat) (p : List Int × PyData) => Wf n m p.2) ns (inArgs 1 (sl.cps.toList.take (i + 1)) ds) ∧
            Box H10 p g ∧ H10 wd = some (.lst [.int wi]) ∧ Off [p, g, wd] H H10 ∧ wi ≤ w0 - 1 ∧ nods ds + 80 * phi wi ≤ cstL (sl.cps.toList.take (i + 1)) + 80 * phi (w0 - 1) := by
            intro v d ns2 w2 H10 r9 r10 a1 a2 a3 a4 a5 a6 a7 a8 a9 a10 a11 a12 a13
            refine ⟨_, _, _, xs ++ [v], ds ++ [d], ns ++ ns2, w2, rfl, by rw [List.length_append, lx]; rfl, a1, DpAll.app a2 (.cons a3 .nil), ?_, ?_, ?_, ?_, ?_, a9, a10, a11, by omega, ?_⟩
            · rw [gds_app, gx]
              simp only [gds, a4, Bool.and_self]
            · rw [nls_app, nx]
              simp only [nls, a5, Bool.and_self]
            · rw [depthAll_app]
              simp only [PyData.depthAll]
              omega
            · rw [tk]
              exact sx.snoc a7
            · rw [tk, inArgs_snoc c d lds, lcs]
              exact paired_app wx a8
            · rw [tk, cstL_snoc, nods_app]
              simp only [nods]
              omega
          have nt9 : NT [p, g, wd] H9' := by
            have z := b9.nt
            exact .cons (z p (by simp)) (.cons (z g (by simp)) (.cons (nt_lst w9) .nil))
          refine ⟨_, rfl, rfl, _, rfl, ite2 (fun cc => ?_) (fun cc => ?_)⟩
          · have c115 : c = 115 := (sg_s c).mp (of_decide_eq_true cc)
            subst c115
            have e1 : 1 ≤ e := sg.1 (.inr rfl)
            have w3 : ∀ {HB : Hp} {D : Addr}, Box HB p g → HB wd = some (.lst [.int wi]) → HB D = none → D ∉ [p, g, wd] := fun bz wz hz z => by
              simp only [List.mem_cons, List.not_mem_nil, or_false] at z
              rcases z with z | z | z
              · rw [z] at hz
                exact bz.tr.1 hz
              · rw [z] at hz
                exact bz.tr.2 hz
              · rw [z, wz] at hz
                cases hz
            refine ⟨_, rfl, p, g, 4, rfl, b9, by decide, by decide, fun s1 HA s10 s14 ba oa => ⟨_, rfl, p, g, 5, rfl, ba, by decide, by decide, fun s2 HB s20 s25 bb ob => ⟨_, _, rfl, rfl, few (by simp), fun D hD => ?_⟩⟩⟩
            have oab := oa.trans ob
            have nD := w3 bb (oab.get w9 nw) hD
            have bc := bb.put (o := .lst [V.int s1, V.int (8 + s2)]) (fun z => nD (sub _ z))
            have oc : Off [p, g] H9' (upd HB D (.lst [V.int s1, V.int (8 + s2)])) := off_new oab (fun z => nD (sub _ z)) (oab.free hD (fun z => nD (sub _ z)))
            have hDc : (upd HB D (.lst [V.int s1, V.int (8 + s2)])) D = some (.lst [V.int s1, V.int (8 + s2)]) := upd_same
            generalize upd HB D (.lst [V.int s1, V.int (8 + s2)]) = HC at bc oc hDc
            refine ⟨_, rfl, p, g, 12, rfl, bc, by decide, by decide, fun s3 HD s30 s312 bd od2 => ⟨_, _, rfl, rfl, ⟨by decide, by decide⟩, ?_⟩⟩
            have ocd := oc.trans od2
            obtain ⟨x, hx1, mx, _⟩ := atI_ok (xs := [V.int s1, V.int (8 + s2)]) (r := s3 / 11) (by omega) (by simp only [List.length_cons, List.length_nil]; omega)
            obtain ⟨mm, rfl, m0, m12⟩ : ∃ mm : Int, x = .int mm ∧ 0 ≤ mm ∧ mm ≤ 12 := by
              simp only [List.mem_cons, List.not_mem_nil, or_false] at mx
              rcases mx with z | z
              · exact ⟨_, z, by omega, by omega⟩
              · exact ⟨_, z, by omega, by omega⟩
            refine ⟨D, _, _, .int mm, rfl, rfl, SqL.of (od2.get hDc (fun z => nD (sub _ z))), hx1, ?_⟩
            have xD := ocd.get hx nfl2
            have wD := ocd.get w9 nw
            refine ⟨_, rfl, .inl ⟨rfl, _, SqL.of xD⟩, _, rfl, mm, rfl, by omega, by omega, fun D2 hD2 => ?_⟩
            have n2 := w3 bd wD hD2
            have oE : Off [p, g, wd] H9' (upd HD D2 (.lst [])) := off_new (ocd.mono sub) n2 ((ocd.mono sub).free hD2 n2)
            refine lc_range (lo := 0) (n := mm.toNat) (fun j HE => ∃ vs es ns2 wj, vs.length = j ∧ HE D2 = some (.lst vs) ∧ DpAll K HE vs es ∧ gds es = true ∧ nls es = true ∧ (PyData.depthAll es : Int) ≤ 2 * (e - 1) + 1 ∧ Paired (fun (m : Nat) (d : PyData) => Wf n m d) ns2 es ∧
                Box HE p g ∧ HE wd = some (.lst [.int wj]) ∧ Off [p, g, wd] H9' HE ∧ wj ≤ wi ∧ nods es + 80 * phi wj ≤ 3 * j + 80 * phi wi)
              ⟨[], [], [], wi, rfl, upd_same, .nil, by simp only [gds], by simp only [nls], by simp only [PyData.depthAll]; omega, .nil, bd.put (fun z => n2 (sub _ z)), by rw [upd_ne (fun z => n2 (by rw [← z]; simp))]; exact wD, oE, Int.le_refl _, by simp only [nods]; omega⟩ ?_ ?_
            · rintro j HE hj ⟨vs, es, ns2, wj, lv, h1, h2, h3, h4, h5, h6, h7, h8, h9, h10, h11⟩
              refine ⟨rfl, _, rfl, _, rfl, _, _, rfl, rfl, _, rfl, p, g, wd, e - 1, wj, "e", rfl, h7, h8, nw, .inl ⟨rfl, by omega⟩, by omega, fun v d HF w2 cnt k1 k2 k3 k4 k5 k6 k7 k8 k9 k10 => ?_⟩
              have ntE : NT [p, g, wd] HE := by
                have z := h7.nt
                exact .cons (z p (by simp)) (.cons (z g (by simp)) (.cons (nt_lst h8) .nil))
              have hF := k3.get h1 n2
              have ntF : NT [D2] HF := .cons (nt_lst hF) .nil
              have pF : Off [D2] HF (upd HF D2 (.lst (vs ++ [v]))) := Off.put (by simp)
              have l3 : limS "e" = 3 := by decide +kernel
              refine ⟨vs, hF, few (by omega), vs ++ [v], es ++ [d], ns2 ++ [cnt], w2, by rw [List.length_append, lv]; rfl, upd_same, DpAll.app (DpAll.off (DpAll.off h2 ntE h4 k3) ntF h4 pF) (.cons (Dp.off k4 ntF k7 pF) .nil), ?_, ?_, ?_, paired_app h6 (.cons k5 .nil), k1.put (fun z => n2 (sub _ z)), by rw [upd_ne (fun z => n2 (by rw [← z]; simp))]; exact k2,
                off_new (h9.trans k3) n2 ((ocd.mono sub).free hD2 n2), by omega, ?_⟩
              · rw [gds_app, h3]
                simp only [gds, k6, Bool.and_self]
              · rw [nls_app, h4]
                simp only [nls, k7, Bool.and_self]
              · rw [depthAll_app]
                simp only [PyData.depthAll]
                omega
              · rw [nods_app]
                simp only [nods]
                omega
            · rintro HE ⟨vs, es, ns2, wj, lv, h1, h2, h3, h4, h5, h6, h7, h8, h9, h10, h11⟩
              refine ⟨D2, vs, rfl, .inl ⟨SqL.of h1, fun t ht => ?_⟩⟩
              have xE := h9.get hx nfl
              have r1 : Same HE (upd HE t (.tup vs)) := same_new ht _
              have ntf : t ≠ fl := fun z => by
                rw [z, xE] at ht
                cases ht
              have dE : DpAll K HE xs ds := DpAll.off dx nt9 nx h9
              have ntF : NT [fl] (upd HE t (.tup vs)) := .cons (nt_lst (r1 _ _ xE)) .nil
              have pF : Off [fl] (upd HE t (.tup vs)) (upd (upd HE t (.tup vs)) fl (.lst (xs ++ [.ref t]))) := Off.put (by simp)
              have c37 : cst 115 = 37 := by decide
              have ei : inSlot (1 + i) 115 (.tuple es) = es.zipIdx.map fun p => ([((1 + i : Nat) : Int), (p.2 : Int)], p.1) := by
                unfold inSlot
                rw [if_pos rfl]
              refine ⟨fl, xs, .ref t, rfl, rfl, r1 _ _ xE, few (by omega), more (.ref t) (.tuple es) ns2 wj _ _ _ upd_same (DpAll.off (Dp.ups r1 _ _ dE) ntF nx pF) (.tup (.inl (.inl (by rw [upd_ne ntf]; exact upd_same))) (DpAll.off (Dp.ups r1 _ _ h2) ntF h4 pF)) (by simpa only [gd] using h3) (by simpa only [nl] using h4) (by simp only [PyData.depth]; omega) (fun _ => ⟨es, rfl⟩)
                (by rw [ei]; exact paired_zip 0 h6) ((h7.same r1).put nfl2) (by rw [upd_ne nwf]; exact r1 _ _ h8) (off_new (o9.trans (h9.trans (Off.of r1))) nfl hfl0) h10 ?_⟩
              simp only [nod, c37]
              have : (mm.toNat : Int) = mm := by omega
              omega
          · have n115 : ¬ c = 115 := fun z => cc (decide_eq_true ((sg_s c).mpr z))
            refine ⟨_, rfl, few (by simp), fun T1 hT1 => ⟨T1, _, rfl, .inr (.inl (.inl upd_same)), rfl, rfl, ?_⟩⟩
            have s1 : Same H9' (upd H9' T1 (.tup [.str "e", .str "t"])) := same_new hT1 _
            have bb := b9.same s1
            have ww := s1 _ _ w9
            have xx := s1 _ _ hx
            have oo : Off [p, g, wd] H9' (upd H9' T1 (.tup [.str "e", .str "t"])) := Off.of s1
            generalize upd H9' T1 (.tup [.str "e", .str "t"]) = HA at s1 bb ww xx oo
            refine ⟨_, rfl, .inl ⟨rfl, _, SqL.of xx⟩, _, rfl, _, rfl, ite2 (fun c2 => ?_) (fun c2 => ?_)⟩
            · have c3 : c = 101 ∨ c = 116 := (inV_et c).mp c2
              refine ⟨_, rfl, _, rfl, _, rfl, _, _, rfl, rfl, _, rfl, p, g, wd, e - 1, wi, ⟨#[c]⟩, rfl, bb, ww, nw, ?_, by omega, fun v d HB w2 cnt k1 k2 k3 k4 k5 k6 k7 k8 k9 k10 => ?_⟩
              · rcases c3 with z | z
                · exact .inl ⟨by rw [z]; exact sg_e.symm, by have := sg.1 (.inl z); omega⟩
                · exact .inr ⟨by rw [z]; exact sg_t.symm, by have := sg.2 z; omega⟩
              have xB := k3.get xx nfl
              have dB : DpAll K HB xs ds := DpAll.off dx nt9 nx (oo.trans k3)
              have pB : Off [fl] HB (upd HB fl (.lst (xs ++ [v]))) := Off.put (by simp)
              have ntB : NT [fl] HB := .cons (nt_lst xB) .nil
              have lc : limS ⟨#[c]⟩ = cst c := by
                rcases c3 with z | z
                · rw [z]
                  decide +kernel
                · rw [z]
                  decide +kernel
              have ei : inSlot (1 + i) c d = [([((1 + i : Nat) : Int)], d)] := by
                unfold inSlot
                rw [if_neg n115, if_pos c3]
              exact ⟨fl, xs, v, rfl, rfl, xB, few (by omega), more v d [cnt] w2 _ _ _ upd_same (DpAll.off dB ntB nx pB) (Dp.off k4 ntB k7 pB) k6 k7 (by omega) (fun z => absurd z n115) (by rw [ei]; exact .cons k5 .nil) (k1.put nfl2) (by rw [upd_ne nwf]; exact k2)
                (off_new (o9.trans (oo.trans k3)) nfl hfl0) (by omega) (by omega)⟩
            · have c3 : ¬ (c = 101 ∨ c = 116) := fun z => c2 ((inV_et c).mpr z)
              refine ⟨_, rfl, _, rfl, p, g, ⟨#[c]⟩, rfl, bb, fun v d HB k4 k6 k10 k8 k7 k1 k3 => ?_⟩
              have xB := k3.get xx nfl2
              have oB := oo.trans (k3.mono sub)
              have dB : DpAll K HB xs ds := DpAll.off dx nt9 nx oB
              have pB : Off [fl] HB (upd HB fl (.lst (xs ++ [v]))) := Off.put (by simp)
              have ntB : NT [fl] HB := .cons (nt_lst xB) .nil
              have lc : cst c = 1 := by
                unfold cst
                rw [if_neg n115, if_neg (fun z => c3 (.inl z)), if_neg (fun z => c3 (.inr z))]
              have ei : inSlot (1 + i) c d = [] := by
                unfold inSlot
                rw [if_neg n115, if_neg c3]
              have e0 : 0 ≤ e := by
                rcases hs with z | z
                · exact z.2
                · omega
              exact ⟨fl, xs, v, rfl, rfl, xB, few (by omega), more v d [] wi _ _ _ upd_same (DpAll.off dB ntB nx pB) (k4 K _) k6 k7 (by rw [k8]; omega) (fun z => absurd z n115) (by rw [ei]; exact .nil) (k1.put nfl2) (by rw [upd_ne nwf]; exact k3.get ww nw)
                (off_new (o9.trans oB) nfl hfl0) (Int.le_refl _) (by omega)⟩
        · rintro σ H9 ⟨q8, q9, q10, xs, ds, ns, wi, rfl, lx, hx, dx, gx, nx, px, sx, wx, b9, w9, o9, wle, co⟩
          have ez : sl.cps.toList.take sl.cps.size = sl.cps.toList := List.take_of_length_le (by simp)
          rw [ez] at sx wx co
          have lds := sx.len
          have lxs : xs.length = sl.cps.toList.length := by rw [lx]; simp
          have xne : xs ≠ [] := fun z => sl_ne _ (tbl_all _ m) (List.length_eq_zero_iff.mp (by rw [← lxs, z]; rfl))
          have lsm : xs.length ≤ nods ds := by
            have := nods_len ds
            omega
          have sco := so.co
          have phw : phi (w0 - 1) ≤ phi w0 := by
            unfold phi
            omega
          refine ⟨_, rfl, few (by simp), fun t1 ht1 => ⟨_, rfl, fl, xs, rfl, .inl ⟨SqL.of ((same_new ht1 _) _ _ hx), fun t2 ht2 => ?_⟩⟩⟩
          have r1 : Same H9 (upd H9 t1 (.tup [.str h])) := same_new ht1 _
          have r2 := r1.trans (same_new (o := .tup xs) ht2)
          have n12 : t1 ≠ t2 := ne_of_none upd_same ht2
          have x2 := (DpAll.len dx)
          have cle := cst_all _ (tbl_all _ m)
          refine ⟨t1, t2, [.str h], xs, rfl, rfl, .inl (.inl (by rw [upd_ne n12]; exact upd_same)), .inl (.inl upd_same), by simp, few (by
            have : xs.length ≤ 60 := by
              have : sl.cps.toList.length ≤ cstL sl.cps.toList := by
                generalize sl.cps.toList = cs
                induction cs with
                | nil => simp
                | cons a cs ih =>
                  have h1 : 1 ≤ cst a := by
                    unfold cst
                    repeat' split
                    all_goals omega
                  have h2 : cstL (a :: cs) = cst a + cstL cs := by simp [cstL]
                  rw [h2, List.length_cons]
                  omega
              simp only at cle
              omega
            simp only [List.length_cons, List.length_nil]
            omega), fun z => absurd z xne, fun _ t3 ht3 => ?_⟩
          have r3 := r2.trans (same_new (o := .tup ([V.str h] ++ xs)) ht3)
          have dT := Dp.ups r3 _ _ dx
          have hgh := gd_heads _ (tbl_all _ m)
          simp only at hgh
          refine q (.ref t3) (.tuple (.str h :: ds)) _ wi (1 + ns.sum) (b9.same r3) (r3 _ _ w9) (o9.trans (Off.of r3)) (.tup (.inl (.inl upd_same)) (.cons (.str h) dT)) ⟨h, sl, ds, ns, rfl, tbl_all _ m, sx, wx, rfl⟩ ?_ ?_ ?_ wle ?_
          · simp only [gd, gds] at hgh ⊢
            rw [hgh, gx]
            rfl
          · simp only [nl, nls, nx, Bool.and_self]
          · simp only [PyData.depth, PyData.depthAll]
            omega
          · simp only [nod, nods]
            omega
end
abbrev sLChildren : Stmt := topS 19
abbrev sLAll : Stmt := topS 20
theorem scLChildren : FnScope ["_law_tree_here", "_law_found", "_law_forms_here", "_law_k", "_law_slot", "_law_j", "_law_inner"] ["_law_tree_here"] (defScope sLChildren) := ⟨rfl, rfl, rfl, by decide +kernel, rfl, by decide +kernel, by decide +kernel⟩
theorem scLAll : FnScope ["_law_tree_here", "_law_found", "_law_left", "_law_path", "_law_here", "_law_step", "_law_inner"] ["_law_tree_here"] (defScope sLAll) := ⟨rfl, rfl, rfl, by decide +kernel, rfl, by decide +kernel, by decide +kernel⟩
theorem nls_ints : ∀ is : List Int, nls (is.map PyData.int) = true
  | [] => by simp only [List.map_nil, nls]
  | _ :: is => by simp only [List.map_cons, nls, nl, nls_ints is, Bool.and_self]
theorem nls_pairs : ∀ {ks : List (List Int × PyData)}, (∀ p ∈ ks, nl p.2 = true) → nls (ks.map pairD) = true
  | [], _ => by simp only [List.map_nil, nls]
  | k :: ks, h => by
    simp only [List.map_cons, nls, nls_pairs fun p hp => h p (List.mem_cons_of_mem _ hp), pairD, nl, nls_ints, h k List.mem_cons_self, Bool.and_self]
theorem val_all : ∀ p ∈ allL, valV (kvL allL) (Sum.inr p.1 : Key) = some (.str p.2) := by decide +kernel
theorem eqv_nilL (ds : List PyData) : PyData.eqv (.list ds) (.list []) = ds.isEmpty := by
  cases ds with
  | nil => simp only [PyData.eqv, PyData.eqvAll, List.isEmpty_nil]
  | cons d ds => simp only [PyData.eqv, PyData.eqvAll, List.isEmpty_cons]
section
variable {P : Program} {w : World} {K : PySem.W.Frag} {mg : Str → Option Value} {base : Heap} {f fF fC : Addr} {fd dF dC : FuncData}
theorem ok_lchildren {k : Nat} (F : Fun K "_law_children" "_law_children" sLChildren f fd) (md : mg "dict" = none) (ml : mg "list" = none) (me : mg "enumerate" = none) (mt : mg "tuple" = none) (GF : Dn P w K mg base 1 "_law_forms" ["_law_sort"] spForms fF dF) :
    FnOk P w K mg base CX0 (k + 2) f fd ["_law_tree_here"] (spChildren K) := by
  refine F.ok scLChildren (fun vs H Q E h => ?_) (fun cdv A outer s H vs Q E hr h => ?_)
  · obtain ⟨v, d, f0, n, rfl, _⟩ := h
    rfl
  obtain ⟨v, d, f0, n, rfl, t, q⟩ := h
  have hr1 : Room 1 _ := hr.mono (by omega)
  have hu := hu_of hr
  refine ⟨_, pss_cons (ps_par (i := 1) (j := 2) (by rfl) scLChildren.nd rfl rfl (by decide) rfl rfl (pa_cons (pe_lst pa_nil) (pa_cons (pe_callTy (call_dictP rfl) (by rfl) md b_dict (pa_cons
      (pe_op op_cat (LiI.pe_listItems (by rfl) (pe_call GF.ok hr1 (by rfl) GF.mg GF.kp GF.bd .nil pass0 (pa_cons pe_str pa_nil)) (by rfl) ml b_list) (LiI.pe_listItems (by rfl) (pe_call GF.ok hr1 (by rfl) GF.mg GF.kp GF.bd .nil pass0 (pa_cons pe_str pa_nil)) (by rfl) ml b_list)) pa_nil)) pa_nil)) (by rfl))
    (pss_cons (ps_for PassesOwn.never rfl (pi_enumA (by rfl) me (pa_cons (pe_dget hu (pv 2) (pe_ix ix_tup (pv 0) pe_int (fun _ _ => rfl)) (fun _ _ => rfl)) pa_nil))
      (pg_tup (by rfl) (pgs_cons (pg_name (i := 3) scLChildren.nd rfl (.inr rfl)) (pgs_cons (pg_name (i := 4) scLChildren.nd rfl (.inl rfl)) pgs_nil)))
      (pss_one (ps_if (pt_cmpR op_eq (pv 4) pe_str (nomark _))
        (pss_one (ps_expr (pe_bm PySem.F.plainAttrs_list PySem.F.slot_list_extend PySem.F.type_list_extend mt_extend (pv 1) (pa_cons
          (pe_lc (own := [("_law_j", 5), ("_law_inner", 6)]) (g := gTup K 2 (gCons (gName 5) (gCons (gName 6) gNil))) (by rfl) scLChildren.nd (pi_enumA (by rfl) me (pa_cons (pe_ix ix_tup (pv 0) (pe_op op_add (pv 3) pe_int) (fun _ _ => rfl)) pa_nil))
            (blkOk_by (own := [("_law_j", 5), ("_law_inner", 6)]) (N := ["_law_tree_here", "_law_found", "_law_forms_here", "_law_k", "_law_slot", "_law_j", "_law_inner"]) (sc := defScope sLChildren) (by decide +kernel))
            (fun _ _ _ _ _ => pg_tupK rfl (by rfl) (pgs_cons (pg_name (i := 5) scLChildren.nd rfl (Or.inl rfl)) (pgs_cons (pg_name (i := 6) scLChildren.nd rfl (Or.inl rfl)) pgs_nil))) (fun _ _ _ _ _ => pts_nil)
            (fun _ _ _ _ _ => pe_tup (pa_cons (pe_tup (pa_cons (pe_op op_add (pv 3) pe_int) (pa_cons (pv 5) pa_nil))) (pa_cons (pv 6) pa_nil)))) pa_nil))))
        (pss_one (ps_if (pt_cmpR op_in_seq (pv 4) (pe_tup (pa_cons pe_str (pa_cons pe_str pa_nil))) rfl)
          (pss_one (ps_expr (pe_bm PySem.F.plainAttrs_list PySem.F.slot_list_append PySem.F.type_list_append mt_append (pv 1) (pa_cons (pe_tup (pa_cons (pe_tup (pa_cons (pe_op op_add (pv 3) pe_int) pa_nil)) (pa_cons (pe_ix ix_tup (pv 0) (pe_op op_add (pv 3) pe_int) (fun _ _ => rfl)) pa_nil))) pa_nil)))) pss_nil)))))
    (pss_one (ps_ret (pe_callTy call_tuple_of (by rfl) mt b_tup (pa_cons (pv 1) pa_nil))))), ?_⟩
  refine ⟨by decide, fun L hL => ?_⟩
  have s1 : Same H (upd H L (.lst [])) := same_new hL _
  have hL1 : (upd H L (.lst [])) L = some (.lst []) := upd_same
  generalize upd H L (.lst []) = H1 at s1 hL1
  have ee : ∀ s : Str, (if s = "t" then teL else exL) = tblS s := fun _ => rfl
  refine ⟨"e", rfl, fun p2 H2 s2 hp2 e2 => ⟨p2, _, rfl, e2, fun H3 l3 ts3 s3 hl3 ht3 nl3 e3 P3 => ?_⟩⟩
  refine ⟨"t", rfl, fun p4 H4 s4 hp4 e4 => ⟨p4, _, rfl, e4, fun H5 l5 ts5 s5 hl5 ht5 nl5 e5 P5 => ?_⟩⟩
  have t3 := P3.length
  have t5 := P5.length
  have q3 : (kvL (if ("e" : Str) = "t" then teL else exL)).length = 16 := by decide +kernel
  have q5 : (kvL (if ("t" : Str) = "t" then teL else exL)).length = 7 := by decide +kernel
  have s3 : Same H2 H3 := s3
  have s5 : Same H4 H5 := s5
  refine ⟨l3, l5, _, _, rfl, rfl, s5 _ _ (s4 _ _ e3), e5, few (by rw [List.length_map, List.length_map]; omega), fun l6 hl6 => ?_⟩
  have s6 : Same H5 (upd H5 l6 (.lst (ts3.map V.ref ++ ts5.map V.ref))) := same_new hl6 _
  have e6 : (upd H5 l6 (.lst (ts3.map V.ref ++ ts5.map V.ref))) l6 = some (.lst (ts3.map V.ref ++ ts5.map V.ref)) := upd_same
  generalize upd H5 l6 (.lst (ts3.map V.ref ++ ts5.map V.ref)) = H6 at s6 e6
  have up : ∀ {H1 H2 : Hp} {ts : List Addr} {kvs : List (Key × V)}, Same H1 H2 → Paired (fun (t : Addr) (q : Key × V) => H1 t = some (.tup [kV q.1, q.2])) ts kvs → Paired (fun (t : Addr) (q : Key × V) => SqT K H2 t [kV q.1, q.2]) ts kvs := fun s p => paired_mono (fun a b z => .inl (.inl (s _ _ z))) p
  refine ⟨l6, ts3 ++ ts5, kvL allL, rfl, SqL.of (by rw [e6, List.map_append]), ?_, fun pd hpd => ⟨_, _, rfl, ?_⟩⟩
  · have e7 : kvL allL = kvL (if ("e" : Str) = "t" then teL else exL) ++ kvL (if ("t" : Str) = "t" then teL else exL) := by decide +kernel
    rw [e7]
    exact paired_app (up (s4.trans (s5.trans s6)) P3) (up s6 P5)
  rw [merge_kvL nd_all]
  have s7 : Same H6 (upd H6 pd (.dK (kvL allL))) := same_new hpd _
  have e7 : (upd H6 pd (.dK (kvL allL))) pd = some (.dK (kvL allL)) := upd_same
  generalize upd H6 pd (.dK (kvL allL)) = H7 at s7 e7
  have s17 : Same H1 H7 := s2.trans (s3.trans (s4.trans (s5.trans (s6.trans s7))))
  have hL7 := s17 _ _ hL1
  have t7 := t.up (s1.trans s17)
  obtain ⟨a, h, sl, xs, args, rfl, hx, dx, na, m, sh, ek, ed⟩ := t7.open
  have la := sh.len
  have fl := t.fl
  rw [ed] at fl
  simp only [nl, nls, Bool.true_and] at fl
  have dg := DGet.k (k := (Sum.inr h : Key)) e7
  rw [val_all _ m] at dg
  refine ⟨_, rfl, _, rfl, a, _, 0, _, rfl, rfl, hx, atI_nat (j := 0) rfl, pd, _, rfl, dg, .inr ⟨sl, rfl, ?_⟩⟩
  refine for_it (walk_C (Its := fun _ ys => ys = signs sl) (xs := signs sl) (k0 := 0)) (fun i σ H8 => ∃ o3 o4 us, σ = [some (.ref a), some (.ref L), some (.ref pd), o3, o4, none, none] ∧ H8 L = some (.lst us) ∧ DpAll K H8 us ((inArgs 1 (sl.cps.toList.take i) (args.take i)).map pairD) ∧ Off [L] H7 H8)
    ⟨none, none, [], rfl, hL7, .nil, Off.refl _ _⟩ (fun _ _ _ _ _ => rfl) ?_ ?_
  · rintro i y σ H8 H8' hi ⟨o3, o4, us, rfl, h1, h2, h3⟩ ⟨T, z, rfl, hT, rfl, hz⟩
    unfold signs at hz
    rw [List.getElem?_map] at hz
    obtain ⟨c, hc, rfl⟩ := Option.map_eq_some_iff.mp hz
    have s8 : Same H8 (upd H8 T (.tup [.int (0 + (i : Nat)), .str ⟨#[c]⟩])) := same_new hT _
    have hT9 : (upd H8 T (.tup [.int (0 + (i : Nat)), .str ⟨#[c]⟩])) T = some (.tup [.int (0 + (i : Nat)), .str ⟨#[c]⟩]) := upd_same
    generalize upd H8 T (.tup [.int (0 + (i : Nat)), .str ⟨#[c]⟩]) = H9 at s8 hT9
    have nt7 : NT [L] H7 := .cons (nt_lst hL7) .nil
    have d9 : Dp K H9 (.ref a) (.tuple (.str h :: args)) := by
      have z := Dp.up s8 _ _ (Dp.off t7.dp nt7 t7.fl h3)
      rw [ed] at z
      exact z
    obtain ⟨a9, xs9, ds9, ea, eb, hx9, dx9⟩ := tup_of d9 rfl
    cases ea
    cases eb
    cases dx9 with
    | @cons v9 xs' _ _ r1 dx9 =>
    cases r1
    have l9 := DpAll.len dx9
    have li := (List.getElem?_eq_some_iff.mp hc).1
    obtain ⟨x, ex⟩ : ∃ x, xs'[i]? = some x := ⟨_, List.getElem?_eq_getElem (by omega)⟩
    obtain ⟨d0, ed0, dxd⟩ := DpAll.get dx9 ex
    have tk := inArgs_take (k := 1) la hc ed0
    have nd0 : nl d0 = true := nls_mem fl (List.mem_of_getElem? ed0)
    have ax : atI (V.str h :: xs') (0 + (i : Nat) + 1) = some x := by
      have z : (0 : Int) + (i : Nat) + 1 = ((i + 1 : Nat) : Int) := by omega
      rw [z]
      exact atI_nat (by simpa using ex)
    have a1 : (((1 + i : Nat)) : Int) = 0 + (i : Nat) + 1 := by omega
    have h1' := s8 _ _ h1
    have nlo : nls ((inArgs 1 (sl.cps.toList.take i) (args.take i)).map pairD) = true := by
      refine nls_pairs fun p hp => inArgs_nl 1 _ _ ?_ p hp
      have z := congrArg nls (List.take_append_drop i args)
      rw [nls_app, fl, Bool.and_eq_true] at z
      exact z.1
    have du9 := Dp.ups s8 _ _ h2
    have lu : us.length ≤ 900 := by
      have z := DpAll.len h2
      rw [List.length_map] at z
      have := inArgs_part 1 sl.cps.toList args i
      omega
    have nd1 : nod d0 ≤ 900 := Nat.le_trans (nods_mem (List.mem_of_getElem? ed0)) na
    refine ⟨T, _, rfl, .inl (.inl hT9), rfl, _, _, rfl, _, _, rfl, rfl, ?_⟩
    refine ⟨_, rfl, rfl, _, rfl, ite2 (fun cc => ?_) (fun cc => ?_)⟩
    · have c115 : c = 115 := (sg_s c).mp (of_decide_eq_true cc)
      subst c115
      obtain ⟨es, rfl⟩ := sh.at hc ed0 rfl
      obtain ⟨b, ys, es2, rfl, e2', hb, dys⟩ := tup_of dxd rfl
      cases e2'
      have ly := DpAll.len dys
      have le2 : es.length ≤ 900 := by
        have := nods_len es
        simp only [nod] at nd1
        omega
      have nes : nls es = true := by simpa only [nl] using nd0
      refine ⟨_, rfl, .inl ⟨rfl, _, SqL.of h1'⟩, _, rfl, _, rfl, _, _, rfl, rfl, a, _, _, _, rfl, rfl, hx9, ax, .inl ⟨b, ys, rfl, hb, fun D hD => ?_⟩⟩
      have nzk : ∀ j, nls (((es.zipIdx.take j).map fun p : PyData × Nat => ([((1 + i : Nat) : Int), (p.2 : Int)], p.1)).map pairD) = true := fun j => by
        refine nls_pairs fun p hp => ?_
        obtain ⟨q, hq, rfl⟩ := List.mem_map.mp hp
        obtain ⟨jj, hj⟩ := List.mem_iff_getElem?.mp (List.mem_of_mem_take hq)
        rw [List.getElem?_zipIdx] at hj
        obtain ⟨xx, hxx, e⟩ := Option.map_eq_some_iff.mp hj
        subst e
        exact nls_mem nes (List.mem_of_getElem? hxx)
      refine lc_it (walk_C (Its := fun H zs => SqT K H b zs) (xs := ys) (k0 := 0)) (fun j HE => ∃ vs, HE D = some (.lst vs) ∧ DpAll K HE vs (((es.zipIdx.take j).map fun p : PyData × Nat => ([((1 + i : Nat) : Int), (p.2 : Int)], p.1)).map pairD) ∧ Same H9 (cut [D] HE))
        ⟨[], upd_same, .nil, ?_⟩ ?_ ?_ ?_
      · intro b2 u z
        rw [cut_out (by simp only [List.mem_singleton]; exact ne_of_none z hD), upd_ne (ne_of_none z hD)]
        exact z
      · rintro j HE hj ⟨vs, g1, g2, g3⟩
        exact seqT_up (g3.trans (cut_same _ _)) hb
      · rintro j y HE HE' hj ⟨vs, g1, g2, g3⟩ ⟨T5, z, rfl, hT5, rfl, hz⟩
        obtain ⟨e, he, de⟩ := DpAll.get dys hz
        have q5 : Same HE (upd HE T5 (.tup [.int (0 + (j : Nat)), z])) := same_new hT5 _
        refine ⟨T5, _, rfl, .inl (.inl upd_same), rfl, _, _, rfl, _, _, rfl, rfl, rfl, ?_⟩
        generalize upd HE T5 (.tup [.int (0 + (j : Nat)), z]) = HF at q5
        refine ⟨_, rfl, _, _, rfl, rfl, _, rfl, few (by simp), fun T6 hT6 => ⟨_, rfl, few (by simp), fun T7 hT7 => ?_⟩⟩
        have q6 := q5.trans (same_new (o := .tup [.int (0 + (i : Nat) + 1), .int (0 + (j : Nat))]) hT6)
        have q7 := q6.trans (same_new (o := .tup [.ref T6, z]) hT7)
        have h66 : (upd HF T6 (.tup [.int (0 + (i : Nat) + 1), .int (0 + (j : Nat))])) T6 = some (.tup [.int (0 + (i : Nat) + 1), .int (0 + (j : Nat))]) := upd_same
        have n67 : T6 ≠ T7 := ne_of_none h66 hT7
        have g17 := q7 _ _ g1
        have tk2 : (es.zipIdx.take (j + 1)) = es.zipIdx.take j ++ [(e, j)] := get_take (by rw [List.getElem?_zipIdx, he]; simp)
        have lv : vs.length ≤ 900 := by
          have z := DpAll.len g2
          rw [List.length_map, List.length_map, List.length_take] at z
          simp only [List.length_zipIdx] at z
          omega
        have s7 : Same H9 (upd (upd HF T6 (.tup [.int (0 + (i : Nat) + 1), .int (0 + (j : Nat))])) T7 (.tup [.ref T6, z])) := (Same.trans g3 (cut_same _ _)).trans q7
        have dz : Dp K (upd (upd HF T6 (.tup [.int (0 + (i : Nat) + 1), .int (0 + (j : Nat))])) T7 (.tup [.ref T6, z])) (.ref T7) (pairD ([((1 + i : Nat) : Int), (j : Int)], e)) := by
          refine .tup (.inl (.inl upd_same)) (.cons (.tup (xs := [.int (0 + (i : Nat) + 1), .int (0 + (j : Nat))]) (.inl (.inl (by rw [upd_ne n67]; exact h66))) ?_) (.cons (Dp.up s7 _ _ de) .nil))
          have a2 : ((j : Nat) : Int) = 0 + (j : Nat) := by omega
          have z := ints_dp (K := K) (H := upd (upd HF T6 (.tup [.int (0 + (i : Nat) + 1), .int (0 + (j : Nat))])) T7 (.tup [.ref T6, z])) [0 + (i : Nat) + 1, 0 + (j : Nat)]
          rw [← a1, ← a2] at z
          rw [← a1, ← a2]
          exact z
        generalize upd (upd HF T6 (.tup [.int (0 + (i : Nat) + 1), .int (0 + (j : Nat))])) T7 (.tup [.ref T6, z]) = HG at q7 g17 s7 dz
        have ntG : NT [D] HG := .cons (nt_lst g17) .nil
        have pG : Off [D] HG (upd HG D (.lst (vs ++ [.ref T7]))) := Off.put (by simp)
        have ne : nl e = true := nls_mem nes (List.mem_of_getElem? he)
        refine ⟨_, g17, small1000 (by omega), vs ++ [.ref T7], upd_same, ?_, g3.trans ((Off.of q7).trans pG)⟩
        rw [tk2, List.map_append, List.map_append]
        refine DpAll.app (DpAll.off (Dp.ups q7 _ _ g2) ntG (nzk j) pG) (.cons (Dp.off dz ntG ?_ pG) .nil)
        simp only [pairD, nl, nls, nls_ints, ne, Bool.and_self]
      · rintro HE ⟨vs, g1, g2, g3⟩
        have g3' := g3.trans (cut_same _ _)
        have hLE := g3' _ _ h1'
        have nzz := nzk ys.length
        rw [List.take_of_length_le (by rw [List.length_zipIdx]; omega)] at g2 nzz
        have lv : vs.length ≤ 900 := by
          have z := DpAll.len g2
          rw [List.length_map, List.length_map, List.length_zipIdx] at z
          omega
        have ntE : NT [L] HE := .cons (nt_lst hLE) .nil
        have pE : Off [L] HE (upd HE L (.lst (us ++ vs))) := Off.put (by simp)
        refine ⟨L, D, us, vs, rfl, rfl, hLE, g1, few2 (by omega), _, _, us ++ vs, rfl, upd_same, ?_, h3.trans ((Off.of (s8.trans g3')).trans pE)⟩
        rw [tk, List.map_append]
        have ei : inSlot (1 + i) 115 (.tuple es) = es.zipIdx.map fun p => ([((1 + i : Nat) : Int), (p.2 : Int)], p.1) := by
          unfold inSlot
          rw [if_pos rfl]
        rw [ei]
        exact DpAll.app (DpAll.off (Dp.ups g3' _ _ du9) ntE nlo pE) (DpAll.off g2 ntE nzz pE)
    · have n115 : ¬ c = 115 := fun z => cc (decide_eq_true ((sg_s c).mpr z))
      refine ⟨_, rfl, few (by simp), fun T1 hT1 => ⟨T1, _, rfl, .inr (.inl (.inl upd_same)), rfl, rfl, _, rfl, ite2 (fun c2 => ?_) (fun c2 => ?_)⟩⟩
      · have c3 : c = 101 ∨ c = 116 := (inV_et c).mp c2
        have s9 : Same H9 (upd H9 T1 (.tup [.str "e", .str "t"])) := same_new hT1 _
        generalize upd H9 T1 (.tup [.str "e", .str "t"]) = HA at s9
        refine ⟨_, rfl, .inl ⟨rfl, _, SqL.of (s9 _ _ h1')⟩, _, rfl, _, _, rfl, rfl, few (by simp), fun T3 hT3 => ?_⟩
        have s10 := s9.trans (same_new (o := .tup [.int (0 + (i : Nat) + 1)]) hT3)
        have h33 : (upd HA T3 (.tup [.int (0 + (i : Nat) + 1)])) T3 = some (.tup [.int (0 + (i : Nat) + 1)]) := upd_same
        generalize upd HA T3 (.tup [.int (0 + (i : Nat) + 1)]) = HB at s10 h33
        refine ⟨_, rfl, _, rfl, _, _, rfl, rfl, a, _, _, _, rfl, rfl, seqT_up s10 hx9, ax, few (by simp), fun T4 hT4 => ?_⟩
        have s11 := s10.trans (same_new (o := .tup [.ref T3, x]) hT4)
        have n34 : T3 ≠ T4 := ne_of_none h33 hT4
        have dz : Dp K (upd HB T4 (.tup [.ref T3, x])) (.ref T4) (pairD ([((1 + i : Nat) : Int)], d0)) := by
          refine .tup (.inl (.inl upd_same)) (.cons (.tup (xs := [.int (0 + (i : Nat) + 1)]) (.inl (.inl (by rw [upd_ne n34]; exact h33))) ?_) (.cons (Dp.up s11 _ _ dxd) .nil))
          have z := ints_dp (K := K) (H := upd HB T4 (.tup [.ref T3, x])) [0 + (i : Nat) + 1]
          rw [← a1] at z
          rw [← a1]
          exact z
        have hLB := s11 _ _ h1'
        generalize upd HB T4 (.tup [.ref T3, x]) = HC at s11 dz hLB
        have ntC : NT [L] HC := .cons (nt_lst hLB) .nil
        have pC : Off [L] HC (upd HC L (.lst (us ++ [.ref T4]))) := Off.put (by simp)
        refine ⟨L, us, _, rfl, rfl, hLB, small1000 (by omega), _, _, us ++ [.ref T4], rfl, upd_same, ?_, h3.trans ((Off.of (s8.trans s11)).trans pC)⟩
        rw [tk, List.map_append]
        have ei : inSlot (1 + i) c d0 = [([((1 + i : Nat) : Int)], d0)] := by
          unfold inSlot
          rw [if_neg n115, if_pos c3]
        rw [ei]
        refine DpAll.app (DpAll.off (Dp.ups s11 _ _ du9) ntC nlo pC) (.cons (Dp.off dz ntC ?_ pC) .nil)
        simp only [pairD, nl, nls, nls_ints, nd0, Bool.and_self]
      · have c3 : ¬ (c = 101 ∨ c = 116) := fun z => c2 ((inV_et c).mpr z)
        have s9 : Same H9 (upd H9 T1 (.tup [.str "e", .str "t"])) := same_new hT1 _
        refine ⟨_, _, us, rfl, s9 _ _ h1', ?_, h3.trans (Off.of (s8.trans s9))⟩
        rw [tk]
        have ei : inSlot (1 + i) c d0 = [] := by
          unfold inSlot
          rw [if_neg n115, if_neg c3]
        rw [ei, List.append_nil]
        exact Dp.ups s9 _ _ du9
  · rintro σ H8 ⟨o3, o4, us, rfl, h1, h2, h3⟩
    have lsg : (signs sl).length = sl.cps.toList.length := by simp [signs]
    rw [lsg, List.take_of_length_le (Nat.le_refl _), List.take_of_length_le (by omega), ← ek] at h2
    refine ⟨_, rfl, L, us, rfl, .inl ⟨SqL.of h1, fun t ht => ?_⟩⟩
    have s8 : Same H H8 := fun b u z => by
      have z1 := s17 _ _ (s1 _ _ z)
      exact h3.get z1 (by simpa using ne_of_none z hL)
    exact q (.ref t) _ (s8.trans (same_new ht _)) (.tup (.inl (.inl upd_same)) (Dp.ups (same_new ht _) _ _ h2))
end
theorem atD_sub : ∀ (p : List Int) (d e : PyData), atD d p = some e → nod e ≤ nod d ∧ e.depth ≤ d.depth ∧ (nl d = true → nl e = true) ∧ (gd d = true → gd e = true) ∧ p.length ≤ d.depth ∧ ∀ i ∈ p, 0 ≤ i ∧ i < nod d
  | [], d, e, h => by
    have h : d = e := by simpa [atD] using h
    subst h
    exact ⟨Nat.le_refl _, Nat.le_refl _, id, id, Nat.zero_le _, fun _ z => nomatch z⟩
  | i :: r, d, e, h => by
    cases d with
    | tuple ds =>
      simp only [atD] at h
      split at h
      · rename_i i0
        cases hd : ds[i.toNat]? with
        | none => rw [hd] at h; cases h
        | some x =>
          rw [hd] at h
          obtain ⟨h1, h2, h3, h4, h5, h6⟩ := atD_sub r x e h
          have m := List.mem_of_getElem? hd
          have g1 := nods_mem m
          have g2 := depth_mem m
          have g3 := nods_len ds
          have g4 := (List.getElem?_eq_some_iff.mp hd).1
          refine ⟨?_, ?_, fun z => h3 (nls_mem (by simpa only [nl] using z) m), fun z => h4 (gds_mem (by simpa only [gd] using z) m), ?_, fun j hj => ?_⟩
          · simp only [nod]
            omega
          · simp only [PyData.depth]
            omega
          · simp only [PyData.depth, List.length_cons]
            omega
          · simp only [nod]
            rcases List.mem_cons.mp hj with z | z
            · rw [z]
              omega
            · have := h6 j z
              omega
      · cases h
    | none => simp [atD] at h
    | bool _ => simp [atD] at h
    | int _ => simp [atD] at h
    | str _ => simp [atD] at h
    | list _ => simp [atD] at h
    | dict _ => simp [atD] at h
theorem ints_back {K : PySem.W.Frag} {H : Hp} : ∀ {is : List Int} {zs : List V}, DpAll K H zs (is.map PyData.int) → zs = is.map V.int
  | [], _, .nil => rfl
  | _ :: _, _, .cons a t => by
    cases a
    rw [ints_back t]
    rfl
def rCatK (K : PySem.W.Frag) : R2 := fun x y H Q => ∃ a b xs ys, x = .ref a ∧ y = .ref b ∧ SqT K H a xs ∧ SqT K H b ys ∧ xs.length + ys.length ≤ sizeLine ∧ ∀ c H', Same H H' → SqT K H' c (xs ++ ys) → Q (.ref c) H'
theorem op_catK {X : Cx} {K : PySem.W.Frag} (h : X.K = K) : OpR X (binaryOp .Add) (rCatK K) := by
  subst h
  intro pins s σ H x y v u Q I rx ry h
  obtain ⟨a, b, xs, ys, rfl, rfl, ha, hb, hz, q⟩ := h
  have c0 : Same H (cut [] H) := fun b o z => by
    rw [cut_out (by simp)]
    exact z
  exact op_catU pins s σ H _ _ v u Q I rx ry ⟨a, b, xs, ys, [], rfl, rfl, seqT_up c0 ha, seqT_up c0 hb, (fun _ z => nomatch z), hz, fun c H' s1 hc => q c H' s1 (seqT_cut hc)⟩
theorem gds_ints : ∀ {is : List Int}, (∀ i ∈ is, 0 ≤ i ∧ i < 1000) → gds (is.map PyData.int) = true
  | [], _ => by simp only [List.map_nil, gds]
  | i :: is, h => by
    have h1 := h i List.mem_cons_self
    have g : gd (.int i) = true := gd_int (Nat.lt_of_lt_of_le (by omega : i.natAbs < 2 ^ 10) (Nat.pow_le_pow_right (by decide) (by decide)))
    simp only [List.map_cons, gds, g, gds_ints fun j hj => h j (List.mem_cons_of_mem _ hj), Bool.and_self]
theorem depth_ints : ∀ is : List Int, PyData.depthAll (is.map PyData.int) = 0
  | [] => by simp only [List.map_nil, PyData.depthAll]
  | i :: is => by simp only [List.map_cons, PyData.depthAll, PyData.depth, depth_ints is, Nat.max_self]
/-- a path into d and the tree that is there -/
def Ok8 (d : PyData) (f n : Nat) (p : List Int × PyData) : Prop := atD d p.1 = some p.2 ∧ Wf f n p.2
theorem pairs_good {d : PyData} (hg : gd d = true) (hn : nod d ≤ 900) : ∀ {qs : List (List Int × PyData)}, (∀ q ∈ qs, atD d q.1 = some q.2) → gds (qs.map pairD) = true ∧ PyData.depthAll (qs.map pairD) ≤ d.depth + 2
  | [], _ => ⟨by simp only [List.map_nil, gds], by simp only [List.map_nil, PyData.depthAll]; omega⟩
  | q :: qs, h => by
    obtain ⟨h1, h2, h3, h4, h5, h6⟩ := atD_sub q.1 d q.2 (h q List.mem_cons_self)
    obtain ⟨g1, g2⟩ := pairs_good hg hn fun p hp => h p (List.mem_cons_of_mem _ hp)
    have gi : gds (q.1.map PyData.int) = true := gds_ints fun i hi => by
      have := h6 i hi
      omega
    refine ⟨?_, ?_⟩
    · simp only [List.map_cons, gds, pairD, gd, gi, h4 hg, g1, Bool.and_self]
    · simp only [List.map_cons, PyData.depthAll, pairD, PyData.depth, depth_ints]
      omega
theorem paired_sum {α : Type} {F : Nat → α → Prop} (h : ∀ n q, F n q → 1 ≤ n) : ∀ {ns : List Nat} {qs : List α}, Paired F ns qs → qs.length ≤ ns.sum
  | _, _, .nil => Nat.le_refl _
  | _, _, .cons a t => by
    have h1 := h _ _ a
    have h2 := paired_sum h t
    simp only [List.length_cons, List.sum_cons]
    omega
def spLAll (K : PySem.W.Frag) : Sp := fun vs H Q _ => ∃ v d f n, vs = [v] ∧ Tre K H v d f n ∧ gd d = true ∧ d.depth ≤ 50 ∧
  ∀ L us (ps : List (List Int × PyData)) H', Same H H' → H L = none → H' L = some (.lst us) → DpAll K H' us (ps.map pairD) → ps.length = n → (∀ p ∈ ps, ∃ m, Ok8 d f m p) → Q (.ref L) H'
section
variable {P : Program} {w : World} {K : PySem.W.Frag} {mg : Str → Option Value} {base : Heap} {f fC : Addr} {fd dC : FuncData}
theorem ok_lall {k : Nat} (F : Fun K "_law_all" "_law_all" sLAll f fd) (GC : Dn P w K mg base 2 "_law_children" ["_law_tree_here"] (spChildren K) fC dC) :
    FnOk P w K mg base CX0 (k + 3) f fd ["_law_tree_here"] (spLAll K) := by
  refine F.ok scLAll (fun vs H Q E h => ?_) (fun cdv A outer s H vs Q E hr h => ?_)
  · obtain ⟨v, d, f0, n, rfl, _⟩ := h
    rfl
  obtain ⟨v, d, f0, n, rfl, t, hg, hdep, q⟩ := h
  have hr2 : Room 2 _ := hr.mono (by omega)
  refine ⟨_, pss_cons (ps_par (i := 1) (j := 2) (by rfl) scLAll.nd rfl rfl (by decide) rfl rfl (pa_cons (pe_lst pa_nil) (pa_cons (pe_lst (pa_cons (pe_tup (pa_cons (pe_tup pa_nil) (pa_cons (pv 0) pa_nil))) pa_nil)) pa_nil)) (by rfl))
    (pss_cons (ps_while PassesOwn.never (pt_cmpR (op_neD hr.units) (pv 2) (pe_lst pa_nil) (nomark _))
      (pss_cons (ps_asg (pe_bm0 PySem.F.plainAttrs_list PySem.F.slot_list_pop PySem.F.type_list_pop mt_pop (pv 2)) (pg_tup (by rfl) (pgs_cons (pg_name (i := 3) scLAll.nd rfl (.inr rfl)) (pgs_cons (pg_name (i := 4) scLAll.nd rfl (.inl rfl)) pgs_nil))))
      (pss_cons (ps_expr (pe_bm PySem.F.plainAttrs_list PySem.F.slot_list_append PySem.F.type_list_append mt_append (pv 1) (pa_cons (pe_tup (pa_cons (pv 3) (pa_cons (pv 4) pa_nil))) pa_nil)))
      (pss_one (ps_expr (pe_bm PySem.F.plainAttrs_list PySem.F.slot_list_extend PySem.F.type_list_extend mt_extend (pv 2) (pa_cons
        (pe_lc (own := [("_law_step", 5), ("_law_inner", 6)]) (g := gTup K 2 (gCons (gName 5) (gCons (gName 6) gNil))) (by rfl) scLAll.nd (pi_tup (pe_call GC.ok hr2 (by rfl) GC.mg GC.kp GC.bd .nil pass0 (pa_cons (pv 4) pa_nil)))
          (blkOk_by (own := [("_law_step", 5), ("_law_inner", 6)]) (N := ["_law_tree_here", "_law_found", "_law_left", "_law_path", "_law_here", "_law_step", "_law_inner"]) (sc := defScope sLAll) (by decide +kernel))
          (fun _ _ _ _ _ => pg_tupK rfl (by rfl) (pgs_cons (pg_name (i := 5) scLAll.nd rfl (Or.inl rfl)) (pgs_cons (pg_name (i := 6) scLAll.nd rfl (Or.inl rfl)) pgs_nil))) (fun _ _ _ _ _ => pts_nil)
          (fun _ _ _ _ _ => pe_tup (pa_cons (pe_op (op_catK (K := K) rfl) (pv 3) (pv 5)) (pa_cons (pv 6) pa_nil)))) pa_nil)))))))
    (pss_one (ps_ret (pv 1)))), ?_⟩
  refine ⟨by decide, fun FA hFA => ⟨few (by simp), fun t0 ht0 => ⟨_, rfl, few (by simp), fun t1 ht1 => ⟨few (by simp), fun LF hLF => ⟨_, _, rfl, ?_⟩⟩⟩⟩⟩
  have r1 : Same H (upd H FA (.lst [])) := same_new hFA _
  have f1 : (upd H FA (.lst [])) FA = some (.lst []) := upd_same
  generalize upd H FA (.lst []) = H1 at *
  have r2 : Same H1 (upd H1 t0 (.tup [])) := same_new ht0 _
  have f2 : (upd H1 t0 (.tup [])) t0 = some (.tup []) := upd_same
  generalize upd H1 t0 (.tup []) = H2 at *
  have r3 : Same H2 (upd H2 t1 (.tup [.ref t0, v])) := same_new ht1 _
  have f3 : (upd H2 t1 (.tup [.ref t0, v])) t1 = some (.tup [.ref t0, v]) := upd_same
  generalize upd H2 t1 (.tup [.ref t0, v]) = H3 at *
  have r4 : Same H3 (upd H3 LF (.lst [.ref t1])) := same_new hLF _
  have f4 : (upd H3 LF (.lst [.ref t1])) LF = some (.lst [.ref t1]) := upd_same
  have r14 : Same H1 H3 := r2.trans r3
  have nFL : FA ≠ LF := ne_of_none (r14 _ _ f1) hLF
  have hLF0 : H LF = none := (r1.trans r14).free hLF
  refine ⟨fun m σ HZ => ∃ (us xs : List V) (ps qs : List (List Int × PyData)) (ns : List Nat) (o3 o4 : Option V), σ = [some v, some (.ref FA), some (.ref LF), o3, o4, none, none] ∧ HZ FA = some (.lst us) ∧ HZ LF = some (.lst xs) ∧ DpAll K HZ us (ps.map pairD) ∧ DpAll K HZ xs (qs.map pairD) ∧
      Paired (fun (n : Nat) (q : List Int × PyData) => Ok8 d f0 n q) ns qs ∧ (∀ p ∈ ps, ∃ m, Ok8 d f0 m p) ∧ ns.sum = m ∧ ps.length + m = n ∧ Same H HZ,
    ⟨n, [], [.ref t1], [], [([], d)], [n], none, none, rfl, r4 _ _ (r14 _ _ f1), f4, .nil, .cons (.tup (.inl (.inl (r4 _ _ f3))) (.cons (.tup (.inl (.inl (r4 _ _ (r3 _ _ f2)))) .nil) (.cons (Dp.up (r1.trans (r14.trans r4)) _ _ t.dp) .nil))) .nil,
      .cons ⟨by simp [atD], t.wf⟩ .nil, (fun _ z => nomatch z), by simp, by simp, r1.trans (r14.trans r4)⟩, ?_⟩
  rintro m σ HZ ⟨us, xs, ps, qs, ns, o3, o4, rfl, hu, hx, du, dx, pk, pp, rfl, cnt, sm⟩
  have lx := DpAll.len dx
  have pq : ∀ q ∈ qs, atD d q.1 = some q.2 := by
    clear dx lx cnt
    induction pk with
    | nil => exact fun _ z => nomatch z
    | cons a t ih =>
      intro q hq
      rcases List.mem_cons.mp hq with z | z
      · rw [z]
        exact a.1
      · exact ih q z
  have gx := pairs_good hg t.nd pq
  refine ⟨_, rfl, by decide, fun tt htt => ?_⟩
  have s3 : Same HZ (upd HZ tt (.lst [])) := same_new htt _
  refine ⟨.list (qs.map pairD), .list [], .lst (SqL.of (s3 _ _ hx)) (Dp.ups s3 _ _ dx), .lst (SqL.of upd_same) .nil, shaped_of (by simpa only [gd] using gx.1) (by simp only [PyData.depth]; omega), by decide +kernel, _, rfl, ?_⟩
  rw [eqv_nilL]
  by_cases ex : xs = []
  · subst ex
    have q0 : qs = [] := by
      have z := DpAll.len dx
      simp at z
      exact List.length_eq_zero_iff.mp z.symm
    subst q0
    cases pk
    exact iteF ⟨_, rfl, q FA us ps _ (sm.trans s3) hFA (s3 _ _ hu) (Dp.ups s3 _ _ du) (by simpa using cnt) pp⟩
  · have e1 : (qs.map pairD).isEmpty = false := by
      cases qs with
      | nil => exact absurd (List.length_eq_zero_iff.mp lx) ex
      | cons d ds => rfl
    rw [e1]
    obtain ⟨xs2, y, rfl⟩ : ∃ xs2 y, xs = xs2 ++ [y] := ⟨xs.dropLast, xs.getLast ex, (List.dropLast_concat_getLast ex).symm⟩
    obtain ⟨qs2, qq, rfl⟩ : ∃ qs2 qq, qs = qs2 ++ [qq] := by
      have qne : qs ≠ [] := fun z => by
        rw [z] at e1
        cases e1
      exact ⟨qs.dropLast, qs.getLast qne, (List.dropLast_concat_getLast qne).symm⟩
    obtain ⟨ns2, nq, rfl, pk2, okq⟩ := paired_unsnoc pk
    rw [List.map_append] at dx
    obtain ⟨d1, d2, e2, da, db⟩ := DpAll.unapp dx
    have la := DpAll.len da
    have lb := DpAll.len db
    have e3 := congrArg List.length e2
    simp only [List.length_append, List.length_map, List.length_cons, List.length_nil] at e3 lb lx
    have e4 := List.append_inj e2 (by rw [List.length_map]; omega)
    rw [← e4.1] at da
    rw [← e4.2] at db
    simp only [List.map_cons, List.map_nil] at db
    cases db with
    | cons dy rest =>
    cases rest
    obtain ⟨ty, ys, dys, rfl, ey, hy, dyy⟩ := tup_of dy rfl
    cases ey
    cases dyy with
    | @cons x1 _ _ _ dy1 dyy =>
    cases dyy with
    | @cons x2 _ _ _ dy2 dyy =>
    cases dyy
    obtain ⟨pa, zs, dzs, rfl, ez, hpa, dpa⟩ := tup_of dy1 rfl
    cases ez
    have ezs := ints_back dpa
    subst ezs
    obtain ⟨a1, a2⟩ := okq
    obtain ⟨b1, b2, b3, b4, b5, b6⟩ := atD_sub _ _ _ a1
    have pos := a2.pos
    have nsum : (ns2 ++ [nq]).sum = ns2.sum + nq := by simp
    rw [nsum] at cnt ⊢
    refine iteT ⟨fun σ' HY => ∃ m', m' < ns2.sum + nq ∧ ∃ (us xs : List V) (ps qs : List (List Int × PyData)) (ns : List Nat) (o3 o4 : Option V), σ' = [some v, some (.ref FA), some (.ref LF), o3, o4, none, none] ∧ HY FA = some (.lst us) ∧ HY LF = some (.lst xs) ∧ DpAll K HY us (ps.map pairD) ∧ DpAll K HY xs (qs.map pairD) ∧
      Paired (fun (n : Nat) (q : List Int × PyData) => Ok8 d f0 n q) ns qs ∧ (∀ p ∈ ps, ∃ m, Ok8 d f0 m p) ∧ ns.sum = m' ∧ ps.length + m' = n ∧ Same H HY, fun _ _ z => z, ?_⟩
    have hx3 := s3 _ _ hx
    have hu3 := s3 _ _ hu
    have du3 := Dp.ups s3 _ _ du
    have da3 := Dp.ups s3 _ _ da
    have hy3 := seqT_up s3 hy
    have hpa3 := seqT_up s3 hpa
    have dy23 := Dp.up s3 _ _ dy2
    have sm3 := sm.trans s3
    generalize upd HZ tt (.lst []) = H5 at s3 hx3 hu3 du3 da3 hy3 hpa3 dy23 sm3
    have nlu : nls (ps.map pairD) = true := nls_pairs fun p hp => by
      obtain ⟨mm, o1, o2⟩ := pp p hp
      exact (atD_sub _ _ _ o1).2.2.1 t.fl
    have nlq : nls (qs2.map pairD) = true := nls_pairs fun p hp => (atD_sub _ _ _ (pq p (List.mem_append_left _ hp))).2.2.1 t.fl
    have nlx : nl qq.2 = true := b3 t.fl
    have lu : us.length ≤ 900 := by
      have z := DpAll.len du
      rw [List.length_map] at z
      have := t.wf.le
      have := t.nd
      omega
    have lxs : xs2.length ≤ 900 := by
      have := t.wf.le
      have := t.nd
      have z2 : qs2.length ≤ ns2.sum := paired_sum (fun n q z => z.2.pos) pk2
      have z1 := DpAll.len da
      rw [List.length_map] at z1
      omega
    refine ⟨_, rfl, .inl ⟨rfl, _, SqL.of hx3⟩, LF, _, .ref ty, rfl, rfl, hx3, last_at _ _, ?_⟩
    rw [drop_last]
    have nt5 : NT [FA, LF] H5 := .cons (nt_lst hu3) (.cons (nt_lst hx3) .nil)
    have p6 : Off [FA, LF] H5 (upd H5 LF (.lst xs2)) := Off.put (by simp)
    have hu6 : (upd H5 LF (.lst xs2)) FA = some (.lst us) := by rw [upd_ne nFL]; exact hu3
    have hx6 : (upd H5 LF (.lst xs2)) LF = some (.lst xs2) := upd_same
    generalize upd H5 LF (.lst xs2) = H6 at p6 hu6 hx6
    have ntT : ∀ {a : Addr} {xs : List V}, SqT K H5 a xs → SqT K H6 a xs := fun {a xs} h => by
      rcases h with (h | ⟨o, h⟩) | h
      · refine .inl (.inl (p6.get h fun z => ?_))
        exact nt5 _ z _ (.inl h)
      · refine .inl (.inr ⟨o, p6.get h fun z => ?_⟩)
        exact nt5 _ z _ (.inr ⟨o, h⟩)
      · exact .inr h
    refine ⟨ty, _, rfl, ntT hy3, rfl, _, _, rfl, _, _, rfl, rfl, ?_⟩
    refine ⟨_, rfl, .inl ⟨rfl, _, SqL.of hu6⟩, _, rfl, _, rfl, few (by simp), fun T1 hT1 => ?_⟩
    have r7 : Same H6 (upd H6 T1 (.tup [.ref pa, x2])) := same_new hT1 _
    have e7 : (upd H6 T1 (.tup [.ref pa, x2])) T1 = some (.tup [.ref pa, x2]) := upd_same
    generalize upd H6 T1 (.tup [.ref pa, x2]) = H7 at r7 e7
    have p7 : Off [FA, LF] H5 H7 := p6.trans (Off.of r7)
    have hu7 := r7 _ _ hu6
    have hx7 := r7 _ _ hx6
    have dpa7 := seqT_up r7 (ntT hpa3)
    have dx7 : Dp K H7 x2 qq.2 := Dp.off dy23 nt5 nlx p7
    have dT1 : Dp K H7 (.ref T1) (pairD qq) := .tup (.inl (.inl e7)) (.cons (.tup dpa7 (ints_dp _)) (.cons dx7 .nil))
    have du7 := DpAll.off du3 nt5 nlu p7
    have da7 := DpAll.off da3 nt5 nlq p7
    refine ⟨FA, us, .ref T1, rfl, rfl, hu7, small1000 (by omega), ?_⟩
    have nt7 : NT [FA, LF] H7 := .cons (nt_lst hu7) (.cons (nt_lst hx7) .nil)
    have p8 : Off [FA, LF] H7 (upd H7 FA (.lst (us ++ [.ref T1]))) := Off.put (by simp)
    have hu8 : (upd H7 FA (.lst (us ++ [.ref T1]))) FA = some (.lst (us ++ [.ref T1])) := upd_same
    have hx8 : (upd H7 FA (.lst (us ++ [.ref T1]))) LF = some (.lst xs2) := by rw [upd_ne nFL.symm]; exact hx7
    generalize upd H7 FA (.lst (us ++ [.ref T1])) = H8 at p8 hu8 hx8
    have nlp : nl (pairD qq) = true := by simp only [pairD, nl, nls, nls_ints, nlx, Bool.and_self]
    have dT8 := Dp.off dT1 nt7 nlp p8
    have dx8 := Dp.off dx7 nt7 nlx p8
    have du8 : DpAll K H8 (us ++ [.ref T1]) ((ps ++ [qq]).map pairD) := by
      rw [List.map_append]
      exact DpAll.app (DpAll.off du7 nt7 nlu p8) (.cons dT8 .nil)
    have da8 := DpAll.off da7 nt7 nlq p8
    have dpa8 : SqT K H8 pa (qq.1.map V.int) := by
      have z := Dp.off (.tup dpa7 (ints_dp qq.1) : Dp K H7 (.ref pa) (.tuple (qq.1.map PyData.int))) nt7 (by simp only [nl, nls_ints]) p8
      obtain ⟨a, zz, dzz, ea, eb, hz, dz⟩ := tup_of z rfl
      cases ea
      cases eb
      rw [ints_back dz] at hz
      exact hz
    have sm8 : Same H H8 := fun b u z => by
      have z3 := sm3 b u z
      have z7 := p7.get z3 (by simp only [List.mem_cons, List.not_mem_nil, or_false, not_or]; exact ⟨ne_of_none z hFA, ne_of_none z hLF0⟩)
      exact p8.get z7 (by simp only [List.mem_cons, List.not_mem_nil, or_false, not_or]; exact ⟨ne_of_none z hFA, ne_of_none z hLF0⟩)
    have nt8 : NT [FA, LF] H8 := .cons (nt_lst hu8) (.cons (nt_lst hx8) .nil)
    have tq : Tre K H8 x2 qq.2 f0 nq := ⟨dx8, a2, by have := t.nd; omega, nlx⟩
    refine ⟨_, rfl, .inl ⟨rfl, _, SqL.of hx8⟩, _, rfl, x2, qq.2, f0, nq, rfl, tq, fun v9 H9 s9 d9 => ?_⟩
    obtain ⟨b9, ys9, ds9, rfl, e9, hb9, dys9⟩ := tup_of d9 rfl
    cases e9
    have lk : (kids8 qq.2).length ≤ 900 := by
      obtain ⟨h0, sl0, args0, ns0, f0', _, ed0, m0, s0', e0, p0, q0⟩ := a2.open
      rw [e0]
      have := inArgs_len 1 sl0.cps.toList args0
      have z := tq.nd
      rw [ed0] at z
      simp only [nod, nods] at z
      omega
    have ly9 := DpAll.len dys9
    rw [List.length_map] at ly9
    refine ⟨b9, rfl, ⟨_, hb9⟩, fun D hD => ?_⟩
    have nlk : ∀ p ∈ kids8 qq.2, nl p.2 = true := fun p hp => (atD_sub _ _ _ (kids_at a2 p hp)).2.2.1 nlx
    refine lc_it (walk_tup (K := K) (a := b9) (xs := ys9)) (fun j HE => ∃ vs, HE D = some (.lst vs) ∧ DpAll K HE vs ((((kids8 qq.2).take j).map fun k => (qq.1 ++ k.1, k.2)).map pairD) ∧ Same H9 (cut [D] HE)) ⟨[], upd_same, .nil, ?_⟩ ?_ ?_ ?_
    · intro b u z
      rw [cut_out (by simp only [List.mem_singleton]; exact ne_of_none z hD), upd_ne (ne_of_none z hD)]
      exact z
    · rintro j HE hj ⟨vs, g1, g2, g3⟩
      exact seqT_up (g3.trans (cut_same _ _)) hb9
    · rintro j y HE HE' hj ⟨vs, g1, g2, g3⟩ ⟨rfl, hyy⟩
      obtain ⟨dk, hk, dyk⟩ := DpAll.get dys9 hyy
      rw [List.getElem?_map] at hk
      obtain ⟨kk, hkk, rfl⟩ := Option.map_eq_some_iff.mp hk
      have mk := List.mem_of_getElem? hkk
      obtain ⟨tk, yk, dzk, rfl, ek, hyk, dk2⟩ := tup_of dyk rfl
      cases ek
      cases dk2 with
      | @cons y1 _ _ _ dk1 dk2 =>
      cases dk2 with
      | @cons y2 _ _ _ dkb dk2 =>
      cases dk2
      obtain ⟨pb, zb, dzb, rfl, eb, hpb, dpb⟩ := tup_of dk1 rfl
      cases eb
      have ezb := ints_back dpb
      subst ezb
      have gS : Same H9 HE' := Same.trans g3 (cut_same _ _)
      refine ⟨tk, _, rfl, seqT_up gS hyk, rfl, _, _, rfl, _, _, rfl, rfl, rfl, ?_⟩
      have lb1 := (atD_sub _ _ _ (kids_at a2 kk mk)).2.2.2.2.1
      refine ⟨_, rfl, _, rfl, pa, pb, _, _, rfl, rfl, seqT_up (s9.trans gS) dpa8, seqT_up gS hpb, few (by rw [List.length_map, List.length_map]; omega), fun cc HF sF hcc => ⟨_, rfl, few (by simp), fun T7 hT7 => ?_⟩⟩
      have r9 : Same HF (upd HF T7 (.tup [.ref cc, y2])) := same_new hT7 _
      have g1F := sF.trans r9 _ _ g1
      have dz : Dp K (upd HF T7 (.tup [.ref cc, y2])) (.ref T7) (pairD (qq.1 ++ kk.1, kk.2)) := by
        refine .tup (.inl (.inl upd_same)) (.cons (.tup (xs := qq.1.map V.int ++ kk.1.map V.int) (seqT_up r9 hcc) ?_) (.cons (Dp.up (gS.trans (sF.trans r9)) _ _ dkb) .nil))
        rw [← List.map_append]
        exact ints_dp _
      have sFR := sF.trans r9
      generalize upd HF T7 (.tup [.ref cc, y2]) = HG at g1F dz sFR
      have ntG : NT [D] HG := .cons (nt_lst g1F) .nil
      have pG : Off [D] HG (upd HG D (.lst (vs ++ [.ref T7]))) := Off.put (by simp)
      have lv : vs.length ≤ 900 := by
        have z := DpAll.len g2
        rw [List.length_map, List.length_map, List.length_take] at z
        omega
      have nlo : nls ((((kids8 qq.2).take j).map fun k => (qq.1 ++ k.1, k.2)).map pairD) = true := nls_pairs fun p hp => by
        obtain ⟨k0, hk0, rfl⟩ := List.mem_map.mp hp
        exact nlk k0 (List.mem_of_mem_take hk0)
      refine ⟨vs, g1F, small1000 (by omega), vs ++ [.ref T7], upd_same, ?_, g3.trans ((Off.of sFR).trans pG)⟩
      rw [get_take hkk, List.map_append, List.map_append]
      refine DpAll.app (DpAll.off (Dp.ups sFR _ _ g2) ntG nlo pG) (.cons (Dp.off dz ntG ?_ pG) .nil)
      simp only [pairD, nl, nls, nls_ints, nlk kk mk, Bool.and_self]
    · rintro HE ⟨vs, g1, g2, g3⟩
      rw [List.take_of_length_le (by omega)] at g2
      have gS : Same H9 HE := Same.trans g3 (cut_same _ _)
      have s8E := s9.trans gS
      have hxE := s8E _ _ hx8
      have huE := s8E _ _ hu8
      have lv : vs.length ≤ 900 := by
        have z := DpAll.len g2
        rw [List.length_map, List.length_map] at z
        omega
      have ntE : NT [LF] HE := .cons (nt_lst hxE) .nil
      have pE : Off [LF] HE (upd HE LF (.lst (xs2 ++ vs))) := Off.put (by simp)
      have nlo : nls (((kids8 qq.2).map fun k => (qq.1 ++ k.1, k.2)).map pairD) = true := nls_pairs fun p hp => by
        obtain ⟨k0, hk0, rfl⟩ := List.mem_map.mp hp
        exact nlk k0 hk0
      have nlu2 : nls ((ps ++ [qq]).map pairD) = true := by
        rw [List.map_append, nls_app, nlu]
        simp only [List.map_cons, List.map_nil, nls, nlp, Bool.and_self]
      obtain ⟨h0, sl0, args0, nk, f1, ef, ed0, m0, s0', e0, p0, q0⟩ := a2.open
      have pk3 : Paired (fun (n : Nat) (q : List Int × PyData) => Ok8 d f0 n q) nk ((kids8 qq.2).map fun k => (qq.1 ++ k.1, k.2)) := by
        have key : ∀ p ∈ kids8 qq.2, atD d (qq.1 ++ p.1) = some p.2 := fun p hp => by
          rw [atD_app _ _ _ _ a1]
          exact kids_at a2 p hp
        revert p0 key
        generalize kids8 qq.2 = ks
        intro p0 key
        clear q0 nlo g2 lk ly9 nlk dys9 e0
        induction p0 with
        | nil => exact .nil
        | cons a t ih => exact .cons ⟨key _ List.mem_cons_self, a.mono (by omega)⟩ (ih fun p hp => key p (List.mem_cons_of_mem _ hp))
      refine ⟨LF, D, xs2, vs, rfl, rfl, hxE, g1, few2 (by omega), ns2.sum + nk.sum, by omega, us ++ [.ref T1], xs2 ++ vs, ps ++ [qq], qs2 ++ (kids8 qq.2).map fun k => (qq.1 ++ k.1, k.2), ns2 ++ nk, _, _, rfl, ?_, upd_same, ?_, ?_, paired_app pk2 pk3, ?_, by simp, ?_, ?_⟩
      · rw [upd_ne nFL]
        exact huE
      · exact DpAll.off (Dp.ups s8E _ _ du8) ntE nlu2 pE
      · rw [List.map_append]
        exact DpAll.app (DpAll.off (Dp.ups s8E _ _ da8) ntE nlq pE) (DpAll.off g2 ntE nlo pE)
      · intro p hp
        rcases List.mem_append.mp hp with z | z
        · exact pp p z
        · rw [List.mem_singleton.mp z]
          exact ⟨nq, a1, a2⟩
      · rw [List.length_append, List.length_singleton]
        omega
      · intro b u z
        have z8 := s8E _ _ (sm8 b u z)
        exact pE.get z8 (by simpa using ne_of_none z hLF0)
end
abbrev sRight : Stmt := topS 21
theorem scRight : FnScope ["_law_tree_here", "_law_inside", "_law_path", "_law_inner"] ["_law_tree_here"] (defScope sRight) := ⟨rfl, rfl, rfl, by decide +kernel, rfl, by decide +kernel, by decide +kernel⟩
theorem nods_ints : ∀ is : List Int, nods (is.map PyData.int) = is.length
  | [] => by simp only [List.map_nil, nods, List.length_nil]
  | _ :: is => by
    simp only [List.map_cons, nods, nod, nods_ints is, List.length_cons]
    omega
theorem inSlot_path (k c : Nat) (d : PyData) : ∀ p ∈ inSlot k c d, p.1.length ≤ 2 := by
  intro p hp
  unfold inSlot at hp
  split at hp
  · cases d with
    | tuple es =>
      obtain ⟨q, hq, rfl⟩ := List.mem_map.mp hp
      simp
    | _ => simp at hp
  · split at hp
    · rw [List.mem_singleton.mp hp]
      simp
    · cases hp
theorem inArgs_path : ∀ (k : Nat) (cs : List Nat) (ds : List PyData), ∀ p ∈ inArgs k cs ds, p.1.length ≤ 2
  | k, c :: cs, d :: ds, p, hp => by
    rcases List.mem_append.mp (show p ∈ inSlot k c d ++ inArgs (k + 1) cs ds from hp) with h | h
    · exact inSlot_path k c d p h
    · exact inArgs_path (k + 1) cs ds p h
  | _, [], _, p, hp => by simp [inArgs] at hp
  | _, _ :: _, [], p, hp => by simp [inArgs] at hp
theorem nods_pairs : ∀ {ks : List (List Int × PyData)}, (∀ p ∈ ks, p.1.length ≤ 2) → nods (ks.map pairD) ≤ 4 * ks.length + (ks.map fun p => nod p.2).sum
  | [], _ => by simp [nods]
  | k :: ks, h => by
    have h1 := h k List.mem_cons_self
    have h2 := nods_pairs fun p hp => h p (List.mem_cons_of_mem _ hp)
    simp only [List.map_cons, nods, pairD, nod, nods_ints, List.length_cons, List.sum_cons]
    omega
theorem chD_prn {f n : Nat} {d : PyData} (w : Wf f n d) (hg : gd d = true) (hn : nod d ≤ 900) (hd : d.depth ≤ 50) : Prn (chD d) := by
  obtain ⟨g1, g2⟩ := pairs_good hg hn (kids_at w)
  have key : nods ((kids8 d).map pairD) ≤ 4500 := by
    obtain ⟨h0, sl0, args0, ns0, f0', _, ed0, m0, s0', e0, p0, q0⟩ := w.open
    rw [e0]
    have z1 := nods_pairs (inArgs_path 1 sl0.cps.toList args0)
    have z2 := inArgs_sum 1 sl0.cps.toList args0
    have z3 := inArgs_len 1 sl0.cps.toList args0
    rw [ed0] at hn
    simp only [nod, nods] at hn
    omega
  refine prn_of ?_ ?_ ?_
  · simp only [chD, gd, g1]
  · simp only [chD, nod]
    omega
  · simp only [chD, PyData.depth]
    omega
theorem int_prn {n : Nat} (h : n ≤ 5000) : Prn (.int n) := prn_of (gd_int (Nat.lt_of_lt_of_le (by omega : (n : Int).natAbs < 2 ^ 20) (Nat.pow_le_pow_right (by decide) (by decide)))) (by simp only [nod]; omega) (by simp only [PyData.depth]; omega)
def spRight (K : PySem.W.Frag) : Sp := fun vs H Q _ => ∃ v d f n, vs = [v] ∧ Tre K H v d f n ∧ gd d = true ∧ d.depth ≤ 50 ∧ ∀ H', Same H H' → Q (.bl true) H'
section
variable {P : Program} {w : World} {K : PySem.W.Frag} {mg : Str → Option Value} {base : Heap} {f fA fN fS fC fL : Addr} {fd dA dN dS dC dL : FuncData}
theorem ok_right {k : Nat} (F : Fun K "_law_right" "_law_right" sRight f fd) (mrp : mg "repr" = none) (mn : mg "len" = none) (GA : Dn P w K mg base 3 "_law_all" ["_law_tree_here"] (spLAll K) fA dA) (GN : Dn P w K mg base 5 "count" ["tree"] (spCount K) fN dN)
    (GS : Dn P w K mg base 1 "subtree" ["tree", "path"] (spSub K) fS dS) (GC : Dn P w K mg base 4 "children" ["tree"] (spChildren K) fC dC) (GL : Dn P w K mg base 2 "_law_children" ["_law_tree_here"] (spChildren K) fL dL) :
    FnG P w K mg base CX0 (k + 6) f fd ["_law_tree_here"] (spRight K) := by
  refine okG F scRight (fun vs H Q E h => ?_) (fun cdv A outer s H vs Q E hgd hr h => ?_)
  · obtain ⟨v, d, f0, n, rfl, _⟩ := h
    rfl
  obtain ⟨v, d, f0, n, rfl, t, hg, hdep, q⟩ := h
  have hr1 : Room 1 _ := hr.mono (by omega)
  have hr2 : Room 2 _ := hr.mono (by omega)
  have hr3 : Room 3 _ := hr.mono (by omega)
  have hr4 : Room 4 _ := hr.mono (by omega)
  have hr5 : Room 5 _ := hr.mono (by omega)
  refine ⟨_, pss_cons (ps_set (i := 1) scRight.nd rfl (.inl rfl) (pe_call GA.ok hr3 (by rfl) GA.mg GA.kp GA.bd .nil pass0 (pa_cons (pv 0) pa_nil)))
    (pss_cons (ps_if (pt_cmpR op_ne (pe_callB (call_rep hgd hr.units) (by rfl) mrp b_rep (pa_cons (pe_call GN.ok hr5 (by rfl) GN.mg GN.kp GN.bd .nil pass0 (pa_cons (pv 0) pa_nil)) pa_nil))
        (pe_callB (call_rep hgd hr.units) (by rfl) mrp b_rep (pa_cons (pe_callB call_len_seq (by rfl) mn PySem.boot_len (pa_cons (pv 1) pa_nil)) pa_nil)) (nomark _)) (pss_one (ps_ret pe_bl)) pss_nil)
    (pss_cons (ps_for PassesOwn.never rfl (pi_list (pv 1)) (pg_tup (by rfl) (pgs_cons (pg_name (i := 2) scRight.nd rfl (.inl rfl)) (pgs_cons (pg_name (i := 3) scRight.nd rfl (.inl rfl)) pgs_nil)))
      (pss_one (ps_if (PW.pt (pw_or (pt_cmpR op_ne (pe_callB (call_rep hgd hr.units) (by rfl) mrp b_rep (pa_cons (pe_call GS.ok hr1 (by rfl) GS.mg GS.kp GS.bd .nil pass0 (pa_cons (pv 0) (pa_cons (pv 2) pa_nil))) pa_nil))
            (pe_callB (call_rep hgd hr.units) (by rfl) mrp b_rep (pa_cons (pv 3) pa_nil)) (nomark _))
          (pw_or1 (pt_cmpR op_ne (pe_callB (call_rep hgd hr.units) (by rfl) mrp b_rep (pa_cons (pe_call GC.ok hr4 (by rfl) GC.mg GC.kp GC.bd .nil pass0 (pa_cons (pv 3) pa_nil)) pa_nil))
            (pe_callB (call_rep hgd hr.units) (by rfl) mrp b_rep (pa_cons (pe_call GL.ok hr2 (by rfl) GL.mg GL.kp GL.bd .nil pass0 (pa_cons (pv 3) pa_nil)) pa_nil)) (nomark _)))))
        (pss_one (ps_ret pe_bl)) pss_nil)))
    (pss_one (ps_ret pe_bl)))), ?_⟩
  have nle := t.wf.le
  have nnd := t.nd
  refine ⟨_, rfl, v, d, f0, n, rfl, t, hg, hdep, fun L us ps H1 s1 hL h1 dus lps oks => ?_⟩
  have lus := DpAll.len dus
  rw [List.length_map] at lus
  refine ⟨_, rfl, v, d, f0, n, rfl, t.up s1, by omega, fun H2 s2 => ⟨.int n, .int n, rfl, .int _, int_prn (by omega), _, rfl, L, us, rfl, .inl (SqL.of (s2 _ _ h1)), .int us.length, .int us.length, rfl, .int _, int_prn (by omega), rfl, _, rfl, ?_⟩⟩
  have en : us.length = n := by omega
  rw [en, decide_eq_true rfl]
  refine iteF ?_
  have h2 := s2 _ _ h1
  have du2 := Dp.ups s2 _ _ dus
  have t2 := t.up (s1.trans s2)
  refine ⟨_, rfl, L, rfl, ⟨_, SqL.of h2⟩, for_list (K := K) (a := L) (xs := us) (fun i σ H5 => ∃ o2 o3, σ = [some v, some (.ref L), o2, o3] ∧ Same H2 H5) ⟨none, none, rfl, Same.refl _⟩ (fun i σ H5 _ ⟨_, _, _, h⟩ => SqL.of (h _ _ h2)) ?_ ?_⟩
  · rintro i y σ H5 hi ⟨o2, o3, rfl, s5⟩
    obtain ⟨dp, hdp, dy⟩ := DpAll.get du2 hi
    rw [List.getElem?_map] at hdp
    obtain ⟨p, hp, rfl⟩ := Option.map_eq_some_iff.mp hdp
    obtain ⟨m, a1, a2⟩ := oks p (List.mem_of_getElem? hp)
    obtain ⟨b1, b2, b3, b4, b5, b6⟩ := atD_sub _ _ _ a1
    obtain ⟨ty, ys, dys, rfl, ey, hy, dyy⟩ := tup_of (Dp.up s5 _ _ dy) rfl
    cases ey
    cases dyy with
    | @cons x1 _ _ _ dy1 dyy =>
    cases dyy with
    | @cons x2 _ _ _ dy2 dyy =>
    cases dyy
    obtain ⟨pa, zs, dzs, rfl, ez, hpa, dpa⟩ := tup_of dy1 rfl
    cases ez
    have ezs := ints_back dpa
    subst ezs
    have prn2 : Prn p.2 := prn_of (b4 hg) (by omega) (by omega)
    have tr2 : Tre K H5 x2 p.2 f0 m := ⟨dy2, a2, by omega, b3 t.fl⟩
    refine ⟨ty, _, rfl, hy, rfl, _, _, rfl, _, _, rfl, rfl, ?_⟩
    refine ⟨_, rfl, _, rfl, v, d, pa, p.1, p.2, rfl, (t2.up s5).dp, hpa, by omega, fun i hi => by have := b6 i hi; omega, a1, fun v' dv' => ⟨v', p.2, rfl, dv', prn2, _, rfl, x2, p.2, rfl, dy2, prn2, rfl, _, rfl, ?_⟩⟩
    rw [decide_eq_true rfl]
    refine iteF ?_
    refine ⟨_, rfl, x2, p.2, f0, m, rfl, tr2, fun v1 H6 s6 dv1 => ⟨v1, chD p.2, rfl, dv1, chD_prn a2 (b4 hg) (by omega) (by omega), _, rfl, x2, p.2, f0, m, rfl, tr2.up s6, fun v2 H7 s7 dv2 => ⟨v2, chD p.2, rfl, dv2, chD_prn a2 (b4 hg) (by omega) (by omega), rfl, _, rfl, ?_⟩⟩⟩
    rw [decide_eq_true rfl]
    exact ⟨_, _, rfl, s5.trans (s6.trans s7)⟩
  · rintro σ H5 ⟨o2, o3, rfl, s5⟩
    exact q H5 (s1.trans (s2.trans s5))
end
abbrev sLaw : Stmt := topS 22
theorem scLaw : FnScope ["_law_script", "_law_box_here", "_law_turn", "_law_trees", "_law_tests", "_law_k", "_law_tree_here"] ["_law_script"] (defScope sLaw) := ⟨rfl, rfl, rfl, by decide +kernel, rfl, by decide +kernel, by decide +kernel⟩
def spLaw (K : PySem.W.Frag) : Sp := fun vs H Q _ => ∃ (a : Addr) (ns : List Int), vs = [.ref a] ∧ SqL K H a (ns.map V.int) ∧ ns.length ≤ 63 ∧ ∀ H', Q (.bl true) H'
theorem ix_listK {X : Cx} {K : PySem.W.Frag} (h : X.K = K) : IxR X (rIxL K) := by
  subst h
  exact ix_list
/-- a tree that a law looks at -/
structure Good (d : PyData) : Prop where
  wf : ∃ f n, Wf f n d
  gd : gd d = true
  nl : nl d = true
  nd : nod d ≤ 900
  dp : d.depth ≤ 50
theorem goods_nl : ∀ {ds : List PyData}, (∀ d ∈ ds, Good d) → nls ds = true
  | [], _ => by simp only [nls]
  | d :: ds, h => by simp only [nls, (h d List.mem_cons_self).nl, goods_nl fun x hx => h x (List.mem_cons_of_mem _ hx), Bool.and_self]
def leafD (i : Int) : PyData := .tuple [.str "int", .int i]
def callD (is : List Int) : PyData := .tuple [.str "call", .str "d", .tuple (is.map leafD)]
theorem leaf_all : ∀ {is : List Int}, (∀ i ∈ is, 0 ≤ i ∧ i < 1000) → gds (is.map leafD) = true ∧ nls (is.map leafD) = true ∧ nods (is.map leafD) = 3 * is.length ∧ PyData.depthAll (is.map leafD) ≤ 1 ∧ Paired (fun (m : Nat) (d : PyData) => Wf 8 m d) (List.replicate is.length 1) (is.map leafD)
  | [], _ => ⟨by simp only [List.map_nil, gds], by simp only [List.map_nil, nls], by simp only [List.map_nil, nods, List.length_nil], by simp only [List.map_nil, PyData.depthAll]; omega, .nil⟩
  | i :: is, h => by
    obtain ⟨g1, g2, g3, g4, g5⟩ := leaf_all fun j hj => h j (List.mem_cons_of_mem _ hj)
    have h1 := h i List.mem_cons_self
    have gi : gd (.int i) = true := gd_int (Nat.lt_of_lt_of_le (by omega : i.natAbs < 2 ^ 10) (Nat.pow_le_pow_right (by decide) (by decide)))
    have gs : gd (.str "int") = true := by decide +kernel
    have m : (("int", "k") : Str × Str) ∈ allL := by decide +kernel
    have ek : ("k" : Str).cps.toList = [107] := by decide +kernel
    refine ⟨?_, ?_, ?_, ?_, ?_⟩
    · simp only [gd, gds] at gs ⊢
      simp only [List.map_cons, gds, leafD, gd, gds, gs, g1] at gi ⊢
      rw [gi]
      rfl
    · simp only [List.map_cons, nls, leafD, nl, g2, Bool.and_self]
    · simp only [List.map_cons, nods, leafD, nod, g3, List.length_cons]
      omega
    · simp only [List.map_cons, PyData.depthAll, leafD, PyData.depth]
      omega
    · rw [List.length_cons, List.replicate_succ]
      refine .cons ?_ g5
      refine (show Wf 1 1 (leafD i) from ?_).mono (by decide)
      refine ⟨"int", "k", [.int i], [], rfl, m, ?_, ?_, rfl⟩
      · rw [ek]
        exact ⟨fun z => absurd z (by decide), trivial⟩
      · rw [ek]
        have e : inArgs 1 [107] [PyData.int i] = [] := by simp [inArgs, inSlot]
        rw [e]
        exact .nil
theorem call_good {is : List Int} (h : ∀ i ∈ is, 0 ≤ i ∧ i < 1000) (hl : is.length ≤ 20) : Good (callD is) := by
  obtain ⟨g1, g2, g3, g4, g5⟩ := leaf_all h
  have m : (("call", "ns") : Str × Str) ∈ allL := by decide +kernel
  have ek : ("ns" : Str).cps.toList = [110, 115] := by decide +kernel
  have s1 : gd (.str "call") = true := by decide +kernel
  have s2 : gd (.str "d") = true := by decide +kernel
  refine ⟨⟨9, 1 + (List.replicate is.length 1).sum, "call", "ns", [.str "d", .tuple (is.map leafD)], _, rfl, m, ?_, ?_, rfl⟩, ?_, ?_, ?_, ?_⟩
  · rw [ek]
    exact ⟨fun z => absurd z (by decide), fun _ => ⟨_, rfl⟩, trivial⟩
  · rw [ek]
    have e : inArgs 1 [110, 115] [PyData.str "d", .tuple (is.map leafD)] = (is.map leafD).zipIdx.map fun p => ([((2 : Nat) : Int), (p.2 : Int)], p.1) := by
      simp [inArgs, inSlot]
    rw [e]
    exact paired_zip 0 g5
  · unfold callD
    simp only [gd, gds] at s1 s2 ⊢
    rw [s1, s2, g1]
    rfl
  · simp only [callD, nl, nls, g2, Bool.and_self]
  · simp only [callD, nod, nods, g3]
    omega
  · simp only [callD, PyData.depth, PyData.depthAll]
    omega
section
variable {P : Program} {w : World} {K : PySem.W.Frag} {mg : Str → Option Value} {base : Heap} {f fB fT fG fR : Addr} {fd dB dT dG dR : FuncData}
theorem ok_law (F : Fun K "law" "law" sLaw f fd) (mr : mg "range" = none) (mt : mg "tuple" = none) (ma : mg "all" = none) (GB : Dn P w K mg base 1 "_law_box" ["_law_script", "_law_base"] (spBox K) fB dB) (T : Tk P w K mg base fT dT)
    (GT : Dn P w K mg base 13 "_law_tree" ["_law_box_here", "_law_sort", "_law_deep", "_law_room"] (spTree K 9) fG dG)
    (GR : FnG P w K mg base CX0 13 fR dR ["_law_tree_here"] (spRight K)) (kR : PySem.W.keepIn K (.ref fR) = true) (bR : Binds K dR ["_law_tree_here"] []) (mR : mg "_law_right" = some (.ref fR)) :
    FnG P w K mg base CX0 14 f fd ["_law_script"] (spLaw K) := by
  refine okG F scLaw (fun vs H Q E h => ?_) (fun cdv A outer s H vs Q E hgd hr h => ?_)
  · obtain ⟨a, ns, rfl, _⟩ := h
    rfl
  obtain ⟨a, ns, rfl, hS, hlen, q⟩ := h
  have hr1 : Room 1 _ := hr.mono (by decide)
  refine ⟨_, pss_cons (ps_set (i := 1) scLaw.nd rfl (.inr rfl) (pe_call GB.ok hr1 (by rfl) GB.mg GB.kp GB.bd .nil pass0 (pa_cons (pv 0) (pa_cons pe_int pa_nil))))
    (pss_cons (ps_for PassesOwn.never rfl (pi_range1 (by rfl) mr (pa_cons pe_int pa_nil)) (pg_name (i := 2) scLaw.nd rfl (.inl rfl))
      (pss_cons (ps_setLc (i := 3) (own := [("_law_k", 5)]) (g := gName 5) (by rfl) scLaw.nd rfl rfl (sw_true rfl rfl rfl (by decide +kernel)) (pi_range1 (by rfl) mr (pa_cons pe_int pa_nil))
        (blkOk_by (own := [("_law_k", 5)]) (N := ["_law_script", "_law_box_here", "_law_turn", "_law_trees", "_law_tests", "_law_k", "_law_tree_here"]) (sc := defScope sLaw) (by decide +kernel))
        (fun _ _ _ _ _ => pg_name (i := 5) scLaw.nd rfl (Or.inl rfl)) (fun _ _ _ _ _ => pts_nil)
        (fun _ _ _ _ _ => pe_call GT.ok hr (by rfl) GT.mg GT.kp GT.bd .nil pass0 (pa_cons (pv 1) (pa_cons pe_str (pa_cons (pe_ix (ix_listK (K := K) rfl) (pe_lst (pa_cons pe_int (pa_cons pe_int (pa_cons pe_int pa_nil)))) (pv 5) (fun _ _ => rfl)) (pa_cons (pe_lst (pa_cons pe_int pa_nil)) pa_nil))))))
      (pss_cons (ps_expr (pe_bm PySem.F.plainAttrs_list PySem.F.slot_list_append PySem.F.type_list_append mt_append (pv 3) (pa_cons (pe_tup (pa_cons pe_str (pa_cons pe_str (pa_cons (pe_callTy call_tuple_of (by rfl) mt b_tup (pa_cons
        (pe_lc (own := [("_law_k", 5)]) (g := gName 5) (by rfl) scLaw.nd (pi_range1 (by rfl) mr (pa_cons (pe_op op_add pe_int (pe_call T.ok hr1 (by rfl) T.mg T.kp T.bd .nil pass0 (pa_cons (pv 1) (pa_cons pe_int pa_nil)))) pa_nil))
          (blkOk_by (own := [("_law_k", 5)]) (N := ["_law_script", "_law_box_here", "_law_turn", "_law_trees", "_law_tests", "_law_k", "_law_tree_here"]) (sc := defScope sLaw) (by decide +kernel))
          (fun _ _ _ _ _ => pg_name (i := 5) scLaw.nd rfl (Or.inl rfl)) (fun _ _ _ _ _ => pts_nil)
          (fun _ _ _ _ _ => pe_tup (pa_cons pe_str (pa_cons (pv 5) pa_nil)))) pa_nil)) pa_nil)))) pa_nil)))
      (pss_cons (ps_set (i := 4) scLaw.nd rfl (.inl rfl) (pe_lst (pa_cons (pe_call GT.ok hr (by rfl) GT.mg GT.kp GT.bd .nil pass0 (pa_cons (pv 1) (pa_cons pe_str (pa_cons pe_int (pa_cons (pe_lst (pa_cons pe_int pa_nil)) pa_nil))))) pa_nil)))
      (pss_one (ps_if (pt_not (pt_val (pe_callB (cr_all rfl) (by rfl) ma b_all (pa_cons (pe_lc (own := [("_law_tree_here", 6)]) (g := gName 6) (by rfl) scLaw.nd
          (pi_list (pe_op op_cat (pe_op op_cat (pv 3) (pv 4)) (pe_slice sl_list (pv 3) po_none (po_some pe_int))))
          (blkOk_by (own := [("_law_tree_here", 6)]) (N := ["_law_script", "_law_box_here", "_law_turn", "_law_trees", "_law_tests", "_law_k", "_law_tree_here"]) (sc := defScope sLaw) (by decide +kernel))
          (fun _ _ _ _ _ => pg_name (i := 6) scLaw.nd rfl (Or.inl rfl)) (fun _ _ _ _ _ => pts_nil)
          (fun _ _ _ _ _ => pe_callG GR hgd hr (by rfl) mR kR bR .nil pass0 (pa_cons (pv 6) pa_nil))) pa_nil)))) (pss_one (ps_ret pe_bl)) pss_nil))))))
    (pss_one (ps_ret pe_bl))), ?_⟩
  refine ⟨_, rfl, a, ns, 0, rfl, hS, hlen, Int.le_refl _, by decide, fun p g H1 b1 s1 np ng => ?_⟩
  refine ⟨3, rfl, by decide, by decide, for_range (n := 3) (fun i σ H2 => ∃ o2 o3 o4, σ = [some (.ref a), some (.ref p), o2, o3, o4, none, none] ∧ Box H2 p g) ⟨none, none, none, rfl, b1⟩ ?_ ?_⟩
  · rintro i σ H2 hi ⟨o2, o3, o4, rfl, b2⟩
    refine ⟨3, rfl, by decide, by decide, fun D hD => ?_⟩
    have nD := b2.notin hD
    refine lc_range (lo := 0) (n := 3) (fun j H3 => ∃ (vs : List V) (ds : List PyData), vs.length = j ∧ H3 D = some (.lst vs) ∧ DpAll K H3 vs ds ∧ (∀ d ∈ ds, Good d) ∧ Box H3 p g)
      ⟨[], [], rfl, upd_same, .nil, (fun _ z => nomatch z), b2.put nD⟩ ?_ ?_
    · rintro j H3 hj ⟨vs, ds, lv, h1, h2, h3, b3⟩
      obtain ⟨x, hx, mx, _⟩ := atI_ok (xs := [V.int 3, V.int 8, V.int 5]) (r := 0 + (j : Nat)) (by omega) (by simp only [List.length_cons, List.length_nil]; omega)
      obtain ⟨e, rfl, e0, e8⟩ : ∃ e : Int, x = .int e ∧ 0 ≤ e ∧ e ≤ 8 := by
        simp only [List.mem_cons, List.not_mem_nil, or_false] at mx
        rcases mx with z | z | z
        · exact ⟨_, z, by decide, by decide⟩
        · exact ⟨_, z, by decide, by decide⟩
        · exact ⟨_, z, by decide, by decide⟩
      refine ⟨rfl, _, rfl, few (by simp), fun L1 hL1 => ⟨_, rfl, L1, _, _, .int e, rfl, rfl, SqL.of upd_same, hx, few (by simp), fun wd hwd => ?_⟩⟩
      have r1 : Same H3 (upd H3 L1 (.lst [.int 3, .int 8, .int 5])) := same_new hL1 _
      have r2 := r1.trans (same_new (o := .lst [.int 9]) hwd)
      have w2 : (upd (upd H3 L1 (.lst [.int 3, .int 8, .int 5])) wd (.lst [.int 9])) wd = some (.lst [.int 9]) := upd_same
      have nwd := (b3.same r1).notin hwd
      have nDw : D ≠ wd := ne_of_none (r1 _ _ h1) hwd
      generalize upd (upd H3 L1 (.lst [.int 3, .int 8, .int 5])) wd (.lst [.int 9]) = H5 at r2 w2
      have b5 := b3.same r2
      refine ⟨p, g, wd, e, 9, "e", rfl, b5, w2, nwd, .inl ⟨rfl, e0⟩, by omega, fun v d H6 w1 c k1 k2 k3 k4 k5 k6 k7 k8 k9 k10 => ?_⟩
      have nD3 : D ∉ [p, g, wd] := by
        simp only [List.mem_cons, List.not_mem_nil, or_false, not_or] at nD ⊢
        exact ⟨nD.1, nD.2, nDw⟩
      have h6 := k3.get (r2 _ _ h1) nD3
      have nt5 : NT [p, g, wd] H5 := by
        have z := b5.nt
        exact .cons (z p (by simp)) (.cons (z g (by simp)) (.cons (nt_lst w2) .nil))
      have nt6 : NT [D] H6 := .cons (nt_lst h6) .nil
      have p6 : Off [D] H6 (upd H6 D (.lst (vs ++ [v]))) := Off.put (by simp)
      have l3 : limS "e" = 3 := by decide +kernel
      have ph9 : phi 9 = 9 := by decide
      have gd6 : Good d := ⟨⟨9, c, k5⟩, k6, k7, by omega, by omega⟩
      have ng := goods_nl h3
      refine ⟨vs, h6, few (by omega), vs ++ [v], ds ++ [d], by rw [List.length_append, lv]; rfl, upd_same, DpAll.app (DpAll.off (DpAll.off (Dp.ups r2 _ _ h2) nt5 ng k3) nt6 ng p6) (.cons (Dp.off k4 nt6 k7 p6) .nil), fun x hx => ?_, k1.put nD⟩
      rcases List.mem_append.mp hx with z | z
      · exact h3 x z
      · rw [List.mem_singleton.mp z]
        exact gd6
    · rintro H3 ⟨vs, ds, lv, h1, h2, h3, b3⟩
      -- the call
      refine ⟨_, rfl, .inl ⟨rfl, _, SqL.of h1⟩, _, rfl, p, g, 5, rfl, b3, by decide, by decide, fun r H4 r0 r5 b4 o4 => ⟨9, r, rfl, rfl, 9 + r, rfl, by omega, by omega, fun D2 hD2 => ?_⟩⟩
      have h4 := o4.get h1 nD
      have ng := goods_nl h3
      have dd4 := DpAll.off h2 b3.nt ng o4
      refine lc_range (lo := 0) (n := (9 + r).toNat) (fun j HE => ∃ vs2, HE D2 = some (.lst vs2) ∧ DpAll K HE vs2 (((List.range j).map fun k : Nat => (k : Int)).map leafD) ∧ Same H4 (cut [D2] HE)) ⟨[], upd_same, .nil, ?_⟩ ?_ ?_
      · intro b u z
        rw [cut_out (by simp only [List.mem_singleton]; exact ne_of_none z hD2), upd_ne (ne_of_none z hD2)]
        exact z
      · rintro j HE hj ⟨vs2, g1, g2, g3⟩
        refine ⟨rfl, _, rfl, few (by simp), fun T1 hT1 => ?_⟩
        have q1 : Same HE (upd HE T1 (.tup [.str "int", .int (0 + (j : Nat))])) := same_new hT1 _
        have g1' := q1 _ _ g1
        have dz : Dp K (upd HE T1 (.tup [.str "int", .int (0 + (j : Nat))])) (.ref T1) (leafD (j : Nat)) := by
          have a1 : ((j : Nat) : Int) = 0 + (j : Nat) := by omega
          refine .tup (.inl (.inl upd_same)) (.cons (.str _) (.cons ?_ .nil))
          rw [← a1]
          exact .int _
        generalize upd HE T1 (.tup [.str "int", .int (0 + (j : Nat))]) = HG at q1 g1' dz
        have ntG : NT [D2] HG := .cons (nt_lst g1') .nil
        have pG : Off [D2] HG (upd HG D2 (.lst (vs2 ++ [.ref T1]))) := Off.put (by simp)
        have lv2 : vs2.length = j := by
          have z := DpAll.len g2
          simpa using z
        have nlj : nls (((List.range j).map fun k : Nat => (k : Int)).map leafD) = true := by
          refine (leaf_all fun x hx => ?_).2.1
          obtain ⟨k, hk, rfl⟩ := List.mem_map.mp hx
          have := List.mem_range.mp hk
          omega
        refine ⟨vs2, g1', few (by omega), vs2 ++ [.ref T1], upd_same, ?_, g3.trans ((Off.of q1).trans pG)⟩
        rw [List.range_succ, List.map_append, List.map_append]
        exact DpAll.app (DpAll.off (Dp.ups q1 _ _ g2) ntG nlj pG) (.cons (Dp.off dz ntG (by simp only [leafD, nl, nls, Bool.and_self]) pG) .nil)
      · rintro HE ⟨vs2, g1, g2, g3⟩
        have gS : Same H4 HE := Same.trans g3 (cut_same _ _)
        have isG : ∀ i ∈ (List.range (9 + r).toNat).map fun k : Nat => (k : Int), 0 ≤ i ∧ i < 1000 := fun x hx => by
          obtain ⟨k, hk, rfl⟩ := List.mem_map.mp hx
          have := List.mem_range.mp hk
          omega
        have cg := call_good isG (by simp; omega)
        refine ⟨D2, vs2, rfl, .inl ⟨SqL.of g1, fun t ht => ⟨few (by simp), fun t2 ht2 => ?_⟩⟩⟩
        have q1 : Same HE (upd HE t (.tup vs2)) := same_new ht _
        have q2 := q1.trans (same_new (o := .tup [.str "call", .str "d", .ref t]) ht2)
        have n12 : t ≠ t2 := ne_of_none upd_same ht2
        have dz : Dp K (upd (upd HE t (.tup vs2)) t2 (.tup [.str "call", .str "d", .ref t])) (.ref t2) (callD ((List.range (9 + r).toNat).map fun k : Nat => (k : Int))) :=
          .tup (.inl (.inl upd_same)) (.cons (.str _) (.cons (.str _) (.cons (.tup (.inl (.inl (by rw [upd_ne n12]; exact upd_same))) (Dp.ups q2 _ _ g2)) .nil)))
        have hDF := (gS.trans q2) _ _ h4
        have bF := b4.same (gS.trans q2)
        have ddF := Dp.ups (gS.trans q2) _ _ dd4
        generalize upd (upd HE t (.tup vs2)) t2 (.tup [.str "call", .str "d", .ref t]) = HF at q2 dz hDF bF ddF
        have ntF : NT [D] HF := .cons (nt_lst hDF) .nil
        have pF : Off [D] HF (upd HF D (.lst (vs ++ [.ref t2]))) := Off.put (by simp)
        refine ⟨D, vs, .ref t2, rfl, rfl, hDF, small1000 (by omega), ?_⟩
        have bG := bF.put (o := .lst (vs ++ [.ref t2])) nD
        have hDG : (upd HF D (.lst (vs ++ [.ref t2]))) D = some (.lst (vs ++ [.ref t2])) := upd_same
        have ddG : DpAll K (upd HF D (.lst (vs ++ [.ref t2]))) (vs ++ [.ref t2]) (ds ++ [callD ((List.range (9 + r).toNat).map fun k : Nat => (k : Int))]) := DpAll.app (DpAll.off ddF ntF ng pF) (.cons (Dp.off dz ntF cg.nl pF) .nil)
        have goodG : ∀ d ∈ ds ++ [callD ((List.range (9 + r).toNat).map fun k : Nat => (k : Int))], Good d := fun x hx => by
          rcases List.mem_append.mp hx with z | z
          · exact h3 x z
          · rw [List.mem_singleton.mp z]
            exact cg
        generalize upd HF D (.lst (vs ++ [.ref t2])) = HG at bG hDG ddG
        generalize ds ++ [callD ((List.range (9 + r).toNat).map fun k : Nat => (k : Int))] = dsG at ddG goodG
        have lG : (vs ++ [V.ref t2]).length = 4 := by rw [List.length_append, lv]; rfl
        generalize vs ++ [V.ref t2] = vsG at hDG ddG lG
        -- the test
        refine ⟨_, rfl, few (by simp), fun wd hwd => ?_⟩
        have r1 : Same HG (upd HG wd (.lst [.int 9])) := same_new hwd _
        have w2 : (upd HG wd (.lst [.int 9])) wd = some (.lst [.int 9]) := upd_same
        have nwd := bG.notin hwd
        have nDw : D ≠ wd := ne_of_none hDG hwd
        generalize upd HG wd (.lst [.int 9]) = HH at r1 w2
        have bH := bG.same r1
        refine ⟨p, g, wd, 4, 9, "t", rfl, bH, w2, nwd, .inr ⟨rfl, by decide⟩, by decide, fun v d H6 w1 c k1 k2 k3 k4 k5 k6 k7 k8 k9 k10 => ⟨few (by simp), fun L2 hL2 => ?_⟩⟩
        have nD3 : D ∉ [p, g, wd] := by
          simp only [List.mem_cons, List.not_mem_nil, or_false, not_or] at nD ⊢
          exact ⟨nD.1, nD.2, nDw⟩
        have ntH : NT [p, g, wd] HH := by
          have z := bH.nt
          exact .cons (z p (by simp)) (.cons (z g (by simp)) (.cons (nt_lst w2) .nil))
        have l6 : limS "t" = 6 := by decide +kernel
        have ph9 : phi 9 = 9 := by decide
        have gd6 : Good d := ⟨⟨9, c, k5⟩, k6, k7, by omega, by omega⟩
        have hD6 := k3.get (r1 _ _ hDG) nD3
        have dd6 := DpAll.off (Dp.ups r1 _ _ ddG) ntH (goods_nl goodG) k3
        have r7 : Same H6 (upd H6 L2 (.lst [v])) := same_new hL2 _
        have hL7 : (upd H6 L2 (.lst [v])) L2 = some (.lst [v]) := upd_same
        have hD7 := r7 _ _ hD6
        have dd7 := Dp.ups r7 _ _ dd6
        have dv7 := Dp.up r7 _ _ k4
        have b7 := k1.same r7
        generalize upd H6 L2 (.lst [v]) = H7 at r7 hL7 hD7 dd7 dv7 b7
        refine ⟨_, rfl, _, rfl, D, L2, _, _, rfl, rfl, hD7, hL7, few (by rw [lG]; simp), fun D3 hD3 => ⟨_, rfl, 1, rfl, D, vsG, rfl, SqL.of ((same_new hD3 _) _ _ hD7), fun D4 hD4 => ?_⟩⟩
        have r8 : Same H7 (upd H7 D3 (.lst (vsG ++ [v]))) := same_new hD3 _
        have e8 : (upd H7 D3 (.lst (vsG ++ [v]))) D3 = some (.lst (vsG ++ [v])) := upd_same
        generalize upd H7 D3 (.lst (vsG ++ [v])) = H8 at r8 e8 hD4
        have r9 : Same H8 (upd H8 D4 (.lst (cutV vsG none (some 1)))) := same_new hD4 _
        have e9 : (upd H8 D4 (.lst (cutV vsG none (some 1)))) D4 = some (.lst (cutV vsG none (some 1))) := upd_same
        have lc := cutV_length vsG none (some 1)
        refine ⟨D3, D4, _, _, rfl, rfl, r9 _ _ e8, e9, few (by rw [List.length_append, lG]; simp; omega), fun D5 hD5 => ?_⟩
        obtain ⟨es, de, ee⟩ := cutV_dp dd7 none (some 1)
        have dL : DpAll K H7 (vsG ++ [v] ++ cutV vsG none (some 1)) (dsG ++ [d] ++ es) := DpAll.app (DpAll.app dd7 (.cons dv7 .nil)) de
        have gL : ∀ x ∈ dsG ++ [d] ++ es, Good x := fun x hx => by
          rcases List.mem_append.mp hx with z | z
          · rcases List.mem_append.mp z with z | z
            · exact goodG x z
            · rw [List.mem_singleton.mp z]
              exact gd6
          · exact goodG x (ee x z)
        have lL : (vsG ++ [v] ++ cutV vsG none (some 1)).length ≤ 100 := by
          rw [List.length_append, List.length_append, lG]
          simp only [List.length_cons, List.length_nil]
          omega
        generalize vsG ++ [v] ++ cutV vsG none (some 1) = xs at dL lL hD5
        generalize dsG ++ [d] ++ es = xd at dL gL
        generalize upd H8 D4 (.lst (cutV vsG none (some 1))) = H9 at r9 e9 hD5
        have rA : Same H9 (upd H9 D5 (.lst xs)) := same_new hD5 _
        have eA : (upd H9 D5 (.lst xs)) D5 = some (.lst xs) := upd_same
        have dA := Dp.ups (r8.trans (r9.trans rA)) _ _ dL
        have bA := b7.same (r8.trans (r9.trans rA))
        generalize upd H9 D5 (.lst xs) = HA at rA eA dA bA
        refine ⟨D5, rfl, ⟨_, SqL.of eA⟩, fun D6 hD6 => lc_list (K := K) (a := D5) (xs := xs) (fun j HB => HB D6 = some (.lst ((List.replicate j true).map V.bl)) ∧ Same HA (cut [D6] HB)) ⟨upd_same, ?_⟩ ?_ ?_ ?_⟩
        · intro b u z
          rw [cut_out (by simp only [List.mem_singleton]; exact ne_of_none z hD6), upd_ne (ne_of_none z hD6)]
          exact z
        · rintro j HB hj ⟨g1, g2⟩
          exact SqL.of (cut_same _ _ _ _ (g2 _ _ eA))
        · rintro j y HB hy ⟨g1, g2⟩
          obtain ⟨x, hx, dx⟩ := DpAll.get dA hy
          have gx := gL x (List.mem_of_getElem? hx)
          obtain ⟨fx, nx, wx⟩ := gx.wf
          have hj := (List.getElem?_eq_some_iff.mp hy).1
          refine ⟨rfl, _, rfl, y, x, fx, nx, rfl, ⟨Dp.up (Same.trans g2 (cut_same _ _)) _ _ dx, wx, gx.nd, gx.nl⟩, gx.gd, gx.dp, fun HC sC => ⟨_, sC _ _ g1, ?_, ?_, ?_⟩⟩
          · rw [List.length_map, List.length_replicate]
            exact small1000 (by omega)
          · rw [upd_same, List.replicate_succ', List.map_append]
            rfl
          · exact g2.trans ((Off.of sC).trans (Off.put (by simp)))
        · rintro HB ⟨g1, g2⟩
          refine ⟨D6, _, rfl, SqL.of g1, _, rfl, ?_⟩
          have all1 : ∀ n : Nat, (List.replicate n true).all id = true := fun n => by
            induction n with
            | zero => rfl
            | succ n ih => simp [List.replicate_succ, ih]
          rw [all1]
          exact iteF ⟨_, _, _, rfl, bA.same (Same.trans g2 (cut_same _ _))⟩
  · rintro σ H2 ⟨o2, o3, o4, rfl, b2⟩
    exact q H2
end
theorem all_mk {l : PySem.W.OpenLaw} {w : World} {K : PySem.W.Frag} {h : Heap} {mg : Str → Option Value} {fa f1 f2 f3 f4 f5 f6 f7 f8 f9 f10 f11 f12 f13 f14 f15 f16 f17 f18 : Addr} (X : K.In h) (G : h.Ns mainGlobals mg) (hfa : mg "law" = some (.ref fa))
    {aE aT : Addr} {esE esT : Array DictEntry} {nE nT : Nat} {uE0 uE1 uE2 uE3 uE4 uE5 uE6 uE7 uE8 uE9 uE10 uE11 uE12 uE13 uE14 uE15 uT0 uT1 uT2 uT3 uT4 uT5 uT6 : Addr} {vE0 vE1 vE2 vE3 vE4 vE5 vE6 vE7 vE8 vE9 vE10 vE11 vE12 vE13 vE14 vE15 vT0 vT1 vT2 vT3 vT4 vT5 vT6 : Option Addr} {sE0 sE1 sE2 sE3 sE4 sE5 sE6 sE7 sE8 sE9 sE10 sE11 sE12 sE13 sE14 sE15 sT0 sT1 sT2 sT3 sT4 sT5 sT6 : Array (Option Value)} {nE0 nE1 nE2 nE3 nE4 nE5 nE6 nE7 nE8 nE9 nE10 nE11 nE12 nE13 nE14 nE15 nT0 nT1 nT2 nT3 nT4 nT5 nT6 : Nat} {tE0_0 tE1_0 tE2_0 tE3_0 tE3_1 tE4_0 tE5_0 tE5_1 tE6_0 tE6_1 tE7_0 tE8_0 tE9_0 tE9_1 tE10_0 tE10_1 tE10_2 tE11_0 tE11_1 tE11_2 tE12_0 tE12_1 tE12_2 tE13_0 tE13_1 tE13_2 tE14_0 tE14_1 tE14_2 tE14_3 tE14_4 tE15_0 tT0_0 tT0_1 tT1_0 tT1_1 tT2_0 tT2_1 tT2_2 tT3_0 tT3_1 tT4_0 tT5_0 tT5_1 tT6_0 tT6_1 : Tok}
    {od1 an1 od2 an2 od3 an3 od4 an4 od5 an5 od6 an6 od7 an7 od8 an8 od9 an9 od10 an10 od11 an11 od12 an12 od13 an13 od14 an14 od15 an15 od16 an16 od17 an17 od18 an18 : Option Addr} {sl1 sl2 sl3 sl4 sl5 sl6 sl7 sl8 sl9 sl10 sl11 sl12 sl13 sl14 sl15 sl16 sl17 sl18 : Array (Option Value)} {oc1 kV1 dc1 pm1 cd1 ct1 oc2 kV2 dc2 pm2 cd2 ct2 oc3 kV3 dc3 pm3 cd3 ct3 oc4 kV4 dc4 pm4 cd4 ct4 oc5 kV5 dc5 pm5 cd5 ct5 oc6 kV6 dc6 pm6 cd6 ct6 oc7 kV7 dc7 pm7 cd7 ct7 oc8 kV8 dc8 pm8 cd8 ct8 oc9 kV9 dc9 pm9 cd9 ct9 oc10 kV10 dc10 pm10 cd10 ct10 oc11 kV11 dc11 pm11 cd11 ct11 oc12 kV12 dc12 pm12 cd12 ct12 oc13 kV13 dc13 pm13 cd13 ct13 oc14 kV14 dc14 pm14 cd14 ct14 oc15 kV15 dc15 pm15 cd15 ct15 oc16 kV16 dc16 pm16 cd16 ct16 oc17 kV17 dc17 pm17 cd17 ct17 oc18 kV18 dc18 pm18 cd18 ct18 : Value}
    (aaE : PySem.W.nsIn K mainGlobals "EXPRESSIONS" = some (some (.ref aE)))
    (llE : K.lookup aE = some ⟨.type "dict", none, .dict esE nE, #[]⟩)
    (kkE : PySem.W.KeysLit w.params esE.toList)
    (ooE : (aE == sysModules) = false)
    (aaT : PySem.W.nsIn K mainGlobals "TESTS" = some (some (.ref aT)))
    (llT : K.lookup aT = some ⟨.type "dict", none, .dict esT nT, #[]⟩)
    (kkT : PySem.W.KeysLit w.params esT.toList)
    (ooT : (aT == sysModules) = false)
    (gE0 : PySem.W.nsIn K aE "int" = some (some (.ref uE0)))
    (hE0 : K.lookup uE0 = some ⟨.type "tuple", vE0, .seq #[.str "integer" tE0_0] nE0, sE0⟩)
    (gE1 : PySem.W.nsIn K aE "atom" = some (some (.ref uE1)))
    (hE1 : K.lookup uE1 = some ⟨.type "tuple", vE1, .seq #[.str "name" tE1_0] nE1, sE1⟩)
    (gE2 : PySem.W.nsIn K aE "name" = some (some (.ref uE2)))
    (hE2 : K.lookup uE2 = some ⟨.type "tuple", vE2, .seq #[.str "name" tE2_0] nE2, sE2⟩)
    (gE3 : PySem.W.nsIn K aE "plus" = some (some (.ref uE3)))
    (hE3 : K.lookup uE3 = some ⟨.type "tuple", vE3, .seq #[.str "expression" tE3_0, .str "integer" tE3_1] nE3, sE3⟩)
    (gE4 : PySem.W.nsIn K aE "tuple" = some (some (.ref uE4)))
    (hE4 : K.lookup uE4 = some ⟨.type "tuple", vE4, .seq #[.str "expressions" tE4_0] nE4, sE4⟩)
    (gE5 : PySem.W.nsIn K aE "part" = some (some (.ref uE5)))
    (hE5 : K.lookup uE5 = some ⟨.type "tuple", vE5, .seq #[.str "expression" tE5_0, .str "index" tE5_1] nE5, sE5⟩)
    (gE6 : PySem.W.nsIn K aE "join" = some (some (.ref uE6)))
    (hE6 : K.lookup uE6 = some ⟨.type "tuple", vE6, .seq #[.str "expression" tE6_0, .str "expression" tE6_1] nE6, sE6⟩)
    (gE7 : PySem.W.nsIn K aE "read" = some (some (.ref uE7)))
    (hE7 : K.lookup uE7 = some ⟨.type "tuple", vE7, .seq #[.str "name" tE7_0] nE7, sE7⟩)
    (gE8 : PySem.W.nsIn K aE "reach" = some (some (.ref uE8)))
    (hE8 : K.lookup uE8 = some ⟨.type "tuple", vE8, .seq #[.str "expression" tE8_0] nE8, sE8⟩)
    (gE9 : PySem.W.nsIn K aE "call" = some (some (.ref uE9)))
    (hE9 : K.lookup uE9 = some ⟨.type "tuple", vE9, .seq #[.str "name" tE9_0, .str "expressions" tE9_1] nE9, sE9⟩)
    (gE10 : PySem.W.nsIn K aE "let" = some (some (.ref uE10)))
    (hE10 : K.lookup uE10 = some ⟨.type "tuple", vE10, .seq #[.str "name" tE10_0, .str "expression" tE10_1, .str "expression" tE10_2] nE10, sE10⟩)
    (gE11 : PySem.W.nsIn K aE "if" = some (some (.ref uE11)))
    (hE11 : K.lookup uE11 = some ⟨.type "tuple", vE11, .seq #[.str "test" tE11_0, .str "expression" tE11_1, .str "expression" tE11_2] nE11, sE11⟩)
    (gE12 : PySem.W.nsIn K aE "each" = some (some (.ref uE12)))
    (hE12 : K.lookup uE12 = some ⟨.type "tuple", vE12, .seq #[.str "name" tE12_0, .str "expression" tE12_1, .str "expression" tE12_2] nE12, sE12⟩)
    (gE13 : PySem.W.nsIn K aE "pick" = some (some (.ref uE13)))
    (hE13 : K.lookup uE13 = some ⟨.type "tuple", vE13, .seq #[.str "name" tE13_0, .str "expression" tE13_1, .str "test" tE13_2] nE13, sE13⟩)
    (gE14 : PySem.W.nsIn K aE "fold" = some (some (.ref uE14)))
    (hE14 : K.lookup uE14 = some ⟨.type "tuple", vE14, .seq #[.str "name" tE14_0, .str "expression" tE14_1, .str "name" tE14_2, .str "expression" tE14_3, .str "expression" tE14_4] nE14, sE14⟩)
    (gE15 : PySem.W.nsIn K aE "fail" = some (some (.ref uE15)))
    (hE15 : K.lookup uE15 = some ⟨.type "tuple", vE15, .seq #[.str "name" tE15_0] nE15, sE15⟩)
    (gT0 : PySem.W.nsIn K aT "is" = some (some (.ref uT0)))
    (hT0 : K.lookup uT0 = some ⟨.type "tuple", vT0, .seq #[.str "kind" tT0_0, .str "expression" tT0_1] nT0, sT0⟩)
    (gT1 : PySem.W.nsIn K aT "sized" = some (some (.ref uT1)))
    (hT1 : K.lookup uT1 = some ⟨.type "tuple", vT1, .seq #[.str "expression" tT1_0, .str "index" tT1_1] nT1, sT1⟩)
    (gT2 : PySem.W.nsIn K aT "most" = some (some (.ref uT2)))
    (hT2 : K.lookup uT2 = some ⟨.type "tuple", vT2, .seq #[.str "expression" tT2_0, .str "integer" tT2_1, .str "expression" tT2_2] nT2, sT2⟩)
    (gT3 : PySem.W.nsIn K aT "alike" = some (some (.ref uT3)))
    (hT3 : K.lookup uT3 = some ⟨.type "tuple", vT3, .seq #[.str "expression" tT3_0, .str "expression" tT3_1] nT3, sT3⟩)
    (gT4 : PySem.W.nsIn K aT "not" = some (some (.ref uT4)))
    (hT4 : K.lookup uT4 = some ⟨.type "tuple", vT4, .seq #[.str "test" tT4_0] nT4, sT4⟩)
    (gT5 : PySem.W.nsIn K aT "both" = some (some (.ref uT5)))
    (hT5 : K.lookup uT5 = some ⟨.type "tuple", vT5, .seq #[.str "test" tT5_0, .str "test" tT5_1] nT5, sT5⟩)
    (gT6 : PySem.W.nsIn K aT "either" = some (some (.ref uT6)))
    (hT6 : K.lookup uT6 = some ⟨.type "tuple", vT6, .seq #[.str "test" tT6_0, .str "test" tT6_1] nT6, sT6⟩)
    (w0 : PySem.W.nsIn K aT "int" = some none)
    (w1 : PySem.W.nsIn K aT "atom" = some none)
    (w2 : PySem.W.nsIn K aT "name" = some none)
    (w3 : PySem.W.nsIn K aT "plus" = some none)
    (w4 : PySem.W.nsIn K aT "tuple" = some none)
    (w5 : PySem.W.nsIn K aT "part" = some none)
    (w6 : PySem.W.nsIn K aT "join" = some none)
    (w7 : PySem.W.nsIn K aT "read" = some none)
    (w8 : PySem.W.nsIn K aT "reach" = some none)
    (w9 : PySem.W.nsIn K aT "call" = some none)
    (w10 : PySem.W.nsIn K aT "let" = some none)
    (w11 : PySem.W.nsIn K aT "if" = some none)
    (w12 : PySem.W.nsIn K aT "each" = some none)
    (w13 : PySem.W.nsIn K aT "pick" = some none)
    (w14 : PySem.W.nsIn K aT "fold" = some none)
    (w15 : PySem.W.nsIn K aT "fail" = some none)
    (a1 : PySem.W.nsIn K mainGlobals "sorts_behind" = some (some (.ref f1)))
    (l1 : K.lookup f1 = some ⟨oc1, od1, .func (PySem.W.fnOf "sorts_behind" "sorts_behind" (defArgs sSorts) (defBody sSorts) (defScope sSorts) .none kV1 dc1 pm1 an1 cd1 ct1), sl1⟩)
    (c1 : PySem.W.codeIn K cd1 "sorts_behind" = true) (k1 : PySem.W.keepIn K (.ref f1) = true)
    (a2 : PySem.W.nsIn K mainGlobals "sorted_items" = some (some (.ref f2)))
    (l2 : K.lookup f2 = some ⟨oc2, od2, .func (PySem.W.fnOf "sorted_items" "sorted_items" (defArgs sItems) (defBody sItems) (defScope sItems) .none kV2 dc2 pm2 an2 cd2 ct2), sl2⟩)
    (c2 : PySem.W.codeIn K cd2 "sorted_items" = true) (k2 : PySem.W.keepIn K (.ref f2) = true)
    (a3 : PySem.W.nsIn K mainGlobals "inner_trees" = some (some (.ref f3)))
    (l3 : K.lookup f3 = some ⟨oc3, od3, .func (PySem.W.fnOf "inner_trees" "inner_trees" (defArgs sInner) (defBody sInner) (defScope sInner) .none kV3 dc3 pm3 an3 cd3 ct3), sl3⟩)
    (c3 : PySem.W.codeIn K cd3 "inner_trees" = true) (k3 : PySem.W.keepIn K (.ref f3) = true)
    (a4 : PySem.W.nsIn K mainGlobals "children" = some (some (.ref f4)))
    (l4 : K.lookup f4 = some ⟨oc4, od4, .func (PySem.W.fnOf "children" "children" (defArgs sChildren) (defBody sChildren) (defScope sChildren) .none kV4 dc4 pm4 an4 cd4 ct4), sl4⟩)
    (c4 : PySem.W.codeIn K cd4 "children" = true) (k4 : PySem.W.keepIn K (.ref f4) = true)
    (a5 : PySem.W.nsIn K mainGlobals "subtree" = some (some (.ref f5)))
    (l5 : K.lookup f5 = some ⟨oc5, od5, .func (PySem.W.fnOf "subtree" "subtree" (defArgs sSub) (defBody sSub) (defScope sSub) .none kV5 dc5 pm5 an5 cd5 ct5), sl5⟩)
    (c5 : PySem.W.codeIn K cd5 "subtree" = true) (k5 : PySem.W.keepIn K (.ref f5) = true)
    (a6 : PySem.W.nsIn K mainGlobals "count" = some (some (.ref f6)))
    (l6 : K.lookup f6 = some ⟨oc6, od6, .func (PySem.W.fnOf "count" "count" (defArgs sCount) (defBody sCount) (defScope sCount) .none kV6 dc6 pm6 an6 cd6 ct6), sl6⟩)
    (c6 : PySem.W.codeIn K cd6 "count" = true) (k6 : PySem.W.keepIn K (.ref f6) = true)
    (a7 : PySem.W.nsIn K mainGlobals "all_trees" = some (some (.ref f7)))
    (l7 : K.lookup f7 = some ⟨oc7, od7, .func (PySem.W.fnOf "all_trees" "all_trees" (defArgs sAllT) (defBody sAllT) (defScope sAllT) .none kV7 dc7 pm7 an7 cd7 ct7), sl7⟩)
    (c7 : PySem.W.codeIn K cd7 "all_trees" = true) (k7 : PySem.W.keepIn K (.ref f7) = true)
    (a8 : PySem.W.nsIn K mainGlobals "_law_box" = some (some (.ref f8)))
    (l8 : K.lookup f8 = some ⟨oc8, od8, .func (PySem.W.fnOf "_law_box" "_law_box" (defArgs sBox) (defBody sBox) (defScope sBox) .none kV8 dc8 pm8 an8 cd8 ct8), sl8⟩)
    (c8 : PySem.W.codeIn K cd8 "_law_box" = true) (k8 : PySem.W.keepIn K (.ref f8) = true)
    (a9 : PySem.W.nsIn K mainGlobals "_law_take" = some (some (.ref f9)))
    (l9 : K.lookup f9 = some ⟨oc9, od9, .func (PySem.W.fnOf "_law_take" "_law_take" (defArgs sTake) (defBody sTake) (defScope sTake) .none kV9 dc9 pm9 an9 cd9 ct9), sl9⟩)
    (c9 : PySem.W.codeIn K cd9 "_law_take" = true) (k9 : PySem.W.keepIn K (.ref f9) = true)
    (a10 : PySem.W.nsIn K mainGlobals "_law_pick" = some (some (.ref f10)))
    (l10 : K.lookup f10 = some ⟨oc10, od10, .func (PySem.W.fnOf "_law_pick" "_law_pick" (defArgs sPick) (defBody sPick) (defScope sPick) .none kV10 dc10 pm10 an10 cd10 ct10), sl10⟩)
    (c10 : PySem.W.codeIn K cd10 "_law_pick" = true) (k10 : PySem.W.keepIn K (.ref f10) = true)
    (a11 : PySem.W.nsIn K mainGlobals "_law_forms" = some (some (.ref f11)))
    (l11 : K.lookup f11 = some ⟨oc11, od11, .func (PySem.W.fnOf "_law_forms" "_law_forms" (defArgs sForms) (defBody sForms) (defScope sForms) .none kV11 dc11 pm11 an11 cd11 ct11), sl11⟩)
    (c11 : PySem.W.codeIn K cd11 "_law_forms" = true) (k11 : PySem.W.keepIn K (.ref f11) = true)
    (a12 : PySem.W.nsIn K mainGlobals "_law_word" = some (some (.ref f12)))
    (l12 : K.lookup f12 = some ⟨oc12, od12, .func (PySem.W.fnOf "_law_word" "_law_word" (defArgs sWord) (defBody sWord) (defScope sWord) .none kV12 dc12 pm12 an12 cd12 ct12), sl12⟩)
    (c12 : PySem.W.codeIn K cd12 "_law_word" = true) (k12 : PySem.W.keepIn K (.ref f12) = true)
    (a13 : PySem.W.nsIn K mainGlobals "_law_thing" = some (some (.ref f13)))
    (l13 : K.lookup f13 = some ⟨oc13, od13, .func (PySem.W.fnOf "_law_thing" "_law_thing" (defArgs sThing) (defBody sThing) (defScope sThing) .none kV13 dc13 pm13 an13 cd13 ct13), sl13⟩)
    (c13 : PySem.W.codeIn K cd13 "_law_thing" = true) (k13 : PySem.W.keepIn K (.ref f13) = true)
    (a14 : PySem.W.nsIn K mainGlobals "_law_tree" = some (some (.ref f14)))
    (l14 : K.lookup f14 = some ⟨oc14, od14, .func (PySem.W.fnOf "_law_tree" "_law_tree" (defArgs sTree) (defBody sTree) (defScope sTree) .none kV14 dc14 pm14 an14 cd14 ct14), sl14⟩)
    (c14 : PySem.W.codeIn K cd14 "_law_tree" = true) (k14 : PySem.W.keepIn K (.ref f14) = true)
    (a15 : PySem.W.nsIn K mainGlobals "_law_children" = some (some (.ref f15)))
    (l15 : K.lookup f15 = some ⟨oc15, od15, .func (PySem.W.fnOf "_law_children" "_law_children" (defArgs sLChildren) (defBody sLChildren) (defScope sLChildren) .none kV15 dc15 pm15 an15 cd15 ct15), sl15⟩)
    (c15 : PySem.W.codeIn K cd15 "_law_children" = true) (k15 : PySem.W.keepIn K (.ref f15) = true)
    (a16 : PySem.W.nsIn K mainGlobals "_law_all" = some (some (.ref f16)))
    (l16 : K.lookup f16 = some ⟨oc16, od16, .func (PySem.W.fnOf "_law_all" "_law_all" (defArgs sLAll) (defBody sLAll) (defScope sLAll) .none kV16 dc16 pm16 an16 cd16 ct16), sl16⟩)
    (c16 : PySem.W.codeIn K cd16 "_law_all" = true) (k16 : PySem.W.keepIn K (.ref f16) = true)
    (a17 : PySem.W.nsIn K mainGlobals "_law_right" = some (some (.ref f17)))
    (l17 : K.lookup f17 = some ⟨oc17, od17, .func (PySem.W.fnOf "_law_right" "_law_right" (defArgs sRight) (defBody sRight) (defScope sRight) .none kV17 dc17 pm17 an17 cd17 ct17), sl17⟩)
    (c17 : PySem.W.codeIn K cd17 "_law_right" = true) (k17 : PySem.W.keepIn K (.ref f17) = true)
    (a18 : PySem.W.nsIn K mainGlobals "law" = some (some (.ref f18)))
    (l18 : K.lookup f18 = some ⟨oc18, od18, .func (PySem.W.fnOf "law" "law" (defArgs sLaw) (defBody sLaw) (defScope sLaw) .none kV18 dc18 pm18 an18 cd18 ct18), sl18⟩)
    (c18 : PySem.W.codeIn K cd18 "law" = true) (k18 : PySem.W.keepIn K (.ref f18) = true)
    (z1 : PySem.W.nsIn K mainGlobals "list" = some none)
    (z2 : PySem.W.nsIn K mainGlobals "zip" = some none)
    (z3 : PySem.W.nsIn K mainGlobals "enumerate" = some none)
    (z4 : PySem.W.nsIn K mainGlobals "tuple" = some none)
    (z5 : PySem.W.nsIn K mainGlobals "len" = some none)
    (z6 : PySem.W.nsIn K mainGlobals "abs" = some none)
    (z7 : PySem.W.nsIn K mainGlobals "dict" = some none)
    (z8 : PySem.W.nsIn K mainGlobals "range" = some none)
    (z9 : PySem.W.nsIn K mainGlobals "repr" = some none)
    (z10 : PySem.W.nsIn K mainGlobals "all" = some none)
    : ∃ fd : FuncData, (∀ (s : Shared) (v : Value), BindsTo s fd ⟨[v], []⟩ [("_law_script", v)]) ∧ ∀ base : Heap, K.In base → base.Ns mainGlobals mg → FnG l.prog w K mg base CX0 14 fa fd ["_law_script"] (spLaw K) := by
  have e := hfa.symm.trans (PySem.W.mg_of X G a18)
  cases e
  have F1 := fun_mk (st := sSorts) l1 c1 k1
  have b1 := F1.binds (ps := ["word", "wanted"]) fun _ _ _ _ _ _ us hl => match us, hl with | [_, _], _ => rfl
  have m1 := PySem.W.mg_of X G a1
  have F2 := fun_mk (st := sItems) l2 c2 k2
  have b2 := F2.binds (ps := ["tree"]) fun _ _ _ _ _ _ us hl => match us, hl with | [_], _ => rfl
  have m2 := PySem.W.mg_of X G a2
  have F3 := fun_mk (st := sInner) l3 c3 k3
  have b3 := F3.binds (ps := ["tree"]) fun _ _ _ _ _ _ us hl => match us, hl with | [_], _ => rfl
  have m3 := PySem.W.mg_of X G a3
  have F4 := fun_mk (st := sChildren) l4 c4 k4
  have b4 := F4.binds (ps := ["tree"]) fun _ _ _ _ _ _ us hl => match us, hl with | [_], _ => rfl
  have m4 := PySem.W.mg_of X G a4
  have F5 := fun_mk (st := sSub) l5 c5 k5
  have b5 := F5.binds (ps := ["tree", "path"]) fun _ _ _ _ _ _ us hl => match us, hl with | [_, _], _ => rfl
  have m5 := PySem.W.mg_of X G a5
  have F6 := fun_mk (st := sCount) l6 c6 k6
  have b6 := F6.binds (ps := ["tree"]) fun _ _ _ _ _ _ us hl => match us, hl with | [_], _ => rfl
  have m6 := PySem.W.mg_of X G a6
  have F7 := fun_mk (st := sAllT) l7 c7 k7
  have b7 := F7.binds (ps := ["tree"]) fun _ _ _ _ _ _ us hl => match us, hl with | [_], _ => rfl
  have m7 := PySem.W.mg_of X G a7
  have F8 := fun_mk (st := sBox) l8 c8 k8
  have b8 := F8.binds (ps := ["_law_script", "_law_base"]) fun _ _ _ _ _ _ us hl => match us, hl with | [_, _], _ => rfl
  have m8 := PySem.W.mg_of X G a8
  have F9 := fun_mk (st := sTake) l9 c9 k9
  have b9 := F9.binds (ps := ["_law_box_here", "_law_many"]) fun _ _ _ _ _ _ us hl => match us, hl with | [_, _], _ => rfl
  have m9 := PySem.W.mg_of X G a9
  have F10 := fun_mk (st := sPick) l10 c10 k10
  have b10 := F10.binds (ps := ["_law_box_here", "_law_items"]) fun _ _ _ _ _ _ us hl => match us, hl with | [_, _], _ => rfl
  have m10 := PySem.W.mg_of X G a10
  have F11 := fun_mk (st := sForms) l11 c11 k11
  have b11 := F11.binds (ps := ["_law_sort"]) fun _ _ _ _ _ _ us hl => match us, hl with | [_], _ => rfl
  have m11 := PySem.W.mg_of X G a11
  have F12 := fun_mk (st := sWord) l12 c12 k12
  have b12 := F12.binds (ps := ["_law_box_here"]) fun _ _ _ _ _ _ us hl => match us, hl with | [_], _ => rfl
  have m12 := PySem.W.mg_of X G a12
  have F13 := fun_mk (st := sThing) l13 c13 k13
  have b13 := F13.binds (ps := ["_law_box_here", "_law_slot"]) fun _ _ _ _ _ _ us hl => match us, hl with | [_, _], _ => rfl
  have m13 := PySem.W.mg_of X G a13
  have F14 := fun_mk (st := sTree) l14 c14 k14
  have b14 := F14.binds (ps := ["_law_box_here", "_law_sort", "_law_deep", "_law_room"]) fun _ _ _ _ _ _ us hl => match us, hl with | [_, _, _, _], _ => rfl
  have m14 := PySem.W.mg_of X G a14
  have F15 := fun_mk (st := sLChildren) l15 c15 k15
  have b15 := F15.binds (ps := ["_law_tree_here"]) fun _ _ _ _ _ _ us hl => match us, hl with | [_], _ => rfl
  have m15 := PySem.W.mg_of X G a15
  have F16 := fun_mk (st := sLAll) l16 c16 k16
  have b16 := F16.binds (ps := ["_law_tree_here"]) fun _ _ _ _ _ _ us hl => match us, hl with | [_], _ => rfl
  have m16 := PySem.W.mg_of X G a16
  have F17 := fun_mk (st := sRight) l17 c17 k17
  have b17 := F17.binds (ps := ["_law_tree_here"]) fun _ _ _ _ _ _ us hl => match us, hl with | [_], _ => rfl
  have m17 := PySem.W.mg_of X G a17
  have F18 := fun_mk (st := sLaw) l18 c18 k18
  have n_list := PySem.W.mg_none_of X G z1
  have n_zip := PySem.W.mg_none_of X G z2
  have n_enumerate := PySem.W.mg_none_of X G z3
  have n_tuple := PySem.W.mg_none_of X G z4
  have n_len := PySem.W.mg_none_of X G z5
  have n_abs := PySem.W.mg_none_of X G z6
  have n_dict := PySem.W.mg_none_of X G z7
  have n_range := PySem.W.mg_none_of X G z8
  have n_repr := PySem.W.mg_none_of X G z9
  have n_all := PySem.W.mg_none_of X G z10
  refine ⟨PySem.W.fnOf "law" "law" (defArgs sLaw) (defBody sLaw) (defScope sLaw) .none kV18 dc18 pm18 an18 cd18 ct18, fun s v => .of_eq rfl, fun base _ _ => ?_⟩
  have TB : Tab K w mg aE esE nE aT esT nT := by
    refine ⟨PySem.W.mg_of X G aaE, PySem.W.mg_of X G aaT, ⟨llE, kkE, ooE⟩, ⟨llT, kkT, ooT⟩, ?e1, ?t1, ?e0⟩
    case e1 =>
      intro p hp
      simp only [exL, List.mem_cons, List.not_mem_nil, or_false] at hp
      rcases hp with rfl | rfl | rfl | rfl | rfl | rfl | rfl | rfl | rfl | rfl | rfl | rfl | rfl | rfl | rfl | rfl
      · exact ⟨uE0, gE0, fun H => by
            have e : sortsV "k" = [.str "integer"] := by decide +kernel
            rw [e]
            exact .inr ⟨_, _, _, hE0, rfl, rfl, (by show 1 ≤ sizeLine; decide), .cons ⟨_, rfl⟩ (.nil)⟩⟩
      · exact ⟨uE1, gE1, fun H => by
            have e : sortsV "n" = [.str "name"] := by decide +kernel
            rw [e]
            exact .inr ⟨_, _, _, hE1, rfl, rfl, (by show 1 ≤ sizeLine; decide), .cons ⟨_, rfl⟩ (.nil)⟩⟩
      · exact ⟨uE2, gE2, fun H => by
            have e : sortsV "n" = [.str "name"] := by decide +kernel
            rw [e]
            exact .inr ⟨_, _, _, hE2, rfl, rfl, (by show 1 ≤ sizeLine; decide), .cons ⟨_, rfl⟩ (.nil)⟩⟩
      · exact ⟨uE3, gE3, fun H => by
            have e : sortsV "ek" = [.str "expression", .str "integer"] := by decide +kernel
            rw [e]
            exact .inr ⟨_, _, _, hE3, rfl, rfl, (by show 2 ≤ sizeLine; decide), .cons ⟨_, rfl⟩ (.cons ⟨_, rfl⟩ (.nil))⟩⟩
      · exact ⟨uE4, gE4, fun H => by
            have e : sortsV "s" = [.str "expressions"] := by decide +kernel
            rw [e]
            exact .inr ⟨_, _, _, hE4, rfl, rfl, (by show 1 ≤ sizeLine; decide), .cons ⟨_, rfl⟩ (.nil)⟩⟩
      · exact ⟨uE5, gE5, fun H => by
            have e : sortsV "ei" = [.str "expression", .str "index"] := by decide +kernel
            rw [e]
            exact .inr ⟨_, _, _, hE5, rfl, rfl, (by show 2 ≤ sizeLine; decide), .cons ⟨_, rfl⟩ (.cons ⟨_, rfl⟩ (.nil))⟩⟩
      · exact ⟨uE6, gE6, fun H => by
            have e : sortsV "ee" = [.str "expression", .str "expression"] := by decide +kernel
            rw [e]
            exact .inr ⟨_, _, _, hE6, rfl, rfl, (by show 2 ≤ sizeLine; decide), .cons ⟨_, rfl⟩ (.cons ⟨_, rfl⟩ (.nil))⟩⟩
      · exact ⟨uE7, gE7, fun H => by
            have e : sortsV "n" = [.str "name"] := by decide +kernel
            rw [e]
            exact .inr ⟨_, _, _, hE7, rfl, rfl, (by show 1 ≤ sizeLine; decide), .cons ⟨_, rfl⟩ (.nil)⟩⟩
      · exact ⟨uE8, gE8, fun H => by
            have e : sortsV "e" = [.str "expression"] := by decide +kernel
            rw [e]
            exact .inr ⟨_, _, _, hE8, rfl, rfl, (by show 1 ≤ sizeLine; decide), .cons ⟨_, rfl⟩ (.nil)⟩⟩
      · exact ⟨uE9, gE9, fun H => by
            have e : sortsV "ns" = [.str "name", .str "expressions"] := by decide +kernel
            rw [e]
            exact .inr ⟨_, _, _, hE9, rfl, rfl, (by show 2 ≤ sizeLine; decide), .cons ⟨_, rfl⟩ (.cons ⟨_, rfl⟩ (.nil))⟩⟩
      · exact ⟨uE10, gE10, fun H => by
            have e : sortsV "nee" = [.str "name", .str "expression", .str "expression"] := by decide +kernel
            rw [e]
            exact .inr ⟨_, _, _, hE10, rfl, rfl, (by show 3 ≤ sizeLine; decide), .cons ⟨_, rfl⟩ (.cons ⟨_, rfl⟩ (.cons ⟨_, rfl⟩ (.nil)))⟩⟩
      · exact ⟨uE11, gE11, fun H => by
            have e : sortsV "tee" = [.str "test", .str "expression", .str "expression"] := by decide +kernel
            rw [e]
            exact .inr ⟨_, _, _, hE11, rfl, rfl, (by show 3 ≤ sizeLine; decide), .cons ⟨_, rfl⟩ (.cons ⟨_, rfl⟩ (.cons ⟨_, rfl⟩ (.nil)))⟩⟩
      · exact ⟨uE12, gE12, fun H => by
            have e : sortsV "nee" = [.str "name", .str "expression", .str "expression"] := by decide +kernel
            rw [e]
            exact .inr ⟨_, _, _, hE12, rfl, rfl, (by show 3 ≤ sizeLine; decide), .cons ⟨_, rfl⟩ (.cons ⟨_, rfl⟩ (.cons ⟨_, rfl⟩ (.nil)))⟩⟩
      · exact ⟨uE13, gE13, fun H => by
            have e : sortsV "net" = [.str "name", .str "expression", .str "test"] := by decide +kernel
            rw [e]
            exact .inr ⟨_, _, _, hE13, rfl, rfl, (by show 3 ≤ sizeLine; decide), .cons ⟨_, rfl⟩ (.cons ⟨_, rfl⟩ (.cons ⟨_, rfl⟩ (.nil)))⟩⟩
      · exact ⟨uE14, gE14, fun H => by
            have e : sortsV "nenee" = [.str "name", .str "expression", .str "name", .str "expression", .str "expression"] := by decide +kernel
            rw [e]
            exact .inr ⟨_, _, _, hE14, rfl, rfl, (by show 5 ≤ sizeLine; decide), .cons ⟨_, rfl⟩ (.cons ⟨_, rfl⟩ (.cons ⟨_, rfl⟩ (.cons ⟨_, rfl⟩ (.cons ⟨_, rfl⟩ (.nil)))))⟩⟩
      · exact ⟨uE15, gE15, fun H => by
            have e : sortsV "n" = [.str "name"] := by decide +kernel
            rw [e]
            exact .inr ⟨_, _, _, hE15, rfl, rfl, (by show 1 ≤ sizeLine; decide), .cons ⟨_, rfl⟩ (.nil)⟩⟩
    case t1 =>
      intro p hp
      simp only [teL, List.mem_cons, List.not_mem_nil, or_false] at hp
      rcases hp with rfl | rfl | rfl | rfl | rfl | rfl | rfl
      · exact ⟨uT0, gT0, fun H => by
            have e : sortsV "we" = [.str "kind", .str "expression"] := by decide +kernel
            rw [e]
            exact .inr ⟨_, _, _, hT0, rfl, rfl, (by show 2 ≤ sizeLine; decide), .cons ⟨_, rfl⟩ (.cons ⟨_, rfl⟩ (.nil))⟩⟩
      · exact ⟨uT1, gT1, fun H => by
            have e : sortsV "ei" = [.str "expression", .str "index"] := by decide +kernel
            rw [e]
            exact .inr ⟨_, _, _, hT1, rfl, rfl, (by show 2 ≤ sizeLine; decide), .cons ⟨_, rfl⟩ (.cons ⟨_, rfl⟩ (.nil))⟩⟩
      · exact ⟨uT2, gT2, fun H => by
            have e : sortsV "eke" = [.str "expression", .str "integer", .str "expression"] := by decide +kernel
            rw [e]
            exact .inr ⟨_, _, _, hT2, rfl, rfl, (by show 3 ≤ sizeLine; decide), .cons ⟨_, rfl⟩ (.cons ⟨_, rfl⟩ (.cons ⟨_, rfl⟩ (.nil)))⟩⟩
      · exact ⟨uT3, gT3, fun H => by
            have e : sortsV "ee" = [.str "expression", .str "expression"] := by decide +kernel
            rw [e]
            exact .inr ⟨_, _, _, hT3, rfl, rfl, (by show 2 ≤ sizeLine; decide), .cons ⟨_, rfl⟩ (.cons ⟨_, rfl⟩ (.nil))⟩⟩
      · exact ⟨uT4, gT4, fun H => by
            have e : sortsV "t" = [.str "test"] := by decide +kernel
            rw [e]
            exact .inr ⟨_, _, _, hT4, rfl, rfl, (by show 1 ≤ sizeLine; decide), .cons ⟨_, rfl⟩ (.nil)⟩⟩
      · exact ⟨uT5, gT5, fun H => by
            have e : sortsV "tt" = [.str "test", .str "test"] := by decide +kernel
            rw [e]
            exact .inr ⟨_, _, _, hT5, rfl, rfl, (by show 2 ≤ sizeLine; decide), .cons ⟨_, rfl⟩ (.cons ⟨_, rfl⟩ (.nil))⟩⟩
      · exact ⟨uT6, gT6, fun H => by
            have e : sortsV "tt" = [.str "test", .str "test"] := by decide +kernel
            rw [e]
            exact .inr ⟨_, _, _, hT6, rfl, rfl, (by show 2 ≤ sizeLine; decide), .cons ⟨_, rfl⟩ (.cons ⟨_, rfl⟩ (.nil))⟩⟩
    case e0 =>
      intro p hp
      simp only [exL, List.mem_cons, List.not_mem_nil, or_false] at hp
      rcases hp with rfl | rfl | rfl | rfl | rfl | rfl | rfl | rfl | rfl | rfl | rfl | rfl | rfl | rfl | rfl | rfl
      · exact w0
      · exact w1
      · exact w2
      · exact w3
      · exact w4
      · exact w5
      · exact w6
      · exact w7
      · exact w8
      · exact w9
      · exact w10
      · exact w11
      · exact w12
      · exact w13
      · exact w14
      · exact w15
  have Tt : Tk l.prog w K mg base f9 _ := ⟨ok_take (k := 0) F9 n_len, k9, b9, m9⟩
  have G1 : Dn l.prog w K mg base 1 "sorts_behind" ["word", "wanted"] (spSorts K) f1 _ := ⟨ok_sorts (k := 0) F1 TB, k1, b1, m1⟩
  have G2 : Dn l.prog w K mg base 2 "sorted_items" ["tree"] (spItems K) f2 _ := ⟨ok_items (k := 0) F2 TB n_list n_zip G1, k2, b2, m2⟩
  have G3 : Dn l.prog w K mg base 3 "inner_trees" ["tree"] (spInner K) f3 _ := ⟨ok_inner (k := 0) F3 n_enumerate G2, k3, b3, m3⟩
  have G4 : Dn l.prog w K mg base 4 "children" ["tree"] (spChildren K) f4 _ := ⟨ok_children (k := 0) F4 n_tuple G3, k4, b4, m4⟩
  have G5 : Dn l.prog w K mg base 1 "subtree" ["tree", "path"] (spSub K) f5 _ := ⟨ok_sub (k := 0) F5, k5, b5, m5⟩
  have G7 : Dn l.prog w K mg base 4 "all_trees" ["tree"] (spAllT K) f7 _ := ⟨ok_allT (k := 0) F7 G3, k7, b7, m7⟩
  have G6 : Dn l.prog w K mg base 5 "count" ["tree"] (spCount K) f6 _ := ⟨ok_count (k := 0) F6 n_len G7, k6, b6, m6⟩
  have G10 : Dn l.prog w K mg base 2 "_law_pick" ["_law_box_here", "_law_items"] spPick f10 _ := ⟨ok_pick (k := 0) F10 n_len Tt, k10, b10, m10⟩
  have G11 : Dn l.prog w K mg base 1 "_law_forms" ["_law_sort"] spForms f11 _ := ⟨ok_forms (k := 0) F11 n_dict n_list, k11, b11, m11⟩
  have G12 : Dn l.prog w K mg base 3 "_law_word" ["_law_box_here"] spWord f12 _ := ⟨ok_word (k := 0) F12 n_range Tt G10, k12, b12, m12⟩
  have G13 : Dn l.prog w K mg base 4 "_law_thing" ["_law_box_here", "_law_slot"] spThing f13 _ := ⟨ok_thing (k := 0) F13 Tt G10 G12, k13, b13, m13⟩
  have V : ∀ n : Nat, FnOk l.prog w K mg base CX0 (n + 4) f14 _ ["_law_box_here", "_law_sort", "_law_deep", "_law_room"] (spTree K n) := fun n => by
    induction n with
    | zero =>
      have no : ∀ vs H Q E, ¬ spTree K 0 vs H Q E := fun vs H Q E h => by
        obtain ⟨p, g, wd, e, w0, s, _, _, _, _, h1, h2, _⟩ := h
        omega
      exact ⟨fun vs H Q E h => absurd h (no vs H Q E), fun A outer s H args us vs Q E _ _ _ _ h => absurd h (no vs H Q E)⟩
    | succ n ih => exact ok_tree F14 n_list n_tuple n_range Tt G11 G10 G13 ih b14 m14
  have G14 : Dn l.prog w K mg base 13 "_law_tree" ["_law_box_here", "_law_sort", "_law_deep", "_law_room"] (spTree K 9) f14 _ := ⟨V 9, k14, b14, m14⟩
  have G15 : Dn l.prog w K mg base 2 "_law_children" ["_law_tree_here"] (spChildren K) f15 _ := ⟨ok_lchildren (k := 0) F15 n_dict n_list n_enumerate n_tuple G11, k15, b15, m15⟩
  have G16 : Dn l.prog w K mg base 3 "_law_all" ["_law_tree_here"] (spLAll K) f16 _ := ⟨ok_lall (k := 0) F16 G15, k16, b16, m16⟩
  have GR := ok_right (P := l.prog) (w := w) (base := base) (k := 7) F17 n_repr n_len G16 G6 G5 G4 G15
  exact ok_law F18 n_range n_tuple n_all ⟨ok_box (k := 0) F8 n_abs, k8, b8, m8⟩ Tt G14 GR k17 b17 m17
end Rl
open PySem PySem.W PyProof.Rows in
set_option maxRecDepth 100000 in
set_option maxHeartbeats 0 in
theorem PySem.Challenge.cw_runlore_k08_trees_taken_apart_holds : PySem.Challenge.rw_runlore_k08_trees_taken_apart.Holds := by
  w_on; o_law; k_head; (case hw => w_witness2)
  k_fill
  refine Rl.walkG (l := PySem.Challenge.rw_runlore_k08_trees_taken_apart) (n := 63) (k := 14) (x := "_law_script") (sp := Rl.spLaw) rfl (by decide) rfl ⟨rfl, by decide, by decide⟩ (fun w h Y => PySem.W.kIn_of Y) ?F (fun K H a ns hl _ hS => ⟨a, ns, rfl, hS, hl, fun _ => rfl⟩)
  case F =>
    intro w mg fa h KX G hmg
    refine' Rl.all_mk KX G hmg ?aaE ?llE ?kkE ?ooE ?aaT ?llT ?kkT ?ooT ?gE0 ?hE0 ?gE1 ?hE1 ?gE2 ?hE2 ?gE3 ?hE3 ?gE4 ?hE4 ?gE5 ?hE5 ?gE6 ?hE6 ?gE7 ?hE7 ?gE8 ?hE8 ?gE9 ?hE9 ?gE10 ?hE10 ?gE11 ?hE11 ?gE12 ?hE12 ?gE13 ?hE13 ?gE14 ?hE14 ?gE15 ?hE15 ?gT0 ?hT0 ?gT1 ?hT1 ?gT2 ?hT2 ?gT3 ?hT3 ?gT4 ?hT4 ?gT5 ?hT5 ?gT6 ?hT6 ?w0 ?w1 ?w2 ?w3 ?w4 ?w5 ?w6 ?w7 ?w8 ?w9 ?w10 ?w11 ?w12 ?w13 ?w14 ?w15 ?a1 ?l1 ?c1 ?k1 ?a2 ?l2 ?c2 ?k2 ?a3 ?l3 ?c3 ?k3 ?a4 ?l4 ?c4 ?k4 ?a5 ?l5 ?c5 ?k5 ?a6 ?l6 ?c6 ?k6 ?a7 ?l7 ?c7 ?k7 ?a8 ?l8 ?c8 ?k8 ?a9 ?l9 ?c9 ?k9 ?a10 ?l10 ?c10 ?k10 ?a11 ?l11 ?c11 ?k11 ?a12 ?l12 ?c12 ?k12 ?a13 ?l13 ?c13 ?k13 ?a14 ?l14 ?c14 ?k14 ?a15 ?l15 ?c15 ?k15 ?a16 ?l16 ?c16 ?k16 ?a17 ?l17 ?c17 ?k17 ?a18 ?l18 ?c18 ?k18 ?z1 ?z2 ?z3 ?z4 ?z5 ?z6 ?z7 ?z8 ?z9 ?z10
    (case aaE => k_is)
    (case llE => k_is)
    (case kkE => k_keys)
    (case ooE => decide)
    (case aaT => k_is)
    (case llT => k_is)
    (case kkT => k_keys)
    (case ooT => decide)
    (case gE0 => k_is)
    (case hE0 => k_is)
    (case gE1 => k_is)
    (case hE1 => k_is)
    (case gE2 => k_is)
    (case hE2 => k_is)
    (case gE3 => k_is)
    (case hE3 => k_is)
    (case gE4 => k_is)
    (case hE4 => k_is)
    (case gE5 => k_is)
    (case hE5 => k_is)
    (case gE6 => k_is)
    (case hE6 => k_is)
    (case gE7 => k_is)
    (case hE7 => k_is)
    (case gE8 => k_is)
    (case hE8 => k_is)
    (case gE9 => k_is)
    (case hE9 => k_is)
    (case gE10 => k_is)
    (case hE10 => k_is)
    (case gE11 => k_is)
    (case hE11 => k_is)
    (case gE12 => k_is)
    (case hE12 => k_is)
    (case gE13 => k_is)
    (case hE13 => k_is)
    (case gE14 => k_is)
    (case hE14 => k_is)
    (case gE15 => k_is)
    (case hE15 => k_is)
    (case gT0 => k_is)
    (case hT0 => k_is)
    (case gT1 => k_is)
    (case hT1 => k_is)
    (case gT2 => k_is)
    (case hT2 => k_is)
    (case gT3 => k_is)
    (case hT3 => k_is)
    (case gT4 => k_is)
    (case hT4 => k_is)
    (case gT5 => k_is)
    (case hT5 => k_is)
    (case gT6 => k_is)
    (case hT6 => k_is)
    (case w0 => k_is)
    (case w1 => k_is)
    (case w2 => k_is)
    (case w3 => k_is)
    (case w4 => k_is)
    (case w5 => k_is)
    (case w6 => k_is)
    (case w7 => k_is)
    (case w8 => k_is)
    (case w9 => k_is)
    (case w10 => k_is)
    (case w11 => k_is)
    (case w12 => k_is)
    (case w13 => k_is)
    (case w14 => k_is)
    (case w15 => k_is)
    (case a1 => k_is)
    (case l1 => k_is)
    (case c1 => k_is)
    (case k1 => k_is)
    (case a2 => k_is)
    (case l2 => k_is)
    (case c2 => k_is)
    (case k2 => k_is)
    (case a3 => k_is)
    (case l3 => k_is)
    (case c3 => k_is)
    (case k3 => k_is)
    (case a4 => k_is)
    (case l4 => k_is)
    (case c4 => k_is)
    (case k4 => k_is)
    (case a5 => k_is)
    (case l5 => k_is)
    (case c5 => k_is)
    (case k5 => k_is)
    (case a6 => k_is)
    (case l6 => k_is)
    (case c6 => k_is)
    (case k6 => k_is)
    (case a7 => k_is)
    (case l7 => k_is)
    (case c7 => k_is)
    (case k7 => k_is)
    (case a8 => k_is)
    (case l8 => k_is)
    (case c8 => k_is)
    (case k8 => k_is)
    (case a9 => k_is)
    (case l9 => k_is)
    (case c9 => k_is)
    (case k9 => k_is)
    (case a10 => k_is)
    (case l10 => k_is)
    (case c10 => k_is)
    (case k10 => k_is)
    (case a11 => k_is)
    (case l11 => k_is)
    (case c11 => k_is)
    (case k11 => k_is)
    (case a12 => k_is)
    (case l12 => k_is)
    (case c12 => k_is)
    (case k12 => k_is)
    (case a13 => k_is)
    (case l13 => k_is)
    (case c13 => k_is)
    (case k13 => k_is)
    (case a14 => k_is)
    (case l14 => k_is)
    (case c14 => k_is)
    (case k14 => k_is)
    (case a15 => k_is)
    (case l15 => k_is)
    (case c15 => k_is)
    (case k15 => k_is)
    (case a16 => k_is)
    (case l16 => k_is)
    (case c16 => k_is)
    (case k16 => k_is)
    (case a17 => k_is)
    (case l17 => k_is)
    (case c17 => k_is)
    (case k17 => k_is)
    (case a18 => k_is)
    (case l18 => k_is)
    (case c18 => k_is)
    (case k18 => k_is)
    (case z1 => k_is)
    (case z2 => k_is)
    (case z3 => k_is)
    (case z4 => k_is)
    (case z5 => k_is)
    (case z6 => k_is)
    (case z7 => k_is)
    (case z8 => k_is)
    (case z9 => k_is)
    (case z10 => k_is)

import PyProof.Rows.All
import Wide.All
import OpenK.AllK
import Wide.FinOn
import PyProof.ReprRoads
import PyProof.StrLawsRepr
import PyProof.ReprLen
import PyProof.Rows.RegStrFacts
import PyProof.Rows.StrCase
import PyProof.Rows.ReprOcc
import HandS.ForMost
import HandS.IsInst
import HandS.Wide
import HandS.Style
import HandS.Flow
import HandS.Conv
import HandS.Walk
import HandS.Codes
import HandS.TupAny
import HandS.FStr
import HandS.Zip
import HandS.ListItems
import HandS.Iter
import HandS.More
import KE.KDictZip
import KE.GoesEnum
import PyProof.CollectWalk
import HandS.Star
import HandS.StrMore
import HandS.RaiseMore
import HandS.Small
import HandS.ClsMeth
import HandS.MakeKw
import HandS.Defaults
import HandS.Strs
import HandS.Text
import KE.GoesZip
import KE.GoesMore
import PySem.Challenge.RW_runlore_k12_texts_of_expressions
set_option Elab.async false
set_option linter.all false
set_option maxRecDepth 100000
set_option exponentiation.threshold 2000
set_option maxHeartbeats 4000000
namespace Rl
open PySem PySem.Spec PyProof.Rows L2
/-- what can be printed: data of bounded depth whose text is short enough -/
structure Prn (d : PyData) : Prop where
  sh : d.showable = true
  nd : d.hasDict = false
  dp : d.depth ≤ 60
  sz : d.shown.length ≤ sizeLine
def rRep (K : PySem.W.Frag) : List V → Hp → VK → Prop := fun xs H Q =>
  ∃ v d, xs = [v] ∧ Dp K H v d ∧ Prn d ∧ Q (.str d.shown) H
theorem meets_extT (l b : Addr) (items items2 : Array Value) (n : Nat) (hlong : (!items.isEmpty && Builtin.List.listTooLong (items.size + items2.size)) = false) (h1 : items.size ≤ sizeLine) (h2 : items.size + items2.size ≤ sizeLine + 1) :
    Meets (Builtin.«list.extend» ⟨[.ref l, .ref b], []⟩) (fun _ R s => s.heap.get? l = some { cls := .type "list", data := .seq items n } ∧ IsTup s.heap b items2 ∧
      R (.ok (.ret .none)) { s with heap := s.heap.update l (Obj.mapSeq fun x => x ++ items2) }) := by
  intro prog w A R s ⟨hl, ⟨o, ho, hc, n2, hd⟩, hR⟩
  show wpAny _ A.in1 (Builtin.List.listExtendWith (.ref l) (.ref b) .none) _ _ s
  unfold Builtin.List.listExtendWith
  refine wpAny_bind (wpAny_typeOf ⟨o, ho, hc⟩ ?_)
  have e1 : (Builtin.List.listSameRef (.ref l) (.ref b) || Value.type "tuple" == Value.type "list" || Value.type "tuple" == Value.type "tuple") = true := by simp
  simp only [e1, if_true]
  refine wpAny_bind ?_
  unfold Builtin.List.listItems
  refine wpAny_bind (wpAny_seqItems ho hd (wpAny_pure ?_))
  refine wpAny_bind ?_
  refine wpAny_bind (wpAny_seqItems hl rfl (wpAny_pure ?_))
  rw [hlong]
  show wpAny _ A.in1 (updateSeq l (· ++ items2) >>= fun _ => ret .none) _ _ s
  have h3 : (items ++ items2).size ≤ sizeLine + 1 := by rw [Array.size_append]; exact h2
  refine wpAny_bind (wpAny_updateSeq hl rfl ?_ h1 h3)
  exact wpAny_pure hR
section
variable {X : Cx}
theorem call_rep (hg : X.A.guards = some []) (hu : X.A.units + 64 < cLine) : CallR X (.builtin "repr") (rRep X.K) := by
  intro pins s σ H xs us Q I r h
  obtain ⟨v, d, rfl, hd, ⟨hs, hnd, hdep, hsz⟩, q⟩ := h
  obtain ⟨u, rfl, ru⟩ := vals1 r
  obtain ⟨as, rd⟩ := Dp.reads I d v u hd ru
  cases hd with
  | non =>
    cases ru
    exact PySem.P.repr_of_none ⟨.str _, H, I.tok _, ⟨_, rfl⟩, q⟩
  | bl b =>
    cases ru
    refine PySem.P.repr_of_bool ⟨.str (if b then "True" else "False"), H, I.tok _, ⟨_, rfl⟩, ?_⟩
    cases b <;> exact q
  | int i =>
    obtain ⟨t, rfl⟩ := ru
    exact PySem.P.repr_of_int (of_decide_eq_true (by simpa only [PyData.showable] using hs)) ⟨.str _, H, I.tok _, ⟨_, rfl⟩, q⟩
  | str x =>
    obtain ⟨t, rfl⟩ := ru
    exact PySem.P.repr_of_str ⟨.str _, H, I.tok _, ⟨_, rfl⟩, q⟩ hsz
  | lst h1 h2 =>
    cases ru
    exact repr_of_reads' rd hs (PyData.noDict_hsm hnd) hg (by omega) (fun _ _ e => e) (fun h' u tk hk => ⟨.str _, H, I.kept hk, ⟨_, rfl⟩, q⟩) hsz
  | tup h1 h2 =>
    cases ru
    exact repr_of_reads' rd hs (PyData.noDict_hsm hnd) hg (by omega) (fun _ _ e => e) (fun h' u tk hk => ⟨.str _, H, I.kept hk, ⟨_, rfl⟩, q⟩) hsz
/-- xs.extend(t), t a tuple -/
def rExtT (K : PySem.W.Frag) : V → List V → Hp → VK → Prop := fun x vs H Q =>
  ∃ l b xs zs, x = .ref l ∧ vs = [.ref b] ∧ H l = some (.lst xs) ∧ SqT K H b zs ∧ xs.length + zs.length ≤ sizeLine ∧ Q .non (upd H l (.lst (xs ++ zs)))
theorem mt_extT : MtM X "list.extend" (rExtT X.K) := by
  intro pins s σ H x vs v us Q I rx rv h
  obtain ⟨l, b, xs, zs, rfl, rfl, hH, hB, hz, q⟩ := h
  cases rx
  obtain ⟨u, rfl, ru⟩ := rv.one
  cases ru
  obtain ⟨z, its, n, r, hl, e⟩ := I.lstM hH
  obtain ⟨its2, r2, tp, hl2⟩ := I.tuple hB
  have hl3 := r2.length
  have hl4 := r.length
  have hsz : its.toArray.size + its2.toArray.size ≤ sizeLine := by rw [List.size_toArray, List.size_toArray]; omega
  have hlong : (!its.toArray.isEmpty && Builtin.List.listTooLong (its.toArray.size + its2.toArray.size)) = false := by
    rw [notLongL hsz, Bool.and_false]
  refine call_meets F.slot_list_extend ⟨_, e, rfl⟩ F.entry_list_extend (F.args_list_extend_2 _ _)
    (meets_extT l b its.toArray its2.toArray n hlong (by omega) (by omega)) ⟨e, tp, ?_⟩
  refine ⟨.non, _, I.lset (its' := its ++ its2) hH e (by simp) (r.append r2) ?_, rfl, q⟩
  rw [List.length_append]
  omega
end
/-! a def that may print (repr): called where nothing is being printed -/
section
variable {P : Program} {w : World} {K : PySem.W.Frag} {mg : Str → Option Value} {base : Heap} {CX : CXT}
structure FnG (P : Program) (w : World) (K : PySem.W.Frag) (mg : Str → Option Value) (base : Heap)
    (CX : CXT) (k : Nat) (f : Addr) (fd : FuncData) (ps : List Str) (sp : Sp) : Prop where
  len : ∀ ws H Q E, sp ws H Q E → ws.length = ps.length
  go : ∀ (B : Around) (out : List Env) (t : Shared) (H : Hp) (as : Args) (us : List Value) (ws : List V) (Q : VK) (E : XK), B.guards = some [] → Room k B →
    Env0 P w K mg base B out t H → BindsTo t fd as (ps.zip us) → Vals ws us → sp ws H Q E →
    codeAny (model P w) B (.call (.ref f) as) (CR CX out P w H t Q E) t
theorem FnOk.toG {k : Nat} {f : Addr} {fd : FuncData} {ps : List Str} {sp : Sp} (F : FnOk P w K mg base CX k f fd ps sp) : FnG P w K mg base CX k f fd ps sp :=
  ⟨F.len, fun B out t H as us ws Q E _ => F.run B out t H as us ws Q E⟩
theorem FnG.mono {j k : Nat} {f : Addr} {fd : FuncData} {ps : List Str} {sp : Sp} (F : FnG P w K mg base CX j f fd ps sp) (h : j ≤ k) : FnG P w K mg base CX k f fd ps sp :=
  ⟨F.len, fun B out t H as us ws Q E g r => F.go B out t H as us ws Q E g (r.mono h)⟩
theorem fnG_of {k : Nat} {f : Addr} {name qual : Str} {params : Arguments} {body : List Stmt} {scope : Scope} {dV kV doc pm cdv ct oc : Value} {an od : Option Addr} {osl : Array (Option Value)} {N ps : List Str} {sp : Sp}
    (lk : K.lookup f = some ⟨oc, od, .func (PySem.W.fnOf name qual params body scope dV kV doc pm an cdv ct), osl⟩) (hcd : PySem.W.codeIn K cdv qual = true) (S : FnScope N ps scope)
    (len : ∀ ws H Q E, sp ws H Q E → ws.length = ps.length)
    (hb : ∀ (B : Around) (out : List Env) (t : Shared) (H : Hp) (ws : List V) (Q : VK) (E : XK), B.guards = some [] → Room k (B.deeper (envOfC qual scope t.heap.objs.size f cdv)) → sp ws H Q E →
      ∃ r, PSs (cxOf CX P w K mg base N qual scope f cdv B out t H E) body r ∧ r { nx := fun _ H' => Q .non H', rt := Q } (start N ws) H) :
    FnG P w K mg base CX (k + 1) f (PySem.W.fnOf name qual params body scope dV kV doc pm an cdv ct) ps sp := by
  refine ⟨len, ?_⟩
  intro B out t H as us ws Q E hg hr ee bb rr hsp
  have hl := len _ _ _ _ hsp
  have kx : K.In t.heap := ee.mod.kin.keeps fun b o z => (ee.bs b o z).1
  have lm : t.heap.NoLimit := ee.mod.nolimit.keeps fun b o z => (ee.bs b o z).1
  have kinds : ∀ y ∈ ps.zip us, scope.names.lookup y.1 = some .local ∨ (scope.names.lookup y.1 = some .cell ∧
      ((cellsFrom (t.heap.objs.size + 1) scope.names []).lookup y.1).isSome = true) := by
    rintro ⟨n, v⟩ hy
    rcases S.par n (List.of_mem_zip hy).1 with q | q
    · exact Or.inl q
    · exact Or.inr ⟨q, PySem.W.cellsFrom_some _ _ _ (Or.inl q)⟩
  refine codeAny_call_function hr.depth (kx _ _ lk) rfl S.co S.gen rfl (PySem.W.codeRec_of kx hcd) (bb _ _ _ _ ?_)
  refine wpAny_newFunctionEnv_cells S.kind kinds fun env he t1 x => ?_
  subst he
  refine ⟨lm.keeps x.toInCall.keep, codeAny_func ?_⟩
  obtain ⟨r, ht, hq⟩ := hb B out t H ws Q E hg (hr.deeper _) hsp
  have J := inv_start (CX := CX) (E := E) S hr.hd ee hl rr x
  refine wpAny_mono (ht.run [] t1 (start N ws) H _ J hq) (fun fl t' hs => ?_) (fun _ _ hs => hs)
  cases fl with
  | brk => exact hs.elim fun _ z => z.elim fun _ z => z.2.elim
  | cont => exact hs.elim fun _ z => z.elim fun _ z => z.2.elim
  | ret u =>
    obtain ⟨v, _, H', J', rv, q⟩ := hs
    exact ⟨v, H', J'.os, J'.bare, J'.base, J'.hok, rv, q⟩
  | next =>
    obtain ⟨_, H', J', q⟩ := hs
    exact ⟨.non, H', J'.os, J'.bare, J'.base, J'.hok, rfl, q⟩
end
section
variable {X : Cx} {CX : CXT} {k : Nat} {f : Addr} {fd : FuncData} {ps : List Str} {sp : Sp} {ds : List Value} {dvs : List V} {E : XK} {x : Str} {p pos : Pos} {e : Expr} {es : List Expr} {t : TA}
theorem pe_callG (F : FnG X.prog X.w X.K X.mg X.base CX k f fd ps sp) (gd : X.A.guards = some []) (hr : Room k X.A) (hg : Gl X x) (hm : X.mg x = some (.ref f)) (hk : PySem.W.keepIn X.K (.ref f) = true)
    (hb : Binds X.K fd ps ds) (hd : Vals dvs ds) (hx : Passes CX X E) (ha : PA X (e :: es) t) (hdb : (x == ("__debug__" : Str)) = false := by decide)
    (he : starEach (e :: es) X.env = (false, eval e X.env) :: starEach es X.env := by rfl) (hpl : (backTo pos (starEach es X.env)).any (·.1) = false := by rfl) :
    PE X (.Call (.Name x p) (e :: es) [] pos) (tCall sp dvs E t) := by
  refine ⟨fun pins s σ H Q I h => wpAny_Call_Name_kw (ld_glob I hg hm ?_ hdb)⟩
  refine PySem.W.callWith_K (h₀ := X.base) I.ok.mod.kin hk ?_ he hpl
  refine thn (ha.run pos pins s σ H _ I h) fun us t1 ⟨ws, H1, J, r, q⟩ => ⟨J.kIn, ?_⟩
  have r2 : Vals (ws ++ dvs) (us ++ ds) := r.append hd
  have hl : (us ++ ds).length = ps.length := r2.length.symm.trans (F.len _ _ _ _ q)
  refine wpAny_call (codeAny_mono (F.go X.A X.stack t1 H1 ⟨us, []⟩ (us ++ ds) (ws ++ dvs) Q E gd hr J.env0 (hb t1 us J.kIn hl) r2 q) ?_)
  intro r t' hq
  cases r with
  | error z => exact hx pins σ H1 t1 z t' J hq
  | ok fl =>
    cases fl with
    | ret u => exact J.after hq
    | next => exact False.elim hq
    | brk => exact False.elim hq
    | cont => exact False.elim hq
end
/-! the law's own call, where its def may print -/
abbrev Tru (s₁ : Shared) (r : Result) (t : Shared) : Prop := r = .ok (.ret (.bool true)) ∧ OldK s₁.heap t.heap ∧ t.os = s₁.os ∧ AllBare t.gens
theorem law_core {P : Program} {w : World} {K : PySem.W.Frag} {mg mb : Str → Option Value} {k : Nat} {fa a : Addr} {fd : FuncData} {x : Str} {sp : Sp} {s₁ : Shared} {vs : List Value} {ns : List Int}
    (kx : K.In s₁.heap) (n1 : s₁.heap.Ns mainGlobals mg) (n2 : s₁.heap.Ns builtinsNs mb) (n3 : ∀ x : Str, x ≠ "__name__" → mb x = bootBuiltins x) (n4 : s₁.heap.NoLimit) (g0 : s₁.gens = #[])
    (oa : s₁.heap.get? a = some { cls := .type "list", data := .seq vs.toArray }) (hr : Room k callerA)
    (F : ∀ base : Heap, K.In base → base.Ns mainGlobals mg → FnG P w K mg base CX0 k fa fd [x] sp) (bd : ∀ (s : Shared) (u : Value), BindsTo s fd ⟨[u], []⟩ [(x, u)])
    (hsp : ∀ H : Hp, Only H → SqL K H a (ns.map V.int) → sp [.ref a] H (fun v _ => v = .bl true) fun _ _ _ => False)
    (H : Hp) (hO : Only H) (hS : SqL K H a (ns.map V.int)) (ok : HOk P w H s₁.heap) (hA : ∀ b, H b ≠ none → b = a) (hK : H a ≠ none → K.lookup a = none) :
    codeAny (model P w) callerA (.call (.ref fa) ⟨[.ref a], []⟩) (Tru s₁) s₁ := by
  have out : ∀ {b : Addr} {o : Obj} {es : Array DictEntry} {ep : Nat}, s₁.heap.get? b = some o → o.data = .dict es ep → H b = none := by
    intro b o es ep e d
    by_cases q : H b = none
    · exact q
    · have z := hA b q
      subst z
      rw [oa] at e
      cases e
      exact nomatch d
  have nsK : ∀ {b : Addr} {m : Str → Option Value}, s₁.heap.Ns b m → (hidT s₁.heap H).Ns b m := by
    rintro b m ⟨o, es, ep, e, d, r⟩
    exact ⟨o, es, ep, hidT_get e (out e d), d, r⟩
  have kb : K.In (hidT s₁.heap H) := by
    intro b o e
    refine hidT_get (kx b o e) ?_
    by_cases q : H b = none
    · exact q
    · have z := hA b q
      subst z
      have y := hK q
      rw [y] at e
      cases e
  have lim : (hidT s₁.heap H).NoLimit := by
    obtain ⟨mc, h1, h2⟩ := n4
    exact ⟨mc, nsK h1, h2⟩
  have md : Mod K mg (hidT s₁.heap H) := ⟨kb, nsK n1, ⟨mb, nsK n2, n3⟩, lim⟩
  have ee : Env0 P w K mg (hidT s₁.heap H) callerA [] s₁ H := by
    refine ⟨rfl, md, fun b o e => of_hidT e, Nat.le_of_eq (hidT_size _ _), trivial, ?_, ok, .of_eq g0⟩
    intro b hb
    exact absurd (show b ∈ ([] : List Addr) from hb) (by simp)
  have run := (F _ kb (nsK n1)).go callerA [] s₁ H ⟨[.ref a], []⟩ [.ref a] [.ref a] _ _ rfl hr ee (bd s₁ (.ref a)) (.cons rfl .nil) (hsp H hO hS)
  refine codeAny_mono run ?_
  intro r t h
  cases r with
  | error e => exact False.elim h
  | ok fl =>
    cases fl with
    | brk => exact False.elim h
    | cont => exact False.elim h
    | next => exact False.elim h
    | ret u =>
      obtain ⟨v, H', os, bare, un, ok', rv, q⟩ := h
      have q' : v = .bl true := q
      subst q'
      obtain rfl : u = Value.bool true := rv
      refine ⟨rfl, OldK.of_keep ?_, os, bare⟩
      intro b o e
      rcases hO b with z | ⟨ob, xs, z⟩
      · exact un.keep b o e z (fun y => absurd (show b ∈ ([] : List Addr) from y) (by simp)) (by simp)
      · obtain ⟨e1, _⟩ := ok b _ z
        obtain ⟨e2, _⟩ := ok' b _ (un.frzs b ob _ z)
        rw [e] at e1
        cases e1
        exact e2
theorem law_callG {P : Program} {w : World} {K : PySem.W.Frag} {mg mb : Str → Option Value} {k : Nat} {fa a : Addr} {fd : FuncData} {x : Str} {sp : Sp} {s₁ : Shared} {vs : List Value} {ns : List Int}
    (kx : K.In s₁.heap) (n1 : s₁.heap.Ns mainGlobals mg) (n2 : s₁.heap.Ns builtinsNs mb) (n3 : ∀ x : Str, x ≠ "__name__" → mb x = bootBuiltins x) (n4 : s₁.heap.NoLimit) (g0 : s₁.gens = #[])
    (oa : s₁.heap.get? a = some { cls := .type "list", data := .seq vs.toArray }) (hi : IntsAre vs ns) (hl : ns.length ≤ sizeLine) (hr : Room k callerA)
    (F : ∀ base : Heap, K.In base → base.Ns mainGlobals mg → FnG P w K mg base CX0 k fa fd [x] sp) (bd : ∀ (s : Shared) (u : Value), BindsTo s fd ⟨[u], []⟩ [(x, u)])
    (hsp : ∀ H : Hp, Only H → SqL K H a (ns.map V.int) → sp [.ref a] H (fun v _ => v = .bl true) fun _ _ _ => False) :
    codeAny (model P w) callerA (.call (.ref fa) ⟨[.ref a], []⟩) (Tru s₁) s₁ := by
  have rv := vals_ints hi
  have lv := rv.length
  rw [List.length_map] at lv
  have go := law_core (ns := ns) kx n1 n2 n3 n4 g0 oa hr F bd hsp
  by_cases hk : K.lookup a = none
  · refine go (fun b => if b = a then some (.frz { cls := .type "list", data := .seq vs.toArray } (.lst (ns.map V.int))) else none) ?_ ?_ ?_ ?_ (fun _ => hk)
    · intro b
      by_cases hb : b = a
      · exact Or.inr ⟨_, _, if_pos hb⟩
      · exact Or.inl (if_neg hb)
    · exact .inl (.inr ⟨{ cls := .type "list", data := .seq vs.toArray }, if_pos rfl⟩)
    · intro b u z
      by_cases hb : b = a
      · cases (if_pos hb).symm.trans z
        subst hb
        exact ⟨oa, by rw [List.length_map]; exact hl, vs, _, rv, oa⟩
      · cases (if_neg hb).symm.trans z
    · intro b z
      by_cases hb : b = a
      · exact hb
      · exact absurd (if_neg hb) z
  · obtain ⟨o, hk⟩ := Option.ne_none_iff_exists'.mp hk
    have e := kx a o hk
    rw [oa] at e
    cases e
    refine go (fun _ => none) (fun _ => .inl rfl) ?_ ?_ (fun b z => absurd rfl z) (fun z => absurd rfl z)
    · exact .inr ⟨_, vs.toArray, _, hk, rfl, rfl, rfl, by rw [List.size_toArray, ← lv]; exact hl, by simpa using rv⟩
    · intro b u z
      exact nomatch (show (none : Option HO) = some u from z)
theorem walkG {l : PySem.W.OpenLaw} {n k : Nat} {q : Program} {loose : List Str} {XP : (Str → Option Value) → Heap → Prop} {YP : World → Heap → Prop} {d : DefRec} {K : Params → PySem.W.Frag} {sp : PySem.W.Frag → Sp} {x : Str}
    (hn : l.most = some n) (hn2 : n ≤ sizeLine) (hdf : d.params.defaults = []) (hr : Room k callerA) (hY : ∀ (w : World) (h : Heap), YP w h → (K w.params).In h)
    (F : ∀ (w : World) (mg : Str → Option Value) (fa : Addr) (h : Heap), (K w.params).In h → h.Ns mainGlobals mg → mg d.name = some (.ref fa) →
      ∃ fd : FuncData, (∀ (s : Shared) (u : Value), BindsTo s fd ⟨[u], []⟩ [(x, u)]) ∧ ∀ base : Heap, (K w.params).In base → base.Ns mainGlobals mg → FnG l.prog w (K w.params) mg base CX0 k fa fd [x] (sp (K w.params)))
    (hsp : ∀ (K : PySem.W.Frag) (H : Hp) (a : Addr) (ns : List Int), ns.length ≤ n → Only H → SqL K H a (ns.map V.int) → sp K [.ref a] H (fun v _ => v = .bl true) fun _ _ _ => False) :
    PySem.W.WalkO q loose XP YP l.row.toRowW d [] (fun f vs => PySem.call f vs) := by
  refine Att.attach_call hn hdf ?_
  intro w s₀ s₁ mg mb fa o pm cd doc a vs ns G Y ho hd hcd hmg hobj hints hlen hg
  obtain ⟨fd, hb, hF⟩ := F w mg fa _ (hY w _ Y) G.T.g hmg
  exact law_callG (hY w _ Y) G.T.g G.T.b G.T.builtins G.T.nolimit hg hobj hints (Nat.le_trans hlen hn2) hr hF hb (fun H hO hS => hsp (K w.params) H a ns hlen hO hS)
/-! heaps: what is kept, but for some addresses -/
def cut (l : List Addr) (H : Hp) : Hp := fun b => if b ∈ l then none else H b
def Off (l : List Addr) (H H' : Hp) : Prop := Same (cut l H) (cut l H')
theorem cut_out {l : List Addr} {H : Hp} {b : Addr} (h : b ∉ l) : cut l H b = H b := if_neg h
theorem cut_in {l : List Addr} {H : Hp} {b : Addr} (h : b ∈ l) : cut l H b = none := if_pos h
theorem cut_some {l : List Addr} {H : Hp} {b : Addr} {o : HO} (h : cut l H b = some o) : b ∉ l ∧ H b = some o := by
  by_cases e : b ∈ l
  · rw [cut_in e] at h
    cases h
  · rw [cut_out e] at h
    exact ⟨e, h⟩
theorem same_new {H : Hp} {p : Addr} (h : H p = none) (o : HO) : Same H (upd H p o) := fun b u q => by
  rw [upd_ne (ne_of_none q h)]
  exact q
theorem cut_same (l : List Addr) (H : Hp) : Same (cut l H) H := fun _ _ h => (cut_some h).2
theorem Off.refl (l : List Addr) (H : Hp) : Off l H H := Same.refl _
theorem Off.trans {l : List Addr} {H H1 H2 : Hp} (a : Off l H H1) (b : Off l H1 H2) : Off l H H2 := Same.trans a b
theorem Off.of {l : List Addr} {H H' : Hp} (s : Same H H') : Off l H H' := fun b o h => by
  obtain ⟨n, e⟩ := cut_some h
  rw [cut_out n]
  exact s b o e
theorem Off.get {l : List Addr} {H H' : Hp} (s : Off l H H') {b : Addr} {o : HO} (h : H b = some o) (n : b ∉ l) : H' b = some o := by
  have q := s b o (by rw [cut_out n]; exact h)
  exact (cut_some q).2
theorem Off.mono {l m : List Addr} {H H' : Hp} (s : Off l H H') (h : ∀ b ∈ l, b ∈ m) : Off m H H' := fun b o e => by
  obtain ⟨n, e⟩ := cut_some e
  rw [cut_out n]
  exact s.get e fun z => n (h b z)
/-- a change at an address that is not counted -/
theorem Off.put {l : List Addr} {H : Hp} {p : Addr} {o : HO} (h : p ∈ l) : Off l H (upd H p o) := fun b u e => by
  obtain ⟨n, e⟩ := cut_some e
  rw [cut_out n, upd_ne (fun z => n (by rw [z]; exact h))]
  exact e
/-- an address that was free then -/
theorem Off.free {l : List Addr} {H H' : Hp} (s : Off l H H') {b : Addr} (h : H' b = none) (n : b ∉ l) : H b = none := by
  cases q : H b with
  | none => rfl
  | some o =>
    rw [s.get q n] at h
    cases h
/-! data -/
theorem seqT_up {K : PySem.W.Frag} {H H' : Hp} {a : Addr} {xs : List V} (s : Same H H') (h : SqT K H a xs) : SqT K H' a xs := by
  rcases h with (h | ⟨o, h⟩) | h
  · exact .inl (.inl (s _ _ h))
  · exact .inl (.inr ⟨o, s _ _ h⟩)
  · exact .inr h
mutual
theorem Dp.up {K : PySem.W.Frag} {H H' : Hp} (s : Same H H') : ∀ (d : PyData) (v : V), Dp K H v d → Dp K H' v d
  | .none, _, h => by cases h; exact .non
  | .bool b, _, h => by cases h; exact .bl b
  | .int i, _, h => by cases h; exact .int i
  | .str x, _, h => by cases h; exact .str x
  | .list ds, _, h => by
    cases h with
    | lst h1 h2 => exact .lst (s.seq h1) (Dp.ups s ds _ h2)
  | .tuple ds, _, h => by
    cases h with
    | tup h1 h2 => exact .tup (seqT_up s h1) (Dp.ups s ds _ h2)
  | .dict _, _, h => by cases h
theorem Dp.ups {K : PySem.W.Frag} {H H' : Hp} (s : Same H H') : ∀ (ds : List PyData) (vs : List V), DpAll K H vs ds → DpAll K H' vs ds
  | [], _, h => by cases h; exact .nil
  | d :: ds, _, h => by
    cases h with
    | cons h1 h2 => exact .cons (Dp.up s d _ h1) (Dp.ups s ds _ h2)
end
theorem DpAll.len {K : PySem.W.Frag} {H : Hp} : ∀ {vs : List V} {ds : List PyData}, DpAll K H vs ds → vs.length = ds.length
  | _, _, .nil => rfl
  | _, _, .cons _ t => congrArg (· + 1) (DpAll.len t)
theorem DpAll.get {K : PySem.W.Frag} {H : Hp} : ∀ {vs : List V} {ds : List PyData} {i : Nat} {v : V}, DpAll K H vs ds → vs[i]? = some v → ∃ d, ds[i]? = some d ∧ Dp K H v d
  | _, _, _, _, .nil, e => by simp at e
  | _, _, 0, _, .cons h _, e => by simp at e; subst e; exact ⟨_, rfl, h⟩
  | _, _, i + 1, _, .cons _ t, e => by
    obtain ⟨d, a, b⟩ := DpAll.get (i := i) t (by simpa using e)
    exact ⟨d, by simpa using a, b⟩
theorem DpAll.app {K : PySem.W.Frag} {H : Hp} : ∀ {vs ws : List V} {ds es : List PyData}, DpAll K H vs ds → DpAll K H ws es → DpAll K H (vs ++ ws) (ds ++ es)
  | _, _, _, _, .nil, s => s
  | _, _, _, _, .cons r t, s => .cons r (DpAll.app t s)
/-- the name of a thing's type -/
def tyN : PyData → String
  | .none => "NoneType"
  | .bool _ => "bool"
  | .int _ => "int"
  | .str _ => "str"
  | .list _ => "list"
  | .tuple _ => "tuple"
  | .dict _ => "dict"
theorem tyD {K : PySem.W.Frag} {H : Hp} {v : V} {d : PyData} (h : Dp K H v d) : TyX K H v (.type (tyN d)) := by
  cases h with
  | non => exact .base .non
  | bl b => exact .base (.bl b)
  | int i => exact .base (.int i)
  | str x => exact .base (.str x)
  | lst h _ =>
    rcases h with (h | ⟨o, h⟩) | ⟨o, its, n, h, c, _⟩
    · exact .base (.lst h)
    · exact .base (.frz h)
    · exact .kList h c
  | tup h _ =>
    rcases h with (h | ⟨o, h⟩) | ⟨o, its, n, h, c, _⟩
    · exact .base (.tup h)
    · exact .fTuple h
    · exact .kTuple h c
/-- isinstance(x, T) of data -/
def rIsD (K : PySem.W.Frag) : List V → Hp → VK → Prop := fun xs H Q =>
  ∃ v d T b, xs = [v, .ty T] ∧ Dp K H v d ∧ kitB (tyN d) T = some b ∧ Q (.bl b) H
theorem call_isD {X : Cx} : CallR X (.builtin "isinstance") (rIsD X.K) := by
  intro pins s σ H xs us Q I r h
  obtain ⟨v, d, T, b, rfl, hd, hk, q⟩ := h
  exact call_isi pins s σ H _ us Q I r ⟨v, .ty T, _, _, b, rfl, .ty T, tyD hd, kit_ty hk, q⟩
/-! the box that a law draws from -/
def bx (g : Addr) (n s t : Int) : List (Key × V) := [(Sum.inr "great", .ref g), (Sum.inr "now", .int n), (Sum.inr "seed", .int s), (Sum.inr "turn", .int t)]
structure Box (H : Hp) (p g : Addr) : Prop where
  ex : ∃ n s t gs, H p = some (.dK (bx g n s t)) ∧ H g = some (.lst (List.map V.int gs)) ∧ gs.length ≤ 1000
theorem Box.ne {H : Hp} {p g : Addr} (b : Box H p g) : p ≠ g := by
  obtain ⟨n, s, t, gs, h1, h2, _⟩ := b.ex
  exact ne_of h1 h2 (by intro z; cases z)
theorem Box.off {H H' : Hp} {p g : Addr} {l : List Addr} (b : Box H p g) (h : Off l H H') (n1 : p ∉ l) (n2 : g ∉ l) : Box H' p g := by
  obtain ⟨n, s, t, gs, h1, h2, h3⟩ := b.ex
  exact ⟨n, s, t, gs, h.get h1 n1, h.get h2 n2, h3⟩
theorem Box.same {H H' : Hp} {p g : Addr} (b : Box H p g) (h : Same H H') : Box H' p g := by
  obtain ⟨n, s, t, gs, h1, h2, h3⟩ := b.ex
  exact ⟨n, s, t, gs, h _ _ h1, h _ _ h2, h3⟩
theorem kgn : ¬ ((Sum.inr "great" : Key) = (Sum.inr "now" : Key)) := by decide +kernel
theorem kgs : ¬ ((Sum.inr "great" : Key) = (Sum.inr "seed" : Key)) := by decide +kernel
theorem kgt : ¬ ((Sum.inr "great" : Key) = (Sum.inr "turn" : Key)) := by decide +kernel
theorem kns : ¬ ((Sum.inr "now" : Key) = (Sum.inr "seed" : Key)) := by decide +kernel
theorem knt : ¬ ((Sum.inr "now" : Key) = (Sum.inr "turn" : Key)) := by decide +kernel
theorem kst : ¬ ((Sum.inr "seed" : Key) = (Sum.inr "turn" : Key)) := by decide +kernel
theorem knf (a b : Key) (h : ¬ a = b) : ¬ b = a := fun z => h z.symm
section
variable (g : Addr) (n s t : Int)
theorem bx_great : valV (bx g n s t) (Sum.inr "great" : Key) = some (.ref g) := by
  simp [valV, bx]
theorem bx_now : valV (bx g n s t) (Sum.inr "now" : Key) = some (.int n) := by
  simp only [valV, bx, List.find?_cons, decide_eq_false kgn, decide_true, Option.map_some]
theorem bx_seed : valV (bx g n s t) (Sum.inr "seed" : Key) = some (.int s) := by
  simp only [valV, bx, List.find?_cons, decide_eq_false kgs, decide_eq_false kns, decide_true, Option.map_some]
theorem bx_turn : valV (bx g n s t) (Sum.inr "turn" : Key) = some (.int t) := by
  simp only [valV, bx, List.find?_cons, decide_eq_false kgt, decide_eq_false knt, decide_eq_false kst, decide_true, Option.map_some]
theorem put_now (y : Int) : putK (bx g n s t) (Sum.inr "now" : Key) (.int y) = bx g y s t := by
  simp only [putK, bx, List.any_cons, List.map_cons, List.map_nil, decide_true, Bool.true_or, Bool.or_true, if_true, if_neg kgn, if_neg (knf _ _ kns), if_neg (knf _ _ knt)]
theorem put_seed (y : Int) : putK (bx g n s t) (Sum.inr "seed" : Key) (.int y) = bx g n y t := by
  simp only [putK, bx, List.any_cons, List.map_cons, List.map_nil, decide_true, Bool.true_or, Bool.or_true, if_true, if_neg kgs, if_neg kns, if_neg (knf _ _ kst)]
theorem put_turn (y : Int) : putK (bx g n s t) (Sum.inr "turn" : Key) (.int y) = bx g n s y := by
  simp only [putK, bx, List.any_cons, List.map_cons, List.map_nil, decide_true, Bool.true_or, Bool.or_true, if_true, if_neg kgt, if_neg knt, if_neg kst]
theorem mer_box : mergeK [] (bx g n s t) = bx g n s t := by
  simp only [mergeK, bx, List.foldl_cons, List.foldl_nil, putK, List.any_nil, List.any_cons, List.nil_append, List.cons_append, decide_eq_false kgn, decide_eq_false kgs, decide_eq_false kgt, decide_eq_false kns, decide_eq_false knt, decide_eq_false kst, Bool.or_false, if_neg Bool.false_ne_true]
end
/-! data that can be printed: small ints, short texts, few nodes -/
mutual
def gd : PyData → Bool
  | .none => true
  | .bool _ => true
  | .int i => decide (i.natAbs.log2 < 1920)
  | .str x => decide (x.length ≤ 100) && x.cps.toList.all fun c => decide (c < 128)
  | .list ds => gds ds
  | .tuple ds => gds ds
  | .dict _ => false
def gds : List PyData → Bool
  | [] => true
  | d :: ds => gd d && gds ds
end
mutual
def nod : PyData → Nat
  | .list ds => 1 + nods ds
  | .tuple ds => 1 + nods ds
  | .none => 1
  | .bool _ => 1
  | .int _ => 1
  | .str _ => 1
  | .dict _ => 1
def nods : List PyData → Nat
  | [] => 0
  | d :: ds => nod d + nods ds
end
mutual
theorem gd_sh : ∀ d : PyData, gd d = true → d.showable = true ∧ d.hasDict = false
  | .none, _ => ⟨by simp only [PyData.showable], by simp only [PyData.hasDict]⟩
  | .bool _, _ => ⟨by simp only [PyData.showable], by simp only [PyData.hasDict]⟩
  | .int i, h => ⟨by simpa only [PyData.showable, gd] using h, by simp only [PyData.hasDict]⟩
  | .str _, _ => ⟨by simp only [PyData.showable], by simp only [PyData.hasDict]⟩
  | .list ds, h => by
    have q := gds_sh ds (by simpa only [gd] using h)
    exact ⟨by simpa only [PyData.showable] using q.1, by simpa only [PyData.hasDict] using q.2⟩
  | .tuple ds, h => by
    have q := gds_sh ds (by simpa only [gd] using h)
    exact ⟨by simpa only [PyData.showable] using q.1, by simpa only [PyData.hasDict] using q.2⟩
  | .dict _, h => by simp [gd] at h
theorem gds_sh : ∀ ds : List PyData, gds ds = true → PyData.showableAll ds = true ∧ PyData.hasDictAll ds = false
  | [], _ => ⟨by simp only [PyData.showableAll], by simp only [PyData.hasDictAll]⟩
  | d :: ds, h => by
    simp only [gds, Bool.and_eq_true] at h
    have q1 := gd_sh d h.1
    have q2 := gds_sh ds h.2
    exact ⟨by simp only [PyData.showableAll, q1.1, q2.1, Bool.and_self], by simp only [PyData.hasDictAll, q1.2, q2.2, Bool.or_self]⟩
end
mutual
theorem gd_sz : ∀ d : PyData, gd d = true → d.shown.length + 2 ≤ 2000 * nod d
  | .none, _ => by
    simp only [PyData.shown, nod]
    decide +kernel
  | .bool b, _ => by
    simp only [PyData.shown, nod]
    cases b <;> decide +kernel
  | .int i, h => by
    have h1 : i.natAbs.log2 < 1920 := by simpa only [gd, decide_eq_true_eq] using h
    have q := int_text_len_1921 h1
    simp only [PyData.shown, nod]
    show (Str.ofString (toString i)).length + 2 ≤ _
    omega
  | .str x, h => by
    simp only [gd, Bool.and_eq_true, decide_eq_true_eq, List.all_eq_true] at h
    have q := StrLaws.reprText_len x (fun c hc => Nat.lt_of_lt_of_le (h.2 c hc) (by decide))
    simp only [PyData.shown, nod]
    omega
  | .list ds, h => by
    have q := gds_sz ds (by simpa only [gd] using h)
    have q2 := listText_len_le (PyData.shownAll ds)
    simp only [PyData.shown, nod]
    omega
  | .tuple ds, h => by
    have q := gds_sz ds (by simpa only [gd] using h)
    have q2 := tupleText_len_le (PyData.shownAll ds)
    simp only [PyData.shown, nod]
    omega
  | .dict _, h => by simp [gd] at h
theorem gds_sz : ∀ ds : List PyData, gds ds = true → ((PyData.shownAll ds).map (·.length)).sum + 2 * (PyData.shownAll ds).length ≤ 2000 * nods ds
  | [], _ => by simp [PyData.shownAll, nods]
  | d :: ds, h => by
    simp only [gds, Bool.and_eq_true] at h
    have q1 := gd_sz d h.1
    have q2 := gds_sz ds h.2
    simp only [PyData.shownAll, nods, List.map_cons, List.sum_cons, List.length_cons]
    omega
end
theorem prn_of {d : PyData} (h : gd d = true) (hn : nod d ≤ 8000) (hd : d.depth ≤ 60) : Prn d :=
  ⟨(gd_sh d h).1, (gd_sh d h).2, hd, by
    have q := gd_sz d h
    have e : sizeLine = 16777216 := by decide
    omega⟩
theorem gds_app : ∀ ds es : List PyData, gds (ds ++ es) = (gds ds && gds es)
  | [], es => by simp [gds]
  | d :: ds, es => by simp only [List.cons_append, gds, gds_app ds es, Bool.and_assoc]
theorem nods_app : ∀ ds es : List PyData, nods (ds ++ es) = nods ds + nods es
  | [], es => by simp [nods]
  | d :: ds, es => by simp only [List.cons_append, nods, nods_app ds es, Nat.add_assoc]
theorem nod_pos : ∀ d : PyData, 1 ≤ nod d
  | .list _ => by simp only [nod]; omega
  | .tuple _ => by simp only [nod]; omega
  | .none => by simp only [nod]; omega
  | .bool _ => by simp only [nod]; omega
  | .int _ => by simp only [nod]; omega
  | .str _ => by simp only [nod]; omega
  | .dict _ => by simp only [nod]; omega
theorem nods_len : ∀ ds : List PyData, ds.length ≤ nods ds
  | [] => Nat.le_refl _
  | d :: ds => by
    have := nod_pos d
    have := nods_len ds
    simp only [nods, List.length_cons]
    omega
theorem gds_mem : ∀ {ds : List PyData} {d : PyData}, gds ds = true → d ∈ ds → gd d = true
  | _ :: _, _, h, m => by
    simp only [gds, Bool.and_eq_true] at h
    rcases List.mem_cons.mp m with e | e
    · rw [e]
      exact h.1
    · exact gds_mem h.2 e
theorem nods_mem : ∀ {ds : List PyData} {d : PyData}, d ∈ ds → nod d ≤ nods ds
  | _ :: _, _, m => by
    simp only [nods]
    rcases List.mem_cons.mp m with e | e
    · rw [e]
      omega
    · have := nods_mem e
      omega
theorem depth_mem : ∀ {ds : List PyData} {d : PyData}, d ∈ ds → d.depth ≤ PyData.depthAll ds
  | _ :: _, _, m => by
    simp only [PyData.depthAll]
    rcases List.mem_cons.mp m with e | e
    · rw [e]
      omega
    · have := depth_mem e
      omega
theorem depthAll_app : ∀ ds es : List PyData, PyData.depthAll (ds ++ es) = max (PyData.depthAll ds) (PyData.depthAll es)
  | [], es => by simp [PyData.depthAll]
  | d :: ds, es => by simp only [List.cons_append, PyData.depthAll, depthAll_app ds es, Nat.max_assoc]
/-- built-in names that the top leaves as they are -/
structure Bi (mg : Str → Option Value) : Prop where
  ii : mg "isinstance" = none
  len : mg "len" = none
  all : mg "all" = none
  str : mg "str" = none
  tup : mg "tuple" = none
  int : mg "int" = none
  bool : mg "bool" = none
  rng : mg "range" = none
  rep : mg "repr" = none
  abs : mg "abs" = none
/-! names -/
def lowOk (c : Nat) : Bool := decide (97 ≤ c) && decide (c ≤ 122)
def isNm (x : Str) : Bool := decide (1 ≤ x.length) && decide (x.length ≤ 8) && x.cps.toList.all lowOk
mutual
def isVal : PyData → Bool
  | .int _ => true
  | .str x => isNm x
  | .tuple ds => isVals ds
  | .none => false
  | .bool _ => false
  | .list _ => false
  | .dict _ => false
def isVals : List PyData → Bool
  | [] => true
  | d :: ds => isVal d && isVals ds
end
theorem isVals_app : ∀ ds es : List PyData, isVals (ds ++ es) = (isVals ds && isVals es)
  | [], es => by simp [isVals]
  | d :: ds, es => by simp only [List.cons_append, isVals, isVals_app ds es, Bool.and_assoc]
def isTup : PyData → Bool
  | .tuple _ => true
  | _ => false
def nmD : PyData → Bool
  | .str x => isNm x
  | _ => false
def inD : PyData → Bool
  | .int _ => true
  | _ => false
def isStr : PyData → Bool
  | .str _ => true
  | _ => false
def isIntB : PyData → Bool
  | .int _ => true
  | .bool _ => true
  | _ => false
def isBool : PyData → Bool
  | .bool _ => true
  | _ => false
theorem kit_tup : ∀ d : PyData, kitB (tyN d) "tuple" = some (isTup d)
  | .none => (by decide +kernel : kitB "NoneType" "tuple" = some false)
  | .bool _ => (by decide +kernel : kitB "bool" "tuple" = some false)
  | .int _ => (by decide +kernel : kitB "int" "tuple" = some false)
  | .str _ => (by decide +kernel : kitB "str" "tuple" = some false)
  | .list _ => (by decide +kernel : kitB "list" "tuple" = some false)
  | .tuple _ => (by decide +kernel : kitB "tuple" "tuple" = some true)
  | .dict _ => (by decide +kernel : kitB "dict" "tuple" = some false)
theorem kit_str : ∀ d : PyData, kitB (tyN d) "str" = some (isStr d)
  | .none => (by decide +kernel : kitB "NoneType" "str" = some false)
  | .bool _ => (by decide +kernel : kitB "bool" "str" = some false)
  | .int _ => (by decide +kernel : kitB "int" "str" = some false)
  | .str _ => (by decide +kernel : kitB "str" "str" = some true)
  | .list _ => (by decide +kernel : kitB "list" "str" = some false)
  | .tuple _ => (by decide +kernel : kitB "tuple" "str" = some false)
  | .dict _ => (by decide +kernel : kitB "dict" "str" = some false)
theorem kit_int : ∀ d : PyData, kitB (tyN d) "int" = some (isIntB d)
  | .none => (by decide +kernel : kitB "NoneType" "int" = some false)
  | .bool _ => (by decide +kernel : kitB "bool" "int" = some true)
  | .int _ => (by decide +kernel : kitB "int" "int" = some true)
  | .str _ => (by decide +kernel : kitB "str" "int" = some false)
  | .list _ => (by decide +kernel : kitB "list" "int" = some false)
  | .tuple _ => (by decide +kernel : kitB "tuple" "int" = some false)
  | .dict _ => (by decide +kernel : kitB "dict" "int" = some false)
theorem kit_bool : ∀ d : PyData, kitB (tyN d) "bool" = some (isBool d)
  | .none => (by decide +kernel : kitB "NoneType" "bool" = some false)
  | .bool _ => (by decide +kernel : kitB "bool" "bool" = some true)
  | .int _ => (by decide +kernel : kitB "int" "bool" = some false)
  | .str _ => (by decide +kernel : kitB "str" "bool" = some false)
  | .list _ => (by decide +kernel : kitB "list" "bool" = some false)
  | .tuple _ => (by decide +kernel : kitB "tuple" "bool" = some false)
  | .dict _ => (by decide +kernel : kitB "dict" "bool" = some false)
theorem one_lt (c d : Nat) : (([c] : List Nat) < [d]) ↔ c < d := by
  constructor
  · intro h
    cases h with
    | rel h => exact h
    | cons h => cases h
  · intro h
    exact .rel h
theorem cps_a : (("a" : Str)).cps.toList = [97] := by decide +kernel
theorem cps_z : (("z" : Str)).cps.toList = [122] := by decide +kernel
theorem ge_a (c : Nat) : (!decide ((⟨#[c]⟩ : Str).cps.toList < ("a" : Str).cps.toList)) = decide (97 ≤ c) := by
  rw [cps_a]
  by_cases h : 97 ≤ c
  · have : ¬ ((⟨#[c]⟩ : Str).cps.toList < [97]) := fun z => by
      have := (one_lt c 97).mp z
      omega
    rw [decide_eq_false this, decide_eq_true h]
    rfl
  · have : ((⟨#[c]⟩ : Str).cps.toList < [97]) := (one_lt c 97).mpr (by omega)
    rw [decide_eq_true this, decide_eq_false h]
    rfl
theorem le_z (c : Nat) : (!decide (("z" : Str).cps.toList < (⟨#[c]⟩ : Str).cps.toList)) = decide (c ≤ 122) := by
  rw [cps_z]
  by_cases h : c ≤ 122
  · have : ¬ (([122] : List Nat) < (⟨#[c]⟩ : Str).cps.toList) := fun z => by
      have := (one_lt 122 c).mp z
      omega
    rw [decide_eq_false this, decide_eq_true h]
    rfl
  · have : (([122] : List Nat) < (⟨#[c]⟩ : Str).cps.toList) := (one_lt 122 c).mpr (by omega)
    rw [decide_eq_true this, decide_eq_false h]
    rfl
theorem gd_str {x : Str} (h : gd (.str x) = true) : x.length ≤ 100 := by
  simp only [gd, Bool.and_eq_true, decide_eq_true_eq] at h
  exact h.1
theorem len_cps (x : Str) : x.length = x.cps.size := rfl
theorem cps_at {x : Str} {i c : Nat} (h : x.cps[i]? = some c) : x.cps.toList[i]? = some c := by simpa using h
/-- what is found going along a list -/
theorem take_snoc {α β : Type} (f : α → β) {l : List α} {i : Nat} {a : α} (h : l[i]? = some a) : (l.take (i + 1)).map f = (l.take i).map f ++ [f a] := by
  rw [List.take_add_one, h, List.map_append]
  rfl
theorem all_map {α : Type} (f : α → Bool) : ∀ l : List α, (l.map f).all id = l.all f
  | [] => rfl
  | a :: l => by simp only [List.map_cons, List.all_cons, all_map f l, id]
/-! promises of those that only look -/
def spLook (K : PySem.W.Frag) (ok : PyData → Prop) (g : PyData → V) : Sp := fun vs H Q _ => ∃ v d, vs = [v] ∧ Dp K H v d ∧ ok d ∧ ∀ H', Same H H' → Q (g d) H'
theorem DpAll.unapp {K : PySem.W.Frag} {H : Hp} : ∀ {xs ys : List V} {ds : List PyData}, DpAll K H (xs ++ ys) ds → ∃ d1 d2, ds = d1 ++ d2 ∧ DpAll K H xs d1 ∧ DpAll K H ys d2
  | [], _, ds, h => ⟨[], ds, rfl, .nil, h⟩
  | x :: xs, _, _, h => by
    cases h with
    | cons h1 h2 =>
      obtain ⟨d1, d2, e, a, b⟩ := DpAll.unapp (xs := xs) h2
      exact ⟨_ :: d1, d2, by rw [e]; rfl, .cons h1 a, b⟩
theorem DpAll.last {K : PySem.W.Frag} {H : Hp} {xs : List V} {ds : List PyData} (h : DpAll K H xs ds) (hx : xs ≠ []) : ∃ xs' v ds' d, xs = xs' ++ [v] ∧ ds = ds' ++ [d] ∧ DpAll K H xs' ds' ∧ Dp K H v d := by
  have e := (List.dropLast_concat_getLast hx).symm
  rw [e] at h
  obtain ⟨d1, d2, e2, a, b⟩ := DpAll.unapp h
  cases b with
  | cons b1 b2 =>
    cases b2
    exact ⟨_, _, d1, _, e, e2, a, b1⟩
theorem last_at (xs : List V) (v : V) : (xs ++ [v])[(xs ++ [v]).length - 1]? = some v := by simp
theorem drop_last (xs : List V) (v : V) : (xs ++ [v]).dropLast = xs := by simp
theorem tup_of {K : PySem.W.Frag} {H : Hp} {v : V} {d : PyData} (h : Dp K H v d) (ht : isTup d = true) : ∃ a xs ds, v = .ref a ∧ d = .tuple ds ∧ SqT K H a xs ∧ DpAll K H xs ds := by
  cases h with
  | tup h1 h2 => exact ⟨_, _, _, rfl, rfl, h1, h2⟩
  | non => cases ht
  | bl b => cases ht
  | int i => cases ht
  | str x => cases ht
  | lst h1 h2 => cases ht
theorem isVal_no {d : PyData} (h1 : isTup d = false) : isVal d = (inD d || nmD d) := by
  cases d with
  | tuple ds => exact absurd (show true = false from h1) (by decide)
  | str x => simp only [isVal, inD, nmD, Bool.false_or]
  | int i => simp only [isVal, inD, nmD, Bool.true_or]
  | none => simp only [isVal, inD, nmD, Bool.or_self]
  | bool b => simp only [isVal, inD, nmD, Bool.or_self]
  | list b => simp only [isVal, inD, nmD, Bool.or_self]
  | dict b => simp only [isVal, inD, nmD, Bool.or_self]
/-- going along anything: what one turn does is B -/
theorem along {J : It} {n : Nat} {G : Hp → Prop} {Y : Nat → Hp → V → Hp → Prop} (w : Walk J n G Y) {B : (Hp → Prop) → V → Hp → Prop} {H0 : Hp} {Qd : Hp → Prop} (Pv : Nat → Hp → Prop) (h0 : Pv 0 H0) (hG : ∀ i H, i ≤ n → Pv i H → G H)
    (hs : ∀ i x H H', i < n → Pv i H → Y i H x H' → B (Pv (i + 1)) x H') (hd : ∀ H, Pv n H → Qd H) :
    ∃ W : Nat → Nat → Hp → Prop, (∃ m, W 0 m H0) ∧ ∀ i m H, W i m H → (J.stop i H ∧ Qd H) ∨ (J.go i H ∧ ∃ Nx : Hp → Prop, (∀ H', Nx H' → ∃ m', m' < m ∧ W (i + 1) m' H') ∧ ∀ x H', J.yld i H x H' → B Nx x H') := by
  refine ⟨fun i m H => i ≤ n ∧ m + i = n ∧ Pv i H, ⟨n, Nat.zero_le _, rfl, h0⟩, ?_⟩
  rintro i m H ⟨hi, hm, p⟩
  have gg := hG i H hi p
  by_cases lt : i < n
  · refine Or.inr ⟨w.goes i H lt gg, Pv (i + 1), ?_, ?_⟩
    · intro H' p'
      exact ⟨m - 1, by omega, by omega, by omega, p'⟩
    · intro x H' y
      exact hs i x H H' lt p (w.yields i H x H' lt gg y)
  · have e : i = n := by omega
    subst e
    exact Or.inl ⟨w.stops H gg, hd H p⟩
mutual
def dep : PyData → Nat
  | .tuple ds => 1 + deps ds
  | .none => 0
  | .bool _ => 0
  | .int _ => 0
  | .str _ => 0
  | .list _ => 0
  | .dict _ => 0
def deps : List PyData → Nat
  | [] => 0
  | d :: ds => max (dep d) (deps ds)
end
def kids : PyData → List PyData
  | .tuple ds => ds
  | _ => []
theorem deps_app : ∀ ds es : List PyData, deps (ds ++ es) = max (deps ds) (deps es)
  | [], es => by simp [deps]
  | d :: ds, es => by simp only [List.cons_append, deps, deps_app ds es, Nat.max_assoc]
theorem dep_no {d : PyData} (h : isTup d = false) : dep d = 0 := by
  cases d with
  | tuple ds => exact absurd (show true = false from h) (by decide)
  | str x => simp only [dep]
  | int i => simp only [dep]
  | none => simp only [dep]
  | bool b => simp only [dep]
  | list b => simp only [dep]
  | dict b => simp only [dep]
theorem deps_filter : ∀ ds : List PyData, deps (ds.filter isTup) = deps ds
  | [] => rfl
  | d :: ds => by
    cases h : isTup d with
    | true => simp only [List.filter_cons, h, if_true, deps, deps_filter ds]
    | false => simp only [List.filter_cons, h, Bool.false_eq_true, if_false, deps, deps_filter ds, dep_no h, Nat.zero_max]
theorem deps_kids : ∀ ds : List PyData, (∀ d ∈ ds, isTup d = true) → ds ≠ [] → deps ds = 1 + deps (ds.flatMap kids)
  | [], _, h => absurd rfl h
  | d :: ds, h, _ => by
    have hd := h d List.mem_cons_self
    have e1 : dep d = 1 + deps (kids d) := by
      cases d with
      | tuple es => simp only [dep, kids]
      | _ => cases hd
    rw [List.flatMap_cons, deps_app]
    simp only [deps]
    by_cases e : ds = []
    · subst e
      simp only [deps, List.flatMap_nil, e1]
      omega
    · have ih := deps_kids ds (fun x hx => h x (List.mem_cons_of_mem _ hx)) e
      rw [ih, e1]
      omega
theorem nods_kids : ∀ ds : List PyData, nods (ds.flatMap kids) ≤ nods ds
  | [] => Nat.le_refl _
  | d :: ds => by
    rw [List.flatMap_cons, nods_app]
    have ih := nods_kids ds
    have e : nods (kids d) ≤ nod d := by
      cases d <;> simp only [kids, nods, nod] <;> omega
    simp only [nods]
    omega
theorem nods_filter (p : PyData → Bool) : ∀ ds : List PyData, nods (ds.filter p) ≤ nods ds
  | [] => Nat.le_refl _
  | d :: ds => by
    have ih := nods_filter p ds
    have := nod_pos d
    cases h : p d with
    | true =>
      simp only [List.filter_cons, h, if_true, nods]
      omega
    | false =>
      simp only [List.filter_cons, h, Bool.false_eq_true, if_false, nods]
      omega
theorem nods_take (ds : List PyData) (i : Nat) : nods (ds.take i) ≤ nods ds := by
  have e := congrArg nods (List.take_append_drop i ds)
  rw [nods_app] at e
  omega
theorem get_take {α : Type} {l : List α} {i : Nat} {a : α} (h : l[i]? = some a) : l.take (i + 1) = l.take i ++ [a] := by
  rw [List.take_add_one, h]
  rfl
theorem call_isK {X : Cx} {K : PySem.W.Frag} (h : X.K = K) : CallR X (.builtin "isinstance") (rIsD K) := by
  subst h
  exact call_isD
theorem pi_tupK {X : Cx} {K : PySem.W.Frag} {tg l : Expr} {tl : TE} (h : X.K = K) (hl : PE X l tl) : PI X tg l (iTup K tl) := by
  subst h
  exact pi_tup hl
theorem pi_listK {X : Cx} {K : PySem.W.Frag} {tg l : Expr} {tl : TE} (h : X.K = K) (hl : PE X l tl) : PI X tg l (iList K tl) := by
  subst h
  exact pi_list hl
theorem b_ii : bootBuiltins "isinstance" = some (.builtin "isinstance") := by decide +kernel
theorem b_tup : bootBuiltins "tuple" = some (.type "tuple") := by decide +kernel
theorem b_all : bootBuiltins "all" = some (.builtin "all") := by decide +kernel
theorem b_str : bootBuiltins "str" = some (.type "str") := by decide +kernel
theorem b_int : bootBuiltins "int" = some (.type "int") := by decide +kernel
theorem b_bool : bootBuiltins "bool" = some (.type "bool") := by decide +kernel
theorem b_abs : bootBuiltins "abs" = some (.builtin "abs") := by decide +kernel
theorem b_rep : bootBuiltins "repr" = some (.builtin "repr") := by decide +kernel
theorem b_max : bootBuiltins "max" = some (.builtin "max") := by decide +kernel
theorem b_list : bootBuiltins "list" = some (.type "list") := by decide +kernel
/-! short texts of plain signs -/
structure Sm (n : Nat) (x : Str) : Prop where
  le : x.length ≤ n
  lo : ∀ c ∈ x.cps.toList, c < 128
theorem Sm.gd {n : Nat} {x : Str} (h : Sm n x) (hn : n ≤ 100) : Rl.gd (.str x) = true := by
  have h1 := h.le
  have h3 : x.length ≤ 100 := by omega
  have h2 : (x.cps.toList.all fun c => decide (c < 128)) = true := List.all_eq_true.mpr fun c hc => decide_eq_true (h.lo c hc)
  simp only [Rl.gd, decide_eq_true h3, h2, Bool.and_self]
theorem Sm.mono {n m : Nat} {x : Str} (h : Sm n x) (hn : n ≤ m) : Sm m x := ⟨Nat.le_trans h.le hn, h.lo⟩
theorem Sm.fits {n : Nat} {x : Str} (h : Sm n x) (hn : n ≤ 1000) : x.length ≤ sizeLine := Nat.le_trans h.le (Nat.le_of_lt (small1000 hn))
theorem app_cps (x y : Str) : (x ++ y).cps.toList = x.cps.toList ++ y.cps.toList := by
  show (x.cps ++ y.cps).toList = _
  simp
theorem Sm.app {n m : Nat} {x y : Str} (h : Sm n x) (g : Sm m y) : Sm (n + m) (x ++ y) := by
  refine ⟨?_, fun c hc => ?_⟩
  · rw [Str.length_append]
    have := h.le
    have := g.le
    omega
  · rw [app_cps] at hc
    rcases List.mem_append.mp hc with z | z
    · exact h.lo c z
    · exact g.lo c z
theorem Sm.cut {n : Nat} {x : Str} (h : Sm n x) (lo hi : Option Int) : Sm n (cutS x lo hi) := by
  refine ⟨Nat.le_trans (cutS_length x lo hi) h.le, fun c hc => h.lo c ?_⟩
  unfold cutS at hc
  exact List.mem_of_mem_drop (List.mem_of_mem_take (by simpa using hc))
theorem Sm.up {n : Nat} {x : Str} (h : Sm n x) : Sm n (Txt.upper x) := by
  rw [upper_ascii h.lo]
  refine ⟨?_, fun c hc => ?_⟩
  · have := h.le
    show (x.cps.map up1).size ≤ n
    rw [Array.size_map]
    exact this
  · rw [Array.toList_map] at hc
    obtain ⟨b, hb, rfl⟩ := List.mem_map.mp hc
    have := h.lo b hb
    unfold up1
    split <;> omega
theorem Sm.of {x : Str} {n : Nat} (h : (decide (x.length ≤ n) && x.cps.toList.all fun c => decide (c < 128)) = true) : Sm n x := by
  rw [Bool.and_eq_true] at h
  exact ⟨of_decide_eq_true h.1, fun c hc => of_decide_eq_true (List.all_eq_true.mp h.2 c hc)⟩
theorem Sm.join : ∀ (ys : List Str), (∀ y ∈ ys, Sm 1 y) → Sm ys.length (Txt.join "" ys) := by
  intro ys h
  rw [show Txt.join "" ys = Str.join "" ys from StrLaws.glued_eq_join "" ys]
  refine ⟨?_, fun c hc => ?_⟩
  · have q := StrLaws.join_length_le "" ys
    have e0 : (("" : Str)).length = 0 := by decide +kernel
    have s : (ys.map (·.length)).sum ≤ ys.length := by
      clear q
      induction ys with
      | nil => exact Nat.le_refl _
      | cons y r ih =>
        have h1 := (h y List.mem_cons_self).le
        have h2 := ih fun z hz => h z (List.mem_cons_of_mem _ hz)
        simp only [List.map_cons, List.sum_cons, List.length_cons]
        omega
    rw [e0] at q
    exact Nat.le_trans q (by simpa using s)
  · have q := (mem_join "" c ys).mp hc
    rcases q with ⟨t, ht, hc⟩ | ⟨_, hc⟩
    · exact (h t ht).lo c hc
    · have e0 : (("" : Str)).cps.toList = [] := by decide +kernel
      rw [e0] at hc
      cases hc
mutual
theorem gd_lay : ∀ d : PyData, gd d = true → d.canLay0 = true
  | .none, _ => by simp only [PyData.canLay0]
  | .bool _, _ => by simp only [PyData.canLay0]
  | .int _, _ => by simp only [PyData.canLay0]
  | .str x, h => by
    simp only [gd, Bool.and_eq_true, List.all_eq_true, decide_eq_true_eq] at h
    simp only [PyData.canLay0, PyData.strOk, Array.all_eq_true]
    intro i hi
    exact decide_eq_true (Nat.lt_trans (h.2 _ (by simp)) (by decide))
  | .list ds, h => by
    simp only [PyData.canLay0]
    exact gds_lay ds (by simpa only [gd] using h)
  | .tuple ds, h => by
    simp only [PyData.canLay0]
    exact gds_lay ds (by simpa only [gd] using h)
  | .dict _, h => by simp [gd] at h
theorem gds_lay : ∀ ds : List PyData, gds ds = true → PyData.canLayAll0 ds = true
  | [], _ => by simp only [PyData.canLayAll0]
  | d :: ds, h => by
    simp only [gds, Bool.and_eq_true] at h
    simp only [PyData.canLayAll0, gd_lay d h.1, gds_lay ds h.2, Bool.and_self]
end
theorem shaped_of {d : PyData} (h : gd d = true) (hd : d.depth ≤ 64) : SeqAt.shaped d = true := by
  show (d.canLay0 && decide (d.depth ≤ 64)) = true
  rw [gd_lay d h, decide_eq_true hd]
  rfl
theorem Box.notin {H : Hp} {p g a : Addr} (b : Box H p g) (h : H a = none) : a ∉ [p, g] := by
  obtain ⟨n, s, t, gs, h1, h2, _⟩ := b.ex
  intro z
  rcases List.mem_cons.mp z with e | z
  · rw [e, h1] at h
    cases h
  · rcases List.mem_cons.mp z with e | z
    · rw [e, h2] at h
      cases h
    · cases z
/-- all of these are tracked -/
def Tr (l : List Addr) (H : Hp) : Prop := ∀ b ∈ l, H b ≠ none
theorem off_new {l : List Addr} {H H' : Hp} {a : Addr} {o : HO} (h : Off l H H') (n : a ∉ l) (hn : H a = none) : Off l H (upd H' a o) := by
  intro b u e
  obtain ⟨nb, e⟩ := cut_some e
  rw [cut_out nb, upd_ne (ne_of_none e hn)]
  exact h.get e nb
theorem Box.put {H : Hp} {p g a : Addr} {o : HO} (b : Box H p g) (n : a ∉ [p, g]) : Box (upd H a o) p g := by
  obtain ⟨x, s, t, gs, h1, h2, h3⟩ := b.ex
  exact ⟨x, s, t, gs, by rw [upd_ne (fun z => n (by simp [← z]))]; exact h1, by rw [upd_ne (fun z => n (by simp [← z]))]; exact h2, h3⟩
theorem few {n : Nat} (h : n ≤ 1000) : n ≤ sizeLine := Nat.le_of_lt (small1000 h)
theorem cut_new {l : List Addr} {H : Hp} {a : Addr} {o : HO} (h : H a = none) : Same (cut l H) (cut l (upd H a o)) := Off.of (same_new h o)
theorem Tr.go {l m : List Addr} {H H' : Hp} (t : Tr l H) (o : Off m H H') (hm : ∀ b ∈ m, H' b ≠ none) : Tr l H' := fun b hb => by
  by_cases e : b ∈ m
  · exact hm b e
  · intro z
    exact t b hb (o.free z e)
theorem Box.tr {H : Hp} {p g : Addr} (b : Box H p g) : H p ≠ none ∧ H g ≠ none := by
  obtain ⟨x, s, t, gs, h1, h2, _⟩ := b.ex
  constructor
  · rw [h1]
    exact fun z => nomatch z
  · rw [h2]
    exact fun z => nomatch z
theorem ne_mem {l : List Addr} {a b : Addr} (n : a ∉ l) (h : b ∈ l) : b ≠ a := fun e => n (by rw [← e]; exact h)
theorem few2 {n : Nat} (h : n ≤ 100000) : n ≤ sizeLine := Nat.le_trans h (by decide)
theorem Tr.out {l : List Addr} {H : Hp} (t : Tr l H) {a : Addr} (h : H a = none) : a ∉ l := fun z => t a z h
theorem Tr.same {l : List Addr} {H H' : Hp} (t : Tr l H) (s : Same H H') : Tr l H' := fun b hb z => by
  cases q : H b with
  | none => exact t b hb q
  | some o =>
    rw [s b o q] at z
    cases z
theorem seqT_cut {K : PySem.W.Frag} {l : List Addr} {H : Hp} {a : Addr} {xs : List V} (h : SqT K (cut l H) a xs) : SqT K H a xs := seqT_up (cut_same l H) h
theorem cutV_all (xs : List V) (lo hi : Option Int) (h : HT.sIx xs.length 0 lo = 0 ∧ HT.sIx xs.length xs.length hi = xs.length) : cutV xs lo hi = xs := by
  unfold cutV
  rw [h.1, h.2]
  simp
/-- t + u, what comes of it, apart from the addresses l -/
def rCatU (K : PySem.W.Frag) : R2 := fun x y H Q => ∃ a b xs ys l, x = .ref a ∧ y = .ref b ∧ SqT K (cut l H) a xs ∧ SqT K (cut l H) b ys ∧ Tr l H ∧ xs.length + ys.length ≤ sizeLine ∧
  ∀ c H', Same H H' → SqT K (cut l H') c (xs ++ ys) → Q (.ref c) H'
theorem op_catU {X : Cx} : OpR X (binaryOp .Add) (rCatU X.K) := by
  intro pins s σ H x y v u Q I rx ry h
  obtain ⟨a, b, xs, ys, l, rfl, rfl, ha, hb, tl, hz, q⟩ := h
  refine op_catA pins s σ H _ _ v u Q I rx ry ⟨a, b, xs, ys, rfl, rfl, seqT_cut ha, seqT_cut hb, hz, ?_, ?_, ?_⟩
  · intro e
    exact q b H (Same.refl H) (by rw [e]; exact hb)
  · intro _ e
    exact q a H (Same.refl H) (by rw [e, List.append_nil]; exact ha)
  · intro _ _ c hc
    exact q c _ (same_new hc _) (.inl (.inl (by rw [cut_out (tl.out hc)]; exact upd_same)))
def rSlU (K : PySem.W.Frag) : V → Option Int → Option Int → Hp → VK → Prop := fun x lo hi H Q => ∃ a xs l, x = .ref a ∧ SqT K (cut l H) a xs ∧ Tr l H ∧
  ∀ c H', Same H H' → SqT K (cut l H') c (cutV xs lo hi) → Q (.ref c) H'
theorem sl_tupU {X : Cx} : SlR X (rSlU X.K) := by
  intro pins s σ H x v vl vu lo hi sl Q I rx hs pl pu h
  obtain ⟨a, xs, l, rfl, ha, tl, q⟩ := h
  refine sl_tupA pins s σ H _ v vl vu lo hi sl Q I rx hs pl pu ⟨a, xs, rfl, seqT_cut ha, ?_, ?_⟩
  · intro e
    exact q a H (Same.refl H) (by rw [cutV_all xs lo hi e]; exact ha)
  · intro _ c hc
    exact q c _ (same_new hc _) (.inl (.inl (by rw [cut_out (tl.out hc)]; exact upd_same)))
theorem cutV_take (xs : List V) {r : Int} (h0 : 0 ≤ r) (h : r ≤ (xs.length : Int)) : cutV xs none (some r) = xs.take r.toNat := by
  obtain ⟨n, rfl⟩ := Int.eq_ofNat_of_zero_le h0
  unfold cutV
  rw [HT.sIx_none, HT.sIx_nat]
  have : min n xs.length = n := by omega
  rw [this]
  rfl
theorem cutV_drop (xs : List V) {r : Int} (h0 : 0 ≤ r) (h : r ≤ (xs.length : Int)) : cutV xs (some r) none = xs.drop r.toNat := by
  obtain ⟨n, rfl⟩ := Int.eq_ofNat_of_zero_le h0
  unfold cutV
  rw [HT.sIx_none, HT.sIx_nat]
  have : min n xs.length = n := by omega
  rw [this]
  exact List.take_of_length_le (by rw [List.length_drop]; exact Nat.le_refl _)
/-! own classes: ==, !=, str, repr by the class's own defs -/
section
variable {X : Cx} {pins : List (Addr × Obj)} {σ : L2.St} {H : Hp} {s : Shared}
theorem run_at {A' : Around} {k : Nat} {f : Addr} {fd : FuncData} {ps : List Str} {sp : Sp} {us : List Value} {vs : List V} {Q : VK} {E' : Value → Shared → Prop}
    (F : FnOk X.prog X.w X.K X.mg X.base CX0 k f fd ps sp) (hr : Room k A') (ee : Env0 X.prog X.w X.K X.mg X.base A' X.stack s H) (hb : Binds X.K fd ps []) (I : Inv X pins σ H s) (r : Vals vs us) (h : sp vs H Q E0) :
    wpAny (model X.prog X.w) A' (call (.ref f) us) (EP X pins σ Q) E' s := by
  have hl : us.length = ps.length := r.length.symm.trans (F.len _ _ _ _ h)
  have bd := hb s us I.kIn (by rw [List.append_nil]; exact hl)
  rw [List.append_nil] at bd
  refine wpAny_call (codeAny_mono (F.run A' X.stack s H ⟨us, []⟩ us vs Q E0 hr ee bd r h) ?_)
  intro x t hq
  cases x with
  | error z => exact False.elim hq
  | ok fl =>
    cases fl with
    | ret u => exact I.after hq
    | next => exact False.elim hq
    | brk => exact False.elim hq
    | cont => exact False.elim hq
theorem dp_type {v : V} {d : PyData} {u : Value} (I : Inv X pins σ H s) (h : Dp X.K H v d) (r : RelV v u) : s.TypeIs u (tyN d) := by
  cases h with
  | non => cases r; rfl
  | bl b => cases r; rfl
  | int i => obtain ⟨t, rfl⟩ := r; rfl
  | str x => obtain ⟨t, rfl⟩ := r; rfl
  | lst h1 h2 =>
    cases r
    obtain ⟨its, _, ⟨o, n, ho, hc, _, _⟩, _⟩ := I.list h1
    exact ⟨o, ho, hc⟩
  | tup h1 h2 =>
    cases r
    obtain ⟨its, _, ⟨o, ho, hc, _⟩, _⟩ := I.tuple h1
    exact ⟨o, ho, hc⟩
theorem sub_looks {K : PySem.W.Frag} {h : Heap} {t c : Value} {b : Bool} (X : K.In h) (hk : PySem.W.kitOne K t c = some b) (hn : (t == c) = false) (M : Model) : PySem.W.Looks M h (isSubtype t c) b := by
  unfold PySem.W.kitOne at hk
  rw [hn] at hk
  exact (PySem.W.kit_cls X (by simpa using hk)).2.2
end
/-- what an own class says of its special names, and that built-in data are none of it -/
structure OwnC (K : PySem.W.Frag) (C fE : Addr) : Prop where
  c : C8.InsC K C
  eq : Meth K C "__eq__" fE
  ne : PySem.W.findIn K (.ref C) "__ne__" = some (some (.builtin "object.__ne__"))
  k1 : PySem.W.kitOne K (.type "NoneType") (.ref C) = some false
  k2 : PySem.W.kitOne K (.type "bool") (.ref C) = some false
  k3 : PySem.W.kitOne K (.type "int") (.ref C) = some false
  k4 : PySem.W.kitOne K (.type "str") (.ref C) = some false
  k5 : PySem.W.kitOne K (.type "list") (.ref C) = some false
  k6 : PySem.W.kitOne K (.type "tuple") (.ref C) = some false
  j1 : PySem.W.kitOne K (.ref C) (.type "NoneType") = some false
  j2 : PySem.W.kitOne K (.ref C) (.type "bool") = some false
  j3 : PySem.W.kitOne K (.ref C) (.type "int") = some false
  j4 : PySem.W.kitOne K (.ref C) (.type "str") = some false
  j5 : PySem.W.kitOne K (.ref C) (.type "list") = some false
  j6 : PySem.W.kitOne K (.ref C) (.type "tuple") = some false
theorem OwnC.of {K : PySem.W.Frag} {C fE : Addr} (o : OwnC K C fE) {H : Hp} {v : V} {d : PyData} (h : Dp K H v d) : PySem.W.kitOne K (.type (tyN d)) (.ref C) = some false ∧ PySem.W.kitOne K (.ref C) (.type (tyN d)) = some false := by
  cases h with
  | non => exact ⟨o.k1, o.j1⟩
  | bl b => exact ⟨o.k2, o.j2⟩
  | int i => exact ⟨o.k3, o.j3⟩
  | str x => exact ⟨o.k4, o.j4⟩
  | lst h1 h2 => exact ⟨o.k5, o.j5⟩
  | tup h1 h2 => exact ⟨o.k6, o.j6⟩
section
variable {X : Cx} {C fE : Addr} {k : Nat} {fd : FuncData} {sp : Sp}
theorem inst_at {pins : List (Addr × Obj)} {σ : L2.St} {H : Hp} {s : Shared} {a dx : Addr} {fs : List (Str × V)} (I : Inv X pins σ H s) (ha : H a = some (.ins C dx fs)) : ∃ ox od, PySem.W.InstAt s.heap a ox C od := by
  obtain ⟨mA, O, _⟩ := ins_get I.hok ha
  obtain ⟨od, J, _⟩ := O.look
  exact ⟨_, od, J⟩
/-- x == y, x of the class: its own __eq__ tells -/
def rEqL (C : Addr) (sp : Sp) (K : PySem.W.Frag) : R2 := fun x y H Q => ∃ a dx fs, x = .ref a ∧ H a = some (.ins C dx fs) ∧ ((∃ d, Dp K H y d) ∨ ∃ b dy gs, y = .ref b ∧ H b = some (.ins C dy gs)) ∧
  sp [x, y] H (fun v H' => ∃ b, v = .bl b ∧ Q (.bl b) H') E0
theorem op_eqL (O : OwnC X.K C fE) (F : FnOk X.prog X.w X.K X.mg X.base CX0 k fE fd ["self", "other"] sp) (hb : Binds X.K fd ["self", "other"] []) (hr : Room k X.A) : OpR X (compareOp .Eq) (rEqL C sp X.K) := by
  intro pins s σ H x y v u Q I rx ry h
  obtain ⟨a, dx, fs, rfl, ha, hy, q⟩ := h
  cases (show v = Value.ref a from rx)
  obtain ⟨ox, od, J⟩ := inst_at I ha
  have run := run_at (E' := X.xe) F hr I.env0 hb I (.cons rx (.cons ry .nil)) q
  have fin : wpAny (model X.prog X.w) X.A (tryCompare (.ref a) (Str.ofString "__eq__") u) (fun r t => ∃ b, r = some (Value.bool b) ∧ EP X pins σ Q (.bool b) t) X.xe s := by
    unfold tryCompare
    refine wpAny_bind (PySem.W.ifBound_K I.kIn J O.eq.at_ O.eq.fn (wpAny_mono run (fun r t hq => ?_) fun _ _ z => z))
    obtain ⟨v', H', I', rv, b, rfl, q'⟩ := hq
    cases (show r = Value.bool b from rv)
    exact wpAny_pure ⟨b, rfl, .bl b, H', I', rfl, q'⟩
  show wpAny _ _ (richCompare .Eq (.ref a) u) _ _ _
  unfold richCompare
  simp only [oneThing_ref]
  refine wpAny_holding ?_
  refine wpAny_bind (wpAny_cRoomFor hr.units0 ?_)
  refine wpAny_bind (J.type.here ?_)
  rcases hy with ⟨d, hd⟩ | ⟨b, dy, gs, rfl, hb2⟩
  · have ty := dp_type I hd ry
    have kk := O.of hd
    refine wpAny_bind (wpAny_typeOf ty ?_)
    have ne : (Value.ref C != Value.type (tyN d)) = true := rfl
    simp only [ne, if_true]
    refine wpAny_bind ((sub_looks I.kIn kk.1 rfl _).here ?_)
    simp only [Bool.false_eq_true, if_false]
    refine wpAny_bind (m := tryCompare (.ref a) (Str.ofString "__eq__") u) (wpAny_mono fin (fun r t hq => ?_) fun _ _ z => z)
    obtain ⟨b, rfl, hq⟩ := hq
    exact wpAny_pure hq
  · cases (show u = Value.ref b from ry)
    obtain ⟨oy, oe, J2⟩ := inst_at I hb2
    refine wpAny_bind (J2.type.here ?_)
    have ne : (Value.ref C != Value.ref C) = false := by simp
    simp only [ne, Bool.false_eq_true, if_false]
    refine wpAny_bind (wpAny_pure ?_)
    simp only [Bool.false_eq_true, if_false]
    refine wpAny_bind (m := tryCompare (.ref a) (Str.ofString "__eq__") (.ref b)) (wpAny_mono fin (fun r t hq => ?_) fun _ _ z => z)
    obtain ⟨b, rfl, hq⟩ := hq
    exact wpAny_pure hq
end
open AutoSeq1 (wpAny_loadPart')
/-! == of built-in data and an instance: the data decline -/
abbrev plainObj (C : Addr) (dd : Option Addr) (sl : Array (Option Value)) : Obj := { cls := .ref C, dict := dd, data := .plain, slots := sl }
theorem str_declines (b : Str) (u : Tok) (l C : Addr) (dd : Option Addr) (sl : Array (Option Value)) :
    Meets (Builtin.«str.__eq__» ⟨[.str b u, .ref l], []⟩) (fun _ R s => s.heap.get? l = some (plainObj C dd sl) ∧ R (.ok (.ret .notImplemented)) s) :=
  .of_wp fun prog w A R s h => by
    obtain ⟨hp, g, d, tk, os⟩ := s
    obtain ⟨hl, h⟩ := h
    wp_walk using wpAny_loadPart' hl, wpAny_load hl
    exact ⟨_, rfl, h⟩
theorem int_declines (b : Int) (u : Tok) (l C : Addr) (dd : Option Addr) (sl : Array (Option Value)) :
    Meets (Builtin.«int.__eq__» ⟨[.int b u, .ref l], []⟩) (fun _ R s => s.heap.get? l = some (plainObj C dd sl) ∧ R (.ok (.ret .notImplemented)) s) :=
  .of_wp fun prog w A R s h => by
    obtain ⟨hp, g, d, tk, os⟩ := s
    obtain ⟨hl, h⟩ := h
    wp_walk using wpAny_loadPart' hl, wpAny_load hl
    exact ⟨_, rfl, h⟩
theorem bool_declines (b : Bool) (l C : Addr) (dd : Option Addr) (sl : Array (Option Value)) :
    Meets (Builtin.«int.__eq__» ⟨[.bool b, .ref l], []⟩) (fun _ R s => s.heap.get? l = some (plainObj C dd sl) ∧ R (.ok (.ret .notImplemented)) s) :=
  .of_wp fun prog w A R s h => by
    obtain ⟨hp, g, d, tk, os⟩ := s
    obtain ⟨hl, h⟩ := h
    wp_walk using wpAny_loadPart' hl, wpAny_load hl
    exact ⟨_, rfl, h⟩
theorem sub_wp {M : Model} {A : Around} {E : Value → Shared → Prop} {s : Shared} {c t : Value} {b : Bool} {Q : Bool → Shared → Prop} (h : ∀ M, PySem.W.Looks M s.heap (isSubtype c t) b) (q : Q b s) : wpAny M A (isSubtype c t) Q E s := (h M).here q
theorem list_declines (a l C : Addr) (dd : Option Addr) (sl : Array (Option Value)) (o : Obj) :
    Meets (Builtin.«list.__eq__» ⟨[.ref a, .ref l], []⟩) (fun _ R s => s.heap.get? a = some o ∧ s.heap.get? l = some (plainObj C dd sl) ∧ (∀ M, PySem.W.Looks M s.heap (isSubtype (.ref C) (.type "list")) false) ∧ R (.ok (.ret .notImplemented)) s) :=
  .of_wp fun prog w A R s h => by
    obtain ⟨hp, g, d, tk, os⟩ := s
    obtain ⟨ha, hl, hs, h⟩ := h
    wp_walk using wpAny_loadPart' hl, wpAny_load hl, sub_wp hs
    exact ⟨_, rfl, h⟩
theorem tuple_declines (a l C : Addr) (dd : Option Addr) (sl : Array (Option Value)) (o : Obj) :
    Meets (Builtin.«tuple.__eq__» ⟨[.ref a, .ref l], []⟩) (fun _ R s => s.heap.get? a = some o ∧ s.heap.get? l = some (plainObj C dd sl) ∧ (∀ M, PySem.W.Looks M s.heap (isSubtype (.ref C) (.type "tuple")) false) ∧ R (.ok (.ret .notImplemented)) s) :=
  .of_wp fun prog w A R s h => by
    obtain ⟨hp, g, d, tk, os⟩ := s
    obtain ⟨ha, hl, hs, h⟩ := h
    wp_walk using wpAny_loadPart' hl, wpAny_load hl, sub_wp hs
    exact ⟨_, rfl, h⟩
section
variable {X : Cx} {C fE : Addr} {k : Nat} {fd : FuncData} {sp : Sp}
/-- the built-in type's own __eq__ declines -/
theorem data_declines {pins : List (Addr × Obj)} {σ : L2.St} {H : Hp} {s : Shared} {A : Around} {E : Value → Shared → Prop} {x : V} {d : PyData} {v : Value} {b dx : Addr} {fs : List (Str × V)} {Q : Option Value → Shared → Prop} (I : Inv X pins σ H s)
    (hs : ∀ M, PySem.W.Looks M s.heap (isSubtype (.ref C) (.type (tyN d))) false)
    (hd : Dp X.K H x d) (rx : RelV x v) (hb : H b = some (.ins C dx fs)) (q : Q none s) : wpAny (model X.prog X.w) A (tryCompare v (Str.ofString "__eq__") (.ref b)) Q E s := by
  obtain ⟨mA, O, _⟩ := ins_get I.hok hb
  have ob := O.obj
  cases hd with
  | non =>
    cases rx
    exact wpAny_tryCompare_declines (T := "NoneType") rfl F.slot_NoneType_eq (call_gives F.slot_NoneType_eq rfl F.entry_NoneType_eq (F.args_NoneType_eq_2 _ _) (SeqAt.NoneType___eq___none_ref_0 b) ⟨rfl, q⟩)
  | bl z =>
    cases rx
    exact wpAny_tryCompare_declines (T := "bool") rfl F.slot_bool_eq (call_meets F.slot_bool_eq rfl F.entry_int_eq (F.args_int_eq_2 _ _) (bool_declines z b C _ _) ⟨ob, ⟨rfl, q⟩⟩)
  | int i =>
    obtain ⟨t, rfl⟩ := rx
    exact wpAny_tryCompare_declines (T := "int") rfl F.slot_int_eq (call_meets F.slot_int_eq rfl F.entry_int_eq (F.args_int_eq_2 _ _) (int_declines i t b C _ _) ⟨ob, ⟨rfl, q⟩⟩)
  | str y =>
    obtain ⟨t, rfl⟩ := rx
    exact wpAny_tryCompare_declines (T := "str") rfl F.slot_str_eq (call_meets F.slot_str_eq rfl F.entry_str_eq (F.args_str_eq_2 _ _) (str_declines y t b C _ _) ⟨ob, ⟨rfl, q⟩⟩)
  | lst h1 h2 =>
    cases rx
    obtain ⟨its, _, ⟨o, n, ho, hc, _, _⟩, _⟩ := I.list h1
    exact wpAny_tryCompare_declines (T := "list") ⟨o, ho, hc⟩ F.slot_list_eq (call_meets F.slot_list_eq ⟨o, ho, hc⟩ F.entry_list_eq (F.args_list_eq_2 _ _) (list_declines _ b C _ _ o) ⟨ho, ob, hs, ⟨rfl, q⟩⟩)
  | tup h1 h2 =>
    cases rx
    obtain ⟨its, _, ⟨o, ho, hc, _⟩, _⟩ := I.tuple h1
    exact wpAny_tryCompare_declines (T := "tuple") ⟨o, ho, hc⟩ F.slot_tuple_eq (call_meets F.slot_tuple_eq ⟨o, ho, hc⟩ F.entry_tuple_eq (F.args_tuple_eq_2 _ _) (tuple_declines _ b C _ _ o) ⟨ho, ob, hs, ⟨rfl, q⟩⟩)
/-- x == y, y of the class, x built-in data: y's own __eq__ tells -/
def rEqR (C : Addr) (sp : Sp) (K : PySem.W.Frag) : R2 := fun x y H Q => ∃ b dy gs d, y = .ref b ∧ H b = some (.ins C dy gs) ∧ Dp K H x d ∧ sp [y, x] H (fun v H' => ∃ z, v = .bl z ∧ Q (.bl z) H') E0
theorem op_eqR (O : OwnC X.K C fE) (F : FnOk X.prog X.w X.K X.mg X.base CX0 k fE fd ["self", "other"] sp) (hb : Binds X.K fd ["self", "other"] []) (hr : Room k X.A) : OpR X (compareOp .Eq) (rEqR C sp X.K) := by
  intro pins s σ H x y v u Q I rx ry h
  obtain ⟨b, dy, gs, d, rfl, ha, hd, q⟩ := h
  cases (show u = Value.ref b from ry)
  obtain ⟨ox, od, J⟩ := inst_at I ha
  have run := run_at (E' := X.xe) F hr I.env0 hb I (.cons ry (.cons rx .nil)) q
  have ty := dp_type I hd rx
  have kk := O.of hd
  have sb := sub_looks I.kIn kk.2 rfl
  have fin : wpAny (model X.prog X.w) X.A (tryCompare (.ref b) (Str.ofString "__eq__") v) (fun r t => ∃ b, r = some (Value.bool b) ∧ EP X pins σ Q (.bool b) t) X.xe s := by
    unfold tryCompare
    refine wpAny_bind (PySem.W.ifBound_K I.kIn J O.eq.at_ O.eq.fn (wpAny_mono run (fun r t hq => ?_) fun _ _ z => z))
    obtain ⟨v', H', I', rv, b, rfl, q'⟩ := hq
    cases (show r = Value.bool b from rv)
    exact wpAny_pure ⟨b, rfl, .bl b, H', I', rfl, q'⟩
  show wpAny _ _ (richCompare .Eq v (.ref b)) _ _ _
  unfold richCompare
  simp only [ty.oneThing_none]
  refine wpAny_holding ?_
  refine wpAny_bind (wpAny_cRoomFor hr.units0 ?_)
  refine wpAny_bind (wpAny_typeOf ty ?_)
  refine wpAny_bind (J.type.here ?_)
  have ne : (Value.type (tyN d) != Value.ref C) = true := rfl
  simp only [ne, if_true]
  refine wpAny_bind ((sb _).here ?_)
  simp only [Bool.false_eq_true, if_false]
  refine wpAny_bind (m := tryCompare v (Str.ofString "__eq__") (.ref b)) (data_declines I sb hd rx ha ?_)
  simp only [Bool.not_false, if_true]
  refine wpAny_bind (m := tryCompare (.ref b) (Str.ofString "__eq__") v) (wpAny_mono fin (fun r t hq => ?_) fun _ _ z => z)
  obtain ⟨z, rfl, hq⟩ := hq
  exact wpAny_pure hq
theorem ifBound_b {M : Model} {A : Around} {E : Value → Shared → Prop} {s : Shared} {K : PySem.W.Frag} {x C : Addr} {ox : Obj} {od : Option Obj} {name : Str} {id : String} {args : List Value} {Q : Option Value → Shared → Prop} (X : K.In s.heap) (I : PySem.W.InstAt s.heap x ox C od)
    (hs : PySem.W.findIn K (.ref C) name = some (some (.builtin id))) (hb : ∀ self, bindSpecial (.builtin id) self = pure (.builtin id, [self])) (h : wpAny M A (call (.builtin id) (.ref x :: args)) (fun v => Q (some v)) E s) :
    wpAny M A (callSpecialIfBound? (.ref x) name args) Q E s := by
  simp only [callSpecialIfBound?, bindSpecialIfBound?]
  refine wpAny_holding (wpAny_bind (wpAny_bind (wpAny_bind (I.type.here ((PySem.W.looks_findIn X hs).here ?_)))))
  refine wpAny_bind (wpAny_askSetting (wpAny_ite ?_))
  have fin : wpAny M A (call (.builtin id) ([.ref x] ++ args) >>= fun v => pure (some v)) Q E s := wpAny_bind (wpAny_mono h (fun _ _ z => wpAny_pure z) fun _ _ z => z)
  split
  · exact wpAny_bind ((PySem.W.Looks.of_pure (hb _)).here (wpAny_pure (by exact fin)))
  · exact wpAny_tryCatch (wpAny_bind ((PySem.W.Looks.of_pure (hb _)).here (wpAny_pure (by exact fin))))
/-- x != y, x of the class (which has no own __ne__): not what its own __eq__ tells -/
def rNeL (C : Addr) (sp : Sp) (K : PySem.W.Frag) : R2 := fun x y H Q => ∃ a dx fs, x = .ref a ∧ H a = some (.ins C dx fs) ∧ ((∃ d, Dp K H y d) ∨ ∃ b dy gs, y = .ref b ∧ H b = some (.ins C dy gs)) ∧
  sp [x, y] H (fun v H' => ∃ b, v = .bl b ∧ Q (.bl (!b)) H') E0
theorem op_neL (O : OwnC X.K C fE) (F : FnOk X.prog X.w X.K X.mg X.base CX0 k fE fd ["self", "other"] sp) (hb : Binds X.K fd ["self", "other"] []) (hr : Room (k + 1) X.A) : OpR X (compareOp .NotEq) (rNeL C sp X.K) := by
  intro pins s σ H x y v u Q I rx ry h
  obtain ⟨a, dx, fs, rfl, ha, hy, q⟩ := h
  cases (show v = Value.ref a from rx)
  obtain ⟨ox, od, J⟩ := inst_at I ha
  have run := run_at (E' := X.xe) F hr.in1 I.env0.in1 hb I (.cons rx (.cons ry .nil)) q
  have body : wpAny (model X.prog X.w) X.A (call (.builtin "object.__ne__") [.ref a, u]) (fun v t => ∃ b, v = Value.bool b ∧ EP X pins σ Q (.bool b) t) X.xe s := by
    refine wpAny_call (codeAny_call_builtin PySem.F.slot_object_ne.plain PySem.F.entry_object_ne (PySem.W.check_slot (i := "object.__ne__") (owner := "object") (n := "__ne__") (by decide +kernel) (by decide +kernel) (J.type.andThen (PySem.W.looks_mroIn I.kIn O.c.hm)) (PySem.F.args_object_ne_2 _ _) ?_))
    unfold Builtin.«object.__ne__»
    refine wpAny_bind (m := slotArgs "__ne__" 1 _) (wpAny_pure ?_)
    refine wpAny_bind (m := cRoomFor _ _) (wpAny_cRoomFor (by have := hr.units; show X.A.units + 1 < cLine; omega) ?_)
    refine wpAny_bind (m := callSpecialIfBound? (.ref a) (Str.ofString "__eq__") [u]) (PySem.W.ifBound_K I.kIn J O.eq.at_ O.eq.fn (wpAny_mono run (fun r t hq => ?_) fun _ _ z => z))
    obtain ⟨v', H', I', rv, b, rfl, q'⟩ := hq
    cases (show r = Value.bool b from rv)
    refine wpAny_bind (m := truthy (.bool b)) (wpAny_truthy_bool ?_)
    exact wpAny_pure ⟨!b, rfl, .bl (!b), H', I', rfl, q'⟩
  have fin : wpAny (model X.prog X.w) X.A (tryCompare (.ref a) (Str.ofString "__ne__") u) (fun r t => ∃ b, r = some (Value.bool b) ∧ EP X pins σ Q (.bool b) t) X.xe s := by
    unfold tryCompare
    refine wpAny_bind (ifBound_b I.kIn J O.ne PySem.F.slot_object_ne.bind (wpAny_mono body (fun r t hq => ?_) fun _ _ z => z))
    obtain ⟨b, rfl, hq⟩ := hq
    exact wpAny_pure ⟨b, rfl, hq⟩
  show wpAny _ _ (richCompare .NotEq (.ref a) u) _ _ _
  unfold richCompare
  simp only [oneThing_ref]
  refine wpAny_holding ?_
  refine wpAny_bind (wpAny_cRoomFor hr.units0 ?_)
  refine wpAny_bind (J.type.here ?_)
  rcases hy with ⟨d, hd⟩ | ⟨b, dy, gs, rfl, hb2⟩
  · have ty := dp_type I hd ry
    have kk := O.of hd
    refine wpAny_bind (wpAny_typeOf ty ?_)
    have ne : (Value.ref C != Value.type (tyN d)) = true := rfl
    simp only [ne, if_true]
    refine wpAny_bind ((sub_looks I.kIn kk.1 rfl _).here ?_)
    simp only [Bool.false_eq_true, if_false]
    refine wpAny_bind (m := tryCompare (.ref a) (Str.ofString "__ne__") u) (wpAny_mono fin (fun r t hq => ?_) fun _ _ z => z)
    obtain ⟨b, rfl, hq⟩ := hq
    exact wpAny_pure hq
  · cases (show u = Value.ref b from ry)
    obtain ⟨oy, oe, J2⟩ := inst_at I hb2
    refine wpAny_bind (J2.type.here ?_)
    have ne : (Value.ref C != Value.ref C) = false := by simp
    simp only [ne, Bool.false_eq_true, if_false]
    refine wpAny_bind (wpAny_pure ?_)
    simp only [Bool.false_eq_true, if_false]
    refine wpAny_bind (m := tryCompare (.ref a) (Str.ofString "__ne__") (.ref b)) (wpAny_mono fin (fun r t hq => ?_) fun _ _ z => z)
    obtain ⟨b, rfl, hq⟩ := hq
    exact wpAny_pure hq
/-- repr(x), x of a class with its own __repr__ -/
def rRepO (C : Addr) (sp : Sp) : List V → Hp → VK → Prop := fun xs H Q => ∃ a dx fs, xs = [.ref a] ∧ H a = some (.ins C dx fs) ∧ sp [.ref a] H (fun v H' => ∃ y, v = .str y ∧ Q (.str y) H') E0
theorem call_repO {fR : Addr} (m : Meth X.K C "__repr__" fR) (F : FnOk X.prog X.w X.K X.mg X.base CX0 k fR fd ["self"] sp) (hb : Binds X.K fd ["self"] []) (hr : Room (k + 1) X.A) : CallR X (.builtin "repr") (rRepO C sp) := by
  intro pins s σ H xs us Q I r h
  obtain ⟨a, dx, fs, rfl, ha, q⟩ := h
  obtain ⟨u, rfl, ru⟩ := vals1 r
  cases (show u = Value.ref a from ru)
  obtain ⟨ox, od, J⟩ := inst_at I ha
  have run := run_at (E' := X.xe) F hr.in1 I.env0.in1 hb I (.cons ru .nil) q
  refine Calls.call_function_entry PySem.F.kind_repr PySem.F.plain_repr PySem.F.entry_repr (PySem.F.args_repr1 _) ?_
  unfold Builtin.«repr»
  refine wpAny_bind (m := oneArg "repr" _) (wpAny_pure ?_)
  refine wpAny_bind (wpAny_cRoomFor (by have := hr.units; show X.A.units + 1 < cLine; omega) ?_)
  refine wpAny_bind (m := specialOf (.ref a) (Str.ofString "__repr__")) (wpAny_bind (J.type.here ((PySem.W.looks_findIn I.kIn m.at_).here ?_)))
  show wpAny _ _ (if (some (Value.ref fR)).isNone = true then _ else _) _ _ _
  rw [if_neg (by simp)]
  refine wpAny_bind (m := callSpecialIfBound? (.ref a) (Str.ofString "__repr__") _) (PySem.W.ifBound_K I.kIn J m.at_ m.fn (wpAny_mono run (fun r t hq => ?_) fun _ _ z => z))
  obtain ⟨v', H', I', rv, y, rfl, q'⟩ := hq
  obtain ⟨tk, rfl⟩ := (show ∃ t, r = Value.str y t from rv)
  refine wpAny_bind (wpAny_isInstance (typeIs_str _ _ _) isSubtype_str_str ?_)
  have fin : EP X pins σ Q (.str y tk) t := ⟨.str y, H', I', ⟨tk, rfl⟩, q'⟩
  first
    | exact wpAny_pure ⟨_, rfl, fin⟩
    | (rw [if_pos rfl]; exact wpAny_pure ⟨_, rfl, fin⟩)
    | (simp only [if_true]; exact wpAny_pure ⟨_, rfl, fin⟩)
    | (simp only [if_true]; exact wpAny_pure fin)
/-- str(x), x of a class with its own __str__ -/
theorem call_strO {fS : Addr} (m : Meth X.K C "__str__" fS) (F : FnOk X.prog X.w X.K X.mg X.base CX0 k fS fd ["self"] sp) (hb : Binds X.K fd ["self"] []) (hr : Room (k + 2) X.A) : CallR X (.type "str") (rRepO C sp) := by
  intro pins s σ H xs us Q I r h
  obtain ⟨a, dx, fs, rfl, ha, q⟩ := h
  obtain ⟨u, rfl, ru⟩ := vals1 r
  cases (show u = Value.ref a from ru)
  obtain ⟨ox, od, J⟩ := inst_at I ha
  have run := run_at (A' := X.A.in1.in1) (E' := X.xe) F hr.in1.in1 I.env0.in1.in1 hb I (.cons ru .nil) q
  have un := hr.units
  refine callType_codes (T := "str") (Bi := Builtin.«object.__init__») (Q₁ := fun r s₁ => ∃ y u, r = .str y u ∧ EP X pins σ Q r s₁) PySem.F.called_str (PySem.F.typeCall_str_1 _) PySem.F.entry_object_init ?_ ?_
  · refine codeAny_of_tree ?_
    show wpAny _ X.A.in1.in1 (do checkBuiltinCall "str.__new__" ⟨[.type "str", .ref a], []⟩; again (.builtin "str.__new__" ⟨[.type "str", .ref a], []⟩)) _ _ s
    refine wpAny_bind (wpAny_of_eq (PySem.F.newCall_str_1 _) (wpAny_pure ⟨plainId_quiet (by decide +kernel) _, codeAny_builtin PySem.F.entry_str_new ?_⟩))
    rw [Around.under_plainId (by decide +kernel) _]
    rw [str_new_tree]
    refine wpAny_bind (wpAny_pure ?_)
    refine wpAny_bind (wpAny_of_eq isSubtype_str_str ?_)
    have key : wpAny (model X.prog X.w) X.A.in1.in1 (PySem.Builtin.Str.strOf (.ref a)) (fun r s₁ => ∃ y u, r = .str y u ∧ EP X pins σ Q r s₁) X.xe s := by
      unfold PySem.Builtin.Str.strOf
      rw [show Builtin.Str.isExactStr (.ref a) = false from rfl]
      refine wpAny_bind (m := cRoomFor _ _) (wpAny_cRoomFor (by show X.A.units + 1 + 1 < cLine; omega) ?_)
      refine wpAny_bind (m := callSpecial? (.ref a) (Str.ofString "__str__")) (PySem.W.special_fn I.kIn J m.at_ (beq_iff_eq.mp m.fn) (wpAny_mono run (fun r t hq => ?_) fun _ _ z => z))
      obtain ⟨v', H', I', rv, y, rfl, q'⟩ := hq
      obtain ⟨tk, rfl⟩ := (show ∃ t, r = Value.str y t from rv)
      exact wpAny_pure ⟨_, _, rfl, .str y, H', I', ⟨tk, rfl⟩, q'⟩
    exact wpAny_bind (wpAny_mono key (fun r s₁ hr => wpAny_pure hr) fun _ _ y => y)
  · rintro obj s₁ ⟨y, u, rfl, hq⟩
    exact ⟨typeIs_str _ _ _, PySem.F.args_object_init_2 _ _, object_init_meets PySem.F.called_str.init.lookup PySem.F.called_str.made (by decide) X.prog X.w X.A.in1 _ s₁ ⟨typeIs_str _ _ _, rfl, hq⟩⟩
end
/-! own classes: &, |, -, in, bool by the class's own defs -/
section
variable {X : Cx} {C f : Addr} {k : Nat} {fd : FuncData} {ps : List Str} {sp : Sp} {nm : Str}
/-- x op y, both of the class -/
def rBinO (C : Addr) (sp : Sp) : R2 := fun x y H Q => ∃ a dx fs b dy gs, x = .ref a ∧ y = .ref b ∧ H a = some (.ins C dx fs) ∧ H b = some (.ins C dy gs) ∧ sp [x, y] H (fun v H' => (∃ c, v = .ref c) ∧ Q v H') E0
theorem op_binO {op : Operator} (hd : PySem.dunder op.info.2 = nm) (hc : PySem.W.selfFirst X.K C = true) (M : Meth X.K C nm f) (F : FnOk X.prog X.w X.K X.mg X.base CX0 k f fd ps sp) (hb : Binds X.K fd ps []) (hr : Room k X.A) : OpR X (binaryOp op) (rBinO C sp) := by
  intro pins s σ H x y v u Q I rx ry h
  obtain ⟨a, dx, fs, b, dy, gs, rfl, rfl, ha, hb2, q⟩ := h
  cases (show v = Value.ref a from rx)
  cases (show u = Value.ref b from ry)
  obtain ⟨ox, od, J⟩ := inst_at I ha
  obtain ⟨oy, oe, J2⟩ := inst_at I hb2
  obtain ⟨m, fr⟩ := I.fr
  refine PySem.W.binop_K fr I.ok.mod.kin J J2.type hc (by rw [hd]; exact M.at_) M.fn (wpAny_mono (run_at (E' := X.xe) F hr I.env0 hb I (.cons rx (.cons ry .nil)) q) (fun r t hq => ?_) fun _ _ z => z)
  obtain ⟨v', H', I', rv, ⟨c, rfl⟩, q'⟩ := hq
  cases (show r = Value.ref c from rv)
  exact ⟨.ref c, H', I', rfl, q'⟩
/-- x in y, y of the class -/
def rInO (C : Addr) (sp : Sp) : R2 := fun x y H Q => ∃ b dy gs, y = .ref b ∧ H b = some (.ins C dy gs) ∧ sp [y, x] H (fun v H' => ∃ c, v = .bl c ∧ Q (.bl c) H') E0
theorem op_inO (M : Meth X.K C "__contains__" f) (F : FnOk X.prog X.w X.K X.mg X.base CX0 k f fd ps sp) (hb : Binds X.K fd ps []) (hr : Room k X.A) : OpR X (compareOp .In) (rInO C sp) := by
  intro pins s σ H x y v u Q I rx ry h
  obtain ⟨b, dy, gs, rfl, hb2, q⟩ := h
  cases (show u = Value.ref b from ry)
  obtain ⟨oy, oe, J2⟩ := inst_at I hb2
  obtain ⟨m, fr⟩ := I.fr
  refine PySem.W.in_K fr I.ok.mod.kin J2 M.at_ M.fn (wpAny_mono (run_at (E' := X.xe) F hr I.env0 hb I (.cons ry (.cons rx .nil)) q) (fun r t hq => ?_) fun _ _ z => z)
  obtain ⟨v', H', I', rv, c, rfl, q'⟩ := hq
  cases (show r = Value.bool c from rv)
  exact wpAny_truthy_bool ⟨.bl c, H', I', rfl, q'⟩
theorem meets_boolT {prog : Program} {w : World} (x : Value) : MeetsIn prog w (Builtin.«bool.__new__» ⟨[.type "bool", x], []⟩)
    (fun A R s => wpAny (model prog w) A.in1 (truthy x) (fun b s' => ∀ tk, R (.ok (.ret (.bool b))) { s' with toks := tk }) (fun e s' => R (.error e) s') s) := fun A R s h => by
  have f1 := F.conv_sub_bool
  obtain ⟨hp, g, d, tk, os⟩ := s
  unfold Builtin.«bool.__new__»
  repeat (any_goals (first | assumption | wp_step))
  show wpAny _ _ (truthy x) _ _ _
  refine wpAny_mono h (fun b s' hq => ?_) fun _ _ z => z
  obtain ⟨hp', g', d', tk', os'⟩ := s'
  repeat (any_goals (first | assumption | wp_step))
  exact hq _
theorem call_boolT {x : Value} {prog : Program} {w : World} {A : Around} {E : Value → Shared → Prop} {s : Shared} {Q : Value → Shared → Prop} (h : wpAny (model prog w) A.in1.in1 (truthy x) (fun b s' => ∀ tk, Q (.bool b) { s' with toks := tk }) E s) : wpAny (model prog w) A (call (.type "bool") [x]) Q E s := by
  refine callType_newIn F.called_bool F.newNe_bool (F.typeCall_bool_1 x) (F.newCall_bool_1 x) (fun obj => F.args_object_init_2 obj x) F.entry_bool_new (meets_boolT x) ?_
  exact wpAny_mono h (fun b s' hq tk => ⟨rfl, hq tk⟩) fun _ _ z => z
/-- bool(x), x of the class -/
def rBoolO (C : Addr) (sp : Sp) : List V → Hp → VK → Prop := fun xs H Q => ∃ a dx fs, xs = [.ref a] ∧ H a = some (.ins C dx fs) ∧ sp [.ref a] H (fun v H' => ∃ c, v = .bl c ∧ Q (.bl c) H') E0
theorem call_boolO (M : Meth X.K C "__bool__" f) (F : FnOk X.prog X.w X.K X.mg X.base CX0 k f fd ps sp) (hb : Binds X.K fd ps []) (hr : Room (k + 2) X.A) : CallR X (.type "bool") (rBoolO C sp) := by
  intro pins s σ H xs us Q I r h
  obtain ⟨a, dx, fs, rfl, ha, q⟩ := h
  obtain rfl := Vals.ref1 r
  obtain ⟨ox, od, J⟩ := inst_at I ha
  obtain ⟨m, fr⟩ := I.fr
  refine call_boolT (PySem.W.truthy_K fr I.ok.mod.kin J M.at_ M.fn (wpAny_mono (run_at (E' := X.xe) F hr.in1.in1 I.env0.in1.in1 hb I r q) (fun r t hq => ?_) fun _ _ z => z))
  obtain ⟨v', H', I', rv, c, rfl, q'⟩ := hq
  cases (show r = Value.bool c from rv)
  exact fun tk => ⟨.bl c, H', I'.tok _, rfl, q'⟩
/-- bool(a tuple) -/
theorem call_boolTu : CallR X (.type "bool") (fun xs H Q => ∃ a zs, xs = [.ref a] ∧ SqT X.K H a zs ∧ Q (.bl (!zs.isEmpty)) H) := by
  intro pins s σ H xs us Q I r h
  obtain ⟨a, zs, rfl, hq, q⟩ := h
  obtain rfl := Vals.ref1 r
  obtain ⟨its, rv, pl, hz⟩ := I.tuple hq
  have hlen := rv.length
  have hl := line63
  exact call_boolT (truthy_tuple pl (by simp only [List.size_toArray]; omega) fun tk => ⟨.bl (!zs.isEmpty), H, I.tok _, by rw [isEmpty_of rv]; rfl, q⟩)
end
/-! a classmethod without arguments -/
section
variable {X : Cx} {CX : CXT} {k : Nat} {C p g : Addr} {mc : Value} {sp : Sp} {E : XK} {o : Expr} {m : Str} {pos apos : Pos} {ta : TE} {pl : Sem Bool}
theorem pe_cmeth0 (he : PE X o ta) (r : ClX.CRead X.K C mc) (c : ClX.CMet X.K C mc m p g) (F : FnR X.prog X.w X.K X.mg X.base CX k g sp) (hr : Room k X.A) (hx : Passes CX X E)
    (ht : eval (.Call (.Attribute o m apos) [] [] pos) X.env = (do
      let ov ← eval o X.env
      standAt apos.atName
      let (f, first) ← holding [ov] (getMethod ov m pl)
      callWith pos f first (backTo pos (starEach [] X.env)) (backToKw pos (keywordEach [] X.env))) := by rfl) : PE X (.Call (.Attribute o m apos) [] [] pos) (ClX.tCMeth C sp E ta tNil) := by
  refine ⟨fun pins s σ H Q I h => ?_⟩
  refine PySem.W.methodCall_KW (pl := pl) (thn (he.run pins s σ H _ I h) fun u s1 ⟨x, H1, I1, rx, ex, q⟩ => ?_) ht
  subst ex
  obtain rfl : u = Value.ref C := rx
  refine ClX.getmethcm_ok I1 r c fun s2 I2 => ?_
  refine PySem.W.callWith_M0 (K := X.K) ⟨ClX.pin_at I2, I2.kIn⟩ c.fi ?_
  exact ClX.run_cm F hr hx I2 .nil q
end
/-! list(zip(t, u)) of two tuples: new pairs in a new list -/
section
variable {prog : Program} {w : World} {A : Around} {E : Value → Shared → Prop} {s : Shared}
/-- the next pair, while the one handed out before is still there -/
theorem held_item {z TI TO T i1 i2 l1 l2 : Addr} {f : Bool} {oT : Obj} {k1 k2 : Nat} {xs ys : Array Value} {x y : Value} {Q : Option Value → Shared → Prop} (D : ZipApart z TI TO i1 i2 l1 l2) (hz : IsZipHeld s.heap z TI TO T f)
    (hT : s.heap.get? T = some oT) (pI : IsPair s.heap TI (.ref i1) (.ref i2)) (t1 : s.heap.IsTupleIter i1 l1 k1) (t2 : s.heap.IsTupleIter i2 l2 k2) (u1 : s.heap.IsTuple l1 xs) (u2 : s.heap.IsTuple l2 ys) (hx : xs[k1]? = some x) (hy : ys[k2]? = some y)
    (q : ∀ h', IsZipHeld h' z TI TO T true → h'.IsTupleIter i1 l1 (k1 + 1) → h'.IsTupleIter i2 l2 (k2 + 1) → IsPair h' s.heap.objs.size x y → h'.objs.size = s.heap.objs.size + 1 → (∀ c o, c ≠ z → c ≠ i1 → c ≠ i2 → s.heap.get? c = some o → h'.get? c = some o) →
      Q (some (.ref s.heap.objs.size)) { s with heap := h' }) : wpAny (model prog w) A (pyNext (.ref z)) Q E s := by
  have ty : s.TypeIs (.ref z) "zip" := ⟨_, hz, rfl⟩
  unfold pyNext
  refine wpAny_bind (wpAny_attempt (wpAny_callSpecial?_slot (name := Str.ofString "__next__") ty F.slot_zip_next (wpAny_call_entry F.slot_zip_next ty F.entry_zip_next ?_ (F.args_zip_next_1 _))))
  show wpAny _ _ (field (.ref z) 2 >>= _) _ _ s
  refine wpAny_bind (wpAny_field hz rfl (x := .bool false) rfl ?_); show wpAny _ _ (field (.ref z) 3 >>= _) _ _ s
  refine wpAny_bind (wpAny_field hz rfl (x := .ref TI) rfl ?_); refine wpAny_bind (wpAny_seqItems pI rfl ?_); show wpAny _ _ (Builtin.SmallTypes.ownedTupleIsFree (.ref z) >>= _) _ _ s
  refine wpAny_bind (wpAny_tupleHeld_zip hz hT fun ha za sa => ?_); simp only [Bool.false_eq_true, if_false]
  refine wpAny_bind ?_; rw [← Array.forIn_toList]; simp only [List.forIn_cons, List.forIn_nil]
  refine wpAny_bind (wpAny_bind (wpAny_holding ?_)); show wpAny _ _ (Builtin.SmallTypes.nextOf (.ref i1) >>= _) _ _ _
  refine wpAny_bind (RZ.nextOf_tuple_item (s := { s with heap := ha }) (t1.extBut sa.extBut D.i1z) (u1.extBut sa.extBut D.l1z) hx fun hb tb sb => wpAny_pure ?_)
  refine wpAny_pure ?_; refine wpAny_bind (wpAny_bind (wpAny_holding ?_)); show wpAny _ _ (Builtin.SmallTypes.nextOf (.ref i2) >>= _) _ _ _
  refine wpAny_bind (RZ.nextOf_tuple_item (s := { s with heap := hb }) ((t2.extBut sa.extBut D.i2z).extBut sb.extBut D.i12.symm) ((u2.extBut sa.extBut D.l2z).extBut sb.extBut D.l2i1) hy fun hc tc sc => wpAny_pure ?_)
  refine wpAny_pure (wpAny_pure ?_); show wpAny _ _ (newTuple [x, y] >>= _) _ _ _
  refine wpAny_bind (wpAny_newTuple ?_)
  have hsz : hc.objs.size = s.heap.objs.size := by rw [sc.1, sb.1, sa.1]
  have zc : IsZipHeld hc z TI TO T true := sc.extBut _ _ D.i2z.symm (sb.extBut _ _ D.i1z.symm za)
  have hk : ∀ c o, c ≠ z → c ≠ i1 → c ≠ i2 → s.heap.get? c = some o → hc.get? c = some o := fun c o n1 n2 n3 e => sc.extBut _ _ n3 (sb.extBut _ _ n2 (sa.extBut _ _ n1 e))
  have r1 : hc.IsTupleIter i1 l1 (k1 + 1) := tb.extBut sc.extBut D.i12
  have hp : IsPair (hc.push { cls := .type "tuple", data := .seq #[x, y] }) hc.objs.size x y := Heap.get?_push_size _ rfl
  have hw : (hc.push { cls := .type "tuple", data := .seq #[x, y] }).objs.size = hc.objs.size + 1 := Heap.size_push ..
  refine wpAny_pure ⟨_, rfl, wpAny_pure ?_⟩
  show Q (some (.ref hc.objs.size)) _
  rw [hsz] at hp hw ⊢
  exact q _ (Heap.get?_push_of_some _ zc) (r1.at fun o e => Heap.get?_push_of_some _ e) (tc.at fun o e => Heap.get?_push_of_some _ e) hp hw fun c o n1 n2 n3 e => Heap.get?_push_of_some _ (hk c o n1 n2 n3 e)
theorem held_end {z TI TO T i1 i2 l1 l2 : Addr} {f : Bool} {oT : Obj} {k1 k2 : Nat} {xs ys : Array Value} {Q : Option Value → Shared → Prop} (hh : A.handled = none) (D : ZipApart z TI TO i1 i2 l1 l2) (hz : IsZipHeld s.heap z TI TO T f)
    (hT : s.heap.get? T = some oT) (pI : IsPair s.heap TI (.ref i1) (.ref i2)) (t1 : s.heap.IsTupleIter i1 l1 k1) (t2 : s.heap.IsTupleIter i2 l2 k2) (u1 : s.heap.IsTuple l1 xs) (u2 : s.heap.IsTuple l2 ys) (he : xs[k1]? = none ∨ ys[k2]? = none)
    (q : ∀ h', (∀ c o, c ≠ z → c ≠ i1 → c ≠ i2 → s.heap.get? c = some o → h'.get? c = some o) → Q none { s with heap := h' }) : wpAny (model prog w) A (pyNext (.ref z)) Q E s := by
  have ty : s.TypeIs (.ref z) "zip" := ⟨_, hz, rfl⟩
  have fin : ∀ h' e, (∀ c o, c ≠ z → c ≠ i1 → c ≠ i2 → s.heap.get? c = some o → h'.get? c = some o) → (∃ o, h'.get? e = some o ∧ o.cls = .type "StopIteration") →
      wpAny (model prog w) A (do if ← isInstance (.ref e) (.type "StopIteration") then pure none else throw (.ref e)) Q E { s with heap := h' } := fun h' e hk ⟨o, ho, hc⟩ =>
    wpAny_bind (wpAny_isInstance (T := "StopIteration") (b := true) ⟨o, ho, hc⟩ isSubtype_stop (wpAny_pure (q _ hk)))
  unfold pyNext
  refine wpAny_bind (wpAny_attempt (wpAny_callSpecial?_slot (name := Str.ofString "__next__") ty F.slot_zip_next (wpAny_call_entry F.slot_zip_next ty F.entry_zip_next ?_ (F.args_zip_next_1 _))))
  show wpAny _ _ (field (.ref z) 2 >>= _) _ _ s
  refine wpAny_bind (wpAny_field hz rfl (x := .bool false) rfl ?_); show wpAny _ _ (field (.ref z) 3 >>= _) _ _ s
  refine wpAny_bind (wpAny_field hz rfl (x := .ref TI) rfl ?_); refine wpAny_bind (wpAny_seqItems pI rfl ?_); show wpAny _ _ (Builtin.SmallTypes.ownedTupleIsFree (.ref z) >>= _) _ _ s
  refine wpAny_bind (wpAny_tupleHeld_zip hz hT fun ha za sa => ?_); simp only [Bool.false_eq_true, if_false]
  refine wpAny_bind ?_; rw [← Array.forIn_toList]; simp only [List.forIn_cons, List.forIn_nil]
  refine wpAny_bind (wpAny_bind (wpAny_holding ?_)); show wpAny _ _ (Builtin.SmallTypes.nextOf (.ref i1) >>= _) _ _ _
  cases hx : xs[k1]? with
  | none =>
    refine wpAny_bind (RZ.nextOf_tuple_end (s := { s with heap := ha }) hh (t1.extBut sa.extBut D.i1z) (u1.extBut sa.extBut D.l1z) hx fun hb e sb ie => ?_)
    exact fin hb e (fun c o n1 n2 _ x => sb _ _ n2 (sa.extBut _ _ n1 x)) ie
  | some x =>
    have hy : ys[k2]? = none := by
      rcases he with h | h
      · rw [hx] at h
        cases h
      · exact h
    refine wpAny_bind (RZ.nextOf_tuple_item (s := { s with heap := ha }) (t1.extBut sa.extBut D.i1z) (u1.extBut sa.extBut D.l1z) hx fun hb tb sb => wpAny_pure ?_)
    refine wpAny_pure ?_; refine wpAny_bind (wpAny_bind (wpAny_holding ?_)); show wpAny _ _ (Builtin.SmallTypes.nextOf (.ref i2) >>= _) _ _ _
    refine wpAny_bind (RZ.nextOf_tuple_end (s := { s with heap := hb }) hh ((t2.extBut sa.extBut D.i2z).extBut sb.extBut D.i12.symm) ((u2.extBut sa.extBut D.l2z).extBut sb.extBut D.l2i1) hy fun hc e sc ie => ?_)
    exact fin hc e (fun c o n1 n2 n3 x => sc _ _ n3 (sb.extBut _ _ n2 (sa.extBut _ _ n1 x))) ie
end
/-- how far a zip of two tuples has come -/
def ZSt (h : Heap) (z TI TO i1 i2 l1 l2 S : Addr) (i : Nat) : Prop := IsPair h TI (.ref i1) (.ref i2) ∧ h.IsTupleIter i1 l1 i ∧ h.IsTupleIter i2 l2 i ∧
  ((IsZip h z TI TO .none ∧ ∃ a b, IsPair h TO a b) ∨ ∃ T f oT, IsZipHeld h z TI TO T f ∧ h.get? T = some oT ∧ T ≠ z ∧ T ≠ i1 ∧ T ≠ i2 ∧ T ≠ S)
theorem ZSt.type {s : Shared} {z TI TO i1 i2 l1 l2 S : Addr} {i : Nat} (h : ZSt s.heap z TI TO i1 i2 l1 l2 S i) : s.TypeIs (.ref z) "zip" := by
  obtain ⟨_, _, _, ⟨hz, _⟩ | ⟨T, f, oT, hz, _⟩⟩ := h
  · exact ⟨_, hz, rfl⟩
  · exact ⟨_, hz, rfl⟩
/-- nothing but S is another -/
theorem ZSt.keep {h h' : Heap} {z TI TO i1 i2 l1 l2 S : Addr} {i : Nat} (st : ZSt h z TI TO i1 i2 l1 l2 S i) (n : S ∉ [z, TI, TO, i1, i2]) (k : ∀ b o, b ≠ S → h.get? b = some o → h'.get? b = some o) : ZSt h' z TI TO i1 i2 l1 l2 S i := by
  obtain ⟨p, t1, t2, c⟩ := st
  simp only [List.mem_cons, List.not_mem_nil, or_false, not_or] at n
  obtain ⟨n1, n2, n3, n4, n5⟩ := n
  refine ⟨k _ _ (Ne.symm n2) p, t1.at fun o e => k _ o (Ne.symm n4) e, t2.at fun o e => k _ o (Ne.symm n5) e, ?_⟩
  rcases c with ⟨hz, a, b, hb⟩ | ⟨T, f, oT, hz, hT, r1, r2, r3, r4⟩
  · exact .inl ⟨k _ _ (Ne.symm n1) hz, a, b, k _ _ (Ne.symm n3) hb⟩
  · exact .inr ⟨T, f, oT, k _ _ (Ne.symm n1) hz, k _ _ r4 hT, r1, r2, r3, r4⟩
section
variable {prog : Program} {w : World} {A : Around} {E : Value → Shared → Prop} {s : Shared}
theorem zst_item {z TI TO i1 i2 l1 l2 S : Addr} {i : Nat} {xs ys : Array Value} {x y : Value} {Q : Option Value → Shared → Prop} (D : ZipApart z TI TO i1 i2 l1 l2) (st : ZSt s.heap z TI TO i1 i2 l1 l2 S i) (hS : S < s.heap.objs.size)
    (u1 : s.heap.IsTuple l1 xs) (u2 : s.heap.IsTuple l2 ys) (hx : xs[i]? = some x) (hy : ys[i]? = some y)
    (q : ∀ h', ZSt h' z TI TO i1 i2 l1 l2 S (i + 1) → IsPair h' s.heap.objs.size x y → h'.objs.size = s.heap.objs.size + 1 → (∀ c o, c ∉ [z, TO, i1, i2] → s.heap.get? c = some o → h'.get? c = some o) → Q (some (.ref s.heap.objs.size)) { s with heap := h' }) :
    wpAny (model prog w) A (pyNext (.ref z)) Q E s := by
  obtain ⟨p, t1, t2, c⟩ := st
  have lt : ∀ {c : Addr} {o : Obj}, s.heap.get? c = some o → s.heap.objs.size ≠ c := fun e => Nat.ne_of_gt (Heap.lt_size e)
  have m1 : s.heap.objs.size ≠ i1 := let ⟨_, e, _⟩ := t1; lt e
  have m2 : s.heap.objs.size ≠ i2 := let ⟨_, e, _⟩ := t2; lt e
  rcases c with ⟨hz, a, b, hb⟩ | ⟨T, f, oT, hz, hT, r1, r2, r3, r4⟩
  · refine RZ.pyNext_zipT_item D hz p hb t1 t2 u1 u2 hx hy fun h' a1 a2 a3 a4 a5 a6 hk => ?_
    refine q h' ⟨hk _ _ D.TIz D.TITO D.TIi1 D.TIi2 p, a3, a4, .inr ⟨s.heap.objs.size, false, _, a1, a5, lt hz, m1, m2, Nat.ne_of_gt hS⟩⟩ a5 a6 fun c o n e => ?_
    simp only [List.mem_cons, List.not_mem_nil, or_false, not_or] at n
    exact hk c o n.1 n.2.1 n.2.2.1 n.2.2.2 e
  · refine held_item D hz hT p t1 t2 u1 u2 hx hy fun h' a1 a3 a4 a5 a6 hk => ?_
    refine q h' ⟨hk _ _ D.TIz D.TIi1 D.TIi2 p, a3, a4, .inr ⟨T, true, oT, a1, hk _ _ r1 r2 r3 hT, r1, r2, r3, r4⟩⟩ a5 a6 fun c o n e => ?_
    simp only [List.mem_cons, List.not_mem_nil, or_false, not_or] at n
    exact hk c o n.1 n.2.2.1 n.2.2.2 e
theorem zst_end {z TI TO i1 i2 l1 l2 S : Addr} {i : Nat} {xs ys : Array Value} {Q : Option Value → Shared → Prop} (hh : A.handled = none) (D : ZipApart z TI TO i1 i2 l1 l2) (st : ZSt s.heap z TI TO i1 i2 l1 l2 S i)
    (u1 : s.heap.IsTuple l1 xs) (u2 : s.heap.IsTuple l2 ys) (he : xs[i]? = none ∨ ys[i]? = none) (q : ∀ h', (∀ c o, c ∉ [z, TO, i1, i2] → s.heap.get? c = some o → h'.get? c = some o) → Q none { s with heap := h' }) : wpAny (model prog w) A (pyNext (.ref z)) Q E s := by
  obtain ⟨p, t1, t2, c⟩ := st
  rcases c with ⟨hz, a, b, hb⟩ | ⟨T, f, oT, hz, hT, r1, r2, r3, r4⟩
  · refine RZ.pyNext_zipT_end hh D hz p hb t1 t2 u1 u2 he fun h' hk => q h' fun c o n e => ?_
    simp only [List.mem_cons, List.not_mem_nil, or_false, not_or] at n
    exact hk c o n.1 n.2.1 n.2.2.1 n.2.2.2 e
  · refine held_end hh D hz hT p t1 t2 u1 u2 he fun h' hk => q h' fun c o n e => ?_
    simp only [List.mem_cons, List.not_mem_nil, or_false, not_or] at n
    exact hk c o n.1 n.2.2.1 n.2.2.2 e
end
/-- the pairs laid so far, above lo -/
structure ZG (xs ys : Array Value) (lo : Addr) (h : Heap) (as : List Addr) : Prop where
  rise : as.Pairwise (· < ·)
  above : ∀ a ∈ as, lo < a
  pairs : ∀ (j : Nat) (a : Addr), as[j]? = some a → ∃ x y, xs[j]? = some x ∧ ys[j]? = some y ∧ IsPair h a x y
theorem ZG.there {xs ys : Array Value} {lo : Addr} {h : Heap} {as : List Addr} (g : ZG xs ys lo h as) {a : Addr} (ha : a ∈ as) : a < h.objs.size := by
  obtain ⟨j, hj⟩ := List.mem_iff_getElem?.mp ha
  obtain ⟨x, y, _, _, e⟩ := g.pairs j a hj
  exact Heap.lt_size e
theorem ZG.keep {xs ys : Array Value} {lo : Addr} {h h' : Heap} {as : List Addr} (g : ZG xs ys lo h as) (k : ∀ b o, lo < b → h.get? b = some o → h'.get? b = some o) : ZG xs ys lo h' as :=
  ⟨g.rise, g.above, fun j a hj => let ⟨x, y, e1, e2, e3⟩ := g.pairs j a hj; ⟨x, y, e1, e2, k a _ (g.above a (List.mem_of_getElem? hj)) e3⟩⟩
theorem ZG.snoc {xs ys : Array Value} {lo : Addr} {h h' : Heap} {as : List Addr} {b : Addr} {x y : Value} (g : ZG xs ys lo h as) (k : ∀ b o, lo < b → h.get? b = some o → h'.get? b = some o) (hb : b = h.objs.size) (hl : lo < b)
    (hx : xs[as.length]? = some x) (hy : ys[as.length]? = some y) (hp : IsPair h' b x y) : ZG xs ys lo h' (as ++ [b]) := by
  have g' := g.keep k
  refine ⟨List.pairwise_append.mpr ⟨g.rise, List.pairwise_singleton _ _, fun a ha c hc => ?_⟩, fun a ha => ?_, fun j a hj => ?_⟩
  · rw [List.mem_singleton.mp hc, hb]
    exact g.there ha
  · rcases List.mem_append.mp ha with ha | ha
    · exact g.above a ha
    · rw [List.mem_singleton.mp ha]
      exact hl
  · by_cases lt : j < as.length
    · rw [List.getElem?_append_left lt] at hj
      exact g'.pairs j a hj
    · rw [List.getElem?_append_right (by omega)] at hj
      have e : j - as.length = 0 := by
        by_cases z : j - as.length = 0
        · exact z
        · rw [List.getElem?_eq_none (by simp; omega)] at hj
          cases hj
      rw [e] at hj
      have ej : j = as.length := by omega
      subst ej
      cases hj
      exact ⟨x, y, hx, hy, hp⟩
section
variable {prog : Program} {w : World} {A : Around} {s : Shared} {R : Result → Shared → Prop}
theorem z_loop {S z TI TO i1 i2 l1 l2 lo : Addr} {xs ys : Array Value} {n : Nat} (hh : A.handled = none) (D : ZipApart z TI TO i1 i2 l1 l2) (hn : n = min xs.size ys.size) (hz : n ≤ sizeLine) (aS : S ∉ [z, TI, TO, i1, i2]) (aL : l1 ≠ S ∧ l2 ≠ S)
    (low : ∀ b ∈ [S, z, TO, i1, i2], b ≤ lo) (res : Value) {h₁ : Heap}
    (hR : ∀ h' tk acc c as, (∀ b o, b ∉ [S, z, TO, i1, i2] → h₁.get? b = some o → h'.get? b = some o) → h'.get? S = some { cls := .type "list", dict := none, data := .seq acc c, slots := #[] } → as.length = n → ZG xs ys lo h' as →
      acc.toList = as.map Value.ref → R (.ok (.ret res)) { s with heap := h', toks := tk }) :
    ∀ (k i : Nat) (h : Heap) (tk c : Nat) (acc : Array Value) (as : List Addr), n - i = k → i ≤ n → ZSt h z TI TO i1 i2 l1 l2 S i → h.IsTuple l1 xs → h.IsTuple l2 ys → (∀ b o, b ∉ [S, z, TO, i1, i2] → h₁.get? b = some o → h.get? b = some o) →
      h.get? S = some { cls := .type "list", dict := none, data := .seq acc c, slots := #[] } → acc.toList = as.map Value.ref → as.length = i → ZG xs ys lo h as → lo < h.objs.size →
      codeAny (model prog w) A (.builtin "list.extend.loop" ⟨[.ref S, .ref z, res], []⟩) R { s with heap := h, toks := tk } := by
  have sub : ∀ b, b ∉ [S, z, TO, i1, i2] → b ∉ [z, TO, i1, i2] := fun b hb m => hb (List.mem_cons_of_mem _ m)
  have up2 : ∀ b, lo < b → b ∉ [S, z, TO, i1, i2] := fun b hb m => absurd (low b m) (Nat.not_le_of_lt hb)
  have S4 : S ∉ [z, TO, i1, i2] := fun m => aS (by
    simp only [List.mem_cons, List.not_mem_nil, or_false] at m ⊢
    rcases m with m | m | m | m
    · exact .inl m
    · exact .inr (.inr (.inl m))
    · exact .inr (.inr (.inr (.inl m)))
    · exact .inr (.inr (.inr (.inr m))))
  intro k
  induction k with
  | zero =>
    intro i h tk c acc as hk hi st u1 u2 kp hS ha hl g hs
    refine codeAny_builtin PySem.F.entry_extend_loop ?_; rw [Around.under_plainId PySem.F.plain_extend_loop _]
    show wpAny _ A.in1 (pyNext (.ref z) >>= _) _ _ _
    have e : xs[i]? = none ∨ ys[i]? = none := by
      have : i = min xs.size ys.size := by omega
      rcases Nat.le_total xs.size ys.size with q | q
      · exact .inl (Array.getElem?_eq_none (by omega))
      · exact .inr (Array.getElem?_eq_none (by omega))
    refine wpAny_bind (zst_end (A := A.in1) (s := { s with heap := h, toks := tk }) hh D st u1 u2 e fun h' hk' => ?_)
    exact wpAny_pure (hR h' tk acc c as (fun b o m e => hk' b o (sub b m) (kp b o m e)) (hk' S _ S4 hS) (by omega) (g.keep fun b o lb e => hk' b o (sub b (up2 b lb)) e) ha)
  | succ k ih =>
    intro i h tk c acc as hk hi st u1 u2 kp hS ha hl g hs
    have hx : i < xs.size := by omega
    have hy : i < ys.size := by omega
    have sz : acc.size = i := by rw [← Array.length_toList, ha, List.length_map, hl]
    have lS : S < h.objs.size := Heap.lt_size hS
    refine codeAny_builtin PySem.F.entry_extend_loop ?_; rw [Around.under_plainId PySem.F.plain_extend_loop _]
    show wpAny _ A.in1 (pyNext (.ref z) >>= _) _ _ _
    refine wpAny_bind (zst_item (A := A.in1) (s := { s with heap := h, toks := tk }) D st lS u1 u2 (Array.getElem?_eq_getElem hx) (Array.getElem?_eq_getElem hy) fun h' st' hp sz' hk' => ?_)
    dsimp only at hp sz' hk' ⊢
    have hS' := hk' S _ S4 hS
    have up : ∀ b o, b ≠ S → h'.get? b = some o → (h'.update S (Obj.mapSeq (·.push (Value.ref h.objs.size)))).get? b = some o := fun b o hb e => (Heap.get?_update_other _ _ (Ne.symm hb)).trans e
    have nl : ∀ b o, lo < b → h.get? b = some o → (h'.update S (Obj.mapSeq (·.push (Value.ref h.objs.size)))).get? b = some o := fun b o lb e => up b o (fun z => up2 b lb (by simp [z])) (hk' b o (sub b (up2 b lb)) e)
    have hp' : IsPair (h'.update S (Obj.mapSeq (·.push (Value.ref h.objs.size)))) h.objs.size _ _ := up _ _ (Nat.ne_of_gt lS) hp
    show wpAny _ A.in1 (updateSeq S (·.push (Value.ref h.objs.size)) >>= _) _ _ _
    refine wpAny_bind (wpAny_updateSeq hS' rfl (wpAny_pure ⟨plainId_quiet PySem.F.plain_extend_loop _, ?_⟩) (by rw [sz]; omega) (by show (acc.push (Value.ref h.objs.size)).size ≤ sizeLine + 1; rw [Array.size_push, sz]; omega))
    have tup : ∀ {l : Addr} {vs : Array Value}, l ≠ S → l ∉ [z, TO, i1, i2] → h.IsTuple l vs → (h'.update S (Obj.mapSeq (·.push (Value.ref h.objs.size)))).IsTuple l vs := fun n1 n2 ⟨o, e, r⟩ => ⟨o, up _ o n1 (hk' _ o n2 e), r⟩
    have L1 : l1 ∉ [z, TO, i1, i2] := by
      simp only [List.mem_cons, List.not_mem_nil, or_false, not_or]
      exact ⟨D.l1z, D.l1TO, D.l1i1, D.l1i2⟩
    have L2 : l2 ∉ [z, TO, i1, i2] := by
      simp only [List.mem_cons, List.not_mem_nil, or_false, not_or]
      exact ⟨D.l2z, D.l2TO, D.l2i1, D.l2i2⟩
    refine ih (i + 1) _ tk _ (acc.push (Value.ref h.objs.size)) (as ++ [h.objs.size]) (by omega) (by omega) (st'.keep aS up) (tup aL.1 L1 u1) (tup aL.2 L2 u2) (fun b o m e => up b o (fun z => m (by simp [z])) (hk' b o (sub b m) (kp b o m e)))
      (Heap.get?_update_self _ hS' rfl) (by rw [Array.toList_push, ha, List.map_append]; rfl) (by rw [List.length_append, hl]; rfl) (g.snoc nl rfl hs (by rw [hl]; exact Array.getElem?_eq_getElem hx) (by rw [hl]; exact Array.getElem?_eq_getElem hy) hp') (Nat.lt_trans hs (Heap.lt_size hp'))
end
theorem zip_len0 : typeLookup (.type "zip") "__len__" = pure none := am_miss_of_fast (by decide +kernel)
theorem zip_hint0 : typeLookup (.type "zip") "__length_hint__" = pure none := am_miss_of_fast (by decide +kernel)
section
variable {prog : Program} {w : World} {A : Around} {E : Value → Shared → Prop} {s : Shared}
/-- a zip of two tuples just made -/
structure Z0 (h : Heap) (z TI TO i1 i2 l1 l2 : Addr) (xs ys : Array Value) : Prop where
  iz : IsZip h z TI TO .none
  ti : IsPair h TI (.ref i1) (.ref i2)
  to : ∃ a b, IsPair h TO a b
  t1 : h.IsTupleIter i1 l1 0
  t2 : h.IsTupleIter i2 l2 0
  u1 : h.IsTuple l1 xs
  u2 : h.IsTuple l2 ys
  d : ZipApart z TI TO i1 i2 l1 l2
theorem Z0.keep {h h' : Heap} {z TI TO i1 i2 l1 l2 : Addr} {xs ys : Array Value} (q : Z0 h z TI TO i1 i2 l1 l2 xs ys) (k : ∀ b o, b < h.objs.size → h.get? b = some o → h'.get? b = some o) : Z0 h' z TI TO i1 i2 l1 l2 xs ys := by
  have kk : ∀ b o, h.get? b = some o → h'.get? b = some o := fun b o e => k b o (Heap.lt_size e) e
  obtain ⟨a, b, e⟩ := q.to
  obtain ⟨o1, e1, r1⟩ := q.u1
  obtain ⟨o2, e2, r2⟩ := q.u2
  exact ⟨kk _ _ q.iz, kk _ _ q.ti, ⟨a, b, kk _ _ e⟩, q.t1.at fun o e => kk _ o e, q.t2.at fun o e => kk _ o e, ⟨o1, kk _ _ e1, r1⟩, ⟨o2, kk _ _ e2, r2⟩, q.d⟩
theorem Z0.lt {h : Heap} {z TI TO i1 i2 l1 l2 : Addr} {xs ys : Array Value} (q : Z0 h z TI TO i1 i2 l1 l2 xs ys) : ∀ b ∈ [z, TI, TO, i1, i2, l1, l2], b < h.objs.size := by
  obtain ⟨a, b, e⟩ := q.to
  obtain ⟨o1, e1, r1⟩ := q.u1
  obtain ⟨o2, e2, r2⟩ := q.u2
  obtain ⟨o3, e3, _⟩ := q.t1
  obtain ⟨o4, e4, _⟩ := q.t2
  intro c hc
  simp only [List.mem_cons, List.not_mem_nil, or_false] at hc
  rcases hc with h | h | h | h | h | h | h
  · rw [h]; exact Heap.lt_size q.iz
  · rw [h]; exact Heap.lt_size q.ti
  · rw [h]; exact Heap.lt_size e
  · rw [h]; exact Heap.lt_size e3
  · rw [h]; exact Heap.lt_size e4
  · rw [h]; exact Heap.lt_size e1
  · rw [h]; exact Heap.lt_size e2
theorem z_extend {R : Result → Shared → Prop} {z TI TO i1 i2 l1 l2 S : Addr} {xs ys : Array Value} {n c₀ : Nat} (hh : A.handled = none) (q0 : Z0 s.heap z TI TO i1 i2 l1 l2 xs ys) (hn : n = min xs.size ys.size) (hz : n ≤ sizeLine)
    (aS : ∀ b ∈ [z, TI, TO, i1, i2, l1, l2], b < S) (res : Value) (hS : s.heap.get? S = some { cls := .type "list", data := .seq #[] c₀ })
    (hR : ∀ h' tk acc c as, (∀ b o, b ∉ [S, z, TO, i1, i2] → s.heap.get? b = some o → h'.get? b = some o) → h'.get? S = some { cls := .type "list", dict := none, data := .seq acc c, slots := #[] } → as.length = n → ZG xs ys S h' as →
      acc.toList = as.map Value.ref → R (.ok (.ret res)) { s with heap := h', toks := tk }) :
    wpAny (model prog w) A.in1 (Builtin.List.listExtendWith (.ref S) (.ref z) res) (fun fin s' => match fin with | .done f => R (.ok f) s' | .again c' => c'.quiet = true ∧ codeAny (model prog w) A c' R s') (fun e s' => R (.error e) s') s := by
  have nS : ∀ b ∈ [z, TI, TO, i1, i2, l1, l2], b ≠ S := fun b hb => Nat.ne_of_lt (aS b hb)
  have ty : s.TypeIs (.ref z) "zip" := ⟨_, q0.iz, rfl⟩
  have lS : S < s.heap.objs.size := Heap.lt_size hS
  unfold Builtin.List.listExtendWith
  refine wpAny_bind (wpAny_typeOf ty ?_)
  have e1 : Builtin.List.listSameRef (.ref S) (.ref z) = false := by simp [Builtin.List.listSameRef, Ne.symm (nS z (by simp))]
  have e2 : (Value.type "zip" == Value.type "list") = false := by decide
  have e3 : (Value.type "zip" == Value.type "tuple") = false := by decide
  simp only [e1, e2, e3, Bool.or_false, Bool.false_eq_true, if_false]
  refine wpAny_bind (wpAny_pyIter_zip q0.iz ?_); refine wpAny_bind (wpAny_holding ?_)
  unfold Builtin.List.listLengthHint
  refine wpAny_bind (wpAny_specialOf ty zip_len0 ?_); show wpAny _ A.in1 (specialOf (Value.ref z) (Str.ofString "__length_hint__") >>= _) _ _ s
  refine wpAny_bind (wpAny_specialOf ty zip_hint0 ?_); refine wpAny_pure ?_
  show wpAny _ A.in1 (rule "list.extend.makes-room" >>= fun _ => Builtin.List.listTouch (.ref S) >>= fun _ => again (.builtin "list.extend.loop" ⟨[.ref S, .ref z, res], []⟩)) _ _ s
  refine wpAny_bind (wpAny_rule ?_); refine wpAny_bind ?_
  show wpAny _ A.in1 (updateSeq S (·.push .none) >>= fun _ => updateSeq S (·.pop)) _ _ s
  refine wpAny_bind (wpAny_updateSeq hS rfl ?_)
  have g1 := Heap.get?_update_self (Obj.mapSeq (·.push Value.none)) hS rfl
  refine wpAny_updateSeq (hz := by seq_fits) g1 rfl ?_
  have g2 := Heap.get?_update_self (Obj.mapSeq (·.pop)) g1 rfl
  have oth : ∀ b o, b ≠ S → s.heap.get? b = some o → ((s.heap.update S (Obj.mapSeq (·.push Value.none))).update S (Obj.mapSeq (·.pop))).get? b = some o := fun b o n e => (Heap.get?_update_other _ _ (Ne.symm n)).trans ((Heap.get?_update_other _ _ (Ne.symm n)).trans e)
  obtain ⟨a, b, e⟩ := q0.to
  obtain ⟨o1, x1, r1⟩ := q0.u1
  obtain ⟨o2, x2, r2⟩ := q0.u2
  refine wpAny_pure ⟨plainId_quiet PySem.F.plain_extend_loop _, z_loop (s := s) (h₁ := s.heap) (lo := S) (n := n) hh q0.d hn hz ?_ ⟨nS _ (by simp), nS _ (by simp)⟩ ?_ res hR n 0 _ _ _ #[] [] (Nat.sub_zero _) (Nat.zero_le _)
    ⟨oth _ _ (nS _ (by simp)) q0.ti, q0.t1.at fun o e => oth _ o (nS _ (by simp)) e, q0.t2.at fun o e => oth _ o (nS _ (by simp)) e, .inl ⟨oth _ _ (nS _ (by simp)) q0.iz, a, b, oth _ _ (nS _ (by simp)) e⟩⟩
    ⟨o1, oth _ _ (nS _ (by simp)) x1, r1⟩ ⟨o2, oth _ _ (nS _ (by simp)) x2, r2⟩ (fun b o m e => oth b o (fun z => m (by simp [z])) e) g2 rfl rfl ⟨List.Pairwise.nil, (fun _ ha => nomatch ha), (fun j a hj => by simp at hj)⟩ (Heap.lt_size g2)⟩
  · intro m
    exact Nat.lt_irrefl _ (aS S (by
      simp only [List.mem_cons, List.not_mem_nil, or_false] at m ⊢
      rcases m with m | m | m | m | m
      · exact .inl m
      · exact .inr (.inl m)
      · exact .inr (.inr (.inl m))
      · exact .inr (.inr (.inr (.inl m)))
      · exact .inr (.inr (.inr (.inr (.inl m))))))
  · intro b hb
    simp only [List.mem_cons, List.not_mem_nil, or_false] at hb
    rcases hb with h | h | h | h | h
    · rw [h]; exact Nat.le_refl _
    · rw [h]; exact Nat.le_of_lt (aS _ (by simp))
    · rw [h]; exact Nat.le_of_lt (aS _ (by simp))
    · rw [h]; exact Nat.le_of_lt (aS _ (by simp))
    · rw [h]; exact Nat.le_of_lt (aS _ (by simp))
theorem z_call {Q : Value → Shared → Prop} {z TI TO i1 i2 l1 l2 : Addr} {xs ys : Array Value} {n : Nat} (hh : A.handled = none) (q0 : Z0 s.heap z TI TO i1 i2 l1 l2 xs ys) (hn : n = min xs.size ys.size) (hz : n ≤ sizeLine)
    (q : ∀ h' tk acc c as, (∀ b o, b ∉ [z, TO, i1, i2] → s.heap.get? b = some o → h'.get? b = some o) → h'.get? s.heap.objs.size = some { cls := .type "list", dict := none, data := .seq acc c, slots := #[] } → as.length = n → ZG xs ys s.heap.objs.size h' as →
      acc.toList = as.map Value.ref → Q (.ref s.heap.objs.size) { s with heap := h', toks := tk }) : wpAny (model prog w) A (call (.type "list") [.ref z]) Q E s := by
  refine callType_codes (Q₁ := fun obj s₁ => obj = .ref s.heap.objs.size ∧ s₁ = { s with heap := s.heap.push { cls := .type "list", data := .seq #[] } }) PySem.F.called_list (PySem.F.typeCall_list_1 _) PySem.F.entry_list_init (code_list_new _ ⟨rfl, rfl⟩) fun obj s₁ h₁ => ?_
  obtain ⟨rfl, rfl⟩ := h₁
  have hS : (s.heap.push { cls := .type "list", data := .seq #[] }).get? s.heap.objs.size = some { cls := .type "list", data := .seq #[] } := Heap.get?_push_size _ rfl
  refine ⟨⟨_, hS, rfl⟩, PySem.F.args_list_init_2 _ _, ?_⟩
  show wpAny _ _ (do let old ← Builtin.List.listItems (.ref s.heap.objs.size); Builtin.List.listUpdate (.ref s.heap.objs.size) (fun _ => #[]); letGo old.toList.reverse; Builtin.List.listExtendWith (.ref s.heap.objs.size) (.ref z) .none) _ _ _
  refine wpAny_bind ?_; unfold Builtin.List.listItems; refine wpAny_bind (wpAny_seqItems hS rfl (wpAny_pure ?_))
  show wpAny _ _ (updateSeq s.heap.objs.size (fun _ => #[]) >>= fun _ => letGo (#[] : Array Value).toList.reverse >>= fun _ => Builtin.List.listExtendWith (.ref s.heap.objs.size) (.ref z) .none) _ _ _
  refine wpAny_bind (wpAny_updateSeq hS rfl ?_)
  have g1 := Heap.get?_update_self (Obj.mapSeq (fun _ => (#[] : Array Value))) hS rfl
  have oth : ∀ b o, b ≠ s.heap.objs.size → s.heap.get? b = some o → ((s.heap.push { cls := .type "list", data := .seq #[] }).update s.heap.objs.size (Obj.mapSeq (fun _ => (#[] : Array Value)))).get? b = some o :=
    fun b o n e => (Heap.get?_update_other _ _ (Ne.symm n)).trans (Heap.get?_push_of_some _ e)
  refine wpAny_bind (wpAny_letGo ?_)
  refine z_extend (A := A.in1) hh (q0.keep fun b o lb e => oth b o (Nat.ne_of_lt lb) e) hn hz q0.lt .none g1 fun h' tk acc c as hk hS' hl hG ha => ?_
  refine ⟨rfl, q h' tk acc c as (fun b o m e => hk b o (fun y => ?_) (oth b o (Nat.ne_of_lt (Heap.lt_size e)) e)) hS' hl hG ha⟩
  rcases List.mem_cons.mp y with y | y
  · exact Nat.ne_of_lt (Heap.lt_size e) y
  · exact m y
end
/-- pairs tracked at these addresses -/
def putP : Hp → List Addr → List (V × V) → Hp
  | H, a :: as, p :: ps => putP (upd H a (.tup [p.1, p.2])) as ps
  | H, _, _ => H
theorem putP_off {b : Addr} : ∀ (as : List Addr) (ps : List (V × V)) (H : Hp), b ∉ as → putP H as ps b = H b
  | [], _, _, _ => by unfold putP; rfl
  | _ :: _, [], _, _ => by unfold putP; rfl
  | a :: as, p :: ps, H, h => by
    unfold putP
    rw [putP_off as ps _ fun z => h (List.mem_cons_of_mem _ z), upd_ne fun z => h (by rw [z]; exact List.mem_cons_self)]
theorem putP_at : ∀ (as : List Addr) (ps : List (V × V)) (H : Hp), as.length = ps.length → as.Nodup → ∀ (j : Nat) (a : Addr), as[j]? = some a → ∃ x y, ps[j]? = some (x, y) ∧ putP H as ps a = some (.tup [x, y])
  | [], _, _, _, _, _, _, e => by simp at e
  | _ :: _, [], _, h, _, _, _, _ => by cases h
  | a :: as, p :: ps, H, h, nd, j, b, e => by
    have nd := List.nodup_cons.mp nd
    unfold putP
    cases j with
    | zero =>
      cases e
      exact ⟨p.1, p.2, rfl, by rw [putP_off as ps _ nd.1, upd_same]⟩
    | succ j =>
      exact putP_at as ps _ (Nat.succ.inj h) nd.2 j b e
section
variable {X : Cx} {pins : List (Addr × Obj)} {σ : L2.St} {H : Hp} {s : Shared}
theorem zip_laid {h' : Heap} {tk c : Nat} {xs ys : List V} {its its2 : List Value} {acc : Array Value} {as : List Addr} {S n : Nat} (I : Inv X pins σ H s) (rx : Vals xs its) (ry : Vals ys its2) (hn : n = min xs.length ys.length) (hz : n ≤ sizeLine) (lS : s.heap.objs.size ≤ S)
    (hk : ∀ b o, s.heap.get? b = some o → h'.get? b = some o) (hS : h'.get? S = some { cls := .type "list", dict := none, data := .seq acc c, slots := #[] }) (hl : as.length = n) (g : ZG its.toArray its2.toArray S h' as) (ha : acc.toList = as.map Value.ref) :
    ∃ H' : Hp, Same H H' ∧ H S = none ∧ (∀ t ∈ as, H t = none) ∧ S ∉ as ∧ H' S = some (.lst (as.map V.ref)) ∧ (∀ (j : Nat) (t : Addr), as[j]? = some t → ∃ x y, xs[j]? = some x ∧ ys[j]? = some y ∧ H' t = some (.tup [x, y])) ∧ Inv X pins σ H' { s with heap := h', toks := tk } := by
  have nS : S ∉ as := fun z => Nat.lt_irrefl _ (g.above _ z)
  have nd : as.Nodup := List.Pairwise.imp (fun {a b} (h : a < b) => Nat.ne_of_lt h) g.rise
  have new : ∀ t ∈ as, H t = none := fun t ht => I.hok.fresh (Nat.le_trans lS (Nat.le_of_lt (g.above t ht)))
  have newS : H S = none := I.hok.fresh lS
  have lz : as.length = (xs.zip ys).length := by rw [List.length_zip, hl, hn]
  generalize hH : putP (upd H S (.lst (as.map V.ref))) as (xs.zip ys) = H'
  have atP : ∀ (j : Nat) (t : Addr), as[j]? = some t → ∃ x y, xs[j]? = some x ∧ ys[j]? = some y ∧ H' t = some (.tup [x, y]) := fun j t e => by
    obtain ⟨x, y, e1, e2⟩ := putP_at as (xs.zip ys) (upd H S (.lst (as.map V.ref))) lz nd j t e
    rw [hH] at e2
    have q := List.getElem?_zip_eq_some.mp e1
    exact ⟨x, y, q.1, q.2, e2⟩
  have off : ∀ b, b ∉ as → b ≠ S → H' b = H b := fun b h1 h2 => by rw [← hH, putP_off as _ _ h1, upd_ne h2]
  have lo : ∀ b o, s.heap.get? b = some o → b ∉ as ∧ b ≠ S := fun b o e => ⟨fun z => absurd (Nat.lt_of_lt_of_le (Heap.lt_size e) (Nat.le_trans lS (Nat.le_of_lt (g.above b z)))) (Nat.lt_irrefl _), Nat.ne_of_lt (Nat.lt_of_lt_of_le (Heap.lt_size e) lS)⟩
  have kp : Same H H' := fun b u e => by
    rw [off b (fun z => by rw [new b z] at e; cases e) (fun z => by rw [z, newS] at e; cases e)]
    exact e
  have eS : H' S = some (.lst (as.map V.ref)) := by rw [← hH, putP_off as _ _ nS, upd_same]
  refine ⟨H', kp, newS, new, nS, eS, atP, ?_⟩
  refine I.call' (ch := []) rfl ⟨fun b o e _ _ _ => hk b o e, fun b o e _ _ _ => ⟨o.slots, hk b o e⟩, fun b o e m _ => ?_, fun b o e _ => ⟨o, hk b o e⟩, fun b vs e => kp b _ e, fun b o u e => kp b _ e, fun b ps e => ⟨#[], by rw [kp b _ e]; simp⟩⟩ (fun b u e => ?_) I.bare fun b z => by simp at z
  · obtain ⟨z1, z2⟩ := lo b o e
    rw [off b z1 z2]
    exact m
  · by_cases hb : b ∈ as
    · obtain ⟨j, ej⟩ := List.mem_iff_getElem?.mp hb
      obtain ⟨x, y, ex, ey, et⟩ := atP j b ej
      rw [et] at e
      cases e
      obtain ⟨u, v, eu, ev, hp⟩ := g.pairs j b ej
      obtain ⟨u', eu', ru⟩ := rx.get ex
      obtain ⟨v', ev', rv⟩ := ry.get ey
      have a1 : u' = u := by
        have eu : its[j]? = some u := by simpa using eu
        rw [eu] at eu'
        exact (Option.some.inj eu').symm
      have a2 : v' = v := by
        have ev : its2[j]? = some v := by simpa using ev
        rw [ev] at ev'
        exact (Option.some.inj ev').symm
      subst a1
      subst a2
      exact ⟨by show 2 ≤ sizeLine; decide, [u', v'], .cons ru (.cons rv .nil), ⟨_, hp, rfl, _, rfl⟩⟩
    · by_cases hb2 : b = S
      · rw [hb2] at e ⊢
        rw [eS] at e
        cases e
        refine ⟨by rw [List.length_map]; omega, acc.toList, c, by rw [ha]; exact LiI.vals_refs as, ?_⟩
        rw [Array.toArray_toList]
        exact hS
      · rw [off b hb hb2] at e
        exact (I.hok b u e).stay (fun d v _ y => hk d v y) (fun d y => kp d _ y) fun d vs y => kp d _ y
end
/-- list(zip(t, u)) of two tuples -/
def tListZip (K : PySem.W.Frag) (ta : TA) : TE := fun σ H Q => ta σ H fun vs H1 => ∃ a b xs ys, vs = [.ref a, .ref b] ∧ SqT K H1 a xs ∧ SqT K H1 b ys ∧
  ∀ (p : Addr) (ts : List Addr) (H' : Hp), Same H1 H' → H1 p = none → (∀ t ∈ ts, H1 t = none) → p ∉ ts → H' p = some (.lst (ts.map V.ref)) → ts.length = min xs.length ys.length → (∀ (j : Nat) (t : Addr), ts[j]? = some t → ∃ x y, xs[j]? = some x ∧ ys[j]? = some y ∧ H' t = some (.tup [x, y])) → Q (.ref p) H'
section
variable {X : Cx} {e e2 : Expr} {ta : TA} {p p2 zpos pos : Pos}
theorem pe_listZip (hc : X.calm = true) (ha : PA X [e, e2] ta) (hg : Gl X "list") (hm : X.mg "list" = none) (hgz : Gl X "zip") (hmz : X.mg "zip" = none)
    (hs : starEach [.Call (.Name "zip" p2) [e, e2] [] zpos] X.env = (false, eval (.Call (.Name "zip" p2) [e, e2] [] zpos) X.env) :: starEach [] X.env := by rfl)
    (hs2 : starEach [e, e2] X.env = (false, eval e X.env) :: starEach [e2] X.env := by rfl) (hpl : (backTo zpos (starEach [e2] X.env)).any (·.1) = false := by rfl) :
    PE X (.Call (.Name "list" p) [.Call (.Name "zip" p2) [e, e2] [] zpos] [] pos) (tListZip X.K ta) := by
  refine ⟨fun pins s σ H Q I hq => ?_⟩
  refine wpAny_Call_Name_kw (ld_blt I hg hm b_list ?_); refine PyProof.Rows.callWith_type1 ?_ hs rfl
  rw [hs]
  show wpAny _ _ (spliced ((false, eval (.Call (.Name "zip" p2) [e, e2] [] zpos) X.env) :: backTo pos (starEach [] X.env))) _ _ s
  refine Calls.spliced_cons ?_
  refine Call_ (ld_blt I hgz hmz PyProof.Rows.boot_zip (PyProof.Rows.callWith_type1 (thn (ha.run zpos pins s σ H _ I hq) fun us s1 ⟨vs, H1, I1, r1, q1⟩ => ?_) hs2 hpl))
  obtain ⟨a, b, xs, ys, ex, hx, hy, q⟩ := q1
  subst ex
  obtain ⟨u, u2, rfl, ru, ru2⟩ := vals2 r1
  cases ru
  cases ru2
  obtain ⟨its, rx, px, bx⟩ := I1.tuple hx
  obtain ⟨its2, ry, py, bY⟩ := I1.tuple hy
  obtain ⟨o1, e1, r1'⟩ := id px
  obtain ⟨o2, e2', r2'⟩ := id py
  have lx := rx.length
  have ly := ry.length
  refine RZ.call_zipT (show s1.heap.IsTuple a its.toArray from px) (show s1.heap.IsTuple b its2.toArray from py) fun h' hz hTI hTO h1 h2 hsz hk => ?_
  refine Calls.spliced_nil ?_
  have q0 : Z0 h' (s1.heap.objs.size + 4) (s1.heap.objs.size + 2) (s1.heap.objs.size + 3) s1.heap.objs.size (s1.heap.objs.size + 1) a b its.toArray its2.toArray :=
    ⟨hz, hTI, ⟨_, _, hTO⟩, h1, h2, ⟨o1, hk _ _ e1, r1'⟩, ⟨o2, hk _ _ e2', r2'⟩, PySem.W.ktu_apart s1.heap.objs.size a b (Heap.lt_size e1) (Heap.lt_size e2')⟩
  refine z_call (n := min xs.length ys.length) (s := { s1 with heap := h' }) (I1.ok.hd hc) q0 (by rw [List.size_toArray, List.size_toArray, lx, ly]) (Nat.le_trans (Nat.min_le_left _ _) bx) fun h'' tk acc c as hk2 hS hl g hacc => ?_
  have kk : ∀ b o, s1.heap.get? b = some o → h''.get? b = some o := fun b o z => hk2 b o (fun m => by
    have lb := Heap.lt_size z
    simp only [List.mem_cons, List.not_mem_nil, or_false] at m
    rcases m with m | m | m | m <;> rw [m] at lb <;> first | exact Nat.lt_irrefl _ lb | exact absurd lb (Nat.not_lt.mpr (Nat.le_add_right _ _))) (hk b o z)
  obtain ⟨H', k1, k2, k3, k4, k5, k6, J⟩ := zip_laid (S := h'.objs.size) (tk := tk) I1 rx ry rfl (Nat.le_trans (Nat.min_le_left _ _) bx) (by rw [hsz]; exact Nat.le_add_right _ _) kk hS hl g hacc
  exact ⟨.ref _, H', J, rfl, q _ as H' k1 k2 k3 k4 k5 hl k6⟩
end
/-! enumerate over a list, a tuple or a text, from any number on -/
/-- what stands in Its is gone along by the iterator at it -/
structure Goer (P : Program) (w : World) (K : PySem.W.Frag) (it : Addr) (Its : Hp → List V → Prop) (tn : Nat → Heap → Prop) : Prop where
  cell : ∀ i h, tn i h → ∃ o, h.get? it = some o ∧ ∀ v, o.data ≠ .cell v
  keep : ∀ i h h', tn i h → (∀ o, h.get? it = some o → h'.get? it = some o) → tn i h'
  uniq : ∀ (X : Cx) (pins : List (Addr × Obj)) (σ : L2.St) (H : Hp) (s : Shared) xs ys, X.K = K → Inv X pins σ H s → Its H xs → Its H ys → xs = ys
  drw : ∀ (X : Cx) (i0 : Nat) (pins : List (Addr × Obj)) (σ : L2.St) (H : Hp) (s : Shared) (e : Addr) (xs : List V), X.prog = P → X.w = w → X.K = K → X.calm = true → Inv X pins σ H s → tn i0 s.heap → e ≠ it → (∃ ob, s.heap.get? e = some ob ∧ ob.cls = .type "enumerate") → Its H xs →
    ∃ (Pq : Nat → Value → Prop) (Z : Nat → Heap → Prop) (fp : List Addr), Draws P w X.A.in1 it fp xs.length Pq Z ∧ (∀ i, tn i s.heap → Z i s.heap) ∧ (∀ i h, Z i h → tn i h) ∧ e ∉ fp ∧ ∀ i u, Pq i u → ∃ x, xs[i]? = some x ∧ RelV x u
def ItC (Its : Hp → List V → Prop) (k0 : Int) : It :=
  ⟨fun i H => ∃ (zs : List V) (z : V), Its H zs ∧ zs[i]? = some z,
   fun i H y H' => ∃ T z, y = .ref T ∧ H T = none ∧ H' = upd H T (.tup [.int (k0 + (i : Nat)), z]) ∧ ∀ zs, Its H zs → zs[i]? = some z,
   fun i H => ∃ zs : List V, Its H zs ∧ zs.length = i⟩
theorem turn_enumC {P : Program} {w : World} {K : PySem.W.Frag} {elts : List Expr} {kk : Nat} {tpos : Pos} {Its : Hp → List V → Prop} {tn : Nat → Heap → Prop} (k0 : Int) (e it : Addr) (G : Goer P w K it Its tn) :
    Turn P w K (.Tuple elts kk tpos) (ItC Its k0) [e, it] e (fun i h => (∃ old, IsEnum h e it (k0 + (i : Nat)) old) ∧ tn i h ∧ e ≠ it) where
  mem := List.mem_cons_self
  obj := fun i h st b hb => by
    obtain ⟨⟨old, ee⟩, ii, _⟩ := st
    rcases List.mem_cons.mp hb with z | hb
    · subst z
      exact ⟨_, ee, fun v q => nomatch q⟩
    · rw [List.mem_singleton.mp hb]
      exact G.cell i h ii
  keep := fun i h h' st k => by
    obtain ⟨⟨old, ee⟩, ii, ne⟩ := st
    exact ⟨⟨old, k e List.mem_cons_self _ ee⟩, G.keep i h h' ii (fun o q => k it (List.mem_cons_of_mem _ List.mem_cons_self) o q), ne⟩
  item := by
    intro X hP hw hK hc i pins s σ H E I fr st hg
    subst hP hw hK
    obtain ⟨⟨old, ee⟩, ii, ne⟩ := st
    obtain ⟨zs, z, hz, hi⟩ := hg
    obtain ⟨Pq, Z, fp, D, z1, z2, ef, pq⟩ := G.drw X i pins σ H s e zs rfl rfl rfl hc I ii ne ⟨_, ee, rfl⟩ hz
    have le : e < s.heap.objs.size := Heap.lt_size ee
    have li : it < s.heap.objs.size := by
      obtain ⟨o, q, _⟩ := G.cell i _ ii
      exact Heap.lt_size q
    refine wpAny_pyNext_enum_itemC D ee (z1 i ii) (List.getElem?_eq_some_iff.mp hi).1 ne ef fun x h1 tk px ho st1 hT hs kp => ?_
    obtain ⟨x', e', rx⟩ := pq i x px
    have ex := Option.some.inj (e'.symm.trans hi)
    subst ex
    refine ⟨_, rfl, wpAny_letOwnedTupleGo_enum (s := { s with heap := h1, toks := tk + 1 }) ho fun h2 e2 sb => ?_⟩
    have t2 : h2.get? s.heap.objs.size = some { cls := .type "tuple", data := .seq #[.int (k0 + (i : Nat)) tk, x] } := (sb.2 _ (Nat.ne_of_gt le)).trans hT
    have fresh : ObjOk X.prog X.w (upd H s.heap.objs.size (.tup [.int (k0 + (i : Nat)), x'])) h2 s.heap.objs.size (.tup [.int (k0 + (i : Nat)), x']) :=
      ⟨by show 2 ≤ sizeLine; decide, [.int (k0 + (i : Nat)) tk, x], .cons ⟨_, rfl⟩ (.cons rx .nil), ⟨_, t2, rfl, _, rfl⟩⟩
    have I1 : Inv X pins σ (upd H s.heap.objs.size (.tup [.int (k0 + (i : Nat)), x'])) { s with heap := h2, toks := tk + 1 } :=
      I.turnedNew (ch := [e, it]) (fun b o nb q => (sb.2 b (fun y => nb (by simp [y]))).trans (kp b o (fun y => nb (by simp [y])) (fun y => nb (by simp [y])) q)) fr (Nat.le_refl _) fresh
    refine ⟨.ref s.heap.objs.size, _, I1, rfl, ⟨_, x', rfl, I.hok.fresh (Nat.le_refl _), rfl, fun ys hy => by rw [G.uniq X pins σ H s ys zs rfl I hy hz]; exact hi⟩, ⟨⟨x, ?_⟩, ?_, ne⟩, fun b hb => ?_⟩
    · have a1 : k0 + ((i + 1 : Nat) : Int) = k0 + (i : Nat) + 1 := by omega
      rw [a1]
      exact e2
    · exact G.keep _ h1 h2 (z2 _ _ st1) fun o q => (sb.2 it (Ne.symm ne)).trans q
    · have lb : b < s.heap.objs.size := by
        rcases List.mem_cons.mp hb with y | hb
        · rw [y]; exact le
        · rw [List.mem_singleton.mp hb]; exact li
      rw [upd_ne (Nat.ne_of_lt lb)]
      exact (fr b hb).1
  done := by
    intro X hP hw hK hc i pins s σ H E I fr st hg
    subst hP hw hK
    obtain ⟨⟨old, ee⟩, ii, ne⟩ := st
    obtain ⟨zs, hz, hl⟩ := hg
    obtain ⟨Pq, Z, fp, D, z1, z2, ef, pq⟩ := G.drw X i pins σ H s e zs rfl rfl rfl hc I ii ne ⟨_, ee, rfl⟩ hz
    subst hl
    obtain ⟨f0, f1, f2, f3, f4, f5⟩ := fr it (List.mem_cons_of_mem _ List.mem_cons_self)
    exact wpAny_pyNext_enum_endD D ee (z1 _ ii) fun h1 eb => ⟨rfl, I.turned (t' := s.toks) (fun b o nb q => eb b o nb q) f0 f1 f3 f4 f5⟩
  self := fun A i s Q E st h => by
    obtain ⟨⟨_, ee⟩, _⟩ := st
    exact wpAny_pyIter_enum ee h
theorem vals_back : ∀ {xs : List V} {us : List Value} {i : Nat} {u : Value}, Vals xs us → us[i]? = some u → ∃ x, xs[i]? = some x ∧ RelV x u := by
  intro xs us i u r e
  have hi := (List.getElem?_eq_some_iff.mp e).1
  have l := r.length
  obtain ⟨u2, e2, r2⟩ := r.get (List.getElem?_eq_getElem (l := xs) (i := i) (by omega))
  have z := Option.some.inj (e2.symm.trans e)
  subst z
  exact ⟨_, List.getElem?_eq_getElem (by omega), r2⟩
section
variable {P : Program} {w : World} {K : PySem.W.Frag}
theorem goer_tup (a it : Addr) : Goer P w K it (fun H xs => SqT K H a xs) (fun i h => h.IsTupleIter it a i) where
  cell := fun i h st => by
    obtain ⟨o, q, _, r⟩ := st
    exact ⟨o, q, fun v y => by rw [r] at y; cases y⟩
  keep := fun i h h' st k => st.at fun o q => k o q
  uniq := fun X pins σ H s xs ys hK I hx hy => by
    subst hK
    exact I.tuple_inj hx hy
  drw := fun X i0 pins σ H s e xs hP hw hK hc I ti ne ⟨oe, oq, oc⟩ hx => by
    subst hP hw hK
    obtain ⟨its, rv, p, hz⟩ := I.tuple hx
    have p2 : s.heap.IsTuple a its.toArray := p
    obtain ⟨ot, t1, t2, _⟩ := p
    have nt : a ≠ it := by
      intro y
      obtain ⟨oi, q1, q2, _⟩ := ti
      rw [y, q1] at t1
      cases t1
      rw [q2] at t2
      exact absurd (Value.type.inj t2) (by decide)
    have net : e ≠ a := by
      intro y
      rw [y, t1] at oq
      cases oq
      rw [t2] at oc
      exact absurd (Value.type.inj oc) (by decide)
    have D := Draws.tuple (prog := X.prog) (w := X.w) (A := X.A.in1) (I.ok.hd hc) it a nt its.toArray
    rw [List.size_toArray, ← rv.length] at D
    refine ⟨_, _, _, D, fun i st => ⟨st, p2⟩, fun i h z => z.1, ?_, ?_⟩
    · simp only [List.mem_cons, List.not_mem_nil, or_false, not_or]
      exact ⟨ne, net⟩
    · intro i u q
      have q : its.toArray[i]? = some u := q
      rw [List.getElem?_toArray] at q
      exact vals_back rv q
theorem goer_lst (a it : Addr) : Goer P w K it (fun H xs => SqL K H a xs) (fun i h => h.IsListIter it a i) where
  cell := fun i h st => by
    obtain ⟨o, q, _, r⟩ := st
    exact ⟨o, q, fun v y => by rw [r] at y; cases y⟩
  keep := fun i h h' st k => st.at fun o q => k o q
  uniq := fun X pins σ H s xs ys hK I hx hy => by
    subst hK
    exact I.list_inj hx hy
  drw := fun X i0 pins σ H s e xs hP hw hK hc I ti ne ⟨oe, oq, oc⟩ hx => by
    subst hP hw hK
    obtain ⟨its, rv, p, hz⟩ := I.list hx
    have p2 : s.heap.IsList a its.toArray := p.isList
    obtain ⟨ot, t1, t2, _⟩ := id p2
    have nt : a ≠ it := by
      intro y
      obtain ⟨oi, q1, q2, _⟩ := ti
      rw [y, q1] at t1
      cases t1
      rw [q2] at t2
      exact absurd (Value.type.inj t2) (by decide)
    have net : e ≠ a := by
      intro y
      rw [y, t1] at oq
      cases oq
      rw [t2] at oc
      exact absurd (Value.type.inj oc) (by decide)
    have D := Draws.list (prog := X.prog) (w := X.w) (A := X.A.in1) (I.ok.hd hc) it a nt its.toArray
    rw [List.size_toArray, ← rv.length] at D
    refine ⟨_, _, _, D, fun i st => ⟨st, p2⟩, fun i h z => z.1, ?_, ?_⟩
    · simp only [List.mem_cons, List.not_mem_nil, or_false, not_or]
      exact ⟨ne, net⟩
    · intro i u q
      have q : its.toArray[i]? = some u := q
      rw [List.getElem?_toArray] at q
      exact vals_back rv q
/-- the signs of a text -/
def signs (z : Str) : List V := z.cps.toList.map fun c => V.str ⟨#[c]⟩
theorem goer_str (z : Str) (t : Tok) (it : Addr) : Goer P w K it (fun _ xs => xs = signs z) (fun i h => h.IsStrIter it (strIterType z) z t i) where
  cell := fun i h st => by
    obtain ⟨o, q, _, r⟩ := st
    exact ⟨o, q, fun v y => by rw [r] at y; cases y⟩
  keep := fun i h h' st k => by
    obtain ⟨o, q, r⟩ := st
    exact ⟨o, k o q, r⟩
  uniq := fun X pins σ H s xs ys hK I hx hy => hx.trans hy.symm
  drw := fun X i0 pins σ H s e xs hP hw hK hc I ti ne _ hx => by
    subst hP hw hK hx
    have D := Draws.text (prog := X.prog) (w := X.w) (A := X.A.in1) (I.ok.hd hc) it z t
    have ez : z.cps.size = (signs z).length := by simp [signs]
    rw [ez] at D
    refine ⟨_, _, _, D, fun i st => st, fun i h z => z, ?_, ?_⟩
    · simp only [List.mem_cons, List.not_mem_nil, or_false]
      exact ne
    · rintro i u ⟨c, u2, q, rfl⟩
      refine ⟨.str ⟨#[c]⟩, ?_, ⟨_, rfl⟩⟩
      unfold signs
      rw [List.getElem?_map]
      have q2 : z.cps.toList[i]? = some c := by simpa using q
      rw [q2]
      rfl
end
set_option maxHeartbeats 1000000 in
theorem meets_enum1 {v : Value} {ob : Obj} {Z : Heap → Prop} (B : Begins v ob Z) :
    Meets (Builtin.«enumerate.__new__» ⟨[.type "enumerate", v], []⟩) (fun _ R s => Z s.heap ∧
      R (.ok (.ret (.ref (s.heap.push ob).objs.size))) { s with heap := (s.heap.push ob).push { cls := .type "enumerate", data := .fields #[.none, .bool false, .ref s.heap.objs.size, rawInt 0, .none, .none] } }) :=
  .of_wp fun prog w A R s hh => by
    obtain ⟨hp, g, d, tk, os⟩ := s
    obtain ⟨hz, hh⟩ := hh
    have hsub := sub_enumerate
    have go : ∀ {A' : Around} {E : Value → Shared → Prop} {Q : Value → Shared → Prop}, Q (.ref hp.objs.size) ⟨hp.push ob, g, d, tk, os⟩ → wpAny (model prog w) A' (pyIter v) Q E ⟨hp, g, d, tk, os⟩ :=
      fun q => B.iter prog w _ _ ⟨hp, g, d, tk, os⟩ _ hz q
    wp_walk using go
    refine wpAny_stack_any fun st => wpAny_pure ?_
    split
    · rename_i c _ _ _ _ _
      cases (c == Value.type "enumerate") <;>
      · wp_walk using go
        exact ⟨_, rfl, hh⟩
    · wp_walk using go
      exact ⟨_, rfl, hh⟩
theorem enum_made {prog : Program} {w : World} {A : Around} {E : Value → Shared → Prop} {s : Shared} {v : Value} {ob : Obj} {Z : Heap → Prop} {Q : Value → Shared → Prop} (B : Begins v ob Z) (hz : Z s.heap)
    (h : ∀ h', IsEnum h' (s.heap.objs.size + 1) s.heap.objs.size 0 .none → h'.get? s.heap.objs.size = some ob → (∀ b o, s.heap.get? b = some o → h'.get? b = some o) → Q (.ref (s.heap.objs.size + 1)) { s with heap := h' }) :
    wpAny (model prog w) A (call (.type "enumerate") [v]) Q E s := by
  refine callType_new F.called_enumerate (by decide) (F.typeCall_enumerate_1 _) (F.newCall_enumerate_1 _) (fun obj => F.args_object_init_2 obj _) F.entry_enumerate_new (meets_enum1 B) ⟨hz, ?_⟩
  have sz : (s.heap.push ob).objs.size = s.heap.objs.size + 1 := Heap.size_push ..
  show _ ∧ _
  rw [sz]
  have ee := Heap.get?_push_size (s.heap.push ob) (o := { cls := .type "enumerate", data := .fields #[.none, .bool false, .ref s.heap.objs.size, rawInt 0, .none, .none] }) rfl
  rw [sz] at ee
  exact ⟨⟨_, ee, rfl⟩, h _ ee (Heap.get?_push_of_some _ (Heap.get?_push_size _ B.free)) fun b o x => Heap.get?_push_of_some _ (Heap.get?_push_of_some _ x)⟩
def iEnumA (K : PySem.W.Frag) (ta : TA) : TI := fun σ H R => ta σ H fun vs H1 =>
  (∃ a xs, vs = [.ref a] ∧ SqT K H1 a xs ∧ R (ItC (fun H ys => SqT K H a ys) 0) H1) ∨ ∃ z, vs = [.str z] ∧ R (ItC (fun _ ys => ys = signs z) 0) H1
def iEnumK (K : PySem.W.Frag) (ta : TA) : TI := fun σ H R => ta σ H fun vs H1 => ∃ a xs k, vs = [.ref a, .int k] ∧ SqL K H1 a xs ∧ -(2 ^ 63) ≤ k ∧ k < 2 ^ 63 ∧ R (ItC (fun H ys => SqL K H a ys) k) H1
section
variable {X : Cx} {e e2 : Expr} {ta : TA} {p pos tpos : Pos} {elts : List Expr} {kk : Nat}
theorem pie_enum {pins : List (Addr × Obj)} {σ : L2.St} {H : Hp} {s : Shared} {h' : Heap} {Its : Hp → List V → Prop} {tn : Nat → Heap → Prop} {R : It → Hp → Prop} {k : Int} (I : Inv X pins σ H s) (G : Goer X.prog X.w X.K s.heap.objs.size Its tn)
    (ee : IsEnum h' (s.heap.objs.size + 1) s.heap.objs.size k .none) (t0 : tn 0 h') (kp : ∀ b o, s.heap.get? b = some o → h'.get? b = some o) (q : R (ItC Its k) H) :
    wpAny (model X.prog X.w) X.A (pyIter (.ref (s.heap.objs.size + 1))) (PIE X pins σ (.Tuple elts kk tpos) R) X.xe { s with heap := h' } := by
  refine wpAny_pyIter_enum ee ?_
  refine ⟨s.heap.objs.size + 1, [s.heap.objs.size + 1, s.heap.objs.size], _, _, H, rfl, I.kept (t' := s.toks) kp, turn_enumC k (s.heap.objs.size + 1) s.heap.objs.size G, ⟨⟨.none, ?_⟩, t0, Nat.succ_ne_self _⟩, fun b hb => ?_, q⟩
  · have z : k + ((0 : Nat) : Int) = k := by omega
    rw [z]
    exact ee
  · have lb : s.heap.objs.size ≤ b := by
      rcases List.mem_cons.mp hb with y | hb
      · rw [y]; exact Nat.le_succ _
      · rw [List.mem_singleton.mp hb]; exact Nat.le_refl _
    exact I.fpOk lb (I.hok.fresh lb)
theorem pi_enumA (hg : Gl X "enumerate") (hm : X.mg "enumerate" = none) (ha : PA X [e] ta) (hs : starEach [e] X.env = [(false, eval e X.env)] := by rfl) :
    PI X (.Tuple elts kk tpos) (.Call (.Name "enumerate" p) [e] [] pos) (iEnumA X.K ta) := by
  refine ⟨fun pins s σ H R I h => ?_⟩
  refine Call_ (ld_blt I hg hm boot_enumerate (PyProof.Rows.callWith_type1 (thn (ha.run pos pins s σ H _ I h) fun us s1 ⟨vs, H1, I1, r1, q1⟩ => ?_) hs rfl))
  rcases q1 with ⟨a, xs, rfl, hx, q⟩ | ⟨z, rfl, q⟩
  · obtain ⟨u, rfl, ru⟩ := r1.one
    cases ru
    obtain ⟨its, rv, tp, hz⟩ := I1.tuple hx
    exact enum_made (begins_tuple a its.toArray) tp fun h' ee hi kp => pie_enum I1 (goer_tup a _) ee ⟨_, hi, rfl, rfl⟩ kp q
  · obtain ⟨u, rfl, ru⟩ := r1.one
    obtain ⟨t, rfl⟩ := ru
    exact enum_made (begins_text z t) trivial fun h' ee hi kp => pie_enum I1 (goer_str z t _) ee ⟨_, hi, rfl, rfl⟩ kp q
theorem pi_enumK (hg : Gl X "enumerate") (hm : X.mg "enumerate" = none) (ha : PA X [e, e2] ta) (hs : starEach [e, e2] X.env = (false, eval e X.env) :: starEach [e2] X.env := by rfl) (hpl : (backTo pos (starEach [e2] X.env)).any (·.1) = false := by rfl) :
    PI X (.Tuple elts kk tpos) (.Call (.Name "enumerate" p) [e, e2] [] pos) (iEnumK X.K ta) := by
  refine ⟨fun pins s σ H R I h => ?_⟩
  refine Call_ (ld_blt I hg hm boot_enumerate (PyProof.Rows.callWith_type1 (thn (ha.run pos pins s σ H _ I h) fun us s1 ⟨vs, H1, I1, r1, q1⟩ => ?_) hs hpl))
  obtain ⟨a, xs, k, rfl, hx, k0, k1, q⟩ := q1
  obtain ⟨u, v, rfl, ru, rv⟩ := r1.two
  cases ru
  obtain ⟨t, rfl⟩ := rv
  obtain ⟨its, rv, tp, hz⟩ := I1.list hx
  exact enum_begins (begins_list a its.toArray) tp.isList k0 k1 fun h' ee hi _ kp => pie_enum I1 (goer_lst a _) ee ⟨_, hi, rfl, rfl⟩ kp q
end
/-- going along what enumerate hands out -/
theorem walk_C {Its : Hp → List V → Prop} {xs : List V} {k0 : Int} : Walk (ItC Its k0) xs.length (fun H => Its H xs)
    (fun i H y H' => ∃ T z, y = .ref T ∧ H T = none ∧ H' = upd H T (.tup [.int (k0 + (i : Nat)), z]) ∧ xs[i]? = some z) := by
  refine ⟨fun i H hi g => ⟨xs, _, g, List.getElem?_eq_getElem hi⟩, ?_, ?_⟩
  · intro H g
    exact ⟨xs, g, rfl⟩
  · rintro i H y H' hi g ⟨T, z, e1, e2, e3, e4⟩
    exact ⟨T, z, e1, e2, e3, e4 xs g⟩
/-- d.get(key), d a dict of the program's top with texts for keys -/
def tKGet (K : PySem.W.Frag) (d : Addr) (td ty : TE) : TE := fun σ H Q => td σ H fun x H1 => x = .ref d ∧ ty σ H1 fun y H2 => ∃ z r v, y = .str z ∧ PySem.W.nsIn K d z = some r ∧ RelV v (r.getD .none) ∧ Q v H2
theorem pe_kget {X : Cx} {d : Addr} {es : Array DictEntry} {n : Nat} {o e : Expr} {apos cpos : Pos} {td ty : TE} (D : KDict X.K X.w d es n) (ho : PE X o td) (he : PE X e ty) (m : M1 X o "get" apos e cpos) :
    PE X (.Call (.Attribute o "get" apos) [e] [] cpos) (tKGet X.K d td ty) := by
  refine ⟨fun pins s σ H Q I h => ?_⟩
  refine wpAny_Call_method m.base m.few m.line PySem.F.plainAttrs_dict PySem.F.slot_dict_get PySem.F.type_dict_get (thn (ho.run pins s σ H _ I h) fun u s1 ⟨x, H1, I1, rx, ex, q1⟩ => ?_)
  subst ex
  cases rx
  refine ⟨kd_type D I1, fun b q => ?_, ?_⟩
  · cases q
    exact ⟨_, I1.kIn _ _ D.at_, rfl⟩
  rw [m.trees]
  refine Calls.callWith_builtin rfl (Calls.evalArgs_plain (Calls.spliced_cons (thn (he.run pins s1 σ H1 _ I1 q1) fun iv s2 ⟨y, H2, I2, ry, z, r, v, ey, en, rv, q2⟩ => Calls.spliced_nil ?_)))
  subst ey
  obtain ⟨t, rfl⟩ := ry
  refine call_meetsIn PySem.F.slot_dict_get (kd_type D I2) PySem.F.entry_dict_get (PySem.F.args_dict_get_2 _ _) (meets_dict_get (strKind X.prog X.w) d (strKind_is X.prog X.w z t) D.low) ⟨_, PySem.W.mapOf_K (prog := X.prog) I2.kIn D.at_ D.lit, ?_⟩
  rw [PySem.W.find_K D.at_ en]
  exact ⟨v, H2, I2.tok _, rv, q2⟩
/-! zip of a text and a tuple -/
def ItST (K : PySem.W.Frag) (z : Str) (b : Addr) : It :=
  ⟨fun i H => ∃ (ys : List V) (x y : V), SqT K H b ys ∧ (signs z)[i]? = some x ∧ ys[i]? = some y,
   fun i H v H' => ∃ T x y, v = .ref T ∧ H T = none ∧ H' = upd H T (.tup [x, y]) ∧ (signs z)[i]? = some x ∧ ∀ ys, SqT K H b ys → ys[i]? = some y,
   fun i H => ∃ ys : List V, SqT K H b ys ∧ i ≤ (signs z).length ∧ i ≤ ys.length ∧ (i = (signs z).length ∨ i = ys.length)⟩
structure Ap5 (z TI TO i1 i2 b : Addr) : Prop where
  TIz : TI ≠ z
  TOz : TO ≠ z
  TITO : TI ≠ TO
  TIi1 : TI ≠ i1
  TIi2 : TI ≠ i2
  zi1 : z ≠ i1
  zi2 : z ≠ i2
  TOi1 : TO ≠ i1
  TOi2 : TO ≠ i2
  i12 : i1 ≠ i2
  zb : z ≠ b
  TOb : TO ≠ b
  i1b : i1 ≠ b
  i2b : i2 ≠ b
theorem Ap5.sep {z TI TO i1 i2 b : Addr} (D : Ap5 z TI TO i1 i2 b) : ZipSep2 z TI TO i1 i2 [i1] [i2, b] :=
  ⟨D.TIz, D.TOz, D.TITO, D.TIi1, by simp, by simpa using D.zi1, by simpa using D.TOi1, D.TIi2, by simp, by simpa using ⟨D.zi2, D.zb⟩, by simpa using ⟨D.TOi2, D.TOb⟩, by simpa using ⟨D.i12, D.i1b⟩, by simpa using D.i12.symm⟩
theorem turn_zipST {P : Program} {w : World} {K : PySem.W.Frag} {elts : List Expr} {kk : Nat} {tpos : Pos} {x : Str} {t : Tok} {b z TI TO i1 i2 : Addr} (D : Ap5 z TI TO i1 i2 b) :
    Turn P w K (.Tuple elts kk tpos) (ItST K x b) [z, TI, TO, i1, i2] z (fun i h => IsZip h z TI TO .none ∧ IsTupOf2 h TI (.ref i1) (.ref i2) ∧ (∃ x y, IsTupOf2 h TO x y) ∧ h.IsStrIter i1 (strIterType x) x t i ∧ h.IsTupleIter i2 b i) where
  mem := by simp
  obj := fun i h st c hc => by
    obtain ⟨hz, hTI, ⟨x, y, hTO⟩, ⟨o1, e1, _, d1⟩, ⟨o2, e2, _, d2⟩⟩ := st
    have e' : c = z ∨ c = TI ∨ c = TO ∨ c = i1 ∨ c = i2 := by simpa using hc
    rcases e' with q | q | q | q | q
    · rw [q]; exact ⟨_, hz, fun v q => nomatch q⟩
    · rw [q]; exact ⟨_, hTI, fun v q => nomatch q⟩
    · rw [q]; exact ⟨_, hTO, fun v q => nomatch q⟩
    · rw [q]; exact ⟨o1, e1, fun v q => by rw [d1] at q; cases q⟩
    · rw [q]; exact ⟨o2, e2, fun v q => by rw [d2] at q; cases q⟩
  keep := fun i h h' st k => by
    obtain ⟨hz, hTI, ⟨x, y, hTO⟩, ⟨o1, e1, r1⟩, h2⟩ := st
    exact ⟨k z (by simp) _ hz, k TI (by simp) _ hTI, ⟨x, y, k TO (by simp) _ hTO⟩, ⟨o1, k i1 (by simp) _ e1, r1⟩, h2.at fun o q => k i2 (by simp) o q⟩
  item := by
    intro X hP hw hK hc i pins s σ H E I hf st hg
    subst hP hw hK
    obtain ⟨hz, hTI, ⟨x0, y0, hTO⟩, h1, h2⟩ := st
    obtain ⟨ys, x1, y1, hqy, hx, hy⟩ := hg
    obtain ⟨its, rv, p, _⟩ := I.tuple hqy
    have p : s.heap.IsTuple b its.toArray := p
    have D1 := Draws.text (prog := X.prog) (w := X.w) (A := X.A.in1) (I.ok.hd hc) i1 x t
    have D2 := Draws.tuple (prog := X.prog) (w := X.w) (A := X.A.in1) (I.ok.hd hc) i2 b D.i2b.symm its.toArray
    have hzl : z < s.heap.objs.size := Heap.lt_size hz
    have l1 : i < x.cps.size := by
      have z := (List.getElem?_eq_some_iff.mp hx).1
      simpa [signs] using z
    have l2 : i < its.toArray.size := by
      have z := (List.getElem?_eq_some_iff.mp hy).1
      have := rv.length
      simp only [List.size_toArray]
      omega
    refine wpAny_pyNext_zipD2_item D.sep D1 D2 hz hTI hTO h1 ⟨h2, p⟩ l1 l2 fun u u2 h' tk pu pu2 z' TO' h1' h2' hT hsz hk => ?_
    obtain ⟨c, tc, ec, rfl⟩ := pu
    have ex : x1 = .str ⟨#[c]⟩ := by
      unfold signs at hx
      rw [List.getElem?_map] at hx
      have q2 : x.cps.toList[i]? = some c := by simpa using ec
      rw [q2] at hx
      exact (Option.some.inj hx).symm
    subst ex
    rw [List.getElem?_toArray] at pu2
    obtain ⟨y2, ey2, ry2⟩ := vals_back rv pu2
    have ey : y2 = y1 := Option.some.inj (ey2.symm.trans hy)
    subst ey
    refine ⟨_, rfl, wpAny_letOwnedTupleGo_zip (s := { s with heap := h', toks := tk }) z' fun h'' z'' sb => ?_⟩
    have hT2 : h''.get? s.heap.objs.size = some { cls := .type "tuple", data := .seq #[.str ⟨#[c]⟩ tc, u2] } := (sb.2 _ (Nat.ne_of_gt hzl)).trans hT
    have new : ObjOk X.prog X.w (upd H s.heap.objs.size (.tup [.str ⟨#[c]⟩, y2])) h'' s.heap.objs.size (.tup [.str ⟨#[c]⟩, y2]) :=
      ⟨by show 2 ≤ sizeLine; decide, [.str ⟨#[c]⟩ tc, u2], .cons ⟨_, rfl⟩ (.cons ry2 .nil), ⟨_, hT2, rfl, _, rfl⟩⟩
    have I1 : Inv X pins σ (upd H s.heap.objs.size (.tup [.str ⟨#[c]⟩, y2])) { s with heap := h'', toks := tk } :=
      I.turnedNew (ch := [z, TI, TO, i1, i2]) (fun c o hb q => (sb.2 c (fun q' => hb (by simp [q']))).trans (hk c o (fun q' => hb (by simp [q'])) (fun q' => hb (by simp [q'])) (fun q' => hb (by simp [q'])) (fun q' => hb (by simp [q'])) q)) hf (Nat.le_refl _) new
    refine ⟨.ref s.heap.objs.size, _, I1, rfl, ⟨_, _, y2, rfl, I.hok.fresh (Nat.le_refl _), rfl, hx, fun l hl => by rw [I.tuple_inj hl hqy]; exact hy⟩, ⟨z'', ?_, ⟨.str ⟨#[c]⟩ tc, u2, ?_⟩, ?_, ?_⟩, fun c hcm => ?_⟩
    · exact (sb.2 _ D.TIz).trans (hk _ _ D.TIz D.TITO D.TIi1 D.TIi2 hTI)
    · exact (sb.2 _ D.TOz).trans TO'
    · obtain ⟨o, q1, q2⟩ := h1'
      exact ⟨o, (sb.2 _ D.zi1.symm).trans q1, q2⟩
    · exact h2'.1.at fun o q => (sb.2 _ D.zi2.symm).trans q
    · have hlt : c < s.heap.objs.size := by
        have e' : c = z ∨ c = TI ∨ c = TO ∨ c = i1 ∨ c = i2 := by simpa using hcm
        rcases e' with q | q | q | q | q
        · rw [q]; exact hzl
        · rw [q]; exact Heap.lt_size hTI
        · rw [q]; exact Heap.lt_size hTO
        · rw [q]; obtain ⟨_, e1, _⟩ := h1; exact Heap.lt_size e1
        · rw [q]; obtain ⟨_, e2, _⟩ := h2; exact Heap.lt_size e2
      rw [upd_ne (Nat.ne_of_lt hlt)]
      exact (hf c hcm).1
  done := by
    intro X hP hw hK hc i pins s σ H E I hf st hg
    subst hP hw hK
    obtain ⟨hz, hTI, ⟨x0, y0, hTO⟩, h1, h2⟩ := st
    obtain ⟨ys, hqy, e1, e2, hend⟩ := hg
    obtain ⟨its, rv, p, _⟩ := I.tuple hqy
    have p : s.heap.IsTuple b its.toArray := p
    have D1 := Draws.text (prog := X.prog) (w := X.w) (A := X.A.in1) (I.ok.hd hc) i1 x t
    have D2 := Draws.tuple (prog := X.prog) (w := X.w) (A := X.A.in1) (I.ok.hd hc) i2 b D.i2b.symm its.toArray
    have ln := rv.length
    have ls : (signs x).length = x.cps.size := by simp [signs]
    have lz : its.toArray.size = its.length := List.size_toArray
    rw [ls] at e1 hend
    refine wpAny_pyNext_zipD2_end D.sep D1 D2 hz hTI hTO h1 ⟨h2, p⟩ e1 (by rw [lz]; omega) (by rw [lz]; omega) fun h' tk hk => ⟨rfl, I.turnedL (ch := [z, TI, TO, i1, i2]) (fun c o hb q =>
      hk c o (fun q' => hb (by simp [q'])) (fun q' => hb (by simp [q'])) (fun q' => hb (by simp [q'])) (fun q' => hb (by simp [q'])) q) hf⟩
  self := fun A i s Q E st h => wpAny_pyIter_zip st.1 h
def iZipST (K : PySem.W.Frag) (ta : TA) : TI := fun σ H R => ta σ H fun vs H1 => ∃ z b ys, vs = [.str z, .ref b] ∧ SqT K H1 b ys ∧ R (ItST K z b) H1
theorem pi_zipST {X : Cx} {e e2 : Expr} {ta : TA} {p pos tpos : Pos} {elts : List Expr} {kk : Nat} (hg : Gl X "zip") (hm : X.mg "zip" = none) (ha : PA X [e, e2] ta)
    (hs : starEach [e, e2] X.env = (false, eval e X.env) :: starEach [e2] X.env := by rfl) (hpl : (backTo pos (starEach [e2] X.env)).any (·.1) = false := by rfl) :
    PI X (.Tuple elts kk tpos) (.Call (.Name "zip" p) [e, e2] [] pos) (iZipST X.K ta) := by
  refine ⟨fun pins s σ H R I h => ?_⟩
  refine Call_ (ld_blt I hg hm PyProof.Rows.boot_zip (PyProof.Rows.callWith_type1 (thn (ha.run pos pins s σ H _ I h) fun us s1 ⟨vs, H1, I1, r1, q1⟩ => ?_) hs hpl))
  obtain ⟨z, b, ys, rfl, hq, q⟩ := q1
  obtain ⟨u, v, rfl, ru, rv⟩ := r1.two
  obtain ⟨t, rfl⟩ := ru
  cases rv
  obtain ⟨its, rv, p2, _⟩ := I1.tuple hq
  have p3 : s1.heap.IsTuple b its.toArray := p2
  have fresh5 : ∀ c, c ∈ [s1.heap.objs.size + 4, s1.heap.objs.size + 2, s1.heap.objs.size + 3, s1.heap.objs.size, s1.heap.objs.size + 1] → FpOk X pins H1 c := fun c hcm => by
    have e' : c = s1.heap.objs.size + 4 ∨ c = s1.heap.objs.size + 2 ∨ c = s1.heap.objs.size + 3 ∨ c = s1.heap.objs.size ∨ c = s1.heap.objs.size + 1 := by simpa using hcm
    have hle : s1.heap.objs.size ≤ c := by
      rcases e' with z | z | z | z | z
      · rw [z]; exact Nat.le_add_right _ _
      · rw [z]; exact Nat.le_add_right _ _
      · rw [z]; exact Nat.le_add_right _ _
      · rw [z]; exact Nat.le_refl _
      · rw [z]; exact Nat.le_add_right _ _
    exact I1.fpOk hle (I1.hok.fresh hle)
  refine zip_begins2 (begins_text z t) (begins_tuple b its.toArray) trivial p3 fun h' hz hTI hTO h1 h2 hsz hk => wpAny_pyIter_zip hz ?_
  have I2 : Inv X pins σ H1 { s1 with heap := h' } := I1.kept (t' := s1.toks) hk
  obtain ⟨ob, eb, _⟩ := p3
  have lb : b < s1.heap.objs.size := Heap.lt_size eb
  generalize s1.heap.objs.size = n at *
  have D : Ap5 (n + 4) (n + 2) (n + 3) n (n + 1) b := ⟨Nat.ne_of_lt (by omega), Nat.ne_of_lt (by omega), Nat.ne_of_lt (by omega), Nat.ne_of_gt (by omega), Nat.ne_of_gt (by omega), Nat.ne_of_gt (by omega), Nat.ne_of_gt (by omega), Nat.ne_of_gt (by omega), Nat.ne_of_gt (by omega), Nat.ne_of_lt (by omega), Nat.ne_of_gt (Nat.lt_of_lt_of_le lb (Nat.le_add_right _ _)), Nat.ne_of_gt (Nat.lt_of_lt_of_le lb (Nat.le_add_right _ _)), Nat.ne_of_gt lb, Nat.ne_of_gt (Nat.lt_of_lt_of_le lb (Nat.le_add_right _ _))⟩
  exact ⟨n + 4, [n + 4, n + 2, n + 3, n, n + 1], _, _, H1, rfl, I2, turn_zipST (x := z) (t := t) (b := b) D, ⟨hz, hTI, ⟨_, _, hTO⟩, ⟨_, h1, rfl, rfl⟩, ⟨_, h2, rfl, rfl⟩⟩, fresh5, q⟩
theorem walk_ST {K : PySem.W.Frag} {z : Str} {b : Addr} {ys : List V} (hl : (signs z).length = ys.length) : Walk (ItST K z b) ys.length (fun H => SqT K H b ys) (YPair (fun i => (signs z)[i]?) (fun i => ys[i]?)) := by
  refine ⟨fun i H hi q => ⟨ys, _, _, q, List.getElem?_eq_getElem (by omega), List.getElem?_eq_getElem hi⟩, fun H q => ⟨ys, q, by omega, Nat.le_refl _, .inr rfl⟩, fun i H v H' _ q y => ?_⟩
  obtain ⟨T, x, y, h1, h2, h3, h4, h5⟩ := y
  exact ⟨T, x, y, h1, h2, h3, h4, h5 ys q⟩
def topS (i : Nat) : Stmt := PySem.Challenge.pw_runlore_k12_texts_of_expressions.main.body.getD i (.Pass ⟨0, 0, 0, 0⟩)
/-! the forms of trees, and what is inside of one -/
def exL : List (Str × Str) := [("int", "k"), ("atom", "n"), ("name", "n"), ("plus", "ek"), ("tuple", "s"), ("part", "ei"), ("join", "ee"), ("read", "n"), ("reach", "e"), ("call", "ns"), ("let", "nee"), ("if", "tee"), ("each", "nee"), ("pick", "net"), ("fold", "nenee"), ("fail", "n")]
def teL : List (Str × Str) := [("is", "we"), ("sized", "ei"), ("most", "eke"), ("alike", "ee"), ("not", "t"), ("both", "tt"), ("either", "tt")]
def allL : List (Str × Str) := exL ++ teL
/-- what stands in a slot: many trees (s), one tree (e, t), or none -/
def inSlot (k : Nat) (c : Nat) (d : PyData) : List (List Int × PyData) :=
  if c = 115 then (match d with | .tuple es => es.zipIdx.map fun p => ([(k : Int), (p.2 : Int)], p.1) | _ => [])
  else if c = 101 ∨ c = 116 then [([(k : Int)], d)] else []
def inArgs : Nat → List Nat → List PyData → List (List Int × PyData)
  | k, c :: cs, d :: ds => inSlot k c d ++ inArgs (k + 1) cs ds
  | _, [], _ => []
  | _, _ :: _, [] => []
/-- arguments as the slots want them -/
def ShA : List Nat → List PyData → Prop
  | c :: cs, d :: ds => (c = 115 → ∃ es, d = .tuple es) ∧ ShA cs ds
  | [], [] => True
  | [], _ :: _ => False
  | _ :: _, [] => False
/-- a tree of n trees, nested less than f deep -/
def Wf : Nat → Nat → PyData → Prop
  | 0, _, _ => False
  | f + 1, n, d => ∃ (h sl : Str) (args : List PyData) (ns : List Nat), d = .tuple (.str h :: args) ∧ (h, sl) ∈ allL ∧ ShA sl.cps.toList args ∧
      Paired (fun (m : Nat) (p : List Int × PyData) => Wf f m p.2) ns (inArgs 1 sl.cps.toList args) ∧ n = 1 + ns.sum
theorem ShA.len : ∀ {cs : List Nat} {ds : List PyData}, ShA cs ds → cs.length = ds.length
  | [], [], _ => rfl
  | _ :: _, _ :: _, h => congrArg (· + 1) (ShA.len h.2)
  | [], _ :: _, h => h.elim
  | _ :: _, [], h => h.elim
theorem paired_mono {α β : Type} {F G : α → β → Prop} (h : ∀ a b, F a b → G a b) : ∀ {xs : List α} {ys : List β}, Paired F xs ys → Paired G xs ys
  | _, _, .nil => .nil
  | _, _, .cons a t => .cons (h _ _ a) (paired_mono h t)
theorem paired_app {α β : Type} {F : α → β → Prop} : ∀ {xs : List α} {ys : List β} {xs2 : List α} {ys2 : List β}, Paired F xs ys → Paired F xs2 ys2 → Paired F (xs ++ xs2) (ys ++ ys2)
  | _, _, _, _, .nil, g => g
  | _, _, _, _, .cons a t, g => .cons a (paired_app t g)
theorem Wf.up : ∀ {f n : Nat} {d : PyData}, Wf f n d → Wf (f + 1) n d
  | 0, _, _, h => h.elim
  | f + 1, n, d, h => by
    obtain ⟨h0, sl, args, ns, e, m, s, p, q⟩ := h
    exact ⟨h0, sl, args, ns, e, m, s, paired_mono (fun a b z => Wf.up z) p, q⟩
theorem Wf.mono {f g n : Nat} {d : PyData} (h : Wf f n d) (hg : f ≤ g) : Wf g n d := by
  induction hg with
  | refl => exact h
  | step _ ih => exact ih.up
theorem inArgs_app : ∀ (k : Nat) (cs cs2 : List Nat) (ds ds2 : List PyData), cs.length = ds.length → inArgs k (cs ++ cs2) (ds ++ ds2) = inArgs k cs ds ++ inArgs (k + cs.length) cs2 ds2
  | k, [], cs2, [], ds2, _ => by simp [inArgs]
  | k, c :: cs, cs2, d :: ds, ds2, h => by
    have h2 : cs.length = ds.length := by simpa using h
    show inSlot k c d ++ inArgs (k + 1) (cs ++ cs2) (ds ++ ds2) = (inSlot k c d ++ inArgs (k + 1) cs ds) ++ _
    rw [inArgs_app (k + 1) cs cs2 ds ds2 h2, List.append_assoc, List.length_cons, show k + 1 + cs.length = k + (cs.length + 1) by omega]
  | k, [], cs2, _ :: _, ds2, h => by cases h
  | k, _ :: _, cs2, [], ds2, h => by cases h
theorem inArgs_take {k i : Nat} {cs : List Nat} {ds : List PyData} {c : Nat} {d : PyData} (h : cs.length = ds.length) (hc : cs[i]? = some c) (hd : ds[i]? = some d) :
    inArgs k (cs.take (i + 1)) (ds.take (i + 1)) = inArgs k (cs.take i) (ds.take i) ++ inSlot (k + i) c d := by
  have hi := (List.getElem?_eq_some_iff.mp hc).1
  rw [get_take hc, get_take hd, inArgs_app k _ _ _ _ (by rw [List.length_take, List.length_take, h])]
  have e : (cs.take i).length = i := by rw [List.length_take]; omega
  rw [e]
  simp [inArgs]
theorem ShA.at {cs : List Nat} {ds : List PyData} {i c : Nat} {d : PyData} (h : ShA cs ds) (hc : cs[i]? = some c) (hd : ds[i]? = some d) : c = 115 → ∃ es, d = .tuple es := by
  induction cs generalizing ds i with
  | nil => simp at hc
  | cons c0 cs ih =>
    cases ds with
    | nil => simp at hd
    | cons d0 ds =>
      cases i with
      | zero =>
        simp at hc hd
        subst hc hd
        exact h.1
      | succ i => exact ih (i := i) h.2 (by simpa using hc) (by simpa using hd)
/-- the trees inside, as pairs of path and tree -/
def pairD (p : List Int × PyData) : PyData := .tuple [.tuple (p.1.map PyData.int), p.2]
/-- a place inside of data -/
def atD : PyData → List Int → Option PyData
  | d, [] => some d
  | .tuple ds, i :: r => if 0 ≤ i then (match ds[i.toNat]? with | some e => atD e r | none => none) else none
  | _, _ :: _ => none
theorem atD_app : ∀ (p q : List Int) (d e : PyData), atD d p = some e → atD d (p ++ q) = atD e q
  | [], q, d, e, h => by
    have h : d = e := by simpa [atD] using h
    rw [h]
    rfl
  | i :: r, q, d, e, h => by
    cases d with
    | tuple ds =>
      simp only [atD, List.cons_append] at h ⊢
      split at h
      · rename_i h0
        rw [if_pos h0]
        cases hd : ds[i.toNat]? with
        | none => rw [hd] at h; cases h
        | some x =>
          rw [hd] at h
          exact atD_app r q x e h
      · cases h
    | none => simp [atD] at h
    | bool _ => simp [atD] at h
    | int _ => simp [atD] at h
    | str _ => simp [atD] at h
    | list _ => simp [atD] at h
    | dict _ => simp [atD] at h
theorem inSlot_at {k c : Nat} {d : PyData} {p : List Int × PyData} (h : p ∈ inSlot k c d) (ds : List PyData) (hk : ds[k]? = some d) : atD (.tuple ds) p.1 = some p.2 := by
  unfold inSlot at h
  split at h
  · cases d with
    | tuple es =>
      obtain ⟨q, hq, rfl⟩ := List.mem_map.mp h
      obtain ⟨j, hj⟩ := List.mem_iff_getElem?.mp hq
      rw [List.getElem?_zipIdx] at hj
      obtain ⟨x, hx, e⟩ := Option.map_eq_some_iff.mp hj
      subst e
      simp only [atD]
      rw [if_pos (by omega)]
      simp only [Int.toNat_natCast, hk]
      have e2 : ((0 + j : Nat) : Int).toNat = j := by omega
      simp only [atD]
      rw [if_pos (by omega), e2, hx]
    | none => simp at h
    | bool _ => simp at h
    | int _ => simp at h
    | str _ => simp at h
    | list _ => simp at h
    | dict _ => simp at h
  · split at h
    · rw [List.mem_singleton] at h
      subst h
      simp only [atD]
      rw [if_pos (by omega)]
      simp only [Int.toNat_natCast, hk]
    · cases h
theorem inArgs_at : ∀ (k : Nat) (cs : List Nat) (ds all : List PyData) (p : List Int × PyData), p ∈ inArgs k cs ds → (∀ i d, ds[i]? = some d → all[k + i]? = some d) → atD (.tuple all) p.1 = some p.2
  | k, c :: cs, d :: ds, all, p, h, g => by
    rcases List.mem_append.mp (show p ∈ inSlot k c d ++ inArgs (k + 1) cs ds from h) with h | h
    · exact inSlot_at h all (g 0 d rfl)
    · refine inArgs_at (k + 1) cs ds all p h fun i e he => ?_
      have q := g (i + 1) e (by simpa using he)
      rw [show k + 1 + i = k + (i + 1) by omega]
      exact q
  | k, [], ds, all, p, h, g => by simp [inArgs] at h
  | k, _ :: _, [], all, p, h, g => by simp [inArgs] at h
/-- what is inside of a tree -/
def kids8 : PyData → List (List Int × PyData)
  | .tuple (.str h :: args) => inArgs 1 (((allL.find? fun p => decide (p.1 = h)).map Prod.snd).getD "").cps.toList args
  | _ => []
theorem allL_find : ∀ p ∈ allL, ((allL.find? fun q => decide (q.1 = p.1)).map Prod.snd).getD "" = p.2 := by decide +kernel
theorem Wf.open {f n : Nat} {d : PyData} (w : Wf f n d) : ∃ (h sl : Str) (args : List PyData) (ns : List Nat) (f' : Nat), f = f' + 1 ∧ d = .tuple (.str h :: args) ∧ (h, sl) ∈ allL ∧ ShA sl.cps.toList args ∧ kids8 d = inArgs 1 sl.cps.toList args ∧
    Paired (fun (m : Nat) (p : List Int × PyData) => Wf f' m p.2) ns (kids8 d) ∧ n = 1 + ns.sum := by
  cases f with
  | zero => exact w.elim
  | succ f =>
    obtain ⟨h, sl, args, ns, rfl, m, s, p, q⟩ := w
    have e : kids8 (.tuple (.str h :: args)) = inArgs 1 sl.cps.toList args := by
      have z := allL_find _ m
      simp only [kids8]
      rw [z]
    exact ⟨h, sl, args, ns, f, rfl, rfl, m, s, e, by rw [e]; exact p, q⟩
theorem kids_at {f n : Nat} {d : PyData} (w : Wf f n d) : ∀ p ∈ kids8 d, atD d p.1 = some p.2 := by
  obtain ⟨h, sl, args, ns, f', _, rfl, m, s, e, p, q⟩ := w.open
  rw [e]
  intro p hp
  refine inArgs_at 1 _ args _ p hp fun i x hx => ?_
  rw [show 1 + i = i + 1 by omega]
  simpa using hx
mutual
/-- no list in it -/
def nl : PyData → Bool
  | .list _ => false
  | .dict _ => false
  | .tuple ds => nls ds
  | .none => true
  | .bool _ => true
  | .int _ => true
  | .str _ => true
def nls : List PyData → Bool
  | [] => true
  | d :: ds => nl d && nls ds
end
/-- none of these is a tuple -/
def NT (l : List Addr) (H : Hp) : Prop := ∀ b ∈ l, ∀ xs, ¬ Rd H b (.tup xs)
mutual
theorem Dp.less {K : PySem.W.Frag} {H : Hp} {l : List Addr} (hl : NT l H) : ∀ (d : PyData) (v : V), nl d = true → Dp K H v d → Dp K (cut l H) v d
  | .none, _, _, h => by cases h; exact .non
  | .bool b, _, _, h => by cases h; exact .bl b
  | .int i, _, _, h => by cases h; exact .int i
  | .str x, _, _, h => by cases h; exact .str x
  | .list ds, _, n, _ => by simp [nl] at n
  | .dict _, _, n, _ => by simp [nl] at n
  | .tuple ds, _, n, h => by
    cases h with
    | @tup a xs _ h1 h2 =>
      refine .tup ?_ (Dp.lesss hl ds _ (by simpa only [nl] using n) h2)
      rcases h1 with (h1 | ⟨o, h1⟩) | h1
      · refine .inl (.inl ?_)
        rw [cut_out fun z => hl _ z _ (.inl h1)]
        exact h1
      · refine .inl (.inr ⟨o, ?_⟩)
        rw [cut_out fun z => hl _ z _ (.inr ⟨o, h1⟩)]
        exact h1
      · exact .inr h1
theorem Dp.lesss {K : PySem.W.Frag} {H : Hp} {l : List Addr} (hl : NT l H) : ∀ (ds : List PyData) (vs : List V), nls ds = true → DpAll K H vs ds → DpAll K (cut l H) vs ds
  | [], _, _, h => by cases h; exact .nil
  | d :: ds, _, n, h => by
    simp only [nls, Bool.and_eq_true] at n
    cases h with
    | cons h1 h2 => exact .cons (Dp.less hl d _ n.1 h1) (Dp.lesss hl ds _ n.2 h2)
end
theorem nls_mem : ∀ {ds : List PyData} {d : PyData}, nls ds = true → d ∈ ds → nl d = true
  | _ :: _, _, h, m => by
    simp only [nls, Bool.and_eq_true] at h
    rcases List.mem_cons.mp m with e | e
    · rw [e]
      exact h.1
    · exact nls_mem h.2 e
theorem nls_app : ∀ ds es : List PyData, nls (ds ++ es) = (nls ds && nls es)
  | [], es => by simp [nls]
  | d :: ds, es => by simp only [List.cons_append, nls, nls_app ds es, Bool.and_assoc]
theorem Dp.off {K : PySem.W.Frag} {H H' : Hp} {l : List Addr} {d : PyData} {v : V} (h : Dp K H v d) (hl : NT l H) (n : nl d = true) (o : Off l H H') : Dp K H' v d :=
  Dp.up (Same.trans o (cut_same l H')) _ _ (Dp.less hl d v n h)
theorem DpAll.off {K : PySem.W.Frag} {H H' : Hp} {l : List Addr} {ds : List PyData} {vs : List V} (h : DpAll K H vs ds) (hl : NT l H) (n : nls ds = true) (o : Off l H H') : DpAll K H' vs ds :=
  Dp.ups (Same.trans o (cut_same l H')) _ _ (Dp.lesss hl ds vs n h)
theorem nt_lst {H : Hp} {b : Addr} {ys : List V} (h : H b = some (.lst ys)) : ∀ xs, ¬ Rd H b (.tup xs) := fun xs z => by
  rcases z with z | ⟨o, z⟩
  · rw [h] at z
    cases z
  · rw [h] at z
    cases z
theorem nt_dk {H : Hp} {b : Addr} {ys : List (Key × V)} (h : H b = some (.dK ys)) : ∀ xs, ¬ Rd H b (.tup xs) := fun xs z => by
  rcases z with z | ⟨o, z⟩
  · rw [h] at z
    cases z
  · rw [h] at z
    cases z
theorem NT.cons {H : Hp} {b : Addr} {l : List Addr} (h : ∀ xs, ¬ Rd H b (.tup xs)) (n : NT l H) : NT (b :: l) H := fun c hc => by
  rcases List.mem_cons.mp hc with e | e
  · rw [e]
    exact h
  · exact n c e
theorem NT.nil {H : Hp} : NT [] H := fun _ z => nomatch z
theorem Box.nt {H : Hp} {p g : Addr} (b : Box H p g) : NT [p, g] H := by
  obtain ⟨n, s, t, gs, h1, h2, _⟩ := b.ex
  exact .cons (nt_dk h1) (.cons (nt_lst h2) .nil)
theorem inSlot_sum (k c : Nat) (d : PyData) : ((inSlot k c d).map fun p => nod p.2).sum ≤ nod d := by
  unfold inSlot
  split
  · cases d with
    | tuple es =>
      have key : ∀ (es : List PyData) (j : Nat), ((es.zipIdx j).map fun p : PyData × Nat => nod p.1).sum = nods es := fun es => by
        induction es with
        | nil => intro j; simp [nods]
        | cons e es ih =>
          intro j
          simp only [List.zipIdx_cons, List.map_cons, List.sum_cons, nods, ih]
      simp only [List.map_map, nod]
      have := key es 0
      have e : ((fun p : List Int × PyData => nod p.2) ∘ fun p : PyData × Nat => ([(k : Int), (p.2 : Int)], p.1)) = fun p : PyData × Nat => nod p.1 := rfl
      rw [e]
      omega
    | _ => simp
  · split
    · simp
    · simp
theorem inArgs_sum : ∀ (k : Nat) (cs : List Nat) (ds : List PyData), ((inArgs k cs ds).map fun p => nod p.2).sum ≤ nods ds
  | k, c :: cs, d :: ds => by
    have h1 := inSlot_sum k c d
    have h2 := inArgs_sum (k + 1) cs ds
    simp only [inArgs, List.map_append, List.sum_append, nods]
    omega
  | _, [], _ => by simp [inArgs]
  | _, _ :: _, [] => by simp [inArgs]
theorem Wf.le : ∀ {f n : Nat} {d : PyData}, Wf f n d → n ≤ nod d
  | 0, _, _, h => h.elim
  | f + 1, n, d, h => by
    obtain ⟨h0, sl, args, ns, rfl, m, s, p, rfl⟩ := h
    have q := inArgs_sum 1 sl.cps.toList args
    have r : ns.sum ≤ ((inArgs 1 sl.cps.toList args).map fun p => nod p.2).sum := by
      revert p
      generalize inArgs 1 sl.cps.toList args = ks
      intro p
      clear q
      induction p with
      | nil => exact Nat.le_refl _
      | cons a t ih =>
        have := Wf.le a
        simp only [List.map_cons, List.sum_cons]
        omega
    simp only [nod, nods]
    omega
/-! expressions, their words, and a reader of words -/
def leafHeads : List Str := ["int", "name", "atom"]
def tbS (s : Bool) : List (Str × Str) := if s = true then teL else exL
/-- what may stand in a slot that has no tree -/
def LeafOk (c : Nat) (d : PyData) : Prop :=
  (c = 107 ∧ ∃ i : Int, d = .int i ∧ i.natAbs < 10 ^ 18) ∨ (c = 105 ∧ ∃ i : Int, d = .int i ∧ 0 ≤ i ∧ i.natAbs < 10 ^ 18) ∨ (c = 110 ∧ ∃ x : Str, d = .str x ∧ isNm x = true) ∨ (c = 119 ∧ (d = .str "integer" ∨ d = .str "atom" ∨ d = .str "tuple"))
def ArgOk (W : Bool → PyData → Prop) : List Nat → List PyData → Prop
  | c :: cs, d :: ds => (if c = 115 then ∃ es, d = .tuple es ∧ ∀ e ∈ es, W false e else if c = 101 then W false d else if c = 116 then W true d else LeafOk c d) ∧ ArgOk W cs ds
  | [], [] => True
  | [], _ :: _ => False
  | _ :: _, [] => False
/-- a tree without brackets -/
def LeafT (d : PyData) : Prop := (∃ i : Int, d = .tuple [.str "int", .int i] ∧ i.natAbs < 10 ^ 18) ∨ ∃ x : Str, (d = .tuple [.str "name", .str x] ∨ d = .tuple [.str "atom", .str x]) ∧ isNm x = true
/-- a tree (true: a test) with at most f brackets within one another -/
def Wx : Nat → Bool → PyData → Prop
  | 0, s, d => s = false ∧ LeafT d
  | f + 1, s, d => (s = false ∧ LeafT d) ∨ ∃ (h sl : Str) (args : List PyData), d = .tuple (.str h :: args) ∧ (h, sl) ∈ tbS s ∧ h ∉ leafHeads ∧ ArgOk (Wx f) sl.cps.toList args
theorem ArgOk.mono {W W2 : Bool → PyData → Prop} (g : ∀ s d, W s d → W2 s d) : ∀ {cs : List Nat} {ds : List PyData}, ArgOk W cs ds → ArgOk W2 cs ds
  | [], [], _ => trivial
  | c :: cs, d :: ds, h => by
    refine ⟨?_, ArgOk.mono g h.2⟩
    have h1 := h.1
    split at h1
    · rename_i z
      rw [if_pos z]
      obtain ⟨es, e, q⟩ := h1
      exact ⟨es, e, fun x hx => g _ _ (q x hx)⟩
    · rename_i z
      rw [if_neg z]
      split at h1
      · rename_i y
        rw [if_pos y]
        exact g _ _ h1
      · rename_i y
        rw [if_neg y]
        split at h1
        · rename_i u
          rw [if_pos u]
          exact g _ _ h1
        · rename_i u
          rw [if_neg u]
          exact h1
  | [], _ :: _, h => h.elim
  | _ :: _, [], h => h.elim
theorem Wx.up : ∀ {f : Nat} {s : Bool} {d : PyData}, Wx f s d → Wx (f + 1) s d
  | 0, _, _, h => .inl h
  | f + 1, s, d, h => by
    rcases h with h | ⟨h0, sl, args, e, m, n, a⟩
    · exact .inl h
    · exact .inr ⟨h0, sl, args, e, m, n, a.mono fun s d z => Wx.up z⟩
theorem Wx.mono {f g : Nat} {s : Bool} {d : PyData} (h : Wx f s d) (hg : f ≤ g) : Wx g s d := by
  induction hg with
  | refl => exact h
  | step _ ih => exact ih.up
theorem ArgOk.len {W : Bool → PyData → Prop} : ∀ {cs : List Nat} {ds : List PyData}, ArgOk W cs ds → cs.length = ds.length
  | [], [], _ => rfl
  | _ :: _, _ :: _, h => congrArg (· + 1) (ArgOk.len h.2)
  | [], _ :: _, h => h.elim
  | _ :: _, [], h => h.elim
def txt : PyData → Str
  | .int i => Str.ofString (toString i)
  | .str x => x
  | _ => ""
def kidsT : PyData → List PyData
  | .tuple es => es
  | _ => []
def argWords (wd : PyData → List Str) : List Nat → List PyData → List Str
  | c :: cs, d :: ds => (if c = 115 then (kidsT d).flatMap wd else if c = 101 ∨ c = 116 then wd d else [txt d]) ++ argWords wd cs ds
  | [], _ => []
  | _ :: _, [] => []
def leafWords : PyData → List Str
  | .tuple [.str h, a] => [if h = "atom" then "'" ++ txt a else txt a]
  | _ => []
def isLeafB : PyData → Bool
  | .tuple (.str h :: _) => decide (h ∈ leafHeads)
  | _ => false
def slotsOf (h : Str) : List Nat := (((allL.find? fun p => decide (p.1 = h)).map Prod.snd).getD "").cps.toList
def nodeWords (wd : PyData → List Str) : PyData → List Str
  | .tuple (.str h :: args) => [("(" : Str), h] ++ argWords wd (slotsOf h) args ++ [(")" : Str)]
  | _ => []
/-- a tree's words; f brackets within one another at most -/
def wordsD : Nat → PyData → List Str
  | 0, d => leafWords d
  | f + 1, d => if isLeafB d = true then leafWords d else nodeWords (wordsD f) d
theorem tbS_all {s : Bool} : ∀ p ∈ tbS s, p ∈ allL := fun p h => by
  unfold tbS at h
  split at h
  · exact List.mem_append_right _ h
  · exact List.mem_append_left _ h
theorem slots_all : ∀ p ∈ allL, slotsOf p.1 = p.2.cps.toList := by decide +kernel
theorem leaf_is {d : PyData} (h : LeafT d) : isLeafB d = true := by
  rcases h with ⟨i, rfl, _⟩ | ⟨x, h | h, _⟩
  · show decide (("int" : Str) ∈ leafHeads) = true
    decide +kernel
  · rw [h]
    show decide (("name" : Str) ∈ leafHeads) = true
    decide +kernel
  · rw [h]
    show decide (("atom" : Str) ∈ leafHeads) = true
    decide +kernel
theorem words_leaf {f : Nat} {d : PyData} (h : LeafT d) : wordsD f d = leafWords d := by
  cases f with
  | zero => rfl
  | succ f =>
    show (if isLeafB d = true then leafWords d else nodeWords (wordsD f) d) = _
    rw [if_pos (leaf_is h)]
theorem words_node {f : Nat} {h sl : Str} {args : List PyData} (m : (h, sl) ∈ allL) (n : h ∉ leafHeads) : wordsD (f + 1) (.tuple (.str h :: args)) = [("(" : Str), h] ++ argWords (wordsD f) sl.cps.toList args ++ [(")" : Str)] := by
  show (if decide (h ∈ leafHeads) = true then leafWords (.tuple (.str h :: args)) else nodeWords (wordsD f) (.tuple (.str h :: args))) = _
  rw [if_neg (fun z => n (of_decide_eq_true z))]
  show [("(" : Str), h] ++ argWords (wordsD f) (slotsOf h) args ++ [(")" : Str)] = _
  rw [slots_all _ m]
theorem argWords_congr {W : Bool → PyData → Prop} {w1 w2 : PyData → List Str} (g : ∀ s d, W s d → w1 d = w2 d) : ∀ {cs : List Nat} {ds : List PyData}, ArgOk W cs ds → argWords w1 cs ds = argWords w2 cs ds
  | [], [], _ => rfl
  | c :: cs, d :: ds, h => by
    have ih := argWords_congr g h.2
    have h1 := h.1
    simp only [argWords, ih]
    congr 1
    split at h1
    · rename_i z
      rw [if_pos z, if_pos z]
      obtain ⟨es, e, q⟩ := h1
      rw [e]
      simp only [kidsT]
      have key : ∀ es : List PyData, (∀ e ∈ es, W false e) → es.flatMap w1 = es.flatMap w2 := fun es => by
        induction es with
        | nil => intro _; rfl
        | cons e es ih =>
          intro h
          rw [List.flatMap_cons, List.flatMap_cons, g _ _ (h e List.mem_cons_self), ih fun x hx => h x (List.mem_cons_of_mem _ hx)]
      exact key es q
    · rename_i z
      rw [if_neg z, if_neg z]
      split at h1
      · rename_i y
        rw [if_pos (.inl y), if_pos (.inl y)]
        exact g _ _ h1
      · rename_i y
        split at h1
        · rename_i u
          rw [if_pos (.inr u), if_pos (.inr u)]
          exact g _ _ h1
        · rename_i u
          rw [if_neg (fun z => z.elim y u), if_neg (fun z => z.elim y u)]
  | [], _ :: _, h => h.elim
  | _ :: _, [], h => h.elim
theorem words_up : ∀ {f : Nat} {s : Bool} {d : PyData}, Wx f s d → wordsD (f + 1) d = wordsD f d
  | 0, _, _, h => by rw [words_leaf h.2, words_leaf h.2]
  | f + 1, s, d, h => by
    rcases h with h | ⟨h0, sl, args, e, m, n, a⟩
    · rw [words_leaf h.2, words_leaf h.2]
    · subst e
      rw [words_node (tbS_all _ m) n, words_node (tbS_all _ m) n, argWords_congr (fun s d z => words_up z) a]
theorem words_mono {f g : Nat} {s : Bool} {d : PyData} (h : Wx f s d) (hg : f ≤ g) : wordsD g d = wordsD f d := by
  induction hg with
  | refl => rfl
  | step hk ih => rw [words_up (h.mono hk), ih]
/-! the reader -/
structure Br where
  wanted : Bool
  head : Option (Str × Str)
  found : List PyData
structure PSt where
  brs : List Br
  tree : Option PyData
def addB (b : Br) (d : PyData) : Br := ⟨b.wanted, b.head, b.found ++ [d]⟩
def keepP (bs : List Br) (d : PyData) : PSt := match bs.getLast? with
  | none => ⟨[], some d⟩
  | some b => ⟨bs.dropLast ++ [addB b d], none⟩
theorem keepP_nil (d : PyData) : keepP [] d = ⟨[], some d⟩ := rfl
theorem keepP_snoc (bs : List Br) (b : Br) (d : PyData) : keepP (bs ++ [b]) d = ⟨bs ++ [addB b d], none⟩ := by
  unfold keepP
  rw [List.getLast?_append, List.dropLast_concat]
  rfl
def wantB (b : Br) : Option Nat := match b.head with
  | none => none
  | some (_, sl) => if sl.cps.toList.getLast? = some 115 ∧ sl.cps.toList.length - 1 ≤ b.found.length then some 101 else sl.cps.toList[b.found.length]?
def wants (bs : List Br) : Option Nat := match bs.getLast? with
  | none => some 101
  | some b => wantB b
theorem wants_snoc (bs : List Br) (b : Br) : wants (bs ++ [b]) = wantB b := by
  unfold wants
  rw [List.getLast?_append]
  rfl
def packed (sl : Str) (found : List PyData) : List PyData := if sl.cps.toList.getLast? = some 115 then found.take (sl.cps.toList.length - 1) ++ [.tuple (found.drop (sl.cps.toList.length - 1))] else found
def DoneP (sl : Str) (found : List PyData) : Prop := if sl.cps.toList.getLast? = some 115 then sl.cps.toList.length - 1 ≤ found.length else found.length = sl.cps.toList.length
/-- a word that stands for something in a slot -/
def LeafW (c : Nat) (w : Str) (d : PyData) : Prop :=
  if c = 101 then LeafT d ∧ [w] = leafWords d else LeafOk c d ∧ w = txt d
inductive StepP : List Br → Str → PSt → Prop
  | opens {bs : List Br} {c : Nat} : wants bs = some c → c = 101 ∨ c = 116 → bs.length < 40 → StepP bs "(" ⟨bs ++ [⟨decide (c = 116), none, []⟩], none⟩
  | head {bs : List Br} {s : Bool} {h sl : Str} : (h, sl) ∈ tbS s → h ∉ leafHeads → (116 ∈ sl.cps.toList → bs.length + 1 < 40) → StepP (bs ++ [⟨s, none, []⟩]) h ⟨bs ++ [⟨s, some (h, sl), []⟩], none⟩
  | leaf {bs : List Br} {c : Nat} {w : Str} {d : PyData} : wants bs = some c → LeafW c w d → StepP bs w (keepP bs d)
  | close {bs : List Br} {s : Bool} {h sl : Str} {found : List PyData} : (h, sl) ∈ tbS s → DoneP sl found → StepP (bs ++ [⟨s, some (h, sl), found⟩]) ")" (keepP bs (.tuple (.str h :: packed sl found)))
inductive GoP : List Br → List Str → List Br → Prop
  | nil (bs : List Br) : GoP bs [] bs
  | cons {bs bs1 bs2 : List Br} {w : Str} {ws : List Str} : StepP bs w ⟨bs1, none⟩ → GoP bs1 ws bs2 → GoP bs (w :: ws) bs2
theorem GoP.app {b1 b2 b3 : List Br} {w1 w2 : List Str} (g : GoP b1 w1 b2) (h : GoP b2 w2 b3) : GoP b1 (w1 ++ w2) b3 := by
  induction g with
  | nil => exact h
  | cons s _ ih => exact .cons s (ih h)
def StepsP (bs : List Br) (ws : List Str) (S : PSt) : Prop := ∃ ws0 w b1, ws = ws0 ++ [w] ∧ GoP bs ws0 b1 ∧ StepP b1 w S
theorem StepsP.go {bs b2 : List Br} {ws : List Str} (h : StepsP bs ws ⟨b2, none⟩) : GoP bs ws b2 := by
  obtain ⟨ws0, w, b1, rfl, g, s⟩ := h
  exact g.app (.cons s (.nil _))
def flatA : List Nat → List PyData → List PyData
  | c :: cs, d :: ds => (if c = 115 then kidsT d else [d]) ++ flatA cs ds
  | [], _ => []
  | _ :: _, [] => []
/-- many trees, one behind another -/
theorem go_many {f : Nat} {bs : List Br} {b : Br} (ih : ∀ (bs : List Br) (s : Bool) (d : PyData), Wx f s d → wants bs = some (if s = true then 116 else 101) → bs.length + f ≤ 40 → StepsP bs (wordsD f d) (keepP bs d)) (hl : (bs ++ [b]).length + f ≤ 40) :
    ∀ (es found : List PyData), (∀ e ∈ es, Wx f false e) → (∀ k, k ≤ es.length → wantB ⟨b.wanted, b.head, found ++ es.take k⟩ = some 101) → GoP (bs ++ [⟨b.wanted, b.head, found⟩]) (es.flatMap (wordsD f)) (bs ++ [⟨b.wanted, b.head, found ++ es⟩])
  | [], found, _, _ => by
    rw [List.append_nil]
    exact .nil _
  | e :: es, found, h, hw => by
    have h0 := hw 0 (Nat.zero_le _)
    rw [List.take_zero, List.append_nil] at h0
    have s1 := ih (bs ++ [⟨b.wanted, b.head, found⟩]) false e (h e List.mem_cons_self) (by rw [wants_snoc]; exact h0) (by simpa using hl)
    rw [keepP_snoc] at s1
    have s2 := go_many ih hl es (found ++ [e]) (fun x hx => h x (List.mem_cons_of_mem _ hx)) fun k hk => by
      have z := hw (k + 1) (by simpa using hk)
      rw [List.take_succ_cons] at z
      rw [List.append_assoc]
      exact z
    rw [List.flatMap_cons]
    have s3 := s1.go.app s2
    rw [List.append_assoc] at s3
    exact s3
theorem only_last : ∀ p ∈ allL, 115 ∉ p.2.cps.toList.dropLast := by decide +kernel
theorem flatA_app : ∀ {c1 c2 : List Nat} {a1 a2 : List PyData}, c1.length = a1.length → flatA (c1 ++ c2) (a1 ++ a2) = flatA c1 a1 ++ flatA c2 a2
  | [], c2, [], a2, _ => by simp [flatA]
  | c :: cs, c2, d :: ds, a2, h => by
    have ih := flatA_app (c2 := c2) (a2 := a2) (show cs.length = ds.length by simpa using h)
    simp only [List.cons_append, flatA, ih, List.append_assoc]
  | [], _, _ :: _, _, h => by cases h
  | _ :: _, _, [], _, h => by cases h
theorem flatA_no : ∀ {c1 : List Nat} {a1 : List PyData}, c1.length = a1.length → 115 ∉ c1 → flatA c1 a1 = a1
  | [], [], _, _ => rfl
  | c :: cs, d :: ds, h, n => by
    have n1 : ¬ c = 115 := fun z => n (by rw [z]; exact List.mem_cons_self)
    have ih := flatA_no (show cs.length = ds.length by simpa using h) (fun z => n (List.mem_cons_of_mem _ z))
    simp only [flatA, if_neg n1, ih]
    rfl
  | [], _ :: _, h, _ => by cases h
  | _ :: _, [], h, _ => by cases h
theorem last_115 {c1 cs : List Nat} (h : 115 ∉ (c1 ++ 115 :: cs).dropLast) : cs = [] := by
  cases cs with
  | nil => rfl
  | cons x xs =>
    refine absurd ?_ h
    rw [List.dropLast_append_of_ne_nil (by simp)]
    exact List.mem_append_right _ (by simp)
theorem ArgOk.app {W : Bool → PyData → Prop} : ∀ {c1 c2 : List Nat} {a : List PyData}, ArgOk W (c1 ++ c2) a → ∃ a1 a2, a = a1 ++ a2 ∧ c1.length = a1.length ∧ ArgOk W c2 a2
  | [], c2, a, h => ⟨[], a, rfl, rfl, h⟩
  | c :: c1, c2, d :: a, h => by
    obtain ⟨a1, a2, e, l, q⟩ := ArgOk.app (c1 := c1) h.2
    exact ⟨d :: a1, a2, by rw [e]; rfl, by simp [l], q⟩
  | _ :: _, _, [], h => h.elim
theorem packed_args {W : Bool → PyData → Prop} {sl : Str} {args : List PyData} (hn : 115 ∉ sl.cps.toList.dropLast) (a : ArgOk W sl.cps.toList args) : DoneP sl (flatA sl.cps.toList args) ∧ packed sl (flatA sl.cps.toList args) = args := by
  unfold DoneP packed
  generalize sl.cps.toList = cs at hn a
  by_cases h : cs.getLast? = some 115
  · obtain ⟨c1, rfl⟩ : ∃ c1, cs = c1 ++ [115] := by
      have ne : cs ≠ [] := fun z => by
        rw [z] at h
        cases h
      refine ⟨cs.dropLast, ?_⟩
      have e := List.dropLast_concat_getLast ne
      rw [List.getLast?_eq_some_getLast ne] at h
      rw [Option.some.inj h] at e
      exact e.symm
    rw [List.dropLast_concat] at hn
    obtain ⟨a1, a2, rfl, l, q⟩ := a.app
    cases a2 with
    | nil => exact q.elim
    | cons d ds =>
      cases ds with
      | cons x xs => exact q.2.elim
      | nil =>
        have q1 := q.1
        rw [if_pos rfl] at q1
        obtain ⟨es, rfl, _⟩ := q1
        rw [if_pos h, if_pos h, flatA_app l, flatA_no l hn]
        have e1 : flatA [115] [PyData.tuple es] = es := by simp [flatA, kidsT]
        have e2 : (c1 ++ [115]).length - 1 = a1.length := by simp [l]
        rw [e1, e2]
        refine ⟨by simp, ?_⟩
        rw [List.take_left, List.drop_left]
  · have n2 : 115 ∉ cs := fun z => by
      obtain ⟨x, y, rfl⟩ := List.append_of_mem z
      have := last_115 hn
      subst this
      exact h (by simp)
    rw [if_neg h, if_neg h, flatA_no a.len n2]
    exact ⟨a.len.symm, rfl⟩
theorem go_args {f : Nat} {bs : List Br} {s : Bool} {h sl : Str} (ih : ∀ (bs : List Br) (s : Bool) (d : PyData), Wx f s d → wants bs = some (if s = true then 116 else 101) → bs.length + f ≤ 40 → StepsP bs (wordsD f d) (keepP bs d)) (hl : bs.length + 1 + f ≤ 40)
    (hn : 115 ∉ sl.cps.toList.dropLast) : ∀ (c1 c2 : List Nat) (a1 a2 : List PyData), sl.cps.toList = c1 ++ c2 → a1.length = c1.length → ArgOk (Wx f) c2 a2 →
    GoP (bs ++ [⟨s, some (h, sl), a1⟩]) (argWords (wordsD f) c2 a2) (bs ++ [⟨s, some (h, sl), a1 ++ flatA c2 a2⟩])
  | c1, [], a1, [], _, _, _ => by
    simp only [flatA, List.append_nil, argWords]
    exact .nil _
  | c1, c :: cs, a1, d :: ds, e, l, a => by
    have h1 := a.1
    have hl2 : (bs ++ [(⟨s, some (h, sl), a1⟩ : Br)]).length + f ≤ 40 := by
      simp only [List.length_append, List.length_cons, List.length_nil]
      omega
    by_cases c115 : c = 115
    · subst c115
      rw [e] at hn
      have ec := last_115 hn
      subst ec
      cases ds with
      | cons x xs => exact a.2.elim
      | nil =>
        rw [if_pos rfl] at h1
        obtain ⟨es, rfl, q⟩ := h1
        have e1 : flatA [115] [PyData.tuple es] = es := by simp [flatA, kidsT]
        have e2 : argWords (wordsD f) [115] [PyData.tuple es] = es.flatMap (wordsD f) := by simp [argWords, kidsT]
        rw [e1, e2]
        refine go_many (b := ⟨s, some (h, sl), []⟩) ih (by simp only [List.length_append, List.length_cons, List.length_nil]; omega) es a1 q fun k hk => ?_
        unfold wantB
        simp only
        rw [if_pos]
        rw [e]
        refine ⟨by simp, ?_⟩
        simp only [List.length_append, List.length_cons, List.length_nil]
        omega
    · rw [if_neg c115] at h1
      have wt : wants (bs ++ [⟨s, some (h, sl), a1⟩]) = some c := by
        rw [wants_snoc]
        unfold wantB
        simp only
        rw [if_neg, e, l]
        · simp
        · rintro ⟨z1, z2⟩
          rw [e] at z1 z2
          simp only [List.length_append, List.length_cons] at z2
          have : cs = [] := List.length_eq_zero_iff.mp (by omega)
          subst this
          simp at z1
          exact c115 z1
      have nxt : GoP (bs ++ [⟨s, some (h, sl), a1 ++ [d]⟩]) (argWords (wordsD f) cs ds) (bs ++ [⟨s, some (h, sl), a1 ++ [d] ++ flatA cs ds⟩]) :=
        go_args ih hl hn (c1 ++ [c]) cs (a1 ++ [d]) ds (by rw [e]; simp) (by simp [l]) a.2
      have e1 : flatA (c :: cs) (d :: ds) = [d] ++ flatA cs ds := by simp only [flatA, if_neg c115]
      rw [e1, ← List.append_assoc]
      by_cases c101 : c = 101
      · subst c101
        rw [if_pos rfl] at h1
        have s1 := ih _ false d h1 wt hl2
        rw [keepP_snoc] at s1
        have e2 : argWords (wordsD f) (101 :: cs) (d :: ds) = wordsD f d ++ argWords (wordsD f) cs ds := by simp [argWords]
        rw [e2]
        exact s1.go.app nxt
      · rw [if_neg c101] at h1
        by_cases c116 : c = 116
        · subst c116
          rw [if_pos rfl] at h1
          have s1 := ih _ true d h1 wt hl2
          rw [keepP_snoc] at s1
          have e2 : argWords (wordsD f) (116 :: cs) (d :: ds) = wordsD f d ++ argWords (wordsD f) cs ds := by simp [argWords]
          rw [e2]
          exact s1.go.app nxt
        · rw [if_neg c116] at h1
          have e2 : argWords (wordsD f) (c :: cs) (d :: ds) = [txt d] ++ argWords (wordsD f) cs ds := by
            simp only [argWords]
            rw [if_neg c115, if_neg (fun z => z.elim c101 c116)]
          rw [e2]
          have s1 := StepP.leaf (w := txt d) (d := d) wt (by unfold LeafW; rw [if_neg c101]; exact ⟨h1, rfl⟩)
          rw [keepP_snoc] at s1
          exact .cons s1 nxt
  | _, [], _, _ :: _, _, _, a => a.elim
  | _, _ :: _, _, [], _, _, a => a.elim
theorem arg_test {f : Nat} : ∀ {cs : List Nat} {ds : List PyData}, ArgOk (Wx f) cs ds → 116 ∈ cs → f ≠ 0
  | c :: cs, d :: ds, a, m => by
    rcases List.mem_cons.mp m with z | z
    · have h1 := a.1
      rw [← z, if_neg (by decide), if_neg (by decide), if_pos rfl] at h1
      intro y
      rw [y] at h1
      exact absurd h1.1 (by decide)
    · exact arg_test a.2 z
  | [], _, _, m => nomatch m
  | _ :: _, [], a, _ => a.elim
/-- a reader that wants a tree comes to it by its words -/
theorem reads : ∀ (f : Nat) (bs : List Br) (s : Bool) (d : PyData), Wx f s d → wants bs = some (if s = true then 116 else 101) → bs.length + f ≤ 40 → StepsP bs (wordsD f d) (keepP bs d) := by
  intro f
  have leaf : ∀ (f : Nat) (bs : List Br) (d : PyData), LeafT d → wants bs = some 101 → StepsP bs (wordsD f d) (keepP bs d) := by
    intro f bs d h hw
    rw [words_leaf h]
    obtain ⟨w, e⟩ : ∃ w, leafWords d = [w] := by
      rcases h with ⟨i, rfl, _⟩ | ⟨x, h | h, _⟩
      · exact ⟨_, rfl⟩
      · rw [h]; exact ⟨_, rfl⟩
      · rw [h]; exact ⟨_, rfl⟩
    rw [e]
    exact ⟨[], w, bs, rfl, .nil _, .leaf hw (by unfold LeafW; rw [if_pos rfl]; exact ⟨h, e.symm⟩)⟩
  induction f with
  | zero =>
    rintro bs s d ⟨rfl, h⟩ hw _
    exact leaf 0 bs d h hw
  | succ f ih =>
    intro bs s d h hw hl
    rcases h with ⟨rfl, h⟩ | ⟨h, sl, args, rfl, m, n, a⟩
    · exact leaf (f + 1) bs d h hw
    · rw [words_node (tbS_all _ m) n]
      have hn := only_last _ (tbS_all _ m)
      simp only at hn
      obtain ⟨q1, q2⟩ := packed_args hn a
      have g1 : GoP bs [("(" : Str), h] (bs ++ [⟨s, some (h, sl), []⟩]) := by
        have o := StepP.opens hw (by cases s; exact .inl rfl; exact .inr rfl) (by omega)
        have e : decide ((if s = true then 116 else 101) = 116) = s := by cases s <;> rfl
        rw [e] at o
        refine .cons o (.cons (.head m n fun z => ?_) (.nil _))
        have := arg_test a z
        omega
      have g2 := go_args (bs := bs) (s := s) (h := h) ih (by omega) hn [] sl.cps.toList [] args rfl rfl a
      rw [List.nil_append] at g2
      have c := StepP.close (bs := bs) m q1
      rw [q2] at c
      exact ⟨_, _, _, rfl, g1.app g2, c⟩
abbrev sBox : Stmt := topS 27
abbrev sTake : Stmt := topS 28
theorem c47 : (0 : Int) < 2147483647 := by decide
theorem c29 : (0 : Int) < 2147483629 := by decide
/-! _law_take: some number below many; the box stays a box -/
def spTake : Sp := fun vs H Q _ => ∃ (p g : Addr) (m : Int), vs = [.ref p, .int m] ∧ Box H p g ∧ 0 < m ∧ m.natAbs < 2 ^ 200 ∧
  ∀ (r : Int) (H' : Hp), 0 ≤ r → r < m → Box H' p g → Off [p, g] H H' → Q (.int r) H'
def spBox (K : PySem.W.Frag) : Sp := fun vs H Q _ => ∃ (a : Addr) (ns : List Int) (c : Int), vs = [.ref a, .int c] ∧ SqL K H a (ns.map V.int) ∧ ns.length ≤ 63 ∧ 0 ≤ c ∧ c < 1000 ∧
  ∀ (p g : Addr) (H' : Hp), Box H' p g → Same H H' → H p = none → H g = none → Q (.ref p) H'
theorem scTake : FnScope ["_law_box_here", "_law_many", "_law_digit", "_law_one"] ["_law_box_here", "_law_many"] (defScope sTake) :=
  ⟨rfl, rfl, rfl, by decide +kernel, rfl, by decide +kernel, by decide +kernel⟩
section
variable {P : Program} {w : World} {K : PySem.W.Frag} {mg : Str → Option Value} {base : Heap} {f : Addr} {fd : FuncData}
theorem get_now {H : Hp} {p g : Addr} {n s t : Int} (h : H p = some (.dK (bx g n s t))) : DGet H p (.str "now") (some (.int n)) := by
  have q := DGet.k (k := (Sum.inr "now" : Key)) h
  rw [bx_now] at q
  exact q
theorem get_great {H : Hp} {p g : Addr} {n s t : Int} (h : H p = some (.dK (bx g n s t))) : DGet H p (.str "great") (some (.ref g)) := by
  have q := DGet.k (k := (Sum.inr "great" : Key)) h
  rw [bx_great] at q
  exact q
theorem get_seed {H : Hp} {p g : Addr} {n s t : Int} (h : H p = some (.dK (bx g n s t))) : DGet H p (.str "seed") (some (.int s)) := by
  have q := DGet.k (k := (Sum.inr "seed" : Key)) h
  rw [bx_seed] at q
  exact q
theorem get_turn {H : Hp} {p g : Addr} {n s t : Int} (h : H p = some (.dK (bx g n s t))) : DGet H p (.str "turn") (some (.int t)) := by
  have q := DGet.k (k := (Sum.inr "turn" : Key)) h
  rw [bx_turn] at q
  exact q
theorem set_now {H : Hp} {p g : Addr} {n s t : Int} (y : Int) (h : H p = some (.dK (bx g n s t))) : DPut H p (.str "now") (.int y) (upd H p (.dK (bx g y s t))) := by
  have q := DPut.k (k := (Sum.inr "now" : Key)) (v := .int y) h (by show 4 < sizeLine; decide)
  rw [put_now] at q
  exact q
theorem set_seed {H : Hp} {p g : Addr} {n s t : Int} (y : Int) (h : H p = some (.dK (bx g n s t))) : DPut H p (.str "seed") (.int y) (upd H p (.dK (bx g n y t))) := by
  have q := DPut.k (k := (Sum.inr "seed" : Key)) (v := .int y) h (by show 4 < sizeLine; decide)
  rw [put_seed] at q
  exact q
theorem set_turn {H : Hp} {p g : Addr} {n s t : Int} (y : Int) (h : H p = some (.dK (bx g n s t))) : DPut H p (.str "turn") (.int y) (upd H p (.dK (bx g n s y))) := by
  have q := DPut.k (k := (Sum.inr "turn" : Key)) (v := .int y) h (by show 4 < sizeLine; decide)
  rw [put_turn] at q
  exact q
theorem ok_take {k : Nat} (F : Fun K "_law_take" "_law_take" sTake f fd) (ml : mg "len" = none) : FnOk P w K mg base CX0 (k + 1) f fd ["_law_box_here", "_law_many"] spTake := by
  refine F.ok scTake (fun vs H Q E h => ?_) (fun cdv A outer s H vs Q E hr h => ?_)
  · obtain ⟨p, g, m, rfl, _⟩ := h
    rfl
  obtain ⟨p, g, m, rfl, ⟨n, sd, t, gs, hp, hg, hl⟩, m0, m9, q⟩ := h
  have hu := hu_of hr
  have npg : p ≠ g := ne_of hp hg (by intro z; cases z)
  refine ⟨_, C8.pss_cut (ps_if (PW.pt (pw_and (pt_cmpR op_eq (pe_dget hu (pv 0) pe_str (fun _ _ => rfl)) pe_int (nomark _))
        (pw_and1 (pt_cmpR op_gt (pe_callB call_len_seq (by rfl) ml PySem.boot_len (pa_cons (pe_dget hu (pv 0) pe_str (fun _ _ => rfl)) pa_nil)) pe_int (nomark _)))))
        (pss_one (ps_dput hu (pv 0) pe_str (pe_bm0 PySem.F.plainAttrs_list PySem.F.slot_list_pop PySem.F.type_list_pop mt_pop (pe_dget hu (pv 0) pe_str (fun _ _ => rfl))) rfl)) pss_nil)
    (pss_cons (ps_if (pt_cmpR op_gt (pe_dget hu (pv 0) pe_str (fun _ _ => rfl)) pe_int (nomark _))
        (pss_cons (ps_set (i := 2) scTake.nd rfl (.inl rfl) (pe_op op_mod (pe_dget hu (pv 0) pe_str (fun _ _ => rfl)) (pv 1)))
        (pss_cons (ps_dput hu (pv 0) pe_str (pe_op op_fdivW (pe_dget hu (pv 0) pe_str (fun _ _ => rfl)) (pv 1)) rfl)
        (pss_one (ps_ret (pv 2))))) pss_nil)
    (pss_cons (ps_dput hu (pv 0) pe_str (pe_op op_add (pe_dget hu (pv 0) pe_str (fun _ _ => rfl)) pe_int) rfl)
    (pss_cons (ps_set (i := 3) scTake.nd rfl (.inl rfl) (pe_op op_mod (pe_op op_mul (pe_op op_mod (pe_op op_add (pe_dget hu (pv 0) pe_str (fun _ _ => rfl))
        (pe_op op_mul pe_int (pe_dget hu (pv 0) pe_str (fun _ _ => rfl)))) pe_int) pe_int) pe_int))
    (pss_cons (ps_dput hu (pv 0) pe_str (pe_op op_add (pe_op op_mod (pe_op op_add (pv 3) (pe_op op_mul pe_int (pe_dget hu (pv 0) pe_str (fun _ _ => rfl)))) pe_int) pe_int) rfl)
    (pss_one (ps_ret (pe_op op_mod (pe_op op_fdiv (pe_op op_add (pe_op op_mul (pv 3) pe_int) (pe_dget hu (pv 0) pe_str (fun _ _ => rfl))) pe_int) (pv 1)))))))), ?_⟩
  refine ⟨fun σ H1 => ∃ n1 gs1, σ = [some (.ref p), some (.int m), none, none] ∧ H1 p = some (.dK (bx g n1 sd t)) ∧ H1 g = some (.lst (List.map V.int gs1)) ∧ gs1.length ≤ 1000 ∧ Off [p, g] H H1, ?_, ?_⟩
  · refine ⟨_, rfl, p, _, rfl, get_now hp, rfl, _, rfl, ite2 (fun c => ?_) (fun c => iteF ⟨n, gs, rfl, hp, hg, hl, Off.refl _ _⟩)⟩
    refine ⟨_, rfl, p, _, rfl, get_great hp, g, _, rfl, .inl (SqL.of hg), _, _, rfl, rfl, _, rfl, ite2 (fun c2 => ?_) (fun c2 => ⟨n, gs, rfl, hp, hg, hl, Off.refl _ _⟩)⟩
    have c3 : (0 : Int) < (((List.map V.int gs).length : Nat) : Int) := of_decide_eq_true c2
    rw [List.length_map] at c3
    have hlast : (List.map V.int gs)[(List.map V.int gs).length - 1]? = some (V.int (gs[gs.length - 1]'(by omega))) := by
      rw [List.length_map, List.getElem?_map, List.getElem?_eq_getElem (by omega)]
      rfl
    have hp1 : (upd H g (.lst (List.map V.int gs).dropLast)) p = some (.dK (bx g n sd t)) := by rw [upd_ne npg]; exact hp
    refine ⟨_, rfl, p, _, rfl, get_great hp, .inl ⟨rfl, _, .inl (.inl hg)⟩, g, _, _, rfl, rfl, hg, hlast, _, rfl, p, _, rfl, set_now _ hp1, ?_⟩
    refine ⟨_, gs.dropLast, rfl, upd_same, ?_, ?_, ?_⟩
    · rw [upd_ne npg.symm, upd_same, List.map_dropLast]
    · rw [List.length_dropLast]
      omega
    · exact (Off.put (by simp)).trans (Off.put (by simp))
  · rintro σ H1 ⟨n1, gs1, rfl, hp1, hg1, hl1, of1⟩
    refine ⟨_, rfl, p, _, rfl, get_now hp1, _, _, rfl, rfl, _, rfl, ite2 (fun c => ?_) (fun c => ?_)⟩
    · refine ⟨_, rfl, p, _, rfl, get_now hp1, _, rfl, _, _, rfl, rfl, m0, ?_⟩
      refine ⟨_, rfl, p, _, rfl, get_now hp1, _, rfl, _, _, rfl, rfl, wide_div m0 m9 (by decide) (by decide), _, rfl, p, _, rfl, set_now _ hp1, ?_⟩
      refine ⟨_, rfl, q _ _ (Int.emod_nonneg _ (by omega)) (Int.emod_lt_of_pos _ m0) ⟨_, sd, t, gs1, upd_same, by rw [upd_ne npg.symm]; exact hg1, hl1⟩ (of1.trans (Off.put (by simp)))⟩
    · refine ⟨_, rfl, p, _, rfl, get_turn hp1, _, _, rfl, rfl, _, rfl, p, _, rfl, set_turn _ hp1, ?_⟩
      refine ⟨_, rfl, p, _, rfl, get_seed upd_same, _, rfl, p, _, rfl, get_turn upd_same, _, _, rfl, rfl, .inl ⟨by decide, by decide⟩, _, _, rfl, rfl, _, _, rfl, rfl, c47, _, _, rfl, rfl, .inr ⟨by decide, by decide⟩, _, _, rfl, rfl, c47, ?_⟩
      refine ⟨_, rfl, _, rfl, p, _, rfl, get_seed upd_same, _, _, rfl, rfl, .inl ⟨by decide, by decide⟩, _, _, rfl, rfl, _, _, rfl, rfl, c29, _, _, rfl, rfl, _, rfl, p, _, rfl, set_seed _ upd_same, ?_⟩
      refine ⟨_, rfl, _, _, rfl, rfl, .inr ⟨by decide, by decide⟩, _, rfl, p, _, rfl, get_seed upd_same, _, _, rfl, rfl, _, _, rfl, rfl, ⟨by decide, by decide⟩, _, rfl, _, _, rfl, rfl, m0, ?_⟩
      refine q _ _ (Int.emod_nonneg _ (by omega)) (Int.emod_lt_of_pos _ m0) ⟨n1, _, _, gs1, upd_same, ?_, hl1⟩ (of1.trans ((Off.put (by simp)).trans (Off.put (by simp))))
      rw [upd_ne npg.symm, upd_ne npg.symm]
      exact hg1
end
theorem cutV_ints (ns : List Int) (lo hi : Option Int) : ∃ ms : List Int, cutV (ns.map V.int) lo hi = ms.map V.int ∧ ms.length ≤ ns.length := by
  refine ⟨(ns.drop (HT.sIx ns.length 0 lo)).take (HT.sIx ns.length ns.length hi - HT.sIx ns.length 0 lo), ?_, ?_⟩
  · unfold cutV
    rw [List.length_map, List.map_take, List.map_drop]
  · rw [List.length_take, List.length_drop]
    omega
theorem int_at {ms : List Int} {i : Nat} {y : V} (h : (ms.map V.int)[i]? = some y) : ∃ z, y = V.int z := by
  rw [List.getElem?_map] at h
  cases e : ms[i]? with
  | none =>
    rw [e] at h
    cases h
  | some z =>
    rw [e] at h
    exact ⟨z, (Option.some.inj h).symm⟩
theorem scBox : FnScope ["_law_script", "_law_base", "_law_seed", "_law_cell", "_law_great"] ["_law_script", "_law_base"] (defScope sBox) :=
  ⟨rfl, rfl, rfl, by decide +kernel, rfl, by decide +kernel, by decide +kernel⟩
section
variable {P : Program} {w : World} {K : PySem.W.Frag} {mg : Str → Option Value} {base : Heap} {f : Addr} {fd : FuncData}
theorem ok_box {k : Nat} (F : Fun K "_law_box" "_law_box" sBox f fd) (mab : mg "abs" = none) : FnOk P w K mg base CX0 (k + 1) f fd ["_law_script", "_law_base"] (spBox K) := by
  refine F.ok scBox (fun vs H Q E h => ?_) (fun cdv A outer s H vs Q E hr h => ?_)
  · obtain ⟨a, ns, c, rfl, _⟩ := h
    rfl
  obtain ⟨a, ns, c, rfl, hS, hlen, c0, c9, q⟩ := h
  have hu := hu_of hr
  refine ⟨_, pss_cons (ps_set (i := 2) scBox.nd rfl (.inl rfl) (pe_op op_add pe_int (pe_op op_mul pe_int (pv 1))))
    (pss_cons (ps_for PassesOwn.never rfl (pi_list (pe_slice sl_list (pv 0) po_none (po_some pe_int))) (pg_name (i := 3) scBox.nd rfl (.inl rfl))
      (pss_one (ps_set (i := 2) scBox.nd rfl (.inl rfl) (pe_op op_mod (pe_op op_add (pe_op op_add (pe_op op_mul (pv 2) pe_int)
        (pe_op op_mod (pe_callB call_abs (by rfl) mab (by decide +kernel) (pa_cons (pv 3) pa_nil)) pe_int)) pe_int) pe_int))))
    (pss_cons (ps_setLc (i := 4) (own := [("_law_cell", 3)]) (g := gName 3) (by rfl) scBox.nd rfl rfl (sw_true rfl rfl rfl (by decide +kernel))
      (pi_list (pe_slice sl_list (pv 0) (po_some (pv 1)) (po_some pe_int)))
      (blkOk_by (own := [("_law_cell", 3)]) (N := ["_law_script", "_law_base", "_law_seed", "_law_cell", "_law_great"]) (sc := defScope sBox) (by decide +kernel))
      (fun _ _ _ _ _ => pg_name (i := 3) scBox.nd rfl (Or.inl rfl))
      (fun _ _ _ _ _ => pts_one (pt_cmpR op_ge (pe_callB call_abs (by rfl) mab (by decide +kernel) (pa_cons (pv 3) pa_nil)) (pe_op op_pow pe_int pe_int) (nomark _)))
      (fun _ _ _ _ _ => pe_callB call_abs (by rfl) mab (by decide +kernel) (pa_cons (pv 3) pa_nil)))
    (pss_one (ps_ret (pe_disp (pps_cons pe_str (pe_revL (pv 4)) (pps_cons pe_str pe_int (pps_cons pe_str (pe_op op_add (pv 2) pe_int) (pps_cons pe_str pe_int pps_nil))))
      (by rfl) (by rfl) (fun z => by cases z) (by decide)))))), ?_⟩
  refine ⟨_, rfl, _, _, rfl, rfl, .inl ⟨by decide, by decide⟩, _, _, rfl, rfl, ?_⟩
  refine ⟨_, rfl, 50, rfl, a, _, rfl, hS, fun q0 hq0 => ?_⟩
  obtain ⟨ms, em, lm⟩ := cutV_ints ns none (some 50)
  rw [em]
  have s1 : Same H (upd H q0 (.lst (ms.map V.int))) := same_new hq0 _
  refine ⟨q0, rfl, ⟨_, SqL.of upd_same⟩, for_list (K := K) (a := q0) (xs := ms.map V.int) (fun i σ H2 => ∃ (z : Int) (v : Option V), σ = [some (.ref a), some (.int c), some (.int z), v, none] ∧ -(2 ^ 40) < z ∧ z < 2 ^ 40 ∧ H2 = upd H q0 (.lst (ms.map V.int)))
    ⟨7001 + 211 * c, none, rfl, by omega, by omega, rfl⟩ (fun i σ H2 _ ⟨_, _, _, _, _, e⟩ => by rw [e]; exact SqL.of upd_same) ?_ ?_⟩
  · rintro i y σ H2 hi ⟨z, v, rfl, z0, z1, rfl⟩
    obtain ⟨x, rfl⟩ := int_at hi
    refine ⟨_, rfl, _, _, rfl, rfl, .inr ⟨by decide, by decide⟩, _, rfl, _, rfl, _, _, rfl, rfl, c29, _, _, rfl, rfl, _, _, rfl, rfl, _, _, rfl, rfl, c47, ?_⟩
    exact ⟨_, _, rfl, Int.lt_of_lt_of_le (by decide) (Int.emod_nonneg _ (by decide)), Int.lt_trans (Int.emod_lt_of_pos _ c47) (by decide), rfl⟩
  · rintro σ H2 ⟨z, v, rfl, z0, z1, rfl⟩
    refine ⟨_, rfl, _, rfl, c, rfl, 50, rfl, a, _, rfl, s1.seq hS, fun q1 hq1 => ?_⟩
    obtain ⟨ks, ek, lk⟩ := cutV_ints ns (some c) (some 50)
    rw [ek]
    have s2 := s1.trans (same_new hq1 (.lst (ks.map V.int)))
    refine ⟨q1, rfl, ⟨_, SqL.of upd_same⟩, fun D hD => lc_list (K := K) (a := q1) (xs := ks.map V.int) (fun i H3 => ∃ gs : List Int, gs.length ≤ i ∧ H3 D = some (.lst (gs.map V.int)) ∧ H3 q1 = some (.lst (ks.map V.int)) ∧ Same H H3)
      ⟨[], Nat.le_refl _, upd_same, by rw [upd_ne (ne_of_none upd_same hD), upd_same], s2.trans (same_new hD _)⟩ (fun i H3 _ ⟨_, _, _, h, _⟩ => SqL.of h) ?_ ?_⟩
    · rintro i y H3 hi ⟨gs, lg, h1, h2, h3⟩
      have hik := (List.getElem?_eq_some_iff.mp hi).1
      rw [List.length_map] at hik
      obtain ⟨x, rfl⟩ := int_at hi
      refine ⟨rfl, _, rfl, _, rfl, _, _, rfl, rfl, ⟨by decide, by decide, by decide⟩, _, _, rfl, rfl, _, rfl, ite2 (fun _ => ?_) (fun _ => ?_)⟩
      · refine ⟨_, rfl, _, rfl, _, h1, ?_, gs ++ [if x < 0 then -x else x], ?_, ?_, ?_, ?_⟩
        · rw [List.length_map]
          exact small1000 (by omega)
        · rw [List.length_append, List.length_singleton]
          omega
        · rw [upd_same, List.map_append]
          rfl
        · rw [upd_ne (ne_of_none upd_same hD)]
          exact h2
        · intro b o e
          rw [upd_ne (ne_of_none e (s2.free hD))]
          exact h3 b o e
      · exact ⟨gs, by omega, h1, h2, h3⟩
    · rintro H3 ⟨gs, lg, h1, h2, h3⟩
      rw [List.length_map] at lg
      refine fun p hp => ⟨_, rfl, D, _, rfl, SqL.of (by rw [upd_ne (ne_of_none h1 hp)]; exact h1), fun g hg => ?_⟩
      have ngp : g ≠ p := fun e => by
        rw [e, upd_same] at hg
        cases hg
      have hp2 : (upd (upd H3 p (.dK [])) g (.lst (gs.map V.int).reverse)) p = some (.dK []) := by rw [upd_ne ngp.symm, upd_same]
      refine ⟨_, rfl, _, _, rfl, rfl, hp2, bx g 0 (z + 1) 0, rfl, by show 4 ≤ 15; decide, ?_⟩
      rw [mer_box]
      have hg3 : H3 g = none := by
        rw [upd_ne ngp] at hg
        exact hg
      refine q p g _ ⟨0, z + 1, 0, gs.reverse, upd_same, ?_, ?_⟩ ?_ (h3.free hp) (h3.free hg3)
      · rw [upd_ne ngp, upd_same, List.map_reverse]
      · rw [List.length_reverse]
        omega
      · intro b o e
        have e3 := h3 b o e
        rw [upd_ne (ne_of_none e3 hp), upd_ne (ne_of_none e3 hg3), upd_ne (ne_of_none e3 hp)]
        exact e3
end
structure Tk (P : Program) (w : World) (K : PySem.W.Frag) (mg : Str → Option Value) (base : Heap) (f : Addr) (fd : FuncData) : Prop where
  ok : FnOk P w K mg base CX0 1 f fd ["_law_box_here", "_law_many"] spTake
  kp : PySem.W.keepIn K (.ref f) = true
  bd : Binds K fd ["_law_box_here", "_law_many"] []
  mg : mg "_law_take" = some (.ref f)
theorem atI_ok {α : Type} {xs : List α} {r : Int} (h0 : 0 ≤ r) (h : r < (xs.length : Int)) : ∃ x, atI xs r = some x ∧ x ∈ xs ∧ xs[r.toNat]? = some x := by
  have hr : r.toNat < xs.length := by omega
  have e : r = (r.toNat : Int) := by omega
  have q : atI xs ((r.toNat : Nat) : Int) = some xs[r.toNat] := atI_nat (List.getElem?_eq_getElem hr)
  rw [← e] at q
  exact ⟨xs[r.toNat], q, List.getElem_mem hr, List.getElem?_eq_getElem hr⟩
theorem okG {P : Program} {w : World} {K : PySem.W.Frag} {mg : Str → Option Value} {base : Heap} {x qual : Str} {st : Stmt} {f : Addr} {fd : FuncData} {N ps : List Str} {k : Nat} {sp : Sp} (F : Fun K x qual st f fd) (S : FnScope N ps (defScope st))
    (len : ∀ ws H Q E, sp ws H Q E → ws.length = ps.length)
    (hb : ∀ (cdv : Value) (A : Around) (outer : List Env) (s : Shared) (H : Hp) (vs : List V) (Q : VK) (E : XK), A.guards = some [] → Room k (A.deeper (envOfC qual (defScope st) s.heap.objs.size f cdv)) → sp vs H Q E →
      ∃ t, PSs (cxOf CX0 P w K mg base N qual (defScope st) f cdv A outer s H E).nox (defBody st) t ∧ t { nx := fun _ H' => Q .non H', rt := Q } (start N vs) H) : FnG P w K mg base CX0 (k + 1) f fd ps sp := by
  obtain ⟨oc, od, kV, doc, pm, an, cdv, ct, osl, rfl, lk, hcd⟩ := F.ex
  refine fnG_of lk hcd S len ?_
  intro A outer s H vs Q E hg hr hsp
  obtain ⟨t, h, q⟩ := hb cdv A outer s H vs Q E hg hr hsp
  exact ⟨t, h.nox, q⟩
theorem bool_prn (b : Bool) : Prn (.bool b) := prn_of (by simp only [gd]) (by simp only [nod]; omega) (by simp only [PyData.depth]; omega)
/-- a def of the top that keeps a promise -/
structure Dn (P : Program) (w : World) (K : PySem.W.Frag) (mg : Str → Option Value) (base : Heap) (lvl : Nat) (nm : Str) (ps : List Str) (sp : Sp) (f : Addr) (fd : FuncData) : Prop where
  ok : FnOk P w K mg base CX0 lvl f fd ps sp
  kp : PySem.W.keepIn K (.ref f) = true
  bd : Binds K fd ps []
  mg : mg nm = some (.ref f)
theorem cut_less {l m : List Addr} {H : Hp} (h : ∀ b ∈ m, b ∈ l) : Same (cut l H) (cut m H) := fun b o e => by
  obtain ⟨n, e⟩ := cut_some e
  rw [cut_out (fun z => n (h b z))]
  exact e
theorem cut_more {l : List Addr} {H : Hp} {a : Addr} {o : HO} (h : H a = none) : Same (cut l H) (cut (a :: l) (upd H a o)) := fun b u e => by
  obtain ⟨n, e⟩ := cut_some e
  have nb := ne_of_none e h
  rw [cut_out (fun z => (List.mem_cons.mp z).elim nb n), upd_ne nb]
  exact e
theorem dp_true {K : PySem.W.Frag} {H : Hp} {b : Bool} (h : b = true) : Dp K H (.bl b) (.bool true) := by
  rw [h]
  exact .bl true
theorem DpAll.parts {K : PySem.W.Frag} {H : Hp} {xs : List V} {ds : List PyData} (h : DpAll K H xs ds) (i : Nat) : DpAll K H (xs.take i) (ds.take i) ∧ DpAll K H (xs.drop i) (ds.drop i) := by
  have lx := DpAll.len h
  obtain ⟨d1, d2, e, a, b⟩ := DpAll.unapp (xs := xs.take i) (ys := xs.drop i) (by rw [List.take_append_drop]; exact h)
  have la := DpAll.len a
  have lb := DpAll.len b
  rw [List.length_take] at la
  rw [List.length_drop] at lb
  subst e
  by_cases hi : i ≤ xs.length
  · have l1 : d1.length = i := by omega
    have e1 : (d1 ++ d2).take i = d1 := by rw [← l1]; exact List.take_left
    have e2 : (d1 ++ d2).drop i = d2 := by rw [← l1]; exact List.drop_left
    rw [e1, e2]
    exact ⟨a, b⟩
  · have l2 : d2 = [] := List.length_eq_zero_iff.mp (by omega)
    subst l2
    rw [List.append_nil, List.take_of_length_le (l := d1) (by omega), List.drop_of_length_le (l := d1) (by omega)]
    exact ⟨a, b⟩
theorem cutV_dp {K : PySem.W.Frag} {H : Hp} {xs : List V} {ds : List PyData} (h : DpAll K H xs ds) (lo hi : Option Int) : ∃ es, DpAll K H (cutV xs lo hi) es ∧ ∀ e ∈ es, e ∈ ds := by
  unfold cutV
  exact ⟨_, (DpAll.parts (DpAll.parts h _).2 _).1, fun e he => List.mem_of_mem_drop (List.mem_of_mem_take he)⟩
theorem gd_int {i : Int} (h : i.natAbs < 2 ^ 1000) : gd (.int i) = true := by
  simp only [gd]
  exact decide_eq_true (Nat.lt_trans (PySem.Flt.log2_lt_of (by decide) h) (by decide))
abbrev sSorts : Stmt := topS 8
abbrev sItems : Stmt := topS 9
def isT (h : Str) : Bool := teL.any fun p => decide (p.1 = h)
def sortS (c : Nat) : Str := if c = 101 then "expression" else if c = 116 then "test" else if c = 115 then "expressions" else if c = 107 then "integer" else if c = 110 then "name" else if c = 105 then "index" else "kind"
def sortsV (sl : Str) : List V := sl.cps.toList.map fun c => V.str (sortS c)
def wantS (h : Str) : Str := if isT h = true then "test" else "expression"
theorem isT_e : ∀ p ∈ exL, isT p.1 = false := by decide +kernel
theorem isT_t : ∀ p ∈ teL, isT p.1 = true := by decide +kernel
/-- the two tables of the program's top -/
structure Tab (K : PySem.W.Frag) (w : World) (mg : Str → Option Value) (aE : Addr) (esE : Array DictEntry) (nE : Nat) (aT : Addr) (esT : Array DictEntry) (nT : Nat) : Prop where
  mE : mg "EXPRESSIONS" = some (.ref aE)
  mT : mg "TESTS" = some (.ref aT)
  dE : KDict K w aE esE nE
  dT : KDict K w aT esT nT
  e1 : ∀ p ∈ exL, ∃ a, PySem.W.nsIn K aE p.1 = some (some (.ref a)) ∧ ∀ H, SqT K H a (sortsV p.2)
  t1 : ∀ p ∈ teL, ∃ a, PySem.W.nsIn K aT p.1 = some (some (.ref a)) ∧ ∀ H, SqT K H a (sortsV p.2)
  e0 : ∀ p ∈ exL, PySem.W.nsIn K aT p.1 = some none
theorem scSorts : FnScope ["word", "wanted"] ["word", "wanted"] (defScope sSorts) := ⟨rfl, rfl, rfl, by decide +kernel, rfl, by decide +kernel, by decide +kernel⟩
theorem scItems : FnScope ["tree", "wanted"] ["tree"] (defScope sItems) := ⟨rfl, rfl, rfl, by decide +kernel, rfl, by decide +kernel, by decide +kernel⟩
def spSorts (K : PySem.W.Frag) : Sp := fun vs H Q _ => ∃ h sl, vs = [.str h, .str (wantS h)] ∧ (h, sl) ∈ allL ∧ ∀ a, (∀ H', SqT K H' a (sortsV sl)) → Q (.ref a) H
/-- pairs of an item and its sort -/
def spItems (K : PySem.W.Frag) : Sp := fun vs H Q _ => ∃ a h sl xs, vs = [.ref a] ∧ SqT K H a (.str h :: xs) ∧ xs.length ≤ 1000 ∧ (h, sl) ∈ allL ∧ xs.length = sl.cps.toList.length ∧
  ∀ (p : Addr) (ts : List Addr) (H' : Hp), Same H H' → H p = none → H' p = some (.lst (ts.map V.ref)) → ts.length = xs.length → (∀ (j : Nat) (t : Addr), ts[j]? = some t → ∃ x c, xs[j]? = some x ∧ sl.cps.toList[j]? = some c ∧ H' t = some (.tup [x, .str (sortS c)])) → Q (.ref p) H'
section
variable {P : Program} {w : World} {K : PySem.W.Frag} {mg : Str → Option Value} {base : Heap} {f fS : Addr} {fd dS : FuncData} {aE aT : Addr} {esE esT : Array DictEntry} {nE nT : Nat}
theorem ok_sorts {k : Nat} (F : Fun K "sorts_behind" "sorts_behind" sSorts f fd) (TB : Tab K w mg aE esE nE aT esT nT) : FnOk P w K mg base CX0 (k + 1) f fd ["word", "wanted"] (spSorts K) := by
  refine F.ok scSorts (fun vs H Q E h => ?_) (fun cdv A outer s H vs Q E hr h => ?_)
  · obtain ⟨h, sl, rfl, _⟩ := h
    rfl
  obtain ⟨h, sl, rfl, m, q⟩ := h
  refine ⟨_, pss_one (ps_ret (pe_ifExp (pt_cmpR op_eq (pv 1) pe_str (nomark _)) (pe_kget TB.dT (pe_glob (by rfl) TB.mT (v := .ref aT) rfl) (pv 0) ⟨rfl, rfl, rfl, rfl⟩) (pe_kget TB.dE (pe_glob (by rfl) TB.mE (v := .ref aE) rfl) (pv 0) ⟨rfl, rfl, rfl, rfl⟩))), ?_⟩
  refine ⟨_, rfl, rfl, _, rfl, ?_⟩
  rcases List.mem_append.mp m with m | m
  · have e := isT_e _ m
    obtain ⟨a, n1, sq⟩ := TB.e1 _ m
    have e2 : wantS h = "expression" := by unfold wantS; rw [e]; rfl
    rw [e2]
    exact iteF ⟨rfl, _, rfl, h, _, _, rfl, n1, (show RelV (V.ref a) (Value.ref a) from rfl), q a sq⟩
  · have e := isT_t _ m
    obtain ⟨a, n1, sq⟩ := TB.t1 _ m
    have e2 : wantS h = "test" := by unfold wantS; rw [e]; rfl
    rw [e2]
    exact iteT ⟨rfl, _, rfl, h, _, _, rfl, n1, (show RelV (V.ref a) (Value.ref a) from rfl), q a sq⟩
theorem ok_items {k : Nat} (F : Fun K "sorted_items" "sorted_items" sItems f fd) (TB : Tab K w mg aE esE nE aT esT nT) (ml : mg "list" = none) (mz : mg "zip" = none) (GS : Dn P w K mg base 1 "sorts_behind" ["word", "wanted"] (spSorts K) fS dS) :
    FnOk P w K mg base CX0 (k + 2) f fd ["tree"] (spItems K) := by
  refine F.ok scItems (fun vs H Q E h => ?_) (fun cdv A outer s H vs Q E hr h => ?_)
  · obtain ⟨a, h, sl, xs, rfl, _⟩ := h
    rfl
  obtain ⟨a, h, sl, xs, rfl, hx, lx, m, le, q⟩ := h
  have hr1 : Room 1 _ := hr.mono (by omega)
  refine ⟨_, pss_cons (ps_set (i := 1) scItems.nd rfl (.inl rfl) (pe_ifExp (pt_cmpR (op_in_kd TB.dT) (pe_ix ix_tup (pv 0) pe_int (fun _ _ => rfl)) (pe_glob (by rfl) TB.mT (v := .ref aT) rfl) rfl) pe_str pe_str))
    (pss_one (ps_ret (pe_listZip (by rfl) (pa_cons (pe_slice sl_tupA (pv 0) (po_some pe_int) po_none) (pa_cons (pe_call GS.ok hr1 (by rfl) GS.mg GS.kp GS.bd .nil pass0 (pa_cons (pe_ix ix_tup (pv 0) pe_int (fun _ _ => rfl)) (pa_cons (pv 1) pa_nil))) pa_nil)) (by rfl) ml (by rfl) mz))), ?_⟩
  have a0 : atI (V.str h :: xs) 0 = some (.str h) := atI_nat (j := 0) rfl
  have nr : ∃ r, PySem.W.nsIn K aT h = some r ∧ r.isSome = isT h := by
    rcases List.mem_append.mp m with m | m
    · exact ⟨_, TB.e0 _ m, (isT_e _ m).symm⟩
    · obtain ⟨a, n1, sq⟩ := TB.t1 _ m
      exact ⟨_, n1, (isT_t _ m).symm⟩
  obtain ⟨r, n1, er⟩ := nr
  have e3 : ∀ b : Bool, b = isT h → (if b = true then ("test" : Str) else "expression") = wantS h := fun b e => by
    unfold wantS
    rw [e]
  have fin : ∀ (cc : Addr) (H1 : Hp), Same H H1 → SqT K H1 cc xs → ∀ bb, (∀ H', SqT K H' bb (sortsV sl)) → ∀ (p : Addr) (ts : List Addr) (H' : Hp), Same H1 H' → H1 p = none → (∀ t ∈ ts, H1 t = none) → p ∉ ts → H' p = some (.lst (ts.map V.ref)) → ts.length = min xs.length (sortsV sl).length → (∀ (j : Nat) (t : Addr), ts[j]? = some t → ∃ x y, xs[j]? = some x ∧ (sortsV sl)[j]? = some y ∧ H' t = some (.tup [x, y])) → Q (.ref p) H' := by
    intro cc H1 s1 hc bb hb p ts H' s2 hp _ _ hl lt at'
    have ls : (sortsV sl).length = xs.length := by
      unfold sortsV
      rw [List.length_map, le]
    refine q p ts H' (s1.trans s2) (s1.free hp) hl (by omega) fun j t ht => ?_
    obtain ⟨x, y, e1, e2, e4⟩ := at' j t ht
    unfold sortsV at e2
    rw [List.getElem?_map] at e2
    obtain ⟨c, ec, rfl⟩ := Option.map_eq_some_iff.mp e2
    exact ⟨x, c, e1, ec, e4⟩
  refine ⟨_, rfl, a, _, 0, _, rfl, rfl, hx, a0, h, r, rfl, rfl, n1, ?_⟩
  rw [er]
  refine ⟨_, rfl, ite2 (fun c => ?_) (fun c => ?_)⟩
  all_goals
    refine ⟨_, rfl, 1, rfl, a, _, rfl, hx, (fun e => ?_), fun _ cc hcc => ?_⟩
    · have e := e.1
      rw [show (1 : Int) = ((1 : Nat) : Int) from rfl, HT.sIx_nat, List.length_cons] at e
      omega
    rw [cutV_drop _ (by decide) (by simp only [List.length_cons]; omega)]
    have s1 : Same H (upd H cc (.tup xs)) := same_new hcc _
    refine ⟨_, rfl, a, _, 0, _, rfl, rfl, seqT_up s1 hx, a0, _, rfl, h, sl, ?_, m, fun bb hb => ⟨cc, bb, xs, sortsV sl, rfl, .inl (.inl upd_same), hb _, fin cc _ s1 (.inl (.inl upd_same)) bb hb⟩⟩
    unfold wantS
    first
      | exact congrArg (fun z => [V.str h, V.str z]) (if_pos c).symm
      | exact congrArg (fun z => [V.str h, V.str z]) (if_neg c).symm
end
theorem putF_len {f : Str} {v v0 : V} : ∀ {fs : List (Str × V)}, fs.lookup f = some v0 → (putF f v fs).length = fs.length
  | [], h => by cases h
  | (g, x) :: r, h => by
    show (if g = f then (g, v) :: r else (g, x) :: putF f v r).length = _
    by_cases e : g = f
    · rw [if_pos e]
      rfl
    · rw [if_neg e]
      have h2 : r.lookup f = some v0 := by
        have z : (f == g) = false := beq_eq_false_iff_ne.mpr fun y => e y.symm
        simpa only [List.lookup, z] using h
      simp only [List.length_cons, putF_len h2]
/-- the attributes of a reader -/
structure FR (fs : List (Str × V)) (L : Addr) (t : V) : Prop where
  b : fs.lookup ("brackets" : Str) = some (.ref L)
  t : fs.lookup ("tree" : Str) = some t
  n : fs.length ≤ 10
/-- the attributes of a bracket -/
structure FB (fs : List (Str × V)) (w h s : V) (fa : Addr) : Prop where
  w : fs.lookup ("wanted" : Str) = some w
  h : fs.lookup ("head" : Str) = some h
  s : fs.lookup ("sorts" : Str) = some s
  f : fs.lookup ("found" : Str) = some (.ref fa)
  n : fs.length ≤ 10
theorem nbt : ¬ (("brackets" : Str) = "tree") := by decide +kernel
theorem nwh : ¬ (("wanted" : Str) = "head") := by decide +kernel
theorem nws : ¬ (("wanted" : Str) = "sorts") := by decide +kernel
theorem nwf : ¬ (("wanted" : Str) = "found") := by decide +kernel
theorem nhs : ¬ (("head" : Str) = "sorts") := by decide +kernel
theorem nhf : ¬ (("head" : Str) = "found") := by decide +kernel
theorem nsf : ¬ (("sorts" : Str) = "found") := by decide +kernel
theorem FR.tree {fs : List (Str × V)} {L : Addr} {t v : V} (h : FR fs L t) : FR (putF "tree" v fs) L v :=
  ⟨by rw [lookup_putF, if_neg nbt]; exact h.b, by rw [lookup_putF, if_pos rfl], by rw [putF_len h.t]; exact h.n⟩
theorem FB.head {fs : List (Str × V)} {w h s v : V} {fa : Addr} (b : FB fs w h s fa) : FB (putF "head" v fs) w v s fa :=
  ⟨by rw [lookup_putF, if_neg nwh]; exact b.w, by rw [lookup_putF, if_pos rfl], by rw [lookup_putF, if_neg (fun z => nhs z.symm)]; exact b.s, by rw [lookup_putF, if_neg (fun z => nhf z.symm)]; exact b.f, by rw [putF_len b.h]; exact b.n⟩
theorem FB.sorts {fs : List (Str × V)} {w h s v : V} {fa : Addr} (b : FB fs w h s fa) : FB (putF "sorts" v fs) w h v fa :=
  ⟨by rw [lookup_putF, if_neg nws]; exact b.w, by rw [lookup_putF, if_neg nhs]; exact b.h, by rw [lookup_putF, if_pos rfl], by rw [lookup_putF, if_neg (fun z => nsf z.symm)]; exact b.f, by rw [putF_len b.s]; exact b.n⟩
structure CR (K : PySem.W.Frag) (mg : Str → Option Value) (C : Addr) : Prop where
  cl : Cls K C
  nb : NoAttr K C "brackets"
  nt : NoAttr K C "tree"
  mg : mg "Reader" = some (.ref C)
structure CB (K : PySem.W.Frag) (mg : Str → Option Value) (C : Addr) : Prop where
  cl : Cls K C
  nw : NoAttr K C "wanted"
  nh : NoAttr K C "head"
  ns : NoAttr K C "sorts"
  nf : NoAttr K C "found"
  mg : mg "Bracket" = some (.ref C)
def wantedS (b : Bool) : Str := if b = true then "test" else "expression"
/-- a bracket of the reader at a, what it has found at fa -/
structure BrAt (K : PySem.W.Frag) (C : Addr) (H : Hp) (a fa : Addr) (b : Br) : Prop where
  ex : ∃ dx fs hv sv vs, H a = some (.ins C dx fs) ∧ FB fs (.str (wantedS b.wanted)) hv sv fa ∧ H fa = some (.lst vs) ∧ DpAll K H vs b.found ∧ nls b.found = true ∧ b.found.length ≤ 8000 ∧
    (match b.head with | none => hv = .non | some (h, sl) => hv = .str h ∧ (h, sl) ∈ tbS b.wanted ∧ ∃ sa, sv = .ref sa ∧ ∀ H', SqT K H' sa (sortsV sl))
def BrsAt (K : PySem.W.Frag) (C : Addr) (H : Hp) : List Addr → List Addr → List Br → Prop
  | a :: as, fa :: fas, b :: bs => BrAt K C H a fa b ∧ BrsAt K C H as fas bs
  | [], [], [] => True
  | _, _, _ => False
theorem nt_ins {H : Hp} {b C dx : Addr} {fs : List (Str × V)} (h : H b = some (.ins C dx fs)) : ∀ xs, ¬ Rd H b (.tup xs) := fun xs z => by
  rcases z with z | ⟨o, z⟩
  · rw [h] at z
    cases z
  · rw [h] at z
    cases z
theorem BrAt.off {K : PySem.W.Frag} {C : Addr} {H H' : Hp} {l : List Addr} {a fa : Addr} {b : Br} (h : BrAt K C H a fa b) (hl : NT l H) (na : a ∉ l) (nf : fa ∉ l) (o : Off l H H') : BrAt K C H' a fa b := by
  obtain ⟨dx, fs, hv, sv, vs, h1, h2, h3, h4, h5, h6, h7⟩ := h.ex
  exact ⟨dx, fs, hv, sv, vs, o.get h1 na, h2, o.get h3 nf, DpAll.off h4 hl h5 o, h5, h6, h7⟩
theorem BrsAt.off {K : PySem.W.Frag} {C : Addr} {H H' : Hp} {l : List Addr} (hl : NT l H) (o : Off l H H') : ∀ {as fas : List Addr} {bs : List Br}, BrsAt K C H as fas bs → (∀ a ∈ as, a ∉ l) → (∀ a ∈ fas, a ∉ l) → BrsAt K C H' as fas bs
  | _ :: _, _ :: _, _ :: _, h, n1, n2 => ⟨h.1.off hl (n1 _ List.mem_cons_self) (n2 _ List.mem_cons_self) o, BrsAt.off hl o h.2 (fun a z => n1 a (List.mem_cons_of_mem _ z)) fun a z => n2 a (List.mem_cons_of_mem _ z)⟩
  | [], [], [], _, _, _ => trivial
  | _ :: _, [], _, h, _, _ => h.elim
  | [], _ :: _, _, h, _, _ => h.elim
  | [], [], _ :: _, h, _, _ => h.elim
  | _ :: _, _ :: _, [], h, _, _ => h.elim
theorem BrsAt.len {K : PySem.W.Frag} {C : Addr} {H : Hp} : ∀ {as fas : List Addr} {bs : List Br}, BrsAt K C H as fas bs → as.length = bs.length ∧ fas.length = bs.length
  | _ :: _, _ :: _, _ :: _, h => ⟨congrArg (· + 1) (BrsAt.len h.2).1, congrArg (· + 1) (BrsAt.len h.2).2⟩
  | [], [], [], _ => ⟨rfl, rfl⟩
  | _ :: _, [], _, h => h.elim
  | [], _ :: _, _, h => h.elim
  | [], [], _ :: _, h => h.elim
  | _ :: _, _ :: _, [], h => h.elim
theorem BrsAt.snoc {K : PySem.W.Frag} {C : Addr} {H : Hp} {a fa : Addr} {b : Br} : ∀ {as fas : List Addr} {bs : List Br}, BrsAt K C H as fas bs → BrAt K C H a fa b → BrsAt K C H (as ++ [a]) (fas ++ [fa]) (bs ++ [b])
  | _ :: _, _ :: _, _ :: _, h, g => ⟨h.1, h.2.snoc g⟩
  | [], [], [], _, g => ⟨g, trivial⟩
  | _ :: _, [], _, h, _ => h.elim
  | [], _ :: _, _, h, _ => h.elim
  | [], [], _ :: _, h, _ => h.elim
  | _ :: _, _ :: _, [], h, _ => h.elim
theorem BrsAt.unsnoc {K : PySem.W.Frag} {C : Addr} {H : Hp} {b : Br} : ∀ {as fas : List Addr} {bs : List Br}, BrsAt K C H as fas (bs ++ [b]) → ∃ as2 fas2 a fa, as = as2 ++ [a] ∧ fas = fas2 ++ [fa] ∧ BrsAt K C H as2 fas2 bs ∧ BrAt K C H a fa b
  | a :: as, fa :: fas, [], h => by
    cases as with
    | nil =>
      cases fas with
      | nil => exact ⟨[], [], a, fa, rfl, rfl, trivial, h.1⟩
      | cons _ _ => exact h.2.elim
    | cons x as =>
      cases fas <;> exact h.2.elim
  | a :: as, fa :: fas, b0 :: bs, h => by
    obtain ⟨as2, fas2, a2, fa2, rfl, rfl, h1, h2⟩ := BrsAt.unsnoc (bs := bs) h.2
    exact ⟨a :: as2, fa :: fas2, a2, fa2, rfl, rfl, ⟨h.1, h1⟩, h2⟩
  | [], [], bs, h => by cases bs <;> exact h.elim
  | _ :: _, [], bs, h => by cases bs <;> exact h.elim
  | [], _ :: _, bs, h => by cases bs <;> exact h.elim
def TreeAt (K : PySem.W.Frag) (H : Hp) (v : V) : Option PyData → Prop
  | none => v = .non
  | some d => Dp K H v d ∧ nl d = true
/-- the reader at r: what is its own lies at the addresses l -/
structure RdAt (K : PySem.W.Frag) (C CBr : Addr) (H : Hp) (r : Addr) (l : List Addr) (S : PSt) : Prop where
  ex : ∃ dx fs L t as fas, l = r :: L :: (as ++ fas) ∧ H r = some (.ins C dx fs) ∧ FR fs L t ∧ H L = some (.lst (as.map V.ref)) ∧ BrsAt K CBr H as fas S.brs ∧ TreeAt K H t S.tree ∧ l.Nodup
theorem BrsAt.nt {K : PySem.W.Frag} {C : Addr} {H : Hp} : ∀ {as fas : List Addr} {bs : List Br}, BrsAt K C H as fas bs → NT as H ∧ NT fas H
  | _ :: _, _ :: _, _ :: _, h => by
    obtain ⟨dx, fs, hv, sv, vs, h1, h2, h3, _⟩ := h.1.ex
    exact ⟨.cons (nt_ins h1) (BrsAt.nt h.2).1, .cons (nt_lst h3) (BrsAt.nt h.2).2⟩
  | [], [], [], _ => ⟨.nil, .nil⟩
  | _ :: _, [], _, h => h.elim
  | [], _ :: _, _, h => h.elim
  | [], [], _ :: _, h => h.elim
  | _ :: _, _ :: _, [], h => h.elim
theorem BrsAt.tr {K : PySem.W.Frag} {C : Addr} {H : Hp} : ∀ {as fas : List Addr} {bs : List Br}, BrsAt K C H as fas bs → Tr as H ∧ Tr fas H
  | _ :: _, _ :: _, _ :: _, h => by
    obtain ⟨dx, fs, hv, sv, vs, h1, h2, h3, _⟩ := h.1.ex
    obtain ⟨t1, t2⟩ := BrsAt.tr h.2
    refine ⟨fun b hb => ?_, fun b hb => ?_⟩
    · rcases List.mem_cons.mp hb with z | z
      · rw [z, h1]; exact fun z => nomatch z
      · exact t1 b z
    · rcases List.mem_cons.mp hb with z | z
      · rw [z, h3]; exact fun z => nomatch z
      · exact t2 b z
  | [], [], [], _ => ⟨(fun _ z => nomatch z), (fun _ z => nomatch z)⟩
  | _ :: _, [], _, h => h.elim
  | [], _ :: _, _, h => h.elim
  | [], [], _ :: _, h => h.elim
  | _ :: _, _ :: _, [], h => h.elim
theorem RdAt.nt {K : PySem.W.Frag} {C CBr : Addr} {H : Hp} {r : Addr} {l : List Addr} {S : PSt} (h : RdAt K C CBr H r l S) : NT l H ∧ Tr l H := by
  obtain ⟨dx, fs, L, t, as, fas, rfl, h1, h2, h3, h4, h5, h6⟩ := h.ex
  obtain ⟨n1, n2⟩ := h4.nt
  obtain ⟨t1, t2⟩ := h4.tr
  refine ⟨.cons (nt_ins h1) (.cons (nt_lst h3) fun b hb => (List.mem_append.mp hb).elim (n1 b) (n2 b)), fun b hb => ?_⟩
  rcases List.mem_cons.mp hb with z | hb
  · rw [z, h1]; exact fun z => nomatch z
  · rcases List.mem_cons.mp hb with z | hb
    · rw [z, h3]; exact fun z => nomatch z
    · exact (List.mem_append.mp hb).elim (t1 b) (t2 b)
theorem TreeAt.off {K : PySem.W.Frag} {H H' : Hp} {l : List Addr} {v : V} {o : Option PyData} (h : TreeAt K H v o) (hl : NT l H) (f : Off l H H') : TreeAt K H' v o := by
  cases o with
  | none => exact h
  | some d => exact ⟨Dp.off h.1 hl h.2 f, h.2⟩
/-- what is not the reader's may change -/
theorem RdAt.off {K : PySem.W.Frag} {C CBr : Addr} {H H' : Hp} {r : Addr} {l m : List Addr} {S : PSt} (h : RdAt K C CBr H r l S) (hm : NT m H) (n : ∀ a ∈ l, a ∉ m) (o : Off m H H') : RdAt K C CBr H' r l S := by
  obtain ⟨dx, fs, L, t, as, fas, rfl, h1, h2, h3, h4, h5, h6⟩ := h.ex
  refine ⟨dx, fs, L, t, as, fas, rfl, o.get h1 (n _ (by simp)), h2, o.get h3 (n _ (by simp)), h4.off hm o (fun a z => n a (by simp [z])) (fun a z => n a (by simp [z])), h5.off hm o, h6⟩
theorem RdAt.same {K : PySem.W.Frag} {C CBr : Addr} {H H' : Hp} {r : Addr} {l : List Addr} {S : PSt} (h : RdAt K C CBr H r l S) (s : Same H H') : RdAt K C CBr H' r l S :=
  h.off (m := []) .nil (fun _ _ z => nomatch z) (Off.of s)
abbrev sBIni : Stmt := inClass (topS 15) 0
abbrev sRIni : Stmt := inClass (topS 16) 0
abbrev sKeep : Stmt := topS 21
theorem scBIni : FnScope ["self", "wanted"] ["self", "wanted"] (defScope sBIni) := ⟨rfl, rfl, rfl, by decide +kernel, rfl, by decide +kernel, by decide +kernel⟩
theorem scRIni : FnScope ["self"] ["self"] (defScope sRIni) := ⟨rfl, rfl, rfl, by decide +kernel, rfl, by decide +kernel, by decide +kernel⟩
theorem scKeep : FnScope ["reader", "thing"] ["reader", "thing"] (defScope sKeep) := ⟨rfl, rfl, rfl, by decide +kernel, rfl, by decide +kernel, by decide +kernel⟩
def spRIni (C : Addr) : Sp := fun vs H Q _ => ∃ a dx, vs = [.ref a] ∧ H a = some (.ins C dx []) ∧ ∀ L fs H', H' a = some (.ins C dx fs) → FR fs L .non → H' L = some (.lst []) → L ≠ a → H L = none → (∀ b u, b ≠ a → H b = some u → H' b = some u) → Q .non H'
def spBIni (C : Addr) : Sp := fun vs H Q _ => ∃ a dx ws, vs = [.ref a, .str ws] ∧ H a = some (.ins C dx []) ∧ ∀ fa t fs H', H' a = some (.ins C dx fs) → FB fs (.str ws) .non (.ref t) fa → H' fa = some (.lst []) → fa ≠ a → H fa = none → (∀ b u, b ≠ a → H b = some u → H' b = some u) → Q .non H'
def spKeep (K : PySem.W.Frag) (C CBr : Addr) : Sp := fun vs H Q _ => ∃ r v bs d l, vs = [.ref r, v] ∧ RdAt K C CBr H r l ⟨bs, none⟩ ∧ Dp K H v d ∧ nl d = true ∧ (∀ b ∈ bs, b.found.length < 8000) ∧ ∀ H', RdAt K C CBr H' r l (keepP bs d) → Off l H H' → Q .non H'
theorem last_new {l : List Addr} {a : Addr} (h : (l ++ [a]).Nodup) : ∀ x ∈ l, x ≠ a := fun x hx e => (List.nodup_append.mp h).2.2 x hx a (by simp) e
section
variable {P : Program} {w : World} {K : PySem.W.Frag} {mg : Str → Option Value} {base : Heap} {f : Addr} {fd : FuncData} {C CBr : Addr}
theorem ok_rini {k : Nat} (F : Fun K "__init__" "Reader.__init__" sRIni f fd) (T : CR K mg C) : FnOk P w K mg base CX0 (k + 1) f fd ["self"] (spRIni C) := by
  refine F.ok scRIni (fun vs H Q E h => ?_) (fun cdv A outer s H vs Q E hr h => ?_)
  · obtain ⟨a, dx, rfl, _⟩ := h
    rfl
  obtain ⟨a, dx, rfl, ha, q⟩ := h
  refine ⟨_, pss_cons (ps_fld (pv 0) (pe_lst pa_nil) rfl) (pss_one (ps_fld (pv 0) pe_non rfl)), ?_⟩
  refine ⟨by decide, fun L hL => ?_⟩
  have naL : a ≠ L := ne_of_none ha hL
  refine ⟨_, rfl, a, C, dx, [], rfl, by rw [upd_ne naL]; exact ha, T.cl, T.nb, (by show 0 < 1000; decide), _, rfl, a, C, dx, _, rfl, upd_same, T.cl, T.nt, (by show 1 < 1000; decide), ?_⟩
  refine q L _ _ upd_same ⟨?_, ?_, ?_⟩ (by rw [upd_ne naL.symm, upd_ne naL.symm]; exact upd_same) naL.symm hL (fun b u n z => by rw [upd_ne n, upd_ne n, upd_ne (ne_of_none z hL)]; exact z)
  · rw [lookup_putF, if_neg nbt, lookup_putF, if_pos rfl]
  · rw [lookup_putF, if_pos rfl]
  · have e : (putF "tree" V.non (putF "brackets" (.ref L) [])).length = 2 := by
      show (if ("brackets" : Str) = "tree" then _ else _ : List (Str × V)).length = 2
      rw [if_neg nbt]
      rfl
    rw [e]
    decide
theorem putF_le (f : Str) (v : V) : ∀ fs : List (Str × V), (putF f v fs).length ≤ fs.length + 1
  | [] => by simp [putF]
  | (g, x) :: r => by
    have ih := putF_le f v r
    show (if g = f then (g, v) :: r else (g, x) :: putF f v r).length ≤ _
    split
    · simp
    · simp only [List.length_cons]
      omega
theorem ok_bini {k : Nat} (F : Fun K "__init__" "Bracket.__init__" sBIni f fd) (T : CB K mg C) : FnOk P w K mg base CX0 (k + 1) f fd ["self", "wanted"] (spBIni C) := by
  refine F.ok scBIni (fun vs H Q E h => ?_) (fun cdv A outer s H vs Q E hr h => ?_)
  · obtain ⟨a, dx, ws, rfl, _⟩ := h
    rfl
  obtain ⟨a, dx, ws, rfl, ha, q⟩ := h
  refine ⟨_, pss_cons (ps_fld (pv 0) (pv 1) rfl) (pss_cons (ps_fld (pv 0) pe_non rfl) (pss_cons (ps_fld (pv 0) (pe_tup pa_nil) rfl) (pss_one (ps_fld (pv 0) (pe_lst pa_nil) rfl)))), ?_⟩
  have l1 := putF_le "wanted" (.str ws) []
  have l2 := putF_le "head" .non (putF "wanted" (.str ws) [])
  simp only [List.length_nil] at l1
  refine ⟨_, rfl, _, rfl, a, C, dx, [], rfl, ha, T.cl, T.nw, (by show 0 < 1000; decide), _, rfl, a, C, dx, _, rfl, upd_same, T.cl, T.nh, by omega, by decide, fun t ht => ?_⟩
  have nat : a ≠ t := ne_of_none upd_same ht
  have l3 := putF_le "sorts" (.ref t) (putF "head" .non (putF "wanted" (.str ws) []))
  refine ⟨_, rfl, a, C, dx, _, rfl, by rw [upd_ne nat]; exact upd_same, T.cl, T.ns, by omega, by decide, fun fa hfa => ?_⟩
  have naf : a ≠ fa := ne_of_none upd_same hfa
  have l4 := putF_le "found" (.ref fa) (putF "sorts" (.ref t) (putF "head" .non (putF "wanted" (.str ws) [])))
  refine ⟨_, rfl, a, C, dx, _, rfl, by rw [upd_ne naf]; exact upd_same, T.cl, T.nf, by omega, ?_⟩
  have ht0 : H t = none := by
    rw [upd_ne nat.symm, upd_ne nat.symm] at ht
    exact ht
  have hf0 : H fa = none := by
    rw [upd_ne naf.symm] at hfa
    by_cases e : fa = t
    · rw [e]; exact ht0
    · rw [upd_ne e, upd_ne naf.symm, upd_ne naf.symm] at hfa
      exact hfa
  refine q fa t _ _ upd_same ⟨?_, ?_, ?_, ?_, by omega⟩ (by rw [upd_ne naf.symm]; exact upd_same) naf.symm hf0 (fun b u n z => by rw [upd_ne n, upd_ne (ne_of_none z hf0), upd_ne n, upd_ne (ne_of_none z ht0), upd_ne n, upd_ne n]; exact z)
  · rw [lookup_putF, if_neg nwf, lookup_putF, if_neg nws, lookup_putF, if_neg nwh, lookup_putF, if_pos rfl]
  · rw [lookup_putF, if_neg nhf, lookup_putF, if_neg nhs, lookup_putF, if_pos rfl]
  · rw [lookup_putF, if_neg nsf, lookup_putF, if_pos rfl]
  · rw [lookup_putF, if_pos rfl]
theorem ok_keep {k : Nat} (F : Fun K "keep" "keep" sKeep f fd) (T : CR K mg C) (TB : CB K mg CBr) : FnOk P w K mg base CX0 (k + 1) f fd ["reader", "thing"] (spKeep K C CBr) := by
  refine F.ok scKeep (fun vs H Q E h => ?_) (fun cdv A outer s H vs Q E hr h => ?_)
  · obtain ⟨r, v, bs, d, l, rfl, _⟩ := h
    rfl
  obtain ⟨r, v, bs, d, l, rfl, hR, hd, nd, lf, q⟩ := h
  refine ⟨_, pss_one (ps_if (pt_truth (pe_fld (pv 0) rfl) (by intro _; rfl))
    (pss_one (ps_expr (pe_bm PySem.F.plainAttrs_list PySem.F.slot_list_append PySem.F.type_list_append mt_append (pe_fld (pe_ix ix_list (pe_fld (pv 0) rfl) (pe_un un_neg pe_int) (fun _ _ => rfl)) rfl) (pa_cons (pv 1) pa_nil))))
    (pss_one (ps_fld (pv 0) (pv 1) rfl))), ?_⟩
  obtain ⟨dx, fs, L, t, as, fas, el, h1, h2, h3, h4, h5, h6⟩ := hR.ex
  refine ⟨_, rfl, r, C, dx, fs, _, rfl, h1, T.cl, T.nb, h2.b, _, .inl ⟨_, SqL.of h3, rfl⟩, ?_⟩
  rcases List.eq_nil_or_concat bs with e | ⟨bs0, b, e⟩
  · subst e
    have la := h4.len
    have ea : as = [] := List.length_eq_zero_iff.mp la.1
    have ef : fas = [] := List.length_eq_zero_iff.mp la.2
    subst ea ef el
    refine iteF ⟨_, rfl, _, rfl, r, C, dx, fs, rfl, h1, T.cl, T.nt, by have := h2.n; omega, ?_⟩
    have nrL : r ≠ L := fun z => by
      rw [z] at h1
      rw [h1] at h3
      cases h3
    have o : Off [r] H (upd H r (.ins C dx (putF "tree" v fs))) := Off.put (by simp)
    refine q _ ⟨dx, _, L, v, [], [], rfl, upd_same, h2.tree, by rw [upd_ne nrL.symm]; exact h3, trivial, ⟨Dp.off hd (.cons (nt_ins h1) .nil) nd o, nd⟩, h6⟩ (o.mono fun b hb => by simp at hb; simp [hb])
  · rw [List.concat_eq_append] at e
    subst e
    obtain ⟨as2, fas2, a, fa, rfl, rfl, g1, g2⟩ := h4.unsnoc
    obtain ⟨dx2, fs2, hv, sv, vs, k1, k2, k3, k4, k5, k6, k7⟩ := g2.ex
    have ne : (!((as2 ++ [a]).map V.ref).isEmpty) = true := by simp
    rw [ne]
    have al : atI ((as2 ++ [a]).map V.ref) (-1) = some (.ref a) := by
      rw [List.map_append]
      exact atI_last _ _
    have lb := lf b (by simp)
    refine iteT ⟨_, rfl, r, C, dx, fs, _, rfl, h1, T.cl, T.nb, h2.b, 1, rfl, L, _, -1, .ref a, rfl, rfl, SqL.of h3, al, a, CBr, dx2, fs2, .ref fa, rfl, k1, TB.cl, TB.nf, k2.f, .inl ⟨rfl, _, SqL.of k3⟩, _, rfl, fa, vs, v, rfl, rfl, k3, ?_, ?_⟩
    · have := DpAll.len k4
      exact Nat.lt_of_le_of_lt (by omega : vs.length ≤ 100000) (by decide)
    have o : Off [fa] H (upd H fa (.lst (vs ++ [v]))) := Off.put (by simp)
    have ntf : NT [fa] H := .cons (nt_lst k3) .nil
    have el2 : l = (r :: L :: (as2 ++ [a] ++ fas2)) ++ [fa] := by rw [el]; simp
    have ln := last_new (el2 ▸ h6)
    refine q _ ?_ (o.mono fun b hb => by rw [List.mem_singleton.mp hb, el2]; simp)
    rw [keepP_snoc]
    refine ⟨dx, fs, L, t, as2 ++ [a], fas2 ++ [fa], el, by rw [upd_ne (ln r (by simp))]; exact h1, h2, by rw [upd_ne (ln L (by simp))]; exact h3, ?_, h5, h6⟩
    refine (g1.off ntf o (fun x hx => by simpa using ln x (by simp [hx])) (fun x hx => by simpa using ln x (by simp [hx]))).snoc ?_
    refine ⟨dx2, fs2, hv, sv, vs ++ [v], by rw [upd_ne (ln a (by simp))]; exact k1, k2, upd_same, ?_, ?_, ?_, k7⟩
    · exact DpAll.app (DpAll.off k4 ntf k5 o) (.cons (Dp.off hd ntf nd o) .nil)
    · show nls (b.found ++ [d]) = true
      rw [nls_app, k5]
      simp only [nls, nd, Bool.and_self]
    · show (b.found ++ [d]).length ≤ 8000
      rw [List.length_append, List.length_singleton]
      omega
end
abbrev sClose : Stmt := topS 20
abbrev sHead : Stmt := topS 19
theorem scClose : FnScope ["reader", "bracket", "found", "many"] ["reader"] (defScope sClose) := ⟨rfl, rfl, rfl, by decide +kernel, rfl, by decide +kernel, by decide +kernel⟩
theorem scHead : FnScope ["reader", "word", "bracket", "sorts"] ["reader", "word"] (defScope sHead) := ⟨rfl, rfl, rfl, by decide +kernel, rfl, by decide +kernel, by decide +kernel⟩
/-- one word is read by a reader without a tree -/
def Reads (K : PySem.W.Frag) (C CBr : Addr) (H : Hp) (r : Addr) (l : List Addr) (S : PSt) (Q : VK) : Prop := ∀ H' l', RdAt K C CBr H' r l' S → Off l H H' → (∀ b ∈ l', b ∈ l ∨ H b = none) → Q (.bl true) H'
def spClose (K : PySem.W.Frag) (C CBr : Addr) : Sp := fun vs H Q _ => ∃ r bs s h sl found l, vs = [.ref r] ∧ RdAt K C CBr H r l ⟨bs ++ [⟨s, some (h, sl), found⟩], none⟩ ∧ DoneP sl found ∧ (∀ b ∈ bs, b.found.length < 8000) ∧ Reads K C CBr H r l (keepP bs (.tuple (.str h :: packed sl found))) Q
def spHead (K : PySem.W.Frag) (C CBr : Addr) : Sp := fun vs H Q _ => ∃ r bs s h sl l, vs = [.ref r, .str h] ∧ RdAt K C CBr H r l ⟨bs ++ [⟨s, none, []⟩], none⟩ ∧ (h, sl) ∈ tbS s ∧ h ∉ leafHeads ∧ (116 ∈ sl.cps.toList → bs.length + 1 < 40) ∧ Reads K C CBr H r l ⟨bs ++ [⟨s, some (h, sl), []⟩], none⟩ Q
theorem sorts_last (sl : Str) (ne : sl.cps.toList ≠ []) : ∃ c, atI (sortsV sl) (-1) = some (.str (sortS c)) ∧ sl.cps.toList.getLast? = some c := by
  unfold sortsV
  have e := List.dropLast_concat_getLast ne
  refine ⟨sl.cps.toList.getLast ne, ?_, List.getLast?_eq_some_getLast ne⟩
  generalize sl.cps.toList.getLast ne = c at e
  rw [← e, List.map_append]
  exact atI_last _ _
theorem sortS_s : ∀ c : Nat, (sortS c = "expressions") = (c = 115) := by
  intro c
  unfold sortS
  refine propext ⟨fun h => ?_, fun h => by subst h; rfl⟩
  revert h
  repeat' split
  all_goals first
    | exact fun _ => by assumption
    | exact fun h => absurd h (by decide +kernel)
theorem sl_ne : ∀ p ∈ allL, p.2.cps.toList ≠ [] := by decide +kernel
theorem sl_len : ∀ p ∈ allL, p.2.cps.toList.length ≤ 10 := by decide +kernel
section
variable {P : Program} {w : World} {K : PySem.W.Frag} {mg : Str → Option Value} {base : Heap} {f fK : Addr} {fd dK : FuncData} {C CBr : Addr}
theorem ok_close {k : Nat} (F : Fun K "close_bracket" "close_bracket" sClose f fd) (T : CR K mg C) (TB : CB K mg CBr) (mn : mg "len" = none) (mt : mg "tuple" = none) (GK : Dn P w K mg base 1 "keep" ["reader", "thing"] (spKeep K C CBr) fK dK) :
    FnOk P w K mg base CX0 (k + 2) f fd ["reader"] (spClose K C CBr) := by
  refine F.ok scClose (fun vs H Q E h => ?_) (fun cdv A outer s H vs Q E hr h => ?_)
  · obtain ⟨r, bs, s, h, sl, found, l, rfl, _⟩ := h
    rfl
  obtain ⟨r, bs, st, h, sl, found, l, rfl, hR, hdn, lf, q⟩ := h
  have hr1 : Room 1 _ := hr.mono (by omega)
  refine ⟨_, pss_cons (ps_set (i := 1) scClose.nd rfl (.inl rfl) (pe_bm0 PySem.F.plainAttrs_list PySem.F.slot_list_pop PySem.F.type_list_pop mt_pop (pe_fld (pv 0) rfl)))
    (pss_cons (ps_set (i := 2) scClose.nd rfl (.inl rfl) (pe_fld (pv 1) rfl))
    (C8.pss_cut (ps_if (pt_cmpR op_eq (pe_ix ix_tup (pe_fld (pv 1) rfl) (pe_un un_neg pe_int) (fun _ _ => rfl)) pe_str (nomark _))
      (pss_cons (ps_set (i := 3) scClose.nd rfl (.inl rfl) (pe_op op_sub (pe_callB call_len_seq (by rfl) mn PySem.boot_len (pa_cons (pe_fld (pv 1) rfl) pa_nil)) pe_int))
      (pss_one (ps_set (i := 2) scClose.nd rfl (.inl rfl) (pe_lst (StX.pa_star (pe_slice sl_list (pv 2) po_none (po_some (pv 3))) (pa_cons (pe_callTy call_tuple_of (by rfl) mt b_tup (pa_cons (pe_slice sl_list (pv 2) (po_some (pv 3)) po_none) pa_nil)) pa_nil)))))) pss_nil)
    (pss_cons (ps_expr (pe_call GK.ok hr1 (by rfl) GK.mg GK.kp GK.bd .nil pass0 (pa_cons (pv 0) (pa_cons (pe_tup (pa_cons (pe_fld (pv 1) rfl) (StX.pa_star (pv 2) pa_nil))) pa_nil))))
    (pss_one (ps_ret pe_bl))))), ?_⟩
  obtain ⟨dx, fs, L, t, as, fas, el, h1, h2, h3, h4, h5, h6⟩ := hR.ex
  obtain ⟨as2, fas2, a, fa, rfl, rfl, g1, g2⟩ := h4.unsnoc
  obtain ⟨dx2, fs2, hv, sv, vs, k1, k2, k3, k4, k5, k6, k7⟩ := g2.ex
  obtain ⟨rfl, mm, sa, rfl, sq⟩ := k7
  have k4 : DpAll K H vs found := k4
  have k5 : nls found = true := k5
  have k6 : found.length ≤ 8000 := k6
  have mm : (h, sl) ∈ tbS st := mm
  have h3' : H L = some (.lst (as2.map V.ref ++ [.ref a])) := by rw [h3, List.map_append]; rfl
  refine ⟨_, rfl, r, C, dx, fs, _, rfl, h1, T.cl, T.nb, h2.b, .inl ⟨rfl, _, SqL.of h3'⟩, L, _, .ref a, rfl, rfl, h3', last_at _ _, ?_⟩
  rw [drop_last]
  have o1 : Off [L] H (upd H L (.lst (as2.map V.ref))) := Off.put (by simp)
  have ntL : NT [L] H := .cons (nt_lst h3) .nil
  have nd := h6
  rw [el] at nd
  have nL : ∀ x ∈ r :: (as2 ++ [a] ++ (fas2 ++ [fa])), x ≠ L := by
    have e : (L :: r :: (as2 ++ [a] ++ (fas2 ++ [fa]))).Nodup := (List.Perm.nodup_iff (List.Perm.swap _ _ _)).mp nd
    intro x hx z
    rw [z] at hx
    exact (List.nodup_cons.mp e).1 hx
  have w1 : (upd H L (.lst (as2.map V.ref))) L = some (.lst (as2.map V.ref)) := upd_same
  have r1 : (upd H L (.lst (as2.map V.ref))) r = some (.ins C dx fs) := by rw [upd_ne (nL r (by simp))]; exact h1
  have a1 : (upd H L (.lst (as2.map V.ref))) a = some (.ins CBr dx2 fs2) := by rw [upd_ne (nL a (by simp))]; exact k1
  have f1 : (upd H L (.lst (as2.map V.ref))) fa = some (.lst vs) := by rw [upd_ne (nL fa (by simp))]; exact k3
  have d1 : DpAll K (upd H L (.lst (as2.map V.ref))) vs found := DpAll.off k4 ntL k5 o1
  have R1 : RdAt K C CBr (upd H L (.lst (as2.map V.ref))) r (r :: L :: (as2 ++ fas2)) ⟨bs, none⟩ := by
    refine ⟨dx, fs, L, t, as2, fas2, rfl, r1, h2, w1, g1.off ntL o1 (fun x hx => by simpa using nL x (by simp [hx])) (fun x hx => by simpa using nL x (by simp [hx])), h5, ?_⟩
    refine List.Nodup.sublist ?_ nd
    refine .cons_cons _ (.cons_cons _ ?_)
    exact List.Sublist.append (List.sublist_append_left _ _) (List.sublist_append_left _ _)
  generalize upd H L (.lst (as2.map V.ref)) = H1 at *
  have ne := sl_ne _ (tbS_all _ mm)
  have lsl := sl_len _ (tbS_all _ mm)
  simp only at ne lsl
  obtain ⟨c, al, gl⟩ := sorts_last sl ne
  have lvs := DpAll.len d1
  refine ⟨_, rfl, a, CBr, dx2, fs2, _, rfl, a1, TB.cl, TB.nf, k2.f, ?_⟩
  refine ⟨fun σ H2 => ∃ fo m xs, σ = [some (.ref r), some (.ref a), some (.ref fo), m] ∧ H2 fo = some (.lst xs) ∧ DpAll K H2 xs (packed sl found) ∧ Same H1 H2, ?_, ?_⟩
  · refine ⟨_, rfl, a, CBr, dx2, fs2, _, rfl, a1, TB.cl, TB.ns, k2.s, 1, rfl, sa, _, -1, _, rfl, rfl, sq H1, al, rfl, _, rfl, ite2 (fun cc => ?_) (fun cc => ?_)⟩
    · have c115 : c = 115 := by
        have z : sortS c = "expressions" := V.str.inj (of_decide_eq_true cc)
        rw [sortS_s] at z
        exact z
      subst c115
      have ls : (sortsV sl).length = sl.cps.toList.length := by simp [sortsV]
      have hdn2 : sl.cps.toList.length - 1 ≤ found.length := by
        unfold DoneP at hdn
        rw [if_pos gl] at hdn
        exact hdn
      have pos : 1 ≤ sl.cps.toList.length := List.length_pos_iff.mpr ne
      refine ⟨_, rfl, a, CBr, dx2, fs2, _, rfl, a1, TB.cl, TB.ns, k2.s, sa, _, rfl, .inr (sq H1), _, _, rfl, rfl, ?_⟩
      rw [ls]
      have ez : ((sl.cps.toList.length : Nat) : Int) - 1 = ((sl.cps.toList.length - 1 : Nat) : Int) := by omega
      refine ⟨_, rfl, _, rfl, _, rfl, fa, vs, rfl, SqL.of f1, fun p1 hp1 => ⟨p1, _, rfl, .inr (SqL.of upd_same), ?_⟩⟩
      have s1 : Same H1 (upd H1 p1 (.lst (cutV vs none (some (((sl.cps.toList.length : Nat) : Int) - 1))))) := same_new hp1 _
      refine ⟨_, rfl, _, rfl, _, rfl, fa, vs, rfl, SqL.of (s1 _ _ f1), fun p2 hp2 => ⟨p2, _, rfl, .inl ⟨SqL.of upd_same, fun t1 ht1 => ⟨?_, fun fo hfo => ?_⟩⟩⟩⟩
      · rw [List.length_append]
        have := cutV_length vs none (some (((sl.cps.toList.length : Nat) : Int) - 1))
        exact few2 (by simp only [List.length_cons, List.length_nil]; omega)
      · have s2 := s1.trans (same_new (o := .lst (cutV vs (some (((sl.cps.toList.length : Nat) : Int) - 1)) none)) hp2)
        have s3 := s2.trans (same_new (o := .tup (cutV vs (some (((sl.cps.toList.length : Nat) : Int) - 1)) none)) ht1)
        have s4 := s3.trans (same_new (o := .lst (cutV vs none (some (((sl.cps.toList.length : Nat) : Int) - 1)) ++ [V.ref t1])) hfo)
        have ntf : t1 ≠ fo := ne_of_none upd_same hfo
        refine ⟨fo, _, _, rfl, upd_same, ?_, s4⟩
        unfold packed
        rw [if_pos gl, ez, cutV_take vs (by omega) (by omega), cutV_drop vs (by omega) (by omega), Int.toNat_natCast]
        have dd := Dp.ups s4 _ _ d1
        rw [ez, cutV_take vs (by omega) (by omega), cutV_drop vs (by omega) (by omega), Int.toNat_natCast] at dd
        refine DpAll.app (DpAll.parts dd _).1 (.cons (.tup (.inl (.inl (by rw [upd_ne ntf]; exact upd_same))) (DpAll.parts dd _).2) .nil)
    · have n115 : ¬ sl.cps.toList.getLast? = some 115 := fun z => cc (decide_eq_true (by
        rw [gl] at z
        rw [Option.some.inj z, V.str.injEq]
        decide +kernel))
      refine ⟨fa, _, vs, rfl, f1, ?_, Same.refl _⟩
      unfold packed
      rw [if_neg n115]
      exact d1
  · rintro σ H2 ⟨fo, m, xs, rfl, q1, q2, q3⟩
    have lp : (packed sl found).length ≤ 8001 := by
      unfold packed
      split
      · simp only [List.length_append, List.length_take, List.length_cons, List.length_nil]
        omega
      · omega
    have lxs := DpAll.len q2
    refine ⟨_, rfl, _, rfl, a, CBr, dx2, fs2, _, rfl, q3 _ _ a1, TB.cl, TB.nh, k2.h, _, rfl, fo, xs, rfl, .inr (SqL.of q1), ?_, fun T1 hT1 => ?_⟩
    · exact few2 (by simp only [List.length_cons, List.length_append, List.length_nil]; omega)
    have s4 : Same H2 (upd H2 T1 (.tup (V.str h :: (xs ++ [])))) := same_new hT1 _
    have q2' : DpAll K H2 (xs ++ []) (packed sl found) := by
      rw [List.append_nil]
      exact q2
    have nlp : nls (packed sl found) = true := by
      unfold packed
      split
      · have z := congrArg nls (List.take_append_drop (sl.cps.toList.length - 1) found)
        rw [nls_app, k5, Bool.and_eq_true] at z
        rw [nls_app, z.1]
        simp only [nls, nl, z.2, Bool.and_self]
      · exact k5
    refine ⟨r, .ref T1, bs, .tuple (.str h :: packed sl found), _, rfl, R1.same (q3.trans s4), .tup (xs := .str h :: (xs ++ [])) (.inl (.inl upd_same)) (.cons (.str h) (Dp.ups s4 _ _ q2')), by simp only [nl, nls, nlp, Bool.and_self], lf, fun H' R' o' => ?_⟩
    have sub : ∀ b ∈ r :: L :: (as2 ++ fas2), b ∈ l := fun b hb => by
      rw [el]
      simp only [List.mem_cons, List.mem_append] at hb ⊢
      rcases hb with z | z | z | z
      · exact .inl z
      · exact .inr (.inl z)
      · exact .inr (.inr (.inl (.inl z)))
      · exact .inr (.inr (.inr (.inl z)))
    refine q H' _ R' ?_ fun b hb => .inl (sub b hb)
    exact (o1.mono fun b hb => by rw [List.mem_singleton.mp hb, el]; simp).trans ((Off.of (q3.trans s4)).trans (o'.mono sub))
theorem ok_head {k : Nat} {fS : Addr} {dS : FuncData} (F : Fun K "read_head" "read_head" sHead f fd) (T : CR K mg C) (TB : CB K mg CBr) (mn : mg "len" = none) {tk : Tok} (mM : mg "MOST_BRACKETS" = some (.int 40 tk)) (GS : Dn P w K mg base 1 "sorts_behind" ["word", "wanted"] (spSorts K) fS dS) :
    FnOk P w K mg base CX0 (k + 2) f fd ["reader", "word"] (spHead K C CBr) := by
  refine F.ok scHead (fun vs H Q E h => ?_) (fun cdv A outer s H vs Q E hr h => ?_)
  · obtain ⟨r, bs, s, h, sl, l, rfl, _⟩ := h
    rfl
  obtain ⟨r, bs, st, h, sl, l, rfl, hR, m, n, lt, q⟩ := h
  have hr1 : Room 1 _ := hr.mono (by omega)
  refine ⟨_, pss_cons (ps_set (i := 2) scHead.nd rfl (.inl rfl) (pe_ix ix_list (pe_fld (pv 0) rfl) (pe_un un_neg pe_int) (fun _ _ => rfl)))
    (pss_cons (ps_set (i := 3) scHead.nd rfl (.inl rfl) (pe_call GS.ok hr1 (by rfl) GS.mg GS.kp GS.bd .nil pass0 (pa_cons (pv 1) (pa_cons (pe_fld (pv 2) rfl) pa_nil))))
    (pss_cons (ps_if (PW.pt (pw_or (pt_cmp (pc_isN (pv 3))) (pw_or1 (pt_cmpR op_in_seq (pv 1) (pe_tup (pa_cons pe_str (pa_cons pe_str (pa_cons pe_str pa_nil)))) rfl)))) (pss_one (ps_ret pe_bl)) pss_nil)
    (pss_cons (ps_if (PW.pt (pw_and (pt_cmpR op_in_seq pe_str (pv 3) rfl) (pw_and1 (pt_cmpR op_eq (pe_callB call_len_seq (by rfl) mn PySem.boot_len (pa_cons (pe_fld (pv 0) rfl) pa_nil)) (pe_glob (by rfl) mM (v := .int 40) ⟨_, rfl⟩) (nomark _))))) (pss_one (ps_ret pe_bl)) pss_nil)
    (pss_cons (ps_fld (pv 2) (pv 1) rfl)
    (pss_cons (ps_fld (pv 2) (pv 3) rfl)
    (pss_one (ps_ret pe_bl))))))), ?_⟩
  obtain ⟨dx, fs, L, t, as, fas, el, h1, h2, h3, h4, h5, h6⟩ := hR.ex
  have lbs := h4.len
  obtain ⟨as2, fas2, a, fa, rfl, rfl, g1, g2⟩ := h4.unsnoc
  obtain ⟨dx2, fs2, hv, sv, vs, k1, k2, k3, k4, k5, k6, k7⟩ := g2.ex
  have al : atI ((as2 ++ [a]).map V.ref) (-1) = some (.ref a) := by
    rw [List.map_append]
    exact atI_last _ _
  have mA := tbS_all _ m
  have ew : wantedS st = wantS h := by
    unfold wantS
    cases st with
    | true =>
      have z := isT_t _ (show (h, sl) ∈ teL from m)
      simp only at z
      rw [z]
      rfl
    | false =>
      have z := isT_e _ (show (h, sl) ∈ exL from m)
      simp only at z
      rw [z]
      rfl
  have lsl := sl_len _ mA
  simp only at lsl
  have ls : (sortsV sl).length = sl.cps.toList.length := by simp [sortsV]
  have inS : inV (.str "test") (sortsV sl) = decide (116 ∈ sl.cps.toList) := by
    unfold sortsV
    generalize sl.cps.toList = cs
    induction cs with
    | nil => rfl
    | cons c cs ih =>
      have e1 : inV (.str "test") ((c :: cs).map fun c => V.str (sortS c)) = (eqV (.str (sortS c)) (.str "test") || inV (.str "test") (cs.map fun c => V.str (sortS c))) := rfl
      rw [e1, ih]
      have e2 : eqV (.str (sortS c)) (.str "test") = decide (c = 116) := by
        show (sortS c == ("test" : Str)) = _
        by_cases z : c = 116
        · subst z
          decide +kernel
        · rw [decide_eq_false z]
          refine beq_eq_false_iff_ne.mpr ?_
          unfold sortS
          repeat' split
          all_goals first
            | exact absurd (by assumption) z
            | decide +kernel
      rw [e2]
      by_cases z : c = 116
      · rw [z]
        simp
      · rw [decide_eq_false z, Bool.false_or]
        by_cases y : 116 ∈ cs
        · rw [decide_eq_true y, decide_eq_true (List.mem_cons_of_mem _ y)]
        · rw [decide_eq_false y, decide_eq_false (fun x => (List.mem_cons.mp x).elim (fun q => z q.symm) y)]
  refine ⟨_, rfl, r, C, dx, fs, _, rfl, h1, T.cl, T.nb, h2.b, 1, rfl, L, _, -1, .ref a, rfl, rfl, SqL.of h3, al, ?_⟩
  refine ⟨_, rfl, _, rfl, a, CBr, dx2, fs2, _, rfl, k1, TB.cl, TB.nw, k2.w, h, sl, by rw [← ew]; rfl, mA, fun sa sq => ?_⟩
  refine ⟨_, rfl, _, rfl, ?_⟩
  refine iteF ?_
  refine ⟨_, rfl, few (by simp), fun T1 hT1 => ⟨T1, _, rfl, .inr (.inl (.inl upd_same)), rfl, rfl, _, rfl, ite2 (fun cc => ?_) (fun cc => ?_)⟩⟩
  · exfalso
    apply n
    simp only [inV, List.any_cons, List.any_nil, eqV, Bool.or_false, Bool.or_eq_true, beq_iff_eq, Bool.false_eq_true, if_false] at cc
    unfold leafHeads
    simp only [List.mem_cons, List.not_mem_nil, or_false]
    rcases cc with z | z | z
    · exact .inl z.symm
    · exact .inr (.inr z.symm)
    · exact .inr (.inl z.symm)
  · have s1 : Same H (upd H T1 (.tup [.str "int", .str "atom", .str "name"])) := same_new hT1 _
    generalize upd H T1 (.tup [.str "int", .str "atom", .str "name"]) = H1 at s1
    have r1 := s1 _ _ h1
    have L1 := s1 _ _ h3
    have a1 := s1 _ _ k1
    have fl : (sortsV sl).all flatV = true := by
      unfold sortsV
      rw [List.all_map]
      exact List.all_eq_true.mpr fun _ _ => rfl
    have nd := h6
    rw [el] at nd
    have na : ∀ x, (x = r ∨ x = L ∨ x ∈ as2 ∨ x ∈ fas2 ∨ x = fa) → x ≠ a := by
      have e : (r :: L :: (as2 ++ [a] ++ (fas2 ++ [fa]))).Perm ((r :: L :: (as2 ++ (fas2 ++ [fa]))) ++ [a]) := by
        simp only [List.cons_append, List.append_assoc]
        exact .cons _ (.cons _ (List.Perm.append_left _ (by simpa using (List.perm_append_comm (l₁ := [a]) (l₂ := fas2 ++ [fa])))))
      have ln := last_new ((List.Perm.nodup_iff e).mp nd)
      intro x hx
      exact ln x (by simp only [List.mem_cons, List.mem_append, List.not_mem_nil, or_false]; rcases hx with z | z | z | z | z <;> simp [z])
    have o2 : Off [a] H1 (upd (upd H1 a (.ins CBr dx2 (putF "head" (.str h) fs2))) a (.ins CBr dx2 (putF "sorts" (.ref sa) (putF "head" (.str h) fs2)))) := (Off.put (by simp)).trans (Off.put (by simp))
    have ntA : NT [a] H1 := .cons (nt_ins a1) .nil
    have fin : RdAt K C CBr (upd (upd H1 a (.ins CBr dx2 (putF "head" (.str h) fs2))) a (.ins CBr dx2 (putF "sorts" (.ref sa) (putF "head" (.str h) fs2)))) r l ⟨bs ++ [⟨st, some (h, sl), []⟩], none⟩ := by
      refine ⟨dx, fs, L, t, as2 ++ [a], fas2 ++ [fa], el, o2.get r1 (by simpa using na r (by simp)), h2, o2.get L1 (by simpa using na L (by simp)), ?_, h5, h6⟩
      have g1' : BrsAt K CBr H1 as2 fas2 bs := g1.off (l := []) .nil (Off.of s1) (fun _ _ z => nomatch z) (fun _ _ z => nomatch z)
      refine (g1'.off ntA o2 (fun x hx => by simpa using na x (by simp [hx])) (fun x hx => by simpa using na x (by simp [hx]))).snoc ?_
      exact ⟨dx2, _, .str h, .ref sa, vs, upd_same, (k2.head).sorts, o2.get (s1 _ _ k3) (by simpa using na fa (by simp)), DpAll.off (Dp.ups s1 _ _ k4) ntA k5 o2, k5, k6, rfl, m, sa, rfl, sq⟩
    have q' := q _ l fin ((Off.of s1).trans (o2.mono fun b hb => by rw [List.mem_singleton.mp hb, el]; simp)) fun b hb => .inl hb
    have n1 : fs2.length < 1000 := by have := k2.n; omega
    have n2 : (putF "head" (V.str h) fs2).length < 1000 := by have := (k2.head (v := .str h)).n; omega
    have la2 : ((as2 ++ [a]).map V.ref).length = bs.length + 1 := by
      rw [List.length_map]
      have := lbs.1
      simpa using this
    refine ⟨_, rfl, sa, _, rfl, .inr (sq H1), rfl, fl, _, rfl, ite2 (fun c => ⟨_, rfl, r, C, dx, fs, _, rfl, r1, T.cl, T.nb, h2.b, L, _, rfl, .inl (SqL.of L1), rfl, _, rfl, ?_⟩) (fun c => iteF ?_)⟩
    · have c2 : inV (.str "test") (sortsV sl) = true := c
      rw [inS] at c2
      have := lt (of_decide_eq_true c2)
      rw [la2]
      have e : decide (V.int ((bs.length + 1 : Nat) : Int) = V.int 40) = false := decide_eq_false fun z => by
        have := V.int.inj z
        omega
      rw [e]
      refine iteF ⟨_, rfl, _, rfl, a, CBr, dx2, fs2, rfl, a1, TB.cl, TB.nh, n1, _, rfl, _, rfl, a, CBr, dx2, _, rfl, upd_same, TB.cl, TB.ns, n2, q'⟩
    · exact ⟨_, rfl, _, rfl, a, CBr, dx2, fs2, rfl, a1, TB.cl, TB.nh, n1, _, rfl, _, rfl, a, CBr, dx2, _, rfl, upd_same, TB.cl, TB.ns, n2, q'⟩
end
/-! words alone: numbers, names, kinds -/
abbrev sName : Stmt := topS 4
abbrev sNum : Stmt := topS 24
abbrev sCan : Stmt := topS 23
abbrev sLeaf : Stmt := topS 25
theorem scName : FnScope ["thing", "letter"] ["thing"] (defScope sName) := ⟨rfl, rfl, rfl, by decide +kernel, rfl, by decide +kernel, by decide +kernel⟩
theorem scNum : FnScope ["word", "digits", "digit"] ["word"] (defScope sNum) := ⟨rfl, rfl, rfl, by decide +kernel, rfl, by decide +kernel, by decide +kernel⟩
theorem scCan : FnScope ["word", "sort"] ["word", "sort"] (defScope sCan) := ⟨rfl, rfl, rfl, by decide +kernel, rfl, by decide +kernel, by decide +kernel⟩
theorem scLeaf : FnScope ["word"] ["word"] (defScope sLeaf) := ⟨rfl, rfl, rfl, by decide +kernel, rfl, by decide +kernel, by decide +kernel⟩
def digOk (c : Nat) : Bool := decide (48 ≤ c) && decide (c ≤ 57)
def digsOf : List Nat → List Nat
  | 45 :: r => r
  | cs => cs
def isNum (x : Str) : Bool := decide (1 ≤ (digsOf x.cps.toList).length) && decide ((digsOf x.cps.toList).length ≤ 18) && (digsOf x.cps.toList).all digOk && (decide ((digsOf x.cps.toList).head? ≠ some 48) || decide (x = "0"))
theorem cps_0 : (("0" : Str)).cps.toList = [48] := by decide +kernel
theorem cps_9 : (("9" : Str)).cps.toList = [57] := by decide +kernel
theorem ge_0 (c : Nat) : (!decide ((⟨#[c]⟩ : Str).cps.toList < ("0" : Str).cps.toList)) = decide (48 ≤ c) := by
  rw [cps_0]
  by_cases h : 48 ≤ c
  · have : ¬ ((⟨#[c]⟩ : Str).cps.toList < [48]) := fun z => by
      have := (one_lt c 48).mp z
      omega
    rw [decide_eq_false this, decide_eq_true h]
    rfl
  · have : ((⟨#[c]⟩ : Str).cps.toList < [48]) := (one_lt c 48).mpr (by omega)
    rw [decide_eq_true this, decide_eq_false h]
    rfl
theorem le_9 (c : Nat) : (!decide (("9" : Str).cps.toList < (⟨#[c]⟩ : Str).cps.toList)) = decide (c ≤ 57) := by
  rw [cps_9]
  by_cases h : c ≤ 57
  · have : ¬ (([57] : List Nat) < (⟨#[c]⟩ : Str).cps.toList) := fun z => by
      have := (one_lt 57 c).mp z
      omega
    rw [decide_eq_false this, decide_eq_true h]
    rfl
  · have : (([57] : List Nat) < (⟨#[c]⟩ : Str).cps.toList) := (one_lt 57 c).mpr (by omega)
    rw [decide_eq_true this, decide_eq_false h]
    rfl
theorem cps_minus : (("-" : Str)).cps.toList = [45] := by decide +kernel
theorem str_ext {x y : Str} (h : x.cps.toList = y.cps.toList) : x = y := by
  cases x
  cases y
  exact congrArg _ (Array.toList_inj.mp h)
theorem rp_minus (x : Str) : Txt.removeprefix x "-" = ⟨(digsOf x.cps.toList).toArray⟩ := by
  unfold Txt.removeprefix
  have e1 := PySem.StrLaws.subAt_eq x "-" 0
  have l1 : ("-" : Str).length = 1 := by decide +kernel
  rw [l1, cps_minus, List.drop_zero] at e1
  rw [e1, l1]
  cases h : x.cps.toList with
  | nil =>
    rw [show (([] : List Nat).take 1 == [45]) = false by decide]
    refine str_ext ?_
    exact h
  | cons c r =>
    by_cases c45 : c = 45
    · subst c45
      rw [show ((45 :: r).take 1 == [45]) = true by simp]
      have lx : x.length = r.length + 1 := by
        rw [len_cps, ← Array.length_toList, h]
        rfl
      refine str_ext ?_
      simp only [if_true, Txt.affix]
      rw [if_neg (by simp [lx])]
      show (x.cps.extract 1 x.length).toList = r
      rw [Array.toList_extract, h]
      simp [lx]
    · rw [show ((c :: r).take 1 == [45]) = false by simp [c45]]
      refine str_ext ?_
      have : digsOf (c :: r) = c :: r := by
        unfold digsOf
        split
        · rename_i z
          exact absurd (List.cons.inj z).1 c45
        · rfl
      rw [this]
      exact h
theorem isNm_fst {x : Str} (h : isNm x = true) : ∃ c r, x.cps.toList = c :: r ∧ 97 ≤ c ∧ c ≤ 122 ∧ x.length ≤ 8 := by
  unfold isNm at h
  simp only [Bool.and_eq_true, decide_eq_true_eq] at h
  obtain ⟨⟨h1, h2⟩, h3⟩ := h
  cases e : x.cps.toList with
  | nil =>
    rw [len_cps, ← Array.length_toList, e] at h1
    cases h1
  | cons c r =>
    rw [e, List.all_cons, Bool.and_eq_true] at h3
    unfold lowOk at h3
    simp only [Bool.and_eq_true, decide_eq_true_eq] at h3
    exact ⟨c, r, rfl, h3.1.1, h3.1.2, h2⟩
/-- no number begins so -/
theorem not_num {x : Str} {c : Nat} {r : List Nat} (e : x.cps.toList = c :: r) (n1 : c ≠ 45) (n2 : ¬ (48 ≤ c ∧ c ≤ 57)) : isNum x = false := by
  have d : digsOf (c :: r) = c :: r := by
    unfold digsOf
    split
    · rename_i z
      exact absurd (List.cons.inj z).1 n1
    · rfl
  have f : digOk c = false := by
    unfold digOk
    by_cases a : 48 ≤ c
    · rw [decide_eq_true a, decide_eq_false (fun b => n2 ⟨a, b⟩)]
      rfl
    · rw [decide_eq_false a]
      rfl
  unfold isNum
  rw [e, d, List.all_cons, f, Bool.false_and, Bool.and_false, Bool.false_and]
theorem digits_all (m : Nat) : ∀ c ∈ (Nat.toDigits 10 m).map Char.toNat, 48 ≤ c ∧ c ≤ 57 := by
  intro c hc
  obtain ⟨ch, hch, e⟩ := List.mem_map.mp hc
  have r := digit_range (Nat.isDigit_of_mem_toDigits (by decide) (by decide) hch)
  rw [← e]
  exact r
theorem toDigits_lead (m : Nat) (h : m ≠ 0) : ((Nat.toDigits 10 m).map Char.toNat).head? ≠ some 48 := by
  induction m using Nat.strongRecOn with
  | _ m ih =>
    by_cases h10 : m < 10
    · rw [Nat.toDigits_of_lt_base h10]
      have : ∀ d : Nat, d < 10 → d ≠ 0 → (([Nat.digitChar d].map Char.toNat).head? ≠ some 48) := by decide
      exact this m h10 h
    · have hm : m % 10 < 10 := Nat.mod_lt m (by decide)
      have t : Nat.toDigits 10 (m / 10) ++ Nat.toDigits 10 (m % 10) = Nat.toDigits 10 (10 * (m / 10) + m % 10) := Nat.toDigits_append_toDigits (by decide) (by omega) hm
      rw [Nat.div_add_mod] at t
      rw [← t, List.map_append]
      have ne : (Nat.toDigits 10 (m / 10)).map Char.toNat ≠ [] := fun z => by
        have q := ih (m / 10) (by omega) (by omega)
        have e := List.map_eq_nil_iff.mp z
        have := Nat.length_toDigits_pos (b := 10) (n := m / 10)
        rw [e] at this
        exact absurd this (by decide)
      have q := ih (m / 10) (by omega) (by omega)
      cases hx : (Nat.toDigits 10 (m / 10)).map Char.toNat with
      | nil => exact absurd hx ne
      | cons a r =>
        rw [hx] at q
        exact q
theorem digits_len (m : Nat) (h : m < 10 ^ 18) : 1 ≤ ((Nat.toDigits 10 m).map Char.toNat).length ∧ ((Nat.toDigits 10 m).map Char.toNat).length ≤ 18 := by
  rw [List.length_map]
  refine ⟨Nat.length_toDigits_pos, ?_⟩
  exact (Nat.length_toDigits_le_iff (by decide) (by decide)).mpr h
theorem txt_nat (m : Nat) : (txt (.int ((m : Nat) : Int))).cps.toList = (Nat.toDigits 10 m).map Char.toNat := PySem.W.KIN.signs_num m
theorem txt_neg (m : Nat) : (txt (.int (-((m + 1 : Nat) : Int)))).cps.toList = 45 :: (Nat.toDigits 10 (m + 1)).map Char.toNat := by
  show (Str.ofString (toString (-((m + 1 : Nat) : Int)))).cps.toList = _
  rw [signs_ofString]
  have e : toString (-((m + 1 : Nat) : Int)) = "-" ++ Nat.repr (m + 1) := rfl
  rw [e, String.toList_append, List.map_append, Nat.toList_repr]
  rfl
/-- what an integer's text is like -/
structure NumT (i : Int) (x : Str) : Prop where
  nm : isNum x = true
  rd : PySem.intText? x = some i
  ln : x.length ≤ 19
  p : 1 ≤ x.length
  lo : ∀ c ∈ x.cps.toList, c = 45 ∨ (48 ≤ c ∧ c ≤ 57)
  ng : 0 ≤ i → x.cps.toList.head? ≠ some 45
theorem num_txt {i : Int} (h : i.natAbs < 10 ^ 18) : NumT i (txt (.int i)) := by
  have dok : ∀ m : Nat, ((Nat.toDigits 10 m).map Char.toNat).all digOk = true := fun m => by
    refine List.all_eq_true.mpr fun c hc => ?_
    have := digits_all m c hc
    unfold digOk
    rw [decide_eq_true this.1, decide_eq_true this.2]
    rfl
  by_cases hi : i < 0
  · obtain ⟨m, rfl⟩ : ∃ m : Nat, i = -((m + 1 : Nat) : Int) := ⟨i.natAbs - 1, by omega⟩
    have hm : m + 1 < 10 ^ 18 := by omega
    have e := txt_neg m
    obtain ⟨l1, l2⟩ := digits_len (m + 1) hm
    have ld := toDigits_lead (m + 1) (by omega)
    have da := digits_all (m + 1)
    have vb := PySem.W.KIN.val_back (m + 1)
    have dk := dok (m + 1)
    generalize (Nat.toDigits 10 (m + 1)).map Char.toNat = ds at e l1 l2 ld da vb dk
    have lx : (txt (.int (-((m + 1 : Nat) : Int)))).length = ds.length + 1 := by
      rw [len_cps, ← Array.length_toList, e]
      rfl
    refine ⟨?_, ?_, by omega, by omega, ?_, fun z => by omega⟩
    · unfold isNum
      rw [e]
      show (decide (1 ≤ ds.length) && decide (ds.length ≤ 18) && ds.all digOk && (decide (ds.head? ≠ some 48) || _)) = true
      rw [decide_eq_true l1, decide_eq_true l2, dk, decide_eq_true ld]
      rfl
    · have z := PySem.intText_neg e da (fun z => by rw [z] at l1; cases l1) (by omega)
      rw [vb] at z
      exact z
    · rw [e]
      intro c hc
      rcases List.mem_cons.mp hc with z | z
      · exact .inl z
      · exact .inr (da c z)
  · obtain ⟨m, rfl⟩ := Int.eq_ofNat_of_zero_le (show 0 ≤ i by omega)
    have hm : m < 10 ^ 18 := by omega
    have e := txt_nat m
    obtain ⟨l1, l2⟩ := digits_len m hm
    have ld := toDigits_lead m
    have da := digits_all m
    have vb := PySem.W.KIN.val_back m
    have dk := dok m
    have e0 : m = 0 → txt (.int ((m : Nat) : Int)) = "0" := fun z => by subst z; decide +kernel
    generalize (Nat.toDigits 10 m).map Char.toNat = ds at e l1 l2 ld da vb dk
    have lx : (txt (.int ((m : Nat) : Int))).length = ds.length := by
      rw [len_cps, ← Array.length_toList, e]
    have dd : digsOf ds = ds := by
      cases ds with
      | nil => rfl
      | cons c r =>
        have := da c List.mem_cons_self
        unfold digsOf
        split
        · rename_i z
          have := (List.cons.inj z).1
          omega
        · rfl
    refine ⟨?_, ?_, by omega, by omega, ?_, fun _ => ?_⟩
    · unfold isNum
      rw [e, dd, decide_eq_true l1, decide_eq_true l2, dk]
      by_cases z : m = 0
      · rw [decide_eq_true (e0 z), Bool.or_true]
        rfl
      · rw [decide_eq_true (ld z)]
        rfl
    · have z := PySem.intText_digits (x := txt (.int ((m : Nat) : Int))) (by rw [e]; exact da) (by rw [e]; exact fun z => by rw [z] at l1; cases l1) (by omega)
      rw [e, vb] at z
      exact z
    · rw [e]
      exact fun c hc => .inr (da c hc)
    · rw [e]
      cases ds with
      | nil => exact fun z => nomatch z
      | cons c r =>
        have := da c List.mem_cons_self
        intro z
        have := Option.some.inj z
        omega
theorem sg_one (c k : Nat) : ((⟨#[c]⟩ : Str) = ⟨#[k]⟩) ↔ c = k := by
  refine ⟨fun h => ?_, fun h => by rw [h]⟩
  have h2 := congrArg (fun z : Str => z.cps.toList) h
  simpa using h2
theorem ch_minus : ("-" : Str) = ⟨#[45]⟩ := by decide +kernel
theorem ch_quote : ("'" : Str) = ⟨#[39]⟩ := by decide +kernel
theorem ch_zero : ("0" : Str) = ⟨#[48]⟩ := by decide +kernel
theorem iteT' {b : Bool} {p q : Prop} (h : b = true) (x : p) : if b = true then p else q := by
  rw [if_pos h]
  exact x
theorem iteF' {b : Bool} {p q : Prop} (h : b = false) (x : q) : if b = true then p else q := by
  rw [if_neg (by rw [h]; decide)]
  exact x
theorem isNm_num {x : Str} (h : isNm x = true) : isNum x = false := by
  obtain ⟨c, r, e, a1, a2, _⟩ := isNm_fst h
  exact not_num e (by omega) (by omega)
theorem cps_cat (x y : Str) : (x ++ y).cps.toList = x.cps.toList ++ y.cps.toList := TL.tl_append x y
theorem cps_q : (("'" : Str)).cps.toList = [39] := by decide +kernel
/-- a word behind a quote -/
theorem q_head (y : Str) : cutS ("'" ++ y) none (some 1) = "'" ∧ cutS ("'" ++ y) (some 1) none = y ∧ isNum ("'" ++ y) = false ∧ isNm ("'" ++ y) = false ∧ ("'" ++ y : Str).length = y.length + 1 ∧ ("'" ++ y : Str).cps.toList = 39 :: y.cps.toList := by
  have e : ("'" ++ y : Str).cps.toList = 39 :: y.cps.toList := by
    rw [cps_cat, cps_q]
    rfl
  have l : ("'" ++ y : Str).length = y.length + 1 := by
    rw [len_cps, ← Array.length_toList, e, List.length_cons, Array.length_toList]
    rfl
  have i1 : ∀ d : Nat, HT.sIx (y.length + 1) d (some 1) = 1 := fun d => by
    rw [show (1 : Int) = ((1 : Nat) : Int) from rfl, HT.sIx_nat]
    omega
  refine ⟨str_ext ?_, str_ext ?_, not_num e (by decide) (by decide), ?_, l, e⟩
  · unfold cutS
    rw [l, i1, e, cps_q]
    rfl
  · unfold cutS
    rw [l, i1, e]
    have : HT.sIx (y.length + 1) (y.length + 1) none = y.length + 1 := rfl
    rw [this]
    show (List.take y.cps.size y.cps.toList) = _
    exact List.take_of_length_le (by simp)
  · cases h : isNm ("'" ++ y) with
    | false => rfl
    | true =>
      obtain ⟨c, r, e1, a1, a2, _⟩ := isNm_fst h
      rw [e] at e1
      have := (List.cons.inj e1).1
      omega
theorem leaf_word {d : PyData} {x : Str} (h : LeafT d) (e : [x] = leafWords d) : (∃ i, d = .tuple [.str "int", .int i] ∧ NumT i x) ∨ (d = .tuple [.str "name", .str x] ∧ isNm x = true) ∨ (∃ y, d = .tuple [.str "atom", .str y] ∧ x = "'" ++ y ∧ isNm y = true) := by
  rcases h with ⟨i, rfl, hi⟩ | ⟨y, rfl | rfl, hy⟩
  · have e : [x] = [if ("int" : Str) = "atom" then "'" ++ txt (.int i) else txt (.int i)] := e
    rw [if_neg (by decide +kernel)] at e
    rw [(List.cons.inj e).1]
    exact .inl ⟨i, rfl, num_txt hi⟩
  · have e : [x] = [if ("name" : Str) = "atom" then "'" ++ y else y] := e
    rw [if_neg (by decide +kernel)] at e
    have e := (List.cons.inj e).1
    subst e
    exact .inr (.inl ⟨rfl, hy⟩)
  · have e : [x] = [if ("atom" : Str) = "atom" then "'" ++ y else y] := e
    rw [if_pos rfl] at e
    exact .inr (.inr ⟨y, rfl, (List.cons.inj e).1, hy⟩)
theorem leaf_len {d : PyData} {x : Str} (h : LeafT d) (e : [x] = leafWords d) : 1 ≤ x.length ∧ x.length ≤ 19 := by
  rcases leaf_word h e with ⟨i, _, z⟩ | ⟨_, z⟩ | ⟨y, _, rfl, z⟩
  · exact ⟨z.p, z.ln⟩
  · unfold isNm at z
    simp only [Bool.and_eq_true, decide_eq_true_eq] at z
    omega
  · obtain ⟨_, _, _, _, l, _⟩ := q_head y
    obtain ⟨_, _, _, _, _, l8⟩ := isNm_fst z
    omega
theorem LeafW.cases {c : Nat} {x : Str} {d : PyData} (h : LeafW c x d) : (c = 101 ∧ ((∃ i, d = .tuple [.str "int", .int i] ∧ NumT i x) ∨ (d = .tuple [.str "name", .str x] ∧ isNm x = true) ∨ (∃ y, d = .tuple [.str "atom", .str y] ∧ x = "'" ++ y ∧ isNm y = true))) ∨
    (c = 107 ∧ ∃ i, NumT i x ∧ d = .int i) ∨ (c = 105 ∧ ∃ i, NumT i x ∧ 0 ≤ i ∧ d = .int i) ∨ (c = 110 ∧ isNm x = true ∧ d = .str x) ∨ (c = 119 ∧ (x = "integer" ∨ x = "atom" ∨ x = "tuple") ∧ d = .str x) := by
  unfold LeafW at h
  split at h
  · rename_i c1
    exact .inl ⟨c1, leaf_word h.1 h.2⟩
  · obtain ⟨h, rfl⟩ := h
    rcases h with ⟨rfl, i, rfl, hi⟩ | ⟨rfl, i, rfl, i0, hi⟩ | ⟨rfl, y, rfl, hy⟩ | ⟨rfl, h⟩
    · exact .inr (.inl ⟨rfl, i, num_txt hi, rfl⟩)
    · exact .inr (.inr (.inl ⟨rfl, i, num_txt hi, i0, rfl⟩))
    · exact .inr (.inr (.inr (.inl ⟨rfl, hy, rfl⟩)))
    · refine .inr (.inr (.inr (.inr ⟨rfl, ?_⟩)))
      rcases h with rfl | rfl | rfl
      · exact ⟨.inl rfl, rfl⟩
      · exact ⟨.inr (.inl rfl), rfl⟩
      · exact ⟨.inr (.inr rfl), rfl⟩
def spName : Sp := fun vs H Q _ => ∃ x, vs = [.str x] ∧ x.length ≤ 1000 ∧ ∀ H', Same H H' → Q (.bl (isNm x)) H'
def spNum : Sp := fun vs H Q _ => ∃ x, vs = [.str x] ∧ x.length ≤ 1000 ∧ ∀ H', Same H H' → Q (.bl (isNum x)) H'
def spCan : Sp := fun vs H Q _ => ∃ w c d, vs = [.str w, .str (sortS c)] ∧ LeafW c w d ∧ ∀ H', Same H H' → Q (.bl true) H'
def spLeaf (K : PySem.W.Frag) : Sp := fun vs H Q _ => ∃ w d, vs = [.str w] ∧ LeafT d ∧ [w] = leafWords d ∧ ∀ v H', Same H H' → Dp K H' v d → Q v H'
section
variable {P : Program} {w : World} {K : PySem.W.Frag} {mg : Str → Option Value} {base : Heap} {f fN fM : Addr} {fd dN dM : FuncData}
theorem ok_name {k : Nat} (F : Fun K "is_name" "is_name" sName f fd) (mi : mg "isinstance" = none) (ms : mg "str" = none) (mn : mg "len" = none) (ma : mg "all" = none) : FnOk P w K mg base CX0 (k + 1) f fd ["thing"] spName := by
  refine F.ok scName (fun vs H Q E h => ?_) (fun cdv A outer s H vs Q E hr h => ?_)
  · obtain ⟨x, rfl, _⟩ := h
    rfl
  obtain ⟨x, rfl, hx, q⟩ := h
  refine ⟨_, pss_cons (ps_if (PW.pt (pw_or (pt_not (pt_val (pe_callB call_isD (by rfl) mi (by decide +kernel) (pa_cons (pv 0) (pa_cons (pe_bltn (by rfl) ms (by decide +kernel) (v := .ty "str") rfl) pa_nil)))))
      (pw_or1 (pt_not (pt_chain op_le op_le pe_int (pe_callB call_len_str (by rfl) mn PySem.boot_len (pa_cons (pv 0) pa_nil)) pe_int))))) (pss_one (ps_ret pe_bl)) pss_nil)
    (pss_one (ps_ret (pe_callB (cr_all rfl) (by rfl) ma (by decide +kernel) (pa_cons (pe_lc (own := [("letter", 1)]) (g := gName 1) (by rfl) scName.nd (pi_str (pv 0))
      (blkOk_by (own := [("letter", 1)]) (N := ["thing", "letter"]) (sc := defScope sName) (by decide +kernel))
      (fun _ _ _ _ _ => pg_name (i := 1) scName.nd rfl (Or.inl rfl)) (fun _ _ _ _ _ => pts_nil) (fun _ _ _ _ _ => pe_chain op_le_str op_le_str pe_str (pv 1) pe_str)) pa_nil)))), ?_⟩
  refine ⟨_, rfl, .str x, .str x, "str", _, rfl, .str x, kit_str (.str x), _, rfl, ?_⟩
  have hx2 : x.length ≤ sizeLine := Nat.le_trans hx (by decide)
  refine iteF ?_
  refine ⟨_, rfl, x, rfl, hx2, _, _, rfl, rfl, _, rfl, ite2 (fun c1 => ?_) (fun c1 => ?_)⟩
  · have c1 : 1 ≤ (x.length : Int) := of_decide_eq_true c1
    refine ⟨_, _, rfl, rfl, _, rfl, ?_⟩
    by_cases c2 : (x.length : Int) ≤ 8
    · rw [decide_eq_true c2]
      refine iteF ?_
      refine ⟨_, rfl, x, rfl, fun D hD => ?_⟩
      refine lc_it walk_str (fun i H2 => H2 D = some (.lst ((x.cps.toList.take i).map fun c => V.bl (lowOk c))) ∧ Same H H2) ⟨upd_same, same_new hD _⟩ (fun _ _ _ _ => True.intro) ?_ ?_
      · rintro i y H2 H3 hi ⟨h1, h2⟩ ⟨rfl, c, hc, rfl⟩
        refine ⟨rfl, ?_⟩
        refine ⟨_, rfl, _, _, rfl, rfl, _, rfl, ?_⟩
        have key : lowOk c = ((!decide ((⟨#[c]⟩ : Str).cps.toList < ("a" : Str).cps.toList)) && (!decide (("z" : Str).cps.toList < (⟨#[c]⟩ : Str).cps.toList))) := by
          rw [ge_a, le_z]
          rfl
        have fin : ∀ b : Bool, b = lowOk c → ∃ acc, H3 D = some (.lst acc) ∧ acc.length < sizeLine ∧ (upd H3 D (.lst (acc ++ [V.bl b]))) D = some (.lst ((x.cps.toList.take (i + 1)).map fun c => V.bl (lowOk c))) ∧ Same H (upd H3 D (.lst (acc ++ [V.bl b]))) := by
          intro b hb
          refine ⟨_, h1, ?_, ?_, ?_⟩
          · rw [List.length_map, List.length_take]
            have : x.cps.toList.length = x.length := by simp [len_cps]
            exact Nat.lt_of_le_of_lt (Nat.le_trans (Nat.min_le_right _ _) (by omega)) (small1000 (n := 100) (by decide))
          · rw [upd_same, take_snoc _ (cps_at hc), hb]
          · intro b2 o e
            rw [upd_ne (ne_of_none e hD)]
            exact h2 b2 o e
        by_cases ca : (!decide ((⟨#[c]⟩ : Str).cps.toList < ("a" : Str).cps.toList)) = true
        · rw [ca] at key ⊢
          refine iteT ?_
          refine ⟨_, _, rfl, rfl, fin _ ?_⟩
          rw [key, Bool.true_and]
        · have ca := Bool.eq_false_iff.mpr ca
          rw [ca] at key ⊢
          refine iteF (fin _ ?_)
          rw [key, Bool.false_and]
      · rintro H2 ⟨h1, h2⟩
        refine ⟨D, x.cps.toList.map lowOk, rfl, SqL.of ?_, ?_⟩
        · rw [h1, List.map_map]
          have : x.cps.toList.take x.cps.size = x.cps.toList := List.take_of_length_le (by simp)
          rw [this]
          rfl
        · rw [all_map]
          have e : isNm x = x.cps.toList.all lowOk := by
            have a1 : 1 ≤ x.length := by omega
            have a2 : x.length ≤ 8 := by omega
            show (decide (1 ≤ x.length) && decide (x.length ≤ 8) && x.cps.toList.all lowOk) = _
            rw [decide_eq_true a1, decide_eq_true a2]
            rfl
          rw [e] at q
          exact q H2 h2
    · rw [decide_eq_false c2]
      refine iteT ?_
      have e : isNm x = false := by
        have a2 : ¬ x.length ≤ 8 := by omega
        show (decide (1 ≤ x.length) && decide (x.length ≤ 8) && x.cps.toList.all lowOk) = _
        rw [decide_eq_false a2, Bool.and_false, Bool.false_and]
      rw [e] at q
      exact q H (Same.refl H)
  · have c1 : ¬ 1 ≤ (x.length : Int) := of_decide_eq_false (Bool.eq_false_iff.mpr c1)
    refine ⟨_, rfl, ?_⟩
    refine iteT ?_
    have e : isNm x = false := by
      have a2 : ¬ 1 ≤ x.length := by omega
      show (decide (1 ≤ x.length) && decide (x.length ≤ 8) && x.cps.toList.all lowOk) = _
      rw [decide_eq_false a2, Bool.false_and, Bool.false_and]
    rw [e] at q
    exact q H (Same.refl H)
theorem ok_num {k : Nat} (F : Fun K "is_number" "is_number" sNum f fd) (mn : mg "len" = none) (ma : mg "all" = none) {tk : Tok} (mD : mg "MOST_DIGITS" = some (.int 18 tk)) : FnOk P w K mg base CX0 (k + 1) f fd ["word"] spNum := by
  refine F.ok scNum (fun vs H Q E h => ?_) (fun cdv A outer s H vs Q E hr h => ?_)
  · obtain ⟨x, rfl, _⟩ := h
    rfl
  obtain ⟨x, rfl, hx, q⟩ := h
  refine ⟨_, pss_cons (ps_set (i := 1) scNum.nd rfl (.inl rfl) (pe_bm PySem.F.plainAttrs_str PySem.F.slot_str_removeprefix PySem.F.type_str_removeprefix mt_removeprefix (pv 0) (pa_cons pe_str pa_nil)))
    (pss_cons (ps_if (PW.pt (pw_or (pt_not (pt_chain op_le op_le pe_int (pe_callB call_len_str (by rfl) mn PySem.boot_len (pa_cons (pv 1) pa_nil)) (pe_glob (by rfl) mD (v := .int 18) ⟨_, rfl⟩)))
        (pw_or1 (pt_not (pt_val (pe_callB (cr_all rfl) (by rfl) ma (by decide +kernel) (pa_cons (pe_lc (own := [("digit", 2)]) (g := gName 2) (by rfl) scNum.nd (pi_str (pv 1))
          (blkOk_by (own := [("digit", 2)]) (N := ["word", "digits", "digit"]) (sc := defScope sNum) (by decide +kernel))
          (fun _ _ _ _ _ => pg_name (i := 2) scNum.nd rfl (Or.inl rfl)) (fun _ _ _ _ _ => pts_nil) (fun _ _ _ _ _ => pe_chain op_le_str op_le_str pe_str (pv 2) pe_str)) pa_nil))))))) (pss_one (ps_ret pe_bl)) pss_nil)
    (pss_one (ps_ret (pe_or (pe_cmpR op_ne (pe_ix ix_str (pv 1) pe_int (fun _ _ => rfl)) pe_str (nomark _)) (pe_one (pe_cmpR op_eq (pv 0) pe_str (nomark _))))))), ?_⟩
  have hx2 : x.length ≤ sizeLine := Nat.le_trans hx (by decide)
  refine ⟨_, rfl, rfl, x, "-", rfl, rfl, hx2, ?_⟩
  rw [rp_minus]
  have en : isNum x = (decide (1 ≤ (digsOf x.cps.toList).length) && decide ((digsOf x.cps.toList).length ≤ 18) && (digsOf x.cps.toList).all digOk && (decide ((digsOf x.cps.toList).head? ≠ some 48) || decide (x = "0"))) := rfl
  have ld : (digsOf x.cps.toList).length ≤ 1000 := by
    have z : x.cps.toList.length = x.length := by simp [len_cps]
    unfold digsOf
    split
    · rename_i r e
      rw [e, List.length_cons] at z
      omega
    · omega
  generalize digsOf x.cps.toList = ds at en ld
  have ly : (⟨ds.toArray⟩ : Str).length = ds.length := by simp [len_cps]
  refine ⟨_, rfl, ⟨ds.toArray⟩, rfl, by rw [ly]; exact few ld, _, _, rfl, rfl, _, rfl, ?_⟩
  rw [ly]
  refine ite2 (fun c1 => ?_) (fun c1 => ?_)
  · have c1 : 1 ≤ (ds.length : Int) := of_decide_eq_true c1
    refine ⟨_, _, rfl, rfl, _, rfl, ?_⟩
    by_cases c2 : (ds.length : Int) ≤ 18
    · rw [decide_eq_true c2]
      refine iteF ?_
      refine ⟨_, rfl, ⟨ds.toArray⟩, rfl, fun D hD => ?_⟩
      refine lc_it walk_str (fun i H2 => H2 D = some (.lst ((ds.take i).map fun c => V.bl (digOk c))) ∧ Same H H2) ⟨upd_same, same_new hD _⟩ (fun _ _ _ _ => True.intro) ?_ ?_
      · rintro i y H2 H3 hi ⟨h1, h2⟩ ⟨rfl, c, hc, rfl⟩
        have hc : ds[i]? = some c := by simpa using hc
        refine ⟨rfl, ?_⟩
        refine ⟨_, rfl, _, _, rfl, rfl, _, rfl, ?_⟩
        have key : digOk c = ((!decide ((⟨#[c]⟩ : Str).cps.toList < ("0" : Str).cps.toList)) && (!decide (("9" : Str).cps.toList < (⟨#[c]⟩ : Str).cps.toList))) := by
          rw [ge_0, le_9]
          rfl
        have fin : ∀ b : Bool, b = digOk c → ∃ acc, H3 D = some (.lst acc) ∧ acc.length < sizeLine ∧ (upd H3 D (.lst (acc ++ [V.bl b]))) D = some (.lst ((ds.take (i + 1)).map fun c => V.bl (digOk c))) ∧ Same H (upd H3 D (.lst (acc ++ [V.bl b]))) := by
          intro b hb
          refine ⟨_, h1, ?_, ?_, ?_⟩
          · rw [List.length_map, List.length_take]
            exact Nat.lt_of_le_of_lt (Nat.le_trans (Nat.min_le_right _ _) (by omega)) (small1000 (n := 100) (by decide))
          · rw [upd_same, take_snoc _ hc, hb]
          · intro b2 o e
            rw [upd_ne (ne_of_none e hD)]
            exact h2 b2 o e
        by_cases ca : (!decide ((⟨#[c]⟩ : Str).cps.toList < ("0" : Str).cps.toList)) = true
        · rw [ca] at key ⊢
          refine iteT ?_
          refine ⟨_, _, rfl, rfl, fin _ ?_⟩
          rw [key, Bool.true_and]
        · have ca := Bool.eq_false_iff.mpr ca
          rw [ca] at key ⊢
          refine iteF (fin _ ?_)
          rw [key, Bool.false_and]
      · rintro H2 ⟨h1, h2⟩
        refine ⟨D, ds.map digOk, rfl, SqL.of ?_, ?_⟩
        · rw [h1, List.map_map]
          have : ds.take ((⟨ds.toArray⟩ : Str).cps.size) = ds := List.take_of_length_le (by simp)
          rw [this]
          rfl
        · rw [all_map]
          have a1 : 1 ≤ ds.length := by omega
          have a2 : ds.length ≤ 18 := by omega
          rw [decide_eq_true a1, decide_eq_true a2, Bool.and_self, Bool.true_and] at en
          cases ha : ds.all digOk with
          | false =>
            rw [ha, Bool.false_and] at en
            rw [en] at q
            exact ⟨_, rfl, iteT (q H2 h2)⟩
          | true =>
            rw [ha, Bool.true_and] at en
            refine ⟨_, rfl, iteF ?_⟩
            cases ds with
            | nil => cases a1
            | cons c r =>
              refine ⟨_, rfl, ⟨(c :: r).toArray⟩, 0, c, rfl, rfl, by rw [ly]; exact few ld, atI_nat (j := 0) rfl, ?_⟩
              have e48 : (decide (V.str ⟨#[c]⟩ = V.str "0")) = decide (c = 48) := by
                by_cases z : c = 48
                · rw [z]
                  decide +kernel
                · rw [decide_eq_false z]
                  exact decide_eq_false fun y => z ((sg_one c 48).mp (V.str.inj y))
              rw [ch_zero] at *
              refine ⟨rfl, _, rfl, ite2 (fun cc => ?_) (fun cc => ?_)⟩
              · rw [e48, Bool.not_eq_true', decide_eq_false_iff_not] at cc
                rw [decide_eq_true (show (c :: r).head? ≠ some 48 from fun z => cc (Option.some.inj z)), Bool.true_or] at en
                rw [en] at q
                exact q H2 h2
              · rw [e48, Bool.not_eq_true', decide_eq_false_iff_not, Decidable.not_not] at cc
                subst cc
                rw [decide_eq_false (show ¬ ((48 :: r).head? ≠ some 48) from fun z => z rfl), Bool.false_or] at en
                refine ⟨_, rfl, rfl, ?_⟩
                have e5 : decide (V.str x = V.str ⟨#[48]⟩) = decide (x = ⟨#[48]⟩) := by
                  by_cases z : x = ⟨#[48]⟩
                  · rw [z, decide_eq_true rfl, decide_eq_true rfl]
                  · rw [decide_eq_false z, decide_eq_false fun y => z (V.str.inj y)]
                rw [e5, ← en]
                exact q H2 h2
    · rw [decide_eq_false c2]
      refine iteT ?_
      have a2 : ¬ ds.length ≤ 18 := by omega
      rw [decide_eq_false a2, Bool.and_false, Bool.false_and, Bool.false_and] at en
      rw [en] at q
      exact q H (Same.refl H)
  · have c1 : ¬ 1 ≤ (ds.length : Int) := of_decide_eq_false (Bool.eq_false_iff.mpr c1)
    refine ⟨_, rfl, ?_⟩
    refine iteT ?_
    have a2 : ¬ 1 ≤ ds.length := by omega
    rw [decide_eq_false a2, Bool.false_and, Bool.false_and, Bool.false_and] at en
    rw [en] at q
    exact q H (Same.refl H)
theorem ok_can {k : Nat} (F : Fun K "can_be" "can_be" sCan f fd) (GM : Dn P w K mg base 1 "is_number" ["word"] spNum fM dM) (GN : Dn P w K mg base 1 "is_name" ["thing"] spName fN dN) : FnOk P w K mg base CX0 (k + 2) f fd ["word", "sort"] spCan := by
  refine F.ok scCan (fun vs H Q E h => ?_) (fun cdv A outer s H vs Q E hr h => ?_)
  · obtain ⟨x, c, d, rfl, _⟩ := h
    rfl
  obtain ⟨x, c, d, rfl, lw, q⟩ := h
  have hr1 : Room 1 _ := hr.mono (by omega)
  refine ⟨_, pss_cons (ps_if (pt_cmpR op_eq (pv 1) pe_str (nomark _)) (pss_one (ps_ret (pe_or (pe_call GM.ok hr1 (by rfl) GM.mg GM.kp GM.bd .nil pass0 (pa_cons (pv 0) pa_nil)) (pe_or (pe_call GN.ok hr1 (by rfl) GN.mg GN.kp GN.bd .nil pass0 (pa_cons (pv 0) pa_nil)) (pe_one
        (pe_and (pe_cmpR op_eq (pe_slice sl_str (pv 0) po_none (po_some pe_int)) pe_str (nomark _)) (pe_one (pe_call GN.ok hr1 (by rfl) GN.mg GN.kp GN.bd .nil pass0 (pa_cons (pe_slice sl_str (pv 0) (po_some pe_int) po_none) pa_nil))))))))) pss_nil)
    (pss_cons (ps_if (pt_cmpR op_eq (pv 1) pe_str (nomark _)) (pss_one (ps_ret (pe_call GM.ok hr1 (by rfl) GM.mg GM.kp GM.bd .nil pass0 (pa_cons (pv 0) pa_nil)))) pss_nil)
    (pss_cons (ps_if (pt_cmpR op_eq (pv 1) pe_str (nomark _)) (pss_one (ps_ret (pe_and (pe_call GM.ok hr1 (by rfl) GM.mg GM.kp GM.bd .nil pass0 (pa_cons (pv 0) pa_nil)) (pe_one (pe_cmpR op_ne (pe_ix ix_str (pv 0) pe_int (fun _ _ => rfl)) pe_str (nomark _)))))) pss_nil)
    (pss_cons (ps_if (pt_cmpR op_eq (pv 1) pe_str (nomark _)) (pss_one (ps_ret (pe_cmpR op_in_seq (pv 0) (pe_tup (pa_cons pe_str (pa_cons pe_str (pa_cons pe_str pa_nil)))) rfl))) pss_nil)
    (pss_one (ps_ret (pe_and (pe_cmpR op_eq (pv 1) pe_str (nomark _)) (pe_one (pe_call GN.ok hr1 (by rfl) GN.mg GN.kp GN.bd .nil pass0 (pa_cons (pv 0) pa_nil))))))))), ?_⟩
  rcases lw.cases with ⟨rfl, h⟩ | ⟨rfl, i, h, _⟩ | ⟨rfl, i, h, i0, _⟩ | ⟨rfl, h, _⟩ | ⟨rfl, h, _⟩
  · refine ⟨_, rfl, rfl, _, rfl, iteT' (by decide +kernel) ?_⟩
    rcases h with ⟨i, rfl, h⟩ | ⟨rfl, h⟩ | ⟨y, rfl, rfl, h⟩
    · exact ⟨_, rfl, x, rfl, by have := h.ln; omega, fun H1 s1 => ⟨_, rfl, iteT' h.nm (q H1 s1)⟩⟩
    · have hn := isNm_num h
      obtain ⟨_, _, _, _, _, l8⟩ := isNm_fst h
      exact ⟨_, rfl, x, rfl, by omega, fun H1 s1 => ⟨_, rfl, iteF' hn ⟨_, rfl, x, rfl, by omega, fun H2 s2 => ⟨_, rfl, iteT' h (q H2 (s1.trans s2))⟩⟩⟩⟩
    · obtain ⟨_, _, _, _, _, l8⟩ := isNm_fst h
      obtain ⟨a1, a2, a3, a4, a5⟩ := q_head y
      refine ⟨_, rfl, _, rfl, by omega, fun H1 s1 => ⟨_, rfl, iteF' a3 ⟨_, rfl, _, rfl, by omega, fun H2 s2 => ⟨_, rfl, iteF' a4 ?_⟩⟩⟩⟩
      refine ⟨_, rfl, _, rfl, _, rfl, few (by omega), rfl, _, rfl, iteT' (decide_eq_true (by rw [a1])) ⟨_, rfl, _, rfl, _, rfl, few (by omega), _, rfl, by rw [a2]; omega, fun H3 s3 => ?_⟩⟩
      rw [a2, h]
      exact q H3 (s1.trans (s2.trans s3))
  · refine ⟨_, rfl, rfl, _, rfl, iteF' (by decide +kernel) ⟨_, rfl, rfl, _, rfl, iteT' (by decide +kernel) ⟨_, rfl, x, rfl, by have := h.ln; omega, fun H1 s1 => ?_⟩⟩⟩
    rw [h.nm]
    exact q H1 s1
  · refine ⟨_, rfl, rfl, _, rfl, iteF' (by decide +kernel) ⟨_, rfl, rfl, _, rfl, iteF' (by decide +kernel) ⟨_, rfl, rfl, _, rfl, iteT' (by decide +kernel) ⟨_, rfl, x, rfl, by have := h.ln; omega, fun H1 s1 => ⟨_, rfl, iteT' h.nm ?_⟩⟩⟩⟩⟩
    have p := h.p
    have ng := h.ng i0
    cases e : x.cps.toList with
    | nil =>
      rw [len_cps, ← Array.length_toList, e] at p
      cases p
    | cons c r =>
      rw [e] at ng
      refine ⟨_, rfl, x, 0, c, rfl, rfl, few (by have := h.ln; omega), by rw [e]; exact atI_nat (j := 0) rfl, rfl, ?_⟩
      have n45 : ¬ c = 45 := fun z => ng (by rw [z]; rfl)
      have e1 : (!decide (V.str ⟨#[c]⟩ = V.str "-")) = true := by
        rw [ch_minus, decide_eq_false fun z => n45 ((sg_one c 45).mp (V.str.inj z))]
        rfl
      rw [e1]
      exact q H1 s1
  · refine ⟨_, rfl, rfl, _, rfl, iteF' (by decide +kernel) ⟨_, rfl, rfl, _, rfl, iteF' (by decide +kernel) ⟨_, rfl, rfl, _, rfl, iteF' (by decide +kernel) ⟨_, rfl, rfl, _, rfl, iteF' (by decide +kernel) ⟨_, rfl, rfl, _, rfl, iteT' (by decide +kernel) ⟨_, rfl, x, rfl, ?_, fun H1 s1 => ?_⟩⟩⟩⟩⟩⟩
    · obtain ⟨_, _, _, _, _, l8⟩ := isNm_fst h
      omega
    · rw [h]
      exact q H1 s1
  · refine ⟨_, rfl, rfl, _, rfl, iteF' (by decide +kernel) ⟨_, rfl, rfl, _, rfl, iteF' (by decide +kernel) ⟨_, rfl, rfl, _, rfl, iteF' (by decide +kernel) ⟨_, rfl, rfl, _, rfl, iteT' (by decide +kernel) ⟨_, rfl, few (by simp), fun T hT => ⟨T, _, rfl, .inr (.inl (.inl upd_same)), rfl, rfl, ?_⟩⟩⟩⟩⟩⟩
    have e : inV (.str x) [.str "integer", .str "atom", .str "tuple"] = true := by
      rcases h with rfl | rfl | rfl <;> decide +kernel
    rw [e]
    exact q _ (same_new hT _)
theorem ok_leaf {k : Nat} (F : Fun K "leaf_of" "leaf_of" sLeaf f fd) (mi : mg "int" = none) (GN : Dn P w K mg base 1 "is_name" ["thing"] spName fN dN) : FnOk P w K mg base CX0 (k + 2) f fd ["word"] (spLeaf K) := by
  refine F.ok scLeaf (fun vs H Q E h => ?_) (fun cdv A outer s H vs Q E hr h => ?_)
  · obtain ⟨x, d, rfl, _⟩ := h
    rfl
  obtain ⟨x, d, rfl, lt, ew, q⟩ := h
  have hr1 : Room 1 _ := hr.mono (by omega)
  refine ⟨_, pss_cons (ps_if (pt_cmpR op_eq (pe_ix ix_str (pv 0) pe_int (fun _ _ => rfl)) pe_str (nomark _)) (pss_one (ps_ret (pe_tup (pa_cons pe_str (pa_cons (pe_slice sl_str (pv 0) (po_some pe_int) po_none) pa_nil))))) pss_nil)
    (pss_one (ps_ret (pe_ifExp (pt_val (pe_call GN.ok hr1 (by rfl) GN.mg GN.kp GN.bd .nil pass0 (pa_cons (pv 0) pa_nil))) (pe_tup (pa_cons pe_str (pa_cons (pv 0) pa_nil))) (pe_tup (pa_cons pe_str (pa_cons (pe_callTy call_int_str (by rfl) mi (by decide +kernel) (pa_cons (pv 0) pa_nil)) pa_nil)))))), ?_⟩
  have ll := leaf_len lt ew
  have sx : x.length ≤ sizeLine := few (by omega)
  obtain ⟨c0, r0, e0⟩ : ∃ c r, x.cps.toList = c :: r := by
    cases e : x.cps.toList with
    | nil =>
      rw [len_cps, ← Array.length_toList, e] at ll
      exact absurd ll.1 (by decide)
    | cons c r => exact ⟨c, r, rfl⟩
  refine ⟨_, rfl, x, 0, c0, rfl, rfl, sx, by rw [e0]; exact atI_nat (j := 0) rfl, rfl, _, rfl, ?_⟩
  rcases (leaf_word lt ew) with ⟨i, rfl, h⟩ | ⟨rfl, h⟩ | ⟨y, rfl, rfl, h⟩
  · have h39 : ¬ c0 = 39 := fun z => by
      have := h.lo c0 (by rw [e0]; exact List.mem_cons_self)
      omega
    have hn : isNm x = false := by
      cases hq : isNm x with
      | false => rfl
      | true =>
        obtain ⟨c, r, e1, a1, a2, _⟩ := isNm_fst hq
        rw [e0] at e1
        have := h.lo c0 (by rw [e0]; exact List.mem_cons_self)
        have := (List.cons.inj e1).1
        omega
    refine iteF' (decide_eq_false fun z => h39 ((sg_one c0 39).mp (V.str.inj z))) ⟨_, rfl, x, rfl, by omega, fun H1 s1 => ⟨_, rfl, iteF' hn ⟨_, rfl, _, _, rfl, h.rd, by omega, few (by simp), fun T hT => ?_⟩⟩⟩
    have s2 := s1.trans (same_new (o := .tup [.str "int", .int i]) hT)
    exact q _ _ s2 (.tup (.inl (.inl upd_same)) (.cons (.str _) (.cons (.int _) .nil)))
  · obtain ⟨c, r, e1, a1, a2, _⟩ := isNm_fst h
    have h39 : ¬ c0 = 39 := fun z => by
      rw [e0] at e1
      have := (List.cons.inj e1).1
      omega
    refine iteF' (decide_eq_false fun z => h39 ((sg_one c0 39).mp (V.str.inj z))) ⟨_, rfl, x, rfl, by omega, fun H1 s1 => ⟨_, rfl, iteT' h ⟨_, rfl, few (by simp), fun T hT => ?_⟩⟩⟩
    have s2 := s1.trans (same_new (o := .tup [.str "name", .str x]) hT)
    exact q _ _ s2 (.tup (.inl (.inl upd_same)) (.cons (.str _) (.cons (.str _) .nil)))
  · obtain ⟨a1, a2, a3, a4, a5, a6⟩ := q_head y
    rw [a6] at e0
    have e39 := (List.cons.inj e0).1
    refine iteT' (decide_eq_true (by rw [← e39, ch_quote])) ⟨_, rfl, _, rfl, _, rfl, sx, few (by simp), fun T hT => ?_⟩
    rw [a2]
    have s2 := same_new (o := .tup [.str "atom", .str y]) hT
    exact q _ _ s2 (.tup (.inl (.inl upd_same)) (.cons (.str _) (.cons (.str _) .nil)))
end
/-! an item, a word -/
abbrev sItem : Stmt := topS 22
abbrev sRead : Stmt := topS 18
theorem scItem : FnScope ["reader", "word", "sort"] ["reader", "word", "sort"] (defScope sItem) := ⟨rfl, rfl, rfl, by decide +kernel, rfl, by decide +kernel, by decide +kernel⟩
theorem scRead : FnScope ["reader", "word", "bracket", "many"] ["reader", "word"] (defScope sRead) := ⟨rfl, rfl, rfl, by decide +kernel, rfl, by decide +kernel, by decide +kernel⟩
def ItemP (bs : List Br) (c : Nat) (x : Str) (S : PSt) : Prop := (x = "(" ∧ (c = 101 ∨ c = 116) ∧ bs.length < 40 ∧ S = ⟨bs ++ [⟨decide (c = 116), none, []⟩], none⟩) ∨ ∃ d, LeafW c x d ∧ S = keepP bs d
def spItem (K : PySem.W.Frag) (C CBr : Addr) : Sp := fun vs H Q _ => ∃ r x c bs l S, vs = [.ref r, .str x, .str (sortS c)] ∧ RdAt K C CBr H r l ⟨bs, none⟩ ∧ (∀ b ∈ bs, b.found.length < 8000) ∧ ItemP bs c x S ∧ Reads K C CBr H r l S Q
def spRead (K : PySem.W.Frag) (C CBr : Addr) : Sp := fun vs H Q _ => ∃ r x bs l S, vs = [.ref r, .str x] ∧ RdAt K C CBr H r l ⟨bs, none⟩ ∧ (∀ b ∈ bs, b.found.length < 8000) ∧ StepP bs x S ∧ Reads K C CBr H r l S Q
theorem LeafW.low {c : Nat} {x : Str} {d : PyData} (h : LeafW c x d) : ¬ x = "(" ∧ ¬ x = ")" ∧ x.length ≤ 1000 := by
  have e1 : ("(" : Str).cps.toList = [40] := by decide +kernel
  have e2 : (")" : Str).cps.toList = [41] := by decide +kernel
  have key : ∀ y : Str, y.cps.toList = [40] ∨ y.cps.toList = [41] → ¬ isNm y = true ∧ isNum y = false := fun y hy => by
    obtain ⟨c, hc, ey⟩ : ∃ c, (c = 40 ∨ c = 41) ∧ y.cps.toList = [c] := by
      rcases hy with z | z
      · exact ⟨_, .inl rfl, z⟩
      · exact ⟨_, .inr rfl, z⟩
    refine ⟨fun z => ?_, not_num ey (by omega) (by omega)⟩
    obtain ⟨c2, r, e, a1, a2, _⟩ := isNm_fst z
    rw [ey] at e
    have := (List.cons.inj e).1
    omega
  have nn : ∀ y : Str, y = "(" ∨ y = ")" → ¬ isNm y = true ∧ isNum y = false := fun y hy => key y (by
    rcases hy with z | z
    · rw [z]; exact .inl e1
    · rw [z]; exact .inr e2)
  have num : ∀ i, NumT i x → ¬ x = "(" ∧ ¬ x = ")" ∧ x.length ≤ 1000 := fun i z => by
    have := z.nm
    refine ⟨fun y => ?_, fun y => ?_, by have := z.ln; omega⟩
    · rw [(nn x (.inl y)).2] at this
      cases this
    · rw [(nn x (.inr y)).2] at this
      cases this
  have nam : isNm x = true → ¬ x = "(" ∧ ¬ x = ")" ∧ x.length ≤ 1000 := fun z => by
    refine ⟨fun y => (nn x (.inl y)).1 z, fun y => (nn x (.inr y)).1 z, ?_⟩
    obtain ⟨_, _, _, _, _, l8⟩ := isNm_fst z
    omega
  rcases h.cases with ⟨_, h2⟩ | ⟨_, i, h, _⟩ | ⟨_, i, h, _, _⟩ | ⟨_, h, _⟩ | ⟨_, h, _⟩
  · clear h
    rcases h2 with ⟨i, _, h⟩ | ⟨_, h⟩ | ⟨y, _, rfl, h⟩
    · exact num i h
    · exact nam h
    · obtain ⟨a1, a2, a3, a4, a5, a6⟩ := q_head y
      obtain ⟨_, _, _, _, _, l8⟩ := isNm_fst h
      refine ⟨fun z => ?_, fun z => ?_, by omega⟩
      · rw [z, e1] at a6
        have := (List.cons.inj a6).1
        omega
      · rw [z, e2] at a6
        have := (List.cons.inj a6).1
        omega
  · exact num i h
  · exact num i h
  · exact nam h
  · rcases h with rfl | rfl | rfl
    · exact ⟨by decide +kernel, by decide +kernel, by decide +kernel⟩
    · exact ⟨by decide +kernel, by decide +kernel, by decide +kernel⟩
    · exact ⟨by decide +kernel, by decide +kernel, by decide +kernel⟩
theorem sortS_et : ∀ c : Nat, (sortS c = "expression" ∨ sortS c = "test") = (c = 101 ∨ c = 116) := by
  intro c
  unfold sortS
  refine propext ⟨fun h => ?_, fun h => ?_⟩
  · revert h
    repeat' split
    all_goals first
      | exact fun _ => .inl (by assumption)
      | exact fun _ => .inr (by assumption)
      | exact fun h => absurd h (by decide +kernel)
  · rcases h with h | h
    · subst h
      exact .inl rfl
    · subst h
      exact .inr rfl
theorem inVv (s a b : Str) : inV (.str s) [.str a, .str b] = true ↔ s = a ∨ s = b := by
  simp only [inV, List.any_cons, List.any_nil, eqV, Bool.or_false, Bool.or_eq_true, beq_iff_eq]
  exact ⟨fun h => h.imp Eq.symm Eq.symm, fun h => h.imp Eq.symm Eq.symm⟩
theorem LeafW.nl {c : Nat} {x : Str} {d : PyData} (h : LeafW c x d) : nl d = true := by
  rcases h.cases with ⟨_, h2⟩ | ⟨_, i, _, rfl⟩ | ⟨_, i, _, _, rfl⟩ | ⟨_, _, rfl⟩ | ⟨_, _, rfl⟩
  · rcases h2 with ⟨i, rfl, _⟩ | ⟨rfl, _⟩ | ⟨y, rfl, _, _⟩
    all_goals simp only [Rl.nl, Rl.nls, Bool.and_self]
  all_goals simp only [Rl.nl]
theorem LeafW.num {c : Nat} {x : Str} {d : PyData} (h : LeafW c x d) (n : ¬ c = 101) : ((c = 107 ∨ c = 105) → ∃ i, NumT i x ∧ d = .int i) ∧ (¬ (c = 107 ∨ c = 105) → d = .str x) := by
  rcases h.cases with ⟨z, _⟩ | ⟨z, i, h, e⟩ | ⟨z, i, h, _, e⟩ | ⟨z, _, e⟩ | ⟨z, _, e⟩
  · exact absurd z n
  · exact ⟨fun _ => ⟨i, h, e⟩, fun y => absurd (.inl z) y⟩
  · exact ⟨fun _ => ⟨i, h, e⟩, fun y => absurd (.inr z) y⟩
  · exact ⟨fun y => by omega, fun _ => e⟩
  · exact ⟨fun y => by omega, fun _ => e⟩
theorem sortS_e : ∀ c : Nat, (sortS c = "expression") = (c = 101) := by
  intro c
  unfold sortS
  refine propext ⟨fun h => ?_, fun h => by subst h; rfl⟩
  revert h
  repeat' split
  all_goals first
    | exact fun _ => by assumption
    | exact fun h => absurd h (by decide +kernel)
theorem StepP.kinds {bs : List Br} {x : Str} {S : PSt} (h : StepP bs x S) : (∃ c, wants bs = some c ∧ ItemP bs c x S) ∨
    (∃ b0 s h sl, bs = b0 ++ [⟨s, none, []⟩] ∧ x = h ∧ (h, sl) ∈ tbS s ∧ h ∉ leafHeads ∧ (116 ∈ sl.cps.toList → b0.length + 1 < 40) ∧ S = ⟨b0 ++ [⟨s, some (h, sl), []⟩], none⟩) ∨
    (∃ b0 s h sl found, bs = b0 ++ [⟨s, some (h, sl), found⟩] ∧ x = ")" ∧ (h, sl) ∈ tbS s ∧ DoneP sl found ∧ S = keepP b0 (.tuple (.str h :: packed sl found))) := by
  cases h with
  | opens h1 h2 h3 => exact .inl ⟨_, h1, .inl ⟨rfl, h2, h3, rfl⟩⟩
  | head h1 h2 h3 => exact .inr (.inl ⟨_, _, _, _, rfl, rfl, h1, h2, h3, rfl⟩)
  | leaf h1 h2 => exact .inl ⟨_, h1, .inr ⟨_, h2, rfl⟩⟩
  | close h1 h2 => exact .inr (.inr ⟨_, _, _, _, _, rfl, rfl, h1, h2, rfl⟩)
theorem sortS_ki : ∀ c : Nat, (sortS c = "integer" ∨ sortS c = "index") = (c = 107 ∨ c = 105) := by
  intro c
  unfold sortS
  refine propext ⟨fun h => ?_, fun h => ?_⟩
  · revert h
    repeat' split
    all_goals first
      | exact fun _ => .inl (by assumption)
      | exact fun _ => .inr (by assumption)
      | exact fun h => absurd h (by decide +kernel)
  · rcases h with h | h
    · subst h
      exact .inl rfl
    · subst h
      exact .inr rfl
section
variable {P : Program} {w : World} {K : PySem.W.Frag} {mg : Str → Option Value} {base : Heap} {f fK fB fL fC : Addr} {fd dK dB dL dC : FuncData} {C CBr : Addr}
theorem ok_item {k : Nat} (F : Fun K "read_item" "read_item" sItem f fd) (T : CR K mg C) (TB : CB K mg CBr) (mn : mg "len" = none) (mi : mg "int" = none) {tk : Tok} (mM : mg "MOST_BRACKETS" = some (.int 40 tk))
    (MB : Mk K CBr fB) (GB : FnOk P w K mg base CX0 1 fB dB ["self", "wanted"] (spBIni CBr)) (bB : Binds K dB ["self", "wanted"] []) (GK : Dn P w K mg base 1 "keep" ["reader", "thing"] (spKeep K C CBr) fK dK) (GC : Dn P w K mg base 2 "can_be" ["word", "sort"] spCan fC dC)
    (GL : Dn P w K mg base 2 "leaf_of" ["word"] (spLeaf K) fL dL) : FnOk P w K mg base CX0 (k + 3) f fd ["reader", "word", "sort"] (spItem K C CBr) := by
  refine F.ok scItem (fun vs H Q E h => ?_) (fun cdv A outer s H vs Q E hr h => ?_)
  · obtain ⟨r, x, c, bs, l, S, rfl, _⟩ := h
    rfl
  obtain ⟨r, x, c, bs, l, S, rfl, hR, lf, hp, q⟩ := h
  have hr1 : Room 1 _ := hr.mono (by omega)
  have hr2 : Room 2 _ := hr.mono (by omega)
  refine ⟨_, pss_cons (ps_if (PW.pt (pw_and (pt_cmpR op_eq (pv 1) pe_str (nomark _)) (pw_and1 (pt_cmpR op_in_seq (pv 2) (pe_tup (pa_cons pe_str (pa_cons pe_str pa_nil))) rfl))))
      (pss_cons (ps_if (pt_cmpR op_eq (pe_callB call_len_seq (by rfl) mn PySem.boot_len (pa_cons (pe_fld (pv 0) rfl) pa_nil)) (pe_glob (by rfl) mM (v := .int 40) ⟨_, rfl⟩) (nomark _)) (pss_one (ps_ret pe_bl)) pss_nil)
      (pss_cons (ps_expr (pe_bm PySem.F.plainAttrs_list PySem.F.slot_list_append PySem.F.type_list_append mt_append (pe_fld (pv 0) rfl) (pa_cons (pe_make MB GB hr2 (by rfl) TB.mg bB .nil pass0 (pa_cons (pv 2) pa_nil)) pa_nil)))
      (pss_one (ps_ret pe_bl)))) pss_nil)
    (pss_cons (ps_if (pt_not (pt_val (pe_call GC.ok hr2 (by rfl) GC.mg GC.kp GC.bd .nil pass0 (pa_cons (pv 1) (pa_cons (pv 2) pa_nil))))) (pss_one (ps_ret pe_bl)) pss_nil)
    (pss_cons (ps_if (pt_cmpR op_eq (pv 2) pe_str (nomark _))
      (pss_one (ps_expr (pe_call GK.ok hr1 (by rfl) GK.mg GK.kp GK.bd .nil pass0 (pa_cons (pv 0) (pa_cons (pe_call GL.ok hr2 (by rfl) GL.mg GL.kp GL.bd .nil pass0 (pa_cons (pv 1) pa_nil)) pa_nil)))))
      (pss_one (ps_expr (pe_call GK.ok hr1 (by rfl) GK.mg GK.kp GK.bd .nil pass0 (pa_cons (pv 0) (pa_cons (pe_ifExp (pt_cmpR op_in_seq (pv 2) (pe_tup (pa_cons pe_str (pa_cons pe_str pa_nil))) rfl) (pe_callTy call_int_str (by rfl) mi (by decide +kernel) (pa_cons (pv 1) pa_nil)) (pv 1)) pa_nil))))))
    (pss_one (ps_ret pe_bl)))), ?_⟩
  obtain ⟨dx, fs, L, t, as, fas, el, h1, h2, h3, h4, h5, h6⟩ := hR.ex
  have lbs : as.length = bs.length ∧ fas.length = bs.length := h4.len
  refine ⟨_, rfl, rfl, _, rfl, ?_⟩
  rcases hp with ⟨rfl, hc, lt, rfl⟩ | ⟨d, lw, rfl⟩
  · refine iteT' (by decide +kernel) ⟨_, rfl, few (by simp), fun T1 hT1 => ⟨T1, _, rfl, .inr (.inl (.inl upd_same)), rfl, rfl, _, rfl, iteT' ((inVv _ _ _).mpr (by rw [sortS_et]; exact hc)) ?_⟩⟩
    have s1 : Same H (upd H T1 (.tup [.str "expression", .str "test"])) := same_new hT1 _
    generalize upd H T1 (.tup [.str "expression", .str "test"]) = H1 at s1
    have r1 := s1 _ _ h1
    have L1 := s1 _ _ h3
    have e40 : decide (V.int ((as.map V.ref).length : Nat) = V.int 40) = false := decide_eq_false fun z => by
      have z := V.int.inj z
      rw [List.length_map, lbs.1] at z
      omega
    refine ⟨_, rfl, r, C, dx, fs, _, rfl, r1, T.cl, T.nb, h2.b, L, _, rfl, .inl (SqL.of L1), rfl, _, rfl, iteF' e40 ?_⟩
    refine ⟨_, rfl, r, C, dx, fs, _, rfl, r1, T.cl, T.nb, h2.b, .inl ⟨rfl, _, SqL.of L1⟩, _, rfl, fun a da ha hda nda => ?_⟩
    have sM : Same H1 (upd (upd H1 da (.own a)) a (.ins CBr da [])) := fun b u z => by
      rw [upd_ne (ne_of_none z ha), upd_ne (ne_of_none z hda)]
      exact z
    refine ⟨a, da, sortS c, rfl, upd_same, fun fa tt fs2 H2 e1 e2 e3 e4 e5 e6 => ⟨rfl, L, as.map V.ref, .ref a, rfl, rfl, ?_, ?_, ?_⟩⟩
    · exact e6 _ _ (ne_of_none L1 ha) (sM _ _ L1)
    · rw [List.length_map, lbs.1]
      exact small1000 (by omega)
    have s2 : Same H1 H2 := fun b u z => e6 _ _ (ne_of_none z ha) (sM _ _ z)
    have s3 := s1.trans s2
    have naL : a ≠ L := (ne_of_none L1 ha).symm
    have nfL : fa ≠ L := (ne_of_none (sM _ _ L1) e5).symm
    have ha0 : H a = none := s1.free ha
    have hf0 : H fa = none := s1.free (sM.free e5)
    obtain ⟨ntl, trl⟩ := hR.nt
    have al : a ∉ l := fun z => trl a z ha0
    have fl : fa ∉ l := fun z => trl fa z hf0
    have nd : (r :: L :: ((as ++ [a]) ++ (fas ++ [fa]))).Nodup := by
      have e : (r :: L :: ((as ++ [a]) ++ (fas ++ [fa]))).Perm (l ++ [a, fa]) := by
        rw [el]
        simp only [List.cons_append, List.append_assoc]
        refine .cons _ (.cons _ (List.Perm.append_left _ ?_))
        have z : ([a] ++ (fas ++ [fa])).Perm ((fas ++ [a]) ++ [fa]) := by
          rw [← List.append_assoc]
          exact List.Perm.append_right _ List.perm_append_comm
        simpa using z
      refine (List.Perm.nodup_iff e).mpr (List.nodup_append.mpr ⟨h6, by simp [e4.symm], fun x hx y hy => ?_⟩)
      simp only [List.mem_cons, List.not_mem_nil, or_false] at hy
      rcases hy with z | z
      · rw [z]; exact fun y => al (y ▸ hx)
      · rw [z]; exact fun y => fl (y ▸ hx)
    have ndl := h6
    rw [el] at ndl
    have nL : ∀ y ∈ r :: (as ++ fas), y ≠ L := by
      have e : (L :: r :: (as ++ fas)).Nodup := (List.Perm.nodup_iff (List.Perm.swap _ _ _)).mp ndl
      intro y hy z
      rw [z] at hy
      exact (List.nodup_cons.mp e).1 hy
    have ntL : NT [L] H2 := .cons (nt_lst (s2 _ _ L1)) .nil
    have oL : Off [L] H2 (upd H2 L (.lst (as.map V.ref ++ [.ref a]))) := Off.put (by simp)
    refine q _ (r :: L :: ((as ++ [a]) ++ (fas ++ [fa]))) ⟨dx, fs, L, t, as ++ [a], fas ++ [fa], rfl, ?_, h2, ?_, ?_, h5, nd⟩ ?_ ?_
    · rw [upd_ne (nL r (by simp))]
      exact s3 _ _ h1
    · rw [upd_same, List.map_append]
      rfl
    · have g := (h4.off (l := []) .nil (Off.of s3) (fun _ _ z => nomatch z) (fun _ _ z => nomatch z)).off ntL oL (fun y hy => by simpa using nL y (by simp [hy])) (fun y hy => by simpa using nL y (by simp [hy]))
      refine g.snoc ⟨da, fs2, .non, .ref tt, [], by rw [upd_ne naL]; exact e1, ?_, by rw [upd_ne nfL]; exact e3, .nil, rfl, Nat.zero_le _, rfl⟩
      have ew : wantedS (decide (c = 116)) = sortS c := by
        rcases hc with z | z <;> subst z <;> decide +kernel
      show FB fs2 (.str (wantedS (decide (c = 116)))) _ _ _
      rw [ew]
      exact e2
    · exact (Off.of s3).trans (oL.mono fun b hb => by rw [List.mem_singleton.mp hb, el]; simp)
    · intro b hb
      rw [el]
      simp only [List.mem_cons, List.mem_append, List.not_mem_nil, or_false] at hb ⊢
      rcases hb with z | z | (z | z) | z | z
      · exact .inl (.inl z)
      · exact .inl (.inr (.inl z))
      · exact .inl (.inr (.inr (.inl z)))
      · exact .inr (by rw [z]; exact ha0)
      · exact .inl (.inr (.inr (.inr z)))
      · exact .inr (by rw [z]; exact hf0)
  · obtain ⟨n1, n2, l1⟩ := lw.low
    refine iteF' (decide_eq_false fun z => n1 (V.str.inj z)) ?_
    refine ⟨_, rfl, _, rfl, x, c, d, rfl, lw, fun H1 s1 => ⟨_, rfl, iteF ⟨_, rfl, rfl, _, rfl, ite2 (fun cc => ?_) (fun cc => ?_)⟩⟩⟩
    · have c1 : c = 101 := by
        have z : sortS c = "expression" := V.str.inj (of_decide_eq_true cc)
        rw [sortS_e] at z
        exact z
      subst c1
      obtain ⟨q1, q2⟩ : LeafT d ∧ [x] = leafWords d := by
        have z := lw
        unfold LeafW at z
        rw [if_pos rfl] at z
        exact z
      refine ⟨_, rfl, _, rfl, x, d, rfl, q1, q2, fun v H2 s2 dv => ⟨r, v, bs, d, l, rfl, hR.same (s1.trans s2), dv, lw.nl, lf, fun H3 R3 o3 => ?_⟩⟩
      exact q H3 l R3 ((Off.of (s1.trans s2)).trans o3) fun b hb => .inl hb
    · have c1 : ¬ c = 101 := fun z => cc (decide_eq_true (by rw [z]; rfl))
      obtain ⟨a1, a2⟩ := lw.num c1
      refine ⟨_, rfl, _, rfl, few (by simp), fun T1 hT1 => ⟨T1, _, rfl, .inr (.inl (.inl upd_same)), rfl, rfl, _, rfl, ?_⟩⟩
      have s2 := s1.trans (same_new (o := .tup [.str "integer", .str "index"]) hT1)
      refine ite2 (fun ck => ?_) (fun ck => ?_)
      · obtain ⟨i, hi, rfl⟩ := a1 (by
          rw [← sortS_ki]
          exact (inVv _ _ _).mp ck)
        exact ⟨_, rfl, _, i, rfl, hi.rd, by have := hi.ln; omega, r, .int i, bs, .int i, l, rfl, hR.same s2, .int i, lw.nl, lf, fun H3 R3 o3 => q H3 l R3 ((Off.of s2).trans o3) fun b hb => .inl hb⟩
      · have e := a2 (fun z => ck (by
          rw [← sortS_ki] at z
          exact (inVv _ _ _).mpr z))
        subst e
        exact ⟨_, rfl, r, .str x, bs, .str x, l, rfl, hR.same s2, .str x, lw.nl, lf, fun H3 R3 o3 => q H3 l R3 ((Off.of s2).trans o3) fun b hb => .inl hb⟩
theorem ok_read {k : Nat} {fI fH fQ : Addr} {dI dH dQ : FuncData} (F : Fun K "read_word" "read_word" sRead f fd) (T : CR K mg C) (TB : CB K mg CBr) (mn : mg "len" = none)
    (GI : Dn P w K mg base 3 "read_item" ["reader", "word", "sort"] (spItem K C CBr) fI dI) (GH : Dn P w K mg base 2 "read_head" ["reader", "word"] (spHead K C CBr) fH dH) (GQ : Dn P w K mg base 2 "close_bracket" ["reader"] (spClose K C CBr) fQ dQ) :
    FnOk P w K mg base CX0 (k + 4) f fd ["reader", "word"] (spRead K C CBr) := by
  refine F.ok scRead (fun vs H Q E h => ?_) (fun cdv A outer s H vs Q E hr h => ?_)
  · obtain ⟨r, x, bs, l, S, rfl, _⟩ := h
    rfl
  obtain ⟨r, x, bs, l, S, rfl, hR, lf, hp, q⟩ := h
  have hr2 : Room 2 _ := hr.mono (by omega)
  have hr3 : Room 3 _ := hr.mono (by omega)
  refine ⟨_, pss_cons (ps_if (pt_cmp (pc_notN (pe_fld (pv 0) rfl))) (pss_one (ps_ret pe_bl)) pss_nil)
    (pss_cons (ps_if (pt_not (pt_truth (pe_fld (pv 0) rfl) (by intro _; rfl))) (pss_one (ps_ret (pe_call GI.ok hr3 (by rfl) GI.mg GI.kp GI.bd .nil pass0 (pa_cons (pv 0) (pa_cons (pv 1) (pa_cons pe_str pa_nil)))))) pss_nil)
    (pss_cons (ps_set (i := 2) scRead.nd rfl (.inl rfl) (pe_ix ix_list (pe_fld (pv 0) rfl) (pe_un un_neg pe_int) (fun _ _ => rfl)))
    (pss_cons (ps_if (pt_cmp (pc_isN (pe_fld (pv 2) rfl))) (pss_one (ps_ret (pe_call GH.ok hr2 (by rfl) GH.mg GH.kp GH.bd .nil pass0 (pa_cons (pv 0) (pa_cons (pv 1) pa_nil))))) pss_nil)
    (pss_cons (ps_set (i := 3) scRead.nd rfl (.inl rfl) (pe_callB call_len_seq (by rfl) mn PySem.boot_len (pa_cons (pe_fld (pv 2) rfl) pa_nil)))
    (pss_cons (ps_if (PW.pt (pw_and (pt_cmpR op_eq (pe_ix ix_tup (pe_fld (pv 2) rfl) (pe_un un_neg pe_int) (fun _ _ => rfl)) pe_str (nomark _)) (pw_and1 (pt_cmpR op_ge (pv 3) (pe_op op_sub (pe_callB call_len_seq (by rfl) mn PySem.boot_len (pa_cons (pe_fld (pv 2) rfl) pa_nil)) pe_int) (nomark _)))))
      (pss_one (ps_ret (pe_ifExp (pt_cmpR op_eq (pv 1) pe_str (nomark _)) (pe_call GQ.ok hr2 (by rfl) GQ.mg GQ.kp GQ.bd .nil pass0 (pa_cons (pv 0) pa_nil)) (pe_call GI.ok hr3 (by rfl) GI.mg GI.kp GI.bd .nil pass0 (pa_cons (pv 0) (pa_cons (pv 1) (pa_cons pe_str pa_nil))))))) pss_nil)
    (pss_cons (ps_if (pt_cmpR op_eq (pv 3) (pe_callB call_len_seq (by rfl) mn PySem.boot_len (pa_cons (pe_fld (pv 2) rfl) pa_nil)) (nomark _)) (pss_one (ps_ret (pe_and (pe_cmpR op_eq (pv 1) pe_str (nomark _)) (pe_one (pe_call GQ.ok hr2 (by rfl) GQ.mg GQ.kp GQ.bd .nil pass0 (pa_cons (pv 0) pa_nil)))))) pss_nil)
    (pss_one (ps_ret (pe_call GI.ok hr3 (by rfl) GI.mg GI.kp GI.bd .nil pass0 (pa_cons (pv 0) (pa_cons (pv 1) (pa_cons (pe_ix ix_tup (pe_fld (pv 2) rfl) (pv 3) (fun _ _ => rfl)) pa_nil)))))))))))), ?_⟩
  obtain ⟨dx, fs, L, t, as, fas, el, h1, h2, h3, h4, h5, h6⟩ := hR.ex
  have lbs : as.length = bs.length ∧ fas.length = bs.length := h4.len
  have et : t = .non := h5
  subst et
  refine ⟨_, rfl, r, C, dx, fs, _, rfl, h1, T.cl, T.nt, h2.t, ?_⟩
  refine ⟨_, rfl, iteF' (by decide) ⟨_, rfl, r, C, dx, fs, _, rfl, h1, T.cl, T.nb, h2.b, _, .inl ⟨_, SqL.of h3, rfl⟩, ?_⟩⟩
  rcases List.eq_nil_or_concat bs with e | ⟨b1, b, e⟩
  · subst e
    have ea : as = [] := List.length_eq_zero_iff.mp lbs.1
    subst ea
    refine iteT' (by decide) ?_
    rcases hp.kinds with ⟨c, hw, ip⟩ | ⟨b0, _, _, _, e, _⟩ | ⟨b0, _, _, _, _, e, _⟩
    · have ec := (Option.some.inj hw).symm
      subst ec
      exact ⟨_, rfl, _, rfl, r, x, 101, [], l, S, rfl, hR, lf, ip, q⟩
    · simp at e
    · simp at e
  · rw [List.concat_eq_append] at e
    subst e
    obtain ⟨as2, fas2, a, fa, rfl, rfl, g1, g2⟩ := h4.unsnoc
    obtain ⟨dx2, fs2, hv, sv, vs, k1, k2, k3, k4, k5, k6, k7⟩ := g2.ex
    have al : atI ((as2 ++ [a]).map V.ref) (-1) = some (.ref a) := by
      rw [List.map_append]
      exact atI_last _ _
    have lvs := DpAll.len k4
    refine iteF' (by simp) ⟨_, rfl, r, C, dx, fs, _, rfl, h1, T.cl, T.nb, h2.b, 1, rfl, L, _, -1, .ref a, rfl, rfl, SqL.of h3, al, ?_⟩
    refine ⟨_, rfl, a, CBr, dx2, fs2, _, rfl, k1, TB.cl, TB.nh, k2.h, _, rfl, ?_⟩
    rcases hp.kinds with ⟨c, hw, ip⟩ | ⟨b0, st, h, sl, e, rfl, m, n, lt, rfl⟩ | ⟨b0, st, h, sl, found, e, rfl, m, hdn, rfl⟩
    · rw [wants_snoc] at hw
      obtain ⟨wd, hd, found⟩ := b
      cases hd with
      | none => cases hw
      | some hsl =>
        obtain ⟨h, sl⟩ := hsl
        obtain ⟨rfl, m, sa, rfl, sq⟩ := k7
        have lvs : vs.length = found.length := DpAll.len k4
        have mA := tbS_all _ m
        obtain ⟨cl, al2, gl⟩ := sorts_last sl (sl_ne _ mA)
        have ls : (sortsV sl).length = sl.cps.toList.length := by simp [sortsV]
        have pos : 1 ≤ sl.cps.toList.length := List.length_pos_iff.mpr (sl_ne _ mA)
        have hw : (if sl.cps.toList.getLast? = some 115 ∧ sl.cps.toList.length - 1 ≤ found.length then some 101 else sl.cps.toList[found.length]?) = some c := hw
        rw [gl] at hw
        have np : ¬ x = ")" := by
          rcases ip with ⟨rfl, _⟩ | ⟨d, lw, _⟩
          · decide +kernel
          · exact lw.low.2.1
        refine iteF' (decide_eq_false (fun z => nomatch z)) ⟨_, rfl, a, CBr, dx2, fs2, _, rfl, k1, TB.cl, TB.nf, k2.f, fa, vs, rfl, .inl (SqL.of k3), ?_⟩
        have fin : ¬ (cl = 115 ∧ sl.cps.toList.length - 1 ≤ found.length) → found.length < sl.cps.toList.length ∧ (sortsV sl)[found.length]? = some (.str (sortS c)) := fun z => by
          rw [if_neg (fun y => z ⟨Option.some.inj y.1, y.2⟩)] at hw
          refine ⟨(List.getElem?_eq_some_iff.mp hw).1, ?_⟩
          unfold sortsV
          rw [List.getElem?_map, hw]
          rfl
        refine ⟨_, rfl, a, CBr, dx2, fs2, _, rfl, k1, TB.cl, TB.ns, k2.s, 1, rfl, sa, _, -1, _, rfl, rfl, sq H, al2, rfl, _, rfl, ite2 (fun cc => ?_) (fun cc => ?_)⟩
        · have c115 : cl = 115 := by
            have z : sortS cl = "expressions" := V.str.inj (of_decide_eq_true cc)
            rw [sortS_s] at z
            exact z
          subst c115
          refine ⟨_, rfl, _, rfl, a, CBr, dx2, fs2, _, rfl, k1, TB.cl, TB.ns, k2.s, sa, _, rfl, .inr (sq H), _, _, rfl, rfl, _, _, rfl, rfl, _, rfl, ite2 (fun c2 => ?_) (fun c2 => ?_)⟩
          · have c2 := of_decide_eq_true c2
            rw [if_pos ⟨rfl, by omega⟩] at hw
            have e := Option.some.inj hw
            subst e
            exact ⟨_, rfl, rfl, _, rfl, iteF' (decide_eq_false fun z => np (V.str.inj z)) ⟨_, rfl, _, rfl, r, x, 101, _, l, S, rfl, hR, lf, ip, q⟩⟩
          · have c2 := of_decide_eq_false (Bool.eq_false_iff.mpr c2)
            obtain ⟨f1, f2⟩ := fin (by omega)
            refine ⟨_, rfl, _, rfl, a, CBr, dx2, fs2, _, rfl, k1, TB.cl, TB.ns, k2.s, sa, _, rfl, .inr (sq H), rfl, _, rfl, iteF' (decide_eq_false (fun z => by have := V.int.inj z; omega)) ?_⟩
            refine ⟨_, rfl, _, rfl, _, rfl, a, CBr, dx2, fs2, _, rfl, k1, TB.cl, TB.ns, k2.s, _, rfl, sa, _, _, .str (sortS c), rfl, rfl, sq H, ?_, r, x, c, _, l, S, rfl, hR, lf, ip, q⟩
            rw [lvs]
            exact atI_nat f2
        · have n115 : ¬ cl = 115 := fun z => cc (decide_eq_true (by rw [V.str.injEq, sortS_s]; exact z))
          obtain ⟨f1, f2⟩ := fin (fun z => n115 z.1)
          refine ⟨_, rfl, _, rfl, a, CBr, dx2, fs2, _, rfl, k1, TB.cl, TB.ns, k2.s, sa, _, rfl, .inr (sq H), rfl, _, rfl, iteF' (decide_eq_false (fun z => by have := V.int.inj z; omega)) ?_⟩
          refine ⟨_, rfl, _, rfl, _, rfl, a, CBr, dx2, fs2, _, rfl, k1, TB.cl, TB.ns, k2.s, _, rfl, sa, _, _, .str (sortS c), rfl, rfl, sq H, ?_, r, x, c, _, l, S, rfl, hR, lf, ip, q⟩
          rw [lvs]
          exact atI_nat f2
    · obtain ⟨e1, e2⟩ := List.append_inj' e rfl
      have e2 := (List.cons.inj e2).1
      subst e1 e2
      have ev : hv = .non := k7
      subst ev
      exact iteT' (by decide) ⟨_, rfl, _, rfl, r, b1, st, x, sl, l, rfl, hR, m, n, lt, q⟩
    · obtain ⟨e1, e2⟩ := List.append_inj' e rfl
      have e2 := (List.cons.inj e2).1
      subst e1 e2
      obtain ⟨rfl, mm, sa, rfl, sq⟩ := k7
      have k4 : DpAll K H vs found := k4
      have lvs : vs.length = found.length := DpAll.len k4
      have mA := tbS_all _ m
      obtain ⟨c, al2, gl⟩ := sorts_last sl (sl_ne _ mA)
      have ls : (sortsV sl).length = sl.cps.toList.length := by simp [sortsV]
      have pos : 1 ≤ sl.cps.toList.length := List.length_pos_iff.mpr (sl_ne _ mA)
      unfold DoneP at hdn
      have hdn0 := hdn
      rw [gl] at hdn
      have l1 : ∀ b ∈ b1, b.found.length < 8000 := fun b hb => lf b (by simp [hb])
      refine iteF' (decide_eq_false (fun z => nomatch z)) ⟨_, rfl, a, CBr, dx2, fs2, _, rfl, k1, TB.cl, TB.nf, k2.f, fa, vs, rfl, .inl (SqL.of k3), ?_⟩
      refine ⟨_, rfl, a, CBr, dx2, fs2, _, rfl, k1, TB.cl, TB.ns, k2.s, 1, rfl, sa, _, -1, _, rfl, rfl, sq H, al2, rfl, _, rfl, ite2 (fun cc => ?_) (fun cc => ?_)⟩
      · have c115 : c = 115 := by
          have z : sortS c = "expressions" := V.str.inj (of_decide_eq_true cc)
          rw [sortS_s] at z
          exact z
        subst c115
        rw [if_pos rfl] at hdn
        refine ⟨_, rfl, _, rfl, a, CBr, dx2, fs2, _, rfl, k1, TB.cl, TB.ns, k2.s, sa, _, rfl, .inr (sq H), _, _, rfl, rfl, _, _, rfl, rfl, _, rfl, iteT' (decide_eq_true (by omega)) ?_⟩
        exact ⟨_, rfl, rfl, _, rfl, iteT' (by decide +kernel) ⟨_, rfl, r, b1, st, h, sl, found, l, rfl, hR, hdn0, l1, q⟩⟩
      · have n115 : ¬ c = 115 := fun z => cc (decide_eq_true (by rw [V.str.injEq, sortS_s]; exact z))
        rw [if_neg (fun z => n115 (Option.some.inj z))] at hdn
        refine ⟨_, rfl, _, rfl, a, CBr, dx2, fs2, _, rfl, k1, TB.cl, TB.ns, k2.s, sa, _, rfl, .inr (sq H), rfl, _, rfl, iteT' (decide_eq_true (by rw [lvs, ls, hdn])) ?_⟩
        exact ⟨_, rfl, rfl, _, rfl, iteT' (by decide +kernel) ⟨_, rfl, r, b1, st, h, sl, found, l, rfl, hR, hdn0, l1, q⟩⟩
end
/-! a text is read -/
def iEnumL (K : PySem.W.Frag) (ta : TA) : TI := fun σ H R => ta σ H fun vs H1 => ∃ a xs, vs = [.ref a] ∧ SqL K H1 a xs ∧ R (ItC (fun H ys => SqL K H a ys) 0) H1
section
variable {X : Cx} {e : Expr} {ta : TA} {p pos tpos : Pos} {elts : List Expr} {kk : Nat}
theorem pi_enumL (hg : Gl X "enumerate") (hm : X.mg "enumerate" = none) (ha : PA X [e] ta) (hs : starEach [e] X.env = [(false, eval e X.env)] := by rfl) :
    PI X (.Tuple elts kk tpos) (.Call (.Name "enumerate" p) [e] [] pos) (iEnumL X.K ta) := by
  refine ⟨fun pins s σ H R I h => ?_⟩
  refine Call_ (ld_blt I hg hm boot_enumerate (PyProof.Rows.callWith_type1 (thn (ha.run pos pins s σ H _ I h) fun us s1 ⟨vs, H1, I1, r1, q1⟩ => ?_) hs rfl))
  obtain ⟨a, xs, rfl, hx, q⟩ := q1
  obtain ⟨u, rfl, ru⟩ := r1.one
  cases ru
  obtain ⟨its, rv, tp, hz⟩ := I1.list hx
  exact enum_made (begins_list a its.toArray) tp.isList fun h' ee hi kp => pie_enum I1 (goer_lst a _) ee ⟨_, hi, rfl, rfl⟩ kp q
theorem ps_void {st : Stmt} : PS X st (fun _ _ _ => False) := ⟨fun _ _ _ _ _ _ h => h.elim⟩
end
theorem StepP.cnt {bs : List Br} {x : Str} {S : PSt} {i : Nat} (h : StepP bs x S) (hb : ∀ b ∈ bs, b.found.length ≤ i) : ∀ b ∈ S.brs, b.found.length ≤ i + 1 := by
  have kp : ∀ (bs : List Br) (d : PyData), (∀ b ∈ bs, b.found.length ≤ i) → ∀ b ∈ (keepP bs d).brs, b.found.length ≤ i + 1 := fun bs d hb b hm => by
    rcases List.eq_nil_or_concat bs with e | ⟨b1, b2, e⟩
    · subst e
      exact absurd hm (by simp [keepP])
    · rw [List.concat_eq_append] at e
      subst e
      rw [keepP_snoc] at hm
      rcases List.mem_append.mp hm with z | z
      · have := hb b (by simp [z])
        omega
      · rw [List.mem_singleton.mp z]
        have := hb b2 (by simp)
        show (b2.found ++ [d]).length ≤ _
        rw [List.length_append, List.length_singleton]
        omega
  cases h with
  | opens h1 h2 h3 =>
    intro b hm
    rcases List.mem_append.mp hm with z | z
    · have := hb b z
      omega
    · rw [List.mem_singleton.mp z]
      exact Nat.zero_le _
  | head h1 h2 h3 =>
    intro b hm
    rcases List.mem_append.mp hm with z | z
    · have := hb b (by simp [z])
      omega
    · rw [List.mem_singleton.mp z]
      exact Nat.zero_le _
  | leaf h1 h2 => exact kp _ _ hb
  | close h1 h2 => exact kp _ _ fun b hm => hb b (by simp [hm])
/-- a word that has no blank in it -/
def Cln (x : Str) : Prop := 32 ∉ x.cps.toList ∧ x.length ≤ 20
theorem heads_cln : ∀ p ∈ allL, (decide (32 ∉ p.1.cps.toList) && decide (p.1.length ≤ 20)) = true := by decide +kernel
theorem LeafW.cln {c : Nat} {x : Str} {d : PyData} (h : LeafW c x d) : Cln x := by
  have num : ∀ i, NumT i x → Cln x := fun i z => ⟨fun m => by have := z.lo 32 m; omega, by have := z.ln; omega⟩
  have nam : ∀ y : Str, isNm y = true → 32 ∉ y.cps.toList ∧ y.length ≤ 8 := fun y z => by
    unfold isNm at z
    simp only [Bool.and_eq_true, decide_eq_true_eq, List.all_eq_true] at z
    refine ⟨fun m => ?_, z.1.2⟩
    have := z.2 32 m
    revert this
    decide
  rcases h.cases with ⟨_, h2⟩ | ⟨_, i, h, _⟩ | ⟨_, i, h, _, _⟩ | ⟨_, h, _⟩ | ⟨_, h, _⟩
  · clear h
    rcases h2 with ⟨i, _, h⟩ | ⟨_, h⟩ | ⟨y, _, rfl, h⟩
    · exact num i h
    · obtain ⟨a, b⟩ := nam x h
      exact ⟨a, by omega⟩
    · obtain ⟨a, b⟩ := nam y h
      obtain ⟨_, _, _, _, a5, a6⟩ := q_head y
      refine ⟨?_, by omega⟩
      rw [a6]
      exact fun z => (List.mem_cons.mp z).elim (fun z => by omega) a
  · exact num i h
  · exact num i h
  · obtain ⟨a, b⟩ := nam x h
    exact ⟨a, by omega⟩
  · rcases h with rfl | rfl | rfl
    · exact ⟨by decide +kernel, by decide +kernel⟩
    · exact ⟨by decide +kernel, by decide +kernel⟩
    · exact ⟨by decide +kernel, by decide +kernel⟩
theorem StepP.cln {bs : List Br} {x : Str} {S : PSt} (h : StepP bs x S) : Cln x := by
  cases h with
  | opens h1 h2 h3 => exact ⟨by decide +kernel, by decide +kernel⟩
  | head h1 h2 h3 =>
    have z := heads_cln _ (tbS_all _ h1)
    simp only [Bool.and_eq_true, decide_eq_true_eq] at z
    exact z
  | leaf h1 h2 => exact h2.cln
  | close h1 h2 => exact ⟨by decide +kernel, by decide +kernel⟩
theorem GoP.cln {bs b2 : List Br} {ws : List Str} (g : GoP bs ws b2) : ∀ x ∈ ws, Cln x := by
  induction g with
  | nil => exact fun _ z => nomatch z
  | cons s _ ih =>
    intro x hx
    rcases List.mem_cons.mp hx with z | z
    · rw [z]; exact s.cln
    · exact ih x z
theorem StepsP.cln {bs : List Br} {ws : List Str} {S : PSt} (h : StepsP bs ws S) : ws ≠ [] ∧ ∀ x ∈ ws, Cln x := by
  obtain ⟨ws0, w, b1, rfl, g, s⟩ := h
  refine ⟨by simp, fun x hx => ?_⟩
  rcases List.mem_append.mp hx with z | z
  · exact g.cln x z
  · rw [List.mem_singleton.mp z]; exact s.cln
theorem split_back {ws : List Str} (ne : ws ≠ []) (h : ∀ x ∈ ws, 32 ∉ x.cps.toList) : Txt.split (Txt.join " " ws) " " = ws := by
  have e1 : (" " : Str) = SX.S [32] := by decide +kernel
  have e2 : ws = (ws.map TL.tl).map SX.S := by
    rw [List.map_map]
    have : SX.S ∘ TL.tl = id := funext fun x => SX.S_tl x
    rw [this, List.map_id]
  rw [e1]
  conv => lhs; rw [e2]
  rw [SX.join_S, SX.split_S (by simp) (by decide), SX.spl_join (by simpa using ne) (fun p hp => ?_), ← e2]
  obtain ⟨x, hx, rfl⟩ := List.mem_map.mp hp
  exact h x hx
theorem join_len {ws : List Str} {m : Nat} (h : ∀ x ∈ ws, x.length ≤ m) : (ws.map (·.length)).sum ≤ ws.length * m := by
  induction ws with
  | nil => simp
  | cons x xs ih =>
    have h1 := h x List.mem_cons_self
    have h2 := ih fun y hy => h y (List.mem_cons_of_mem _ hy)
    simp only [List.map_cons, List.sum_cons, List.length_cons, Nat.add_mul, Nat.one_mul]
    omega
theorem LeafT.tup {d : PyData} (h : LeafT d) : ∃ h args, d = .tuple (.str h :: args) := by
  rcases h with ⟨i, rfl, _⟩ | ⟨x, h | h, _⟩
  · exact ⟨_, _, rfl⟩
  · exact ⟨_, _, h⟩
  · exact ⟨_, _, h⟩
theorem Wx.tup : ∀ {f : Nat} {s : Bool} {d : PyData}, Wx f s d → ∃ h args, d = .tuple (.str h :: args)
  | 0, _, _, h => h.2.tup
  | _ + 1, _, _, h => by
    rcases h with h | ⟨h0, sl, args, e, _⟩
    · exact h.2.tup
    · exact ⟨_, _, e⟩
abbrev sRx : Stmt := topS 17
theorem scRx : FnScope ["text", "reader", "words", "at", "word"] ["text"] (defScope sRx) := ⟨rfl, rfl, rfl, by decide +kernel, rfl, by decide +kernel, by decide +kernel⟩
def spRx (K : PySem.W.Frag) : Sp := fun vs H Q _ => ∃ x d f, vs = [.str x] ∧ x = Txt.join " " (wordsD f d) ∧ x.length + 2 ≤ sizeLine ∧ Wx f false d ∧ f ≤ 40 ∧ (wordsD f d).length ≤ 7900 ∧ ∀ v H', Same H H' → Dp K H' v d → Q v H'
def AtP (ws0 : List Str) (b1 : List Br) (d : PyData) (i : Nat) (S : PSt) : Prop := (i ≤ ws0.length ∧ ∃ b, S = ⟨b, none⟩ ∧ GoP b (ws0.drop i) b1) ∨ (i = ws0.length + 1 ∧ S = ⟨[], some d⟩)
theorem AtP.next {ws0 : List Str} {w : Str} {b1 : List Br} {d : PyData} {i : Nat} {S : PSt} {x : Str} (h : AtP ws0 b1 d i S) (sw : StepP b1 w ⟨[], some d⟩) (hx : (ws0 ++ [w])[i]? = some x) : ∃ b S2, S = ⟨b, none⟩ ∧ StepP b x S2 ∧ AtP ws0 b1 d (i + 1) S2 := by
  have hi := (List.getElem?_eq_some_iff.mp hx).1
  rw [List.length_append, List.length_singleton] at hi
  rcases h with ⟨hl, b, rfl, g⟩ | ⟨hl, _⟩
  · by_cases z : i < ws0.length
    · rw [List.getElem?_append_left z] at hx
      rw [List.drop_eq_getElem_cons z] at g
      have ex : ws0[i] = x := (List.getElem?_eq_some_iff.mp hx).2
      rw [ex] at g
      cases g with
      | cons s g2 => exact ⟨b, _, rfl, s, .inl ⟨z, _, rfl, g2⟩⟩
    · have e : i = ws0.length := by omega
      subst e
      rw [List.getElem?_append_right (Nat.le_refl _), Nat.sub_self] at hx
      have ex : w = x := Option.some.inj hx
      subst ex
      rw [List.drop_length] at g
      cases g
      exact ⟨b1, _, rfl, sw, .inr ⟨rfl, rfl⟩⟩
  · omega
section
variable {P : Program} {w : World} {K : PySem.W.Frag} {mg : Str → Option Value} {base : Heap} {f fR fW : Addr} {fd dR dW : FuncData} {C CBr : Addr}
theorem ok_rx {k : Nat} (F : Fun K "read_expression" "read_expression" sRx f fd) (T : CR K mg C) (me : mg "enumerate" = none) (MR : Mk K C fR) (GR : FnOk P w K mg base CX0 1 fR dR ["self"] (spRIni C)) (bR : Binds K dR ["self"] [])
    (GW : Dn P w K mg base 4 "read_word" ["reader", "word"] (spRead K C CBr) fW dW) : FnOk P w K mg base CX0 (k + 5) f fd ["text"] (spRx K) := by
  refine F.ok scRx (fun vs H Q E h => ?_) (fun cdv A outer s H vs Q E hr h => ?_)
  · obtain ⟨x, d, f0, rfl, _⟩ := h
    rfl
  obtain ⟨x, d, f0, rfl, ex, lx, wx, hf, lw, q⟩ := h
  have hr2 : Room 2 _ := hr.mono (by omega)
  have hr4 : Room 4 _ := hr.mono (by omega)
  refine ⟨_, pss_cons (ps_set (i := 1) scRx.nd rfl (.inl rfl) (pe_make0 MR GR hr2 (by rfl) T.mg bR .nil pass0))
    (pss_cons (ps_set (i := 2) scRx.nd rfl (.inl rfl) (pe_split (pv 0) pe_str))
    (pss_cons (ps_for PassesOwn.never rfl (pi_enumL (by rfl) me (pa_cons (pv 2) pa_nil)) (pg_tup (by rfl) (pgs_cons (pg_name (i := 3) scRx.nd rfl (.inl rfl)) (pgs_cons (pg_name (i := 4) scRx.nd rfl (.inl rfl)) pgs_nil)))
      (pss_one (ps_if (pt_not (pt_val (pe_call GW.ok hr4 (by rfl) GW.mg GW.kp GW.bd .nil pass0 (pa_cons (pv 1) (pa_cons (pv 4) pa_nil))))) (pss_one ps_void) pss_nil)))
    (pss_cons (ps_if (pt_cmp (pc_isN (pe_fld (pv 1) rfl))) (pss_one ps_void) pss_nil)
    (pss_one (ps_ret (pe_fld (pv 1) rfl)))))), ?_⟩
  obtain ⟨ws0, wl, b1, ews, gs, sw⟩ := reads f0 [] false d wx rfl (by simpa using hf)
  rw [keepP_nil] at sw
  obtain ⟨nws, cl⟩ := StepsP.cln ⟨ws0, wl, b1, ews, gs, sw⟩
  refine fun r dr hr0 hd0 nrd => ?_
  have sM : Same H (upd (upd H dr (.own r)) r (.ins C dr [])) := fun b u z => by
    rw [upd_ne (ne_of_none z hr0), upd_ne (ne_of_none z hd0)]
    exact z
  refine ⟨r, dr, rfl, upd_same, fun L fs H1 e1 e2 e3 e4 e5 e6 => ⟨rfl, ?_⟩⟩
  have s1 : Same H H1 := fun b u z => e6 _ _ (ne_of_none z hr0) (sM _ _ z)
  have hL0 : H L = none := sM.free e5
  have R1 : RdAt K C CBr H1 r [r, L] ⟨[], none⟩ := ⟨dr, fs, L, .non, [], [], rfl, e1, e2, e3, trivial, rfl, by simp [e4.symm]⟩
  have hsp : Txt.split x " " = ws0 ++ [wl] := by
    rw [ex, ews]
    rw [ews] at cl nws
    exact split_back nws fun y hy => (cl y hy).1
  refine ⟨_, rfl, ⟨_, rfl⟩, x, " ", rfl, rfl, by decide +kernel, lx, fun p hp => ?_⟩
  rw [hsp]
  have s2 : Same H1 (upd H1 p (.lst ((ws0 ++ [wl]).map V.str))) := same_new hp _
  have hp2 : (upd H1 p (.lst ((ws0 ++ [wl]).map V.str))) p = some (.lst ((ws0 ++ [wl]).map V.str)) := upd_same
  have pl : p ∉ [r, L] := fun z => by
    simp only [List.mem_cons, List.not_mem_nil, or_false] at z
    rcases z with z | z
    · rw [z, e1] at hp
      cases hp
    · rw [z, e3] at hp
      cases hp
  generalize upd H1 p (.lst ((ws0 ++ [wl]).map V.str)) = H2 at s2 hp2
  have s12 := s1.trans s2
  have lws : ws0.length + 1 ≤ 7900 := by
    rw [ews, List.length_append, List.length_singleton] at lw
    exact lw
  refine ⟨_, rfl, p, _, rfl, SqL.of hp2, for_it (walk_C (Its := fun H ys => SqL K H p ys) (xs := (ws0 ++ [wl]).map V.str) (k0 := 0)) (fun i σ H3 => ∃ l S o3 o4, σ = [some (.str x), some (.ref r), some (.ref p), o3, o4] ∧ RdAt K C CBr H3 r l S ∧ p ∉ l ∧ H3 p = some (.lst ((ws0 ++ [wl]).map V.str)) ∧ AtP ws0 b1 d i S ∧ (∀ b ∈ S.brs, b.found.length ≤ i) ∧ Same H H3 ∧ ∀ b ∈ l, H b = none)
    ⟨[r, L], ⟨[], none⟩, none, none, rfl, R1.same s2, pl, hp2, .inl ⟨Nat.zero_le _, [], rfl, gs⟩, (fun _ z => nomatch z), s12, fun b hb => ?_⟩ ?_ ?_ ?_⟩
  · simp only [List.mem_cons, List.not_mem_nil, or_false] at hb
    rcases hb with z | z
    · rw [z]; exact hr0
    · rw [z]; exact hL0
  · rintro i σ H3 hi ⟨l, S, o3, o4, rfl, g1, g2, g3, g4, g5, g6, g7⟩
    exact SqL.of g3
  · rintro i y σ H3 H3' hi ⟨l, S, o3, o4, rfl, g1, g2, g3, g4, g5, g6, g7⟩ ⟨T, z, rfl, hT, rfl, hz⟩
    rw [List.getElem?_map] at hz
    obtain ⟨xw, hw, rfl⟩ := Option.map_eq_some_iff.mp hz
    obtain ⟨b, S2, rfl, st, g8⟩ := g4.next sw hw
    have s3 : Same H3 (upd H3 T (.tup [.int (0 + (i : Nat)), .str xw])) := same_new hT _
    have hi2 : i < ws0.length + 1 := by simpa using hi
    have lf : ∀ b' ∈ b, b'.found.length < 8000 := fun b' hb => by
      have := g5 b' hb
      omega
    refine ⟨T, [.int (0 + (i : Nat)), .str xw], rfl, .inl (.inl upd_same), rfl, _, _, rfl, _, _, rfl, rfl, ?_⟩
    refine ⟨_, rfl, _, rfl, r, xw, b, l, S2, rfl, g1.same s3, lf, st, fun H4 l4 R4 o4' m4 => ⟨_, rfl, iteF ⟨l4, S2, _, _, rfl, R4, ?_, ?_, g8, ?_, ?_, ?_⟩⟩⟩
    · intro z
      rcases m4 p z with y | y
      · exact g2 y
      · rw [s3 _ _ g3] at y
        cases y
    · exact o4'.get (s3 _ _ g3) g2
    · exact st.cnt g5
    · intro b' u z
      exact o4'.get ((g6.trans s3) _ _ z) (fun y => by rw [g7 b' y] at z; cases z)
    · intro b' hb
      rcases m4 b' hb with y | y
      · exact g7 b' y
      · exact (g6.trans s3).free y
  · rintro σ H3 ⟨l, S, o3, o4, rfl, g1, g2, g3, g4, g5, g6, g7⟩
    have eS : S = ⟨[], some d⟩ := by
      rw [List.length_map, List.length_append, List.length_singleton] at g4
      rcases g4 with ⟨z, _⟩ | ⟨_, z⟩
      · omega
      · exact z
    subst eS
    obtain ⟨dx, fs, L, t, as, fas, el, h1, h2, h3, h4, h5, h6⟩ := g1.ex
    obtain ⟨h5, h7⟩ := h5
    refine ⟨_, rfl, r, C, dx, fs, _, rfl, h1, T.cl, T.nt, h2.t, _, rfl, iteF' ?_ ⟨_, rfl, r, C, dx, fs, _, rfl, h1, T.cl, T.nt, h2.t, q t H3 g6 h5⟩⟩
    refine decide_eq_false fun z => ?_
    rw [z] at h5
    have : ∃ h args, d = .tuple (.str h :: args) := by
      exact wx.tup
    obtain ⟨h, args, rfl⟩ := this
    cases h5
end
/-! a tree's text -/
abbrev sFur : Stmt := topS 14
abbrev sShow : Stmt := topS 13
theorem scFur : FnScope ["tree", "things", "item", "sort"] ["tree"] (defScope sFur) := ⟨rfl, rfl, rfl, by decide +kernel, rfl, by decide +kernel, by decide +kernel⟩
theorem scShow : FnScope ["tree", "words", "todo", "one", "things"] ["tree"] (defScope sShow) := ⟨rfl, rfl, rfl, by decide +kernel, rfl, by decide +kernel, by decide +kernel⟩
def thS (c : Nat) (d : PyData) : List PyData := if c = 115 then kidsT d else if c = 107 ∨ c = 105 then [.str (txt d)] else [d]
def thD : List Nat → List PyData → List PyData
  | c :: cs, d :: ds => thS c d ++ thD cs ds
  | [], _ => []
  | _ :: _, [] => []
theorem thD_app : ∀ (cs cs2 : List Nat) (ds ds2 : List PyData), cs.length = ds.length → thD (cs ++ cs2) (ds ++ ds2) = thD cs ds ++ thD cs2 ds2
  | [], cs2, [], ds2, _ => rfl
  | c :: cs, cs2, d :: ds, ds2, h => by
    have h2 : cs.length = ds.length := by simpa using h
    show thS c d ++ thD (cs ++ cs2) (ds ++ ds2) = (thS c d ++ thD cs ds) ++ _
    rw [thD_app cs cs2 ds ds2 h2, List.append_assoc]
  | [], cs2, _ :: _, ds2, h => by cases h
  | _ :: _, cs2, [], ds2, h => by cases h
theorem thD_take {i : Nat} {cs : List Nat} {ds : List PyData} {c : Nat} {d : PyData} (h : cs.length = ds.length) (hc : cs[i]? = some c) (hd : ds[i]? = some d) : thD (cs.take (i + 1)) (ds.take (i + 1)) = thD (cs.take i) (ds.take i) ++ thS c d := by
  rw [get_take hc, get_take hd, thD_app _ _ _ _ (by rw [List.length_take, List.length_take, h])]
  simp [thD]
theorem thS_nl {c : Nat} {d : PyData} (h : nl d = true) : nls (thS c d) = true := by
  unfold thS
  split
  · cases d with
    | tuple es => simpa only [kidsT, nl] using h
    | _ => rfl
  · split
    · simp only [nls, nl, Bool.and_self]
    · simp only [nls, h, Bool.and_self]
theorem thD_nl : ∀ {cs : List Nat} {ds : List PyData}, nls ds = true → nls (thD cs ds) = true
  | c :: cs, d :: ds, h => by
    simp only [nls, Bool.and_eq_true] at h
    show nls (thS c d ++ thD cs ds) = true
    rw [nls_app, thS_nl h.1, thD_nl h.2]
    rfl
  | [], _, _ => rfl
  | _ :: _, [], _ => rfl
theorem nls_take {ds : List PyData} (i : Nat) (h : nls ds = true) : nls (ds.take i) = true := by
  have e := congrArg nls (List.take_append_drop i ds)
  rw [nls_app, h, Bool.and_eq_true] at e
  exact e.1
/-- one slot's data is as the slot wants it -/
def SlotD (W : Bool → PyData → Prop) (c : Nat) (d : PyData) : Prop := if c = 115 then ∃ es, d = .tuple es ∧ ∀ e ∈ es, W false e else if c = 101 then W false d else if c = 116 then W true d else LeafOk c d
theorem ArgOk.at {W : Bool → PyData → Prop} : ∀ {cs : List Nat} {ds : List PyData} {i c : Nat} {d : PyData}, ArgOk W cs ds → cs[i]? = some c → ds[i]? = some d → SlotD W c d
  | c0 :: cs, d0 :: ds, 0, c, d, h, hc, hd => by
    simp at hc hd
    subst hc hd
    exact h.1
  | c0 :: cs, d0 :: ds, i + 1, c, d, h, hc, hd => ArgOk.at h.2 (by simpa using hc) (by simpa using hd)
  | [], _, _, _, _, _, hc, _ => by simp at hc
  | _ :: _, [], _, _, _, h, _, _ => h.elim
theorem thS_small {W : Bool → PyData → Prop} {c : Nat} {d : PyData} (h : SlotD W c d) : (thS c d).length ≤ nod d := by
  unfold thS
  split
  · cases d with
    | tuple es =>
      have := nods_len es
      simp only [kidsT, nod]
      omega
    | _ => simp [kidsT]
  · have : 1 ≤ nod d := by
      cases d <;> simp only [nod] <;> omega
    split <;> simpa using this
theorem thD_small {W : Bool → PyData → Prop} : ∀ {cs : List Nat} {ds : List PyData}, ArgOk W cs ds → (thD cs ds).length ≤ nods ds
  | c :: cs, d :: ds, h => by
    have h1 := thS_small (W := W) (c := c) (d := d) h.1
    have h2 := thD_small h.2
    simp only [thD, List.length_append, nods]
    omega
  | [], _, _ => by simp [thD]
  | _ :: _, [], h => h.elim
theorem thD_pre : ∀ (i : Nat) {cs : List Nat} {ds : List PyData}, cs.length = ds.length → (thD (cs.take i) (ds.take i)).length ≤ (thD cs ds).length := fun i cs ds h => by
  have e := thD_app (cs.take i) (cs.drop i) (ds.take i) (ds.drop i) (by rw [List.length_take, List.length_take, h])
  rw [List.take_append_drop, List.take_append_drop] at e
  rw [e, List.length_append]
  omega
theorem num_log {i : Int} (h : i.natAbs < 10 ^ 18) : i.natAbs.log2 < 1920 := by
  by_cases z : i.natAbs = 0
  · rw [z]
    decide
  · exact (Nat.log2_lt z).mpr (Nat.lt_of_lt_of_le h (Nat.le_trans (by decide : 10 ^ 18 ≤ 2 ^ 60) (Nat.pow_le_pow_right (by decide) (by decide))))
def spFur (K : PySem.W.Frag) : Sp := fun vs H Q _ => ∃ a h sl xs args W, vs = [.ref a] ∧ SqT K H a (.str h :: xs) ∧ DpAll K H xs args ∧ nls args = true ∧ (h, sl) ∈ allL ∧ ArgOk W sl.cps.toList args ∧ nods args ≤ 8000 ∧
  ∀ L us H', Same H H' → H L = none → H' L = some (.lst us) → DpAll K H' us (thD sl.cps.toList args) → Q (.ref L) H'
section
variable {P : Program} {w : World} {K : PySem.W.Frag} {mg : Str → Option Value} {base : Heap} {f fI : Addr} {fd dI : FuncData}
theorem ok_fur {k : Nat} (F : Fun K "further_things" "further_things" sFur f fd) (ms : mg "str" = none) (GI : Dn P w K mg base 2 "sorted_items" ["tree"] (spItems K) fI dI) : FnOk P w K mg base CX0 (k + 3) f fd ["tree"] (spFur K) := by
  refine F.ok scFur (fun vs H Q E h => ?_) (fun cdv A outer s H vs Q E hr h => ?_)
  · obtain ⟨a, h, sl, xs, args, W, rfl, _⟩ := h
    rfl
  obtain ⟨a, h, sl, xs, args, W, rfl, hx, dx, na, m, ok, nd, q⟩ := h
  have hr2 : Room 2 _ := hr.mono (by omega)
  refine ⟨_, pss_cons (ps_set (i := 1) scFur.nd rfl (.inl rfl) (pe_lst pa_nil))
    (pss_cons (ps_for PassesOwn.never rfl (pi_list (pe_call GI.ok hr2 (by rfl) GI.mg GI.kp GI.bd .nil pass0 (pa_cons (pv 0) pa_nil))) (pg_tup (by rfl) (pgs_cons (pg_name (i := 2) scFur.nd rfl (.inl rfl)) (pgs_cons (pg_name (i := 3) scFur.nd rfl (.inl rfl)) pgs_nil)))
      (pss_one (ps_if (pt_cmpR op_eq (pv 3) pe_str (nomark _))
        (pss_one (ps_expr (pe_bm PySem.F.plainAttrs_list PySem.F.slot_list_extend PySem.F.type_list_extend mt_extT (pv 1) (pa_cons (pv 2) pa_nil))))
        (pss_one (ps_if (pt_cmpR op_in_seq (pv 3) (pe_tup (pa_cons pe_str (pa_cons pe_str pa_nil))) rfl)
          (pss_one (ps_expr (pe_bm PySem.F.plainAttrs_list PySem.F.slot_list_append PySem.F.type_list_append mt_append (pv 1) (pa_cons (pe_callTy call_str_int (by rfl) ms (by decide +kernel) (pa_cons (pv 2) pa_nil)) pa_nil))))
          (pss_one (ps_expr (pe_bm PySem.F.plainAttrs_list PySem.F.slot_list_append PySem.F.type_list_append mt_append (pv 1) (pa_cons (pv 2) pa_nil)))))))))
    (pss_one (ps_ret (pv 1)))), ?_⟩
  refine ⟨by decide, fun L hL => ?_⟩
  have s1 : Same H (upd H L (.lst [])) := same_new hL _
  have lx := DpAll.len dx
  have la := ok.len
  have ln := nods_len args
  have lsl := sl_len _ m
  simp only at lsl
  refine ⟨_, rfl, a, h, sl, xs, rfl, seqT_up s1 hx, by omega, m, by omega, fun p ts H3 s3 hp hl3 lt at3 => ?_⟩
  have hL3 : H3 L = some (.lst []) := s3 _ _ upd_same
  have s03 : Same H H3 := s1.trans s3
  have ntL3 : NT [L] H3 := .cons (nt_lst hL3) .nil
  have npL : p ≠ L := fun z => by
    rw [z, upd_same] at hp
    cases hp
  have ntL : ∀ (j : Nat) (t : Addr), ts[j]? = some t → t ≠ L := fun j t e z => by
    obtain ⟨x, c, _, _, h3⟩ := at3 j t e
    rw [z, hL3] at h3
    cases h3
  have hbnd := thD_small ok
  refine ⟨p, rfl, ⟨_, SqL.of hl3⟩, for_list (K := K) (a := p) (xs := ts.map V.ref) (fun i σ H2 => ∃ o2 o3 us, σ = [some (.ref a), some (.ref L), o2, o3] ∧ H2 L = some (.lst us) ∧ DpAll K H2 us (thD (sl.cps.toList.take i) (args.take i)) ∧ Off [L] H3 H2)
    ⟨none, none, [], rfl, hL3, .nil, Off.refl _ _⟩ ?_ ?_ ?_⟩
  · rintro i σ H2 hi ⟨o2, o3, us, rfl, h1, h2, h3⟩
    exact SqL.of (h3.get hl3 (by simpa using npL))
  · rintro i y σ H2 hi ⟨o2, o3, us, rfl, h1, h2, h3⟩
    rw [List.getElem?_map] at hi
    obtain ⟨t, ht, rfl⟩ := Option.map_eq_some_iff.mp hi
    obtain ⟨x, c, ex, ec, h3t⟩ := at3 i t ht
    have h2t := h3.get h3t (by simpa using ntL i t ht)
    obtain ⟨d, ed, dxd⟩ := DpAll.get dx ex
    have ndl : nl d = true := nls_mem na (List.mem_of_getElem? ed)
    have dx2 : Dp K H2 x d := Dp.off (Dp.up s03 _ _ dxd) ntL3 ndl h3
    have tk := thD_take la ec ed
    have sd := ok.at ec ed
    have lus := DpAll.len h2
    have lpre := thD_pre i la
    have ntc : nls (thD (sl.cps.toList.take i) (args.take i)) = true := thD_nl (nls_take i na)
    have ntL2 : NT [L] H2 := .cons (nt_lst h1) .nil
    refine ⟨t, [x, .str (sortS c)], rfl, .inl (.inl h2t), rfl, _, _, rfl, _, _, rfl, rfl, ?_⟩
    refine ⟨_, rfl, rfl, _, rfl, ite2 (fun cc => ?_) (fun cc => ?_)⟩
    · have c115 : c = 115 := by
        have z : sortS c = "expressions" := V.str.inj (of_decide_eq_true cc)
        rw [sortS_s] at z
        exact z
      subst c115
      unfold SlotD at sd
      rw [if_pos rfl] at sd
      obtain ⟨es, rfl, _⟩ := sd
      obtain ⟨b, ys, es2, rfl, e2, hb, dys⟩ := tup_of dx2 rfl
      cases e2
      have lys := DpAll.len dys
      have sml : (thS 115 (.tuple es)).length ≤ nod (.tuple es) := by
        have := nods_len es
        simp only [thS, kidsT, nod, if_true]
        omega
      have ndt := nods_mem (List.mem_of_getElem? ed)
      have e5 : thS 115 (.tuple es) = es := by simp only [thS, kidsT, if_true]
      rw [e5] at sml tk
      have o : Off [L] H2 (upd H2 L (.lst (us ++ ys))) := Off.put (by simp)
      refine ⟨_, rfl, .inl ⟨rfl, _, SqL.of h1⟩, _, rfl, L, b, us, ys, rfl, rfl, h1, hb, few2 (by omega), _, _, us ++ ys, rfl, upd_same, ?_, h3.trans o⟩
      rw [tk]
      exact DpAll.app (DpAll.off h2 ntL2 ntc o) (DpAll.off dys ntL2 (by simpa only [nl] using ndl) o)
    · have n115 : ¬ c = 115 := fun z => cc (decide_eq_true (by rw [V.str.injEq, sortS_s]; exact z))
      refine ⟨_, rfl, few (by simp), fun T2 hT2 => ⟨T2, _, rfl, .inr (.inl (.inl upd_same)), rfl, rfl, _, rfl, ?_⟩⟩
      have s5 : Same H2 (upd H2 T2 (.tup [.str "integer", .str "index"])) := same_new hT2 _
      generalize upd H2 T2 (.tup [.str "integer", .str "index"]) = H5 at s5
      have h15 := s5 _ _ h1
      have ntL5 : NT [L] H5 := .cons (nt_lst h15) .nil
      have fin : ∀ (v : V) (d2 : PyData), Dp K H5 v d2 → nl d2 = true → thS c d = [d2] → ∃ o2 o3 us_1, [some (V.ref a), some (V.ref L), some x, some (V.str (sortS c))] = [some (V.ref a), some (V.ref L), o2, o3] ∧ (upd H5 L (.lst (us ++ [v]))) L = some (.lst us_1) ∧ DpAll K (upd H5 L (.lst (us ++ [v]))) us_1 (thD (sl.cps.toList.take (i + 1)) (args.take (i + 1))) ∧ Off [L] H3 (upd H5 L (.lst (us ++ [v]))) := by
        intro v d2 hv n2 e
        have o : Off [L] H5 (upd H5 L (.lst (us ++ [v]))) := Off.put (by simp)
        refine ⟨_, _, us ++ [v], rfl, upd_same, ?_, h3.trans ((Off.of s5).trans o)⟩
        rw [tk, e]
        exact DpAll.app (DpAll.off (Dp.ups s5 _ _ h2) ntL5 ntc o) (.cons (Dp.off hv ntL5 n2 o) .nil)
      refine ite2 (fun ck => ?_) (fun ck => ?_)
      · have hc : c = 107 ∨ c = 105 := by
          rw [← sortS_ki]
          exact (inVv _ _ _).mp ck
        have hi2 : ∃ j : Int, d = .int j ∧ j.natAbs < 10 ^ 18 := by
          unfold SlotD at sd
          rw [if_neg n115, if_neg (by omega), if_neg (by omega)] at sd
          rcases sd with ⟨_, j, e, hj⟩ | ⟨_, j, e, _, hj⟩ | ⟨z, _⟩ | ⟨z, _⟩
          · exact ⟨j, e, hj⟩
          · exact ⟨j, e, hj⟩
          · omega
          · omega
        obtain ⟨j, rfl, hj⟩ := hi2
        cases dx2
        refine ⟨_, rfl, .inl ⟨rfl, _, SqL.of h15⟩, _, rfl, j, rfl, num_log hj, L, us, _, rfl, rfl, h15, Nat.lt_of_le_of_lt (by omega : us.length ≤ 100000) (by decide), fin _ (.str (txt (.int j))) (.str _) (by simp only [nl]) ?_⟩
        unfold thS
        rw [if_neg n115, if_pos hc]
      · have hc : ¬ (c = 107 ∨ c = 105) := fun z => ck (by
          rw [← sortS_ki] at z
          exact (inVv _ _ _).mpr z)
        refine ⟨_, rfl, .inl ⟨rfl, _, SqL.of h15⟩, _, rfl, L, us, _, rfl, rfl, h15, Nat.lt_of_le_of_lt (by omega : us.length ≤ 100000) (by decide), fin _ d (Dp.up s5 _ _ dx2) ndl ?_⟩
        unfold thS
        rw [if_neg n115, if_neg hc]
  · rintro σ H2 ⟨o2, o3, us, rfl, h1, h2, h3⟩
    refine ⟨_, rfl, ?_⟩
    rw [List.length_map, List.take_of_length_le (by omega), List.take_of_length_le (by omega)] at h2
    have s2 : Same H H2 := fun b u z => h3.get (s03 _ _ z) (by simpa using ne_of_none z hL)
    exact q L us H2 s2 hL h1 h2
end
/-! show_expression -/
theorem dpAll_rev {K : PySem.W.Frag} {H : Hp} : ∀ {vs : List V} {ds : List PyData}, DpAll K H vs ds → DpAll K H vs.reverse ds.reverse
  | _, _, .nil => .nil
  | _, _, .cons a t => by
    rw [List.reverse_cons, List.reverse_cons]
    exact DpAll.app (dpAll_rev t) (.cons a .nil)
theorem nls_rev : ∀ ds : List PyData, nls ds.reverse = nls ds
  | [] => rfl
  | d :: ds => by
    rw [List.reverse_cons, nls_app, nls_rev ds]
    simp only [nls, Bool.and_true]
    exact Bool.and_comm _ _
def wt : PyData → List Str
  | .str x => [x]
  | d => wordsD 40 d
def Itm (e : PyData) : Prop := (∃ x, e = .str x) ∨ ∃ f s, f ≤ 40 ∧ Wx f s e ∧ nod e ≤ 8000
theorem wt_tree {f : Nat} {s : Bool} {d : PyData} (h : Wx f s d) (hf : f ≤ 40) : wt d = wordsD f d := by
  obtain ⟨h0, args, rfl⟩ := h.tup
  exact words_mono h hf
theorem slot_itm {f c : Nat} {d : PyData} (hf : f ≤ 40) (h : SlotD (Wx f) c d) (hn : nod d ≤ 8000) : (∀ e ∈ thS c d, Itm e) ∧ (thS c d).flatMap wt = if c = 115 then (kidsT d).flatMap (wordsD f) else if c = 101 ∨ c = 116 then wordsD f d else [txt d] := by
  unfold SlotD at h
  unfold thS
  split at h
  · rename_i c1
    obtain ⟨es, rfl, hw⟩ := h
    rw [if_pos c1, if_pos c1]
    simp only [kidsT]
    refine ⟨fun e he => .inr ⟨f, false, hf, hw e he, Nat.le_trans (nods_mem he) (by simp only [nod] at hn; omega)⟩, ?_⟩
    clear hn
    induction es with
    | nil => rfl
    | cons e es ih =>
      rw [List.flatMap_cons, List.flatMap_cons, wt_tree (hw e List.mem_cons_self) hf, ih fun x hx => hw x (List.mem_cons_of_mem _ hx)]
  · rename_i c1
    rw [if_neg c1, if_neg c1]
    split at h
    · rename_i c2
      rw [if_neg (by omega), if_pos (.inl c2)]
      refine ⟨fun e he => ?_, ?_⟩
      · rw [List.mem_singleton.mp he]
        exact .inr ⟨f, false, hf, h, hn⟩
      · rw [List.flatMap_cons, List.flatMap_nil, List.append_nil, wt_tree h hf]
    · rename_i c2
      split at h
      · rename_i c3
        rw [if_neg (by omega), if_pos (.inr c3)]
        refine ⟨fun e he => ?_, ?_⟩
        · rw [List.mem_singleton.mp he]
          exact .inr ⟨f, true, hf, h, hn⟩
        · rw [List.flatMap_cons, List.flatMap_nil, List.append_nil, wt_tree h hf]
      · rename_i c3
        rw [if_neg (by omega : ¬ (c = 101 ∨ c = 116))]
        split
        · exact ⟨fun e he => .inl ⟨_, List.mem_singleton.mp he⟩, rfl⟩
        · rename_i c4
          have : ∃ x, d = .str x := by
            rcases h with ⟨z, _⟩ | ⟨z, _⟩ | ⟨_, x, e, _⟩ | ⟨_, z⟩
            · omega
            · omega
            · exact ⟨x, e⟩
            · rcases z with z | z | z
              · exact ⟨_, z⟩
              · exact ⟨_, z⟩
              · exact ⟨_, z⟩
          obtain ⟨x, rfl⟩ := this
          exact ⟨fun e he => .inl ⟨_, List.mem_singleton.mp he⟩, rfl⟩
theorem args_itm {f : Nat} (hf : f ≤ 40) : ∀ {cs : List Nat} {ds : List PyData}, ArgOk (Wx f) cs ds → nods ds ≤ 8000 → (∀ e ∈ thD cs ds, Itm e) ∧ (thD cs ds).flatMap wt = argWords (wordsD f) cs ds
  | c :: cs, d :: ds, h, hn => by
    simp only [nods] at hn
    obtain ⟨a1, a2⟩ := slot_itm (c := c) (d := d) hf h.1 (by omega)
    obtain ⟨b1, b2⟩ := args_itm hf h.2 (by omega)
    refine ⟨fun e he => ?_, ?_⟩
    · rcases List.mem_append.mp (show e ∈ thS c d ++ thD cs ds from he) with z | z
      · exact a1 e z
      · exact b1 e z
    · show (thS c d ++ thD cs ds).flatMap wt = _
      rw [List.flatMap_append, a2, b2]
      rfl
  | [], [], _, _ => ⟨(fun _ z => nomatch z), rfl⟩
  | [], _ :: _, h, _ => h.elim
  | _ :: _, [], h, _ => h.elim
/-- a tree is a leaf or a bracket -/
theorem Wx.look : ∀ {f : Nat} {s : Bool} {d : PyData}, Wx f s d → LeafT d ∨ ∃ f' h sl args, f = f' + 1 ∧ d = .tuple (.str h :: args) ∧ (h, sl) ∈ allL ∧ h ∉ leafHeads ∧ ArgOk (Wx f') sl.cps.toList args
  | 0, _, _, h => .inl h.2
  | f + 1, _, _, h => by
    rcases h with h | ⟨h0, sl, args, e, m, n, a⟩
    · exact .inl h.2
    · exact .inr ⟨f, h0, sl, args, rfl, e, tbS_all _ m, n, a⟩
theorem wt_pos {e : PyData} (h : Itm e) : 1 ≤ (wt e).length := by
  rcases h with ⟨x, rfl⟩ | ⟨f, s, hf, w, _⟩
  · exact Nat.le_refl _
  · rw [wt_tree w hf]
    rcases w.look with l | ⟨f', h, sl, args, rfl, rfl, m, n, a⟩
    · rw [words_leaf l]
      rcases l with ⟨i, rfl, _⟩ | ⟨x, h | h, _⟩
      · exact Nat.le_refl _
      · rw [h]; exact Nat.le_refl _
      · rw [h]; exact Nat.le_refl _
    · rw [words_node m n]
      simp only [List.length_append, List.length_cons, List.length_nil]
      omega
theorem flat_len : ∀ {es : List PyData}, (∀ e ∈ es, Itm e) → es.length ≤ (es.flatMap wt).length
  | [], _ => Nat.le_refl _
  | e :: es, h => by
    have h1 := wt_pos (h e List.mem_cons_self)
    have h2 := flat_len fun x hx => h x (List.mem_cons_of_mem _ hx)
    rw [List.flatMap_cons, List.length_append, List.length_cons]
    omega
section
variable {X : Cx}
theorem call_strU : CallR X (.type "str") (fun xs H Q => (∃ i, xs = [.int i] ∧ i.natAbs.log2 < 1920 ∧ Q (.str (toString i)) H) ∨ ∃ a, xs = [.str a] ∧ Q (.str a) H) := by
  intro pins s σ H xs us Q I rs h
  rcases h with h | h
  · exact call_str_int pins s σ H xs us Q I rs h
  · exact SkE.call_str_str pins s σ H xs us Q I rs h
end
def spShow (K : PySem.W.Frag) : Sp := fun vs H Q _ => ∃ v d f, vs = [v] ∧ Dp K H v d ∧ nl d = true ∧ Wx f false d ∧ f ≤ 40 ∧ nod d ≤ 8000 ∧ (wordsD f d).length ≤ 7900 ∧ ∀ H', Same H H' → Q (.str (Txt.join " " (wordsD f d))) H'
section
variable {P : Program} {w : World} {K : PySem.W.Frag} {mg : Str → Option Value} {base : Heap} {f fF : Addr} {fd dF : FuncData}
theorem ok_show {k : Nat} (F : Fun K "show_expression" "show_expression" sShow f fd) (mi : mg "isinstance" = none) (ms : mg "str" = none) (GF : Dn P w K mg base 3 "further_things" ["tree"] (spFur K) fF dF) : FnOk P w K mg base CX0 (k + 4) f fd ["tree"] (spShow K) := by
  refine F.ok scShow (fun vs H Q E h => ?_) (fun cdv A outer s H vs Q E hr h => ?_)
  · obtain ⟨v, d, f0, rfl, _⟩ := h
    rfl
  obtain ⟨v, d, f0, rfl, hd, hnl, wx, hf, hnd, hw, q⟩ := h
  have hr3 : Room 3 _ := hr.mono (by omega)
  refine ⟨_, pss_cons (ps_set (i := 1) scShow.nd rfl (.inl rfl) (pe_lst pa_nil))
    (pss_cons (ps_set (i := 2) scShow.nd rfl (.inl rfl) (pe_lst (pa_cons (pv 0) pa_nil)))
    (pss_cons (ps_while PassesOwn.never (pt_truth (pv 2) (by intro _; rfl))
      (pss_cons (ps_set (i := 3) scShow.nd rfl (.inl rfl) (pe_bm0 PySem.F.plainAttrs_list PySem.F.slot_list_pop PySem.F.type_list_pop mt_pop (pv 2)))
      (pss_one (ps_if (pt_val (pe_callB call_isD (by rfl) mi (by decide +kernel) (pa_cons (pv 3) (pa_cons (pe_bltn (by rfl) ms (by decide +kernel) (v := .ty "str") rfl) pa_nil))))
        (pss_one (ps_expr (pe_bm PySem.F.plainAttrs_list PySem.F.slot_list_append PySem.F.type_list_append mt_append (pv 1) (pa_cons (pv 3) pa_nil))))
      (pss_one (ps_if (pt_cmpR op_in_seq (pe_ix ix_tup (pv 3) pe_int (fun _ _ => rfl)) (pe_tup (pa_cons pe_str (pa_cons pe_str pa_nil))) rfl)
        (pss_one (ps_expr (pe_bm PySem.F.plainAttrs_list PySem.F.slot_list_append PySem.F.type_list_append mt_append (pv 1) (pa_cons (pe_callTy call_strU (by rfl) ms (by decide +kernel) (pa_cons (pe_ix ix_tup (pv 3) pe_int (fun _ _ => rfl)) pa_nil)) pa_nil))))
      (pss_one (ps_if (pt_cmpR op_eq (pe_ix ix_tup (pv 3) pe_int (fun _ _ => rfl)) pe_str (nomark _))
        (pss_one (ps_expr (pe_bm PySem.F.plainAttrs_list PySem.F.slot_list_append PySem.F.type_list_append mt_append (pv 1) (pa_cons (pe_joined (.cons pe_str (.cons (pe_fmt (pe_ix ix_tup (pv 3) pe_int (fun _ _ => rfl))) .nil))) pa_nil))))
        (pss_cons (ps_set (i := 4) scShow.nd rfl (.inl rfl) (pe_call GF.ok hr3 (by rfl) GF.mg GF.kp GF.bd .nil pass0 (pa_cons (pv 3) pa_nil)))
        (pss_cons (ps_expr (pe_bm PySem.F.plainAttrs_list PySem.F.slot_list_extend PySem.F.type_list_extend mt_extend (pv 1) (pa_cons (pe_lst (pa_cons pe_str (pa_cons (pe_ix ix_tup (pv 3) pe_int (fun _ _ => rfl)) pa_nil))) pa_nil)))
        (pss_cons (ps_expr (pe_bm PySem.F.plainAttrs_list PySem.F.slot_list_append PySem.F.type_list_append mt_append (pv 2) (pa_cons pe_str pa_nil)))
        (pss_one (ps_expr (pe_bm PySem.F.plainAttrs_list PySem.F.slot_list_extend PySem.F.type_list_extend mt_extend (pv 2) (pa_cons (pe_revL (pv 4)) pa_nil)))))))))))))))
    (pss_one (ps_ret (pe_join pe_str (pv 1)))))), ?_⟩
  refine ⟨by decide, fun FA hFA => ⟨_, rfl, few (by simp), fun TD hTD => ?_⟩⟩
  have hT0 : H TD = none := (same_new (o := .lst []) hFA).free hTD
  have nFT : FA ≠ TD := ne_of_none upd_same hTD
  have s0 : Same H (upd (upd H FA (.lst [])) TD (.lst [v])) := (same_new hFA _).trans (same_new hTD _)
  have hF1 : (upd (upd H FA (.lst [])) TD (.lst [v])) FA = some (.lst []) := by rw [upd_ne nFT]; exact upd_same
  have hT1 : (upd (upd H FA (.lst [])) TD (.lst [v])) TD = some (.lst [v]) := upd_same
  generalize upd (upd H FA (.lst [])) TD (.lst [v]) = HB at s0 hF1 hT1
  have eW : wt d = wordsD f0 d := wt_tree wx hf
  obtain ⟨nws, cl⟩ := StepsP.cln (reads f0 [] false d wx rfl (by simpa using hf))
  generalize wordsD f0 d = W at eW hw q nws cl
  refine ⟨(fun m σ H2 => ∃ (ws : List Str) (ts : List V) (es : List PyData) (o3 o4 : Option V), σ = [some v, some (.ref FA), some (.ref TD), o3, o4] ∧ H2 FA = some (.lst (ws.map V.str)) ∧ H2 TD = some (.lst ts) ∧ DpAll K H2 ts es ∧ nls es = true ∧ (∀ e ∈ es, Itm e) ∧ ws ++ es.reverse.flatMap wt = W ∧ m + ws.length = W.length ∧ Off [FA, TD] HB H2),
    ⟨W.length, [], [v], [d], none, none, rfl, hF1, hT1, .cons (Dp.up s0 _ _ hd) .nil, by simp only [nls, hnl, Bool.and_self], (fun e he => by rw [List.mem_singleton.mp he]; exact .inr ⟨f0, false, hf, wx, hnd⟩), by simp [eW], by simp, Off.refl _ _⟩, ?_⟩
  rintro m σ H2 ⟨ws, ts, es, o3, o4, rfl, hu, hx, dx, nx, ix, eq, em, off⟩
  have hlen := flat_len (es := es.reverse) fun e he => ix e (List.mem_reverse.mp he)
  have elen := congrArg List.length eq
  rw [List.length_append] at elen
  rw [List.length_reverse] at hlen
  have lts := DpAll.len dx
  refine ⟨_, rfl, _, .inl ⟨ts, SqL.of hx, rfl⟩, ?_⟩
  by_cases ee : ts = []
  · subst ee
    cases dx
    have eW2 : ws = W := by simpa using eq
    subst eW2
    refine iteF ⟨⟨_, rfl⟩, _, rfl, " ", FA, ws, rfl, rfl, .inl (SqL.of hu), ?_, q H2 ?_⟩
    · have e0 : ((" " : Str)).length = 1 := by decide +kernel
      have z := join_len (m := 20) fun y hy => (cl y hy).2
      rw [e0]
      omega
    · intro b u z
      refine off.get (s0 _ _ z) ?_
      simp only [List.mem_cons, List.not_mem_nil, or_false, not_or]
      exact ⟨ne_of_none z hFA, ne_of_none z hT0⟩
  · have e1 : (!ts.isEmpty) = true := by simp [ee]
    rw [e1]
    refine iteT ?_
    obtain ⟨ts2, x, rfl⟩ : ∃ ts2 x, ts = ts2 ++ [x] := ⟨ts.dropLast, ts.getLast ee, (List.dropLast_concat_getLast ee).symm⟩
    obtain ⟨es2, d2, rfl, da, db⟩ := DpAll.unapp dx
    obtain ⟨e, rfl, db1⟩ : ∃ e, d2 = [e] ∧ Dp K H2 x e := by
      cases db with
      | cons y1 y2 =>
        cases y2
        exact ⟨_, rfl, y1⟩
    rw [nls_app, Bool.and_eq_true] at nx
    obtain ⟨nx1, nx2⟩ := nx
    have nx2 : nl e = true := by simpa only [nls, Bool.and_true] using nx2
    have ie : Itm e := ix e (by simp)
    have eq2 : ws ++ (wt e ++ es2.reverse.flatMap wt) = W := by
      rw [List.reverse_append, List.reverse_cons, List.reverse_nil, List.nil_append, List.flatMap_append, List.flatMap_cons, List.flatMap_nil, List.append_nil] at eq
      exact eq
    have pw := wt_pos ie
    have len2 := congrArg List.length eq2
    rw [List.length_append, List.length_append] at len2
    refine ⟨fun σ' H3 => ∃ m', m' < m ∧ ∃ (ws : List Str) (ts : List V) (es : List PyData) (o3 o4 : Option V), σ' = [some v, some (.ref FA), some (.ref TD), o3, o4] ∧ H3 FA = some (.lst (ws.map V.str)) ∧ H3 TD = some (.lst ts) ∧ DpAll K H3 ts es ∧ nls es = true ∧ (∀ e ∈ es, Itm e) ∧ ws ++ es.reverse.flatMap wt = W ∧ m' + ws.length = W.length ∧ Off [FA, TD] HB H3, fun _ _ z => z, ?_⟩
    refine ⟨_, rfl, .inl ⟨rfl, _, SqL.of hx⟩, TD, _, _, rfl, rfl, hx, last_at _ _, ?_⟩
    rw [drop_last]
    have nt2 : NT [FA, TD] H2 := .cons (nt_lst hu) (.cons (nt_lst hx) .nil)
    have p3 : Off [FA, TD] H2 (upd H2 TD (.lst ts2)) := Off.put (by simp)
    have hu3 : (upd H2 TD (.lst ts2)) FA = some (.lst (ws.map V.str)) := by rw [upd_ne nFT]; exact hu
    have hx3 : (upd H2 TD (.lst ts2)) TD = some (.lst ts2) := upd_same
    have da3 : DpAll K (upd H2 TD (.lst ts2)) ts2 es2 := DpAll.off da nt2 nx1 p3
    have de3 : Dp K (upd H2 TD (.lst ts2)) x e := Dp.off db1 nt2 nx2 p3
    have off3 := off.trans p3
    generalize upd H2 TD (.lst ts2) = H3 at hu3 hx3 da3 de3 off3
    have nt3 : NT [FA, TD] H3 := .cons (nt_lst hu3) (.cons (nt_lst hx3) .nil)
    have lws : ws.length ≤ 7900 := by omega
    -- one word more
    have one : ∀ (y : Str) (H4 : Hp) (r4 : Option V), Same H3 H4 → wt e = [y] → ∃ m', m' < m ∧ ∃ (ws_1 : List Str) (ts : List V) (es : List PyData) (o3 o4 : Option V), [some v, some (.ref FA), some (.ref TD), some x, r4] = [some v, some (.ref FA), some (.ref TD), o3, o4] ∧ (upd H4 FA (.lst (ws.map V.str ++ [.str y]))) FA = some (.lst (ws_1.map V.str)) ∧ (upd H4 FA (.lst (ws.map V.str ++ [.str y]))) TD = some (.lst ts) ∧ DpAll K (upd H4 FA (.lst (ws.map V.str ++ [.str y]))) ts es ∧ nls es = true ∧ (∀ e ∈ es, Itm e) ∧ ws_1 ++ es.reverse.flatMap wt = W ∧ m' + ws_1.length = W.length ∧ Off [FA, TD] HB (upd H4 FA (.lst (ws.map V.str ++ [.str y]))) := by
      intro y H4 r4 s4 ey
      rw [ey] at eq2 len2
      have p4 : Off [FA, TD] H4 (upd H4 FA (.lst (ws.map V.str ++ [.str y]))) := Off.put (by simp)
      have o4 : Off [FA, TD] H3 (upd H4 FA (.lst (ws.map V.str ++ [.str y]))) := (Off.of s4).trans p4
      refine ⟨(es2.reverse.flatMap wt).length, by simp only [List.length_cons, List.length_nil] at len2; omega, ws ++ [y], ts2, es2, _, _, rfl, by rw [upd_same, List.map_append]; rfl, by rw [upd_ne nFT.symm]; exact s4 _ _ hx3, DpAll.off da3 nt3 nx1 o4, nx1, fun e he => ix e (by simp [he]), by rw [List.append_assoc]; exact eq2, ?_, off3.trans o4⟩
      simp only [List.length_append, List.length_cons, List.length_nil] at len2 ⊢
      omega
    have lap : (ws.map V.str).length < sizeLine := Nat.lt_of_le_of_lt (by rw [List.length_map]; omega : (ws.map V.str).length ≤ 100000) (by decide)
    refine ⟨_, rfl, x, e, "str", _, rfl, de3, kit_str e, _, rfl, ?_⟩
    rcases ie with ⟨y, rfl⟩ | ⟨fe, se, hfe, we, nde⟩
    · cases de3
      refine iteT ?_
      exact ⟨_, rfl, .inl ⟨rfl, _, SqL.of hu3⟩, _, rfl, FA, _, .str y, rfl, rfl, hu3, lap, one y H3 _ (Same.refl _) rfl⟩
    · obtain ⟨h, args, rfl⟩ := we.tup
      obtain ⟨b, ys, ds, rfl, e3, hb, dys⟩ := tup_of de3 rfl
      cases e3
      obtain ⟨zs, rfl, dzs⟩ : ∃ zs, ys = .str h :: zs ∧ DpAll K H3 zs args := by
        cases dys with
        | cons y1 y2 =>
          cases y1
          exact ⟨_, rfl, y2⟩
      have a0 : atI (V.str h :: zs) 0 = some (.str h) := atI_nat (j := 0) rfl
      refine iteF ⟨_, rfl, b, _, 0, _, rfl, rfl, hb, a0, few (by simp), fun T4 hT4 => ⟨T4, _, rfl, .inr (.inl (.inl upd_same)), rfl, rfl, _, rfl, ?_⟩⟩
      have s4 : Same H3 (upd H3 T4 (.tup [.str "int", .str "name"])) := same_new hT4 _
      generalize upd H3 T4 (.tup [.str "int", .str "name"]) = H4 at s4
      have hb4 := seqT_up s4 hb
      rcases we.look with lf | ⟨f', h', sl, args', rfl, e4, m4, n4, ok4⟩
      · have ew := words_leaf (f := 40) lf
        have ew : wt (.tuple (.str h :: args)) = leafWords (.tuple (.str h :: args)) := ew
        rcases lf with ⟨i, e4, hi⟩ | ⟨y, e4 | e4, hy⟩
        · cases e4
          obtain ⟨rfl⟩ : zs = [.int i] := by
            cases dzs with
            | cons y1 y2 =>
              cases y1
              cases y2
              rfl
          refine iteT' (by decide +kernel) ⟨_, rfl, .inl ⟨rfl, _, SqL.of (s4 _ _ hu3)⟩, _, rfl, b, _, 1, _, rfl, rfl, hb4, atI_nat (j := 1) rfl, .inl ⟨i, rfl, num_log hi, FA, _, .str (txt (.int i)), rfl, rfl, s4 _ _ hu3, lap, one _ H4 _ s4 ?_⟩⟩
          rw [ew]
          show [if ("int" : Str) = "atom" then _ else _] = _
          rw [if_neg (by decide +kernel)]
        · cases e4
          obtain ⟨rfl⟩ : zs = [.str y] := by
            cases dzs with
            | cons y1 y2 =>
              cases y1
              cases y2
              rfl
          refine iteT' (by decide +kernel) ⟨_, rfl, .inl ⟨rfl, _, SqL.of (s4 _ _ hu3)⟩, _, rfl, b, _, 1, _, rfl, rfl, hb4, atI_nat (j := 1) rfl, .inr ⟨y, rfl, FA, _, .str y, rfl, rfl, s4 _ _ hu3, lap, one _ H4 _ s4 ?_⟩⟩
          rw [ew]
          show [if ("name" : Str) = "atom" then _ else _] = _
          rw [if_neg (by decide +kernel)]
          rfl
        · cases e4
          obtain ⟨rfl⟩ : zs = [.str y] := by
            cases dzs with
            | cons y1 y2 =>
              cases y1
              cases y2
              rfl
          obtain ⟨_, _, _, _, q5, _⟩ := q_head y
          obtain ⟨_, _, _, _, _, l8⟩ := isNm_fst hy
          have e6 : (Str.empty ++ "'" : Str) = "'" := by decide +kernel
          refine iteF' (by decide +kernel) ⟨_, rfl, b, _, 0, _, rfl, rfl, hb4, a0, rfl, _, rfl, iteT' (by decide +kernel) ⟨_, rfl, .inl ⟨rfl, _, SqL.of (s4 _ _ hu3)⟩, "'", rfl, by rw [e6]; decide +kernel, ?_⟩⟩
          rw [e6]
          refine ⟨_, rfl, b, _, 1, _, rfl, rfl, hb4, atI_nat (j := 1) rfl, .inl ⟨y, rfl, few (by omega), y, rfl, few (by omega), FA, _, .str ("'" ++ y), rfl, rfl, s4 _ _ hu3, lap, one _ H4 _ s4 ?_⟩⟩
          rw [ew]
          show [if ("atom" : Str) = "atom" then _ else _] = _
          rw [if_pos rfl]
          rfl
      · cases e4
        have ew : wt (.tuple (.str h :: args)) = [("(" : Str), h] ++ argWords (wordsD 39) sl.cps.toList args ++ [(")" : Str)] := words_node m4 n4
        have nd5 : nods args ≤ 8000 := by
          simp only [nod, nods] at nde
          omega
        obtain ⟨it1, it2⟩ := args_itm (by omega) ok4 nd5
        have ew : wt (.tuple (.str h :: args)) = [("(" : Str), h] ++ (thD sl.cps.toList args).flatMap wt ++ [(")" : Str)] := by
          rw [ew, it2, argWords_congr (fun s d z => words_mono z (by omega : f' ≤ 39)) ok4]
        have nar : nls args = true := by
          simpa only [nl, nls, Bool.true_and] using nx2
        have hin : inV (.str h) [.str "int", .str "name"] = false := by
          cases hq : inV (.str h) [.str "int", .str "name"] with
          | false => rfl
          | true =>
            exfalso
            apply n4
            unfold leafHeads
            rcases (inVv _ _ _).mp hq with z | z <;> rw [z] <;> decide +kernel
        have hat : ¬ h = "atom" := fun z => n4 (by rw [z]; decide +kernel)
        refine iteF' hin ⟨_, rfl, b, _, 0, _, rfl, rfl, hb4, a0, rfl, _, rfl, iteF' (decide_eq_false fun z => hat (V.str.inj z)) ?_⟩
        refine ⟨_, rfl, b, h, sl, zs, args, Wx f', rfl, hb4, Dp.ups s4 _ _ dzs, nar, m4, ok4, nd5, fun L us H5 s5 hL h5 dus => ?_⟩
        have s35 := s4.trans s5
        have hu5 := s35 _ _ hu3
        have hx5 := s35 _ _ hx3
        have nLF : L ≠ FA := fun z => by
          rw [z, s4 _ _ hu3] at hL
          cases hL
        have nLT : L ≠ TD := fun z => by
          rw [z, s4 _ _ hx3] at hL
          cases hL
        have lus := DpAll.len dus
        have lth := thD_small ok4
        refine ⟨_, rfl, .inl ⟨rfl, _, SqL.of hu5⟩, _, rfl, b, _, 0, _, rfl, rfl, seqT_up s5 hb4, a0, few (by simp), fun D hD => ?_⟩
        have s6 : Same H5 (upd H5 D (.lst [.str "(", .str h])) := same_new hD _
        have hD6 : (upd H5 D (.lst [.str "(", .str h])) D = some (.lst [.str "(", .str h]) := upd_same
        generalize upd H5 D (.lst [.str "(", .str h]) = H6 at s6 hD6
        refine ⟨FA, D, _, _, rfl, rfl, s6 _ _ hu5, hD6, few2 (by rw [List.length_map]; simp only [List.length_cons, List.length_nil]; omega), ?_⟩
        have o7 : Off [FA, TD] H6 (upd H6 FA (.lst (ws.map V.str ++ [.str "(", .str h]))) := Off.put (by simp)
        have hu7 : (upd H6 FA (.lst (ws.map V.str ++ [.str "(", .str h]))) FA = some (.lst (ws.map V.str ++ [.str "(", .str h])) := upd_same
        have hx7 : (upd H6 FA (.lst (ws.map V.str ++ [.str "(", .str h]))) TD = some (.lst ts2) := by rw [upd_ne nFT.symm]; exact s6 _ _ hx5
        generalize upd H6 FA (.lst (ws.map V.str ++ [.str "(", .str h])) = H7 at o7 hu7 hx7
        have le2 := DpAll.len da3
        have fl2 := flat_len (es := es2) fun e he => ix e (by simp [he])
        have fl3 : (es2.reverse.flatMap wt).length = (es2.flatMap wt).length := by
          rw [List.length_flatMap, List.length_flatMap, List.map_reverse, List.sum_reverse]
        refine ⟨_, rfl, .inl ⟨rfl, _, SqL.of hx7⟩, TD, ts2, .str ")", rfl, rfl, hx7, Nat.lt_of_le_of_lt (by omega : ts2.length ≤ 100000) (by decide), ?_⟩
        have o8 : Off [FA, TD] H7 (upd H7 TD (.lst (ts2 ++ [.str ")"]))) := Off.put (by simp)
        have hu8 : (upd H7 TD (.lst (ts2 ++ [.str ")"]))) FA = some (.lst (ws.map V.str ++ [.str "(", .str h])) := by rw [upd_ne nFT]; exact hu7
        have hx8 : (upd H7 TD (.lst (ts2 ++ [.str ")"]))) TD = some (.lst (ts2 ++ [.str ")"])) := upd_same
        generalize upd H7 TD (.lst (ts2 ++ [.str ")"])) = H8 at o8 hu8 hx8
        have o58 : Off [FA, TD] H5 H8 := (Off.of s6).trans (o7.trans o8)
        have nmL : L ∉ [FA, TD] := by
          simp only [List.mem_cons, List.not_mem_nil, or_false, not_or]
          exact ⟨nLF, nLT⟩
        refine ⟨_, rfl, .inl ⟨rfl, _, SqL.of hx8⟩, _, rfl, L, us, rfl, SqL.of (o58.get h5 nmL), fun p hp => ⟨TD, p, _, us.reverse, rfl, rfl, (same_new hp _) _ _ hx8, upd_same, few2 (by rw [List.length_append, List.length_reverse, List.length_singleton]; omega), ?_⟩⟩
        have s9 : Same H8 (upd H8 p (.lst us.reverse)) := same_new hp _
        generalize upd H8 p (.lst us.reverse) = H9 at s9
        have o10 : Off [FA, TD] H9 (upd H9 TD (.lst (ts2 ++ [.str ")"] ++ us.reverse))) := Off.put (by simp)
        have o5X : Off [FA, TD] H5 (upd H9 TD (.lst (ts2 ++ [.str ")"] ++ us.reverse))) := o58.trans ((Off.of s9).trans o10)
        have o3X : Off [FA, TD] H3 (upd H9 TD (.lst (ts2 ++ [.str ")"] ++ us.reverse))) := (Off.of s35).trans o5X
        have nt5 : NT [FA, TD] H5 := .cons (nt_lst hu5) (.cons (nt_lst hx5) .nil)
        have nth : nls (thD sl.cps.toList args) = true := thD_nl nar
        rw [ew] at eq2 len2
        refine ⟨W.length - (ws ++ [("(" : Str), h]).length, ?_, ws ++ [("(" : Str), h], ts2 ++ [.str ")"] ++ us.reverse, es2 ++ [.str ")"] ++ (thD sl.cps.toList args).reverse, _, _, rfl, ?_, upd_same, ?_, ?_, ?_, ?_, ?_, off3.trans o3X⟩
        · simp only [List.length_append, List.length_cons, List.length_nil] at len2 ⊢
          omega
        · rw [upd_ne nFT, List.map_append]
          exact s9 _ _ hu8
        · exact DpAll.app (DpAll.app (DpAll.off da3 nt3 nx1 o3X) (.cons (.str _) .nil)) (dpAll_rev (DpAll.off dus nt5 nth o5X))
        · rw [nls_app, nls_app, nx1, nls_rev, nth]
          simp only [nls, nl, Bool.and_self]
        · intro e he
          rcases List.mem_append.mp he with z | z
          · rcases List.mem_append.mp z with z | z
            · exact ix e (by simp [z])
            · rw [List.mem_singleton.mp z]
              exact .inl ⟨_, rfl⟩
          · exact it1 e (List.mem_reverse.mp z)
        · rw [← eq2]
          simp only [List.reverse_append, List.reverse_reverse, List.reverse_cons, List.reverse_nil, List.nil_append, List.flatMap_append, List.flatMap_cons, List.flatMap_nil, List.append_nil, List.append_assoc, List.cons_append]
          rfl
        · simp only [List.length_append, List.length_cons, List.length_nil] at len2 ⊢
          omega
end
/-! the law's own drawing -/
abbrev sPick : Stmt := topS 29
abbrev sForms : Stmt := topS 30
abbrev sWord : Stmt := topS 31
abbrev sThing : Stmt := topS 32
theorem scPick : FnScope ["_law_box_here", "_law_items"] ["_law_box_here", "_law_items"] (defScope sPick) := ⟨rfl, rfl, rfl, by decide +kernel, rfl, by decide +kernel, by decide +kernel⟩
theorem scForms : FnScope ["_law_sort", "_law_found", "_law_more", "_law_tests"] ["_law_sort"] (defScope sForms) := ⟨rfl, rfl, rfl, by decide +kernel, rfl, by decide +kernel, by decide +kernel⟩
theorem scWord : FnScope ["_law_box_here", "_law_letters", "_law_many", "_law_k"] ["_law_box_here"] (defScope sWord) := ⟨rfl, rfl, rfl, by decide +kernel, rfl, by decide +kernel, by decide +kernel⟩
theorem scThing : FnScope ["_law_box_here", "_law_slot", "_law_some", "_law_great"] ["_law_box_here", "_law_slot"] (defScope sThing) := ⟨rfl, rfl, rfl, by decide +kernel, rfl, by decide +kernel, by decide +kernel⟩
theorem b_dict : bootBuiltins "dict" = some (.type "dict") := by decide +kernel
def kvL (l : List (Str × Str)) : List (Key × V) := l.map fun p => (Sum.inr p.1, V.str p.2)
theorem putK_new {kvs : List (Key × V)} {k : Key} {v : V} (h : ∀ p ∈ kvs, p.1 ≠ k) : putK kvs k v = kvs ++ [(k, v)] := by
  unfold putK
  rw [if_neg]
  intro z
  obtain ⟨p, hp, e⟩ := List.any_eq_true.mp z
  exact h p hp (of_decide_eq_true e)
theorem mergeK_new : ∀ (more kvs : List (Key × V)), ((kvs ++ more).map Prod.fst).Nodup → mergeK kvs more = kvs ++ more
  | [], kvs, _ => by simp [mergeK]
  | (k, v) :: r, kvs, h => by
    have e : putK kvs k v = kvs ++ [(k, v)] := putK_new fun p hp e => by
      rw [List.map_append, List.nodup_append] at h
      exact h.2.2 p.1 (List.mem_map.mpr ⟨p, hp, rfl⟩) k (by simp) e
    show mergeK (putK kvs k v) r = _
    rw [e, mergeK_new r (kvs ++ [(k, v)]) (by rw [List.append_assoc]; exact h), List.append_assoc]
    rfl
theorem kvL_nodup {l : List (Str × Str)} (h : (l.map Prod.fst).Nodup) : ((kvL l).map Prod.fst).Nodup := by
  unfold kvL
  rw [List.map_map]
  have e : (Prod.fst ∘ fun p : Str × Str => ((Sum.inr p.1 : Key), V.str p.2)) = (fun x : Str => (Sum.inr x : Key)) ∘ Prod.fst := rfl
  rw [e, ← List.map_map]
  exact List.Pairwise.map _ (fun a b n z => n (Sum.inr.inj z)) h
theorem merge_kvL {l : List (Str × Str)} (h : (l.map Prod.fst).Nodup) : mergeK [] (kvL l) = kvL l := mergeK_new _ _ (kvL_nodup h)
theorem kvL_app (a b : List (Str × Str)) : kvL (a ++ b) = kvL a ++ kvL b := List.map_append
theorem nd_ex : (exL.map Prod.fst).Nodup := by decide +kernel
theorem nd_te : (teL.map Prod.fst).Nodup := by decide +kernel
theorem nd_all : (allL.map Prod.fst).Nodup := by decide +kernel
def spPick : Sp := fun vs H Q _ => ∃ p g a xs, vs = [.ref p, .ref a] ∧ Box H p g ∧ H a = some (.lst xs) ∧ a ∉ [p, g] ∧ 0 < xs.length ∧ xs.length ≤ 1000 ∧ ∀ x ∈ xs, ∀ H', Box H' p g → Off [p, g] H H' → Q x H'
def spForms : Sp := fun vs H Q _ => ∃ s, vs = [.str s] ∧ ∀ p H', Same H H' → H p = none → H' p = some (.dK (kvL (if s = "t" then teL else exL))) → Q (.ref p) H'
def spWord : Sp := fun vs H Q _ => ∃ p g, vs = [.ref p] ∧ Box H p g ∧ ∀ x H', isNm x = true → Box H' p g → Off [p, g] H H' → Q (.str x) H'
def spThing : Sp := fun vs H Q _ => ∃ p g c, vs = [.ref p, .str ⟨#[c]⟩] ∧ (c = 119 ∨ c = 110 ∨ c = 107 ∨ c = 105) ∧ Box H p g ∧ ∀ v d H', (∀ (K : PySem.W.Frag) (H'' : Hp), Dp K H'' v d) → LeafOk c d → gd d = true → nod d = 1 → d.depth = 0 → nl d = true → Box H' p g → Off [p, g] H H' → Q v H' 
theorem joinL_one : ∀ cs : List Nat, TL.joinL [] (cs.map fun c => [c]) = cs
  | [] => rfl
  | [c] => rfl
  | c :: d :: cs => by
    have ih := joinL_one (d :: cs)
    show [c] ++ ([] ++ TL.joinL [] ((d :: cs).map fun c => [c])) = _
    rw [ih]
    rfl
theorem join_one (cs : List Nat) : (Txt.join "" (cs.map fun c => (⟨#[c]⟩ : Str))).cps.toList = cs := by
  have e := SX.join_S [] (cs.map fun c => [c])
  rw [List.map_map, joinL_one] at e
  have e2 : ("" : Str) = SX.S [] := by decide +kernel
  have e3 : (SX.S ∘ fun c : Nat => [c]) = fun c => (⟨#[c]⟩ : Str) := rfl
  rw [e3] at e
  rw [e2, e]
theorem join_nm {cs : List Nat} (h : ∀ c ∈ cs, lowOk c = true) (h1 : 1 ≤ cs.length) (h8 : cs.length ≤ 8) : isNm (Txt.join "" (cs.map fun c => (⟨#[c]⟩ : Str))) = true := by
  have e := join_one cs
  generalize Txt.join "" (cs.map fun c => (⟨#[c]⟩ : Str)) = x at e
  have lx : x.length = cs.length := by rw [len_cps, ← Array.length_toList, e]
  unfold isNm
  rw [lx, e, decide_eq_true h1, decide_eq_true h8, List.all_eq_true.mpr h]
  rfl
theorem alpha_low : ∀ c ∈ ("abcdefghijklmnopqrstuvwxyz" : Str).cps.toList, lowOk c = true := by decide +kernel
theorem alpha_sm : Sm 26 ("abcdefghijklmnopqrstuvwxyz" : Str) := Sm.of (by decide +kernel)
theorem alpha_len : ("abcdefghijklmnopqrstuvwxyz" : Str).cps.toList.length = 26 := by decide +kernel
section
variable {P : Program} {w : World} {K : PySem.W.Frag} {mg : Str → Option Value} {base : Heap} {f fT fP fW : Addr} {fd dT dP dW : FuncData}
theorem ok_pick {k : Nat} (F : Fun K "_law_pick" "_law_pick" sPick f fd) (mn : mg "len" = none) (T : Tk P w K mg base fT dT) : FnOk P w K mg base CX0 (k + 2) f fd ["_law_box_here", "_law_items"] spPick := by
  refine F.ok scPick (fun vs H Q E h => ?_) (fun cdv A outer s H vs Q E hr h => ?_)
  · obtain ⟨p, g, a, xs, rfl, _⟩ := h
    rfl
  obtain ⟨p, g, a, xs, rfl, hb, ha, na, l0, l1, q⟩ := h
  have hr1 : Room 1 _ := hr.mono (by omega)
  refine ⟨_, pss_one (ps_ret (pe_ix ix_list (pv 1) (pe_call T.ok hr1 (by rfl) T.mg T.kp T.bd .nil pass0 (pa_cons (pv 0) (pa_cons (pe_callB call_len_seq (by rfl) mn PySem.boot_len (pa_cons (pv 1) pa_nil)) pa_nil))) (fun _ _ => rfl))), ?_⟩
  refine ⟨_, rfl, _, rfl, _, rfl, a, xs, rfl, .inl (SqL.of ha), p, g, _, rfl, hb, by omega, ?_, fun r H1 r0 r1 b1 o1 => ?_⟩
  · show xs.length < 2 ^ 200
    exact Nat.lt_of_le_of_lt l1 (by decide)
  obtain ⟨x, hx, mx, _⟩ := atI_ok (xs := xs) r0 r1
  exact ⟨a, _, _, x, rfl, rfl, SqL.of (o1.get ha na), hx, q x mx H1 b1 o1⟩
theorem ok_forms {k : Nat} (F : Fun K "_law_forms" "_law_forms" sForms f fd) (md : mg "dict" = none) (ml : mg "list" = none) : FnOk P w K mg base CX0 (k + 1) f fd ["_law_sort"] spForms := by
  refine F.ok scForms (fun vs H Q E h => ?_) (fun cdv A outer s H vs Q E hr h => ?_)
  · obtain ⟨s, rfl, _⟩ := h
    rfl
  obtain ⟨srt, rfl, q⟩ := h
  refine ⟨_, pss_cons (ps_set (i := 1) scForms.nd rfl (.inl rfl) (pe_disp (pps_cons pe_str pe_str (pps_cons pe_str pe_str (pps_cons pe_str pe_str (pps_cons pe_str pe_str (pps_cons pe_str pe_str (pps_cons pe_str pe_str (pps_cons pe_str pe_str (pps_cons pe_str pe_str pps_nil)))))))) (by rfl) (by rfl) (fun z => by cases z) (by decide)))
    (pss_cons (ps_set (i := 2) scForms.nd rfl (.inl rfl) (pe_disp (pps_cons pe_str pe_str (pps_cons pe_str pe_str (pps_cons pe_str pe_str (pps_cons pe_str pe_str (pps_cons pe_str pe_str (pps_cons pe_str pe_str (pps_cons pe_str pe_str pps_nil))))))) (by rfl) (by rfl) (fun z => by cases z) (by decide)))
    (pss_cons (ps_set (i := 3) scForms.nd rfl (.inl rfl) (pe_disp (pps_cons pe_str pe_str (pps_cons pe_str pe_str (pps_cons pe_str pe_str (pps_cons pe_str pe_str (pps_cons pe_str pe_str (pps_cons pe_str pe_str (pps_cons pe_str pe_str pps_nil))))))) (by rfl) (by rfl) (fun z => by cases z) (by decide)))
    (pss_one (ps_ret (pe_ifExp (pt_cmpR op_eq (pv 0) pe_str (nomark _)) (pv 3) (pe_callTy (call_dictP rfl) (by rfl) md b_dict (pa_cons
      (pe_op op_cat (pe_op op_cat (LiI.pe_listItems (by rfl) (pv 1) (by rfl) ml b_list) (LiI.pe_listItems (by rfl) (pv 2) (by rfl) ml b_list)) (pe_lst (pa_cons (pe_tup (pa_cons pe_str (pa_cons pe_str pa_nil))) pa_nil))) pa_nil))))))), ?_⟩
  refine fun p1 h1 => ⟨upd_same, kvL (exL.take 8), rfl, by decide, fun p2 h2 => ⟨upd_same, kvL ((exL.drop 8).take 7), rfl, by decide, fun p3 h3 => ⟨upd_same, kvL teL, rfl, by decide, ?_⟩⟩⟩
  rw [merge_kvL (by decide +kernel)] at h2
  rw [merge_kvL (by decide +kernel), merge_kvL (by decide +kernel)] at h3
  rw [merge_kvL (by decide +kernel), merge_kvL (by decide +kernel), merge_kvL (by decide +kernel)]
  have sA : Same H (upd (upd H p1 (.dK [])) p1 (.dK (kvL (exL.take 8)))) := fun b u z => by
    rw [upd_ne (ne_of_none z h1), upd_ne (ne_of_none z h1)]
    exact z
  have hA1 : (upd (upd H p1 (.dK [])) p1 (.dK (kvL (exL.take 8)))) p1 = some (.dK (kvL (exL.take 8))) := upd_same
  generalize upd (upd H p1 (.dK [])) p1 (.dK (kvL (exL.take 8))) = HA at *
  have sB : Same HA (upd (upd HA p2 (.dK [])) p2 (.dK (kvL ((exL.drop 8).take 7)))) := fun b u z => by
    rw [upd_ne (ne_of_none z h2), upd_ne (ne_of_none z h2)]
    exact z
  have hB2 : (upd (upd HA p2 (.dK [])) p2 (.dK (kvL ((exL.drop 8).take 7)))) p2 = some (.dK (kvL ((exL.drop 8).take 7))) := upd_same
  generalize upd (upd HA p2 (.dK [])) p2 (.dK (kvL ((exL.drop 8).take 7))) = HB at *
  have sC : Same HB (upd (upd HB p3 (.dK [])) p3 (.dK (kvL teL))) := fun b u z => by
    rw [upd_ne (ne_of_none z h3), upd_ne (ne_of_none z h3)]
    exact z
  have hC3 : (upd (upd HB p3 (.dK [])) p3 (.dK (kvL teL))) p3 = some (.dK (kvL teL)) := upd_same
  generalize upd (upd HB p3 (.dK [])) p3 (.dK (kvL teL)) = HC at *
  have s3 := sA.trans (sB.trans sC)
  refine ⟨_, rfl, rfl, _, rfl, ite2 (fun c => ⟨_, rfl, ?_⟩) (fun c => ?_)⟩
  · have c : srt = "t" := V.str.inj (of_decide_eq_true c)
    exact q p3 HC s3 ((sA.trans sB).free h3) (by rw [if_pos c]; exact hC3)
  · have c : ¬ srt = "t" := fun z => c (decide_eq_true (by rw [z]))
    refine ⟨_, rfl, p1, _, rfl, sC _ _ (sB _ _ hA1), fun H5 l1 ts1 s5 hl1 ht1 nl1 e1 P1 => ?_⟩
    have s5 : Same HC H5 := s5
    refine ⟨_, rfl, p2, _, rfl, s5 _ _ (sC _ _ hB2), fun H6 l2 ts2 s6 hl2 ht2 nl2 e2 P2 => ?_⟩
    have s6 : Same H5 H6 := s6
    have t1 := P1.length
    have t2 := P2.length
    have q1 : (kvL (exL.take 8)).length = 8 := by decide +kernel
    have q2 : (kvL ((exL.drop 8).take 7)).length = 7 := by decide +kernel
    refine ⟨l1, l2, _, _, rfl, rfl, s6 _ _ e1, e2, few (by rw [List.length_map, List.length_map]; omega), fun l3 hl3 => ⟨few (by simp), fun t3 ht3 => ⟨few (by simp), fun l4 hl4 => ?_⟩⟩⟩
    have s7 : Same H6 (upd H6 l3 (.lst (ts1.map V.ref ++ ts2.map V.ref))) := same_new hl3 _
    have e3 : (upd H6 l3 (.lst (ts1.map V.ref ++ ts2.map V.ref))) l3 = some (.lst (ts1.map V.ref ++ ts2.map V.ref)) := upd_same
    generalize upd H6 l3 (.lst (ts1.map V.ref ++ ts2.map V.ref)) = H7 at *
    have s8 : Same H7 (upd H7 t3 (.tup [.str "fail", .str "n"])) := same_new ht3 _
    have e4 : (upd H7 t3 (.tup [.str "fail", .str "n"])) t3 = some (.tup [.str "fail", .str "n"]) := upd_same
    generalize upd H7 t3 (.tup [.str "fail", .str "n"]) = H8 at *
    have s9 : Same H8 (upd H8 l4 (.lst [.ref t3])) := same_new hl4 _
    have e5 : (upd H8 l4 (.lst [.ref t3])) l4 = some (.lst [.ref t3]) := upd_same
    generalize upd H8 l4 (.lst [.ref t3]) = H9 at *
    refine ⟨l3, l4, _, _, rfl, rfl, s9 _ _ (s8 _ _ e3), e5, few (by simp only [List.length_append, List.length_map, List.length_cons, List.length_nil]; omega), fun l5 hl5 => ?_⟩
    have s10 : Same H9 (upd H9 l5 (.lst (ts1.map V.ref ++ ts2.map V.ref ++ [.ref t3]))) := same_new hl5 _
    have e6 : (upd H9 l5 (.lst (ts1.map V.ref ++ ts2.map V.ref ++ [.ref t3]))) l5 = some (.lst (ts1.map V.ref ++ ts2.map V.ref ++ [.ref t3])) := upd_same
    generalize upd H9 l5 (.lst (ts1.map V.ref ++ ts2.map V.ref ++ [.ref t3])) = HX at *
    have up : ∀ {H1 H2 : Hp} {ts : List Addr} {kvs : List (Key × V)}, Same H1 H2 → Paired (fun (t : Addr) (q : Key × V) => H1 t = some (.tup [kV q.1, q.2])) ts kvs → Paired (fun (t : Addr) (q : Key × V) => SqT K H2 t [kV q.1, q.2]) ts kvs := fun s p => paired_mono (fun a b z => .inl (.inl (s _ _ z))) p
    refine ⟨l5, ts1 ++ ts2 ++ [t3], kvL exL, rfl, ?_, ?_, fun r hr5 => ?_⟩
    · refine SqL.of ?_
      rw [e6, List.map_append, List.map_append]
      rfl
    · have e7 : kvL exL = kvL (exL.take 8) ++ kvL ((exL.drop 8).take 7) ++ [((Sum.inr "fail" : Key), V.str "n")] := by decide +kernel
      rw [e7]
      exact paired_app (paired_app (up (s6.trans (s7.trans (s8.trans (s9.trans s10)))) P1) (up (s7.trans (s8.trans (s9.trans s10))) P2)) (.cons (.inl (.inl (s10 _ _ (s9 _ _ e4)))) .nil)
    · rw [merge_kvL nd_ex]
      have sX : Same H HX := s3.trans (s5.trans (s6.trans (s7.trans (s8.trans (s9.trans s10)))))
      exact q r _ (sX.trans (same_new hr5 _)) (sX.free hr5) (by rw [if_neg c]; exact upd_same)
theorem ok_word {k : Nat} (F : Fun K "_law_word" "_law_word" sWord f fd) (mr : mg "range" = none) (T : Tk P w K mg base fT dT) (GP : Dn P w K mg base 2 "_law_pick" ["_law_box_here", "_law_items"] spPick fP dP) : FnOk P w K mg base CX0 (k + 3) f fd ["_law_box_here"] spWord := by
  refine F.ok scWord (fun vs H Q E h => ?_) (fun cdv A outer s H vs Q E hr h => ?_)
  · obtain ⟨p, g, rfl, _⟩ := h
    rfl
  obtain ⟨p, g, rfl, hb, q⟩ := h
  have hr1 : Room 1 _ := hr.mono (by omega)
  have hr2 : Room 2 _ := hr.mono (by omega)
  refine ⟨_, pss_cons (ps_set (i := 1) scWord.nd rfl (.inr rfl) pe_str)
    (pss_cons (ps_if (pt_cmpR op_eq (pe_call T.ok hr1 (by rfl) T.mg T.kp T.bd .nil pass0 (pa_cons (pv 0) (pa_cons pe_int pa_nil))) pe_int (nomark _))
      (pss_one (ps_ret (pe_call GP.ok hr2 (by rfl) GP.mg GP.kp GP.bd .nil pass0 (pa_cons (pv 0) (pa_cons (pe_lst (pa_cons pe_str (pa_cons pe_str (pa_cons pe_str (pa_cons pe_str (pa_cons pe_str (pa_cons pe_str (pa_cons pe_str (pa_cons pe_str (pa_cons pe_str (pa_cons pe_str pa_nil))))))))))) pa_nil))))) pss_nil)
    (pss_cons (ps_set (i := 2) scWord.nd rfl (.inl rfl) (pe_op op_add pe_int (pe_ix ix_list (pe_lst (pa_cons (pe_call T.ok hr1 (by rfl) T.mg T.kp T.bd .nil pass0 (pa_cons (pv 0) (pa_cons pe_int pa_nil))) (pa_cons (pe_call T.ok hr1 (by rfl) T.mg T.kp T.bd .nil pass0 (pa_cons (pv 0) (pa_cons pe_int pa_nil))) pa_nil)))
      (pe_op op_fdiv (pe_call T.ok hr1 (by rfl) T.mg T.kp T.bd .nil pass0 (pa_cons (pv 0) (pa_cons pe_int pa_nil))) pe_int) (fun _ _ => rfl))))
    (pss_one (ps_ret (pe_join pe_str (pe_lc (own := [("_law_k", 3)]) (g := gName 3) (by rfl) scWord.nd
      (pi_range1 (by rfl) mr (pa_cons (pv 2) pa_nil))
      (blkOk_by (own := [("_law_k", 3)]) (N := ["_law_box_here", "_law_letters", "_law_many", "_law_k"]) (sc := defScope sWord) (by decide +kernel))
      (fun _ _ _ _ _ => pg_name (i := 3) scWord.nd rfl (Or.inl rfl)) (fun _ _ _ _ _ => pts_nil)
      (fun _ _ _ _ _ => pe_ix ix_str (pv 1) (pe_call T.ok hr1 (by rfl) T.mg T.kp T.bd .nil pass0 (pa_cons (pv 0) (pa_cons pe_int pa_nil))) (fun _ _ => rfl)))))))), ?_⟩
  refine ⟨_, rfl, p, g, 6, rfl, hb, by decide, by decide, fun r H1 r0 r8 b1 o1 => ⟨rfl, _, rfl, ite2 (fun c => ?_) (fun c => ?_)⟩⟩
  · refine ⟨_, rfl, few (by simp), fun D hD => ?_⟩
    have nD := b1.notin hD
    refine ⟨p, g, D, _, rfl, b1.put nD, upd_same, nD, by simp, by simp, fun x mx H2 b2 o2 => ?_⟩
    have o3 := off_new (o := .lst [V.str "if", V.str "atom", V.str "tuple", V.str "is", V.str "int", V.str "name", V.str "read", V.str "abcdefgh", V.str "fold", V.str "not"]) o1 nD (o1.free hD nD)
    obtain ⟨y, rfl, sy⟩ : ∃ y : Str, x = .str y ∧ isNm y = true := by
      have key : ∀ y ∈ (["if", "atom", "tuple", "is", "int", "name", "read", "abcdefgh", "fold", "not"] : List Str), isNm y = true := by decide +kernel
      have mx2 : x ∈ (["if", "atom", "tuple", "is", "int", "name", "read", "abcdefgh", "fold", "not"] : List Str).map V.str := mx
      obtain ⟨y, hy, rfl⟩ := List.mem_map.mp mx2
      exact ⟨y, rfl, key y hy⟩
    exact q y H2 sy b2 (o3.trans o2)
  · refine ⟨_, rfl, p, g, 2, rfl, b1, by decide, by decide, fun s1 H3 s10 s12 b3 o3 => ⟨_, rfl, p, g, 8, rfl, b3, by decide, by decide, fun s2 H4 s20 s28 b4 o4 => ⟨few (by simp), fun D hD => ?_⟩⟩⟩
    have o4 := o1.trans (o3.trans o4)
    have nD := b4.notin hD
    have b5 := b4.put (o := .lst [V.int s1, V.int s2]) nD
    have o5 := off_new (o := .lst [V.int s1, V.int s2]) o4 nD (o4.free hD nD)
    refine ⟨_, rfl, p, g, 9, rfl, b5, by decide, by decide, fun s3 H6 s30 s39 b6 o6 => ⟨_, _, rfl, rfl, ⟨by decide, by decide⟩, ?_⟩⟩
    have hD6 := o6.get (upd_same (H := H4) (a := D) (o := .lst [V.int s1, V.int s2])) nD
    obtain ⟨x, hx, mx, _⟩ := atI_ok (xs := [V.int s1, V.int s2]) (r := s3 / 5) (by omega) (by simp only [List.length_cons, List.length_nil]; omega)
    refine ⟨D, _, _, x, rfl, rfl, SqL.of hD6, hx, ?_⟩
    obtain ⟨m, rfl, m0, m8⟩ : ∃ m : Int, x = .int m ∧ 0 ≤ m ∧ m < 8 := by
      simp only [List.mem_cons, List.not_mem_nil, or_false] at mx
      rcases mx with e | e
      · exact ⟨_, e, by omega, by omega⟩
      · exact ⟨_, e, by omega, by omega⟩
    have o6 := o5.trans o6
    refine ⟨1, m, rfl, rfl, ⟨_, rfl⟩, _, rfl, 1 + m, rfl, by omega, by omega, fun D2 hD2 => ?_⟩
    have n2 := b6.notin hD2
    refine lc_range (lo := 0) (n := (1 + m).toNat) (fun i H2 => ∃ cs : List Nat, cs.length = i ∧ (∀ c ∈ cs, lowOk c = true) ∧ H2 D2 = some (.lst ((cs.map fun c => (⟨#[c]⟩ : Str)).map V.str)) ∧ Box H2 p g ∧ Off [p, g] H H2)
      ⟨[], rfl, fun _ z => (List.not_mem_nil z).elim, upd_same, b6.same (same_new hD2 _), o6.trans (Off.of (same_new hD2 _))⟩ ?_ ?_
    · rintro i H2 hi ⟨cs, lc, sc, h1, b2, o2⟩
      refine ⟨rfl, _, rfl, _, rfl, p, g, 26, rfl, b2, by decide, by decide, fun r2 H3 s0 s26 b3 o3 => ?_⟩
      obtain ⟨c, hc, mc, _⟩ := atI_ok (xs := ("abcdefghijklmnopqrstuvwxyz" : Str).cps.toList) (r := r2) s0 (by rw [alpha_len]; exact s26)
      refine ⟨_, _, c, rfl, rfl, alpha_sm.fits (by decide), hc, _, o3.get h1 n2, ?_, cs ++ [c], ?_, ?_, ?_, b3.put n2, ?_⟩
      · rw [List.length_map, List.length_map]
        exact small1000 (by omega)
      · rw [List.length_append, List.length_singleton]
        omega
      · intro d hd
        rcases List.mem_append.mp hd with z | z
        · exact sc d z
        · rw [List.mem_singleton.mp z]
          exact alpha_low c mc
      · rw [upd_same, List.map_append, List.map_append]
        rfl
      · exact off_new (o2.trans o3) n2 (o6.free hD2 n2)
    · rintro H2 ⟨cs, lc, sc, h1, b2, o2⟩
      refine ⟨_, D2, cs.map fun c => (⟨#[c]⟩ : Str), rfl, rfl, .inl (SqL.of h1), ?_, q _ _ (join_nm sc (by omega) (by omega)) b2 o2⟩
      have e0 : (("" : Str)).length = 0 := by decide +kernel
      rw [e0, Nat.mul_zero, Nat.add_zero]
      have z := join_len (ws := cs.map fun c => (⟨#[c]⟩ : Str)) (m := 1) (fun y hy => by
        obtain ⟨c, _, rfl⟩ := List.mem_map.mp hy
        exact Nat.le_refl _)
      rw [List.length_map] at z
      omega
end
theorem nm_sm {x : Str} (h : isNm x = true) : Sm 8 x := by
  unfold isNm at h
  simp only [Bool.and_eq_true, decide_eq_true_eq, List.all_eq_true] at h
  refine ⟨h.1.2, fun c hc => ?_⟩
  have z := h.2 c hc
  unfold lowOk at z
  simp only [Bool.and_eq_true, decide_eq_true_eq] at z
  omega
theorem nm_gd {x : Str} (h : isNm x = true) : gd (.str x) = true := (nm_sm h).gd (by decide)
section
variable {P : Program} {w : World} {K : PySem.W.Frag} {mg : Str → Option Value} {base : Heap} {f fT fP fW : Addr} {fd dT dP dW : FuncData}
theorem ok_thing {k : Nat} (F : Fun K "_law_thing" "_law_thing" sThing f fd) (T : Tk P w K mg base fT dT) (GP : Dn P w K mg base 2 "_law_pick" ["_law_box_here", "_law_items"] spPick fP dP) (GW : Dn P w K mg base 3 "_law_word" ["_law_box_here"] spWord fW dW) :
    FnOk P w K mg base CX0 (k + 4) f fd ["_law_box_here", "_law_slot"] spThing := by
  refine F.ok scThing (fun vs H Q E h => ?_) (fun cdv A outer s H vs Q E hr h => ?_)
  · obtain ⟨p, g, c, rfl, _⟩ := h
    rfl
  obtain ⟨p, g, c, rfl, hc, hb, q⟩ := h
  have hr1 : Room 1 _ := hr.mono (by omega)
  have hr2 : Room 2 _ := hr.mono (by omega)
  have hr3 : Room 3 _ := hr.mono (by omega)
  refine ⟨_, pss_cons (ps_if (pt_cmpR op_eq (pv 1) pe_str (nomark _)) (pss_one (ps_ret (pe_call GP.ok hr2 (by rfl) GP.mg GP.kp GP.bd .nil pass0 (pa_cons (pv 0) (pa_cons (pe_lst (pa_cons pe_str (pa_cons pe_str (pa_cons pe_str pa_nil)))) pa_nil))))) pss_nil)
    (pss_cons (ps_if (pt_cmpR op_eq (pv 1) pe_str (nomark _)) (pss_one (ps_ret (pe_call GW.ok hr3 (by rfl) GW.mg GW.kp GW.bd .nil pass0 (pa_cons (pv 0) pa_nil)))) pss_nil)
    (pss_cons (ps_set (i := 2) scThing.nd rfl (.inl rfl) (pe_lst (pa_cons (pe_call T.ok hr1 (by rfl) T.mg T.kp T.bd .nil pass0 (pa_cons (pv 0) (pa_cons pe_int pa_nil))) (pa_cons (pe_call T.ok hr1 (by rfl) T.mg T.kp T.bd .nil pass0 (pa_cons (pv 0) (pa_cons pe_int pa_nil)))
      (pa_cons (pe_call T.ok hr1 (by rfl) T.mg T.kp T.bd .nil pass0 (pa_cons (pv 0) (pa_cons (pe_op op_pow pe_int pe_int) pa_nil))) (pa_cons (pe_call T.ok hr1 (by rfl) T.mg T.kp T.bd .nil pass0 (pa_cons (pv 0) (pa_cons (pe_op op_pow pe_int pe_int) pa_nil))) pa_nil))))))
    (pss_cons (ps_set (i := 3) scThing.nd rfl (.inl rfl) (pe_ix ix_list (pe_op op_cat (pv 2) (pe_lst (pa_cons (pe_op op_sub (pe_op op_sub (pe_op op_pow pe_int pe_int) pe_int) (pe_call T.ok hr1 (by rfl) T.mg T.kp T.bd .nil pass0 (pa_cons (pv 0) (pa_cons (pe_op op_pow pe_int pe_int) pa_nil)))) pa_nil)))
      (pe_op op_fdiv (pe_call T.ok hr1 (by rfl) T.mg T.kp T.bd .nil pass0 (pa_cons (pv 0) (pa_cons pe_int pa_nil))) pe_int) (fun _ _ => rfl)))
    (pss_one (ps_ret (pe_ifExp (PW.pt (pw_or (pt_cmpR op_eq (pv 1) pe_str (nomark _)) (pw_or1 (pt_cmpR op_gt (pe_call T.ok hr1 (by rfl) T.mg T.kp T.bd .nil pass0 (pa_cons (pv 0) (pa_cons pe_int pa_nil))) pe_int (nomark _))))) (pv 3) (pe_op op_sub pe_int (pv 3)))))))), ?_⟩
  have strq : ∀ x H', LeafOk c (.str x) → gd (.str x) = true → Box H' p g → Off [p, g] H H' → Q (.str x) H' := fun x H' lo gx b o => q (.str x) (.str x) H' (fun _ _ => .str x) lo gx (by simp only [nod]) (by simp only [PyData.depth]) (by simp only [nl]) b o
  have intq : ∀ (i : Int) H', LeafOk c (.int i) → i.natAbs < 10 ^ 18 → Box H' p g → Off [p, g] H H' → Q (.int i) H' := fun i H' lo si b o =>
    q (.int i) (.int i) H' (fun _ _ => .int i) lo (gd_int (Nat.lt_of_lt_of_le si (Nat.le_trans (by decide : 10 ^ 18 ≤ 2 ^ 60) (Nat.pow_le_pow_right (by decide) (by decide))))) (by simp only [nod]) (by simp only [PyData.depth]) (by simp only [nl]) b o
  refine ⟨_, rfl, rfl, _, rfl, ite2 (fun c1 => ?_) (fun c1 => ⟨_, rfl, rfl, _, rfl, ite2 (fun c2 => ?_) (fun c2 => ?_)⟩)⟩
  · have ec : c = 119 := (sg_one c 119).mp (V.str.inj (of_decide_eq_true c1))
    subst ec
    refine ⟨_, rfl, few (by simp), fun D hD => ?_⟩
    have nD := hb.notin hD
    have s1 : Same H (upd H D (.lst [V.str "integer", V.str "atom", V.str "tuple"])) := same_new hD _
    refine ⟨p, g, D, _, rfl, hb.put nD, upd_same, nD, by simp, by simp, fun x mx H2 b2 o2 => ?_⟩
    have mx2 : x ∈ (["integer", "atom", "tuple"] : List Str).map V.str := mx
    obtain ⟨y, hy, rfl⟩ := List.mem_map.mp mx2
    have key : ∀ y ∈ (["integer", "atom", "tuple"] : List Str), (decide (y.length ≤ 8) && y.cps.toList.all fun c => decide (c < 128)) = true := by decide +kernel
    refine strq y H2 ?_ ((Sm.of (key y hy)).gd (by decide)) b2 ((Off.of s1).trans o2)
    simp only [List.mem_cons, List.not_mem_nil, or_false] at hy
    exact .inr (.inr (.inr ⟨rfl, by rcases hy with z | z | z <;> simp [z]⟩))
  · have ec : c = 110 := (sg_one c 110).mp (V.str.inj (of_decide_eq_true c2))
    subst ec
    exact ⟨_, rfl, p, g, rfl, hb, fun x H' nx b o => strq x H' (.inr (.inr (.inl ⟨rfl, x, rfl, nx⟩))) (nm_gd nx) b o⟩
  · have hc2 : c = 107 ∨ c = 105 := by
      rcases hc with z | z | z | z
      · subst z
        exact absurd c1 (by decide +kernel)
      · subst z
        exact absurd c2 (by decide +kernel)
      · exact .inl z
      · exact .inr z
    have b4 : (10 : Int) ^ (4 : Int).toNat = 10000 := by decide
    have b12 : (10 : Int) ^ (12 : Int).toNat = 1000000000000 := by decide
    have b18 : (10 : Int) ^ (18 : Int).toNat = 1000000000000000000 := by decide
    have b6 : (10 : Int) ^ (6 : Int).toNat = 1000000 := by decide
    refine ⟨_, rfl, p, g, 9, rfl, hb, by decide, by decide, fun s1 H3 s10 s12 b3 o3 => ⟨_, rfl, p, g, 21, rfl, b3, by decide, by decide, fun s2 H4 s20 s28 bb4 o4 => ?_⟩⟩
    refine ⟨_, rfl, _, _, rfl, rfl, ⟨by decide, by decide, by decide⟩, p, g, _, rfl, bb4, by decide, by decide, fun s3 H5 s30 s38 b5 o5 => ?_⟩
    refine ⟨_, rfl, _, _, rfl, rfl, ⟨by decide, by decide, by decide⟩, p, g, _, rfl, b5, by decide, by decide, fun s4 H6 s40 s48 bb6 o6 => ?_⟩
    refine ⟨few (by simp), fun D hD => ?_⟩
    rw [b4] at s38
    rw [b12] at s48
    have o7 := o3.trans (o4.trans (o5.trans o6))
    have nD := bb6.notin hD
    have b7 := bb6.put (o := .lst [V.int s1, V.int s2, V.int s3, V.int s4]) nD
    have o8 := off_new (o := .lst [V.int s1, V.int s2, V.int s3, V.int s4]) o7 nD (o7.free hD nD)
    have hD8 : (upd H6 D (.lst [V.int s1, V.int s2, V.int s3, V.int s4])) D = some (.lst [V.int s1, V.int s2, V.int s3, V.int s4]) := upd_same
    generalize upd H6 D (.lst [V.int s1, V.int s2, V.int s3, V.int s4]) = H7 at b7 o8 hD8
    refine ⟨_, rfl, _, _, rfl, rfl, ⟨by decide, by decide, by decide⟩, _, _, rfl, rfl, _, rfl, _, _, rfl, rfl, ⟨by decide, by decide, by decide⟩, p, g, _, rfl, b7, by decide, by decide, fun s5 H8 s50 s58 b8 o9 => ?_⟩
    rw [b6] at s58
    refine ⟨_, _, rfl, rfl, few (by simp), fun D2 hD2 => ?_⟩
    have nD2 := b8.notin hD2
    have b9 := b8.put (o := .lst [V.int (10 ^ (18 : Int).toNat - 1 - s5)]) nD2
    have o10 := off_new (o := .lst [V.int (10 ^ (18 : Int).toNat - 1 - s5)]) (o8.trans o9) nD2 ((o8.trans o9).free hD2 nD2)
    have h89 : Same H8 (upd H8 D2 (.lst [V.int (10 ^ (18 : Int).toNat - 1 - s5)])) := same_new hD2 _
    have hD9 := h89 _ _ (o9.get hD8 nD)
    have hE9 : (upd H8 D2 (.lst [V.int (10 ^ (18 : Int).toNat - 1 - s5)])) D2 = some (.lst [V.int (10 ^ (18 : Int).toNat - 1 - s5)]) := upd_same
    generalize upd H8 D2 (.lst [V.int (10 ^ (18 : Int).toNat - 1 - s5)]) = H9 at b9 o10 hD9 hE9
    refine ⟨D, D2, _, _, rfl, rfl, hD9, hE9, few (by simp), fun D3 hD3 => ?_⟩
    have nD3 := b9.notin hD3
    have bA := b9.put (o := .lst ([V.int s1, V.int s2, V.int s3, V.int s4] ++ [V.int (10 ^ (18 : Int).toNat - 1 - s5)])) nD3
    have oA := off_new (o := .lst ([V.int s1, V.int s2, V.int s3, V.int s4] ++ [V.int (10 ^ (18 : Int).toNat - 1 - s5)])) o10 nD3 (o10.free hD3 nD3)
    have hA : (upd H9 D3 (.lst ([V.int s1, V.int s2, V.int s3, V.int s4] ++ [V.int (10 ^ (18 : Int).toNat - 1 - s5)]))) D3 = some (.lst ([V.int s1, V.int s2, V.int s3, V.int s4] ++ [V.int (10 ^ (18 : Int).toNat - 1 - s5)])) := upd_same
    generalize upd H9 D3 (.lst ([V.int s1, V.int s2, V.int s3, V.int s4] ++ [V.int (10 ^ (18 : Int).toNat - 1 - s5)])) = HA at bA oA hA
    refine ⟨_, rfl, p, g, 9, rfl, bA, by decide, by decide, fun s6 HB s60 s69 bB oB => ⟨_, _, rfl, rfl, ⟨by decide, by decide⟩, ?_⟩⟩
    obtain ⟨x, hx, mx, _⟩ := atI_ok (xs := [V.int s1, V.int s2, V.int s3, V.int s4] ++ [V.int (10 ^ (18 : Int).toNat - 1 - s5)]) (r := s6 / 2) (by omega) (by simp only [List.length_append, List.length_cons, List.length_nil]; omega)
    obtain ⟨m, rfl, m0, m8⟩ : ∃ m : Int, x = .int m ∧ 0 ≤ m ∧ m < 1000000000000000000 := by
      rw [b18] at mx
      simp only [List.mem_cons, List.mem_append, List.not_mem_nil, or_false] at mx
      rcases mx with (e | e | e | e) | e
      · exact ⟨_, e, by omega, by omega⟩
      · exact ⟨_, e, by omega, by omega⟩
      · exact ⟨_, e, by omega, by omega⟩
      · exact ⟨_, e, by omega, by omega⟩
      · exact ⟨_, e, by omega, by omega⟩
    refine ⟨D3, _, _, .int m, rfl, rfl, SqL.of (oB.get hA nD3), hx, ?_⟩
    have oC := oA.trans oB
    have big : (10 : Nat) ^ 18 = 1000000000000000000 := by decide
    have pos : LeafOk c (.int m) := by
      rcases hc2 with z | z
      · exact .inl ⟨z, m, rfl, by rw [big]; omega⟩
      · exact .inr (.inl ⟨z, m, rfl, m0, by rw [big]; omega⟩)
    refine ⟨_, rfl, rfl, _, rfl, ite2 (fun c5 => ⟨_, rfl, intq m HB pos (by rw [big]; omega) bB oC⟩) (fun c5 => ?_)⟩
    have ec : c = 107 := by
      rcases hc2 with z | z
      · exact z
      · subst z
        exact absurd c5 (by decide +kernel)
    refine ⟨_, rfl, p, g, 3, rfl, bB, by decide, by decide, fun s7 HC s70 s73 bC oD => ⟨_, _, rfl, rfl, _, rfl, ite2 (fun c => ⟨_, rfl, ?_⟩) (fun c => ⟨_, rfl, _, _, rfl, rfl, ?_⟩)⟩⟩
    · exact intq m HC pos (by rw [big]; omega) bC (oC.trans oD)
    · exact intq (0 - m) HC (.inl ⟨ec, 0 - m, rfl, by rw [big]; omega⟩) (by rw [big]; omega) bC (oC.trans oD)
end
abbrev sTree : Stmt := topS 33
theorem scTree : FnScope ["_law_box_here", "_law_sort", "_law_deep", "_law_room", "_law_forms_here", "_law_head", "_law_heads", "_law_found", "_law_slot", "_law_many", "_law_is_tree", "_law_k"] ["_law_box_here", "_law_sort", "_law_deep", "_law_room"] (defScope sTree) :=
  ⟨rfl, rfl, rfl, by decide +kernel, rfl, by decide +kernel, by decide +kernel⟩
def phi (w : Int) : Nat := (max w 1).toNat
def limS (s : Str) : Nat := if s = "t" then 6 else 3
def tblS (s : Str) : List (Str × Str) := if s = "t" then teL else exL
def cst (c : Nat) : Nat := if c = 115 then 37 else if c = 101 then 3 else if c = 116 then 6 else 1
def cstL (cs : List Nat) : Nat := (cs.map cst).sum
def keysV (l : List (Str × Str)) : List V := l.map fun p => V.str p.1
abbrev eightV : List V := [.str "int", .str "atom", .str "name", .str "read", .str "is", .str "sized", .str "alike", .str "most"]
abbrev fourV : List V := [.str "int", .str "atom", .str "name", .str "is"]
def spTree (K : PySem.W.Frag) (n : Nat) : Sp := fun vs H Q _ => ∃ p g wd e w0 s, vs = [.ref p, .str s, .int e, .ref wd] ∧ Box H p g ∧ H wd = some (.lst [.int w0]) ∧ wd ∉ [p, g] ∧ ((s = "e" ∧ 0 ≤ e) ∨ (s = "t" ∧ 1 ≤ e)) ∧ e < (n : Int) ∧
  ∀ v d H' w1, Box H' p g → H' wd = some (.lst [.int w1]) → Off [p, g, wd] H H' → Dp K H' v d → Wx n (decide (s = "t")) d → gd d = true → nl d = true → (d.depth : Int) ≤ 2 * e + 1 → w1 ≤ w0 - 1 → nod d + 80 * phi w1 ≤ limS s + 80 * phi w0 → Q v H'
theorem heads_ok {s : Str} {hs : List V} (h : hs = (keysV (tblS s)).filter (fun x => inV x eightV) ∨ hs = keysV (tblS s)) : hs ≠ [] ∧ hs.length ≤ 16 ∧ hs.filter (fun x => inV x fourV) ≠ [] ∧ ∀ x ∈ hs, x ∈ keysV (tblS s) := by
  have a1 : ∀ b : Bool, (keysV (if b = true then teL else exL)).filter (fun x => inV x eightV) ≠ [] ∧ ((keysV (if b = true then teL else exL)).filter (fun x => inV x eightV)).length ≤ 16 ∧ ((keysV (if b = true then teL else exL)).filter (fun x => inV x eightV)).filter (fun x => inV x fourV) ≠ [] := by
    intro b
    cases b <;> exact ⟨by decide +kernel, by decide +kernel, by decide +kernel⟩
  have a2 : ∀ b : Bool, keysV (if b = true then teL else exL) ≠ [] ∧ (keysV (if b = true then teL else exL)).length ≤ 16 ∧ (keysV (if b = true then teL else exL)).filter (fun x => inV x fourV) ≠ [] := by
    intro b
    cases b <;> exact ⟨by decide +kernel, by decide +kernel, by decide +kernel⟩
  have e : tblS s = if decide (s = "t") = true then teL else exL := by
    unfold tblS
    by_cases z : s = "t"
    · rw [if_pos z, if_pos (decide_eq_true z)]
    · rw [if_neg z, if_neg (fun y => z (of_decide_eq_true y))]
  rcases h with rfl | rfl
  · refine ⟨?_, ?_, ?_, fun x hx => (List.mem_filter.mp hx).1⟩
    · rw [e]; exact (a1 _).1
    · rw [e]; exact (a1 _).2.1
    · rw [e]; exact (a1 _).2.2
  · refine ⟨?_, ?_, ?_, fun x hx => hx⟩
    · rw [e]; exact (a2 _).1
    · rw [e]; exact (a2 _).2.1
    · rw [e]; exact (a2 _).2.2
theorem four_ex : ∀ p ∈ exL, inV (.str p.1) fourV = true → p.2 = "k" ∨ p.2 = "n" := by decide +kernel
theorem four_te : ∀ p ∈ teL, inV (.str p.1) fourV = true → p.2 = "we" := by decide +kernel
theorem cst_all : ∀ p ∈ allL, cstL p.2.cps.toList ≤ 60 := by decide +kernel
theorem tbl_all {s : Str} : ∀ p ∈ tblS s, p ∈ allL := fun p h => by
  unfold tblS at h
  split at h
  · exact List.mem_append_right _ h
  · exact List.mem_append_left _ h
structure SlotOk (s : Str) (e w0 : Int) (sl : Str) : Prop where
  go : ∀ c ∈ sl.cps.toList, (c = 101 ∨ c = 115 → 1 ≤ e) ∧ (c = 116 → 2 ≤ e)
  co : 2 + cstL sl.cps.toList + 80 * phi (w0 - 1) ≤ limS s + 80 * phi w0
def PH (s : Str) (e w0 : Int) (hs : List V) : Prop := hs ≠ [] ∧ hs.length ≤ 16 ∧ ∀ x ∈ hs, ∃ h sl, x = .str h ∧ (h, sl) ∈ tblS s ∧ SlotOk s e w0 sl
theorem ph_few {s : Str} {e w0 : Int} {hs : List V} (h : hs = (keysV (tblS s)).filter (fun x => inV x eightV) ∨ hs = keysV (tblS s)) (he : (s = "e" ∧ 0 ≤ e) ∨ (s = "t" ∧ 1 ≤ e)) : PH s e w0 (hs.filter fun x => inV x fourV) := by
  obtain ⟨h1, h2, h3, h4⟩ := heads_ok h
  refine ⟨h3, Nat.le_trans (List.length_filter_le _ _) h2, fun x hx => ?_⟩
  obtain ⟨m1, m2⟩ := List.mem_filter.mp hx
  obtain ⟨⟨hd, sl⟩, m3, rfl⟩ := List.mem_map.mp (h4 x m1)
  refine ⟨hd, sl, rfl, m3, ?_⟩
  have ph : phi (w0 - 1) ≤ phi w0 := by
    unfold phi
    omega
  rcases he with ⟨rfl, e0⟩ | ⟨rfl, e1⟩
  · have l0 : limS "e" = 3 := by decide +kernel
    rcases four_ex _ m3 m2 with z | z
    · simp only at z
      subst z
      have q : cstL ("k" : Str).cps.toList = 1 := by decide +kernel
      exact ⟨fun c hc => by
        have hc : c = 107 := by
          have z : ("k" : Str).cps.toList = [107] := by decide +kernel
          rw [z] at hc
          exact List.mem_singleton.mp hc
        omega, by rw [q, l0]; omega⟩
    · simp only at z
      subst z
      have q : cstL ("n" : Str).cps.toList = 1 := by decide +kernel
      exact ⟨fun c hc => by
        have hc : c = 110 := by
          have z : ("n" : Str).cps.toList = [110] := by decide +kernel
          rw [z] at hc
          exact List.mem_singleton.mp hc
        omega, by rw [q, l0]; omega⟩
  · have l0 : limS "t" = 6 := by decide +kernel
    have z := four_te _ m3 m2
    simp only at z
    subst z
    have q : cstL ("we" : Str).cps.toList = 4 := by decide +kernel
    exact ⟨fun c hc => by
      have hc : c = 119 ∨ c = 101 := by
        have z : ("we" : Str).cps.toList = [119, 101] := by decide +kernel
        rw [z] at hc
        simpa using hc
      omega, by rw [q, l0]; omega⟩
theorem ph_many {s : Str} {e w0 : Int} {hs : List V} (h : hs = (keysV (tblS s)).filter (fun x => inV x eightV) ∨ hs = keysV (tblS s)) (he : 2 ≤ e) (hw : 1 ≤ w0 - 1) : PH s e w0 hs := by
  obtain ⟨h1, h2, h3, h4⟩ := heads_ok h
  refine ⟨h1, h2, fun x hx => ?_⟩
  obtain ⟨⟨hd, sl⟩, m3, rfl⟩ := List.mem_map.mp (h4 x hx)
  refine ⟨hd, sl, rfl, m3, fun c hc => by omega, ?_⟩
  have := cst_all _ (tbl_all _ m3)
  simp only at this
  have : phi w0 = phi (w0 - 1) + 1 := by
    unfold phi
    omega
  omega
theorem lock_same {H2 H3 : Hp} {d : Addr} {u x : HO} (h : H2 d = some u) (s : Same (upd H2 d x) H3) : Same H2 (upd H3 d u) := fun b o z => by
  by_cases e : b = d
  · rw [e, upd_same]
    rw [e, h] at z
    exact z
  · rw [upd_ne e]
    exact s b o (by rw [upd_ne e]; exact z)
theorem sg_s (c : Nat) : (V.str ⟨#[c]⟩ = V.str "s") ↔ c = 115 := by
  rw [V.str.injEq]
  exact sg_one c 115
theorem sg_e : ("e" : Str) = ⟨#[101]⟩ := by decide +kernel
theorem sg_t : ("t" : Str) = ⟨#[116]⟩ := by decide +kernel
theorem inV_et (c : Nat) : inV (.str ⟨#[c]⟩) [.str "e", .str "t"] = true ↔ c = 101 ∨ c = 116 := by
  simp only [inV, List.any_cons, List.any_nil, eqV, Bool.or_false, Bool.or_eq_true, beq_iff_eq]
  rw [sg_e, sg_t, sg_one, sg_one]
  exact ⟨fun h => h.imp Eq.symm Eq.symm, fun h => h.imp Eq.symm Eq.symm⟩
theorem val_te : ∀ p ∈ teL, valV (kvL teL) (Sum.inr p.1 : Key) = some (.str p.2) := by decide +kernel
theorem val_ex : ∀ p ∈ exL, valV (kvL exL) (Sum.inr p.1 : Key) = some (.str p.2) := by decide +kernel
theorem val_tbl {s : Str} : ∀ p ∈ tblS s, valV (kvL (tblS s)) (Sum.inr p.1 : Key) = some (.str p.2) := fun p h => by
  unfold tblS at h ⊢
  split at h
  · rename_i c
    rw [if_pos c]
    exact val_te p h
  · rename_i c
    rw [if_neg c]
    exact val_ex p h
theorem ArgOk.snoc {W : Bool → PyData → Prop} : ∀ {cs : List Nat} {ds : List PyData} {c : Nat} {d : PyData}, ArgOk W cs ds → SlotD W c d → ArgOk W (cs ++ [c]) (ds ++ [d])
  | [], [], _, _, _, h => ⟨h, trivial⟩
  | _ :: _, _ :: _, _, _, h, g => ⟨h.1, ArgOk.snoc h.2 g⟩
  | [], _ :: _, _, _, h, _ => h.elim
  | _ :: _, [], _, _, h, _ => h.elim
theorem leaf_e : ∀ p ∈ exL, p.1 ∈ leafHeads → p = (("int", "k") : Str × Str) ∨ p = (("atom", "n") : Str × Str) ∨ p = (("name", "n") : Str × Str) := by decide +kernel
theorem leaf_t : ∀ p ∈ teL, p.1 ∉ leafHeads := by decide +kernel
theorem slot_chars : ∀ p ∈ allL, ∀ c ∈ p.2.cps.toList, c = 115 ∨ c = 101 ∨ c = 116 ∨ c = 119 ∨ c = 110 ∨ c = 107 ∨ c = 105 := by decide +kernel
theorem tb_tbl (s : Str) : tbS (decide (s = "t")) = tblS s := by
  unfold tbS tblS
  by_cases z : s = "t"
  · rw [if_pos z, if_pos (decide_eq_true z)]
  · rw [if_neg z, if_neg (fun y => z (of_decide_eq_true y))]
theorem node_wx {n : Nat} {s : Bool} {h sl : Str} {ds : List PyData} (m : (h, sl) ∈ tbS s) (a : ArgOk (Wx n) sl.cps.toList ds) : Wx (n + 1) s (.tuple (.str h :: ds)) := by
  by_cases z : h ∈ leafHeads
  · left
    have ck : ("k" : Str).cps.toList = [107] := by decide +kernel
    have cn : ("n" : Str).cps.toList = [110] := by decide +kernel
    cases s with
    | true => exact absurd z (leaf_t (h, sl) m)
    | false =>
      refine ⟨rfl, ?_⟩
      rcases leaf_e (h, sl) m z with e | e | e
      · cases e
        rw [ck] at a
        match ds, a with
        | [d], a =>
          have a1 : LeafOk 107 d := a.1
          rcases a1 with ⟨_, i, rfl, hi⟩ | ⟨z, _⟩ | ⟨z, _⟩ | ⟨z, _⟩
          · exact .inl ⟨i, rfl, hi⟩
          · exact absurd z (by decide)
          · exact absurd z (by decide)
          · exact absurd z (by decide)
        | [], a => exact a.elim
        | _ :: _ :: _, a => exact a.2.elim
      · cases e
        rw [cn] at a
        match ds, a with
        | [d], a =>
          have a1 : LeafOk 110 d := a.1
          rcases a1 with ⟨z, _⟩ | ⟨z, _⟩ | ⟨_, x, rfl, hx⟩ | ⟨z, _⟩
          · exact absurd z (by decide)
          · exact absurd z (by decide)
          · exact .inr ⟨x, .inr rfl, hx⟩
          · exact absurd z (by decide)
        | [], a => exact a.elim
        | _ :: _ :: _, a => exact a.2.elim
      · cases e
        rw [cn] at a
        match ds, a with
        | [d], a =>
          have a1 : LeafOk 110 d := a.1
          rcases a1 with ⟨z, _⟩ | ⟨z, _⟩ | ⟨_, x, rfl, hx⟩ | ⟨z, _⟩
          · exact absurd z (by decide)
          · exact absurd z (by decide)
          · exact .inr ⟨x, .inl rfl, hx⟩
          · exact absurd z (by decide)
        | [], a => exact a.elim
        | _ :: _ :: _, a => exact a.2.elim
  · exact .inr ⟨h, sl, ds, rfl, m, z, a⟩
theorem cstL_snoc (cs : List Nat) (c : Nat) : cstL (cs ++ [c]) = cstL cs + cst c := by
  unfold cstL
  rw [List.map_append, List.sum_append]
  simp
theorem gd_heads : ∀ p ∈ allL, gd (.str p.1) = true := by decide +kernel
theorem op_inK {X : Cx} {K : PySem.W.Frag} (h : X.K = K) : OpR X (compareOp .In) (rIn K false) := by
  subst h
  exact op_in_seq
section
variable {P : Program} {w : World} {K : PySem.W.Frag} {mg : Str → Option Value} {base : Heap} {f fT fF fP fG : Addr} {fd dT dF dP dG : FuncData}
theorem ok_tree {k n : Nat} (F : Fun K "_law_tree" "_law_tree" sTree f fd) (ml : mg "list" = none) (mt : mg "tuple" = none) (mr : mg "range" = none) (T : Tk P w K mg base fT dT) (GF : Dn P w K mg base 1 "_law_forms" ["_law_sort"] spForms fF dF)
    (GP : Dn P w K mg base 2 "_law_pick" ["_law_box_here", "_law_items"] spPick fP dP) (GT : Dn P w K mg base 4 "_law_thing" ["_law_box_here", "_law_slot"] spThing fG dG)
    (G : FnOk P w K mg base CX0 (k + 4) f fd ["_law_box_here", "_law_sort", "_law_deep", "_law_room"] (spTree K n)) (bV : Binds K fd ["_law_box_here", "_law_sort", "_law_deep", "_law_room"] []) (mV : mg "_law_tree" = some (.ref f)) :
    FnOk P w K mg base CX0 (k + 5) f fd ["_law_box_here", "_law_sort", "_law_deep", "_law_room"] (spTree K (n + 1)) := by
  refine F.ok scTree (fun vs H Q E h => ?_) (fun cdv A outer s H vs Q E hr h => ?_)
  · obtain ⟨p, g, wd, e, w0, s, rfl, _⟩ := h
    rfl
  obtain ⟨p, g, wd, e, w0, srt, rfl, hb, hw, nw, hs, en, q⟩ := h
  have hr1 : Room 1 _ := hr.mono (by omega)
  have hr2 : Room 2 _ := hr.mono (by omega)
  have hr4 : Room 4 _ := hr.mono (by omega)
  have hu := hu_of hr
  refine ⟨_, pss_cons (ps_asg (pe_op op_sub (pe_ix ix_list (pv 3) pe_int (fun _ _ => rfl)) pe_int) (pg_sub (pv 3) pe_int set_list))
    (pss_cons (ps_set (i := 4) scTree.nd rfl (.inl rfl) (pe_call GF.ok hr1 (by rfl) GF.mg GF.kp GF.bd .nil pass0 (pa_cons (pv 1) pa_nil)))
    (pss_cons (ps_lock (ps_setLc (i := 6) (own := [("_law_head", 5)]) (g := gName 5) (by rfl) scTree.nd rfl rfl (sw_true rfl rfl rfl (by decide +kernel)) (pi_keys (pv 4))
        (blkOk_by (own := [("_law_head", 5)]) (N := ["_law_box_here", "_law_sort", "_law_deep", "_law_room", "_law_forms_here", "_law_head", "_law_heads", "_law_found", "_law_slot", "_law_many", "_law_is_tree", "_law_k"]) (sc := defScope sTree) (by decide +kernel))
        (fun _ _ _ _ _ => pg_name (i := 5) scTree.nd rfl (Or.inl rfl)) (fun _ _ _ _ _ => pts_one (pt_cmpR (op_inK (K := K) rfl) (pv 5) (pe_tup (pa_cons pe_str (pa_cons pe_str (pa_cons pe_str (pa_cons pe_str (pa_cons pe_str (pa_cons pe_str (pa_cons pe_str (pa_cons pe_str pa_nil))))))))) rfl)) (fun _ _ _ _ _ => pv 5)))
    (C8.pss_cut (ps_if (PW.pt (pw_and (pt_cmpR op_gt (pv 2) pe_int (nomark _)) (pw_and (pt_cmpR op_gt (pe_ix ix_list (pv 3) pe_int (fun _ _ => rfl)) pe_int (nomark _)) (pw_and1 (pt_cmpR op_gt (pe_call T.ok hr1 (by rfl) T.mg T.kp T.bd .nil pass0 (pa_cons (pv 0) (pa_cons pe_int pa_nil))) pe_int (nomark _))))))
      (pss_one (ps_set (i := 6) scTree.nd rfl (.inl rfl) (pe_callTy (call_listD rfl) (by rfl) ml b_list (pa_cons (pv 4) pa_nil)))) pss_nil)
    (C8.pss_cut (ps_if (PW.pt (pw_or (pt_cmpR op_lt (pv 2) pe_int (nomark _)) (pw_or1 (pt_cmpR op_lt (pe_ix ix_list (pv 3) pe_int (fun _ _ => rfl)) pe_int (nomark _)))))
      (pss_one (ps_setLc (i := 6) (own := [("_law_head", 5)]) (g := gName 5) (by rfl) scTree.nd rfl rfl (sw_true rfl rfl rfl (by decide +kernel)) (pi_list (pv 6))
        (blkOk_by (own := [("_law_head", 5)]) (N := ["_law_box_here", "_law_sort", "_law_deep", "_law_room", "_law_forms_here", "_law_head", "_law_heads", "_law_found", "_law_slot", "_law_many", "_law_is_tree", "_law_k"]) (sc := defScope sTree) (by decide +kernel))
        (fun _ _ _ _ _ => pg_name (i := 5) scTree.nd rfl (Or.inl rfl)) (fun _ _ _ _ _ => pts_one (pt_cmpR (op_inK (K := K) rfl) (pv 5) (pe_tup (pa_cons pe_str (pa_cons pe_str (pa_cons pe_str (pa_cons pe_str pa_nil))))) rfl)) (fun _ _ _ _ _ => pv 5))) pss_nil)
    (pss_cons (ps_par (i := 5) (j := 7) (by rfl) scTree.nd rfl rfl (by decide) rfl rfl (pa_cons (pe_call GP.ok hr2 (by rfl) GP.mg GP.kp GP.bd .nil pass0 (pa_cons (pv 0) (pa_cons (pv 6) pa_nil))) (pa_cons (pe_lst pa_nil) pa_nil)) (by rfl))
    (pss_cons (ps_for PassesOwn.never rfl (pi_str (pe_dget hu (pv 4) (pv 5) (fun _ _ => rfl))) (pg_name (i := 8) scTree.nd rfl (Or.inl rfl))
      (pss_one (ps_if (pt_cmpR op_eq (pv 8) pe_str (nomark _))
        (pss_cons (ps_set (i := 9) scTree.nd rfl (.inl rfl) (pe_ix ix_list (pe_lst (pa_cons (pe_call T.ok hr1 (by rfl) T.mg T.kp T.bd .nil pass0 (pa_cons (pv 0) (pa_cons pe_int pa_nil))) (pa_cons (pe_op op_add pe_int (pe_call T.ok hr1 (by rfl) T.mg T.kp T.bd .nil pass0 (pa_cons (pv 0) (pa_cons pe_int pa_nil)))) pa_nil)))
          (pe_op op_fdiv (pe_call T.ok hr1 (by rfl) T.mg T.kp T.bd .nil pass0 (pa_cons (pv 0) (pa_cons pe_int pa_nil))) pe_int) (fun _ _ => rfl)))
        (pss_one (ps_expr (pe_bm PySem.F.plainAttrs_list PySem.F.slot_list_append PySem.F.type_list_append mt_append (pv 7) (pa_cons (pe_callTy call_tuple_of (by rfl) mt b_tup (pa_cons (pe_lc (own := [("_law_k", 11)]) (g := gName 11) (by rfl) scTree.nd (pi_range1 (by rfl) mr (pa_cons (pv 9) pa_nil))
          (blkOk_by (own := [("_law_k", 11)]) (N := ["_law_box_here", "_law_sort", "_law_deep", "_law_room", "_law_forms_here", "_law_head", "_law_heads", "_law_found", "_law_slot", "_law_many", "_law_is_tree", "_law_k"]) (sc := defScope sTree) (by decide +kernel))
          (fun _ _ _ _ _ => pg_name (i := 11) scTree.nd rfl (Or.inl rfl)) (fun _ _ _ _ _ => pts_nil)
          (fun _ _ _ _ _ => pe_call G hr (by rfl) mV F.kp bV .nil pass0 (pa_cons (pv 0) (pa_cons pe_str (pa_cons (pe_op op_sub (pv 2) pe_int) (pa_cons (pv 3) pa_nil)))))) pa_nil)) pa_nil)))))
        (pss_cons (ps_set (i := 10) scTree.nd rfl (.inl rfl) (pe_cmpR op_in_seq (pv 8) (pe_tup (pa_cons pe_str (pa_cons pe_str pa_nil))) rfl))
        (pss_one (ps_expr (pe_bm PySem.F.plainAttrs_list PySem.F.slot_list_append PySem.F.type_list_append mt_append (pv 7) (pa_cons (pe_ifExp (pt_val (pv 10))
          (pe_call G hr (by rfl) mV F.kp bV .nil pass0 (pa_cons (pv 0) (pa_cons (pv 8) (pa_cons (pe_op op_sub (pv 2) pe_int) (pa_cons (pv 3) pa_nil)))))
          (pe_call GT.ok hr4 (by rfl) GT.mg GT.kp GT.bd .nil pass0 (pa_cons (pv 0) (pa_cons (pv 8) pa_nil)))) pa_nil))))))))
    (pss_one (ps_ret (pe_op op_catT (pe_tup (pa_cons (pv 5) pa_nil)) (pe_callTy call_tuple_of (by rfl) mt b_tup (pa_cons (pv 7) pa_nil)))))))))))  , ?_⟩
  have npg : p ∉ [wd] ∧ g ∉ [wd] := by
    simp only [List.mem_cons, List.not_mem_nil, or_false, not_or] at nw ⊢
    exact ⟨fun z => nw.1 z.symm, fun z => nw.2 z.symm⟩
  have sub : ∀ b ∈ [p, g], b ∈ [p, g, wd] := fun b hb => by
    simp only [List.mem_cons, List.not_mem_nil, or_false] at hb ⊢
    rcases hb with h | h
    · exact .inl h
    · exact .inr (.inl h)
  refine ⟨_, rfl, wd, _, 0, _, rfl, rfl, SqL.of hw, rfl, _, _, rfl, rfl, _, rfl, wd, _, 0, 0, rfl, rfl, hw, rfl, ?_⟩
  have b1 := hb.put (o := .lst [.int (w0 - 1)]) nw
  have o1 : Off [p, g, wd] H (upd H wd (.lst [.int (w0 - 1)])) := Off.put (by simp)
  have hw1 : (upd H wd (.lst [.int (w0 - 1)])) wd = some (.lst [.int (w0 - 1)]) := upd_same
  refine ⟨_, rfl, srt, rfl, fun pf H2 s2 hpf e2 => ?_⟩
  have s2 : Same (upd H wd (.lst [.int (w0 - 1)])) H2 := s2
  have et : (if srt = "t" then teL else exL) = tblS srt := rfl
  rw [et] at e2
  have b2 := b1.same s2
  have o2 : Off [p, g, wd] H H2 := o1.trans (Off.of s2)
  have hw2 := s2 _ _ hw1
  refine ⟨pf, .dK (kvL (tblS srt)), e2, trivial, fun od => ?_⟩
  refine ⟨_, rfl, pf, od, rfl, .inl ⟨kvL (tblS srt), upd_same, fun D hD => ?_⟩⟩
  refine lc_it walk_keys (fun i H3 => H3 D = some (.lst (((keysV (tblS srt)).take i).filter fun x => inV x eightV)) ∧ Same (upd H2 pf (.frz od (.dK (kvL (tblS srt))))) (cut [D] H3)) ⟨upd_same, ?_⟩ ?_ ?_ ?_
  · intro b u z
    rw [cut_out (by simp only [List.mem_singleton]; exact ne_of_none z hD), upd_ne (ne_of_none z hD)]
    exact z
  · rintro i H3 hi ⟨g1, g2⟩
    exact cut_same _ _ _ _ (g2 _ _ upd_same)
  · rintro i y H3 H3' hi ⟨g1, g2⟩ ⟨rfl, kk, vv, hk, rfl⟩
    unfold kvL at hk
    rw [List.getElem?_map] at hk
    obtain ⟨⟨hd, sl⟩, hp, ep⟩ := Option.map_eq_some_iff.mp hk
    cases ep
    have tk : (keysV (tblS srt)).take (i + 1) = (keysV (tblS srt)).take i ++ [V.str hd] := get_take (by unfold keysV; rw [List.getElem?_map, hp]; rfl)
    refine ⟨rfl, _, rfl, few (by simp), fun T1 hT1 => ⟨T1, _, rfl, .inr (.inl (.inl upd_same)), rfl, rfl, _, rfl, ite2 (fun c => ?_) (fun c => ?_)⟩⟩
    · have c2 : inV (V.str hd) eightV = true := c
      have q1 : Same H3' (upd H3' T1 (.tup eightV)) := same_new hT1 _
      refine ⟨_, rfl, _, q1 _ _ g1, ?_, ?_, ?_⟩
      · have l1 := List.length_filter_le (fun x => inV x eightV) ((keysV (tblS srt)).take i)
        rw [List.length_take] at l1
        have l2 := (heads_ok (s := srt) (.inr rfl)).2.1
        exact small1000 (by omega)
      · rw [upd_same, tk, List.filter_append]
        simp only [List.filter_cons, c2, if_true, List.filter_nil]
        rfl
      · exact g2.trans ((Off.of q1).trans (Off.put (by simp)))
    · have c2 : inV (V.str hd) eightV = false := Bool.eq_false_iff.mpr c
      have q1 : Same H3' (upd H3' T1 (.tup eightV)) := same_new hT1 _
      refine ⟨?_, g2.trans (Off.of q1)⟩
      rw [q1 _ _ g1, tk, List.filter_append]
      simp only [List.filter_cons, c2, Bool.false_eq_true, if_false, List.filter_nil, List.append_nil]
  · rintro H3 ⟨g1, g2⟩
    have g3 : H3 pf = some (.frz od (.dK (kvL (tblS srt)))) := cut_same _ _ _ _ (g2 _ _ upd_same)
    refine ⟨g3, ?_⟩
    have nDp : D ≠ pf := fun z => by
      rw [z, g3] at g1
      cases g1
    rw [List.take_of_length_le (by simp [kvL, keysV])] at g1
    have s4 : Same H2 (upd H3 pf (.dK (kvL (tblS srt)))) := lock_same e2 (g2.trans (cut_same _ _))
    have hd4 : (upd H3 pf (.dK (kvL (tblS srt)))) D = some (.lst ((keysV (tblS srt)).filter fun x => inV x eightV)) := by
      rw [upd_ne nDp]
      exact g1
    have e4 : (upd H3 pf (.dK (kvL (tblS srt)))) pf = some (.dK (kvL (tblS srt))) := upd_same
    generalize upd H3 pf (.dK (kvL (tblS srt))) = H4 at s4 hd4 e4
    have b4 := b2.same s4
    have o4 := o2.trans (Off.of s4)
    have hw4 := s4 _ _ hw2
    have hpf0 : pf ∉ [p, g, wd] := fun z => by
      simp only [List.mem_cons, List.not_mem_nil, or_false] at z
      rcases z with z | z | z
      · rw [z] at hpf
        exact b1.tr.1 hpf
      · rw [z] at hpf
        exact b1.tr.2 hpf
      · rw [z] at hpf
        exact absurd (hw1.symm.trans hpf) (fun y => nomatch y)
    -- what stands behind the first test
    refine ⟨fun σ H5 => ∃ hd hs, σ = [some (.ref p), some (.str srt), some (.int e), some (.ref wd), some (.ref pf), none, some (.ref hd), none, none, none, none, none] ∧ H5 hd = some (.lst hs) ∧ (hs = (keysV (tblS srt)).filter (fun x => inV x eightV) ∨ hs = keysV (tblS srt)) ∧
        Box H5 p g ∧ H5 wd = some (.lst [.int (w0 - 1)]) ∧ H5 pf = some (.dK (kvL (tblS srt))) ∧ Off [p, g, wd] H H5 ∧ hd ∉ [p, g, wd], ?_, ?_⟩
    · have upn : ∀ b, H2 b ≠ none → (upd H2 pf (.frz od (.dK (kvL (tblS srt))))) b ≠ none := fun b z => by
        by_cases y : b = pf
        · rw [y, upd_same]
          exact fun z => nomatch z
        · rw [upd_ne y]
          exact z
      have nD : D ∉ [p, g, wd] := fun z => by
        simp only [List.mem_cons, List.not_mem_nil, or_false] at z
        rcases z with z | z | z
        · rw [z] at hD
          exact upn _ b2.tr.1 hD
        · rw [z] at hD
          exact upn _ b2.tr.2 hD
        · rw [z] at hD
          exact upn _ (by rw [hw2]; exact fun z => nomatch z) hD
      refine ⟨_, rfl, _, _, rfl, rfl, _, rfl, ite2 (fun c => ?_) (fun c => iteF ⟨D, _, rfl, hd4, .inl rfl, b4, hw4, e4, o4, nD⟩)⟩
      refine ⟨_, rfl, wd, _, 0, _, rfl, rfl, SqL.of hw4, rfl, _, _, rfl, rfl, _, rfl, ite2 (fun c2 => ?_) (fun c2 => iteF ⟨D, _, rfl, hd4, .inl rfl, b4, hw4, e4, o4, nD⟩)⟩
      have nDs : D ∉ [p, g] := fun z => nD (sub _ z)
      have npf : pf ∉ [p, g] := fun z => hpf0 (sub _ z)
      refine ⟨_, rfl, p, g, 5, rfl, b4, by decide, by decide, fun r H5 r0 r5 b5 o5 => ⟨_, _, rfl, rfl, _, rfl, ite2 (fun c3 => ?_) (fun c3 => ⟨D, _, rfl, o5.get hd4 nDs, .inl rfl, b5, o5.get hw4 nw, o5.get e4 npf, o4.trans (o5.mono sub), nD⟩)⟩⟩
      have o6 := o4.trans (o5.mono sub)
      have e5 := o5.get e4 npf
      have w5 := o5.get hw4 nw
      refine ⟨_, rfl, pf, _, rfl, .inl e5, fun D2 hD2 => ?_⟩
      have s6 : Same H5 (upd H5 D2 (.lst ((kvL (tblS srt)).map fun kv => kV kv.1))) := same_new hD2 _
      have n2 : D2 ∉ [p, g, wd] := fun z => by
        simp only [List.mem_cons, List.not_mem_nil, or_false] at z
        rcases z with z | z | z
        · rw [z] at hD2
          exact b5.tr.1 hD2
        · rw [z] at hD2
          exact b5.tr.2 hD2
        · rw [z, w5] at hD2
          cases hD2
      refine ⟨D2, keysV (tblS srt), rfl, ?_, .inr rfl, b5.same s6, s6 _ _ w5, s6 _ _ e5, o6.trans (Off.of s6), n2⟩
      rw [upd_same]
      unfold kvL keysV
      rw [List.map_map]
      rfl
    · rintro σ H5 ⟨hd, hl, rfl, h1, h2, b5, w5, f5, o5, n5⟩
      refine ⟨fun σ H6 => ∃ hd hs, σ = [some (.ref p), some (.str srt), some (.int e), some (.ref wd), some (.ref pf), none, some (.ref hd), none, none, none, none, none] ∧ H6 hd = some (.lst hs) ∧ PH srt e w0 hs ∧
        Box H6 p g ∧ H6 wd = some (.lst [.int (w0 - 1)]) ∧ H6 pf = some (.dK (kvL (tblS srt))) ∧ Off [p, g, wd] H H6 ∧ hd ∉ [p, g, wd], ?_, ?_⟩
      · have stay : 2 ≤ e → 1 ≤ w0 - 1 → PH srt e w0 hl := fun z1 z2 => ph_many h2 z1 z2
        have nd5 : hd ∉ [p, g] := fun z => n5 (sub _ z)
        have cutd : ∀ {Nx : L2.St → Hp → Prop}, (∀ (D2 : Addr) (H6 : Hp), H6 D2 = some (.lst (hl.filter fun x => inV x fourV)) → Same H5 H6 → H5 D2 = none → Nx [some (.ref p), some (.str srt), some (.int e), some (.ref wd), some (.ref pf), none, some (.ref D2), none, none, none, none, none] H6) → Nx = Nx := fun _ => rfl
        have few4 : ∀ (D2 : Addr) (H6 : Hp), H6 D2 = some (.lst (hl.filter fun x => inV x fourV)) → Same H5 H6 → H5 D2 = none → ∃ hd hs, [some (V.ref p), some (V.str srt), some (V.int e), some (V.ref wd), some (V.ref pf), none, some (V.ref D2), none, none, none, none, none] = [some (V.ref p), some (V.str srt), some (V.int e), some (V.ref wd), some (V.ref pf), none, some (V.ref hd), none, none, none, none, none] ∧ H6 hd = some (.lst hs) ∧ PH srt e w0 hs ∧
            Box H6 p g ∧ H6 wd = some (.lst [.int (w0 - 1)]) ∧ H6 pf = some (.dK (kvL (tblS srt))) ∧ Off [p, g, wd] H H6 ∧ hd ∉ [p, g, wd] := fun D2 H6 hl6 s6 hD2 => by
          have n2 : D2 ∉ [p, g, wd] := fun z => by
            simp only [List.mem_cons, List.not_mem_nil, or_false] at z
            rcases z with z | z | z
            · rw [z] at hD2
              exact b5.tr.1 hD2
            · rw [z] at hD2
              exact b5.tr.2 hD2
            · rw [z, w5] at hD2
              cases hD2
          exact ⟨D2, _, rfl, hl6, ph_few h2 hs, b5.same s6, s6 _ _ w5, s6 _ _ f5, o5.trans (Off.of s6), n2⟩
        refine ⟨_, rfl, _, _, rfl, rfl, _, rfl, ite2 (fun c => ?_) (fun c => ⟨_, rfl, wd, _, 0, _, rfl, rfl, SqL.of w5, rfl, _, _, rfl, rfl, _, rfl, ite2 (fun c2 => ?_) (fun c2 => ?_)⟩)⟩
        case refine_3 => exact ⟨hd, hl, rfl, h1, stay (by have := of_decide_eq_false (Bool.eq_false_iff.mpr c); omega) (by have := of_decide_eq_false (Bool.eq_false_iff.mpr c2); omega), b5, w5, f5, o5, n5⟩
        all_goals
          refine ⟨_, rfl, hd, rfl, ⟨_, SqL.of h1⟩, fun D2 hD2 => lc_list (K := K) (a := hd) (xs := hl) (fun i H6 => H6 D2 = some (.lst ((hl.take i).filter fun x => inV x fourV)) ∧ Same H5 (cut [D2] H6)) ⟨upd_same, ?_⟩ ?_ ?_ ?_⟩
          · intro b u z
            rw [cut_out (by simp only [List.mem_singleton]; exact ne_of_none z hD2), upd_ne (ne_of_none z hD2)]
            exact z
          · rintro i H6 hi ⟨g1, g2⟩
            exact SqL.of (cut_same _ _ _ _ (g2 _ _ h1))
          · rintro i y H6 hy ⟨g1, g2⟩
            obtain ⟨hdd, mm, rfl⟩ : ∃ hdd, hdd ∈ tblS srt ∧ y = V.str hdd.1 := by
              have := (heads_ok h2).2.2.2 y (List.mem_of_getElem? hy)
              obtain ⟨pp, m1, m2⟩ := List.mem_map.mp this
              exact ⟨pp, m1, m2.symm⟩
            have tk := get_take hy
            refine ⟨rfl, _, rfl, few (by simp), fun T1 hT1 => ⟨T1, _, rfl, .inr (.inl (.inl upd_same)), rfl, rfl, _, rfl, ite2 (fun cc => ?_) (fun cc => ?_)⟩⟩
            · have c2 : inV (V.str hdd.1) fourV = true := cc
              have q1 : Same H6 (upd H6 T1 (.tup fourV)) := same_new hT1 _
              refine ⟨_, rfl, _, q1 _ _ g1, ?_, ?_, ?_⟩
              · have l1 := List.length_filter_le (fun x => inV x fourV) (hl.take i)
                rw [List.length_take] at l1
                have l2 := (heads_ok h2).2.1
                exact small1000 (by omega)
              · rw [upd_same, tk, List.filter_append]
                simp only [List.filter_cons, c2, if_true, List.filter_nil]
              · exact g2.trans ((Off.of q1).trans (Off.put (by simp)))
            · have c2 : inV (V.str hdd.1) fourV = false := Bool.eq_false_iff.mpr cc
              have q1 : Same H6 (upd H6 T1 (.tup fourV)) := same_new hT1 _
              refine ⟨?_, g2.trans (Off.of q1)⟩
              rw [q1 _ _ g1, tk, List.filter_append]
              simp only [List.filter_cons, c2, Bool.false_eq_true, if_false, List.filter_nil, List.append_nil]
          · rintro H6 ⟨g1, g2⟩
            rw [List.take_length] at g1
            exact few4 D2 H6 g1 (g2.trans (cut_same _ _)) hD2
      · rintro σ H6 ⟨hd, hl, rfl, h1, h2, b6, w6, f6, o6, n6⟩
        obtain ⟨pn, pl, pm⟩ := h2
        have nd6 : hd ∉ [p, g] := fun z => n6 (sub _ z)
        have npf : pf ∉ [p, g] := fun z => hpf0 (sub _ z)
        refine ⟨_, rfl, _, rfl, p, g, hd, hl, rfl, b6, h1, nd6, List.length_pos_iff.mpr pn, by omega, fun x mx H7 b7 o7 => ⟨by decide, fun fl hfl => ⟨_, _, rfl, ?_⟩⟩⟩
        obtain ⟨h, sl, rfl, m, so⟩ := pm x mx
        have s8 : Same H7 (upd H7 fl (.lst [])) := same_new hfl _
        have w7 := o7.get w6 nw
        have nfl : fl ∉ [p, g, wd] := fun z => by
          simp only [List.mem_cons, List.not_mem_nil, or_false] at z
          rcases z with z | z | z
          · rw [z] at hfl
            exact b7.tr.1 hfl
          · rw [z] at hfl
            exact b7.tr.2 hfl
          · rw [z, w7] at hfl
            cases hfl
        have hfl0 : H fl = none := (o6.trans (o7.mono sub)).free hfl nfl
        have nfl2 : fl ∉ [p, g] := fun z => nfl (sub _ z)
        have nwf : wd ≠ fl := fun z => nfl (by rw [← z]; simp)
        have o8 : Off [p, g, wd] H (upd H7 fl (.lst [])) := (o6.trans (o7.mono sub)).trans (Off.of s8)
        have f8 := s8 _ _ (o7.get f6 npf)
        have b8 := b7.same s8
        have w8 := s8 _ _ w7
        have l8 : (upd H7 fl (.lst [])) fl = some (.lst []) := upd_same
        generalize upd H7 fl (.lst []) = H8 at o8 f8 b8 w8 l8
        have dg := DGet.k (k := (Sum.inr h : Key)) f8
        rw [val_tbl _ m] at dg
        refine ⟨_, rfl, _, rfl, pf, _, rfl, dg, sl, rfl, ?_⟩
        refine for_it walk_str (fun i σ H9 => ∃ o8 o9 o10 xs ds wi, σ = [some (.ref p), some (.str srt), some (.int e), some (.ref wd), some (.ref pf), some (.str h), some (.ref hd), some (.ref fl), o8, o9, o10, none] ∧
            xs.length = i ∧ H9 fl = some (.lst xs) ∧ DpAll K H9 xs ds ∧ gds ds = true ∧ nls ds = true ∧ (PyData.depthAll ds : Int) ≤ 2 * e ∧ ArgOk (Wx n) (sl.cps.toList.take i) ds ∧
            Box H9 p g ∧ H9 wd = some (.lst [.int wi]) ∧ Off [p, g, wd] H H9 ∧ wi ≤ w0 - 1 ∧ nods ds + 80 * phi wi ≤ cstL (sl.cps.toList.take i) + 80 * phi (w0 - 1))
          ⟨none, none, none, [], [], w0 - 1, rfl, rfl, l8, .nil, by simp only [gds], by simp only [nls], ?_, trivial, b8, w8, o8, Int.le_refl _, by simp [nods, cstL]⟩ (fun _ _ _ _ _ => trivial) ?_ ?_
        · have e0 : 0 ≤ e := by
            rcases hs with z | z
            · exact z.2
            · omega
          simp only [PyData.depthAll]
          omega
        · rintro i y σ H9 H9' hi ⟨q8, q9, q10, xs, ds, wi, rfl, lx, hx, dx, gx, nx, px, sx, b9, w9, o9, wle, co⟩ ⟨rfl, c, hc, rfl⟩
          have hc2 : sl.cps.toList[i]? = some c := by simpa using hc
          have tk := get_take hc2
          have lcs : (sl.cps.toList.take i).length = i := by
            have := (List.getElem?_eq_some_iff.mp hc2).1
            rw [List.length_take]
            omega
          have sg := so.go c (List.mem_of_getElem? hc2)
          have lds := sx.len
          have li := (List.getElem?_eq_some_iff.mp hc2).1
          have lsl : sl.cps.toList.length ≤ 60 := by
            have z := cst_all _ (tbl_all _ m)
            have : sl.cps.toList.length ≤ cstL sl.cps.toList := by
              generalize sl.cps.toList = cs
              induction cs with
              | nil => simp
              | cons a cs ih =>
                have h1 : 1 ≤ cst a := by
                  unfold cst
                  repeat' split
                  all_goals omega
                have h2 : cstL (a :: cs) = cst a + cstL cs := by simp [cstL]
                rw [h2, List.length_cons]
                omega
            simp only at z
            omega
          -- one more argument
          have more : ∀ (v : V) (d : PyData) (w2 : Int) (H10 : Hp) (r9 r10 : Option V), H10 fl = some (.lst (xs ++ [v])) → DpAll K H10 xs ds → Dp K H10 v d → gd d = true → nl d = true → (d.depth : Int) ≤ 2 * e → SlotD (Wx n) c d → Box H10 p g → H10 wd = some (.lst [.int w2]) → Off [p, g, wd] H H10 → w2 ≤ wi → nod d + 80 * phi w2 ≤ cst c + 80 * phi wi →
              ∃ o8 o9 o10 xs ds wi, [some (V.ref p), some (V.str srt), some (V.int e), some (V.ref wd), some (V.ref pf), some (V.str h), some (V.ref hd), some (V.ref fl), some (V.str ⟨#[c]⟩), r9, r10, none] = [some (V.ref p), some (V.str srt), some (V.int e), some (V.ref wd), some (V.ref pf), some (V.str h), some (V.ref hd), some (V.ref fl), o8, o9, o10, none] ∧
            xs.length = i + 1 ∧ H10 fl = some (.lst xs) ∧ DpAll K H10 xs ds ∧ gds ds = true ∧ nls ds = true ∧ (PyData.depthAll ds : Int) ≤ 2 * e ∧ ArgOk (Wx n) (sl.cps.toList.take (i + 1)) ds ∧
            Box H10 p g ∧ H10 wd = some (.lst [.int wi]) ∧ Off [p, g, wd] H H10 ∧ wi ≤ w0 - 1 ∧ nods ds + 80 * phi wi ≤ cstL (sl.cps.toList.take (i + 1)) + 80 * phi (w0 - 1) := by
            intro v d w2 H10 r9 r10 a1 a2 a3 a4 a5 a6 a7 a9 a10 a11 a12 a13
            refine ⟨_, _, _, xs ++ [v], ds ++ [d], w2, rfl, by rw [List.length_append, lx]; rfl, a1, DpAll.app a2 (.cons a3 .nil), ?_, ?_, ?_, ?_, a9, a10, a11, by omega, ?_⟩
            · rw [gds_app, gx]
              simp only [gds, a4, Bool.and_self]
            · rw [nls_app, nx]
              simp only [nls, a5, Bool.and_self]
            · rw [depthAll_app]
              simp only [PyData.depthAll]
              omega
            · rw [tk]
              exact sx.snoc a7
            · rw [tk, cstL_snoc, nods_app]
              simp only [nods]
              omega
          have nt9 : NT [p, g, wd] H9' := by
            have z := b9.nt
            exact .cons (z p (by simp)) (.cons (z g (by simp)) (.cons (nt_lst w9) .nil))
          refine ⟨_, rfl, rfl, _, rfl, ite2 (fun cc => ?_) (fun cc => ?_)⟩
          · have c115 : c = 115 := (sg_s c).mp (of_decide_eq_true cc)
            subst c115
            have e1 : 1 ≤ e := sg.1 (.inr rfl)
            have w3 : ∀ {HB : Hp} {D : Addr}, Box HB p g → HB wd = some (.lst [.int wi]) → HB D = none → D ∉ [p, g, wd] := fun bz wz hz z => by
              simp only [List.mem_cons, List.not_mem_nil, or_false] at z
              rcases z with z | z | z
              · rw [z] at hz
                exact bz.tr.1 hz
              · rw [z] at hz
                exact bz.tr.2 hz
              · rw [z, wz] at hz
                cases hz
            refine ⟨_, rfl, p, g, 4, rfl, b9, by decide, by decide, fun s1 HA s10 s14 ba oa => ⟨_, rfl, p, g, 5, rfl, ba, by decide, by decide, fun s2 HB s20 s25 bb ob => ⟨_, _, rfl, rfl, few (by simp), fun D hD => ?_⟩⟩⟩
            have oab := oa.trans ob
            have nD := w3 bb (oab.get w9 nw) hD
            have bc := bb.put (o := .lst [V.int s1, V.int (8 + s2)]) (fun z => nD (sub _ z))
            have oc : Off [p, g] H9' (upd HB D (.lst [V.int s1, V.int (8 + s2)])) := off_new oab (fun z => nD (sub _ z)) (oab.free hD (fun z => nD (sub _ z)))
            have hDc : (upd HB D (.lst [V.int s1, V.int (8 + s2)])) D = some (.lst [V.int s1, V.int (8 + s2)]) := upd_same
            generalize upd HB D (.lst [V.int s1, V.int (8 + s2)]) = HC at bc oc hDc
            refine ⟨_, rfl, p, g, 12, rfl, bc, by decide, by decide, fun s3 HD s30 s312 bd od2 => ⟨_, _, rfl, rfl, ⟨by decide, by decide⟩, ?_⟩⟩
            have ocd := oc.trans od2
            obtain ⟨x, hx1, mx, _⟩ := atI_ok (xs := [V.int s1, V.int (8 + s2)]) (r := s3 / 11) (by omega) (by simp only [List.length_cons, List.length_nil]; omega)
            obtain ⟨mm, rfl, m0, m12⟩ : ∃ mm : Int, x = .int mm ∧ 0 ≤ mm ∧ mm ≤ 12 := by
              simp only [List.mem_cons, List.not_mem_nil, or_false] at mx
              rcases mx with z | z
              · exact ⟨_, z, by omega, by omega⟩
              · exact ⟨_, z, by omega, by omega⟩
            refine ⟨D, _, _, .int mm, rfl, rfl, SqL.of (od2.get hDc (fun z => nD (sub _ z))), hx1, ?_⟩
            have xD := ocd.get hx nfl2
            have wD := ocd.get w9 nw
            refine ⟨_, rfl, .inl ⟨rfl, _, SqL.of xD⟩, _, rfl, mm, rfl, by omega, by omega, fun D2 hD2 => ?_⟩
            have n2 := w3 bd wD hD2
            have oE : Off [p, g, wd] H9' (upd HD D2 (.lst [])) := off_new (ocd.mono sub) n2 ((ocd.mono sub).free hD2 n2)
            refine lc_range (lo := 0) (n := mm.toNat) (fun j HE => ∃ vs es wj, vs.length = j ∧ HE D2 = some (.lst vs) ∧ DpAll K HE vs es ∧ gds es = true ∧ nls es = true ∧ (PyData.depthAll es : Int) ≤ 2 * (e - 1) + 1 ∧ (∀ e ∈ es, Wx n false e) ∧
                Box HE p g ∧ HE wd = some (.lst [.int wj]) ∧ Off [p, g, wd] H9' HE ∧ wj ≤ wi ∧ nods es + 80 * phi wj ≤ 3 * j + 80 * phi wi)
              ⟨[], [], wi, rfl, upd_same, .nil, by simp only [gds], by simp only [nls], by simp only [PyData.depthAll]; omega, (fun _ z => nomatch z), bd.put (fun z => n2 (sub _ z)), by rw [upd_ne (fun z => n2 (by rw [← z]; simp))]; exact wD, oE, Int.le_refl _, by simp only [nods]; omega⟩ ?_ ?_
            · rintro j HE hj ⟨vs, es, wj, lv, h1, h2, h3, h4, h5, h6, h7, h8, h9, h10, h11⟩
              refine ⟨rfl, _, rfl, _, rfl, _, _, rfl, rfl, _, rfl, p, g, wd, e - 1, wj, "e", rfl, h7, h8, nw, .inl ⟨rfl, by omega⟩, by omega, fun v d HF w2 k1 k2 k3 k4 k5 k6 k7 k8 k9 k10 => ?_⟩
              have ntE : NT [p, g, wd] HE := by
                have z := h7.nt
                exact .cons (z p (by simp)) (.cons (z g (by simp)) (.cons (nt_lst h8) .nil))
              have hF := k3.get h1 n2
              have ntF : NT [D2] HF := .cons (nt_lst hF) .nil
              have pF : Off [D2] HF (upd HF D2 (.lst (vs ++ [v]))) := Off.put (by simp)
              have l3 : limS "e" = 3 := by decide +kernel
              refine ⟨vs, hF, few (by omega), vs ++ [v], es ++ [d], w2, by rw [List.length_append, lv]; rfl, upd_same, DpAll.app (DpAll.off (DpAll.off h2 ntE h4 k3) ntF h4 pF) (.cons (Dp.off k4 ntF k7 pF) .nil), ?_, ?_, ?_, (fun x hx => (List.mem_append.mp hx).elim (h6 x) fun z => by rw [List.mem_singleton.mp z]; exact (show decide (("e" : Str) = "t") = false by decide +kernel) ▸ k5), k1.put (fun z => n2 (sub _ z)), by rw [upd_ne (fun z => n2 (by rw [← z]; simp))]; exact k2,
                off_new (h9.trans k3) n2 ((ocd.mono sub).free hD2 n2), by omega, ?_⟩
              · rw [gds_app, h3]
                simp only [gds, k6, Bool.and_self]
              · rw [nls_app, h4]
                simp only [nls, k7, Bool.and_self]
              · rw [depthAll_app]
                simp only [PyData.depthAll]
                omega
              · rw [nods_app]
                simp only [nods]
                omega
            · rintro HE ⟨vs, es, wj, lv, h1, h2, h3, h4, h5, h6, h7, h8, h9, h10, h11⟩
              refine ⟨D2, vs, rfl, .inl ⟨SqL.of h1, fun t ht => ?_⟩⟩
              have xE := h9.get hx nfl
              have r1 : Same HE (upd HE t (.tup vs)) := same_new ht _
              have ntf : t ≠ fl := fun z => by
                rw [z, xE] at ht
                cases ht
              have dE : DpAll K HE xs ds := DpAll.off dx nt9 nx h9
              have ntF : NT [fl] (upd HE t (.tup vs)) := .cons (nt_lst (r1 _ _ xE)) .nil
              have pF : Off [fl] (upd HE t (.tup vs)) (upd (upd HE t (.tup vs)) fl (.lst (xs ++ [.ref t]))) := Off.put (by simp)
              have c37 : cst 115 = 37 := by decide
              refine ⟨fl, xs, .ref t, rfl, rfl, r1 _ _ xE, few (by omega), more (.ref t) (.tuple es) wj _ _ _ upd_same (DpAll.off (Dp.ups r1 _ _ dE) ntF nx pF) (.tup (.inl (.inl (by rw [upd_ne ntf]; exact upd_same))) (DpAll.off (Dp.ups r1 _ _ h2) ntF h4 pF)) (by simpa only [gd] using h3) (by simpa only [nl] using h4) (by simp only [PyData.depth]; omega) (by unfold SlotD; rw [if_pos rfl]; exact ⟨es, rfl, h6⟩)
                ((h7.same r1).put nfl2) (by rw [upd_ne nwf]; exact r1 _ _ h8) (off_new (o9.trans (h9.trans (Off.of r1))) nfl hfl0) h10 ?_⟩
              simp only [nod, c37]
              have : (mm.toNat : Int) = mm := by omega
              omega
          · have n115 : ¬ c = 115 := fun z => cc (decide_eq_true ((sg_s c).mpr z))
            refine ⟨_, rfl, few (by simp), fun T1 hT1 => ⟨T1, _, rfl, .inr (.inl (.inl upd_same)), rfl, rfl, ?_⟩⟩
            have s1 : Same H9' (upd H9' T1 (.tup [.str "e", .str "t"])) := same_new hT1 _
            have bb := b9.same s1
            have ww := s1 _ _ w9
            have xx := s1 _ _ hx
            have oo : Off [p, g, wd] H9' (upd H9' T1 (.tup [.str "e", .str "t"])) := Off.of s1
            generalize upd H9' T1 (.tup [.str "e", .str "t"]) = HA at s1 bb ww xx oo
            refine ⟨_, rfl, .inl ⟨rfl, _, SqL.of xx⟩, _, rfl, _, rfl, ite2 (fun c2 => ?_) (fun c2 => ?_)⟩
            · have c3 : c = 101 ∨ c = 116 := (inV_et c).mp c2
              refine ⟨_, rfl, _, rfl, _, rfl, _, _, rfl, rfl, _, rfl, p, g, wd, e - 1, wi, ⟨#[c]⟩, rfl, bb, ww, nw, ?_, by omega, fun v d HB w2 k1 k2 k3 k4 k5 k6 k7 k8 k9 k10 => ?_⟩
              · rcases c3 with z | z
                · exact .inl ⟨by rw [z]; exact sg_e.symm, by have := sg.1 (.inl z); omega⟩
                · exact .inr ⟨by rw [z]; exact sg_t.symm, by have := sg.2 z; omega⟩
              have xB := k3.get xx nfl
              have dB : DpAll K HB xs ds := DpAll.off dx nt9 nx (oo.trans k3)
              have pB : Off [fl] HB (upd HB fl (.lst (xs ++ [v]))) := Off.put (by simp)
              have ntB : NT [fl] HB := .cons (nt_lst xB) .nil
              have lc : limS ⟨#[c]⟩ = cst c := by
                rcases c3 with z | z
                · rw [z]
                  decide +kernel
                · rw [z]
                  decide +kernel
              exact ⟨fl, xs, v, rfl, rfl, xB, few (by omega), more v d w2 _ _ _ upd_same (DpAll.off dB ntB nx pB) (Dp.off k4 ntB k7 pB) k6 k7 (by omega) (by
                unfold SlotD
                rw [if_neg n115]
                rcases c3 with z | z
                · subst z
                  rw [show decide ((⟨#[101]⟩ : Str) = "t") = false by decide +kernel] at k5
                  exact k5
                · subst z
                  rw [show decide ((⟨#[116]⟩ : Str) = "t") = true by decide +kernel] at k5
                  exact k5) (k1.put nfl2) (by rw [upd_ne nwf]; exact k2)
                (off_new (o9.trans (oo.trans k3)) nfl hfl0) (by omega) (by omega)⟩
            · have c3 : ¬ (c = 101 ∨ c = 116) := fun z => c2 ((inV_et c).mpr z)
              have hcc : c = 119 ∨ c = 110 ∨ c = 107 ∨ c = 105 := by
                rcases slot_chars _ (tbl_all _ m) c (List.mem_of_getElem? hc2) with z | z | z | z | z | z | z
                · exact absurd z n115
                · exact absurd (.inl z) c3
                · exact absurd (.inr z) c3
                · exact .inl z
                · exact .inr (.inl z)
                · exact .inr (.inr (.inl z))
                · exact .inr (.inr (.inr z))
              refine ⟨_, rfl, _, rfl, p, g, c, rfl, hcc, bb, fun v d HB k4 lo k6 k10 k8 k7 k1 k3 => ?_⟩
              have xB := k3.get xx nfl2
              have oB := oo.trans (k3.mono sub)
              have dB : DpAll K HB xs ds := DpAll.off dx nt9 nx oB
              have pB : Off [fl] HB (upd HB fl (.lst (xs ++ [v]))) := Off.put (by simp)
              have ntB : NT [fl] HB := .cons (nt_lst xB) .nil
              have lc : cst c = 1 := by
                unfold cst
                rw [if_neg n115, if_neg (fun z => c3 (.inl z)), if_neg (fun z => c3 (.inr z))]
              have e0 : 0 ≤ e := by
                rcases hs with z | z
                · exact z.2
                · omega
              exact ⟨fl, xs, v, rfl, rfl, xB, few (by omega), more v d wi _ _ _ upd_same (DpAll.off dB ntB nx pB) (k4 K _) k6 k7 (by rw [k8]; omega) (by
                unfold SlotD
                rw [if_neg n115, if_neg (fun z => c3 (.inl z)), if_neg (fun z => c3 (.inr z))]
                exact lo) (k1.put nfl2) (by rw [upd_ne nwf]; exact k3.get ww nw)
                (off_new (o9.trans oB) nfl hfl0) (Int.le_refl _) (by omega)⟩
        · rintro σ H9 ⟨q8, q9, q10, xs, ds, wi, rfl, lx, hx, dx, gx, nx, px, sx, b9, w9, o9, wle, co⟩
          have ez : sl.cps.toList.take sl.cps.size = sl.cps.toList := List.take_of_length_le (by simp)
          rw [ez] at sx co
          have lds := sx.len
          have lxs : xs.length = sl.cps.toList.length := by rw [lx]; simp
          have xne : xs ≠ [] := fun z => sl_ne _ (tbl_all _ m) (List.length_eq_zero_iff.mp (by rw [← lxs, z]; rfl))
          have lsm : xs.length ≤ nods ds := by
            have := nods_len ds
            omega
          have sco := so.co
          have phw : phi (w0 - 1) ≤ phi w0 := by
            unfold phi
            omega
          refine ⟨_, rfl, few (by simp), fun t1 ht1 => ⟨_, rfl, fl, xs, rfl, .inl ⟨SqL.of ((same_new ht1 _) _ _ hx), fun t2 ht2 => ?_⟩⟩⟩
          have r1 : Same H9 (upd H9 t1 (.tup [.str h])) := same_new ht1 _
          have r2 := r1.trans (same_new (o := .tup xs) ht2)
          have n12 : t1 ≠ t2 := ne_of_none upd_same ht2
          have x2 := (DpAll.len dx)
          have cle := cst_all _ (tbl_all _ m)
          refine ⟨t1, t2, [.str h], xs, rfl, rfl, .inl (.inl (by rw [upd_ne n12]; exact upd_same)), .inl (.inl upd_same), by simp, few (by
            have : xs.length ≤ 60 := by
              have : sl.cps.toList.length ≤ cstL sl.cps.toList := by
                generalize sl.cps.toList = cs
                induction cs with
                | nil => simp
                | cons a cs ih =>
                  have h1 : 1 ≤ cst a := by
                    unfold cst
                    repeat' split
                    all_goals omega
                  have h2 : cstL (a :: cs) = cst a + cstL cs := by simp [cstL]
                  rw [h2, List.length_cons]
                  omega
              simp only at cle
              omega
            simp only [List.length_cons, List.length_nil]
            omega), fun z => absurd z xne, fun _ t3 ht3 => ?_⟩
          have r3 := r2.trans (same_new (o := .tup ([V.str h] ++ xs)) ht3)
          have dT := Dp.ups r3 _ _ dx
          have hgh := gd_heads _ (tbl_all _ m)
          simp only at hgh
          refine q (.ref t3) (.tuple (.str h :: ds)) _ wi (b9.same r3) (r3 _ _ w9) (o9.trans (Off.of r3)) (.tup (.inl (.inl upd_same)) (.cons (.str h) dT)) (node_wx (by rw [tb_tbl]; exact m) sx) ?_ ?_ ?_ wle ?_
          · simp only [gd, gds] at hgh ⊢
            rw [hgh, gx]
            rfl
          · simp only [nl, nls, nx, Bool.and_self]
          · simp only [PyData.depth, PyData.depthAll]
            omega
          · simp only [nod, nods]
            omega
end
/-! the law's words of a tree -/
abbrev sWords : Stmt := topS 34
theorem scWords : FnScope ["_law_tree_here", "_law_forms_here", "_law_found", "_law_slot", "_law_item", "_law_inner"] ["_law_tree_here"] (defScope sWords) := ⟨rfl, rfl, rfl, by decide +kernel, rfl, by decide +kernel, by decide +kernel⟩
def spWords (K : PySem.W.Frag) (n : Nat) : Sp := fun vs H Q _ => ∃ v d f s, vs = [v] ∧ Dp K H v d ∧ nl d = true ∧ Wx f s d ∧ f < n ∧ (wordsD f d).length ≤ 7900 ∧ ∀ L H', Same H H' → H L = none → H' L = some (.lst ((wordsD f d).map V.str)) → Q (.ref L) H'
theorem val_all : ∀ p ∈ allL, valV (kvL allL) (Sum.inr p.1 : Key) = some (.str p.2) := by decide +kernel
def innD (c : Nat) (d : PyData) : List PyData := if c = 101 ∨ c = 116 then [d] else if c = 115 then kidsT d else []
theorem argWords_app {wd : PyData → List Str} : ∀ (cs cs2 : List Nat) (ds ds2 : List PyData), cs.length = ds.length → argWords wd (cs ++ cs2) (ds ++ ds2) = argWords wd cs ds ++ argWords wd cs2 ds2
  | [], cs2, [], ds2, _ => rfl
  | c :: cs, cs2, d :: ds, ds2, h => by
    have h2 : cs.length = ds.length := by simpa using h
    simp only [List.cons_append, argWords, argWords_app cs cs2 ds ds2 h2, List.append_assoc]
  | [], cs2, _ :: _, ds2, h => by cases h
  | _ :: _, cs2, [], ds2, h => by cases h
theorem argWords_take {wd : PyData → List Str} {i : Nat} {cs : List Nat} {ds : List PyData} {c : Nat} {d : PyData} (h : cs.length = ds.length) (hc : cs[i]? = some c) (hd : ds[i]? = some d) :
    argWords wd (cs.take (i + 1)) (ds.take (i + 1)) = argWords wd (cs.take i) (ds.take i) ++ ((innD c d).flatMap wd ++ if c = 101 ∨ c = 116 ∨ c = 115 then [] else [txt d]) := by
  rw [get_take hc, get_take hd, argWords_app _ _ _ _ (by rw [List.length_take, List.length_take, h])]
  congr 1
  simp only [argWords, innD, List.append_nil]
  by_cases c1 : c = 115
  · subst c1
    simp
  · by_cases c2 : c = 101 ∨ c = 116
    · rw [if_neg c1, if_pos c2, if_pos c2, if_pos (by omega)]
      simp
    · rw [if_neg c1, if_neg c2, if_neg c2, if_neg c1, if_neg (by omega)]
      simp
theorem argWords_pre {wd : PyData → List Str} : ∀ (i : Nat) {cs : List Nat} {ds : List PyData}, cs.length = ds.length → (argWords wd (cs.take i) (ds.take i)).length ≤ (argWords wd cs ds).length := fun i cs ds h => by
  have e := argWords_app (wd := wd) (cs.take i) (cs.drop i) (ds.take i) (ds.drop i) (by rw [List.length_take, List.length_take, h])
  rw [List.take_append_drop, List.take_append_drop] at e
  rw [e, List.length_append]
  omega
theorem flat_pre {wd : PyData → List Str} (j : Nat) (es : List PyData) : ((es.take j).flatMap wd).length ≤ (es.flatMap wd).length := by
  have e := congrArg (fun l => (l.flatMap wd).length) (List.take_append_drop j es)
  simp only [List.flatMap_append, List.length_append] at e
  omega
theorem innD_sub {W : Bool → PyData → Prop} {c : Nat} {d : PyData} (h : SlotD W c d) : ∀ e ∈ innD c d, W (decide (c = 116)) e ∧ nod e ≤ nod d ∧ e.depth ≤ d.depth ∧ (nl d = true → nl e = true) ∧ (gd d = true → gd e = true) := by
  unfold SlotD at h
  unfold innD
  intro e he
  split at h
  · rename_i c1
    rw [if_neg (by omega), if_pos c1] at he
    obtain ⟨es, rfl, q⟩ := h
    simp only [kidsT] at he
    have e116 : decide (c = 116) = false := decide_eq_false (by omega)
    rw [e116]
    refine ⟨q e he, Nat.le_trans (nods_mem he) (by simp only [nod]; omega), Nat.le_trans (depth_mem he) (by simp only [PyData.depth]; omega), fun z => nls_mem (by simpa only [nl] using z) he, fun z => gds_mem (by simpa only [gd] using z) he⟩
  · rename_i c1
    split at h
    · rename_i c2
      rw [if_pos (.inl c2)] at he
      rw [List.mem_singleton.mp he]
      have e116 : decide (c = 116) = false := decide_eq_false (by omega)
      rw [e116]
      exact ⟨h, Nat.le_refl _, Nat.le_refl _, id, id⟩
    · rename_i c2
      split at h
      · rename_i c3
        rw [if_pos (.inr c3)] at he
        rw [List.mem_singleton.mp he]
        have e116 : decide (c = 116) = true := decide_eq_true c3
        rw [e116]
        exact ⟨h, Nat.le_refl _, Nat.le_refl _, id, id⟩
      · rename_i c3
        rw [if_neg (by omega), if_neg c1] at he
        cases he
theorem flat_mem {wd : PyData → List Str} {e : PyData} : ∀ {es : List PyData}, e ∈ es → (wd e).length ≤ (es.flatMap wd).length
  | x :: es, h => by
    rw [List.flatMap_cons, List.length_append]
    rcases List.mem_cons.mp h with z | z
    · rw [z]
      omega
    · have := flat_mem (wd := wd) z
      omega
theorem seqT_off {K : PySem.W.Frag} {H H' : Hp} {a : Addr} {xs : List V} {l : List Addr} (n : a ∉ l) (h : SqT K H a xs) (o : Off l H H') : SqT K H' a xs := by
  rcases h with (h | ⟨o2, h⟩) | h
  · exact .inl (.inl (o.get h n))
  · exact .inl (.inr ⟨_, o.get h n⟩)
  · exact .inr h
theorem small2 {n : Nat} (h : n ≤ 100000) : n ≤ sizeLine := Nat.le_trans h (by decide)
theorem nd_ets (c : Nat) : inV (.str ⟨#[c]⟩) [.str "e", .str "t", .str "s"] = true ↔ c = 101 ∨ c = 116 ∨ c = 115 := by
  have sg : ("s" : Str) = ⟨#[115]⟩ := by decide +kernel
  simp only [inV, List.any_cons, List.any_nil, eqV, Bool.or_false, Bool.or_eq_true, beq_iff_eq]
  rw [sg_e, sg_t, sg, sg_one, sg_one, sg_one]
  omega
section
variable {P : Program} {w : World} {K : PySem.W.Frag} {mg : Str → Option Value} {base : Heap} {f fF : Addr} {fd dF : FuncData}
theorem ok_words {k n : Nat} (F : Fun K "_law_words" "_law_words" sWords f fd) (md : mg "dict" = none) (ml : mg "list" = none) (ms : mg "str" = none) (mz : mg "zip" = none) (GF : Dn P w K mg base 1 "_law_forms" ["_law_sort"] spForms fF dF)
    (G : FnOk P w K mg base CX0 (k + 1) f fd ["_law_tree_here"] (spWords K n)) (bV : Binds K fd ["_law_tree_here"] []) (mV : mg "_law_words" = some (.ref f)) :
    FnOk P w K mg base CX0 (k + 2) f fd ["_law_tree_here"] (spWords K (n + 1)) := by
  refine F.ok scWords (fun vs H Q E h => ?_) (fun cdv A outer s H vs Q E hr h => ?_)
  · obtain ⟨v, d, f0, s, rfl, _⟩ := h
    rfl
  obtain ⟨v, d, f0, srt, rfl, hd, hnl, wx, hf, hw, q⟩ := h
  have hr1 : Room 1 _ := hr.mono (by omega)
  have hu := hu_of hr
  refine ⟨_, pss_cons (ps_if (pt_cmpR op_in_seq (pe_ix ix_tup (pv 0) pe_int (fun _ _ => rfl)) (pe_tup (pa_cons pe_str (pa_cons pe_str (pa_cons pe_str pa_nil)))) rfl)
      (pss_one (ps_ret (pe_lst (pa_cons (pe_ifExp (pt_cmpR op_eq (pe_ix ix_tup (pv 0) pe_int (fun _ _ => rfl)) pe_str (nomark _)) (pe_op op_add_str pe_str (pe_ix ix_tup (pv 0) pe_int (fun _ _ => rfl))) (pe_callTy call_strU (by rfl) ms (by decide +kernel) (pa_cons (pe_ix ix_tup (pv 0) pe_int (fun _ _ => rfl)) pa_nil))) pa_nil)))) pss_nil)
    (pss_cons (ps_par (i := 1) (j := 2) (by rfl) scWords.nd rfl rfl (by decide) rfl rfl (pa_cons (pe_callTy (call_dictP rfl) (by rfl) md b_dict (pa_cons
      (pe_op op_cat (LiI.pe_listItems (by rfl) (pe_call GF.ok hr1 (by rfl) GF.mg GF.kp GF.bd .nil pass0 (pa_cons pe_str pa_nil)) (by rfl) ml b_list) (LiI.pe_listItems (by rfl) (pe_call GF.ok hr1 (by rfl) GF.mg GF.kp GF.bd .nil pass0 (pa_cons pe_str pa_nil)) (by rfl) ml b_list)) pa_nil))
        (pa_cons (pe_lst (pa_cons pe_str (pa_cons (pe_ix ix_tup (pv 0) pe_int (fun _ _ => rfl)) pa_nil))) pa_nil)) (by rfl))
    (pss_cons (ps_for PassesOwn.never rfl (pi_zipST (by rfl) mz (pa_cons (pe_dget hu (pv 1) (pe_ix ix_tup (pv 0) pe_int (fun _ _ => rfl)) (fun _ _ => rfl)) (pa_cons (pe_slice sl_tupA (pv 0) (po_some pe_int) po_none) pa_nil)))
      (pg_tup (by rfl) (pgs_cons (pg_name (i := 3) scWords.nd rfl (.inl rfl)) (pgs_cons (pg_name (i := 4) scWords.nd rfl (.inl rfl)) pgs_nil)))
      (pss_cons (ps_for PassesOwn.never rfl (pi_list (pe_ifExp (pt_cmpR op_in_seq (pv 3) (pe_tup (pa_cons pe_str (pa_cons pe_str pa_nil))) rfl) (pe_lst (pa_cons (pv 4) pa_nil))
          (pe_ifExp (pt_cmpR op_eq (pv 3) pe_str (nomark _)) (pe_callTy call_list_of (by rfl) ml b_list (pa_cons (pv 4) pa_nil)) (pe_lst pa_nil)))) (pg_name (i := 5) scWords.nd rfl (.inl rfl))
        (pss_one (ps_expr (pe_bm PySem.F.plainAttrs_list PySem.F.slot_list_extend PySem.F.type_list_extend mt_extend (pv 2) (pa_cons (pe_call G hr (by rfl) mV F.kp bV .nil pass0 (pa_cons (pv 5) pa_nil)) pa_nil)))))
      (pss_one (ps_if (pt_cmpR op_notIn_seq (pv 3) (pe_tup (pa_cons pe_str (pa_cons pe_str (pa_cons pe_str pa_nil)))) rfl)
        (pss_one (ps_expr (pe_bm PySem.F.plainAttrs_list PySem.F.slot_list_append PySem.F.type_list_append mt_append (pv 2) (pa_cons (pe_callTy call_strU (by rfl) ms (by decide +kernel) (pa_cons (pv 4) pa_nil)) pa_nil)))) pss_nil))))
    (pss_one (ps_ret (pe_op op_cat (pv 2) (pe_lst (pa_cons pe_str pa_nil))))))), ?_⟩
  obtain ⟨h, args, rfl⟩ := wx.tup
  obtain ⟨b, ys, ds, rfl, e3, hb, dys⟩ := tup_of hd rfl
  cases e3
  obtain ⟨zs, rfl, dzs⟩ : ∃ zs, ys = .str h :: zs ∧ DpAll K H zs args := by
    cases dys with
    | cons y1 y2 =>
      cases y1
      exact ⟨_, rfl, y2⟩
  have a0 : atI (V.str h :: zs) 0 = some (.str h) := atI_nat (j := 0) rfl
  refine ⟨_, rfl, b, _, 0, _, rfl, rfl, hb, a0, few (by simp), fun T4 hT4 => ⟨T4, _, rfl, .inr (.inl (.inl upd_same)), rfl, rfl, _, rfl, ?_⟩⟩
  have s4 : Same H (upd H T4 (.tup [.str "int", .str "atom", .str "name"])) := same_new hT4 _
  generalize upd H T4 (.tup [.str "int", .str "atom", .str "name"]) = H0 at s4
  have hb4 := seqT_up s4 hb
  rcases wx.look with lf | ⟨f', h', sl, args', rfl, e4, m4, n4, ok4⟩
  · have ew := words_leaf (f := f0) lf
    rw [ew] at q
    have one : ∀ (y : Str) , leafWords (.tuple (.str h :: args)) = [y] → ∀ L, H0 L = none → Q (.ref L) (upd H0 L (.lst [.str y])) := fun y e L hL => q L _ (s4.trans (same_new hL _)) (s4.free hL) (by rw [e]; exact upd_same)
    rcases lf with ⟨i, e4, hi⟩ | ⟨y, e4 | e4, hy⟩
    · cases e4
      obtain ⟨rfl⟩ : zs = [.int i] := by
        cases dzs with
        | cons y1 y2 =>
          cases y1
          cases y2
          rfl
      refine iteT' (by decide +kernel) ?_
      refine ⟨_, rfl, b, _, 0, _, rfl, rfl, hb4, a0, rfl, _, rfl, iteF' (by decide +kernel) ?_⟩
      exact ⟨_, rfl, b, _, 1, _, rfl, rfl, hb4, atI_nat (j := 1) rfl, .inl ⟨i, rfl, num_log hi, few (by simp), one _ (by
        show [if ("int" : Str) = "atom" then _ else _] = _
        rw [if_neg (by decide +kernel)]
        rfl)⟩⟩
    · cases e4
      obtain ⟨rfl⟩ : zs = [.str y] := by
        cases dzs with
        | cons y1 y2 =>
          cases y1
          cases y2
          rfl
      refine iteT' (by decide +kernel) ?_
      refine ⟨_, rfl, b, _, 0, _, rfl, rfl, hb4, a0, rfl, _, rfl, iteF' (by decide +kernel) ?_⟩
      exact ⟨_, rfl, b, _, 1, _, rfl, rfl, hb4, atI_nat (j := 1) rfl, .inr ⟨y, rfl, few (by simp), one _ (by
        show [if ("name" : Str) = "atom" then _ else _] = _
        rw [if_neg (by decide +kernel)]
        rfl)⟩⟩
    · cases e4
      obtain ⟨rfl⟩ : zs = [.str y] := by
        cases dzs with
        | cons y1 y2 =>
          cases y1
          cases y2
          rfl
      obtain ⟨_, _, _, _, _, l8⟩ := isNm_fst hy
      refine iteT' (by decide +kernel) ?_
      refine ⟨_, rfl, b, _, 0, _, rfl, rfl, hb4, a0, rfl, _, rfl, iteT' (by decide +kernel) ?_⟩
      have l1 : ("'" : Str).length = 1 := by decide +kernel
      exact ⟨_, rfl, b, _, 1, _, rfl, rfl, hb4, atI_nat (j := 1) rfl, _, _, rfl, rfl, few (by omega), few (by simp), one _ (by
        show [if ("atom" : Str) = "atom" then _ else _] = _
        rw [if_pos rfl]
        rfl)⟩
  · cases e4
    have hin : inV (.str h) [.str "int", .str "atom", .str "name"] = false := by
      cases hq : inV (.str h) [.str "int", .str "atom", .str "name"] with
      | false => rfl
      | true =>
        exfalso
        apply n4
        unfold leafHeads
        simp only [inV, List.any_cons, List.any_nil, eqV, Bool.or_false, Bool.or_eq_true, beq_iff_eq] at hq
        rcases hq with z | z | z <;> rw [← z] <;> decide +kernel
    refine iteF' hin ?_
    have ee : ∀ s : Str, (if s = "t" then teL else exL) = tblS s := fun _ => rfl
    refine ⟨"e", rfl, fun p2 H2 s2 hp2 e2 => ⟨p2, _, rfl, e2, fun H3 l3 ts3 s3 hl3 ht3 nl3 e3 P3 => ?_⟩⟩
    refine ⟨"t", rfl, fun p4 H4 s4' hp4 e4 => ⟨p4, _, rfl, e4, fun H5 l5 ts5 s5 hl5 ht5 nl5 e5 P5 => ?_⟩⟩
    have t3 := P3.length
    have t5 := P5.length
    have q3 : (kvL (if ("e" : Str) = "t" then teL else exL)).length = 16 := by decide +kernel
    have q5 : (kvL (if ("t" : Str) = "t" then teL else exL)).length = 7 := by decide +kernel
    have s3 : Same H2 H3 := s3
    have s5 : Same H4 H5 := s5
    refine ⟨l3, l5, _, _, rfl, rfl, s5 _ _ (s4' _ _ e3), e5, few (by rw [List.length_map, List.length_map]; omega), fun l6 hl6 => ?_⟩
    have s6 : Same H5 (upd H5 l6 (.lst (ts3.map V.ref ++ ts5.map V.ref))) := same_new hl6 _
    have e6 : (upd H5 l6 (.lst (ts3.map V.ref ++ ts5.map V.ref))) l6 = some (.lst (ts3.map V.ref ++ ts5.map V.ref)) := upd_same
    generalize upd H5 l6 (.lst (ts3.map V.ref ++ ts5.map V.ref)) = H6 at s6 e6
    have up : ∀ {H1 H2 : Hp} {ts : List Addr} {kvs : List (Key × V)}, Same H1 H2 → Paired (fun (t : Addr) (q : Key × V) => H1 t = some (.tup [kV q.1, q.2])) ts kvs → Paired (fun (t : Addr) (q : Key × V) => SqT K H2 t [kV q.1, q.2]) ts kvs := fun s p => paired_mono (fun a b z => .inl (.inl (s _ _ z))) p
    refine ⟨l6, ts3 ++ ts5, kvL allL, rfl, SqL.of (by rw [e6, List.map_append]), ?_, fun pd hpd => ?_⟩
    · have e7 : kvL allL = kvL (if ("e" : Str) = "t" then teL else exL) ++ kvL (if ("t" : Str) = "t" then teL else exL) := by decide +kernel
      rw [e7]
      exact paired_app (paired_mono (fun a b z => z) (up (s4'.trans (s5.trans s6)) P3)) (up s6 P5)
    rw [merge_kvL nd_all]
    have s7 : Same H6 (upd H6 pd (.dK (kvL allL))) := same_new hpd _
    have e7 : (upd H6 pd (.dK (kvL allL))) pd = some (.dK (kvL allL)) := upd_same
    generalize upd H6 pd (.dK (kvL allL)) = H7 at s7 e7
    have s07 : Same H0 H7 := s2.trans (s3.trans (s4'.trans (s5.trans (s6.trans s7))))
    have hb7 := seqT_up s07 hb4
    refine ⟨_, rfl, b, _, 0, _, rfl, rfl, hb7, a0, few (by simp), fun L hL => ⟨_, _, rfl, ?_⟩⟩
    have s8 : Same H7 (upd H7 L (.lst [.str "(", .str h])) := same_new hL _
    have hL8 : (upd H7 L (.lst [.str "(", .str h])) L = some (.lst [.str "(", .str h]) := upd_same
    have e8 := s8 _ _ e7
    have hb8 := seqT_up s8 hb7
    have hL0 : H L = none := s4.free (s07.free hL)
    have s08 : Same H (upd H7 L (.lst [.str "(", .str h])) := s4.trans (s07.trans s8)
    generalize upd H7 L (.lst [.str "(", .str h]) = H8 at s8 hL8 e8 hb8 s08
    have dg := DGet.k (k := (Sum.inr h : Key)) e8
    rw [val_all _ m4] at dg
    refine ⟨_, rfl, _, rfl, b, _, 0, _, rfl, rfl, hb8, a0, pd, _, rfl, dg, _, rfl, 1, rfl, b, _, rfl, hb8, (fun e => ?_), fun _ cc hcc => ?_⟩
    · have e := e.1
      rw [show (1 : Int) = ((1 : Nat) : Int) from rfl, HT.sIx_nat, List.length_cons] at e
      omega
    rw [cutV_drop _ (by decide) (by simp only [List.length_cons]; omega)]
    have ez : List.drop (Int.toNat 1) (V.str h :: zs) = zs := rfl
    rw [ez]
    have s9 : Same H8 (upd H8 cc (.tup zs)) := same_new hcc _
    have hc9 : SqT K (upd H8 cc (.tup zs)) cc zs := .inl (.inl upd_same)
    have hL9 := s9 _ _ hL8
    have e9 := s9 _ _ e8
    have s09 := s08.trans s9
    generalize upd H8 cc (.tup zs) = H9 at s9 hc9 hL9 e9 s09
    have lzs := DpAll.len dzs
    have la := ok4.len
    have nar : nls args = true := by simpa only [nl, nls, Bool.true_and] using hnl
    have ew := words_node (f := f') m4 n4 (args := args)
    rw [ew] at q hw
    have lw : (argWords (wordsD f') sl.cps.toList args).length ≤ 7897 := by
      simp only [List.length_append, List.length_cons, List.length_nil] at hw
      omega
    have dz9 := Dp.ups s09 _ _ dzs
    have ntL9 : NT [L] H9 := .cons (nt_lst hL9) .nil
    have nLc : cc ≠ L := fun z => by
      rw [z] at hcc
      rw [hL8] at hcc
      cases hcc
    refine ⟨sl, cc, zs, rfl, hc9, ?_⟩
    refine for_it (walk_ST (z := sl) (b := cc) (ys := zs) (by unfold signs; rw [List.length_map, la, lzs])) (fun i σ HA => ∃ o3 o4 o5, σ = [some (.ref b), some (.ref pd), some (.ref L), o3, o4, o5] ∧ HA L = some (.lst (([("(" : Str), h] ++ argWords (wordsD f') (sl.cps.toList.take i) (args.take i)).map V.str)) ∧ Off [L] H9 HA)
      ⟨none, none, none, rfl, hL9, Off.refl _ _⟩ ?_ ?_ ?_
    · rintro i σ HA hi ⟨o3, o4, o5, rfl, h1, h2⟩
      exact seqT_off (by simpa using nLc) hc9 h2
    · rintro i y σ HA HA' hi ⟨o3, o4, o5, rfl, h1, h2⟩ ⟨T, x0, y0, rfl, hT, rfl, hx0, hy0⟩
      have hx0 : (signs sl)[i]? = some x0 := hx0
      have hy0 : zs[i]? = some y0 := hy0
      unfold signs at hx0
      rw [List.getElem?_map] at hx0
      obtain ⟨c, hc, rfl⟩ := Option.map_eq_some_iff.mp hx0
      have s1 : Same HA (upd HA T (.tup [.str ⟨#[c]⟩, y0])) := same_new hT _
      have hT1 : (upd HA T (.tup [.str ⟨#[c]⟩, y0])) T = some (.tup [.str ⟨#[c]⟩, y0]) := upd_same
      have h1b := s1 _ _ h1
      have h2b : Off [L] H9 (upd HA T (.tup [.str ⟨#[c]⟩, y0])) := h2.trans (Off.of s1)
      generalize upd HA T (.tup [.str ⟨#[c]⟩, y0]) = HB at s1 hT1 h1b h2b
      obtain ⟨d0, ed0, dxd⟩ := DpAll.get dz9 hy0
      have tk := argWords_take (wd := wordsD f') la hc ed0
      have nd0 : nl d0 = true := nls_mem nar (List.mem_of_getElem? ed0)
      have sd := ok4.at hc ed0
      have dB : Dp K HB y0 d0 := Dp.off dxd ntL9 nd0 h2b
      have lt1 := argWords_pre (wd := wordsD f') (i + 1) la
      rw [tk, List.length_append, List.length_append] at lt1
      refine ⟨T, _, rfl, .inl (.inl hT1), rfl, _, _, rfl, _, _, rfl, rfl, ?_⟩
      have W0 : ∃ ws, ws = [("(" : Str), h] ++ argWords (wordsD f') (sl.cps.toList.take i) (args.take i) := ⟨_, rfl⟩
      obtain ⟨ws, ews⟩ := W0
      rw [← ews] at h1b
      have lws : ws.length = 2 + (argWords (wordsD f') (sl.cps.toList.take i) (args.take i)).length := by
        rw [ews, List.length_append]
        rfl
      have ntB : NT [L] HB := .cons (nt_lst h1b) .nil
      refine ⟨_, rfl, few (by simp), fun T1 hT1b => ⟨T1, _, rfl, .inr (.inl (.inl upd_same)), rfl, rfl, _, rfl, ?_⟩⟩
      have s2b : Same HB (upd HB T1 (.tup [.str "e", .str "t"])) := same_new hT1b _
      generalize upd HB T1 (.tup [.str "e", .str "t"]) = HC0 at s2b
      have dC0 := Dp.up s2b _ _ dB
      refine ite2 (fun cc => ⟨_, rfl, few (by simp), fun D hD => ?_⟩) (fun cc => ⟨_, rfl, rfl, _, rfl, ite2 (fun c2 => ?_) (fun c2 => ⟨by decide, fun D hD => ?_⟩)⟩)
      · have c3 : c = 101 ∨ c = 116 := (inV_et c).mp cc
        have sC : Same HC0 (upd HC0 D (.lst [y0])) := same_new hD _
        have hDC : (upd HC0 D (.lst [y0])) D = some (.lst [y0]) := upd_same
        have dC : DpAll K (upd HC0 D (.lst [y0])) [y0] (innD c d0) := by
          unfold innD
          rw [if_pos c3]
          exact .cons (Dp.up sC _ _ dC0) .nil
        generalize upd HC0 D (.lst [y0]) = HC at sC hDC dC
        generalize [y0] = us at hDC dC
        have nDL : D ≠ L := fun z => by
          rw [z, s2b _ _ h1b] at hD
          cases hD
        have sBC : Same HB HC := s2b.trans sC
        have lus := DpAll.len dC
        have flc := lt1
        refine ⟨D, rfl, ⟨_, SqL.of hDC⟩, for_list (K := K) (a := D) (xs := us) (fun j σ HD => ∃ o5, σ = [some (.ref b), some (.ref pd), some (.ref L), some (.str ⟨#[c]⟩), some y0, o5] ∧ HD L = some (.lst ((ws ++ ((innD c d0).take j).flatMap (wordsD f')).map V.str)) ∧ Off [L] HC HD)
          ⟨_, rfl, by simpa using sBC _ _ h1b, Off.refl _ _⟩ (fun j σ HD _ ⟨o5, _, _, g2⟩ => SqL.of (g2.get hDC (by simpa using nDL))) ?_ ?_⟩
        · rintro j x σ HD hj ⟨o5, rfl, g1, g2⟩
          obtain ⟨e, he, dxe⟩ := DpAll.get dC hj
          have me := List.mem_of_getElem? he
          obtain ⟨a1, a2, a3, a4, a5⟩ := innD_sub sd e me
          have ntC : NT [L] HC := .cons (nt_lst (sBC _ _ h1b)) .nil
          have le1 := flat_mem (wd := wordsD f') me
          have le2 := flat_pre (wd := wordsD f') j (innD c d0)
          have tj : (innD c d0).take (j + 1) = (innD c d0).take j ++ [e] := get_take he
          refine ⟨_, rfl, .inl ⟨rfl, _, SqL.of g1⟩, _, rfl, x, e, f', _, rfl, Dp.off dxe ntC (a4 nd0) g2, a4 nd0, a1, by omega, by omega, fun L2 H2 s2 hL2 h2' => ?_⟩
          refine ⟨L, L2, _, _, rfl, rfl, s2 _ _ g1, h2', few2 (by simp only [List.length_map, List.length_append]; omega), ?_⟩
          refine ⟨_, rfl, ?_, g2.trans ((Off.of s2).trans (Off.put (by simp)))⟩
          rw [upd_same, tj, List.flatMap_append, ← List.append_assoc, List.map_append (l₂ := List.flatMap _ [e])]
          simp
        · rintro σ HD ⟨o5', rfl, g1, g2⟩
          rw [lus, List.take_of_length_le (Nat.le_refl _)] at g1
          have o9 : Off [L] H9 HD := h2b.trans ((Off.of sBC).trans g2)
          have dD : Dp K HD y0 d0 := Dp.off dxd ntL9 nd0 o9
          refine ⟨_, rfl, few (by simp), fun T2 hT2 => ⟨T2, _, rfl, .inr (.inl (.inl upd_same)), rfl, rfl, _, rfl, ?_⟩⟩
          have sE : Same HD (upd HD T2 (.tup [.str "e", .str "t", .str "s"])) := same_new hT2 _
          generalize upd HD T2 (.tup [.str "e", .str "t", .str "s"]) = HE at sE
          have g1e := sE _ _ g1
          have dE := Dp.up sE _ _ dD
          refine ite2 (fun c3 => ?_) (fun c3 => ?_)
          · have nets : ¬ (c = 101 ∨ c = 116 ∨ c = 115) := fun z => by
              have y : inV (.str ⟨#[c]⟩) [.str "e", .str "t", .str "s"] = true := (nd_ets c).mpr z
              have c3 : (!inV (.str ⟨#[c]⟩) [.str "e", .str "t", .str "s"]) = true := c3
              rw [y] at c3
              cases c3
            have fin : ∀ y : Str, txt d0 = y → ∃ o3 o4 o5, [some (V.ref b), some (V.ref pd), some (V.ref L), some (V.str ⟨#[c]⟩), some y0, o5'] = [some (V.ref b), some (V.ref pd), some (V.ref L), o3, o4, o5] ∧ (upd HE L (.lst ((ws ++ (innD c d0).flatMap (wordsD f')).map V.str ++ [.str y]))) L = some (.lst (([("(" : Str), h] ++ argWords (wordsD f') (sl.cps.toList.take (i + 1)) (args.take (i + 1))).map V.str)) ∧ Off [L] H9 (upd HE L (.lst ((ws ++ (innD c d0).flatMap (wordsD f')).map V.str ++ [.str y]))) := by
              intro y ey
              refine ⟨_, _, _, rfl, ?_, o9.trans ((Off.of sE).trans (Off.put (by simp)))⟩
              rw [upd_same, tk, if_neg nets, ← List.append_assoc, ← List.append_assoc, ← ews, ey, List.map_append (l₂ := [y])]
              rfl
            have lsm : ((ws ++ (innD c d0).flatMap (wordsD f')).map V.str).length < sizeLine := Nat.lt_of_le_of_lt (by simp only [List.length_map, List.length_append]; omega : _ ≤ 100000) (by decide)
            have lo : LeafOk c d0 := by
              unfold SlotD at sd
              rw [if_neg (by omega), if_neg (by omega), if_neg (by omega)] at sd
              exact sd
            have int1 : ∀ j : Int, d0 = .int j → j.natAbs < 10 ^ 18 → y0 = .int j := fun j e _ => by
              rw [e] at dE
              cases dE
              rfl
            have str1 : ∀ x : Str, d0 = .str x → y0 = .str x := fun x e => by
              rw [e] at dE
              cases dE
              rfl
            have goI : ∀ j : Int, d0 = .int j → j.natAbs < 10 ^ 18 → _ := fun j e hj => (⟨int1 j e hj, num_log hj, fin (txt (.int j)) (by rw [e])⟩ : y0 = .int j ∧ _ ∧ _)
            have goS : ∀ x : Str, d0 = .str x → _ := fun x e => (⟨str1 x e, fin x (by rw [e]; rfl)⟩ : y0 = .str x ∧ _)
            have cas : (∃ j : Int, d0 = .int j ∧ j.natAbs < 10 ^ 18) ∨ ∃ x : Str, d0 = .str x := by
              rcases lo with ⟨_, j, e, hj⟩ | ⟨_, j, e, _, hj⟩ | ⟨_, x, e, _⟩ | ⟨_, e⟩
              · exact .inl ⟨j, e, hj⟩
              · exact .inl ⟨j, e, hj⟩
              · exact .inr ⟨x, e⟩
              · rcases e with e | e | e
                · exact .inr ⟨_, e⟩
                · exact .inr ⟨_, e⟩
                · exact .inr ⟨_, e⟩
            rcases cas with ⟨j, e, hj⟩ | ⟨x, e⟩
            · obtain ⟨z1, z2, z3⟩ := goI j e hj
              subst z1
              exact ⟨_, rfl, .inl ⟨rfl, _, SqL.of g1e⟩, _, rfl, .inl ⟨j, rfl, z2, L, _, .str (txt (.int j)), rfl, rfl, g1e, lsm, z3⟩⟩
            · obtain ⟨z1, z3⟩ := goS x e
              subst z1
              exact ⟨_, rfl, .inl ⟨rfl, _, SqL.of g1e⟩, _, rfl, .inr ⟨x, rfl, L, _, .str x, rfl, rfl, g1e, lsm, z3⟩⟩
          · have ets : c = 101 ∨ c = 116 ∨ c = 115 := by
              cases hq : inV (.str ⟨#[c]⟩) [.str "e", .str "t", .str "s"] with
              | true => exact (nd_ets c).mp hq
              | false =>
                have c3 : ¬ (!inV (.str ⟨#[c]⟩) [.str "e", .str "t", .str "s"]) = true := c3
                rw [hq] at c3
                exact absurd rfl c3
            refine ⟨_, _, _, rfl, ?_, o9.trans (Off.of sE)⟩
            rw [tk, if_pos ets, List.append_nil, ← List.append_assoc, ← ews]
            exact g1e
      · have c3 : c = 115 := (sg_s c).mp (of_decide_eq_true c2)
        have sd2 := sd
        unfold SlotD at sd2
        rw [if_pos c3] at sd2
        obtain ⟨es, ed, _⟩ := sd2
        obtain ⟨a2, ys2, es2, ey, ed2, ha2, dys2⟩ := tup_of dC0 (by rw [ed]; rfl)
        rw [ed2] at ed
        cases ed
        refine ⟨_, rfl, a2, ys2, by rw [ey], .inr ha2, fun D hD => ?_⟩
        have sC : Same HC0 (upd HC0 D (.lst ys2)) := same_new hD _
        have hDC : (upd HC0 D (.lst ys2)) D = some (.lst ys2) := upd_same
        have dC : DpAll K (upd HC0 D (.lst ys2)) ys2 (innD c d0) := by
          unfold innD
          rw [if_neg (by omega), if_pos c3, ed2]
          exact Dp.ups sC _ _ dys2
        generalize upd HC0 D (.lst ys2) = HC at sC hDC dC
        generalize ys2 = us at hDC dC
        have nDL : D ≠ L := fun z => by
          rw [z, s2b _ _ h1b] at hD
          cases hD
        have sBC : Same HB HC := s2b.trans sC
        have lus := DpAll.len dC
        have flc := lt1
        refine ⟨D, rfl, ⟨_, SqL.of hDC⟩, for_list (K := K) (a := D) (xs := us) (fun j σ HD => ∃ o5, σ = [some (.ref b), some (.ref pd), some (.ref L), some (.str ⟨#[c]⟩), some y0, o5] ∧ HD L = some (.lst ((ws ++ ((innD c d0).take j).flatMap (wordsD f')).map V.str)) ∧ Off [L] HC HD)
          ⟨_, rfl, by simpa using sBC _ _ h1b, Off.refl _ _⟩ (fun j σ HD _ ⟨o5, _, _, g2⟩ => SqL.of (g2.get hDC (by simpa using nDL))) ?_ ?_⟩
        · rintro j x σ HD hj ⟨o5, rfl, g1, g2⟩
          obtain ⟨e, he, dxe⟩ := DpAll.get dC hj
          have me := List.mem_of_getElem? he
          obtain ⟨a1, a2, a3, a4, a5⟩ := innD_sub sd e me
          have ntC : NT [L] HC := .cons (nt_lst (sBC _ _ h1b)) .nil
          have le1 := flat_mem (wd := wordsD f') me
          have le2 := flat_pre (wd := wordsD f') j (innD c d0)
          have tj : (innD c d0).take (j + 1) = (innD c d0).take j ++ [e] := get_take he
          refine ⟨_, rfl, .inl ⟨rfl, _, SqL.of g1⟩, _, rfl, x, e, f', _, rfl, Dp.off dxe ntC (a4 nd0) g2, a4 nd0, a1, by omega, by omega, fun L2 H2 s2 hL2 h2' => ?_⟩
          refine ⟨L, L2, _, _, rfl, rfl, s2 _ _ g1, h2', few2 (by simp only [List.length_map, List.length_append]; omega), ?_⟩
          refine ⟨_, rfl, ?_, g2.trans ((Off.of s2).trans (Off.put (by simp)))⟩
          rw [upd_same, tj, List.flatMap_append, ← List.append_assoc, List.map_append (l₂ := List.flatMap _ [e])]
          simp
        · rintro σ HD ⟨o5', rfl, g1, g2⟩
          rw [lus, List.take_of_length_le (Nat.le_refl _)] at g1
          have o9 : Off [L] H9 HD := h2b.trans ((Off.of sBC).trans g2)
          have dD : Dp K HD y0 d0 := Dp.off dxd ntL9 nd0 o9
          refine ⟨_, rfl, few (by simp), fun T2 hT2 => ⟨T2, _, rfl, .inr (.inl (.inl upd_same)), rfl, rfl, _, rfl, ?_⟩⟩
          have sE : Same HD (upd HD T2 (.tup [.str "e", .str "t", .str "s"])) := same_new hT2 _
          generalize upd HD T2 (.tup [.str "e", .str "t", .str "s"]) = HE at sE
          have g1e := sE _ _ g1
          have dE := Dp.up sE _ _ dD
          refine ite2 (fun c3 => ?_) (fun c3 => ?_)
          · have nets : ¬ (c = 101 ∨ c = 116 ∨ c = 115) := fun z => by
              have y : inV (.str ⟨#[c]⟩) [.str "e", .str "t", .str "s"] = true := (nd_ets c).mpr z
              have c3 : (!inV (.str ⟨#[c]⟩) [.str "e", .str "t", .str "s"]) = true := c3
              rw [y] at c3
              cases c3
            have fin : ∀ y : Str, txt d0 = y → ∃ o3 o4 o5, [some (V.ref b), some (V.ref pd), some (V.ref L), some (V.str ⟨#[c]⟩), some y0, o5'] = [some (V.ref b), some (V.ref pd), some (V.ref L), o3, o4, o5] ∧ (upd HE L (.lst ((ws ++ (innD c d0).flatMap (wordsD f')).map V.str ++ [.str y]))) L = some (.lst (([("(" : Str), h] ++ argWords (wordsD f') (sl.cps.toList.take (i + 1)) (args.take (i + 1))).map V.str)) ∧ Off [L] H9 (upd HE L (.lst ((ws ++ (innD c d0).flatMap (wordsD f')).map V.str ++ [.str y]))) := by
              intro y ey
              refine ⟨_, _, _, rfl, ?_, o9.trans ((Off.of sE).trans (Off.put (by simp)))⟩
              rw [upd_same, tk, if_neg nets, ← List.append_assoc, ← List.append_assoc, ← ews, ey, List.map_append (l₂ := [y])]
              rfl
            have lsm : ((ws ++ (innD c d0).flatMap (wordsD f')).map V.str).length < sizeLine := Nat.lt_of_le_of_lt (by simp only [List.length_map, List.length_append]; omega : _ ≤ 100000) (by decide)
            have lo : LeafOk c d0 := by
              unfold SlotD at sd
              rw [if_neg (by omega), if_neg (by omega), if_neg (by omega)] at sd
              exact sd
            have int1 : ∀ j : Int, d0 = .int j → j.natAbs < 10 ^ 18 → y0 = .int j := fun j e _ => by
              rw [e] at dE
              cases dE
              rfl
            have str1 : ∀ x : Str, d0 = .str x → y0 = .str x := fun x e => by
              rw [e] at dE
              cases dE
              rfl
            have goI : ∀ j : Int, d0 = .int j → j.natAbs < 10 ^ 18 → _ := fun j e hj => (⟨int1 j e hj, num_log hj, fin (txt (.int j)) (by rw [e])⟩ : y0 = .int j ∧ _ ∧ _)
            have goS : ∀ x : Str, d0 = .str x → _ := fun x e => (⟨str1 x e, fin x (by rw [e]; rfl)⟩ : y0 = .str x ∧ _)
            have cas : (∃ j : Int, d0 = .int j ∧ j.natAbs < 10 ^ 18) ∨ ∃ x : Str, d0 = .str x := by
              rcases lo with ⟨_, j, e, hj⟩ | ⟨_, j, e, _, hj⟩ | ⟨_, x, e, _⟩ | ⟨_, e⟩
              · exact .inl ⟨j, e, hj⟩
              · exact .inl ⟨j, e, hj⟩
              · exact .inr ⟨x, e⟩
              · rcases e with e | e | e
                · exact .inr ⟨_, e⟩
                · exact .inr ⟨_, e⟩
                · exact .inr ⟨_, e⟩
            rcases cas with ⟨j, e, hj⟩ | ⟨x, e⟩
            · obtain ⟨z1, z2, z3⟩ := goI j e hj
              subst z1
              exact ⟨_, rfl, .inl ⟨rfl, _, SqL.of g1e⟩, _, rfl, .inl ⟨j, rfl, z2, L, _, .str (txt (.int j)), rfl, rfl, g1e, lsm, z3⟩⟩
            · obtain ⟨z1, z3⟩ := goS x e
              subst z1
              exact ⟨_, rfl, .inl ⟨rfl, _, SqL.of g1e⟩, _, rfl, .inr ⟨x, rfl, L, _, .str x, rfl, rfl, g1e, lsm, z3⟩⟩
          · have ets : c = 101 ∨ c = 116 ∨ c = 115 := by
              cases hq : inV (.str ⟨#[c]⟩) [.str "e", .str "t", .str "s"] with
              | true => exact (nd_ets c).mp hq
              | false =>
                have c3 : ¬ (!inV (.str ⟨#[c]⟩) [.str "e", .str "t", .str "s"]) = true := c3
                rw [hq] at c3
                exact absurd rfl c3
            refine ⟨_, _, _, rfl, ?_, o9.trans (Off.of sE)⟩
            rw [tk, if_pos ets, List.append_nil, ← List.append_assoc, ← ews]
            exact g1e
      · have c3 : ¬ c = 115 := fun z => c2 (decide_eq_true ((sg_s c).mpr z))
        have c4 : ¬ (c = 101 ∨ c = 116) := fun z => cc ((inV_et c).mpr z)
        have sC : Same HC0 (upd HC0 D (.lst [])) := same_new hD _
        have hDC : (upd HC0 D (.lst [])) D = some (.lst []) := upd_same
        have dC : DpAll K (upd HC0 D (.lst [])) [] (innD c d0) := by
          unfold innD
          rw [if_neg c4, if_neg c3]
          exact .nil
        generalize upd HC0 D (.lst []) = HC at sC hDC dC
        obtain ⟨us, eus⟩ : ∃ us : List V, us = [] := ⟨_, rfl⟩
        rw [← eus] at hDC dC
        have nDL : D ≠ L := fun z => by
          rw [z, s2b _ _ h1b] at hD
          cases hD
        have sBC : Same HB HC := s2b.trans sC
        have lus := DpAll.len dC
        have flc := lt1
        refine ⟨D, rfl, ⟨_, SqL.of hDC⟩, for_list (K := K) (a := D) (xs := us) (fun j σ HD => ∃ o5, σ = [some (.ref b), some (.ref pd), some (.ref L), some (.str ⟨#[c]⟩), some y0, o5] ∧ HD L = some (.lst ((ws ++ ((innD c d0).take j).flatMap (wordsD f')).map V.str)) ∧ Off [L] HC HD)
          ⟨_, rfl, by simpa using sBC _ _ h1b, Off.refl _ _⟩ (fun j σ HD _ ⟨o5, _, _, g2⟩ => SqL.of (g2.get hDC (by simpa using nDL))) ?_ ?_⟩
        · rintro j x σ HD hj ⟨o5, rfl, g1, g2⟩
          obtain ⟨e, he, dxe⟩ := DpAll.get dC hj
          have me := List.mem_of_getElem? he
          obtain ⟨a1, a2, a3, a4, a5⟩ := innD_sub sd e me
          have ntC : NT [L] HC := .cons (nt_lst (sBC _ _ h1b)) .nil
          have le1 := flat_mem (wd := wordsD f') me
          have le2 := flat_pre (wd := wordsD f') j (innD c d0)
          have tj : (innD c d0).take (j + 1) = (innD c d0).take j ++ [e] := get_take he
          refine ⟨_, rfl, .inl ⟨rfl, _, SqL.of g1⟩, _, rfl, x, e, f', _, rfl, Dp.off dxe ntC (a4 nd0) g2, a4 nd0, a1, by omega, by omega, fun L2 H2 s2 hL2 h2' => ?_⟩
          refine ⟨L, L2, _, _, rfl, rfl, s2 _ _ g1, h2', few2 (by simp only [List.length_map, List.length_append]; omega), ?_⟩
          refine ⟨_, rfl, ?_, g2.trans ((Off.of s2).trans (Off.put (by simp)))⟩
          rw [upd_same, tj, List.flatMap_append, ← List.append_assoc, List.map_append (l₂ := List.flatMap _ [e])]
          simp
        · rintro σ HD ⟨o5', rfl, g1, g2⟩
          rw [lus, List.take_of_length_le (Nat.le_refl _)] at g1
          have o9 : Off [L] H9 HD := h2b.trans ((Off.of sBC).trans g2)
          have dD : Dp K HD y0 d0 := Dp.off dxd ntL9 nd0 o9
          refine ⟨_, rfl, few (by simp), fun T2 hT2 => ⟨T2, _, rfl, .inr (.inl (.inl upd_same)), rfl, rfl, _, rfl, ?_⟩⟩
          have sE : Same HD (upd HD T2 (.tup [.str "e", .str "t", .str "s"])) := same_new hT2 _
          generalize upd HD T2 (.tup [.str "e", .str "t", .str "s"]) = HE at sE
          have g1e := sE _ _ g1
          have dE := Dp.up sE _ _ dD
          refine ite2 (fun c3 => ?_) (fun c3 => ?_)
          · have nets : ¬ (c = 101 ∨ c = 116 ∨ c = 115) := fun z => by
              have y : inV (.str ⟨#[c]⟩) [.str "e", .str "t", .str "s"] = true := (nd_ets c).mpr z
              have c3 : (!inV (.str ⟨#[c]⟩) [.str "e", .str "t", .str "s"]) = true := c3
              rw [y] at c3
              cases c3
            have fin : ∀ y : Str, txt d0 = y → ∃ o3 o4 o5, [some (V.ref b), some (V.ref pd), some (V.ref L), some (V.str ⟨#[c]⟩), some y0, o5'] = [some (V.ref b), some (V.ref pd), some (V.ref L), o3, o4, o5] ∧ (upd HE L (.lst ((ws ++ (innD c d0).flatMap (wordsD f')).map V.str ++ [.str y]))) L = some (.lst (([("(" : Str), h] ++ argWords (wordsD f') (sl.cps.toList.take (i + 1)) (args.take (i + 1))).map V.str)) ∧ Off [L] H9 (upd HE L (.lst ((ws ++ (innD c d0).flatMap (wordsD f')).map V.str ++ [.str y]))) := by
              intro y ey
              refine ⟨_, _, _, rfl, ?_, o9.trans ((Off.of sE).trans (Off.put (by simp)))⟩
              rw [upd_same, tk, if_neg nets, ← List.append_assoc, ← List.append_assoc, ← ews, ey, List.map_append (l₂ := [y])]
              rfl
            have lsm : ((ws ++ (innD c d0).flatMap (wordsD f')).map V.str).length < sizeLine := Nat.lt_of_le_of_lt (by simp only [List.length_map, List.length_append]; omega : _ ≤ 100000) (by decide)
            have lo : LeafOk c d0 := by
              unfold SlotD at sd
              rw [if_neg (by omega), if_neg (by omega), if_neg (by omega)] at sd
              exact sd
            have int1 : ∀ j : Int, d0 = .int j → j.natAbs < 10 ^ 18 → y0 = .int j := fun j e _ => by
              rw [e] at dE
              cases dE
              rfl
            have str1 : ∀ x : Str, d0 = .str x → y0 = .str x := fun x e => by
              rw [e] at dE
              cases dE
              rfl
            have goI : ∀ j : Int, d0 = .int j → j.natAbs < 10 ^ 18 → _ := fun j e hj => (⟨int1 j e hj, num_log hj, fin (txt (.int j)) (by rw [e])⟩ : y0 = .int j ∧ _ ∧ _)
            have goS : ∀ x : Str, d0 = .str x → _ := fun x e => (⟨str1 x e, fin x (by rw [e]; rfl)⟩ : y0 = .str x ∧ _)
            have cas : (∃ j : Int, d0 = .int j ∧ j.natAbs < 10 ^ 18) ∨ ∃ x : Str, d0 = .str x := by
              rcases lo with ⟨_, j, e, hj⟩ | ⟨_, j, e, _, hj⟩ | ⟨_, x, e, _⟩ | ⟨_, e⟩
              · exact .inl ⟨j, e, hj⟩
              · exact .inl ⟨j, e, hj⟩
              · exact .inr ⟨x, e⟩
              · rcases e with e | e | e
                · exact .inr ⟨_, e⟩
                · exact .inr ⟨_, e⟩
                · exact .inr ⟨_, e⟩
            rcases cas with ⟨j, e, hj⟩ | ⟨x, e⟩
            · obtain ⟨z1, z2, z3⟩ := goI j e hj
              subst z1
              exact ⟨_, rfl, .inl ⟨rfl, _, SqL.of g1e⟩, _, rfl, .inl ⟨j, rfl, z2, L, _, .str (txt (.int j)), rfl, rfl, g1e, lsm, z3⟩⟩
            · obtain ⟨z1, z3⟩ := goS x e
              subst z1
              exact ⟨_, rfl, .inl ⟨rfl, _, SqL.of g1e⟩, _, rfl, .inr ⟨x, rfl, L, _, .str x, rfl, rfl, g1e, lsm, z3⟩⟩
          · have ets : c = 101 ∨ c = 116 ∨ c = 115 := by
              cases hq : inV (.str ⟨#[c]⟩) [.str "e", .str "t", .str "s"] with
              | true => exact (nd_ets c).mp hq
              | false =>
                have c3 : ¬ (!inV (.str ⟨#[c]⟩) [.str "e", .str "t", .str "s"]) = true := c3
                rw [hq] at c3
                exact absurd rfl c3
            refine ⟨_, _, _, rfl, ?_, o9.trans (Off.of sE)⟩
            rw [tk, if_pos ets, List.append_nil, ← List.append_assoc, ← ews]
            exact g1e
    · rintro σ HA ⟨o3, o4, o5, rfl, h1, h2⟩
      have e1 : (sl.cps.toList.take zs.length) = sl.cps.toList := List.take_of_length_le (by omega)
      have e2 : (args.take zs.length) = args := List.take_of_length_le (by omega)
      rw [e1, e2] at h1
      refine ⟨_, rfl, few (by simp), fun D hD => ?_⟩
      have s1 : Same HA (upd HA D (.lst [.str ")"])) := same_new hD _
      refine ⟨L, D, _, _, rfl, rfl, s1 _ _ h1, upd_same, few2 (by simp only [List.length_map, List.length_append, List.length_cons, List.length_nil]; omega), fun R hR => ?_⟩
      have s2 := s1.trans (same_new (o := .lst (([("(" : Str), h] ++ argWords (wordsD f') sl.cps.toList args).map V.str ++ [.str ")"])) hR)
      refine q R _ ?_ ?_ ?_
      · intro b u z
        exact s2 _ _ (h2.get (s09 _ _ z) (by simpa using ne_of_none z hL0))
      · cases hz : H R with
        | none => rfl
        | some o =>
          have := s1 _ _ (h2.get (s09 _ _ hz) (by simpa using ne_of_none hz hL0))
          rw [hR] at this
          cases this
      · rw [upd_same, List.map_append, List.map_append]
        rfl
end
/-! the law's test of a tree; the trees inside one -/
abbrev sRight : Stmt := topS 35
abbrev sInside : Stmt := topS 36
theorem scRight : FnScope ["_law_tree_here", "_law_text"] ["_law_tree_here"] (defScope sRight) := ⟨rfl, rfl, rfl, by decide +kernel, rfl, by decide +kernel, by decide +kernel⟩
theorem scInside : FnScope ["_law_tree_here", "_law_found", "_law_left", "_law_here", "_law_sort", "_law_slot", "_law_item", "_law_one"] ["_law_tree_here"] (defScope sInside) := ⟨rfl, rfl, rfl, by decide +kernel, rfl, by decide +kernel, by decide +kernel⟩
theorem flat_nod {wd : PyData → List Str} : ∀ {es : List PyData}, (∀ e ∈ es, (wd e).length ≤ 2 * nod e) → (es.flatMap wd).length ≤ 2 * nods es
  | [], _ => by simp [nods]
  | e :: es, h => by
    have h1 := h e List.mem_cons_self
    have h2 := flat_nod fun x hx => h x (List.mem_cons_of_mem _ hx)
    rw [List.flatMap_cons, List.length_append]
    simp only [nods]
    omega
theorem argWords_nod {W : Bool → PyData → Prop} {wd : PyData → List Str} (ih : ∀ s d, W s d → (wd d).length ≤ 2 * nod d) : ∀ {cs : List Nat} {ds : List PyData}, ArgOk W cs ds → (argWords wd cs ds).length ≤ 2 * nods ds
  | [], [], _ => by simp [argWords]
  | c :: cs, d :: ds, h => by
    have h2 := argWords_nod ih h.2
    have h1 := h.1
    have h3 : (if c = 115 then (kidsT d).flatMap wd else if c = 101 ∨ c = 116 then wd d else [txt d]).length ≤ 2 * nod d := by
      split at h1
      · rename_i z
        rw [if_pos z]
        obtain ⟨es, rfl, q⟩ := h1
        have := flat_nod (wd := wd) fun e he => ih _ _ (q e he)
        simp only [kidsT, nod]
        omega
      · rename_i z
        rw [if_neg z]
        have := nod_pos d
        split at h1
        · rename_i y
          rw [if_pos (.inl y)]
          exact ih _ _ h1
        · rename_i y
          split at h1
          · rename_i u
            rw [if_pos (.inr u)]
            exact ih _ _ h1
          · rename_i u
            rw [if_neg (fun z => z.elim y u)]
            simp only [List.length_cons, List.length_nil]
            omega
    simp only [argWords, List.length_append, nods]
    omega
  | [], _ :: _, h => h.elim
  | _ :: _, [], h => h.elim
theorem leafWords_len {d : PyData} (h : LeafT d) : (leafWords d).length = 1 := by
  rcases h with ⟨i, rfl, _⟩ | ⟨x, h | h, _⟩
  · rfl
  · rw [h]; rfl
  · rw [h]; rfl
theorem words_nod : ∀ {f : Nat} {s : Bool} {d : PyData}, Wx f s d → (wordsD f d).length ≤ 2 * nod d
  | 0, s, d, h => by
    rw [words_leaf h.2, leafWords_len h.2]
    have := nod_pos d
    omega
  | f + 1, s, d, h => by
    rcases h with h | ⟨h0, sl, args, e, m, n, a⟩
    · rw [words_leaf h.2, leafWords_len h.2]
      have := nod_pos d
      omega
    · subst e
      rw [words_node (tbS_all _ m) n]
      have := argWords_nod (wd := wordsD f) (fun s d z => words_nod z) a
      simp only [List.length_append, List.length_cons, List.length_nil, nod, nods]
      omega
/-- a tree that the law looks at -/
structure Sub (N D : Nat) (s : Bool) (d : PyData) : Prop where
  wx : ∃ f, f ≤ 40 ∧ Wx f s d
  gd : gd d = true
  nl : nl d = true
  nd : nod d ≤ N
  dp : d.depth ≤ D
theorem Sub.mono {N D N2 D2 : Nat} {s : Bool} {d : PyData} (h : Sub N D s d) (h1 : N ≤ N2) (h2 : D ≤ D2) : Sub N2 D2 s d := ⟨h.wx, h.gd, h.nl, Nat.le_trans h.nd h1, Nat.le_trans h.dp h2⟩
theorem subs_nl {N D : Nat} {s : Bool} : ∀ {ds : List PyData}, (∀ d ∈ ds, Sub N D s d) → nls ds = true
  | [], _ => by simp only [nls]
  | d :: ds, h => by simp only [nls, (h d List.mem_cons_self).nl, subs_nl fun x hx => h x (List.mem_cons_of_mem _ hx), Bool.and_self]
def pairS (q : Bool × PyData) : PyData := .tuple [q.2, .str (if q.1 = true then "t" else "e")]
def kidsP : List Nat → List PyData → List (Bool × PyData)
  | c :: cs, d :: ds => (innD c d).map (fun e => (decide (c = 116), e)) ++ kidsP cs ds
  | [], _ => []
  | _ :: _, [] => []
theorem kidsP_app : ∀ (cs cs2 : List Nat) (ds ds2 : List PyData), cs.length = ds.length → kidsP (cs ++ cs2) (ds ++ ds2) = kidsP cs ds ++ kidsP cs2 ds2
  | [], cs2, [], ds2, _ => rfl
  | c :: cs, cs2, d :: ds, ds2, h => by
    have h2 : cs.length = ds.length := by simpa using h
    simp only [List.cons_append, kidsP, kidsP_app cs cs2 ds ds2 h2, List.append_assoc]
  | [], cs2, _ :: _, ds2, h => by cases h
  | _ :: _, cs2, [], ds2, h => by cases h
theorem kidsP_take {i : Nat} {cs : List Nat} {ds : List PyData} {c : Nat} {d : PyData} (h : cs.length = ds.length) (hc : cs[i]? = some c) (hd : ds[i]? = some d) :
    kidsP (cs.take (i + 1)) (ds.take (i + 1)) = kidsP (cs.take i) (ds.take i) ++ (innD c d).map (fun e => (decide (c = 116), e)) := by
  rw [get_take hc, get_take hd, kidsP_app _ _ _ _ (by rw [List.length_take, List.length_take, h])]
  congr 1
  simp only [kidsP, List.append_nil]
theorem kidsP_pre {cs : List Nat} {ds : List PyData} (i : Nat) (h : cs.length = ds.length) : ∃ r, kidsP cs ds = kidsP (cs.take i) (ds.take i) ++ r := by
  have e := kidsP_app (cs.take i) (cs.drop i) (ds.take i) (ds.drop i) (by rw [List.length_take, List.length_take, h])
  rw [List.take_append_drop, List.take_append_drop] at e
  exact ⟨_, e⟩
theorem innD_sum (c : Nat) (d : PyData) : ((innD c d).map nod).sum ≤ nod d := by
  unfold innD
  split
  · simp
  · split
    · cases d with
      | tuple es =>
        have key : ∀ es : List PyData, (es.map nod).sum = nods es := fun es => by
          induction es with
          | nil => simp [nods]
          | cons e es ih => simp only [List.map_cons, List.sum_cons, nods, ih]
        simp only [kidsT, key, nod]
        omega
      | _ => simp [kidsT]
    · simp
theorem kidsP_sum : ∀ (cs : List Nat) (ds : List PyData), ((kidsP cs ds).map fun q => nod q.2).sum ≤ nods ds
  | c :: cs, d :: ds => by
    have h1 := innD_sum c d
    have h2 := kidsP_sum cs ds
    simp only [kidsP, List.map_append, List.map_map, List.sum_append, nods]
    have e : ((fun q : Bool × PyData => nod q.2) ∘ fun e => (decide (c = 116), e)) = nod := rfl
    rw [e]
    omega
  | [], _ => by simp [kidsP]
  | _ :: _, [] => by simp [kidsP]
theorem kidsP_sub {N D f : Nat} (hf : f ≤ 40) : ∀ {cs : List Nat} {ds : List PyData}, ArgOk (Wx f) cs ds → gds ds = true → nls ds = true → nods ds ≤ N → PyData.depthAll ds ≤ D → ∀ q ∈ kidsP cs ds, Sub N D q.1 q.2
  | [], [], _, _, _, _, _, q, hq => by cases hq
  | c :: cs, d :: ds, h, g, n, l, p, q, hq => by
    simp only [gds, Bool.and_eq_true] at g
    simp only [nls, Bool.and_eq_true] at n
    simp only [nods] at l
    simp only [PyData.depthAll] at p
    rcases List.mem_append.mp (show q ∈ (innD c d).map (fun e => (decide (c = 116), e)) ++ kidsP cs ds from hq) with z | z
    · obtain ⟨e, he, rfl⟩ := List.mem_map.mp z
      obtain ⟨a1, a2, a3, a4, a5⟩ := innD_sub (W := Wx f) (c := c) (d := d) h.1 e he
      exact ⟨⟨f, hf, a1⟩, a5 g.1, a4 n.1, by simp only; omega, by simp only; omega⟩
    · exact kidsP_sub hf h.2 g.2 n.2 (by omega) (by omega) q z
  | [], _ :: _, h, _, _, _, _, _, _ => h.elim
  | _ :: _, [], h, _, _, _, _, _, _ => h.elim
theorem pairs_gd {N D : Nat} : ∀ {qs : List (Bool × PyData)}, (∀ q ∈ qs, Sub N D q.1 q.2) → gds (qs.map pairS) = true ∧ nls (qs.map pairS) = true ∧ PyData.depthAll (qs.map pairS) ≤ D + 1
  | [], _ => ⟨by simp only [List.map_nil, gds], by simp only [List.map_nil, nls], by simp only [List.map_nil, PyData.depthAll]; omega⟩
  | q :: qs, h => by
    obtain ⟨g1, g2, g3⟩ := pairs_gd fun p hp => h p (List.mem_cons_of_mem _ hp)
    have h1 := h q List.mem_cons_self
    have gs : gd (.str (if q.1 = true then "t" else "e")) = true := by
      cases q.1 <;> decide +kernel
    have hdp := h1.dp
    refine ⟨?_, ?_, ?_⟩
    · simp only [List.map_cons, gds, pairS, gd, g1, h1.gd, Bool.and_self]
      simp only [gd] at gs
      rw [gs]
      rfl
    · simp only [List.map_cons, nls, pairS, nl, g2, h1.nl, Bool.and_self]
    · simp only [List.map_cons, PyData.depthAll, pairS, PyData.depth]
      omega
theorem eqv_nilL (ds : List PyData) : PyData.eqv (.list ds) (.list []) = ds.isEmpty := by
  cases ds with
  | nil => simp only [PyData.eqv, PyData.eqvAll, List.isEmpty_nil]
  | cons d ds => simp only [PyData.eqv, PyData.eqvAll, List.isEmpty_cons]
theorem rep1 (k : Bool) (x : V) : (List.replicate (if k = true then (1 : Int) else 0).toNat [x]).flatten = if k = true then [x] else [] := by
  cases k <;> rfl
theorem sum_len {α : Type} {f : α → Nat} (h : ∀ a, 1 ≤ f a) : ∀ l : List α, l.length ≤ (l.map f).sum
  | [] => Nat.le_refl _
  | a :: l => by
    have h1 := h a
    have h2 := sum_len h l
    simp only [List.map_cons, List.sum_cons, List.length_cons]
    omega
theorem Wx.parts {f : Nat} {s : Bool} {d : PyData} (h : Wx f s d) (hf : f ≤ 40) : ∃ h sl args f', f' ≤ 40 ∧ d = .tuple (.str h :: args) ∧ (h, sl) ∈ tbS s ∧ ArgOk (Wx f') sl.cps.toList args := by
  have lf : ∀ {d : PyData}, LeafT d → ∃ h sl args f', f' ≤ 40 ∧ d = .tuple (.str h :: args) ∧ (h, sl) ∈ tbS false ∧ ArgOk (Wx f') sl.cps.toList args := fun {d} l => by
    have ck : ("k" : Str).cps.toList = [107] := by decide +kernel
    have cn : ("n" : Str).cps.toList = [110] := by decide +kernel
    rcases l with ⟨i, rfl, hi⟩ | ⟨x, e | e, hx⟩
    · exact ⟨"int", "k", [.int i], 0, by decide, rfl, by decide +kernel, by rw [ck]; exact ⟨.inl ⟨rfl, i, rfl, hi⟩, trivial⟩⟩
    · exact ⟨"name", "n", [.str x], 0, by decide, e, by decide +kernel, by rw [cn]; exact ⟨.inr (.inr (.inl ⟨rfl, x, rfl, hx⟩)), trivial⟩⟩
    · exact ⟨"atom", "n", [.str x], 0, by decide, e, by decide +kernel, by rw [cn]; exact ⟨.inr (.inr (.inl ⟨rfl, x, rfl, hx⟩)), trivial⟩⟩
  cases f with
  | zero =>
    obtain ⟨rfl, l⟩ := h
    exact lf l
  | succ f =>
    rcases h with ⟨rfl, l⟩ | ⟨h, sl, args, e, m, n, a⟩
    · exact lf l
    · exact ⟨h, sl, args, f, by omega, e, m, a⟩
def srtS (b : Bool) : Str := if b = true then "t" else "e"
theorem srt_tbl (b : Bool) : tbS b = tblS (srtS b) := by
  rw [← tb_tbl]
  cases b <;> decide +kernel
def spInside (K : PySem.W.Frag) (N D : Nat) : Sp := fun vs H Q _ => ∃ v d, vs = [v] ∧ Dp K H v d ∧ Sub N D false d ∧ ∀ L us fs H', Same H H' → H L = none → H' L = some (.lst us) → DpAll K H' us fs → (∀ e ∈ fs, Sub N D false e) → Q (.ref L) H'
section
variable {P : Program} {w : World} {K : PySem.W.Frag} {mg : Str → Option Value} {base : Heap} {f fF : Addr} {fd dF : FuncData}
theorem ok_inside {k N D : Nat} (hN : N ≤ 3300) (hD : D ≤ 50) (F : Fun K "_law_inside" "_law_inside" sInside f fd) (mi : mg "int" = none) (mz : mg "zip" = none) (GF : Dn P w K mg base 1 "_law_forms" ["_law_sort"] spForms fF dF) :
    FnOk P w K mg base CX0 (k + 2) f fd ["_law_tree_here"] (spInside K N D) := by
  refine F.ok scInside (fun vs H Q E h => ?_) (fun cdv A outer s H vs Q E hr h => ?_)
  · obtain ⟨v, d, rfl, _⟩ := h
    rfl
  obtain ⟨v, d, rfl, hd, sd, q⟩ := h
  have hr1 : Room 1 _ := hr.mono (by omega)
  have hu := hu_of hr
  refine ⟨_, pss_cons (ps_par (i := 1) (j := 2) (by rfl) scInside.nd rfl rfl (by decide) rfl rfl (pa_cons (pe_lst pa_nil) (pa_cons (pe_lst (pa_cons (pe_tup (pa_cons (pv 0) (pa_cons pe_str pa_nil))) pa_nil)) pa_nil)) (by rfl))
    (pss_cons (ps_while PassesOwn.never (pt_cmpR (op_neD hr.units) (pv 2) (pe_lst pa_nil) (nomark _))
      (pss_cons (ps_asg (pe_bm0 PySem.F.plainAttrs_list PySem.F.slot_list_pop PySem.F.type_list_pop mt_pop (pv 2)) (pg_tup (by rfl) (pgs_cons (pg_name (i := 3) scInside.nd rfl (.inl rfl)) (pgs_cons (pg_name (i := 4) scInside.nd rfl (.inl rfl)) pgs_nil))))
      (pss_cons (ps_expr (pe_bm PySem.F.plainAttrs_list PySem.F.slot_list_extend PySem.F.type_list_extend mt_extend (pv 1) (pa_cons (pe_op op_rep (pe_lst (pa_cons (pv 3) pa_nil)) (pe_callTy call_int1 (by rfl) mi (by decide +kernel) (pa_cons (pe_cmpR op_eq (pv 4) pe_str (nomark _)) pa_nil))) pa_nil)))
      (pss_one (ps_for PassesOwn.never rfl (pi_zipST (by rfl) mz (pa_cons (pe_dget hu (pe_call GF.ok hr1 (by rfl) GF.mg GF.kp GF.bd .nil pass0 (pa_cons (pv 4) pa_nil)) (pe_ix ix_tup (pv 3) pe_int (fun _ _ => rfl)) (fun _ _ => rfl)) (pa_cons (pe_slice sl_tupA (pv 3) (po_some pe_int) po_none) pa_nil)))
        (pg_tup (by rfl) (pgs_cons (pg_name (i := 5) scInside.nd rfl (.inl rfl)) (pgs_cons (pg_name (i := 6) scInside.nd rfl (.inl rfl)) pgs_nil)))
        (pss_one (ps_expr (pe_bm PySem.F.plainAttrs_list PySem.F.slot_list_extend PySem.F.type_list_extend mt_extend (pv 2) (pa_cons (pe_ifExp (pt_cmpR op_in_seq (pv 5) (pe_tup (pa_cons pe_str (pa_cons pe_str pa_nil))) rfl) (pe_lst (pa_cons (pe_tup (pa_cons (pv 6) (pa_cons (pv 5) pa_nil))) pa_nil))
          (pe_ifExp (pt_cmpR op_eq (pv 5) pe_str (nomark _)) (pe_lc (own := [("_law_one", 7)]) (g := gName 7) (by rfl) scInside.nd (pi_tup (pv 6))
            (blkOk_by (own := [("_law_one", 7)]) (N := ["_law_tree_here", "_law_found", "_law_left", "_law_here", "_law_sort", "_law_slot", "_law_item", "_law_one"]) (sc := defScope sInside) (by decide +kernel))
            (fun _ _ _ _ _ => pg_name (i := 7) scInside.nd rfl (Or.inl rfl)) (fun _ _ _ _ _ => pts_nil) (fun _ _ _ _ _ => pe_tup (pa_cons (pv 7) (pa_cons pe_str pa_nil)))) (pe_lst pa_nil))) pa_nil)))))))))
    (pss_one (ps_ret (pv 1)))), ?_⟩
  refine ⟨by decide, fun FA hFA => ⟨_, rfl, few (by simp), fun t1 ht1 => ⟨few (by simp), fun LF hLF => ⟨_, _, rfl, ?_⟩⟩⟩⟩
  have r1 : Same H (upd H FA (.lst [])) := same_new hFA _
  have f1 : (upd H FA (.lst [])) FA = some (.lst []) := upd_same
  generalize upd H FA (.lst []) = H1 at *
  have r3 : Same H1 (upd H1 t1 (.tup [v, .str "e"])) := same_new ht1 _
  have f3 : (upd H1 t1 (.tup [v, .str "e"])) t1 = some (.tup [v, .str "e"]) := upd_same
  generalize upd H1 t1 (.tup [v, .str "e"]) = H3 at *
  have r4 : Same H3 (upd H3 LF (.lst [.ref t1])) := same_new hLF _
  have f4 : (upd H3 LF (.lst [.ref t1])) LF = some (.lst [.ref t1]) := upd_same
  have nFL : FA ≠ LF := ne_of_none (r3 _ _ f1) hLF
  have hLF0 : H LF = none := (r1.trans r3).free hLF
  refine ⟨fun m σ HZ => ∃ (us xs : List V) (fs : List PyData) (qs : List (Bool × PyData)) (o3 o4 o5 o6 : Option V), σ = [some v, some (.ref FA), some (.ref LF), o3, o4, o5, o6, none] ∧ HZ FA = some (.lst us) ∧ HZ LF = some (.lst xs) ∧ DpAll K HZ us fs ∧ DpAll K HZ xs (qs.map pairS) ∧
      (∀ e ∈ fs, Sub N D false e) ∧ (∀ p ∈ qs, Sub N D p.1 p.2) ∧ (qs.map fun p => nod p.2).sum = m ∧ fs.length + m ≤ N ∧ Same H HZ,
    ⟨nod d, [], [.ref t1], [], [(false, d)], none, none, none, none, rfl, r4 _ _ (r3 _ _ f1), f4, .nil, .cons (.tup (.inl (.inl (r4 _ _ f3))) (.cons (Dp.up (r1.trans (r3.trans r4)) _ _ hd) (.cons (.str _) .nil))) .nil,
      (fun _ z => nomatch z), (fun p hp => by rw [List.mem_singleton.mp hp]; exact sd), by simp, by simpa using sd.nd, r1.trans (r3.trans r4)⟩, ?_⟩
  rintro m σ HZ ⟨us, xs, fs, qs, o3, o4, o5, o6, rfl, hu, hx, du, dx, sf, sq, rfl, cnt, sm⟩
  have lx := DpAll.len dx
  have gx := pairs_gd sq
  refine ⟨_, rfl, by decide, fun tt htt => ?_⟩
  have s3 : Same HZ (upd HZ tt (.lst [])) := same_new htt _
  refine ⟨.list (qs.map pairS), .list [], .lst (SqL.of (s3 _ _ hx)) (Dp.ups s3 _ _ dx), .lst (SqL.of upd_same) .nil, shaped_of (by simpa only [gd] using gx.1) (by simp only [PyData.depth]; omega), by decide +kernel, _, rfl, ?_⟩
  rw [eqv_nilL]
  by_cases ex : xs = []
  · subst ex
    have q0 : qs = [] := by
      have z := DpAll.len dx
      simp at z
      exact List.length_eq_zero_iff.mp z.symm
    subst q0
    exact iteF ⟨_, rfl, q FA us fs _ (sm.trans s3) hFA (s3 _ _ hu) (Dp.ups s3 _ _ du) sf⟩
  · have e1 : (qs.map pairS).isEmpty = false := by
      cases qs with
      | nil => exact absurd (List.length_eq_zero_iff.mp lx) ex
      | cons d ds => rfl
    rw [e1]
    obtain ⟨xs2, y, rfl⟩ : ∃ xs2 y, xs = xs2 ++ [y] := ⟨xs.dropLast, xs.getLast ex, (List.dropLast_concat_getLast ex).symm⟩
    obtain ⟨qs2, qb, qd, rfl⟩ : ∃ qs2 qb qd, qs = qs2 ++ [((qb, qd) : Bool × PyData)] := by
      have qne : qs ≠ [] := fun z => by
        rw [z] at e1
        cases e1
      exact ⟨qs.dropLast, (qs.getLast qne).1, (qs.getLast qne).2, (List.dropLast_concat_getLast qne).symm⟩
    rw [List.map_append] at dx
    obtain ⟨d1, d2, e2, da, db⟩ := DpAll.unapp dx
    have la := DpAll.len da
    have lb := DpAll.len db
    have e3 := congrArg List.length e2
    simp only [List.length_append, List.length_map, List.length_cons, List.length_nil] at e3 lb lx
    have e4 := List.append_inj e2 (by rw [List.length_map]; omega)
    rw [← e4.1] at da
    rw [← e4.2] at db
    simp only [List.map_cons, List.map_nil] at db
    cases db with
    | cons dy rest =>
    cases rest
    have dy : Dp K HZ y (.tuple [qd, .str (srtS qb)]) := dy
    obtain ⟨ty, ys, dys, rfl, ey, hy, dyy⟩ := tup_of dy rfl
    cases ey
    cases dyy with
    | @cons x1 _ _ _ dy1 dyy =>
    cases dyy with
    | @cons x2 _ _ _ dy2 dyy =>
    cases dyy
    cases dy2
    have sqq : Sub N D qb qd := sq (qb, qd) (by simp)
    have sq2 : ∀ p ∈ qs2, Sub N D p.1 p.2 := fun p hp => sq p (List.mem_append_left _ hp)
    have nsum : ((qs2 ++ [(qb, qd)]).map fun p : Bool × PyData => nod p.2).sum = (qs2.map fun p => nod p.2).sum + nod qd := by simp
    rw [nsum] at cnt ⊢
    refine iteT ⟨fun σ' HY => ∃ m', m' < (qs2.map fun p => nod p.2).sum + nod qd ∧ ∃ (us xs : List V) (fs : List PyData) (qs : List (Bool × PyData)) (o3 o4 o5 o6 : Option V), σ' = [some v, some (.ref FA), some (.ref LF), o3, o4, o5, o6, none] ∧ HY FA = some (.lst us) ∧ HY LF = some (.lst xs) ∧ DpAll K HY us fs ∧ DpAll K HY xs (qs.map pairS) ∧
      (∀ e ∈ fs, Sub N D false e) ∧ (∀ p ∈ qs, Sub N D p.1 p.2) ∧ (qs.map fun p => nod p.2).sum = m' ∧ fs.length + m' ≤ N ∧ Same H HY, fun _ _ z => z, ?_⟩
    have hx3 := s3 _ _ hx
    have hu3 := s3 _ _ hu
    have du3 := Dp.ups s3 _ _ du
    have da3 := Dp.ups s3 _ _ da
    have hy3 := seqT_up s3 hy
    have dy13 := Dp.up s3 _ _ dy1
    have sm3 := sm.trans s3
    generalize upd HZ tt (.lst []) = H5 at s3 hx3 hu3 du3 da3 hy3 dy13 sm3
    have nlu := subs_nl sf
    have nlq := (pairs_gd sq2).2.1
    have lq2 := sum_len (f := fun p : Bool × PyData => nod p.2) (fun p => nod_pos p.2) qs2
    have lu := DpAll.len du
    have lxs := DpAll.len da
    rw [List.length_map] at lxs
    refine ⟨_, rfl, .inl ⟨rfl, _, SqL.of hx3⟩, LF, _, .ref ty, rfl, rfl, hx3, last_at _ _, ?_⟩
    rw [drop_last]
    have nt5 : NT [FA, LF] H5 := .cons (nt_lst hu3) (.cons (nt_lst hx3) .nil)
    have p6 : Off [FA, LF] H5 (upd H5 LF (.lst xs2)) := Off.put (by simp)
    have hu6 : (upd H5 LF (.lst xs2)) FA = some (.lst us) := by rw [upd_ne nFL]; exact hu3
    have hx6 : (upd H5 LF (.lst xs2)) LF = some (.lst xs2) := upd_same
    generalize upd H5 LF (.lst xs2) = H6 at p6 hu6 hx6
    have ntT : ∀ {a : Addr} {xs : List V}, SqT K H5 a xs → SqT K H6 a xs := fun {a xs} h => by
      rcases h with (h | ⟨o, h⟩) | h
      · refine .inl (.inl (p6.get h fun z => ?_))
        exact nt5 _ z _ (.inl h)
      · refine .inl (.inr ⟨o, p6.get h fun z => ?_⟩)
        exact nt5 _ z _ (.inr ⟨o, h⟩)
      · exact .inr h
    refine ⟨ty, _, rfl, ntT hy3, rfl, _, _, rfl, _, _, rfl, rfl, ?_⟩
    refine ⟨_, rfl, .inl ⟨rfl, _, SqL.of hu6⟩, _, rfl, few (by simp), fun D1 hD1 => ?_⟩
    have s7 : Same H6 (upd H6 D1 (.lst [x1])) := same_new hD1 _
    have e7 : (upd H6 D1 (.lst [x1])) D1 = some (.lst [x1]) := upd_same
    generalize upd H6 D1 (.lst [x1]) = H7 at s7 e7
    refine ⟨_, rfl, rfl, .inr ⟨_, rfl, D1, _, [x1], rfl, rfl, e7, ?_, ?_, ?_, fun D2 hD2 => ?_⟩⟩
    · split <;> decide
    · split <;> decide
    · refine few ?_
      split <;> simp
    rw [rep1]
    have ek : decide (V.str (srtS qb) = V.str "e") = !qb := by cases qb <;> decide +kernel
    rw [ek]
    -- what is found so far
    obtain ⟨ad, fd2, ead, efd⟩ : ∃ (ad : List V) (fd2 : List PyData), ad = (if (!qb) = true then [x1] else []) ∧ fd2 = (if (!qb) = true then [qd] else []) := ⟨_, _, rfl, rfl⟩
    rw [← ead]
    have lad : ad.length ≤ 1 := by rw [ead]; split <;> simp
    have lfd : fd2.length ≤ 1 := by rw [efd]; split <;> simp
    have sfd : ∀ e ∈ fd2, Sub N D false e := fun e he => by
      rw [efd] at he
      cases qb with
      | true => simp at he
      | false =>
        have : e = qd := by simpa using he
        rw [this]
        exact sqq
    have o67 : Off [FA, LF] H5 H7 := p6.trans (Off.of s7)
    have dad7 : DpAll K H7 ad fd2 := by
      have z : Dp K H7 x1 qd := Dp.off dy13 nt5 sqq.nl o67
      rw [ead, efd]
      cases qb with
      | true => exact .nil
      | false => exact .cons z .nil
    have s8 : Same H7 (upd H7 D2 (.lst ad)) := same_new hD2 _
    have e8 : (upd H7 D2 (.lst ad)) D2 = some (.lst ad) := upd_same
    generalize upd H7 D2 (.lst ad) = H8 at s8 e8
    have hu8 := s8 _ _ (s7 _ _ hu6)
    have hx8 := s8 _ _ (s7 _ _ hx6)
    have o8 : Off [FA, LF] H5 H8 := o67.trans (Off.of s8)
    refine ⟨FA, D2, us, ad, rfl, rfl, hu8, e8, few2 (by omega), ?_⟩
    have o9 : Off [FA, LF] H8 (upd H8 FA (.lst (us ++ ad))) := Off.put (by simp)
    have hu9 : (upd H8 FA (.lst (us ++ ad))) FA = some (.lst (us ++ ad)) := upd_same
    have hx9 : (upd H8 FA (.lst (us ++ ad))) LF = some (.lst xs2) := by rw [upd_ne nFL.symm]; exact hx8
    have nt8 : NT [FA, LF] H8 := .cons (nt_lst hu8) (.cons (nt_lst hx8) .nil)
    have nlf2 : nls fd2 = true := subs_nl sfd
    have du9 : DpAll K (upd H8 FA (.lst (us ++ ad))) (us ++ ad) (fs ++ fd2) := DpAll.app (DpAll.off du3 nt5 nlu (o8.trans o9)) (DpAll.off (Dp.ups s8 _ _ dad7) nt8 nlf2 o9)
    have da9 : DpAll K (upd H8 FA (.lst (us ++ ad))) xs2 (qs2.map pairS) := DpAll.off da3 nt5 nlq (o8.trans o9)
    have dq9 : Dp K (upd H8 FA (.lst (us ++ ad))) x1 qd := Dp.off dy13 nt5 sqq.nl (o8.trans o9)
    have o59 : Off [FA, LF] H5 (upd H8 FA (.lst (us ++ ad))) := o8.trans o9
    generalize upd H8 FA (.lst (us ++ ad)) = H9 at o9 hu9 hx9 du9 da9 dq9 o59
    obtain ⟨fq, hfq, wq⟩ := sqq.wx
    obtain ⟨h, sl, args, f', hf', rfl, mq, okq⟩ := wq.parts hfq
    obtain ⟨b, ys2, ds2, rfl, e3b, hb9, dys⟩ := tup_of dq9 rfl
    cases e3b
    obtain ⟨zs, rfl, dzs⟩ : ∃ zs, ys2 = .str h :: zs ∧ DpAll K H9 zs args := by
      cases dys with
      | cons y1 y2 =>
        cases y1
        exact ⟨_, rfl, y2⟩
    have a0 : atI (V.str h :: zs) 0 = some (.str h) := atI_nat (j := 0) rfl
    refine ⟨_, rfl, _, rfl, fun p2 HA sA hp2 eA => ?_⟩
    have eA : HA p2 = some (.dK (kvL (tblS (srtS qb)))) := eA
    have hbA := seqT_up sA hb9
    have dg := DGet.k (k := (Sum.inr h : Key)) eA
    rw [srt_tbl] at mq
    rw [val_tbl _ mq] at dg
    refine ⟨_, rfl, b, _, 0, _, rfl, rfl, hbA, a0, p2, _, rfl, dg, _, rfl, 1, rfl, b, _, rfl, hbA, (fun e => ?_), fun _ cc hcc => ?_⟩
    · have e := e.1
      rw [show (1 : Int) = ((1 : Nat) : Int) from rfl, HT.sIx_nat, List.length_cons] at e
      omega
    rw [cutV_drop _ (by decide) (by simp only [List.length_cons]; omega)]
    have ez : List.drop (Int.toNat 1) (V.str h :: zs) = zs := rfl
    rw [ez]
    have sB : Same HA (upd HA cc (.tup zs)) := same_new hcc _
    have hcB : SqT K (upd HA cc (.tup zs)) cc zs := .inl (.inl upd_same)
    have s9B : Same H9 (upd HA cc (.tup zs)) := sA.trans sB
    generalize upd HA cc (.tup zs) = HB at sB hcB s9B
    have huB := s9B _ _ hu9
    have hxB := s9B _ _ hx9
    have dzB := Dp.ups s9B _ _ dzs
    have daB := Dp.ups s9B _ _ da9
    have duB := Dp.ups s9B _ _ du9
    have nLc : cc ≠ LF := fun z => by
      rw [z, sA _ _ hx9] at hcc
      cases hcc
    have lzs := DpAll.len dzs
    have lar := okq.len
    have nar : nls args = true := by simpa only [nl, nls, Bool.true_and] using sqq.nl
    have gar : gds args = true := by
      have z := sqq.gd
      simp only [gd, gds, Bool.and_eq_true] at z
      exact z.2
    have nqd : nod (.tuple (.str h :: args)) = nods args + 2 := by
      simp only [nod, nods]
      omega
    have nN := sqq.nd
    have dN := sqq.dp
    have sks := kidsP_sub (N := N) (D := D) hf' okq gar nar (by omega) (by simp only [PyData.depth, PyData.depthAll] at dN; omega)
    have kss := kidsP_sum sl.cps.toList args
    have ksl := sum_len (f := fun p : Bool × PyData => nod p.2) (fun p => nod_pos p.2) (kidsP sl.cps.toList args)
    have ntB : NT [LF] HB := .cons (nt_lst hxB) .nil
    refine ⟨sl, cc, zs, rfl, hcB, ?_⟩
    refine for_it (walk_ST (z := sl) (b := cc) (ys := zs) (by unfold signs; rw [List.length_map, lar, lzs])) (fun i σ HA => ∃ o5 o6 xs', σ = [some v, some (.ref FA), some (.ref LF), some (.ref b), some (.str (srtS qb)), o5, o6, none] ∧ HA LF = some (.lst xs') ∧ DpAll K HA xs' ((qs2 ++ kidsP (sl.cps.toList.take i) (args.take i)).map pairS) ∧ Off [LF] HB HA)
      ⟨_, _, xs2, rfl, hxB, by simpa [kidsP] using daB, Off.refl _ _⟩ ?_ ?_ ?_
    · rintro i σ HC hi ⟨o5, o6, xs', rfl, h1, h2, h3⟩
      exact seqT_off (by simpa using nLc) hcB h3
    · rintro i y σ HC HC' hi ⟨o5, o6, xs', rfl, h1, h2, h3⟩ ⟨T, x0, y0, rfl, hT, rfl, hx0, hy0⟩
      have hx0 : (signs sl)[i]? = some x0 := hx0
      have hy0 : zs[i]? = some y0 := hy0
      unfold signs at hx0
      rw [List.getElem?_map] at hx0
      obtain ⟨c, hc, rfl⟩ := Option.map_eq_some_iff.mp hx0
      have s1 : Same HC (upd HC T (.tup [.str ⟨#[c]⟩, y0])) := same_new hT _
      have hT1 : (upd HC T (.tup [.str ⟨#[c]⟩, y0])) T = some (.tup [.str ⟨#[c]⟩, y0]) := upd_same
      have h1b := s1 _ _ h1
      have h2b := Dp.ups s1 _ _ h2
      have h3b : Off [LF] HB (upd HC T (.tup [.str ⟨#[c]⟩, y0])) := h3.trans (Off.of s1)
      generalize upd HC T (.tup [.str ⟨#[c]⟩, y0]) = HD at s1 hT1 h1b h2b h3b
      obtain ⟨d0, ed0, dxd⟩ := DpAll.get dzB hy0
      have tk := kidsP_take lar hc ed0
      have nd0 : nl d0 = true := nls_mem nar (List.mem_of_getElem? ed0)
      have sd0 := okq.at hc ed0
      have dB : Dp K HD y0 d0 := Dp.off dxd ntB nd0 h3b
      obtain ⟨rr, er⟩ := kidsP_pre (i + 1) lar
      have ler : (kidsP (sl.cps.toList.take (i + 1)) (args.take (i + 1))).length ≤ (kidsP sl.cps.toList args).length := by
        rw [er, List.length_append]
        omega
      rw [tk, List.length_append, List.length_map] at ler
      have lxs' := DpAll.len h2
      rw [List.length_map, List.length_append] at lxs'
      have ntD : NT [LF] HD := .cons (nt_lst h1b) .nil
      have subP : ∀ p ∈ kidsP (sl.cps.toList.take i) (args.take i), Sub N D p.1 p.2 := fun p hp => by
        obtain ⟨r2, er2⟩ := kidsP_pre i lar
        exact sks p (by rw [er2]; exact List.mem_append_left _ hp)
      have nlb : nls ((qs2 ++ kidsP (sl.cps.toList.take i) (args.take i)).map pairS) = true := (pairs_gd fun p hp => (List.mem_append.mp hp).elim (sq2 p) (subP p)).2.1
      -- some more trees
      have fin : ∀ (D3 : Addr) (us3 : List V) (HE : Hp), Same HD HE → HE D3 = some (.lst us3) → DpAll K HE us3 (((innD c d0).map fun e => (decide (c = 116), e)).map pairS) → (xs'.length + us3.length ≤ sizeLine) ∧ ∃ o5' o6' xs'', [some v, some (V.ref FA), some (V.ref LF), some (V.ref b), some (V.str (srtS qb)), some (V.str ⟨#[c]⟩), some y0, none] = [some v, some (V.ref FA), some (V.ref LF), some (V.ref b), some (V.str (srtS qb)), o5', o6', none] ∧ (upd HE LF (.lst (xs' ++ us3))) LF = some (.lst xs'') ∧ DpAll K (upd HE LF (.lst (xs' ++ us3))) xs'' ((qs2 ++ kidsP (sl.cps.toList.take (i + 1)) (args.take (i + 1))).map pairS) ∧ Off [LF] HB (upd HE LF (.lst (xs' ++ us3))) := by
        intro D3 us3 HE sE hD3 d3
        have l3 := DpAll.len d3
        rw [List.length_map, List.length_map] at l3
        have o : Off [LF] HE (upd HE LF (.lst (xs' ++ us3))) := Off.put (by simp)
        have ntE : NT [LF] HE := .cons (nt_lst (sE _ _ h1b)) .nil
        refine ⟨few2 (by omega), _, _, xs' ++ us3, rfl, upd_same, ?_, h3b.trans ((Off.of sE).trans o)⟩
        rw [tk, ← List.append_assoc, List.map_append]
        refine DpAll.app (DpAll.off (Dp.ups sE _ _ h2b) ntE nlb o) (DpAll.off d3 ntE ?_ o)
        refine (pairs_gd (N := N) (D := D) fun p hp => ?_).2.1
        refine sks p ?_
        rw [er, tk]
        exact List.mem_append_left _ (List.mem_append_right _ hp)
      refine ⟨T, _, rfl, .inl (.inl hT1), rfl, _, _, rfl, _, _, rfl, rfl, ?_⟩
      refine ⟨_, rfl, .inl ⟨rfl, _, SqL.of h1b⟩, _, rfl, few (by simp), fun T1 hT1b => ⟨T1, _, rfl, .inr (.inl (.inl upd_same)), rfl, rfl, _, rfl, ?_⟩⟩
      have s2b : Same HD (upd HD T1 (.tup [.str "e", .str "t"])) := same_new hT1b _
      generalize upd HD T1 (.tup [.str "e", .str "t"]) = HE at s2b
      have dE := Dp.up s2b _ _ dB
      refine ite2 (fun cc1 => ⟨_, rfl, _, rfl, few (by simp), fun T2 hT2 => ⟨few (by simp), fun D3 hD3 => ?_⟩⟩) (fun cc1 => ⟨_, rfl, rfl, _, rfl, ite2 (fun c2 => ?_) (fun c2 => ⟨by decide, fun D3 hD3 => ?_⟩)⟩)
      · have c3 : c = 101 ∨ c = 116 := (inV_et c).mp cc1
        have s4 : Same HE (upd HE T2 (.tup [y0, .str ⟨#[c]⟩])) := same_new hT2 _
        have e4 : (upd HE T2 (.tup [y0, .str ⟨#[c]⟩])) T2 = some (.tup [y0, .str ⟨#[c]⟩]) := upd_same
        generalize upd HE T2 (.tup [y0, .str ⟨#[c]⟩]) = HF at s4 e4 hD3
        have s5 : Same HF (upd HF D3 (.lst [.ref T2])) := same_new hD3 _
        have e5 : (upd HF D3 (.lst [.ref T2])) D3 = some (.lst [.ref T2]) := upd_same
        have es : (⟨#[c]⟩ : Str) = (if decide (c = 116) = true then ("t" : Str) else "e") := by
          rcases c3 with z | z
          · rw [z]; decide +kernel
          · rw [z]; decide +kernel
        have d5 : DpAll K (upd HF D3 (.lst [.ref T2])) [.ref T2] (((innD c d0).map fun e => (decide (c = 116), e)).map pairS) := by
          unfold innD
          rw [if_pos c3]
          refine .cons ?_ .nil
          refine .tup (.inl (.inl (s5 _ _ e4))) (.cons (Dp.up (s4.trans s5) _ _ dE) (.cons ?_ .nil))
          rw [es]
          exact .str _
        obtain ⟨f1, f2⟩ := fin D3 [.ref T2] _ (s2b.trans (s4.trans s5)) e5 d5
        exact ⟨LF, D3, xs', _, rfl, rfl, s5 _ _ (s4 _ _ (s2b _ _ h1b)), e5, f1, f2⟩
      · have c3 : c = 115 := (sg_s c).mp (of_decide_eq_true c2)
        have sd2 := sd0
        unfold SlotD at sd2
        rw [if_pos c3] at sd2
        obtain ⟨es, ed, _⟩ := sd2
        obtain ⟨a2, ys3, es2, ey, ed2, ha2, dys2⟩ := tup_of dE (by rw [ed]; rfl)
        rw [ed2] at ed
        cases ed
        have einn : innD c d0 = es := by
          unfold innD
          rw [if_neg (by omega), if_pos c3, ed2]
          rfl
        have e116 : decide (c = 116) = false := decide_eq_false (by omega)
        rw [einn, e116] at fin
        rw [einn] at ler
        have lys3 := DpAll.len dys2
        have nles : nls es = true := by
          rw [ed2] at nd0
          simpa only [nl] using nd0
        refine ⟨_, rfl, a2, by rw [ey], ⟨_, ha2⟩, fun D3 hD3 => ?_⟩
        refine lc_it (walk_tup (K := K) (a := a2) (xs := ys3)) (fun j HF => ∃ vs, HF D3 = some (.lst vs) ∧ DpAll K HF vs (((es.take j).map fun e => (false, e)).map pairS) ∧ Same HE (cut [D3] HF)) ⟨[], upd_same, .nil, ?_⟩ ?_ ?_ ?_
        · intro b u z
          rw [cut_out (by simp only [List.mem_singleton]; exact ne_of_none z hD3), upd_ne (ne_of_none z hD3)]
          exact z
        · rintro j HF hj ⟨vs, g1, g2, g3⟩
          exact seqT_up (g3.trans (cut_same _ _)) ha2
        · rintro j y HF HF' hj ⟨vs, g1, g2, g3⟩ ⟨rfl, hyy⟩
          obtain ⟨dk, hk, dyk⟩ := DpAll.get dys2 hyy
          have gS : Same HE HF' := Same.trans g3 (cut_same _ _)
          refine ⟨rfl, _, rfl, few (by simp), fun T7 hT7 => ?_⟩
          have r9 : Same HF' (upd HF' T7 (.tup [y, .str "e"])) := same_new hT7 _
          have g1F := r9 _ _ g1
          have dz : Dp K (upd HF' T7 (.tup [y, .str "e"])) (.ref T7) (pairS (false, dk)) := .tup (.inl (.inl upd_same)) (.cons (Dp.up (gS.trans r9) _ _ dyk) (.cons (.str _) .nil))
          have gF : Same HE (cut [D3] (upd HF' T7 (.tup [y, .str "e"]))) := g3.trans (Off.of r9)
          have g2F := Dp.ups r9 _ _ g2
          generalize upd HF' T7 (.tup [y, .str "e"]) = HG at g1F dz gF g2F
          have ntG : NT [D3] HG := .cons (nt_lst g1F) .nil
          have pG : Off [D3] HG (upd HG D3 (.lst (vs ++ [.ref T7]))) := Off.put (by simp)
          have lv := DpAll.len g2
          rw [List.length_map, List.length_map, List.length_take] at lv
          have ndk : nl dk = true := nls_mem nles (List.mem_of_getElem? hk)
          have tkj : es.take (j + 1) = es.take j ++ [dk] := get_take hk
          have nlp : nls (((es.take j).map fun e => (false, e)).map pairS) = true := by
            have key : ∀ l : List PyData, nls l = true → nls ((l.map fun e => (false, e)).map pairS) = true := fun l => by
              induction l with
              | nil => intro _; rfl
              | cons x l ih =>
                intro z
                simp only [nls, Bool.and_eq_true] at z
                simp only [List.map_cons, nls, pairS, nl, z.1, ih z.2, Bool.and_self]
            exact key _ (nls_take j nles)
          refine ⟨vs, g1F, Nat.lt_of_le_of_lt (by omega : vs.length ≤ 100000) (by decide), vs ++ [.ref T7], upd_same, ?_, gF.trans pG⟩
          rw [tkj, List.map_append, List.map_append]
          exact DpAll.app (DpAll.off g2F ntG nlp pG) (.cons (Dp.off dz ntG (by simp only [pairS, nl, nls, ndk, Bool.and_self]) pG) .nil)
        · rintro HF ⟨vs, g1, g2, g3⟩
          rw [List.take_of_length_le (by omega)] at g2
          have gS : Same HE HF := Same.trans g3 (cut_same _ _)
          obtain ⟨f1, f2⟩ := fin D3 vs HF (s2b.trans gS) g1 g2
          exact ⟨LF, D3, xs', _, rfl, rfl, gS _ _ (s2b _ _ h1b), g1, f1, f2⟩
      · have c3 : ¬ c = 115 := fun z => c2 (decide_eq_true ((sg_s c).mpr z))
        have c4 : ¬ (c = 101 ∨ c = 116) := fun z => cc1 ((inV_et c).mpr z)
        have s5 : Same HE (upd HE D3 (.lst [])) := same_new hD3 _
        have e5 : (upd HE D3 (.lst [])) D3 = some (.lst []) := upd_same
        have d5 : DpAll K (upd HE D3 (.lst [])) [] (((innD c d0).map fun e => (decide (c = 116), e)).map pairS) := by
          unfold innD
          rw [if_neg c4, if_neg c3]
          exact .nil
        obtain ⟨f1, f2⟩ := fin D3 [] _ (s2b.trans s5) e5 d5
        exact ⟨LF, D3, xs', _, rfl, rfl, s5 _ _ (s2b _ _ h1b), e5, f1, f2⟩
    · rintro σ HC ⟨o5, o6, xs', rfl, h1, h2, h3⟩
      have e1 : (sl.cps.toList.take zs.length) = sl.cps.toList := List.take_of_length_le (by omega)
      have e2 : (args.take zs.length) = args := List.take_of_length_le (by omega)
      rw [e1, e2] at h2
      have nlf3 := subs_nl (N := N) (D := D) (s := false) (ds := fs ++ fd2) (fun e he => (List.mem_append.mp he).elim (sf e) (sfd e))
      refine ⟨_, ?_, us ++ ad, xs', fs ++ fd2, qs2 ++ kidsP sl.cps.toList args, _, _, _, _, rfl, h3.get huB (by simpa using nFL), h1, DpAll.off duB ntB nlf3 h3, h2, (fun e he => (List.mem_append.mp he).elim (sf e) (sfd e)), (fun p hp => (List.mem_append.mp hp).elim (sq2 p) (sks p)), rfl, ?_, ?_⟩
      · rw [List.map_append, List.sum_append]
        omega
      · rw [List.map_append, List.sum_append, List.length_append]
        omega
      · intro b2 u z
        exact h3.get (s9B _ _ (o59.get (sm3 _ _ z) (by simp only [List.mem_cons, List.not_mem_nil, or_false, not_or]; exact ⟨ne_of_none z hFA, ne_of_none z hLF0⟩))) (by simpa using ne_of_none z hLF0)
end
def spRight (K : PySem.W.Frag) : Sp := fun vs H Q _ => ∃ v d, vs = [v] ∧ Dp K H v d ∧ Sub 3300 50 false d ∧ ∀ H', Same H H' → Q (.bl true) H'
section
variable {P : Program} {w : World} {K : PySem.W.Frag} {mg : Str → Option Value} {base : Heap} {f fW fS fR : Addr} {fd dW dS dR : FuncData}
theorem ok_right {k : Nat} (F : Fun K "_law_right" "_law_right" sRight f fd) (mrp : mg "repr" = none) (GW : Dn P w K mg base 42 "_law_words" ["_law_tree_here"] (spWords K 41) fW dW)
    (GS : Dn P w K mg base 4 "show_expression" ["tree"] (spShow K) fS dS) (GR : Dn P w K mg base 5 "read_expression" ["text"] (spRx K) fR dR) :
    FnG P w K mg base CX0 (k + 43) f fd ["_law_tree_here"] (spRight K) := by
  refine okG F scRight (fun vs H Q E h => ?_) (fun cdv A outer s H vs Q E hgd hr h => ?_)
  · obtain ⟨v, d, rfl, _⟩ := h
    rfl
  obtain ⟨v, d, rfl, hd, sd, q⟩ := h
  have hr4 : Room 4 _ := hr.mono (by omega)
  have hr5 : Room 5 _ := hr.mono (by omega)
  have hr42 : Room 42 _ := hr.mono (by omega)
  refine ⟨_, pss_cons (ps_set (i := 1) scRight.nd rfl (.inl rfl) (pe_join pe_str (pe_call GW.ok hr42 (by rfl) GW.mg GW.kp GW.bd .nil pass0 (pa_cons (pv 0) pa_nil))))
    (pss_one (ps_ret (pe_and (pe_cmpR op_eq (pe_call GS.ok hr4 (by rfl) GS.mg GS.kp GS.bd .nil pass0 (pa_cons (pv 0) pa_nil)) (pv 1) (nomark _))
      (pe_one (pe_cmpR op_eq (pe_callB (call_rep hgd hr.units) (by rfl) mrp b_rep (pa_cons (pe_call GR.ok hr5 (by rfl) GR.mg GR.kp GR.bd .nil pass0 (pa_cons (pv 1) pa_nil)) pa_nil))
        (pe_callB (call_rep hgd hr.units) (by rfl) mrp b_rep (pa_cons (pv 0) pa_nil)) (nomark _)))))), ?_⟩
  obtain ⟨f0, hf, wx⟩ := sd.wx
  have hn := sd.nd
  have hp := sd.dp
  have wn := words_nod wx
  have prn : Prn d := prn_of sd.gd (by omega) (by omega)
  obtain ⟨nws, cl⟩ := StepsP.cln (reads f0 [] false d wx rfl (by simpa using hf))
  have z := join_len (m := 20) fun y hy => (cl y hy).2
  have e0 : ((" " : Str)).length = 1 := by decide +kernel
  refine ⟨⟨_, rfl⟩, _, rfl, v, d, f0, false, rfl, hd, sd.nl, wx, by omega, by omega, fun L H1 s1 hL h1 => ⟨" ", L, _, rfl, rfl, .inl (SqL.of h1), ?_, ?_⟩⟩
  · rw [e0]
    have : (20 : Nat) * 7900 ≤ 200000 := by decide
    have : (200000 : Nat) ≤ sizeLine := by decide
    omega
  have jl := StrLaws.join_length_le " " (wordsD f0 d)
  have b1 : (20 : Nat) * 7900 ≤ 200000 := by decide
  have b2 : (300000 : Nat) ≤ sizeLine := by decide
  rw [e0, ← StrLaws.glued_eq_join " " (wordsD f0 d)] at jl
  have jl2 : (Txt.join " " (wordsD f0 d)).length ≤ 1 * (wordsD f0 d).length + (wordsD f0 d).length * 20 := by
    refine Nat.le_trans jl ?_
    omega
  refine ⟨_, rfl, v, d, f0, rfl, Dp.up s1 _ _ hd, sd.nl, wx, hf, by omega, by omega, fun H2 s2 => ⟨_, rfl, ?_⟩⟩
  refine ⟨rfl, _, rfl, iteT' (decide_eq_true rfl) ?_⟩
  refine ⟨_, rfl, _, d, f0, rfl, rfl, by omega, wx, hf, by omega, fun v3 H3 s3 d3 => ⟨v3, d, rfl, d3, prn, _, rfl, v, d, rfl, Dp.up (s1.trans (s2.trans s3)) _ _ hd, prn, ?_⟩⟩
  refine ⟨rfl, ?_⟩
  rw [decide_eq_true rfl]
  exact q H3 (s1.trans (s2.trans s3))
end
/-! the law -/
abbrev sLaw : Stmt := topS 37
theorem scLaw : FnScope ["_law_script", "_law_box_here", "_law_turn", "_law_trees", "_law_some", "_law_far", "_law_more", "_law_tree_here", "_law_k", "_law_inner"] ["_law_script"] (defScope sLaw) := ⟨rfl, rfl, rfl, by decide +kernel, rfl, by decide +kernel, by decide +kernel⟩
def spLaw (K : PySem.W.Frag) : Sp := fun vs H Q _ => ∃ (a : Addr) (ns : List Int), vs = [.ref a] ∧ SqL K H a (ns.map V.int) ∧ ns.length ≤ 63 ∧ ∀ H', Q (.bl true) H'
theorem ix_listK {X : Cx} {K : PySem.W.Frag} (h : X.K = K) : IxR X (rIxL K) := by
  subst h
  exact ix_list
abbrev SubL (d : PyData) : Prop := Sub 3300 50 false d
def someD : List PyData := [.tuple [.str "int", .int 0], .tuple [.str "int", .int (10 ^ 18 - 1)], .tuple [.str "int", .int (1 - 10 ^ 18)], .tuple [.str "tuple", .tuple []], .tuple [.str "call", .str "call", .tuple []]]
theorem some_sub : ∀ d ∈ someD, SubL d := by
  intro d hd
  have gi : ∀ i : Int, i.natAbs < 10 ^ 18 → gd (.tuple [.str "int", .int i]) = true := fun i h => by
    have z := gd_int (Nat.lt_of_lt_of_le h (Nat.le_trans (by decide : 10 ^ 18 ≤ 2 ^ 60) (Nat.pow_le_pow_right (by decide) (by decide))))
    have s : gd (.str "int") = true := by decide +kernel
    simp only [gd, gds] at z s ⊢
    rw [z, s]
    rfl
  have leaf : ∀ i : Int, i.natAbs < 10 ^ 18 → SubL (.tuple [.str "int", .int i]) := fun i h =>
    ⟨⟨0, by decide, rfl, .inl ⟨i, rfl, h⟩⟩, gi i h, by simp only [nl, nls, Bool.and_self], by simp only [nod, nods]; omega, by simp only [PyData.depth, PyData.depthAll]; omega⟩
  have m1 : (("tuple", "s") : Str × Str) ∈ tbS false := by decide +kernel
  have m2 : (("call", "ns") : Str × Str) ∈ tbS false := by decide +kernel
  have c1 : ("s" : Str).cps.toList = [115] := by decide +kernel
  have c2 : ("ns" : Str).cps.toList = [110, 115] := by decide +kernel
  simp only [someD, List.mem_cons, List.not_mem_nil, or_false] at hd
  rcases hd with rfl | rfl | rfl | rfl | rfl
  · exact leaf 0 (by decide)
  · exact leaf (10 ^ 18 - 1) (by decide)
  · exact leaf (1 - 10 ^ 18) (by decide)
  · refine ⟨⟨1, by decide, .inr ⟨"tuple", "s", [.tuple []], rfl, m1, by decide +kernel, ?_⟩⟩, ?_, by simp only [nl, nls, Bool.and_self], by simp only [nod, nods]; omega, by simp only [PyData.depth, PyData.depthAll]; omega⟩
    · rw [c1]
      exact ⟨⟨[], rfl, fun _ z => nomatch z⟩, trivial⟩
    · decide +kernel
  · refine ⟨⟨1, by decide, .inr ⟨"call", "ns", [.str "call", .tuple []], rfl, m2, by decide +kernel, ?_⟩⟩, ?_, by simp only [nl, nls, Bool.and_self], by simp only [nod, nods]; omega, by simp only [PyData.depth, PyData.depthAll]; omega⟩
    · rw [c2]
      exact ⟨.inr (.inr (.inl ⟨rfl, "call", rfl, by decide +kernel⟩)), ⟨[], rfl, fun _ z => nomatch z⟩, trivial⟩
    · decide +kernel
/-- a tree of j brackets, one within another -/
structure Far (j : Nat) (d : PyData) : Prop where
  wx : Wx j false d
  gd : gd d = true
  nl : nl d = true
  nd : nod d ≤ 3 + 3 * j
  dp : d.depth ≤ 1 + j
theorem far0 : Far 0 (.tuple [.str "atom", .str "a"]) :=
  ⟨⟨rfl, .inr ⟨"a", .inr rfl, by decide +kernel⟩⟩, by decide +kernel, by simp only [nl, nls, Bool.and_self], by simp only [nod, nods]; omega, by simp only [PyData.depth, PyData.depthAll]; omega⟩
theorem far1 {j : Nat} {d : PyData} (h : Far j d) : Far (j + 1) (.tuple [.str "reach", d]) := by
  have m1 : (("reach", "e") : Str × Str) ∈ tbS false := by decide +kernel
  have c1 : ("e" : Str).cps.toList = [101] := by decide +kernel
  have s : gd (.str "reach") = true := by decide +kernel
  have hn := h.nd
  have hp := h.dp
  refine ⟨.inr ⟨"reach", "e", [d], rfl, m1, by decide +kernel, ?_⟩, ?_, by simp only [nl, nls, h.nl, Bool.and_self], by simp only [nod, nods]; omega, by simp only [PyData.depth, PyData.depthAll]; omega⟩
  · rw [c1]
    exact ⟨h.wx, trivial⟩
  · simp only [gd, gds, h.gd] at s ⊢
    rw [s]
    rfl
theorem far2 {j : Nat} {d : PyData} {i : Int} (h : Far j d) (h0 : 0 ≤ i) (h1 : i < 1000) : Far (j + 1) (.tuple [.str "part", d, .int i]) := by
  have m1 : (("part", "ei") : Str × Str) ∈ tbS false := by decide +kernel
  have c1 : ("ei" : Str).cps.toList = [101, 105] := by decide +kernel
  have s : gd (.str "part") = true := by decide +kernel
  have gi : gd (.int i) = true := gd_int (Nat.lt_of_lt_of_le (by omega : i.natAbs < 2 ^ 10) (Nat.pow_le_pow_right (by decide) (by decide)))
  have hn := h.nd
  have hp := h.dp
  refine ⟨.inr ⟨"part", "ei", [d, .int i], rfl, m1, by decide +kernel, ?_⟩, ?_, by simp only [nl, nls, h.nl, Bool.and_self], by simp only [nod, nods]; omega, by simp only [PyData.depth, PyData.depthAll]; omega⟩
  · rw [c1]
    exact ⟨h.wx, .inr (.inl ⟨rfl, i, rfl, h0, Nat.lt_of_lt_of_le (by omega : i.natAbs < 1000) (by decide)⟩), trivial⟩
  · simp only [gd, gds, h.gd] at s gi ⊢
    rw [s, gi]
    rfl
theorem Far.sub {j : Nat} {d : PyData} (h : Far j d) (hj : j ≤ 40) : SubL d := by
  have hn := h.nd
  have hp := h.dp
  exact ⟨⟨j, hj, h.wx⟩, h.gd, h.nl, by omega, by omega⟩
theorem cut30 (us : List V) : (cutV us none (some 30)).length ≤ 30 := by
  unfold cutV
  rw [HT.sIx_none, show (30 : Int) = ((30 : Nat) : Int) from rfl, HT.sIx_nat, List.length_take]
  omega
theorem all_true : ∀ n : Nat, (List.replicate n true).all id = true := fun n => by
  induction n with
  | zero => rfl
  | succ n ih => simp [List.replicate_succ, ih]
theorem some_at {K : PySem.W.Frag} {H : Hp} {T1 T2 T3 T4 T5 T6 T7 S A : Addr} {o1 o2 o3 o4 o5 o6 o7 oS oA : HO} (e1 : o1 = .tup [.str "int", .int 0]) (e2 : o2 = .tup [.str "int", .int (10 ^ 18 - 1)]) (e3 : o3 = .tup [.str "int", .int (1 - 10 ^ 18)]) (e4 : o4 = .tup [])
    (e5 : o5 = .tup [.str "tuple", .ref T4]) (e6 : o6 = .tup []) (e7 : o7 = .tup [.str "call", .str "call", .ref T6]) (eS : oS = .lst [.ref T1, .ref T2, .ref T3, .ref T5, .ref T7]) (eA : oA = .tup [.str "atom", .str "a"])
    (h1 : H T1 = none) (h2 : (upd H T1 o1) T2 = none) (h3 : (upd (upd H T1 o1) T2 o2) T3 = none) (h4 : (upd (upd (upd H T1 o1) T2 o2) T3 o3) T4 = none) (h5 : (upd (upd (upd (upd H T1 o1) T2 o2) T3 o3) T4 o4) T5 = none)
    (h6 : (upd (upd (upd (upd (upd H T1 o1) T2 o2) T3 o3) T4 o4) T5 o5) T6 = none) (h7 : (upd (upd (upd (upd (upd (upd H T1 o1) T2 o2) T3 o3) T4 o4) T5 o5) T6 o6) T7 = none)
    (hS : (upd (upd (upd (upd (upd (upd (upd H T1 o1) T2 o2) T3 o3) T4 o4) T5 o5) T6 o6) T7 o7) S = none) (hA : (upd (upd (upd (upd (upd (upd (upd (upd H T1 o1) T2 o2) T3 o3) T4 o4) T5 o5) T6 o6) T7 o7) S oS) A = none) :
    Same H (upd (upd (upd (upd (upd (upd (upd (upd (upd H T1 o1) T2 o2) T3 o3) T4 o4) T5 o5) T6 o6) T7 o7) S oS) A oA) ∧ Dp K (upd (upd (upd (upd (upd (upd (upd (upd (upd H T1 o1) T2 o2) T3 o3) T4 o4) T5 o5) T6 o6) T7 o7) S oS) A oA) (.ref A) (.tuple [.str "atom", .str "a"]) ∧ H S = none ∧
      ∃ vS : List V, vS.length = 5 ∧ (upd (upd (upd (upd (upd (upd (upd (upd (upd H T1 o1) T2 o2) T3 o3) T4 o4) T5 o5) T6 o6) T7 o7) S oS) A oA) S = some (.lst vS) ∧ DpAll K (upd (upd (upd (upd (upd (upd (upd (upd (upd H T1 o1) T2 o2) T3 o3) T4 o4) T5 o5) T6 o6) T7 o7) S oS) A oA) vS someD := by
  have q1 : Same H _ := same_new (o := o1) h1
  have k1 : (upd H T1 o1) T1 = some o1 := upd_same
  generalize upd H T1 o1 = G1 at *
  have q2 : Same G1 _ := same_new (o := o2) h2
  have k2 : (upd G1 T2 o2) T2 = some o2 := upd_same
  generalize upd G1 T2 o2 = G2 at *
  have q3 : Same G2 _ := same_new (o := o3) h3
  have k3 : (upd G2 T3 o3) T3 = some o3 := upd_same
  generalize upd G2 T3 o3 = G3 at *
  have q4 : Same G3 _ := same_new (o := o4) h4
  have k4 : (upd G3 T4 o4) T4 = some o4 := upd_same
  generalize upd G3 T4 o4 = G4 at *
  have q5 : Same G4 _ := same_new (o := o5) h5
  have k5 : (upd G4 T5 o5) T5 = some o5 := upd_same
  generalize upd G4 T5 o5 = G5 at *
  have q6 : Same G5 _ := same_new (o := o6) h6
  have k6 : (upd G5 T6 o6) T6 = some o6 := upd_same
  generalize upd G5 T6 o6 = G6 at *
  have q7 : Same G6 _ := same_new (o := o7) h7
  have k7 : (upd G6 T7 o7) T7 = some o7 := upd_same
  generalize upd G6 T7 o7 = G7 at *
  have q8 : Same G7 _ := same_new (o := oS) hS
  have k8 : (upd G7 S oS) S = some oS := upd_same
  generalize upd G7 S oS = G8 at *
  have q9 : Same G8 _ := same_new (o := oA) hA
  have k9 : (upd G8 A oA) A = some oA := upd_same
  generalize upd G8 A oA = G9 at *
  subst e1 e2 e3 e4 e5 e6 e7 eS eA
  have r8 := q9
  have r7 := q8.trans r8
  have r6 := q7.trans r7
  have r5 := q6.trans r6
  have r4 := q5.trans r5
  have r3 := q4.trans r4
  have r2 := q3.trans r3
  have r1 := q2.trans r2
  refine ⟨q1.trans r1, .tup (.inl (.inl k9)) (.cons (.str _) (.cons (.str _) .nil)), ?_, _, ?_, r8 _ _ k8, ?_⟩
  · have b7 : Same H G7 := q1.trans (q2.trans (q3.trans (q4.trans (q5.trans (q6.trans q7)))))
    cases e : H S with
    | none => rfl
    | some u =>
      rw [b7 _ _ e] at hS
      cases hS
  · rfl
  · exact .cons (.tup (.inl (.inl (r1 _ _ k1))) (.cons (.str _) (.cons (.int _) .nil))) (.cons (.tup (.inl (.inl (r2 _ _ k2))) (.cons (.str _) (.cons (.int _) .nil))) (.cons (.tup (.inl (.inl (r3 _ _ k3))) (.cons (.str _) (.cons (.int _) .nil)))
      (.cons (.tup (.inl (.inl (r5 _ _ k5))) (.cons (.str _) (.cons (.tup (.inl (.inl (r4 _ _ k4))) .nil) .nil))) (.cons (.tup (.inl (.inl (r7 _ _ k7))) (.cons (.str _) (.cons (.str _) (.cons (.tup (.inl (.inl (r6 _ _ k6))) .nil) .nil)))) .nil))))
section
variable {P : Program} {w : World} {K : PySem.W.Frag} {mg : Str → Option Value} {base : Heap} {f fB fT fG fR fI : Addr} {fd dB dT dG dR dI : FuncData}
theorem ok_law {n : Nat} (F : Fun K "law" "law" sLaw f fd) (mr : mg "range" = none) (ma : mg "all" = none) (GB : Dn P w K mg base 1 "_law_box" ["_law_script", "_law_base"] (spBox K) fB dB) (T : Tk P w K mg base fT dT)
    (GT : Dn P w K mg base (n + 1) "_law_tree" ["_law_box_here", "_law_sort", "_law_deep", "_law_room"] (spTree K 13) fG dG) (GI : Dn P w K mg base (n + 1) "_law_inside" ["_law_tree_here"] (spInside K 3300 50) fI dI)
    (GR : FnG P w K mg base CX0 (n + 1) fR dR ["_law_tree_here"] (spRight K)) (kR : PySem.W.keepIn K (.ref fR) = true) (bR : Binds K dR ["_law_tree_here"] []) (mR : mg "_law_right" = some (.ref fR)) :
    FnG P w K mg base CX0 (n + 2) f fd ["_law_script"] (spLaw K) := by
  refine okG F scLaw (fun vs H Q E h => ?_) (fun cdv A outer s H vs Q E hgd hr h => ?_)
  · obtain ⟨a, ns, rfl, _⟩ := h
    rfl
  obtain ⟨a, ns, rfl, hS, hlen, q⟩ := h
  have hr1 : Room 1 _ := hr.mono (by omega)
  refine ⟨_, pss_cons (ps_set (i := 1) scLaw.nd rfl (.inr rfl) (pe_call GB.ok hr1 (by rfl) GB.mg GB.kp GB.bd .nil pass0 (pa_cons (pv 0) (pa_cons pe_int pa_nil))))
    (pss_cons (ps_for PassesOwn.never rfl (pi_range1 (by rfl) mr (pa_cons pe_int pa_nil)) (pg_name (i := 2) scLaw.nd rfl (.inl rfl))
      (pss_cons (ps_setLc (i := 3) (own := [("_law_k", 8)]) (g := gName 8) (by rfl) scLaw.nd rfl rfl (sw_true rfl rfl rfl (by decide +kernel)) (pi_range1 (by rfl) mr (pa_cons pe_int pa_nil))
        (blkOk_by (own := [("_law_k", 8)]) (N := ["_law_script", "_law_box_here", "_law_turn", "_law_trees", "_law_some", "_law_far", "_law_more", "_law_tree_here", "_law_k", "_law_inner"]) (sc := defScope sLaw) (by decide +kernel))
        (fun _ _ _ _ _ => pg_name (i := 8) scLaw.nd rfl (Or.inl rfl)) (fun _ _ _ _ _ => pts_nil)
        (fun _ _ _ _ _ => pe_call GT.ok hr (by rfl) GT.mg GT.kp GT.bd .nil pass0 (pa_cons (pv 1) (pa_cons pe_str (pa_cons (pe_ix (ix_listK (K := K) rfl) (pe_lst (pa_cons pe_int (pa_cons pe_int (pa_cons pe_int pa_nil)))) (pv 8) (fun _ _ => rfl)) (pa_cons (pe_lst (pa_cons pe_int pa_nil)) pa_nil))))))
      (pss_cons (ps_set (i := 4) scLaw.nd rfl (.inl rfl) (pe_lst (pa_cons (pe_tup (pa_cons pe_str (pa_cons pe_int pa_nil))) (pa_cons (pe_tup (pa_cons pe_str (pa_cons (pe_op op_sub (pe_op op_pow pe_int pe_int) pe_int) pa_nil))) (pa_cons (pe_tup (pa_cons pe_str (pa_cons (pe_op op_sub pe_int (pe_op op_pow pe_int pe_int)) pa_nil)))
        (pa_cons (pe_tup (pa_cons pe_str (pa_cons (pe_tup pa_nil) pa_nil))) (pa_cons (pe_tup (pa_cons pe_str (pa_cons pe_str (pa_cons (pe_tup pa_nil) pa_nil)))) pa_nil)))))))
      (pss_cons (ps_set (i := 5) scLaw.nd rfl (.inl rfl) (pe_tup (pa_cons pe_str (pa_cons pe_str pa_nil))))
      (pss_cons (ps_for PassesOwn.never rfl (pi_range1 (by rfl) mr (pa_cons (pe_op op_add pe_int (pe_call T.ok hr1 (by rfl) T.mg T.kp T.bd .nil pass0 (pa_cons (pv 1) (pa_cons pe_int pa_nil)))) pa_nil)) (pg_name (i := 6) scLaw.nd rfl (.inl rfl))
        (pss_one (ps_set (i := 5) scLaw.nd rfl (.inl rfl) (pe_ix ix_list (pe_lst (pa_cons (pe_tup (pa_cons pe_str (pa_cons (pv 5) pa_nil))) (pa_cons (pe_tup (pa_cons pe_str (pa_cons (pv 5) (pa_cons (pe_op op_add pe_int (pv 6)) pa_nil)))) pa_nil)))
          (pe_call T.ok hr1 (by rfl) T.mg T.kp T.bd .nil pass0 (pa_cons (pv 1) (pa_cons pe_int pa_nil))) (fun _ _ => rfl)))))
      (pss_one (ps_for PassesOwn.never rfl (pi_list (pe_op op_cat (pe_op op_cat (pe_op op_cat (pv 3) (pv 4)) (pe_lst (pa_cons (pv 5) pa_nil))) (pe_slice sl_list (pv 3) po_none (po_some pe_int)))) (pg_name (i := 7) scLaw.nd rfl (.inl rfl))
        (pss_one (ps_if (pt_not (pt_val (pe_callB (cr_all rfl) (by rfl) ma b_all (pa_cons (pe_lc (own := [("_law_inner", 9)]) (g := gName 9) (by rfl) scLaw.nd
          (pi_list (pe_slice sl_list (pe_call GI.ok hr (by rfl) GI.mg GI.kp GI.bd .nil pass0 (pa_cons (pv 7) pa_nil)) po_none (po_some pe_int)))
          (blkOk_by (own := [("_law_inner", 9)]) (N := ["_law_script", "_law_box_here", "_law_turn", "_law_trees", "_law_some", "_law_far", "_law_more", "_law_tree_here", "_law_k", "_law_inner"]) (sc := defScope sLaw) (by decide +kernel))
          (fun _ _ _ _ _ => pg_name (i := 9) scLaw.nd rfl (Or.inl rfl)) (fun _ _ _ _ _ => pts_nil)
          (fun _ _ _ _ _ => pe_callG GR hgd hr (by rfl) mR kR bR .nil pass0 (pa_cons (pv 9) pa_nil))) pa_nil)))) (pss_one (ps_ret pe_bl)) pss_nil)))))))))
    (pss_one (ps_ret pe_bl))), ?_⟩
  refine ⟨_, rfl, a, ns, 0, rfl, hS, hlen, Int.le_refl _, by decide, fun p g H1 b1 s1 np ng => ?_⟩
  refine ⟨3, rfl, by decide, by decide, for_range (n := 3) (fun i σ H2 => ∃ o2 o3 o4 o5 o6 o7, σ = [some (.ref a), some (.ref p), o2, o3, o4, o5, o6, o7, none, none] ∧ Box H2 p g) ⟨none, none, none, none, none, none, rfl, b1⟩ ?_ ?_⟩
  · rintro i σ H2 hi ⟨o2, o3, o4, o5, o6, o7, rfl, b2⟩
    refine ⟨3, rfl, by decide, by decide, fun D hD => ?_⟩
    have nD := b2.notin hD
    refine lc_range (lo := 0) (n := 3) (fun j H3 => ∃ (vs : List V) (ds : List PyData), vs.length = j ∧ H3 D = some (.lst vs) ∧ DpAll K H3 vs ds ∧ (∀ d ∈ ds, SubL d) ∧ Box H3 p g)
      ⟨[], [], rfl, upd_same, .nil, (fun _ z => nomatch z), b2.put nD⟩ ?_ ?_
    · rintro j H3 hj ⟨vs, ds, lv, h1, h2, h3, b3⟩
      obtain ⟨x, hx, mx, _⟩ := atI_ok (xs := [V.int 3, V.int 12, V.int 6]) (r := 0 + (j : Nat)) (by omega) (by simp only [List.length_cons, List.length_nil]; omega)
      obtain ⟨e, rfl, e0, e8⟩ : ∃ e : Int, x = .int e ∧ 0 ≤ e ∧ e ≤ 12 := by
        simp only [List.mem_cons, List.not_mem_nil, or_false] at mx
        rcases mx with z | z | z
        · exact ⟨_, z, by decide, by decide⟩
        · exact ⟨_, z, by decide, by decide⟩
        · exact ⟨_, z, by decide, by decide⟩
      refine ⟨rfl, _, rfl, few (by simp), fun L1 hL1 => ⟨_, rfl, L1, _, _, .int e, rfl, rfl, SqL.of upd_same, hx, few (by simp), fun wd hwd => ?_⟩⟩
      have r1 : Same H3 (upd H3 L1 (.lst [.int 3, .int 12, .int 6])) := same_new hL1 _
      have r2 := r1.trans (same_new (o := .lst [.int 40]) hwd)
      have w2 : (upd (upd H3 L1 (.lst [.int 3, .int 12, .int 6])) wd (.lst [.int 40])) wd = some (.lst [.int 40]) := upd_same
      have nwd := (b3.same r1).notin hwd
      have nDw : D ≠ wd := ne_of_none (r1 _ _ h1) hwd
      generalize upd (upd H3 L1 (.lst [.int 3, .int 12, .int 6])) wd (.lst [.int 40]) = H5 at r2 w2
      have b5 := b3.same r2
      refine ⟨p, g, wd, e, 40, "e", rfl, b5, w2, nwd, .inl ⟨rfl, e0⟩, by omega, fun v d H6 w1 k1 k2 k3 k4 k5 k6 k7 k8 k9 k10 => ?_⟩
      have nD3 : D ∉ [p, g, wd] := by
        simp only [List.mem_cons, List.not_mem_nil, or_false, not_or] at nD ⊢
        exact ⟨nD.1, nD.2, nDw⟩
      have h6 := k3.get (r2 _ _ h1) nD3
      have nt5 : NT [p, g, wd] H5 := by
        have z := b5.nt
        exact .cons (z p (by simp)) (.cons (z g (by simp)) (.cons (nt_lst w2) .nil))
      have nt6 : NT [D] H6 := .cons (nt_lst h6) .nil
      have p6 : Off [D] H6 (upd H6 D (.lst (vs ++ [v]))) := Off.put (by simp)
      have l3 : limS "e" = 3 := by decide +kernel
      have ph : phi 40 = 40 := by decide
      have est : decide (("e" : Str) = "t") = false := by decide +kernel
      rw [est] at k5
      have gd6 : SubL d := ⟨⟨13, by decide, k5⟩, k6, k7, by omega, by omega⟩
      have ng := subs_nl h3
      refine ⟨vs, h6, few (by omega), vs ++ [v], ds ++ [d], by rw [List.length_append, lv]; rfl, upd_same, DpAll.app (DpAll.off (DpAll.off (Dp.ups r2 _ _ h2) nt5 ng k3) nt6 ng p6) (.cons (Dp.off k4 nt6 k7 p6) .nil), fun x hx => ?_, k1.put nD⟩
      rcases List.mem_append.mp hx with z | z
      · exact h3 x z
      · rw [List.mem_singleton.mp z]
        exact gd6
    · rintro H3 ⟨vs, ds, lv, h1, h2, h3, b3⟩
      refine ⟨few (by simp), fun T1 hT1 => ⟨10, 18, rfl, rfl, ⟨by decide, by decide, by decide⟩, _, _, rfl, rfl, few (by simp), fun T2 hT2 => ⟨10, 18, rfl, rfl, ⟨by decide, by decide, by decide⟩, _, _, rfl, rfl, few (by simp), fun T3 hT3 => ⟨few (by simp), fun T4 hT4 => ⟨few (by simp), fun T5 hT5 => ⟨few (by simp), fun T6 hT6 => ⟨few (by simp), fun T7 hT7 => ⟨few (by simp), fun S hSn => ⟨few (by simp), fun A0 hA0 => ?_⟩⟩⟩⟩⟩⟩⟩⟩⟩
      obtain ⟨z1, z4, zS, vS, lS, z2, z3⟩ := some_at (K := K) rfl rfl rfl rfl rfl rfl rfl rfl rfl hT1 hT2 hT3 hT4 hT5 hT6 hT7 hSn hA0
      have b4 := b3.same z1
      have h4 := z1 _ _ h1
      have d4 := Dp.ups z1 _ _ h2
      have nS := b3.notin zS
      have nl1 := subs_nl h3
      have nl2 := subs_nl some_sub
      have nt4 : NT [p, g] _ := b4.nt
      refine ⟨_, rfl, p, g, 27, rfl, b4, by decide, by decide, fun r H5 r0 r5 b5 o5 => ⟨14, r, rfl, rfl, 14 + r, rfl, by omega, by omega, for_range (n := (14 + r).toNat) (fun j σ HE => ∃ o6 v d, σ = [some (.ref a), some (.ref p), some (.int (0 + (i : Nat))), some (.ref D), some (.ref S), some v, o6, o7, none, none] ∧ Far j d ∧ Dp K HE v d ∧ Box HE p g ∧ HE D = some (.lst vs) ∧ HE S = some (.lst vS) ∧ DpAll K HE vs ds ∧ DpAll K HE vS someD) ⟨_, _, _, rfl, far0, Dp.off z4 nt4 far0.nl o5, b5, o5.get h4 nD, o5.get z2 nS, DpAll.off d4 nt4 nl1 o5, DpAll.off z3 nt4 nl2 o5⟩ ?_ ?_⟩⟩
      · rintro j σ HE hj ⟨o6, v, d, rfl, fd, dv, bE, gD, gS, dE, sE⟩
        refine ⟨_, rfl, few (by simp), fun X1 hX1 => ⟨_, rfl, _, rfl, 10, _, rfl, rfl, few (by simp), fun X2 hX2 => ⟨few (by simp), fun L hL => ?_⟩⟩⟩
        have q1 : Same HE (upd HE X1 (.tup [.str "reach", v])) := same_new hX1 _
        have k1 : (upd HE X1 (.tup [.str "reach", v])) X1 = some (.tup [.str "reach", v]) := upd_same
        have q2 := q1.trans (same_new (o := .tup [.str "part", v, .int (10 + (0 + (j : Nat)))]) hX2)
        have k2 : (upd (upd HE X1 (.tup [.str "reach", v])) X2 (.tup [.str "part", v, .int (10 + (0 + (j : Nat)))])) X2 = some (.tup [.str "part", v, .int (10 + (0 + (j : Nat)))]) := upd_same
        have k1b := same_new (o := .tup [.str "part", v, .int (10 + (0 + (j : Nat)))]) hX2 _ _ k1
        have q3 := same_new (o := .lst [.ref X1, .ref X2]) hL
        have kL : (upd (upd (upd HE X1 (.tup [.str "reach", v])) X2 (.tup [.str "part", v, .int (10 + (0 + (j : Nat)))])) L (.lst [.ref X1, .ref X2])) L = some (.lst [.ref X1, .ref X2]) := upd_same
        have qq := q2.trans q3
        have nL := (bE.same q2).notin hL
        have k1c := q3 _ _ k1b
        have k2c := q3 _ _ k2
        have bF := bE.same qq
        refine ⟨_, rfl, p, g, 2, rfl, bF, by decide, by decide, fun t H6 t0 t2 b6 o6' => ?_⟩
        have ntF : NT [p, g] _ := bF.nt
        have kD := o6'.get (qq _ _ gD) nD
        have kS := o6'.get (qq _ _ gS) nS
        have dE6 := DpAll.off (Dp.ups qq _ _ dE) ntF nl1 o6'
        have sE6 := DpAll.off (Dp.ups qq _ _ sE) ntF nl2 o6'
        have dv6 := Dp.up qq _ _ dv
        have f1 := far1 fd
        have f2 := far2 (i := 10 + (0 + (j : Nat))) fd (by omega) (by omega)
        have x1 : Dp K _ (.ref X1) (.tuple [.str "reach", d]) := .tup (.inl (.inl k1c)) (.cons (.str _) (.cons dv6 .nil))
        have x2 : Dp K _ (.ref X2) (.tuple [.str "part", d, .int (10 + (0 + (j : Nat)))]) := .tup (.inl (.inl k2c)) (.cons (.str _) (.cons dv6 (.cons (.int _) .nil)))
        have x1o := Dp.off x1 ntF f1.nl o6'
        have x2o := Dp.off x2 ntF f2.nl o6'
        have kLo := o6'.get kL nL
        rcases (show t = 0 ∨ t = 1 by omega) with rfl | rfl
        · exact ⟨L, _, 0, .ref X1, rfl, rfl, SqL.of kLo, rfl, _, _, _, rfl, f1, x1o, b6, kD, kS, dE6, sE6⟩
        · exact ⟨L, _, 1, .ref X2, rfl, rfl, SqL.of kLo, rfl, _, _, _, rfl, f2, x2o, b6, kD, kS, dE6, sE6⟩
      · rintro σ HE ⟨o6, v, d, rfl, fd, dv, bE, gD, gS, dE, sE⟩
        have fS := fd.sub (by omega)
        have lds := DpAll.len dE
        have lsd := DpAll.len sE
        refine ⟨_, rfl, _, rfl, D, S, _, _, rfl, rfl, gD, gS, few (by omega), fun D3 hD3 => ⟨_, rfl, few (by simp), fun D4 hD4 => ?_⟩⟩
        have q3 : Same HE (upd HE D3 (.lst (vs ++ vS))) := same_new hD3 _
        have k3 : (upd HE D3 (.lst (vs ++ vS))) D3 = some (.lst (vs ++ vS)) := upd_same
        have q4 := same_new (o := .lst [v]) hD4
        have k4 : (upd (upd HE D3 (.lst (vs ++ vS))) D4 (.lst [v])) D4 = some (.lst [v]) := upd_same
        refine ⟨D3, D4, _, _, rfl, rfl, q4 _ _ k3, k4, few (by simp only [List.length_append, List.length_cons, List.length_nil]; omega), fun D5 hD5 => ?_⟩
        have q5 := same_new (o := .lst (vs ++ vS ++ [v])) hD5
        have k5 : (upd (upd (upd HE D3 (.lst (vs ++ vS))) D4 (.lst [v])) D5 (.lst (vs ++ vS ++ [v]))) D5 = some (.lst (vs ++ vS ++ [v])) := upd_same
        have qq5 := q3.trans (q4.trans q5)
        refine ⟨_, rfl, 1, rfl, D, vs, rfl, SqL.of (qq5 _ _ gD), fun D6 hD6 => ?_⟩
        have q6 := same_new (o := .lst (cutV vs none (some 1))) hD6
        have k6 : (upd (upd (upd (upd HE D3 (.lst (vs ++ vS))) D4 (.lst [v])) D5 (.lst (vs ++ vS ++ [v]))) D6 (.lst (cutV vs none (some 1)))) D6 = some (.lst (cutV vs none (some 1))) := upd_same
        have lc := cutV_length vs none (some 1)
        refine ⟨D5, D6, _, _, rfl, rfl, q6 _ _ k5, k6, few (by simp only [List.length_append, List.length_cons, List.length_nil]; omega), fun D7 hD7 => ?_⟩
        have q7 := same_new (o := .lst (vs ++ vS ++ [v] ++ cutV vs none (some 1))) hD7
        have qq7 := qq5.trans (q6.trans q7)
        obtain ⟨es, de, ee⟩ := cutV_dp dE none (some 1)
        have dL : DpAll K HE (vs ++ vS ++ [v] ++ cutV vs none (some 1)) (ds ++ someD ++ [d] ++ es) := DpAll.app (DpAll.app (DpAll.app dE sE) (.cons dv .nil)) de
        have gL : ∀ x ∈ ds ++ someD ++ [d] ++ es, SubL x := fun x hx => by
          rcases List.mem_append.mp hx with z | z
          · rcases List.mem_append.mp z with z | z
            · rcases List.mem_append.mp z with z | z
              · exact h3 x z
              · exact some_sub x z
            · rw [List.mem_singleton.mp z]
              exact fS
          · exact h3 x (ee x z)
        have lL : (vs ++ vS ++ [v] ++ cutV vs none (some 1)).length ≤ 100 := by
          rw [List.length_append, List.length_append, List.length_append, List.length_singleton]
          omega
        have dA := Dp.ups qq7 _ _ dL
        have bA := bE.same qq7
        refine ⟨D7, rfl, ⟨_, SqL.of upd_same⟩, for_list (K := K) (a := D7) (xs := vs ++ vS ++ [v] ++ cutV vs none (some 1)) (fun k σ HB => ∃ o7, σ = [some (.ref a), some (.ref p), some (.int (0 + (i : Nat))), some (.ref D), some (.ref S), some v, o6, o7, none, none] ∧ Same (upd (upd (upd (upd (upd HE D3 (.lst (vs ++ vS))) D4 (.lst [v])) D5 (.lst (vs ++ vS ++ [v]))) D6 (.lst (cutV vs none (some 1)))) D7 (.lst (vs ++ vS ++ [v] ++ cutV vs none (some 1)))) HB) ⟨_, rfl, Same.refl _⟩ (fun k σ HB _ ⟨_, _, h⟩ => SqL.of (h _ _ upd_same)) ?_ ?_⟩
        · rintro k y σ HB hy ⟨o8, rfl, sB⟩
          obtain ⟨x, hx, dx⟩ := DpAll.get dA hy
          have gx := gL x (List.mem_of_getElem? hx)
          have dxB := Dp.up sB _ _ dx
          refine ⟨_, rfl, y, x, rfl, dxB, gx, fun L us fs HC sC hL0 hL dC sfs => ⟨30, rfl, L, us, rfl, SqL.of hL, fun D8 hD8 => ?_⟩⟩
          have l30 := cut30 us
          obtain ⟨es8, de8, ee8⟩ := cutV_dp dC none (some 30)
          have q8 : Same HC (upd HC D8 (.lst (cutV us none (some 30)))) := same_new hD8 _
          have k8 : (upd HC D8 (.lst (cutV us none (some 30)))) D8 = some (.lst (cutV us none (some 30))) := upd_same
          have d8 := Dp.ups q8 _ _ de8
          have sA := sB.trans (sC.trans q8)
          generalize cutV us none (some 30) = cs at l30 de8 q8 k8 d8 sA
          refine ⟨D8, rfl, ⟨_, SqL.of upd_same⟩, fun D9 hD9 => ?_⟩
          refine lc_list (K := K) (a := D8) (xs := cs) (fun j HG => HG D9 = some (.lst ((List.replicate j true).map V.bl)) ∧ Same (upd HC D8 (.lst cs)) (cut [D9] HG)) ⟨upd_same, ?_⟩ ?_ ?_ ?_
          · intro b u z
            rw [cut_out (by simp only [List.mem_singleton]; exact ne_of_none z hD9), upd_ne (ne_of_none z hD9)]
            exact z
          · rintro j HG hj ⟨g1, g2⟩
            exact SqL.of (cut_same _ _ _ _ (g2 _ _ k8))
          · rintro j y2 HG hy2 ⟨g1, g2⟩
            obtain ⟨x2, hx2, dx2⟩ := DpAll.get d8 hy2
            have gx2 := sfs x2 (ee8 x2 (List.mem_of_getElem? hx2))
            have hj := (List.getElem?_eq_some_iff.mp hy2).1
            refine ⟨rfl, _, rfl, y2, x2, rfl, Dp.up (Same.trans g2 (cut_same _ _)) _ _ dx2, gx2, fun HK sK => ⟨_, sK _ _ g1, ?_, ?_, ?_⟩⟩
            · rw [List.length_map, List.length_replicate]
              exact small1000 (by omega)
            · rw [upd_same, List.replicate_succ', List.map_append]
              rfl
            · exact g2.trans ((Off.of sK).trans (Off.put (by simp)))
          · rintro HG ⟨g1, g2⟩
            refine ⟨D9, _, rfl, SqL.of g1, _, rfl, ?_⟩
            rw [all_true]
            exact iteF ⟨_, rfl, sA.trans (Same.trans g2 (cut_same _ _))⟩
        · rintro σ HB ⟨o8, rfl, sB⟩
          exact ⟨_, _, _, _, _, _, rfl, bA.same sB⟩
  · rintro σ H2 ⟨o2, o3, o4, o5, o6, o7, rfl, b2⟩
    exact q H2
end
theorem all_mk {l : PySem.W.OpenLaw} {w : World} {K : PySem.W.Frag} {h : Heap} {mg : Str → Option Value} {fa f1 f2 f3 f4 f5 f6 f7 f8 f9 f10 f11 f12 f13 f14 f15 f16 f17 f18 f19 f20 f21 f22 f23 f24 f25 : Addr} (X : K.In h) (G : h.Ns mainGlobals mg) (hfa : mg "law" = some (.ref fa))
    {aE aT : Addr} {esE esT : Array DictEntry} {nE nT : Nat} {uE0 uE1 uE2 uE3 uE4 uE5 uE6 uE7 uE8 uE9 uE10 uE11 uE12 uE13 uE14 uE15 uT0 uT1 uT2 uT3 uT4 uT5 uT6 : Addr} {vE0 vE1 vE2 vE3 vE4 vE5 vE6 vE7 vE8 vE9 vE10 vE11 vE12 vE13 vE14 vE15 vT0 vT1 vT2 vT3 vT4 vT5 vT6 : Option Addr} {sE0 sE1 sE2 sE3 sE4 sE5 sE6 sE7 sE8 sE9 sE10 sE11 sE12 sE13 sE14 sE15 sT0 sT1 sT2 sT3 sT4 sT5 sT6 : Array (Option Value)} {nE0 nE1 nE2 nE3 nE4 nE5 nE6 nE7 nE8 nE9 nE10 nE11 nE12 nE13 nE14 nE15 nT0 nT1 nT2 nT3 nT4 nT5 nT6 : Nat} {tE0_0 tE1_0 tE2_0 tE3_0 tE3_1 tE4_0 tE5_0 tE5_1 tE6_0 tE6_1 tE7_0 tE8_0 tE9_0 tE9_1 tE10_0 tE10_1 tE10_2 tE11_0 tE11_1 tE11_2 tE12_0 tE12_1 tE12_2 tE13_0 tE13_1 tE13_2 tE14_0 tE14_1 tE14_2 tE14_3 tE14_4 tE15_0 tT0_0 tT0_1 tT1_0 tT1_1 tT2_0 tT2_1 tT2_2 tT3_0 tT3_1 tT4_0 tT5_0 tT5_1 tT6_0 tT6_1 : Tok}
    {CB1 CR1 gB gR : Addr} {tkB tkD : Tok}
    {odB odR anB anR : Option Addr} {slB slR : Array (Option Value)} {ouB kVB dcB pmB cdB ctB ouR kVR dcR pmR cdR ctR : Value}
    {od1 an1 od2 an2 od3 an3 od4 an4 od5 an5 od6 an6 od7 an7 od8 an8 od9 an9 od10 an10 od11 an11 od12 an12 od13 an13 od14 an14 od15 an15 od16 an16 od17 an17 od18 an18 od19 an19 od20 an20 od21 an21 od22 an22 od23 an23 od24 an24 od25 an25 : Option Addr} {sl1 sl2 sl3 sl4 sl5 sl6 sl7 sl8 sl9 sl10 sl11 sl12 sl13 sl14 sl15 sl16 sl17 sl18 sl19 sl20 sl21 sl22 sl23 sl24 sl25 : Array (Option Value)} {oc1 kV1 dc1 pm1 cd1 ct1 oc2 kV2 dc2 pm2 cd2 ct2 oc3 kV3 dc3 pm3 cd3 ct3 oc4 kV4 dc4 pm4 cd4 ct4 oc5 kV5 dc5 pm5 cd5 ct5 oc6 kV6 dc6 pm6 cd6 ct6 oc7 kV7 dc7 pm7 cd7 ct7 oc8 kV8 dc8 pm8 cd8 ct8 oc9 kV9 dc9 pm9 cd9 ct9 oc10 kV10 dc10 pm10 cd10 ct10 oc11 kV11 dc11 pm11 cd11 ct11 oc12 kV12 dc12 pm12 cd12 ct12 oc13 kV13 dc13 pm13 cd13 ct13 oc14 kV14 dc14 pm14 cd14 ct14 oc15 kV15 dc15 pm15 cd15 ct15 oc16 kV16 dc16 pm16 cd16 ct16 oc17 kV17 dc17 pm17 cd17 ct17 oc18 kV18 dc18 pm18 cd18 ct18 oc19 kV19 dc19 pm19 cd19 ct19 oc20 kV20 dc20 pm20 cd20 ct20 oc21 kV21 dc21 pm21 cd21 ct21 oc22 kV22 dc22 pm22 cd22 ct22 oc23 kV23 dc23 pm23 cd23 ct23 oc24 kV24 dc24 pm24 cd24 ct24 oc25 kV25 dc25 pm25 cd25 ct25 : Value}
    (aaE : PySem.W.nsIn K mainGlobals "EXPRESSIONS" = some (some (.ref aE)))
    (llE : K.lookup aE = some ⟨.type "dict", none, .dict esE nE, #[]⟩)
    (kkE : PySem.W.KeysLit w.params esE.toList)
    (ooE : (aE == sysModules) = false)
    (aaT : PySem.W.nsIn K mainGlobals "TESTS" = some (some (.ref aT)))
    (llT : K.lookup aT = some ⟨.type "dict", none, .dict esT nT, #[]⟩)
    (kkT : PySem.W.KeysLit w.params esT.toList)
    (ooT : (aT == sysModules) = false)
    (gE0 : PySem.W.nsIn K aE "int" = some (some (.ref uE0)))
    (hE0 : K.lookup uE0 = some ⟨.type "tuple", vE0, .seq #[.str "integer" tE0_0] nE0, sE0⟩)
    (gE1 : PySem.W.nsIn K aE "atom" = some (some (.ref uE1)))
    (hE1 : K.lookup uE1 = some ⟨.type "tuple", vE1, .seq #[.str "name" tE1_0] nE1, sE1⟩)
    (gE2 : PySem.W.nsIn K aE "name" = some (some (.ref uE2)))
    (hE2 : K.lookup uE2 = some ⟨.type "tuple", vE2, .seq #[.str "name" tE2_0] nE2, sE2⟩)
    (gE3 : PySem.W.nsIn K aE "plus" = some (some (.ref uE3)))
    (hE3 : K.lookup uE3 = some ⟨.type "tuple", vE3, .seq #[.str "expression" tE3_0, .str "integer" tE3_1] nE3, sE3⟩)
    (gE4 : PySem.W.nsIn K aE "tuple" = some (some (.ref uE4)))
    (hE4 : K.lookup uE4 = some ⟨.type "tuple", vE4, .seq #[.str "expressions" tE4_0] nE4, sE4⟩)
    (gE5 : PySem.W.nsIn K aE "part" = some (some (.ref uE5)))
    (hE5 : K.lookup uE5 = some ⟨.type "tuple", vE5, .seq #[.str "expression" tE5_0, .str "index" tE5_1] nE5, sE5⟩)
    (gE6 : PySem.W.nsIn K aE "join" = some (some (.ref uE6)))
    (hE6 : K.lookup uE6 = some ⟨.type "tuple", vE6, .seq #[.str "expression" tE6_0, .str "expression" tE6_1] nE6, sE6⟩)
    (gE7 : PySem.W.nsIn K aE "read" = some (some (.ref uE7)))
    (hE7 : K.lookup uE7 = some ⟨.type "tuple", vE7, .seq #[.str "name" tE7_0] nE7, sE7⟩)
    (gE8 : PySem.W.nsIn K aE "reach" = some (some (.ref uE8)))
    (hE8 : K.lookup uE8 = some ⟨.type "tuple", vE8, .seq #[.str "expression" tE8_0] nE8, sE8⟩)
    (gE9 : PySem.W.nsIn K aE "call" = some (some (.ref uE9)))
    (hE9 : K.lookup uE9 = some ⟨.type "tuple", vE9, .seq #[.str "name" tE9_0, .str "expressions" tE9_1] nE9, sE9⟩)
    (gE10 : PySem.W.nsIn K aE "let" = some (some (.ref uE10)))
    (hE10 : K.lookup uE10 = some ⟨.type "tuple", vE10, .seq #[.str "name" tE10_0, .str "expression" tE10_1, .str "expression" tE10_2] nE10, sE10⟩)
    (gE11 : PySem.W.nsIn K aE "if" = some (some (.ref uE11)))
    (hE11 : K.lookup uE11 = some ⟨.type "tuple", vE11, .seq #[.str "test" tE11_0, .str "expression" tE11_1, .str "expression" tE11_2] nE11, sE11⟩)
    (gE12 : PySem.W.nsIn K aE "each" = some (some (.ref uE12)))
    (hE12 : K.lookup uE12 = some ⟨.type "tuple", vE12, .seq #[.str "name" tE12_0, .str "expression" tE12_1, .str "expression" tE12_2] nE12, sE12⟩)
    (gE13 : PySem.W.nsIn K aE "pick" = some (some (.ref uE13)))
    (hE13 : K.lookup uE13 = some ⟨.type "tuple", vE13, .seq #[.str "name" tE13_0, .str "expression" tE13_1, .str "test" tE13_2] nE13, sE13⟩)
    (gE14 : PySem.W.nsIn K aE "fold" = some (some (.ref uE14)))
    (hE14 : K.lookup uE14 = some ⟨.type "tuple", vE14, .seq #[.str "name" tE14_0, .str "expression" tE14_1, .str "name" tE14_2, .str "expression" tE14_3, .str "expression" tE14_4] nE14, sE14⟩)
    (gE15 : PySem.W.nsIn K aE "fail" = some (some (.ref uE15)))
    (hE15 : K.lookup uE15 = some ⟨.type "tuple", vE15, .seq #[.str "name" tE15_0] nE15, sE15⟩)
    (gT0 : PySem.W.nsIn K aT "is" = some (some (.ref uT0)))
    (hT0 : K.lookup uT0 = some ⟨.type "tuple", vT0, .seq #[.str "kind" tT0_0, .str "expression" tT0_1] nT0, sT0⟩)
    (gT1 : PySem.W.nsIn K aT "sized" = some (some (.ref uT1)))
    (hT1 : K.lookup uT1 = some ⟨.type "tuple", vT1, .seq #[.str "expression" tT1_0, .str "index" tT1_1] nT1, sT1⟩)
    (gT2 : PySem.W.nsIn K aT "most" = some (some (.ref uT2)))
    (hT2 : K.lookup uT2 = some ⟨.type "tuple", vT2, .seq #[.str "expression" tT2_0, .str "integer" tT2_1, .str "expression" tT2_2] nT2, sT2⟩)
    (gT3 : PySem.W.nsIn K aT "alike" = some (some (.ref uT3)))
    (hT3 : K.lookup uT3 = some ⟨.type "tuple", vT3, .seq #[.str "expression" tT3_0, .str "expression" tT3_1] nT3, sT3⟩)
    (gT4 : PySem.W.nsIn K aT "not" = some (some (.ref uT4)))
    (hT4 : K.lookup uT4 = some ⟨.type "tuple", vT4, .seq #[.str "test" tT4_0] nT4, sT4⟩)
    (gT5 : PySem.W.nsIn K aT "both" = some (some (.ref uT5)))
    (hT5 : K.lookup uT5 = some ⟨.type "tuple", vT5, .seq #[.str "test" tT5_0, .str "test" tT5_1] nT5, sT5⟩)
    (gT6 : PySem.W.nsIn K aT "either" = some (some (.ref uT6)))
    (hT6 : K.lookup uT6 = some ⟨.type "tuple", vT6, .seq #[.str "test" tT6_0, .str "test" tT6_1] nT6, sT6⟩)
    (w0 : PySem.W.nsIn K aT "int" = some none)
    (w1 : PySem.W.nsIn K aT "atom" = some none)
    (w2 : PySem.W.nsIn K aT "name" = some none)
    (w3 : PySem.W.nsIn K aT "plus" = some none)
    (w4 : PySem.W.nsIn K aT "tuple" = some none)
    (w5 : PySem.W.nsIn K aT "part" = some none)
    (w6 : PySem.W.nsIn K aT "join" = some none)
    (w7 : PySem.W.nsIn K aT "read" = some none)
    (w8 : PySem.W.nsIn K aT "reach" = some none)
    (w9 : PySem.W.nsIn K aT "call" = some none)
    (w10 : PySem.W.nsIn K aT "let" = some none)
    (w11 : PySem.W.nsIn K aT "if" = some none)
    (w12 : PySem.W.nsIn K aT "each" = some none)
    (w13 : PySem.W.nsIn K aT "pick" = some none)
    (w14 : PySem.W.nsIn K aT "fold" = some none)
    (w15 : PySem.W.nsIn K aT "fail" = some none)
    (aB : PySem.W.nsIn K mainGlobals "Bracket" = some (some (.ref CB1)))
    (aR : PySem.W.nsIn K mainGlobals "Reader" = some (some (.ref CR1)))
    (aMB : PySem.W.nsIn K mainGlobals "MOST_BRACKETS" = some (some (.int 40 tkB)))
    (aMD : PySem.W.nsIn K mainGlobals "MOST_DIGITS" = some (some (.int 18 tkD)))
    (pgB : PySem.W.plainGet K CB1 Str.empty = true)
    (hdB : PySem.W.hasDictIn K CB1 = true)
    (poB : PySem.W.plainOver K CB1 = true)
    (saB : PySem.W.findIn K (.ref CB1) "__setattr__" = some (some (.builtin "object.__setattr__")))
    (mkB : PySem.W.makesIn K CB1 = true)
    (kcB : PySem.W.keepIn K (.ref CB1) = true)
    (noB_wanted : PySem.W.findIn K (.ref CB1) "wanted" = some none)
    (noB_head : PySem.W.findIn K (.ref CB1) "head" = some none)
    (noB_sorts : PySem.W.findIn K (.ref CB1) "sorts" = some none)
    (noB_found : PySem.W.findIn K (.ref CB1) "found" = some none)
    (amB : PySem.W.findIn K (.ref CB1) "__init__" = some (some (.ref gB)))
    (imB : PySem.W.isFn K (.ref gB) = true)
    (lmB : K.lookup gB = some ⟨ouB, odB, .func (PySem.W.fnOf "__init__" "Bracket.__init__" (defArgs sBIni) (defBody sBIni) (defScope sBIni) .none kVB dcB pmB anB cdB ctB), slB⟩)
    (cmB : PySem.W.codeIn K cdB "Bracket.__init__" = true)
    (kmB : PySem.W.keepIn K (.ref gB) = true)
    (pgR : PySem.W.plainGet K CR1 Str.empty = true)
    (hdR : PySem.W.hasDictIn K CR1 = true)
    (poR : PySem.W.plainOver K CR1 = true)
    (saR : PySem.W.findIn K (.ref CR1) "__setattr__" = some (some (.builtin "object.__setattr__")))
    (mkR : PySem.W.makesIn K CR1 = true)
    (kcR : PySem.W.keepIn K (.ref CR1) = true)
    (noR_brackets : PySem.W.findIn K (.ref CR1) "brackets" = some none)
    (noR_tree : PySem.W.findIn K (.ref CR1) "tree" = some none)
    (amR : PySem.W.findIn K (.ref CR1) "__init__" = some (some (.ref gR)))
    (imR : PySem.W.isFn K (.ref gR) = true)
    (lmR : K.lookup gR = some ⟨ouR, odR, .func (PySem.W.fnOf "__init__" "Reader.__init__" (defArgs sRIni) (defBody sRIni) (defScope sRIni) .none kVR dcR pmR anR cdR ctR), slR⟩)
    (cmR : PySem.W.codeIn K cdR "Reader.__init__" = true)
    (kmR : PySem.W.keepIn K (.ref gR) = true)
    (a1 : PySem.W.nsIn K mainGlobals "is_name" = some (some (.ref f1)))
    (l1 : K.lookup f1 = some ⟨oc1, od1, .func (PySem.W.fnOf "is_name" "is_name" (defArgs sName) (defBody sName) (defScope sName) .none kV1 dc1 pm1 an1 cd1 ct1), sl1⟩)
    (c1 : PySem.W.codeIn K cd1 "is_name" = true) (k1 : PySem.W.keepIn K (.ref f1) = true)
    (a2 : PySem.W.nsIn K mainGlobals "sorts_behind" = some (some (.ref f2)))
    (l2 : K.lookup f2 = some ⟨oc2, od2, .func (PySem.W.fnOf "sorts_behind" "sorts_behind" (defArgs sSorts) (defBody sSorts) (defScope sSorts) .none kV2 dc2 pm2 an2 cd2 ct2), sl2⟩)
    (c2 : PySem.W.codeIn K cd2 "sorts_behind" = true) (k2 : PySem.W.keepIn K (.ref f2) = true)
    (a3 : PySem.W.nsIn K mainGlobals "sorted_items" = some (some (.ref f3)))
    (l3 : K.lookup f3 = some ⟨oc3, od3, .func (PySem.W.fnOf "sorted_items" "sorted_items" (defArgs sItems) (defBody sItems) (defScope sItems) .none kV3 dc3 pm3 an3 cd3 ct3), sl3⟩)
    (c3 : PySem.W.codeIn K cd3 "sorted_items" = true) (k3 : PySem.W.keepIn K (.ref f3) = true)
    (a4 : PySem.W.nsIn K mainGlobals "show_expression" = some (some (.ref f4)))
    (l4 : K.lookup f4 = some ⟨oc4, od4, .func (PySem.W.fnOf "show_expression" "show_expression" (defArgs sShow) (defBody sShow) (defScope sShow) .none kV4 dc4 pm4 an4 cd4 ct4), sl4⟩)
    (c4 : PySem.W.codeIn K cd4 "show_expression" = true) (k4 : PySem.W.keepIn K (.ref f4) = true)
    (a5 : PySem.W.nsIn K mainGlobals "further_things" = some (some (.ref f5)))
    (l5 : K.lookup f5 = some ⟨oc5, od5, .func (PySem.W.fnOf "further_things" "further_things" (defArgs sFur) (defBody sFur) (defScope sFur) .none kV5 dc5 pm5 an5 cd5 ct5), sl5⟩)
    (c5 : PySem.W.codeIn K cd5 "further_things" = true) (k5 : PySem.W.keepIn K (.ref f5) = true)
    (a6 : PySem.W.nsIn K mainGlobals "read_expression" = some (some (.ref f6)))
    (l6 : K.lookup f6 = some ⟨oc6, od6, .func (PySem.W.fnOf "read_expression" "read_expression" (defArgs sRx) (defBody sRx) (defScope sRx) .none kV6 dc6 pm6 an6 cd6 ct6), sl6⟩)
    (c6 : PySem.W.codeIn K cd6 "read_expression" = true) (k6 : PySem.W.keepIn K (.ref f6) = true)
    (a7 : PySem.W.nsIn K mainGlobals "read_word" = some (some (.ref f7)))
    (l7 : K.lookup f7 = some ⟨oc7, od7, .func (PySem.W.fnOf "read_word" "read_word" (defArgs sRead) (defBody sRead) (defScope sRead) .none kV7 dc7 pm7 an7 cd7 ct7), sl7⟩)
    (c7 : PySem.W.codeIn K cd7 "read_word" = true) (k7 : PySem.W.keepIn K (.ref f7) = true)
    (a8 : PySem.W.nsIn K mainGlobals "read_head" = some (some (.ref f8)))
    (l8 : K.lookup f8 = some ⟨oc8, od8, .func (PySem.W.fnOf "read_head" "read_head" (defArgs sHead) (defBody sHead) (defScope sHead) .none kV8 dc8 pm8 an8 cd8 ct8), sl8⟩)
    (c8 : PySem.W.codeIn K cd8 "read_head" = true) (k8 : PySem.W.keepIn K (.ref f8) = true)
    (a9 : PySem.W.nsIn K mainGlobals "close_bracket" = some (some (.ref f9)))
    (l9 : K.lookup f9 = some ⟨oc9, od9, .func (PySem.W.fnOf "close_bracket" "close_bracket" (defArgs sClose) (defBody sClose) (defScope sClose) .none kV9 dc9 pm9 an9 cd9 ct9), sl9⟩)
    (c9 : PySem.W.codeIn K cd9 "close_bracket" = true) (k9 : PySem.W.keepIn K (.ref f9) = true)
    (a10 : PySem.W.nsIn K mainGlobals "keep" = some (some (.ref f10)))
    (l10 : K.lookup f10 = some ⟨oc10, od10, .func (PySem.W.fnOf "keep" "keep" (defArgs sKeep) (defBody sKeep) (defScope sKeep) .none kV10 dc10 pm10 an10 cd10 ct10), sl10⟩)
    (c10 : PySem.W.codeIn K cd10 "keep" = true) (k10 : PySem.W.keepIn K (.ref f10) = true)
    (a11 : PySem.W.nsIn K mainGlobals "read_item" = some (some (.ref f11)))
    (l11 : K.lookup f11 = some ⟨oc11, od11, .func (PySem.W.fnOf "read_item" "read_item" (defArgs sItem) (defBody sItem) (defScope sItem) .none kV11 dc11 pm11 an11 cd11 ct11), sl11⟩)
    (c11 : PySem.W.codeIn K cd11 "read_item" = true) (k11 : PySem.W.keepIn K (.ref f11) = true)
    (a12 : PySem.W.nsIn K mainGlobals "can_be" = some (some (.ref f12)))
    (l12 : K.lookup f12 = some ⟨oc12, od12, .func (PySem.W.fnOf "can_be" "can_be" (defArgs sCan) (defBody sCan) (defScope sCan) .none kV12 dc12 pm12 an12 cd12 ct12), sl12⟩)
    (c12 : PySem.W.codeIn K cd12 "can_be" = true) (k12 : PySem.W.keepIn K (.ref f12) = true)
    (a13 : PySem.W.nsIn K mainGlobals "is_number" = some (some (.ref f13)))
    (l13 : K.lookup f13 = some ⟨oc13, od13, .func (PySem.W.fnOf "is_number" "is_number" (defArgs sNum) (defBody sNum) (defScope sNum) .none kV13 dc13 pm13 an13 cd13 ct13), sl13⟩)
    (c13 : PySem.W.codeIn K cd13 "is_number" = true) (k13 : PySem.W.keepIn K (.ref f13) = true)
    (a14 : PySem.W.nsIn K mainGlobals "leaf_of" = some (some (.ref f14)))
    (l14 : K.lookup f14 = some ⟨oc14, od14, .func (PySem.W.fnOf "leaf_of" "leaf_of" (defArgs sLeaf) (defBody sLeaf) (defScope sLeaf) .none kV14 dc14 pm14 an14 cd14 ct14), sl14⟩)
    (c14 : PySem.W.codeIn K cd14 "leaf_of" = true) (k14 : PySem.W.keepIn K (.ref f14) = true)
    (a15 : PySem.W.nsIn K mainGlobals "_law_box" = some (some (.ref f15)))
    (l15 : K.lookup f15 = some ⟨oc15, od15, .func (PySem.W.fnOf "_law_box" "_law_box" (defArgs sBox) (defBody sBox) (defScope sBox) .none kV15 dc15 pm15 an15 cd15 ct15), sl15⟩)
    (c15 : PySem.W.codeIn K cd15 "_law_box" = true) (k15 : PySem.W.keepIn K (.ref f15) = true)
    (a16 : PySem.W.nsIn K mainGlobals "_law_take" = some (some (.ref f16)))
    (l16 : K.lookup f16 = some ⟨oc16, od16, .func (PySem.W.fnOf "_law_take" "_law_take" (defArgs sTake) (defBody sTake) (defScope sTake) .none kV16 dc16 pm16 an16 cd16 ct16), sl16⟩)
    (c16 : PySem.W.codeIn K cd16 "_law_take" = true) (k16 : PySem.W.keepIn K (.ref f16) = true)
    (a17 : PySem.W.nsIn K mainGlobals "_law_pick" = some (some (.ref f17)))
    (l17 : K.lookup f17 = some ⟨oc17, od17, .func (PySem.W.fnOf "_law_pick" "_law_pick" (defArgs sPick) (defBody sPick) (defScope sPick) .none kV17 dc17 pm17 an17 cd17 ct17), sl17⟩)
    (c17 : PySem.W.codeIn K cd17 "_law_pick" = true) (k17 : PySem.W.keepIn K (.ref f17) = true)
    (a18 : PySem.W.nsIn K mainGlobals "_law_forms" = some (some (.ref f18)))
    (l18 : K.lookup f18 = some ⟨oc18, od18, .func (PySem.W.fnOf "_law_forms" "_law_forms" (defArgs sForms) (defBody sForms) (defScope sForms) .none kV18 dc18 pm18 an18 cd18 ct18), sl18⟩)
    (c18 : PySem.W.codeIn K cd18 "_law_forms" = true) (k18 : PySem.W.keepIn K (.ref f18) = true)
    (a19 : PySem.W.nsIn K mainGlobals "_law_word" = some (some (.ref f19)))
    (l19 : K.lookup f19 = some ⟨oc19, od19, .func (PySem.W.fnOf "_law_word" "_law_word" (defArgs sWord) (defBody sWord) (defScope sWord) .none kV19 dc19 pm19 an19 cd19 ct19), sl19⟩)
    (c19 : PySem.W.codeIn K cd19 "_law_word" = true) (k19 : PySem.W.keepIn K (.ref f19) = true)
    (a20 : PySem.W.nsIn K mainGlobals "_law_thing" = some (some (.ref f20)))
    (l20 : K.lookup f20 = some ⟨oc20, od20, .func (PySem.W.fnOf "_law_thing" "_law_thing" (defArgs sThing) (defBody sThing) (defScope sThing) .none kV20 dc20 pm20 an20 cd20 ct20), sl20⟩)
    (c20 : PySem.W.codeIn K cd20 "_law_thing" = true) (k20 : PySem.W.keepIn K (.ref f20) = true)
    (a21 : PySem.W.nsIn K mainGlobals "_law_tree" = some (some (.ref f21)))
    (l21 : K.lookup f21 = some ⟨oc21, od21, .func (PySem.W.fnOf "_law_tree" "_law_tree" (defArgs sTree) (defBody sTree) (defScope sTree) .none kV21 dc21 pm21 an21 cd21 ct21), sl21⟩)
    (c21 : PySem.W.codeIn K cd21 "_law_tree" = true) (k21 : PySem.W.keepIn K (.ref f21) = true)
    (a22 : PySem.W.nsIn K mainGlobals "_law_words" = some (some (.ref f22)))
    (l22 : K.lookup f22 = some ⟨oc22, od22, .func (PySem.W.fnOf "_law_words" "_law_words" (defArgs sWords) (defBody sWords) (defScope sWords) .none kV22 dc22 pm22 an22 cd22 ct22), sl22⟩)
    (c22 : PySem.W.codeIn K cd22 "_law_words" = true) (k22 : PySem.W.keepIn K (.ref f22) = true)
    (a23 : PySem.W.nsIn K mainGlobals "_law_right" = some (some (.ref f23)))
    (l23 : K.lookup f23 = some ⟨oc23, od23, .func (PySem.W.fnOf "_law_right" "_law_right" (defArgs sRight) (defBody sRight) (defScope sRight) .none kV23 dc23 pm23 an23 cd23 ct23), sl23⟩)
    (c23 : PySem.W.codeIn K cd23 "_law_right" = true) (k23 : PySem.W.keepIn K (.ref f23) = true)
    (a24 : PySem.W.nsIn K mainGlobals "_law_inside" = some (some (.ref f24)))
    (l24 : K.lookup f24 = some ⟨oc24, od24, .func (PySem.W.fnOf "_law_inside" "_law_inside" (defArgs sInside) (defBody sInside) (defScope sInside) .none kV24 dc24 pm24 an24 cd24 ct24), sl24⟩)
    (c24 : PySem.W.codeIn K cd24 "_law_inside" = true) (k24 : PySem.W.keepIn K (.ref f24) = true)
    (a25 : PySem.W.nsIn K mainGlobals "law" = some (some (.ref f25)))
    (l25 : K.lookup f25 = some ⟨oc25, od25, .func (PySem.W.fnOf "law" "law" (defArgs sLaw) (defBody sLaw) (defScope sLaw) .none kV25 dc25 pm25 an25 cd25 ct25), sl25⟩)
    (c25 : PySem.W.codeIn K cd25 "law" = true) (k25 : PySem.W.keepIn K (.ref f25) = true)
    (z1 : PySem.W.nsIn K mainGlobals "list" = some none)
    (z2 : PySem.W.nsIn K mainGlobals "zip" = some none)
    (z3 : PySem.W.nsIn K mainGlobals "enumerate" = some none)
    (z4 : PySem.W.nsIn K mainGlobals "tuple" = some none)
    (z5 : PySem.W.nsIn K mainGlobals "len" = some none)
    (z6 : PySem.W.nsIn K mainGlobals "abs" = some none)
    (z7 : PySem.W.nsIn K mainGlobals "dict" = some none)
    (z8 : PySem.W.nsIn K mainGlobals "range" = some none)
    (z9 : PySem.W.nsIn K mainGlobals "repr" = some none)
    (z10 : PySem.W.nsIn K mainGlobals "all" = some none)
    (z11 : PySem.W.nsIn K mainGlobals "isinstance" = some none)
    (z12 : PySem.W.nsIn K mainGlobals "str" = some none)
    (z13 : PySem.W.nsIn K mainGlobals "int" = some none)
    : ∃ fd : FuncData, (∀ (s : Shared) (v : Value), BindsTo s fd ⟨[v], []⟩ [("_law_script", v)]) ∧ ∀ base : Heap, K.In base → base.Ns mainGlobals mg → FnG l.prog w K mg base CX0 45 fa fd ["_law_script"] (spLaw K) := by
  have e := hfa.symm.trans (PySem.W.mg_of X G a25)
  cases e
  have F1 := fun_mk (st := sName) l1 c1 k1
  have b1 := F1.binds (ps := ["thing"]) fun _ _ _ _ _ _ us hl => match us, hl with | [_], _ => rfl
  have m1 := PySem.W.mg_of X G a1
  have F2 := fun_mk (st := sSorts) l2 c2 k2
  have b2 := F2.binds (ps := ["word", "wanted"]) fun _ _ _ _ _ _ us hl => match us, hl with | [_, _], _ => rfl
  have m2 := PySem.W.mg_of X G a2
  have F3 := fun_mk (st := sItems) l3 c3 k3
  have b3 := F3.binds (ps := ["tree"]) fun _ _ _ _ _ _ us hl => match us, hl with | [_], _ => rfl
  have m3 := PySem.W.mg_of X G a3
  have F4 := fun_mk (st := sShow) l4 c4 k4
  have b4 := F4.binds (ps := ["tree"]) fun _ _ _ _ _ _ us hl => match us, hl with | [_], _ => rfl
  have m4 := PySem.W.mg_of X G a4
  have F5 := fun_mk (st := sFur) l5 c5 k5
  have b5 := F5.binds (ps := ["tree"]) fun _ _ _ _ _ _ us hl => match us, hl with | [_], _ => rfl
  have m5 := PySem.W.mg_of X G a5
  have F6 := fun_mk (st := sRx) l6 c6 k6
  have b6 := F6.binds (ps := ["text"]) fun _ _ _ _ _ _ us hl => match us, hl with | [_], _ => rfl
  have m6 := PySem.W.mg_of X G a6
  have F7 := fun_mk (st := sRead) l7 c7 k7
  have b7 := F7.binds (ps := ["reader", "word"]) fun _ _ _ _ _ _ us hl => match us, hl with | [_, _], _ => rfl
  have m7 := PySem.W.mg_of X G a7
  have F8 := fun_mk (st := sHead) l8 c8 k8
  have b8 := F8.binds (ps := ["reader", "word"]) fun _ _ _ _ _ _ us hl => match us, hl with | [_, _], _ => rfl
  have m8 := PySem.W.mg_of X G a8
  have F9 := fun_mk (st := sClose) l9 c9 k9
  have b9 := F9.binds (ps := ["reader"]) fun _ _ _ _ _ _ us hl => match us, hl with | [_], _ => rfl
  have m9 := PySem.W.mg_of X G a9
  have F10 := fun_mk (st := sKeep) l10 c10 k10
  have b10 := F10.binds (ps := ["reader", "thing"]) fun _ _ _ _ _ _ us hl => match us, hl with | [_, _], _ => rfl
  have m10 := PySem.W.mg_of X G a10
  have F11 := fun_mk (st := sItem) l11 c11 k11
  have b11 := F11.binds (ps := ["reader", "word", "sort"]) fun _ _ _ _ _ _ us hl => match us, hl with | [_, _, _], _ => rfl
  have m11 := PySem.W.mg_of X G a11
  have F12 := fun_mk (st := sCan) l12 c12 k12
  have b12 := F12.binds (ps := ["word", "sort"]) fun _ _ _ _ _ _ us hl => match us, hl with | [_, _], _ => rfl
  have m12 := PySem.W.mg_of X G a12
  have F13 := fun_mk (st := sNum) l13 c13 k13
  have b13 := F13.binds (ps := ["word"]) fun _ _ _ _ _ _ us hl => match us, hl with | [_], _ => rfl
  have m13 := PySem.W.mg_of X G a13
  have F14 := fun_mk (st := sLeaf) l14 c14 k14
  have b14 := F14.binds (ps := ["word"]) fun _ _ _ _ _ _ us hl => match us, hl with | [_], _ => rfl
  have m14 := PySem.W.mg_of X G a14
  have F15 := fun_mk (st := sBox) l15 c15 k15
  have b15 := F15.binds (ps := ["_law_script", "_law_base"]) fun _ _ _ _ _ _ us hl => match us, hl with | [_, _], _ => rfl
  have m15 := PySem.W.mg_of X G a15
  have F16 := fun_mk (st := sTake) l16 c16 k16
  have b16 := F16.binds (ps := ["_law_box_here", "_law_many"]) fun _ _ _ _ _ _ us hl => match us, hl with | [_, _], _ => rfl
  have m16 := PySem.W.mg_of X G a16
  have F17 := fun_mk (st := sPick) l17 c17 k17
  have b17 := F17.binds (ps := ["_law_box_here", "_law_items"]) fun _ _ _ _ _ _ us hl => match us, hl with | [_, _], _ => rfl
  have m17 := PySem.W.mg_of X G a17
  have F18 := fun_mk (st := sForms) l18 c18 k18
  have b18 := F18.binds (ps := ["_law_sort"]) fun _ _ _ _ _ _ us hl => match us, hl with | [_], _ => rfl
  have m18 := PySem.W.mg_of X G a18
  have F19 := fun_mk (st := sWord) l19 c19 k19
  have b19 := F19.binds (ps := ["_law_box_here"]) fun _ _ _ _ _ _ us hl => match us, hl with | [_], _ => rfl
  have m19 := PySem.W.mg_of X G a19
  have F20 := fun_mk (st := sThing) l20 c20 k20
  have b20 := F20.binds (ps := ["_law_box_here", "_law_slot"]) fun _ _ _ _ _ _ us hl => match us, hl with | [_, _], _ => rfl
  have m20 := PySem.W.mg_of X G a20
  have F21 := fun_mk (st := sTree) l21 c21 k21
  have b21 := F21.binds (ps := ["_law_box_here", "_law_sort", "_law_deep", "_law_room"]) fun _ _ _ _ _ _ us hl => match us, hl with | [_, _, _, _], _ => rfl
  have m21 := PySem.W.mg_of X G a21
  have F22 := fun_mk (st := sWords) l22 c22 k22
  have b22 := F22.binds (ps := ["_law_tree_here"]) fun _ _ _ _ _ _ us hl => match us, hl with | [_], _ => rfl
  have m22 := PySem.W.mg_of X G a22
  have F23 := fun_mk (st := sRight) l23 c23 k23
  have b23 := F23.binds (ps := ["_law_tree_here"]) fun _ _ _ _ _ _ us hl => match us, hl with | [_], _ => rfl
  have m23 := PySem.W.mg_of X G a23
  have F24 := fun_mk (st := sInside) l24 c24 k24
  have b24 := F24.binds (ps := ["_law_tree_here"]) fun _ _ _ _ _ _ us hl => match us, hl with | [_], _ => rfl
  have m24 := PySem.W.mg_of X G a24
  have F25 := fun_mk (st := sLaw) l25 c25 k25
  have n_list := PySem.W.mg_none_of X G z1
  have n_zip := PySem.W.mg_none_of X G z2
  have n_enumerate := PySem.W.mg_none_of X G z3
  have n_tuple := PySem.W.mg_none_of X G z4
  have n_len := PySem.W.mg_none_of X G z5
  have n_abs := PySem.W.mg_none_of X G z6
  have n_dict := PySem.W.mg_none_of X G z7
  have n_range := PySem.W.mg_none_of X G z8
  have n_repr := PySem.W.mg_none_of X G z9
  have n_all := PySem.W.mg_none_of X G z10
  have n_isinstance := PySem.W.mg_none_of X G z11
  have n_str := PySem.W.mg_none_of X G z12
  have n_int := PySem.W.mg_none_of X G z13
  refine ⟨PySem.W.fnOf "law" "law" (defArgs sLaw) (defBody sLaw) (defScope sLaw) .none kV25 dc25 pm25 an25 cd25 ct25, fun s v => .of_eq rfl, fun base _ _ => ?_⟩
  have TB : Tab K w mg aE esE nE aT esT nT := by
    refine ⟨PySem.W.mg_of X G aaE, PySem.W.mg_of X G aaT, ⟨llE, kkE, ooE⟩, ⟨llT, kkT, ooT⟩, ?e1, ?t1, ?e0⟩
    case e1 =>
      intro p hp
      simp only [exL, List.mem_cons, List.not_mem_nil, or_false] at hp
      rcases hp with rfl | rfl | rfl | rfl | rfl | rfl | rfl | rfl | rfl | rfl | rfl | rfl | rfl | rfl | rfl | rfl
      · exact ⟨uE0, gE0, fun H => by
            have e : sortsV "k" = [.str "integer"] := by decide +kernel
            rw [e]
            exact .inr ⟨_, _, _, hE0, rfl, rfl, (by show 1 ≤ sizeLine; decide), .cons ⟨_, rfl⟩ (.nil)⟩⟩
      · exact ⟨uE1, gE1, fun H => by
            have e : sortsV "n" = [.str "name"] := by decide +kernel
            rw [e]
            exact .inr ⟨_, _, _, hE1, rfl, rfl, (by show 1 ≤ sizeLine; decide), .cons ⟨_, rfl⟩ (.nil)⟩⟩
      · exact ⟨uE2, gE2, fun H => by
            have e : sortsV "n" = [.str "name"] := by decide +kernel
            rw [e]
            exact .inr ⟨_, _, _, hE2, rfl, rfl, (by show 1 ≤ sizeLine; decide), .cons ⟨_, rfl⟩ (.nil)⟩⟩
      · exact ⟨uE3, gE3, fun H => by
            have e : sortsV "ek" = [.str "expression", .str "integer"] := by decide +kernel
            rw [e]
            exact .inr ⟨_, _, _, hE3, rfl, rfl, (by show 2 ≤ sizeLine; decide), .cons ⟨_, rfl⟩ (.cons ⟨_, rfl⟩ (.nil))⟩⟩
      · exact ⟨uE4, gE4, fun H => by
            have e : sortsV "s" = [.str "expressions"] := by decide +kernel
            rw [e]
            exact .inr ⟨_, _, _, hE4, rfl, rfl, (by show 1 ≤ sizeLine; decide), .cons ⟨_, rfl⟩ (.nil)⟩⟩
      · exact ⟨uE5, gE5, fun H => by
            have e : sortsV "ei" = [.str "expression", .str "index"] := by decide +kernel
            rw [e]
            exact .inr ⟨_, _, _, hE5, rfl, rfl, (by show 2 ≤ sizeLine; decide), .cons ⟨_, rfl⟩ (.cons ⟨_, rfl⟩ (.nil))⟩⟩
      · exact ⟨uE6, gE6, fun H => by
            have e : sortsV "ee" = [.str "expression", .str "expression"] := by decide +kernel
            rw [e]
            exact .inr ⟨_, _, _, hE6, rfl, rfl, (by show 2 ≤ sizeLine; decide), .cons ⟨_, rfl⟩ (.cons ⟨_, rfl⟩ (.nil))⟩⟩
      · exact ⟨uE7, gE7, fun H => by
            have e : sortsV "n" = [.str "name"] := by decide +kernel
            rw [e]
            exact .inr ⟨_, _, _, hE7, rfl, rfl, (by show 1 ≤ sizeLine; decide), .cons ⟨_, rfl⟩ (.nil)⟩⟩
      · exact ⟨uE8, gE8, fun H => by
            have e : sortsV "e" = [.str "expression"] := by decide +kernel
            rw [e]
            exact .inr ⟨_, _, _, hE8, rfl, rfl, (by show 1 ≤ sizeLine; decide), .cons ⟨_, rfl⟩ (.nil)⟩⟩
      · exact ⟨uE9, gE9, fun H => by
            have e : sortsV "ns" = [.str "name", .str "expressions"] := by decide +kernel
            rw [e]
            exact .inr ⟨_, _, _, hE9, rfl, rfl, (by show 2 ≤ sizeLine; decide), .cons ⟨_, rfl⟩ (.cons ⟨_, rfl⟩ (.nil))⟩⟩
      · exact ⟨uE10, gE10, fun H => by
            have e : sortsV "nee" = [.str "name", .str "expression", .str "expression"] := by decide +kernel
            rw [e]
            exact .inr ⟨_, _, _, hE10, rfl, rfl, (by show 3 ≤ sizeLine; decide), .cons ⟨_, rfl⟩ (.cons ⟨_, rfl⟩ (.cons ⟨_, rfl⟩ (.nil)))⟩⟩
      · exact ⟨uE11, gE11, fun H => by
            have e : sortsV "tee" = [.str "test", .str "expression", .str "expression"] := by decide +kernel
            rw [e]
            exact .inr ⟨_, _, _, hE11, rfl, rfl, (by show 3 ≤ sizeLine; decide), .cons ⟨_, rfl⟩ (.cons ⟨_, rfl⟩ (.cons ⟨_, rfl⟩ (.nil)))⟩⟩
      · exact ⟨uE12, gE12, fun H => by
            have e : sortsV "nee" = [.str "name", .str "expression", .str "expression"] := by decide +kernel
            rw [e]
            exact .inr ⟨_, _, _, hE12, rfl, rfl, (by show 3 ≤ sizeLine; decide), .cons ⟨_, rfl⟩ (.cons ⟨_, rfl⟩ (.cons ⟨_, rfl⟩ (.nil)))⟩⟩
      · exact ⟨uE13, gE13, fun H => by
            have e : sortsV "net" = [.str "name", .str "expression", .str "test"] := by decide +kernel
            rw [e]
            exact .inr ⟨_, _, _, hE13, rfl, rfl, (by show 3 ≤ sizeLine; decide), .cons ⟨_, rfl⟩ (.cons ⟨_, rfl⟩ (.cons ⟨_, rfl⟩ (.nil)))⟩⟩
      · exact ⟨uE14, gE14, fun H => by
            have e : sortsV "nenee" = [.str "name", .str "expression", .str "name", .str "expression", .str "expression"] := by decide +kernel
            rw [e]
            exact .inr ⟨_, _, _, hE14, rfl, rfl, (by show 5 ≤ sizeLine; decide), .cons ⟨_, rfl⟩ (.cons ⟨_, rfl⟩ (.cons ⟨_, rfl⟩ (.cons ⟨_, rfl⟩ (.cons ⟨_, rfl⟩ (.nil)))))⟩⟩
      · exact ⟨uE15, gE15, fun H => by
            have e : sortsV "n" = [.str "name"] := by decide +kernel
            rw [e]
            exact .inr ⟨_, _, _, hE15, rfl, rfl, (by show 1 ≤ sizeLine; decide), .cons ⟨_, rfl⟩ (.nil)⟩⟩
    case t1 =>
      intro p hp
      simp only [teL, List.mem_cons, List.not_mem_nil, or_false] at hp
      rcases hp with rfl | rfl | rfl | rfl | rfl | rfl | rfl
      · exact ⟨uT0, gT0, fun H => by
            have e : sortsV "we" = [.str "kind", .str "expression"] := by decide +kernel
            rw [e]
            exact .inr ⟨_, _, _, hT0, rfl, rfl, (by show 2 ≤ sizeLine; decide), .cons ⟨_, rfl⟩ (.cons ⟨_, rfl⟩ (.nil))⟩⟩
      · exact ⟨uT1, gT1, fun H => by
            have e : sortsV "ei" = [.str "expression", .str "index"] := by decide +kernel
            rw [e]
            exact .inr ⟨_, _, _, hT1, rfl, rfl, (by show 2 ≤ sizeLine; decide), .cons ⟨_, rfl⟩ (.cons ⟨_, rfl⟩ (.nil))⟩⟩
      · exact ⟨uT2, gT2, fun H => by
            have e : sortsV "eke" = [.str "expression", .str "integer", .str "expression"] := by decide +kernel
            rw [e]
            exact .inr ⟨_, _, _, hT2, rfl, rfl, (by show 3 ≤ sizeLine; decide), .cons ⟨_, rfl⟩ (.cons ⟨_, rfl⟩ (.cons ⟨_, rfl⟩ (.nil)))⟩⟩
      · exact ⟨uT3, gT3, fun H => by
            have e : sortsV "ee" = [.str "expression", .str "expression"] := by decide +kernel
            rw [e]
            exact .inr ⟨_, _, _, hT3, rfl, rfl, (by show 2 ≤ sizeLine; decide), .cons ⟨_, rfl⟩ (.cons ⟨_, rfl⟩ (.nil))⟩⟩
      · exact ⟨uT4, gT4, fun H => by
            have e : sortsV "t" = [.str "test"] := by decide +kernel
            rw [e]
            exact .inr ⟨_, _, _, hT4, rfl, rfl, (by show 1 ≤ sizeLine; decide), .cons ⟨_, rfl⟩ (.nil)⟩⟩
      · exact ⟨uT5, gT5, fun H => by
            have e : sortsV "tt" = [.str "test", .str "test"] := by decide +kernel
            rw [e]
            exact .inr ⟨_, _, _, hT5, rfl, rfl, (by show 2 ≤ sizeLine; decide), .cons ⟨_, rfl⟩ (.cons ⟨_, rfl⟩ (.nil))⟩⟩
      · exact ⟨uT6, gT6, fun H => by
            have e : sortsV "tt" = [.str "test", .str "test"] := by decide +kernel
            rw [e]
            exact .inr ⟨_, _, _, hT6, rfl, rfl, (by show 2 ≤ sizeLine; decide), .cons ⟨_, rfl⟩ (.cons ⟨_, rfl⟩ (.nil))⟩⟩
    case e0 =>
      intro p hp
      simp only [exL, List.mem_cons, List.not_mem_nil, or_false] at hp
      rcases hp with rfl | rfl | rfl | rfl | rfl | rfl | rfl | rfl | rfl | rfl | rfl | rfl | rfl | rfl | rfl | rfl
      · exact w0
      · exact w1
      · exact w2
      · exact w3
      · exact w4
      · exact w5
      · exact w6
      · exact w7
      · exact w8
      · exact w9
      · exact w10
      · exact w11
      · exact w12
      · exact w13
      · exact w14
      · exact w15
  have Tt : Tk l.prog w K mg base f16 _ := ⟨ok_take (k := 0) F16 n_len, k16, b16, m16⟩
  have TCB : CB K mg CB1 := ⟨⟨pgB, hdB, poB, saB⟩, noB_wanted, noB_head, noB_sorts, noB_found, PySem.W.mg_of X G aB⟩
  have TCR : CR K mg CR1 := ⟨⟨pgR, hdR, poR, saR⟩, noR_brackets, noR_tree, PySem.W.mg_of X G aR⟩
  have EB := fun_mk (st := sBIni) lmB cmB kmB
  have ER := fun_mk (st := sRIni) lmR cmR kmR
  have dB := EB.binds (ps := ["self", "wanted"]) fun _ _ _ _ _ _ us hl => match us, hl with | [_, _], _ => rfl
  have dR := ER.binds (ps := ["self"]) fun _ _ _ _ _ _ us hl => match us, hl with | [_], _ => rfl
  have mMB := PySem.W.mg_of X G aMB
  have mMD := PySem.W.mg_of X G aMD
  have IB : FnOk l.prog w K mg base CX0 1 gB _ ["self", "wanted"] (spBIni CB1) := ok_bini (k := 0) EB TCB
  have IR : FnOk l.prog w K mg base CX0 1 gR _ ["self"] (spRIni CR1) := ok_rini (k := 0) ER TCR
  have KB : Mk K CB1 gB := ⟨mkB, amB, imB, kcB⟩
  have KR : Mk K CR1 gR := ⟨mkR, amR, imR, kcR⟩
  have G1 : Dn l.prog w K mg base 1 "is_name" ["thing"] spName f1 _ := ⟨ok_name (k := 0) F1 n_isinstance n_str n_len n_all, k1, b1, m1⟩
  have G2 : Dn l.prog w K mg base 1 "sorts_behind" ["word", "wanted"] (spSorts K) f2 _ := ⟨ok_sorts (k := 0) F2 TB, k2, b2, m2⟩
  have G3 : Dn l.prog w K mg base 2 "sorted_items" ["tree"] (spItems K) f3 _ := ⟨ok_items (k := 0) F3 TB n_list n_zip G2, k3, b3, m3⟩
  have G5 : Dn l.prog w K mg base 3 "further_things" ["tree"] (spFur K) f5 _ := ⟨ok_fur (k := 0) F5 n_str G3, k5, b5, m5⟩
  have G4 : Dn l.prog w K mg base 4 "show_expression" ["tree"] (spShow K) f4 _ := ⟨ok_show (k := 0) F4 n_isinstance n_str G5, k4, b4, m4⟩
  have G10 : Dn l.prog w K mg base 1 "keep" ["reader", "thing"] (spKeep K CR1 CB1) f10 _ := ⟨ok_keep (k := 0) F10 TCR TCB, k10, b10, m10⟩
  have G9 : Dn l.prog w K mg base 2 "close_bracket" ["reader"] (spClose K CR1 CB1) f9 _ := ⟨ok_close (k := 0) F9 TCR TCB n_len n_tuple G10, k9, b9, m9⟩
  have G8 : Dn l.prog w K mg base 2 "read_head" ["reader", "word"] (spHead K CR1 CB1) f8 _ := ⟨ok_head (k := 0) F8 TCR TCB n_len mMB G2, k8, b8, m8⟩
  have G13 : Dn l.prog w K mg base 1 "is_number" ["word"] spNum f13 _ := ⟨ok_num (k := 0) F13 n_len n_all mMD, k13, b13, m13⟩
  have G12 : Dn l.prog w K mg base 2 "can_be" ["word", "sort"] spCan f12 _ := ⟨ok_can (k := 0) F12 G13 G1, k12, b12, m12⟩
  have G14 : Dn l.prog w K mg base 2 "leaf_of" ["word"] (spLeaf K) f14 _ := ⟨ok_leaf (k := 0) F14 n_int G1, k14, b14, m14⟩
  have G11 : Dn l.prog w K mg base 3 "read_item" ["reader", "word", "sort"] (spItem K CR1 CB1) f11 _ := ⟨ok_item (k := 0) F11 TCR TCB n_len n_int mMB KB IB dB G10 G12 G14, k11, b11, m11⟩
  have G7 : Dn l.prog w K mg base 4 "read_word" ["reader", "word"] (spRead K CR1 CB1) f7 _ := ⟨ok_read (k := 0) F7 TCR TCB n_len G11 G8 G9, k7, b7, m7⟩
  have G6 : Dn l.prog w K mg base 5 "read_expression" ["text"] (spRx K) f6 _ := ⟨ok_rx (k := 0) F6 TCR n_enumerate KR IR dR G7, k6, b6, m6⟩
  have G17 : Dn l.prog w K mg base 2 "_law_pick" ["_law_box_here", "_law_items"] spPick f17 _ := ⟨ok_pick (k := 0) F17 n_len Tt, k17, b17, m17⟩
  have G18 : Dn l.prog w K mg base 1 "_law_forms" ["_law_sort"] spForms f18 _ := ⟨ok_forms (k := 0) F18 n_dict n_list, k18, b18, m18⟩
  have G19 : Dn l.prog w K mg base 3 "_law_word" ["_law_box_here"] spWord f19 _ := ⟨ok_word (k := 0) F19 n_range Tt G17, k19, b19, m19⟩
  have G20 : Dn l.prog w K mg base 4 "_law_thing" ["_law_box_here", "_law_slot"] spThing f20 _ := ⟨ok_thing (k := 0) F20 Tt G17 G19, k20, b20, m20⟩
  have V : ∀ n : Nat, FnOk l.prog w K mg base CX0 (n + 31) f21 _ ["_law_box_here", "_law_sort", "_law_deep", "_law_room"] (spTree K n) := fun n => by
    induction n with
    | zero =>
      have no : ∀ vs H Q E, ¬ spTree K 0 vs H Q E := fun vs H Q E h => by
        obtain ⟨p, g, wd, e, w0, s, _, _, _, _, h1, h2, _⟩ := h
        omega
      exact ⟨fun vs H Q E h => absurd h (no vs H Q E), fun A outer s H args us vs Q E _ _ _ _ h => absurd h (no vs H Q E)⟩
    | succ n ih => exact ok_tree (k := n + 27) F21 n_list n_tuple n_range Tt G18 G17 G20 ih b21 m21
  have G21 : Dn l.prog w K mg base 44 "_law_tree" ["_law_box_here", "_law_sort", "_law_deep", "_law_room"] (spTree K 13) f21 _ := ⟨V 13, k21, b21, m21⟩
  have V2 : ∀ n : Nat, FnOk l.prog w K mg base CX0 (n + 1) f22 _ ["_law_tree_here"] (spWords K n) := fun n => by
    induction n with
    | zero =>
      have no : ∀ vs H Q E, ¬ spWords K 0 vs H Q E := fun vs H Q E h => by
        obtain ⟨v, d, f, s, _, _, _, _, h1, _⟩ := h
        omega
      exact ⟨fun vs H Q E h => absurd h (no vs H Q E), fun A outer s H args us vs Q E _ _ _ _ h => absurd h (no vs H Q E)⟩
    | succ n ih => exact ok_words (k := n) F22 n_dict n_list n_str n_zip G18 ih b22 m22
  have G22 : Dn l.prog w K mg base 42 "_law_words" ["_law_tree_here"] (spWords K 41) f22 _ := ⟨V2 41, k22, b22, m22⟩
  have G24 : Dn l.prog w K mg base 44 "_law_inside" ["_law_tree_here"] (spInside K 3300 50) f24 _ := ⟨ok_inside (k := 42) (by decide) (by decide) F24 n_int n_zip G18, k24, b24, m24⟩
  have GR := ok_right (P := l.prog) (w := w) (base := base) (k := 1) F23 n_repr G22 G4 G6
  exact ok_law (n := 43) F25 n_range n_all ⟨ok_box (k := 0) F15 n_abs, k15, b15, m15⟩ Tt G21 G24 GR k23 b23 m23
end Rl
open PySem PySem.W PyProof.Rows in
set_option maxRecDepth 100000 in
set_option maxHeartbeats 0 in
theorem PySem.Challenge.cw_runlore_k12_texts_of_expressions_holds : PySem.Challenge.rw_runlore_k12_texts_of_expressions.Holds := by
  w_on; o_law; k_head; (case hw => w_witness2)
  k_fill
  refine Rl.walkG (l := PySem.Challenge.rw_runlore_k12_texts_of_expressions) (n := 63) (k := 45) (x := "_law_script") (sp := Rl.spLaw) rfl (by decide) rfl ⟨rfl, by decide, by decide⟩ (fun w h Y => PySem.W.kIn_of Y) ?F (fun K H a ns hl _ hS => ⟨a, ns, rfl, hS, hl, fun _ => rfl⟩)
  case F =>
    intro w mg fa h KX G hmg
    refine' Rl.all_mk KX G hmg ?aaE ?llE ?kkE ?ooE ?aaT ?llT ?kkT ?ooT ?gE0 ?hE0 ?gE1 ?hE1 ?gE2 ?hE2 ?gE3 ?hE3 ?gE4 ?hE4 ?gE5 ?hE5 ?gE6 ?hE6 ?gE7 ?hE7 ?gE8 ?hE8 ?gE9 ?hE9 ?gE10 ?hE10 ?gE11 ?hE11 ?gE12 ?hE12 ?gE13 ?hE13 ?gE14 ?hE14 ?gE15 ?hE15 ?gT0 ?hT0 ?gT1 ?hT1 ?gT2 ?hT2 ?gT3 ?hT3 ?gT4 ?hT4 ?gT5 ?hT5 ?gT6 ?hT6 ?w0 ?w1 ?w2 ?w3 ?w4 ?w5 ?w6 ?w7 ?w8 ?w9 ?w10 ?w11 ?w12 ?w13 ?w14 ?w15 ?aB ?aR ?aMB ?aMD ?pgB ?hdB ?poB ?saB ?mkB ?kcB ?noB_wanted ?noB_head ?noB_sorts ?noB_found ?amB ?imB ?lmB ?cmB ?kmB ?pgR ?hdR ?poR ?saR ?mkR ?kcR ?noR_brackets ?noR_tree ?amR ?imR ?lmR ?cmR ?kmR ?a1 ?l1 ?c1 ?k1 ?a2 ?l2 ?c2 ?k2 ?a3 ?l3 ?c3 ?k3 ?a4 ?l4 ?c4 ?k4 ?a5 ?l5 ?c5 ?k5 ?a6 ?l6 ?c6 ?k6 ?a7 ?l7 ?c7 ?k7 ?a8 ?l8 ?c8 ?k8 ?a9 ?l9 ?c9 ?k9 ?a10 ?l10 ?c10 ?k10 ?a11 ?l11 ?c11 ?k11 ?a12 ?l12 ?c12 ?k12 ?a13 ?l13 ?c13 ?k13 ?a14 ?l14 ?c14 ?k14 ?a15 ?l15 ?c15 ?k15 ?a16 ?l16 ?c16 ?k16 ?a17 ?l17 ?c17 ?k17 ?a18 ?l18 ?c18 ?k18 ?a19 ?l19 ?c19 ?k19 ?a20 ?l20 ?c20 ?k20 ?a21 ?l21 ?c21 ?k21 ?a22 ?l22 ?c22 ?k22 ?a23 ?l23 ?c23 ?k23 ?a24 ?l24 ?c24 ?k24 ?a25 ?l25 ?c25 ?k25 ?z1 ?z2 ?z3 ?z4 ?z5 ?z6 ?z7 ?z8 ?z9 ?z10 ?z11 ?z12 ?z13
    (case aaE => k_is)
    (case llE => k_is)
    (case kkE => k_keys)
    (case ooE => decide)
    (case aaT => k_is)
    (case llT => k_is)
    (case kkT => k_keys)
    (case ooT => decide)
    (case gE0 => k_is)
    (case hE0 => k_is)
    (case gE1 => k_is)
    (case hE1 => k_is)
    (case gE2 => k_is)
    (case hE2 => k_is)
    (case gE3 => k_is)
    (case hE3 => k_is)
    (case gE4 => k_is)
    (case hE4 => k_is)
    (case gE5 => k_is)
    (case hE5 => k_is)
    (case gE6 => k_is)
    (case hE6 => k_is)
    (case gE7 => k_is)
    (case hE7 => k_is)
    (case gE8 => k_is)
    (case hE8 => k_is)
    (case gE9 => k_is)
    (case hE9 => k_is)
    (case gE10 => k_is)
    (case hE10 => k_is)
    (case gE11 => k_is)
    (case hE11 => k_is)
    (case gE12 => k_is)
    (case hE12 => k_is)
    (case gE13 => k_is)
    (case hE13 => k_is)
    (case gE14 => k_is)
    (case hE14 => k_is)
    (case gE15 => k_is)
    (case hE15 => k_is)
    (case gT0 => k_is)
    (case hT0 => k_is)
    (case gT1 => k_is)
    (case hT1 => k_is)
    (case gT2 => k_is)
    (case hT2 => k_is)
    (case gT3 => k_is)
    (case hT3 => k_is)
    (case gT4 => k_is)
    (case hT4 => k_is)
    (case gT5 => k_is)
    (case hT5 => k_is)
    (case gT6 => k_is)
    (case hT6 => k_is)
    (case w0 => k_is)
    (case w1 => k_is)
    (case w2 => k_is)
    (case w3 => k_is)
    (case w4 => k_is)
    (case w5 => k_is)
    (case w6 => k_is)
    (case w7 => k_is)
    (case w8 => k_is)
    (case w9 => k_is)
    (case w10 => k_is)
    (case w11 => k_is)
    (case w12 => k_is)
    (case w13 => k_is)
    (case w14 => k_is)
    (case w15 => k_is)
    (case aB => k_is)
    (case aR => k_is)
    (case aMB => k_is)
    (case aMD => k_is)
    (case pgB => k_is)
    (case hdB => k_is)
    (case poB => k_is)
    (case saB => k_is)
    (case mkB => k_is)
    (case kcB => k_is)
    (case noB_wanted => k_is)
    (case noB_head => k_is)
    (case noB_sorts => k_is)
    (case noB_found => k_is)
    (case amB => k_is)
    (case imB => k_is)
    (case lmB => k_is)
    (case cmB => k_is)
    (case kmB => k_is)
    (case pgR => k_is)
    (case hdR => k_is)
    (case poR => k_is)
    (case saR => k_is)
    (case mkR => k_is)
    (case kcR => k_is)
    (case noR_brackets => k_is)
    (case noR_tree => k_is)
    (case amR => k_is)
    (case imR => k_is)
    (case lmR => k_is)
    (case cmR => k_is)
    (case kmR => k_is)
    (case a1 => k_is)
    (case l1 => k_is)
    (case c1 => k_is)
    (case k1 => k_is)
    (case a2 => k_is)
    (case l2 => k_is)
    (case c2 => k_is)
    (case k2 => k_is)
    (case a3 => k_is)
    (case l3 => k_is)
    (case c3 => k_is)
    (case k3 => k_is)
    (case a4 => k_is)
    (case l4 => k_is)
    (case c4 => k_is)
    (case k4 => k_is)
    (case a5 => k_is)
    (case l5 => k_is)
    (case c5 => k_is)
    (case k5 => k_is)
    (case a6 => k_is)
    (case l6 => k_is)
    (case c6 => k_is)
    (case k6 => k_is)
    (case a7 => k_is)
    (case l7 => k_is)
    (case c7 => k_is)
    (case k7 => k_is)
    (case a8 => k_is)
    (case l8 => k_is)
    (case c8 => k_is)
    (case k8 => k_is)
    (case a9 => k_is)
    (case l9 => k_is)
    (case c9 => k_is)
    (case k9 => k_is)
    (case a10 => k_is)
    (case l10 => k_is)
    (case c10 => k_is)
    (case k10 => k_is)
    (case a11 => k_is)
    (case l11 => k_is)
    (case c11 => k_is)
    (case k11 => k_is)
    (case a12 => k_is)
    (case l12 => k_is)
    (case c12 => k_is)
    (case k12 => k_is)
    (case a13 => k_is)
    (case l13 => k_is)
    (case c13 => k_is)
    (case k13 => k_is)
    (case a14 => k_is)
    (case l14 => k_is)
    (case c14 => k_is)
    (case k14 => k_is)
    (case a15 => k_is)
    (case l15 => k_is)
    (case c15 => k_is)
    (case k15 => k_is)
    (case a16 => k_is)
    (case l16 => k_is)
    (case c16 => k_is)
    (case k16 => k_is)
    (case a17 => k_is)
    (case l17 => k_is)
    (case c17 => k_is)
    (case k17 => k_is)
    (case a18 => k_is)
    (case l18 => k_is)
    (case c18 => k_is)
    (case k18 => k_is)
    (case a19 => k_is)
    (case l19 => k_is)
    (case c19 => k_is)
    (case k19 => k_is)
    (case a20 => k_is)
    (case l20 => k_is)
    (case c20 => k_is)
    (case k20 => k_is)
    (case a21 => k_is)
    (case l21 => k_is)
    (case c21 => k_is)
    (case k21 => k_is)
    (case a22 => k_is)
    (case l22 => k_is)
    (case c22 => k_is)
    (case k22 => k_is)
    (case a23 => k_is)
    (case l23 => k_is)
    (case c23 => k_is)
    (case k23 => k_is)
    (case a24 => k_is)
    (case l24 => k_is)
    (case c24 => k_is)
    (case k24 => k_is)
    (case a25 => k_is)
    (case l25 => k_is)
    (case c25 => k_is)
    (case k25 => k_is)
    (case z1 => k_is)
    (case z2 => k_is)
    (case z3 => k_is)
    (case z4 => k_is)
    (case z5 => k_is)
    (case z6 => k_is)
    (case z7 => k_is)
    (case z8 => k_is)
    (case z9 => k_is)
    (case z10 => k_is)
    (case z11 => k_is)
    (case z12 => k_is)
    (case z13 => k_is)

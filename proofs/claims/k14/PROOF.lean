import PyProof.Rows.All
import Wide.All
import OpenK.AllK
import Wide.FinOn
import PyProof.ReprRoads
import PyProof.StrLawsRepr
import PyProof.ReprLen
import PyProof.Rows.RegStrFacts
import PyProof.Rows.StrCase
import PyProof.Rows.ReprOcc
import HandS.ForMost
import HandS.IsInst
import HandS.Wide
import HandS.Style
import HandS.Flow
import HandS.Conv
import HandS.Walk
import HandS.Codes
import HandS.TupAny
import HandS.FStr
import HandS.Zip
import HandS.ListItems
import HandS.Iter
import HandS.More
import KE.KDictZip
import KE.GoesEnum
import PyProof.CollectWalk
import HandS.Star
import HandS.StrMore
import HandS.RaiseMore
import HandS.Small
import HandS.ClsMeth
import HandS.MakeKw
import HandS.Defaults
import HandS.Strs
import HandS.Text
import KE.GoesZip
import KE.GoesMore
import HandS.Base
import HandS.Call
import HandS.List
import HandS.Dict
import HandS.Ends
import HandS.Words
import HandS.WordsList
import HandS.WordsDict
import HandS.ExcValue
import HandS.Exc
import HandS.ExcOwn
import HandS.ExcInit
import HandS.ExcIs
import HandS.ExcField
import HandS.WordsExc
import HandS.MakeKwOnly
import HandS.Comp
import HandS.TryOnly
import KE.KExcIs
import KE.KIsAll
import PyProof.StrLawsChain
import PyProof.StrBlock2
import PySem.Challenge.RW_runlore_k14_whole_one_text_for_each_expr
set_option Elab.async false
set_option linter.all false
set_option maxRecDepth 100000
set_option exponentiation.threshold 2000
set_option maxHeartbeats 4000000
namespace Rl
open PySem PySem.Spec PyProof.Rows L2
/-- what can be printed: data of bounded depth whose text is short enough -/
structure Prn (d : PyData) : Prop where
  sh : d.showable = true
  nd : d.hasDict = false
  dp : d.depth ≤ 60
  sz : d.shown.length ≤ sizeLine
def rRep (K : PySem.W.Frag) : List V → Hp → VK → Prop := fun xs H Q =>
  ∃ v d, xs = [v] ∧ Dp K H v d ∧ Prn d ∧ Q (.str d.shown) H
theorem meets_extT (l b : Addr) (items items2 : Array Value) (n : Nat) (hlong : (!items.isEmpty && Builtin.List.listTooLong (items.size + items2.size)) = false) (h1 : items.size ≤ sizeLine) (h2 : items.size + items2.size ≤ sizeLine + 1) :
    Meets (Builtin.«list.extend» ⟨[.ref l, .ref b], []⟩) (fun _ R s => s.heap.get? l = some { cls := .type "list", data := .seq items n } ∧ IsTup s.heap b items2 ∧
      R (.ok (.ret .none)) { s with heap := s.heap.update l (Obj.mapSeq fun x => x ++ items2) }) := by
  intro prog w A R s ⟨hl, ⟨o, ho, hc, n2, hd⟩, hR⟩
  show wpAny _ A.in1 (Builtin.List.listExtendWith (.ref l) (.ref b) .none) _ _ s
  unfold Builtin.List.listExtendWith
  refine wpAny_bind (wpAny_typeOf ⟨o, ho, hc⟩ ?_)
  have e1 : (Builtin.List.listSameRef (.ref l) (.ref b) || Value.type "tuple" == Value.type "list" || Value.type "tuple" == Value.type "tuple") = true := by simp
  simp only [e1, if_true]
  refine wpAny_bind ?_
  unfold Builtin.List.listItems
  refine wpAny_bind (wpAny_seqItems ho hd (wpAny_pure ?_))
  refine wpAny_bind ?_
  refine wpAny_bind (wpAny_seqItems hl rfl (wpAny_pure ?_))
  rw [hlong]
  show wpAny _ A.in1 (updateSeq l (· ++ items2) >>= fun _ => ret .none) _ _ s
  have h3 : (items ++ items2).size ≤ sizeLine + 1 := by rw [Array.size_append]; exact h2
  refine wpAny_bind (wpAny_updateSeq hl rfl ?_ h1 h3)
  exact wpAny_pure hR
section
variable {X : Cx}
theorem call_rep (hg : X.A.guards = some []) (hu : X.A.units + 64 < cLine) : CallR X (.builtin "repr") (rRep X.K) := by
  intro pins s σ H xs us Q I r h
  obtain ⟨v, d, rfl, hd, ⟨hs, hnd, hdep, hsz⟩, q⟩ := h
  obtain ⟨u, rfl, ru⟩ := vals1 r
  obtain ⟨as, rd⟩ := Dp.reads I d v u hd ru
  cases hd with
  | non =>
    cases ru
    exact PySem.P.repr_of_none ⟨.str _, H, I.tok _, ⟨_, rfl⟩, q⟩
  | bl b =>
    cases ru
    refine PySem.P.repr_of_bool ⟨.str (if b then "True" else "False"), H, I.tok _, ⟨_, rfl⟩, ?_⟩
    cases b <;> exact q
  | int i =>
    obtain ⟨t, rfl⟩ := ru
    exact PySem.P.repr_of_int (of_decide_eq_true (by simpa only [PyData.showable] using hs)) ⟨.str _, H, I.tok _, ⟨_, rfl⟩, q⟩
  | str x =>
    obtain ⟨t, rfl⟩ := ru
    exact PySem.P.repr_of_str ⟨.str _, H, I.tok _, ⟨_, rfl⟩, q⟩ hsz
  | lst h1 h2 =>
    cases ru
    exact repr_of_reads' rd hs (PyData.noDict_hsm hnd) hg (by omega) (fun _ _ e => e) (fun h' u tk hk => ⟨.str _, H, I.kept hk, ⟨_, rfl⟩, q⟩) hsz
  | tup h1 h2 =>
    cases ru
    exact repr_of_reads' rd hs (PyData.noDict_hsm hnd) hg (by omega) (fun _ _ e => e) (fun h' u tk hk => ⟨.str _, H, I.kept hk, ⟨_, rfl⟩, q⟩) hsz
/-- xs.extend(t), t a tuple -/
def rExtT (K : PySem.W.Frag) : V → List V → Hp → VK → Prop := fun x vs H Q =>
  ∃ l b xs zs, x = .ref l ∧ vs = [.ref b] ∧ H l = some (.lst xs) ∧ SqT K H b zs ∧ xs.length + zs.length ≤ sizeLine ∧ Q .non (upd H l (.lst (xs ++ zs)))
theorem mt_extT : MtM X "list.extend" (rExtT X.K) := by
  intro pins s σ H x vs v us Q I rx rv h
  obtain ⟨l, b, xs, zs, rfl, rfl, hH, hB, hz, q⟩ := h
  cases rx
  obtain ⟨u, rfl, ru⟩ := rv.one
  cases ru
  obtain ⟨z, its, n, r, hl, e⟩ := I.lstM hH
  obtain ⟨its2, r2, tp, hl2⟩ := I.tuple hB
  have hl3 := r2.length
  have hl4 := r.length
  have hsz : its.toArray.size + its2.toArray.size ≤ sizeLine := by rw [List.size_toArray, List.size_toArray]; omega
  have hlong : (!its.toArray.isEmpty && Builtin.List.listTooLong (its.toArray.size + its2.toArray.size)) = false := by
    rw [notLongL hsz, Bool.and_false]
  refine call_meets F.slot_list_extend ⟨_, e, rfl⟩ F.entry_list_extend (F.args_list_extend_2 _ _)
    (meets_extT l b its.toArray its2.toArray n hlong (by omega) (by omega)) ⟨e, tp, ?_⟩
  refine ⟨.non, _, I.lset (its' := its ++ its2) hH e (by simp) (r.append r2) ?_, rfl, q⟩
  rw [List.length_append]
  omega
end
/-! a def that may print (repr): called where nothing is being printed -/
section
variable {P : Program} {w : World} {K : PySem.W.Frag} {mg : Str → Option Value} {base : Heap} {CX : CXT}
structure FnG (P : Program) (w : World) (K : PySem.W.Frag) (mg : Str → Option Value) (base : Heap)
    (CX : CXT) (k : Nat) (f : Addr) (fd : FuncData) (ps : List Str) (sp : Sp) : Prop where
  len : ∀ ws H Q E, sp ws H Q E → ws.length = ps.length
  go : ∀ (B : Around) (out : List Env) (t : Shared) (H : Hp) (as : Args) (us : List Value) (ws : List V) (Q : VK) (E : XK), B.guards = some [] → Room k B →
    Env0 P w K mg base B out t H → BindsTo t fd as (ps.zip us) → Vals ws us → sp ws H Q E →
    codeAny (model P w) B (.call (.ref f) as) (CR CX out P w H t Q E) t
theorem FnOk.toG {k : Nat} {f : Addr} {fd : FuncData} {ps : List Str} {sp : Sp} (F : FnOk P w K mg base CX k f fd ps sp) : FnG P w K mg base CX k f fd ps sp :=
  ⟨F.len, fun B out t H as us ws Q E _ => F.run B out t H as us ws Q E⟩
theorem FnG.mono {j k : Nat} {f : Addr} {fd : FuncData} {ps : List Str} {sp : Sp} (F : FnG P w K mg base CX j f fd ps sp) (h : j ≤ k) : FnG P w K mg base CX k f fd ps sp :=
  ⟨F.len, fun B out t H as us ws Q E g r => F.go B out t H as us ws Q E g (r.mono h)⟩
theorem fnG_of {k : Nat} {f : Addr} {name qual : Str} {params : Arguments} {body : List Stmt} {scope : Scope} {dV kV doc pm cdv ct oc : Value} {an od : Option Addr} {osl : Array (Option Value)} {N ps : List Str} {sp : Sp}
    (lk : K.lookup f = some ⟨oc, od, .func (PySem.W.fnOf name qual params body scope dV kV doc pm an cdv ct), osl⟩) (hcd : PySem.W.codeIn K cdv qual = true) (S : FnScope N ps scope)
    (len : ∀ ws H Q E, sp ws H Q E → ws.length = ps.length)
    (hb : ∀ (B : Around) (out : List Env) (t : Shared) (H : Hp) (ws : List V) (Q : VK) (E : XK), B.guards = some [] → Room k (B.deeper (envOfC qual scope t.heap.objs.size f cdv)) → sp ws H Q E →
      ∃ r, PSs (cxOf CX P w K mg base N qual scope f cdv B out t H E) body r ∧ r { nx := fun _ H' => Q .non H', rt := Q } (start N ws) H) :
    FnG P w K mg base CX (k + 1) f (PySem.W.fnOf name qual params body scope dV kV doc pm an cdv ct) ps sp := by
  refine ⟨len, ?_⟩
  intro B out t H as us ws Q E hg hr ee bb rr hsp
  have hl := len _ _ _ _ hsp
  have kx : K.In t.heap := ee.mod.kin.keeps fun b o z => (ee.bs b o z).1
  have lm : t.heap.NoLimit := ee.mod.nolimit.keeps fun b o z => (ee.bs b o z).1
  have kinds : ∀ y ∈ ps.zip us, scope.names.lookup y.1 = some .local ∨ (scope.names.lookup y.1 = some .cell ∧
      ((cellsFrom (t.heap.objs.size + 1) scope.names []).lookup y.1).isSome = true) := by
    rintro ⟨n, v⟩ hy
    rcases S.par n (List.of_mem_zip hy).1 with q | q
    · exact Or.inl q
    · exact Or.inr ⟨q, PySem.W.cellsFrom_some _ _ _ (Or.inl q)⟩
  refine codeAny_call_function hr.depth (kx _ _ lk) rfl S.co S.gen rfl (PySem.W.codeRec_of kx hcd) (bb _ _ _ _ ?_)
  refine wpAny_newFunctionEnv_cells S.kind kinds fun env he t1 x => ?_
  subst he
  refine ⟨lm.keeps x.toInCall.keep, codeAny_func ?_⟩
  obtain ⟨r, ht, hq⟩ := hb B out t H ws Q E hg (hr.deeper _) hsp
  have J := inv_start (CX := CX) (E := E) S hr.hd ee hl rr x
  refine wpAny_mono (ht.run [] t1 (start N ws) H _ J hq) (fun fl t' hs => ?_) (fun _ _ hs => hs)
  cases fl with
  | brk => exact hs.elim fun _ z => z.elim fun _ z => z.2.elim
  | cont => exact hs.elim fun _ z => z.elim fun _ z => z.2.elim
  | ret u =>
    obtain ⟨v, _, H', J', rv, q⟩ := hs
    exact ⟨v, H', J'.os, J'.bare, J'.base, J'.hok, rv, q⟩
  | next =>
    obtain ⟨_, H', J', q⟩ := hs
    exact ⟨.non, H', J'.os, J'.bare, J'.base, J'.hok, rfl, q⟩
end
section
variable {X : Cx} {CX : CXT} {k : Nat} {f : Addr} {fd : FuncData} {ps : List Str} {sp : Sp} {ds : List Value} {dvs : List V} {E : XK} {x : Str} {p pos : Pos} {e : Expr} {es : List Expr} {t : TA}
theorem pe_callG (F : FnG X.prog X.w X.K X.mg X.base CX k f fd ps sp) (gd : X.A.guards = some []) (hr : Room k X.A) (hg : Gl X x) (hm : X.mg x = some (.ref f)) (hk : PySem.W.keepIn X.K (.ref f) = true)
    (hb : Binds X.K fd ps ds) (hd : Vals dvs ds) (hx : Passes CX X E) (ha : PA X (e :: es) t) (hdb : (x == ("__debug__" : Str)) = false := by decide)
    (he : starEach (e :: es) X.env = (false, eval e X.env) :: starEach es X.env := by rfl) (hpl : (backTo pos (starEach es X.env)).any (·.1) = false := by rfl) :
    PE X (.Call (.Name x p) (e :: es) [] pos) (tCall sp dvs E t) := by
  refine ⟨fun pins s σ H Q I h => wpAny_Call_Name_kw (ld_glob I hg hm ?_ hdb)⟩
  refine PySem.W.callWith_K (h₀ := X.base) I.ok.mod.kin hk ?_ he hpl
  refine thn (ha.run pos pins s σ H _ I h) fun us t1 ⟨ws, H1, J, r, q⟩ => ⟨J.kIn, ?_⟩
  have r2 : Vals (ws ++ dvs) (us ++ ds) := r.append hd
  have hl : (us ++ ds).length = ps.length := r2.length.symm.trans (F.len _ _ _ _ q)
  refine wpAny_call (codeAny_mono (F.go X.A X.stack t1 H1 ⟨us, []⟩ (us ++ ds) (ws ++ dvs) Q E gd hr J.env0 (hb t1 us J.kIn hl) r2 q) ?_)
  intro r t' hq
  cases r with
  | error z => exact hx pins σ H1 t1 z t' J hq
  | ok fl =>
    cases fl with
    | ret u => exact J.after hq
    | next => exact False.elim hq
    | brk => exact False.elim hq
    | cont => exact False.elim hq
end
/-! the law's own call, where its def may print -/
abbrev Tru (s₁ : Shared) (r : Result) (t : Shared) : Prop := r = .ok (.ret (.bool true)) ∧ OldK s₁.heap t.heap ∧ t.os = s₁.os ∧ AllBare t.gens
theorem law_core {P : Program} {w : World} {K : PySem.W.Frag} {mg mb : Str → Option Value} {k : Nat} {fa a : Addr} {fd : FuncData} {x : Str} {sp : Sp} {s₁ : Shared} {vs : List Value} {ns : List Int}
    (kx : K.In s₁.heap) (n1 : s₁.heap.Ns mainGlobals mg) (n2 : s₁.heap.Ns builtinsNs mb) (n3 : ∀ x : Str, x ≠ "__name__" → mb x = bootBuiltins x) (n4 : s₁.heap.NoLimit) (g0 : s₁.gens = #[])
    (oa : s₁.heap.get? a = some { cls := .type "list", data := .seq vs.toArray }) (hr : Room k callerA)
    (F : ∀ base : Heap, K.In base → base.Ns mainGlobals mg → FnG P w K mg base CX0 k fa fd [x] sp) (bd : ∀ (s : Shared) (u : Value), BindsTo s fd ⟨[u], []⟩ [(x, u)])
    (hsp : ∀ H : Hp, Only H → SqL K H a (ns.map V.int) → sp [.ref a] H (fun v _ => v = .bl true) fun _ _ _ => False)
    (H : Hp) (hO : Only H) (hS : SqL K H a (ns.map V.int)) (ok : HOk P w H s₁.heap) (hA : ∀ b, H b ≠ none → b = a) (hK : H a ≠ none → K.lookup a = none) :
    codeAny (model P w) callerA (.call (.ref fa) ⟨[.ref a], []⟩) (Tru s₁) s₁ := by
  have out : ∀ {b : Addr} {o : Obj} {es : Array DictEntry} {ep : Nat}, s₁.heap.get? b = some o → o.data = .dict es ep → H b = none := by
    intro b o es ep e d
    by_cases q : H b = none
    · exact q
    · have z := hA b q
      subst z
      rw [oa] at e
      cases e
      exact nomatch d
  have nsK : ∀ {b : Addr} {m : Str → Option Value}, s₁.heap.Ns b m → (hidT s₁.heap H).Ns b m := by
    rintro b m ⟨o, es, ep, e, d, r⟩
    exact ⟨o, es, ep, hidT_get e (out e d), d, r⟩
  have kb : K.In (hidT s₁.heap H) := by
    intro b o e
    refine hidT_get (kx b o e) ?_
    by_cases q : H b = none
    · exact q
    · have z := hA b q
      subst z
      have y := hK q
      rw [y] at e
      cases e
  have lim : (hidT s₁.heap H).NoLimit := by
    obtain ⟨mc, h1, h2⟩ := n4
    exact ⟨mc, nsK h1, h2⟩
  have md : Mod K mg (hidT s₁.heap H) := ⟨kb, nsK n1, ⟨mb, nsK n2, n3⟩, lim⟩
  have ee : Env0 P w K mg (hidT s₁.heap H) callerA [] s₁ H := by
    refine ⟨rfl, md, fun b o e => of_hidT e, Nat.le_of_eq (hidT_size _ _), trivial, ?_, ok, .of_eq g0⟩
    intro b hb
    exact absurd (show b ∈ ([] : List Addr) from hb) (by simp)
  have run := (F _ kb (nsK n1)).go callerA [] s₁ H ⟨[.ref a], []⟩ [.ref a] [.ref a] _ _ rfl hr ee (bd s₁ (.ref a)) (.cons rfl .nil) (hsp H hO hS)
  refine codeAny_mono run ?_
  intro r t h
  cases r with
  | error e => exact False.elim h
  | ok fl =>
    cases fl with
    | brk => exact False.elim h
    | cont => exact False.elim h
    | next => exact False.elim h
    | ret u =>
      obtain ⟨v, H', os, bare, un, ok', rv, q⟩ := h
      have q' : v = .bl true := q
      subst q'
      obtain rfl : u = Value.bool true := rv
      refine ⟨rfl, OldK.of_keep ?_, os, bare⟩
      intro b o e
      rcases hO b with z | ⟨ob, xs, z⟩
      · exact un.keep b o e z (fun y => absurd (show b ∈ ([] : List Addr) from y) (by simp)) (by simp)
      · obtain ⟨e1, _⟩ := ok b _ z
        obtain ⟨e2, _⟩ := ok' b _ (un.frzs b ob _ z)
        rw [e] at e1
        cases e1
        exact e2
theorem law_callG {P : Program} {w : World} {K : PySem.W.Frag} {mg mb : Str → Option Value} {k : Nat} {fa a : Addr} {fd : FuncData} {x : Str} {sp : Sp} {s₁ : Shared} {vs : List Value} {ns : List Int}
    (kx : K.In s₁.heap) (n1 : s₁.heap.Ns mainGlobals mg) (n2 : s₁.heap.Ns builtinsNs mb) (n3 : ∀ x : Str, x ≠ "__name__" → mb x = bootBuiltins x) (n4 : s₁.heap.NoLimit) (g0 : s₁.gens = #[])
    (oa : s₁.heap.get? a = some { cls := .type "list", data := .seq vs.toArray }) (hi : IntsAre vs ns) (hl : ns.length ≤ sizeLine) (hr : Room k callerA)
    (F : ∀ base : Heap, K.In base → base.Ns mainGlobals mg → FnG P w K mg base CX0 k fa fd [x] sp) (bd : ∀ (s : Shared) (u : Value), BindsTo s fd ⟨[u], []⟩ [(x, u)])
    (hsp : ∀ H : Hp, Only H → SqL K H a (ns.map V.int) → sp [.ref a] H (fun v _ => v = .bl true) fun _ _ _ => False) :
    codeAny (model P w) callerA (.call (.ref fa) ⟨[.ref a], []⟩) (Tru s₁) s₁ := by
  have rv := vals_ints hi
  have lv := rv.length
  rw [List.length_map] at lv
  have go := law_core (ns := ns) kx n1 n2 n3 n4 g0 oa hr F bd hsp
  by_cases hk : K.lookup a = none
  · refine go (fun b => if b = a then some (.frz { cls := .type "list", data := .seq vs.toArray } (.lst (ns.map V.int))) else none) ?_ ?_ ?_ ?_ (fun _ => hk)
    · intro b
      by_cases hb : b = a
      · exact Or.inr ⟨_, _, if_pos hb⟩
      · exact Or.inl (if_neg hb)
    · exact .inl (.inr ⟨{ cls := .type "list", data := .seq vs.toArray }, if_pos rfl⟩)
    · intro b u z
      by_cases hb : b = a
      · cases (if_pos hb).symm.trans z
        subst hb
        exact ⟨oa, by rw [List.length_map]; exact hl, vs, _, rv, oa⟩
      · cases (if_neg hb).symm.trans z
    · intro b z
      by_cases hb : b = a
      · exact hb
      · exact absurd (if_neg hb) z
  · obtain ⟨o, hk⟩ := Option.ne_none_iff_exists'.mp hk
    have e := kx a o hk
    rw [oa] at e
    cases e
    refine go (fun _ => none) (fun _ => .inl rfl) ?_ ?_ (fun b z => absurd rfl z) (fun z => absurd rfl z)
    · exact .inr ⟨_, vs.toArray, _, hk, rfl, rfl, rfl, by rw [List.size_toArray, ← lv]; exact hl, by simpa using rv⟩
    · intro b u z
      exact nomatch (show (none : Option HO) = some u from z)
theorem walkG {l : PySem.W.OpenLaw} {n k : Nat} {q : Program} {loose : List Str} {XP : (Str → Option Value) → Heap → Prop} {YP : World → Heap → Prop} {d : DefRec} {K : Params → PySem.W.Frag} {sp : PySem.W.Frag → Sp} {x : Str}
    (hn : l.most = some n) (hn2 : n ≤ sizeLine) (hdf : d.params.defaults = []) (hr : Room k callerA) (hY : ∀ (w : World) (h : Heap), YP w h → (K w.params).In h)
    (F : ∀ (w : World) (mg : Str → Option Value) (fa : Addr) (h : Heap), (K w.params).In h → h.Ns mainGlobals mg → mg d.name = some (.ref fa) →
      ∃ fd : FuncData, (∀ (s : Shared) (u : Value), BindsTo s fd ⟨[u], []⟩ [(x, u)]) ∧ ∀ base : Heap, (K w.params).In base → base.Ns mainGlobals mg → FnG l.prog w (K w.params) mg base CX0 k fa fd [x] (sp (K w.params)))
    (hsp : ∀ (K : PySem.W.Frag) (H : Hp) (a : Addr) (ns : List Int), ns.length ≤ n → Only H → SqL K H a (ns.map V.int) → sp K [.ref a] H (fun v _ => v = .bl true) fun _ _ _ => False) :
    PySem.W.WalkO q loose XP YP l.row.toRowW d [] (fun f vs => PySem.call f vs) := by
  refine Att.attach_call hn hdf ?_
  intro w s₀ s₁ mg mb fa o pm cd doc a vs ns G Y ho hd hcd hmg hobj hints hlen hg
  obtain ⟨fd, hb, hF⟩ := F w mg fa _ (hY w _ Y) G.T.g hmg
  exact law_callG (hY w _ Y) G.T.g G.T.b G.T.builtins G.T.nolimit hg hobj hints (Nat.le_trans hlen hn2) hr hF hb (fun H hO hS => hsp (K w.params) H a ns hlen hO hS)
/-! heaps: what is kept, but for some addresses -/
def cut (l : List Addr) (H : Hp) : Hp := fun b => if b ∈ l then none else H b
def Off (l : List Addr) (H H' : Hp) : Prop := Same (cut l H) (cut l H')
theorem cut_out {l : List Addr} {H : Hp} {b : Addr} (h : b ∉ l) : cut l H b = H b := if_neg h
theorem cut_in {l : List Addr} {H : Hp} {b : Addr} (h : b ∈ l) : cut l H b = none := if_pos h
theorem cut_some {l : List Addr} {H : Hp} {b : Addr} {o : HO} (h : cut l H b = some o) : b ∉ l ∧ H b = some o := by
  by_cases e : b ∈ l
  · rw [cut_in e] at h
    cases h
  · rw [cut_out e] at h
    exact ⟨e, h⟩
theorem same_new {H : Hp} {p : Addr} (h : H p = none) (o : HO) : Same H (upd H p o) := fun b u q => by
  rw [upd_ne (ne_of_none q h)]
  exact q
theorem cut_same (l : List Addr) (H : Hp) : Same (cut l H) H := fun _ _ h => (cut_some h).2
theorem Off.refl (l : List Addr) (H : Hp) : Off l H H := Same.refl _
theorem Off.trans {l : List Addr} {H H1 H2 : Hp} (a : Off l H H1) (b : Off l H1 H2) : Off l H H2 := Same.trans a b
theorem Off.of {l : List Addr} {H H' : Hp} (s : Same H H') : Off l H H' := fun b o h => by
  obtain ⟨n, e⟩ := cut_some h
  rw [cut_out n]
  exact s b o e
theorem Off.get {l : List Addr} {H H' : Hp} (s : Off l H H') {b : Addr} {o : HO} (h : H b = some o) (n : b ∉ l) : H' b = some o := by
  have q := s b o (by rw [cut_out n]; exact h)
  exact (cut_some q).2
theorem Off.mono {l m : List Addr} {H H' : Hp} (s : Off l H H') (h : ∀ b ∈ l, b ∈ m) : Off m H H' := fun b o e => by
  obtain ⟨n, e⟩ := cut_some e
  rw [cut_out n]
  exact s.get e fun z => n (h b z)
/-- a change at an address that is not counted -/
theorem Off.put {l : List Addr} {H : Hp} {p : Addr} {o : HO} (h : p ∈ l) : Off l H (upd H p o) := fun b u e => by
  obtain ⟨n, e⟩ := cut_some e
  rw [cut_out n, upd_ne (fun z => n (by rw [z]; exact h))]
  exact e
/-- an address that was free then -/
theorem Off.free {l : List Addr} {H H' : Hp} (s : Off l H H') {b : Addr} (h : H' b = none) (n : b ∉ l) : H b = none := by
  cases q : H b with
  | none => rfl
  | some o =>
    rw [s.get q n] at h
    cases h
/-! data -/
theorem seqT_up {K : PySem.W.Frag} {H H' : Hp} {a : Addr} {xs : List V} (s : Same H H') (h : SqT K H a xs) : SqT K H' a xs := by
  rcases h with (h | ⟨o, h⟩) | h
  · exact .inl (.inl (s _ _ h))
  · exact .inl (.inr ⟨o, s _ _ h⟩)
  · exact .inr h
mutual
theorem Dp.up {K : PySem.W.Frag} {H H' : Hp} (s : Same H H') : ∀ (d : PyData) (v : V), Dp K H v d → Dp K H' v d
  | .none, _, h => by cases h; exact .non
  | .bool b, _, h => by cases h; exact .bl b
  | .int i, _, h => by cases h; exact .int i
  | .str x, _, h => by cases h; exact .str x
  | .list ds, _, h => by
    cases h with
    | lst h1 h2 => exact .lst (s.seq h1) (Dp.ups s ds _ h2)
  | .tuple ds, _, h => by
    cases h with
    | tup h1 h2 => exact .tup (seqT_up s h1) (Dp.ups s ds _ h2)
  | .dict _, _, h => by cases h
theorem Dp.ups {K : PySem.W.Frag} {H H' : Hp} (s : Same H H') : ∀ (ds : List PyData) (vs : List V), DpAll K H vs ds → DpAll K H' vs ds
  | [], _, h => by cases h; exact .nil
  | d :: ds, _, h => by
    cases h with
    | cons h1 h2 => exact .cons (Dp.up s d _ h1) (Dp.ups s ds _ h2)
end
theorem DpAll.len {K : PySem.W.Frag} {H : Hp} : ∀ {vs : List V} {ds : List PyData}, DpAll K H vs ds → vs.length = ds.length
  | _, _, .nil => rfl
  | _, _, .cons _ t => congrArg (· + 1) (DpAll.len t)
theorem DpAll.get {K : PySem.W.Frag} {H : Hp} : ∀ {vs : List V} {ds : List PyData} {i : Nat} {v : V}, DpAll K H vs ds → vs[i]? = some v → ∃ d, ds[i]? = some d ∧ Dp K H v d
  | _, _, _, _, .nil, e => by simp at e
  | _, _, 0, _, .cons h _, e => by simp at e; subst e; exact ⟨_, rfl, h⟩
  | _, _, i + 1, _, .cons _ t, e => by
    obtain ⟨d, a, b⟩ := DpAll.get (i := i) t (by simpa using e)
    exact ⟨d, by simpa using a, b⟩
theorem DpAll.app {K : PySem.W.Frag} {H : Hp} : ∀ {vs ws : List V} {ds es : List PyData}, DpAll K H vs ds → DpAll K H ws es → DpAll K H (vs ++ ws) (ds ++ es)
  | _, _, _, _, .nil, s => s
  | _, _, _, _, .cons r t, s => .cons r (DpAll.app t s)
/-- the name of a thing's type -/
def tyN : PyData → String
  | .none => "NoneType"
  | .bool _ => "bool"
  | .int _ => "int"
  | .str _ => "str"
  | .list _ => "list"
  | .tuple _ => "tuple"
  | .dict _ => "dict"
theorem tyD {K : PySem.W.Frag} {H : Hp} {v : V} {d : PyData} (h : Dp K H v d) : TyX K H v (.type (tyN d)) := by
  cases h with
  | non => exact .base .non
  | bl b => exact .base (.bl b)
  | int i => exact .base (.int i)
  | str x => exact .base (.str x)
  | lst h _ =>
    rcases h with (h | ⟨o, h⟩) | ⟨o, its, n, h, c, _⟩
    · exact .base (.lst h)
    · exact .base (.frz h)
    · exact .kList h c
  | tup h _ =>
    rcases h with (h | ⟨o, h⟩) | ⟨o, its, n, h, c, _⟩
    · exact .base (.tup h)
    · exact .fTuple h
    · exact .kTuple h c
/-- isinstance(x, T) of data -/
def rIsD (K : PySem.W.Frag) : List V → Hp → VK → Prop := fun xs H Q =>
  ∃ v d T b, xs = [v, .ty T] ∧ Dp K H v d ∧ kitB (tyN d) T = some b ∧ Q (.bl b) H
theorem call_isD {X : Cx} : CallR X (.builtin "isinstance") (rIsD X.K) := by
  intro pins s σ H xs us Q I r h
  obtain ⟨v, d, T, b, rfl, hd, hk, q⟩ := h
  exact call_isi pins s σ H _ us Q I r ⟨v, .ty T, _, _, b, rfl, .ty T, tyD hd, kit_ty hk, q⟩
/-! the box that a law draws from -/
def bx (g : Addr) (n s t : Int) : List (Key × V) := [(Sum.inr "great", .ref g), (Sum.inr "now", .int n), (Sum.inr "seed", .int s), (Sum.inr "turn", .int t)]
structure Box (H : Hp) (p g : Addr) : Prop where
  ex : ∃ n s t gs, H p = some (.dK (bx g n s t)) ∧ H g = some (.lst (List.map V.int gs)) ∧ gs.length ≤ 1000
theorem Box.ne {H : Hp} {p g : Addr} (b : Box H p g) : p ≠ g := by
  obtain ⟨n, s, t, gs, h1, h2, _⟩ := b.ex
  exact ne_of h1 h2 (by intro z; cases z)
theorem Box.off {H H' : Hp} {p g : Addr} {l : List Addr} (b : Box H p g) (h : Off l H H') (n1 : p ∉ l) (n2 : g ∉ l) : Box H' p g := by
  obtain ⟨n, s, t, gs, h1, h2, h3⟩ := b.ex
  exact ⟨n, s, t, gs, h.get h1 n1, h.get h2 n2, h3⟩
theorem Box.same {H H' : Hp} {p g : Addr} (b : Box H p g) (h : Same H H') : Box H' p g := by
  obtain ⟨n, s, t, gs, h1, h2, h3⟩ := b.ex
  exact ⟨n, s, t, gs, h _ _ h1, h _ _ h2, h3⟩
theorem kgn : ¬ ((Sum.inr "great" : Key) = (Sum.inr "now" : Key)) := by decide +kernel
theorem kgs : ¬ ((Sum.inr "great" : Key) = (Sum.inr "seed" : Key)) := by decide +kernel
theorem kgt : ¬ ((Sum.inr "great" : Key) = (Sum.inr "turn" : Key)) := by decide +kernel
theorem kns : ¬ ((Sum.inr "now" : Key) = (Sum.inr "seed" : Key)) := by decide +kernel
theorem knt : ¬ ((Sum.inr "now" : Key) = (Sum.inr "turn" : Key)) := by decide +kernel
theorem kst : ¬ ((Sum.inr "seed" : Key) = (Sum.inr "turn" : Key)) := by decide +kernel
theorem knf (a b : Key) (h : ¬ a = b) : ¬ b = a := fun z => h z.symm
section
variable (g : Addr) (n s t : Int)
theorem bx_great : valV (bx g n s t) (Sum.inr "great" : Key) = some (.ref g) := by
  simp [valV, bx]
theorem bx_now : valV (bx g n s t) (Sum.inr "now" : Key) = some (.int n) := by
  simp only [valV, bx, List.find?_cons, decide_eq_false kgn, decide_true, Option.map_some]
theorem bx_seed : valV (bx g n s t) (Sum.inr "seed" : Key) = some (.int s) := by
  simp only [valV, bx, List.find?_cons, decide_eq_false kgs, decide_eq_false kns, decide_true, Option.map_some]
theorem bx_turn : valV (bx g n s t) (Sum.inr "turn" : Key) = some (.int t) := by
  simp only [valV, bx, List.find?_cons, decide_eq_false kgt, decide_eq_false knt, decide_eq_false kst, decide_true, Option.map_some]
theorem put_now (y : Int) : putK (bx g n s t) (Sum.inr "now" : Key) (.int y) = bx g y s t := by
  simp only [putK, bx, List.any_cons, List.map_cons, List.map_nil, decide_true, Bool.true_or, Bool.or_true, if_true, if_neg kgn, if_neg (knf _ _ kns), if_neg (knf _ _ knt)]
theorem put_seed (y : Int) : putK (bx g n s t) (Sum.inr "seed" : Key) (.int y) = bx g n y t := by
  simp only [putK, bx, List.any_cons, List.map_cons, List.map_nil, decide_true, Bool.true_or, Bool.or_true, if_true, if_neg kgs, if_neg kns, if_neg (knf _ _ kst)]
theorem put_turn (y : Int) : putK (bx g n s t) (Sum.inr "turn" : Key) (.int y) = bx g n s y := by
  simp only [putK, bx, List.any_cons, List.map_cons, List.map_nil, decide_true, Bool.true_or, Bool.or_true, if_true, if_neg kgt, if_neg knt, if_neg kst]
theorem mer_box : mergeK [] (bx g n s t) = bx g n s t := by
  simp only [mergeK, bx, List.foldl_cons, List.foldl_nil, putK, List.any_nil, List.any_cons, List.nil_append, List.cons_append, decide_eq_false kgn, decide_eq_false kgs, decide_eq_false kgt, decide_eq_false kns, decide_eq_false knt, decide_eq_false kst, Bool.or_false, if_neg Bool.false_ne_true]
end
/-! data that can be printed: small ints, short texts, few nodes -/
mutual
def gd : PyData → Bool
  | .none => true
  | .bool _ => true
  | .int i => decide (i.natAbs.log2 < 1920)
  | .str x => decide (x.length ≤ 100) && x.cps.toList.all fun c => decide (c < 128)
  | .list ds => gds ds
  | .tuple ds => gds ds
  | .dict _ => false
def gds : List PyData → Bool
  | [] => true
  | d :: ds => gd d && gds ds
end
mutual
def nod : PyData → Nat
  | .list ds => 1 + nods ds
  | .tuple ds => 1 + nods ds
  | .none => 1
  | .bool _ => 1
  | .int _ => 1
  | .str _ => 1
  | .dict _ => 1
def nods : List PyData → Nat
  | [] => 0
  | d :: ds => nod d + nods ds
end
mutual
theorem gd_sh : ∀ d : PyData, gd d = true → d.showable = true ∧ d.hasDict = false
  | .none, _ => ⟨by simp only [PyData.showable], by simp only [PyData.hasDict]⟩
  | .bool _, _ => ⟨by simp only [PyData.showable], by simp only [PyData.hasDict]⟩
  | .int i, h => ⟨by simpa only [PyData.showable, gd] using h, by simp only [PyData.hasDict]⟩
  | .str _, _ => ⟨by simp only [PyData.showable], by simp only [PyData.hasDict]⟩
  | .list ds, h => by
    have q := gds_sh ds (by simpa only [gd] using h)
    exact ⟨by simpa only [PyData.showable] using q.1, by simpa only [PyData.hasDict] using q.2⟩
  | .tuple ds, h => by
    have q := gds_sh ds (by simpa only [gd] using h)
    exact ⟨by simpa only [PyData.showable] using q.1, by simpa only [PyData.hasDict] using q.2⟩
  | .dict _, h => by simp [gd] at h
theorem gds_sh : ∀ ds : List PyData, gds ds = true → PyData.showableAll ds = true ∧ PyData.hasDictAll ds = false
  | [], _ => ⟨by simp only [PyData.showableAll], by simp only [PyData.hasDictAll]⟩
  | d :: ds, h => by
    simp only [gds, Bool.and_eq_true] at h
    have q1 := gd_sh d h.1
    have q2 := gds_sh ds h.2
    exact ⟨by simp only [PyData.showableAll, q1.1, q2.1, Bool.and_self], by simp only [PyData.hasDictAll, q1.2, q2.2, Bool.or_self]⟩
end
mutual
theorem gd_sz : ∀ d : PyData, gd d = true → d.shown.length + 2 ≤ 2000 * nod d
  | .none, _ => by
    simp only [PyData.shown, nod]
    decide +kernel
  | .bool b, _ => by
    simp only [PyData.shown, nod]
    cases b <;> decide +kernel
  | .int i, h => by
    have h1 : i.natAbs.log2 < 1920 := by simpa only [gd, decide_eq_true_eq] using h
    have q := int_text_len_1921 h1
    simp only [PyData.shown, nod]
    show (Str.ofString (toString i)).length + 2 ≤ _
    omega
  | .str x, h => by
    simp only [gd, Bool.and_eq_true, decide_eq_true_eq, List.all_eq_true] at h
    have q := StrLaws.reprText_len x (fun c hc => Nat.lt_of_lt_of_le (h.2 c hc) (by decide))
    simp only [PyData.shown, nod]
    omega
  | .list ds, h => by
    have q := gds_sz ds (by simpa only [gd] using h)
    have q2 := listText_len_le (PyData.shownAll ds)
    simp only [PyData.shown, nod]
    omega
  | .tuple ds, h => by
    have q := gds_sz ds (by simpa only [gd] using h)
    have q2 := tupleText_len_le (PyData.shownAll ds)
    simp only [PyData.shown, nod]
    omega
  | .dict _, h => by simp [gd] at h
theorem gds_sz : ∀ ds : List PyData, gds ds = true → ((PyData.shownAll ds).map (·.length)).sum + 2 * (PyData.shownAll ds).length ≤ 2000 * nods ds
  | [], _ => by simp [PyData.shownAll, nods]
  | d :: ds, h => by
    simp only [gds, Bool.and_eq_true] at h
    have q1 := gd_sz d h.1
    have q2 := gds_sz ds h.2
    simp only [PyData.shownAll, nods, List.map_cons, List.sum_cons, List.length_cons]
    omega
end
theorem prn_of {d : PyData} (h : gd d = true) (hn : nod d ≤ 8000) (hd : d.depth ≤ 60) : Prn d :=
  ⟨(gd_sh d h).1, (gd_sh d h).2, hd, by
    have q := gd_sz d h
    have e : sizeLine = 16777216 := by decide
    omega⟩
theorem gds_app : ∀ ds es : List PyData, gds (ds ++ es) = (gds ds && gds es)
  | [], es => by simp [gds]
  | d :: ds, es => by simp only [List.cons_append, gds, gds_app ds es, Bool.and_assoc]
theorem nods_app : ∀ ds es : List PyData, nods (ds ++ es) = nods ds + nods es
  | [], es => by simp [nods]
  | d :: ds, es => by simp only [List.cons_append, nods, nods_app ds es, Nat.add_assoc]
theorem nod_pos : ∀ d : PyData, 1 ≤ nod d
  | .list _ => by simp only [nod]; omega
  | .tuple _ => by simp only [nod]; omega
  | .none => by simp only [nod]; omega
  | .bool _ => by simp only [nod]; omega
  | .int _ => by simp only [nod]; omega
  | .str _ => by simp only [nod]; omega
  | .dict _ => by simp only [nod]; omega
theorem nods_len : ∀ ds : List PyData, ds.length ≤ nods ds
  | [] => Nat.le_refl _
  | d :: ds => by
    have := nod_pos d
    have := nods_len ds
    simp only [nods, List.length_cons]
    omega
theorem gds_mem : ∀ {ds : List PyData} {d : PyData}, gds ds = true → d ∈ ds → gd d = true
  | _ :: _, _, h, m => by
    simp only [gds, Bool.and_eq_true] at h
    rcases List.mem_cons.mp m with e | e
    · rw [e]
      exact h.1
    · exact gds_mem h.2 e
theorem nods_mem : ∀ {ds : List PyData} {d : PyData}, d ∈ ds → nod d ≤ nods ds
  | _ :: _, _, m => by
    simp only [nods]
    rcases List.mem_cons.mp m with e | e
    · rw [e]
      omega
    · have := nods_mem e
      omega
theorem depth_mem : ∀ {ds : List PyData} {d : PyData}, d ∈ ds → d.depth ≤ PyData.depthAll ds
  | _ :: _, _, m => by
    simp only [PyData.depthAll]
    rcases List.mem_cons.mp m with e | e
    · rw [e]
      omega
    · have := depth_mem e
      omega
theorem depthAll_app : ∀ ds es : List PyData, PyData.depthAll (ds ++ es) = max (PyData.depthAll ds) (PyData.depthAll es)
  | [], es => by simp [PyData.depthAll]
  | d :: ds, es => by simp only [List.cons_append, PyData.depthAll, depthAll_app ds es, Nat.max_assoc]
/-- built-in names that the top leaves as they are -/
structure Bi (mg : Str → Option Value) : Prop where
  ii : mg "isinstance" = none
  len : mg "len" = none
  all : mg "all" = none
  str : mg "str" = none
  tup : mg "tuple" = none
  int : mg "int" = none
  bool : mg "bool" = none
  rng : mg "range" = none
  rep : mg "repr" = none
  abs : mg "abs" = none
/-! names -/
def lowOk (c : Nat) : Bool := decide (97 ≤ c) && decide (c ≤ 122)
def isNm (x : Str) : Bool := decide (1 ≤ x.length) && decide (x.length ≤ 8) && x.cps.toList.all lowOk
mutual
def isVal : PyData → Bool
  | .int _ => true
  | .str x => isNm x
  | .tuple ds => isVals ds
  | .none => false
  | .bool _ => false
  | .list _ => false
  | .dict _ => false
def isVals : List PyData → Bool
  | [] => true
  | d :: ds => isVal d && isVals ds
end
theorem isVals_app : ∀ ds es : List PyData, isVals (ds ++ es) = (isVals ds && isVals es)
  | [], es => by simp [isVals]
  | d :: ds, es => by simp only [List.cons_append, isVals, isVals_app ds es, Bool.and_assoc]
def isTup : PyData → Bool
  | .tuple _ => true
  | _ => false
def nmD : PyData → Bool
  | .str x => isNm x
  | _ => false
def inD : PyData → Bool
  | .int _ => true
  | _ => false
def isStr : PyData → Bool
  | .str _ => true
  | _ => false
def isIntB : PyData → Bool
  | .int _ => true
  | .bool _ => true
  | _ => false
def isBool : PyData → Bool
  | .bool _ => true
  | _ => false
theorem kit_tup : ∀ d : PyData, kitB (tyN d) "tuple" = some (isTup d)
  | .none => (by decide +kernel : kitB "NoneType" "tuple" = some false)
  | .bool _ => (by decide +kernel : kitB "bool" "tuple" = some false)
  | .int _ => (by decide +kernel : kitB "int" "tuple" = some false)
  | .str _ => (by decide +kernel : kitB "str" "tuple" = some false)
  | .list _ => (by decide +kernel : kitB "list" "tuple" = some false)
  | .tuple _ => (by decide +kernel : kitB "tuple" "tuple" = some true)
  | .dict _ => (by decide +kernel : kitB "dict" "tuple" = some false)
theorem kit_str : ∀ d : PyData, kitB (tyN d) "str" = some (isStr d)
  | .none => (by decide +kernel : kitB "NoneType" "str" = some false)
  | .bool _ => (by decide +kernel : kitB "bool" "str" = some false)
  | .int _ => (by decide +kernel : kitB "int" "str" = some false)
  | .str _ => (by decide +kernel : kitB "str" "str" = some true)
  | .list _ => (by decide +kernel : kitB "list" "str" = some false)
  | .tuple _ => (by decide +kernel : kitB "tuple" "str" = some false)
  | .dict _ => (by decide +kernel : kitB "dict" "str" = some false)
theorem kit_int : ∀ d : PyData, kitB (tyN d) "int" = some (isIntB d)
  | .none => (by decide +kernel : kitB "NoneType" "int" = some false)
  | .bool _ => (by decide +kernel : kitB "bool" "int" = some true)
  | .int _ => (by decide +kernel : kitB "int" "int" = some true)
  | .str _ => (by decide +kernel : kitB "str" "int" = some false)
  | .list _ => (by decide +kernel : kitB "list" "int" = some false)
  | .tuple _ => (by decide +kernel : kitB "tuple" "int" = some false)
  | .dict _ => (by decide +kernel : kitB "dict" "int" = some false)
theorem kit_bool : ∀ d : PyData, kitB (tyN d) "bool" = some (isBool d)
  | .none => (by decide +kernel : kitB "NoneType" "bool" = some false)
  | .bool _ => (by decide +kernel : kitB "bool" "bool" = some true)
  | .int _ => (by decide +kernel : kitB "int" "bool" = some false)
  | .str _ => (by decide +kernel : kitB "str" "bool" = some false)
  | .list _ => (by decide +kernel : kitB "list" "bool" = some false)
  | .tuple _ => (by decide +kernel : kitB "tuple" "bool" = some false)
  | .dict _ => (by decide +kernel : kitB "dict" "bool" = some false)
theorem one_lt (c d : Nat) : (([c] : List Nat) < [d]) ↔ c < d := by
  constructor
  · intro h
    cases h with
    | rel h => exact h
    | cons h => cases h
  · intro h
    exact .rel h
theorem cps_a : (("a" : Str)).cps.toList = [97] := by decide +kernel
theorem cps_z : (("z" : Str)).cps.toList = [122] := by decide +kernel
theorem ge_a (c : Nat) : (!decide ((⟨#[c]⟩ : Str).cps.toList < ("a" : Str).cps.toList)) = decide (97 ≤ c) := by
  rw [cps_a]
  by_cases h : 97 ≤ c
  · have : ¬ ((⟨#[c]⟩ : Str).cps.toList < [97]) := fun z => by
      have := (one_lt c 97).mp z
      omega
    rw [decide_eq_false this, decide_eq_true h]
    rfl
  · have : ((⟨#[c]⟩ : Str).cps.toList < [97]) := (one_lt c 97).mpr (by omega)
    rw [decide_eq_true this, decide_eq_false h]
    rfl
theorem le_z (c : Nat) : (!decide (("z" : Str).cps.toList < (⟨#[c]⟩ : Str).cps.toList)) = decide (c ≤ 122) := by
  rw [cps_z]
  by_cases h : c ≤ 122
  · have : ¬ (([122] : List Nat) < (⟨#[c]⟩ : Str).cps.toList) := fun z => by
      have := (one_lt 122 c).mp z
      omega
    rw [decide_eq_false this, decide_eq_true h]
    rfl
  · have : (([122] : List Nat) < (⟨#[c]⟩ : Str).cps.toList) := (one_lt 122 c).mpr (by omega)
    rw [decide_eq_true this, decide_eq_false h]
    rfl
theorem gd_str {x : Str} (h : gd (.str x) = true) : x.length ≤ 100 := by
  simp only [gd, Bool.and_eq_true, decide_eq_true_eq] at h
  exact h.1
theorem len_cps (x : Str) : x.length = x.cps.size := rfl
theorem cps_at {x : Str} {i c : Nat} (h : x.cps[i]? = some c) : x.cps.toList[i]? = some c := by simpa using h
/-- what is found going along a list -/
theorem take_snoc {α β : Type} (f : α → β) {l : List α} {i : Nat} {a : α} (h : l[i]? = some a) : (l.take (i + 1)).map f = (l.take i).map f ++ [f a] := by
  rw [List.take_add_one, h, List.map_append]
  rfl
theorem all_map {α : Type} (f : α → Bool) : ∀ l : List α, (l.map f).all id = l.all f
  | [] => rfl
  | a :: l => by simp only [List.map_cons, List.all_cons, all_map f l, id]
/-! promises of those that only look -/
def spLook (K : PySem.W.Frag) (ok : PyData → Prop) (g : PyData → V) : Sp := fun vs H Q _ => ∃ v d, vs = [v] ∧ Dp K H v d ∧ ok d ∧ ∀ H', Same H H' → Q (g d) H'
theorem DpAll.unapp {K : PySem.W.Frag} {H : Hp} : ∀ {xs ys : List V} {ds : List PyData}, DpAll K H (xs ++ ys) ds → ∃ d1 d2, ds = d1 ++ d2 ∧ DpAll K H xs d1 ∧ DpAll K H ys d2
  | [], _, ds, h => ⟨[], ds, rfl, .nil, h⟩
  | x :: xs, _, _, h => by
    cases h with
    | cons h1 h2 =>
      obtain ⟨d1, d2, e, a, b⟩ := DpAll.unapp (xs := xs) h2
      exact ⟨_ :: d1, d2, by rw [e]; rfl, .cons h1 a, b⟩
theorem DpAll.last {K : PySem.W.Frag} {H : Hp} {xs : List V} {ds : List PyData} (h : DpAll K H xs ds) (hx : xs ≠ []) : ∃ xs' v ds' d, xs = xs' ++ [v] ∧ ds = ds' ++ [d] ∧ DpAll K H xs' ds' ∧ Dp K H v d := by
  have e := (List.dropLast_concat_getLast hx).symm
  rw [e] at h
  obtain ⟨d1, d2, e2, a, b⟩ := DpAll.unapp h
  cases b with
  | cons b1 b2 =>
    cases b2
    exact ⟨_, _, d1, _, e, e2, a, b1⟩
theorem last_at (xs : List V) (v : V) : (xs ++ [v])[(xs ++ [v]).length - 1]? = some v := by simp
theorem drop_last (xs : List V) (v : V) : (xs ++ [v]).dropLast = xs := by simp
theorem tup_of {K : PySem.W.Frag} {H : Hp} {v : V} {d : PyData} (h : Dp K H v d) (ht : isTup d = true) : ∃ a xs ds, v = .ref a ∧ d = .tuple ds ∧ SqT K H a xs ∧ DpAll K H xs ds := by
  cases h with
  | tup h1 h2 => exact ⟨_, _, _, rfl, rfl, h1, h2⟩
  | non => cases ht
  | bl b => cases ht
  | int i => cases ht
  | str x => cases ht
  | lst h1 h2 => cases ht
theorem isVal_no {d : PyData} (h1 : isTup d = false) : isVal d = (inD d || nmD d) := by
  cases d with
  | tuple ds => exact absurd (show true = false from h1) (by decide)
  | str x => simp only [isVal, inD, nmD, Bool.false_or]
  | int i => simp only [isVal, inD, nmD, Bool.true_or]
  | none => simp only [isVal, inD, nmD, Bool.or_self]
  | bool b => simp only [isVal, inD, nmD, Bool.or_self]
  | list b => simp only [isVal, inD, nmD, Bool.or_self]
  | dict b => simp only [isVal, inD, nmD, Bool.or_self]
/-- going along anything: what one turn does is B -/
theorem along {J : It} {n : Nat} {G : Hp → Prop} {Y : Nat → Hp → V → Hp → Prop} (w : Walk J n G Y) {B : (Hp → Prop) → V → Hp → Prop} {H0 : Hp} {Qd : Hp → Prop} (Pv : Nat → Hp → Prop) (h0 : Pv 0 H0) (hG : ∀ i H, i ≤ n → Pv i H → G H)
    (hs : ∀ i x H H', i < n → Pv i H → Y i H x H' → B (Pv (i + 1)) x H') (hd : ∀ H, Pv n H → Qd H) :
    ∃ W : Nat → Nat → Hp → Prop, (∃ m, W 0 m H0) ∧ ∀ i m H, W i m H → (J.stop i H ∧ Qd H) ∨ (J.go i H ∧ ∃ Nx : Hp → Prop, (∀ H', Nx H' → ∃ m', m' < m ∧ W (i + 1) m' H') ∧ ∀ x H', J.yld i H x H' → B Nx x H') := by
  refine ⟨fun i m H => i ≤ n ∧ m + i = n ∧ Pv i H, ⟨n, Nat.zero_le _, rfl, h0⟩, ?_⟩
  rintro i m H ⟨hi, hm, p⟩
  have gg := hG i H hi p
  by_cases lt : i < n
  · refine Or.inr ⟨w.goes i H lt gg, Pv (i + 1), ?_, ?_⟩
    · intro H' p'
      exact ⟨m - 1, by omega, by omega, by omega, p'⟩
    · intro x H' y
      exact hs i x H H' lt p (w.yields i H x H' lt gg y)
  · have e : i = n := by omega
    subst e
    exact Or.inl ⟨w.stops H gg, hd H p⟩
mutual
def dep : PyData → Nat
  | .tuple ds => 1 + deps ds
  | .none => 0
  | .bool _ => 0
  | .int _ => 0
  | .str _ => 0
  | .list _ => 0
  | .dict _ => 0
def deps : List PyData → Nat
  | [] => 0
  | d :: ds => max (dep d) (deps ds)
end
def kids : PyData → List PyData
  | .tuple ds => ds
  | _ => []
theorem deps_app : ∀ ds es : List PyData, deps (ds ++ es) = max (deps ds) (deps es)
  | [], es => by simp [deps]
  | d :: ds, es => by simp only [List.cons_append, deps, deps_app ds es, Nat.max_assoc]
theorem dep_no {d : PyData} (h : isTup d = false) : dep d = 0 := by
  cases d with
  | tuple ds => exact absurd (show true = false from h) (by decide)
  | str x => simp only [dep]
  | int i => simp only [dep]
  | none => simp only [dep]
  | bool b => simp only [dep]
  | list b => simp only [dep]
  | dict b => simp only [dep]
theorem deps_filter : ∀ ds : List PyData, deps (ds.filter isTup) = deps ds
  | [] => rfl
  | d :: ds => by
    cases h : isTup d with
    | true => simp only [List.filter_cons, h, if_true, deps, deps_filter ds]
    | false => simp only [List.filter_cons, h, Bool.false_eq_true, if_false, deps, deps_filter ds, dep_no h, Nat.zero_max]
theorem deps_kids : ∀ ds : List PyData, (∀ d ∈ ds, isTup d = true) → ds ≠ [] → deps ds = 1 + deps (ds.flatMap kids)
  | [], _, h => absurd rfl h
  | d :: ds, h, _ => by
    have hd := h d List.mem_cons_self
    have e1 : dep d = 1 + deps (kids d) := by
      cases d with
      | tuple es => simp only [dep, kids]
      | _ => cases hd
    rw [List.flatMap_cons, deps_app]
    simp only [deps]
    by_cases e : ds = []
    · subst e
      simp only [deps, List.flatMap_nil, e1]
      omega
    · have ih := deps_kids ds (fun x hx => h x (List.mem_cons_of_mem _ hx)) e
      rw [ih, e1]
      omega
theorem nods_kids : ∀ ds : List PyData, nods (ds.flatMap kids) ≤ nods ds
  | [] => Nat.le_refl _
  | d :: ds => by
    rw [List.flatMap_cons, nods_app]
    have ih := nods_kids ds
    have e : nods (kids d) ≤ nod d := by
      cases d <;> simp only [kids, nods, nod] <;> omega
    simp only [nods]
    omega
theorem nods_filter (p : PyData → Bool) : ∀ ds : List PyData, nods (ds.filter p) ≤ nods ds
  | [] => Nat.le_refl _
  | d :: ds => by
    have ih := nods_filter p ds
    have := nod_pos d
    cases h : p d with
    | true =>
      simp only [List.filter_cons, h, if_true, nods]
      omega
    | false =>
      simp only [List.filter_cons, h, Bool.false_eq_true, if_false, nods]
      omega
theorem nods_take (ds : List PyData) (i : Nat) : nods (ds.take i) ≤ nods ds := by
  have e := congrArg nods (List.take_append_drop i ds)
  rw [nods_app] at e
  omega
theorem get_take {α : Type} {l : List α} {i : Nat} {a : α} (h : l[i]? = some a) : l.take (i + 1) = l.take i ++ [a] := by
  rw [List.take_add_one, h]
  rfl
theorem call_isK {X : Cx} {K : PySem.W.Frag} (h : X.K = K) : CallR X (.builtin "isinstance") (rIsD K) := by
  subst h
  exact call_isD
theorem pi_tupK {X : Cx} {K : PySem.W.Frag} {tg l : Expr} {tl : TE} (h : X.K = K) (hl : PE X l tl) : PI X tg l (iTup K tl) := by
  subst h
  exact pi_tup hl
theorem pi_listK {X : Cx} {K : PySem.W.Frag} {tg l : Expr} {tl : TE} (h : X.K = K) (hl : PE X l tl) : PI X tg l (iList K tl) := by
  subst h
  exact pi_list hl
theorem b_ii : bootBuiltins "isinstance" = some (.builtin "isinstance") := by decide +kernel
theorem b_tup : bootBuiltins "tuple" = some (.type "tuple") := by decide +kernel
theorem b_all : bootBuiltins "all" = some (.builtin "all") := by decide +kernel
theorem b_str : bootBuiltins "str" = some (.type "str") := by decide +kernel
theorem b_int : bootBuiltins "int" = some (.type "int") := by decide +kernel
theorem b_bool : bootBuiltins "bool" = some (.type "bool") := by decide +kernel
theorem b_abs : bootBuiltins "abs" = some (.builtin "abs") := by decide +kernel
theorem b_rep : bootBuiltins "repr" = some (.builtin "repr") := by decide +kernel
theorem b_max : bootBuiltins "max" = some (.builtin "max") := by decide +kernel
theorem b_list : bootBuiltins "list" = some (.type "list") := by decide +kernel
/-! short texts of plain signs -/
structure Sm (n : Nat) (x : Str) : Prop where
  le : x.length ≤ n
  lo : ∀ c ∈ x.cps.toList, c < 128
theorem Sm.gd {n : Nat} {x : Str} (h : Sm n x) (hn : n ≤ 100) : Rl.gd (.str x) = true := by
  have h1 := h.le
  have h3 : x.length ≤ 100 := by omega
  have h2 : (x.cps.toList.all fun c => decide (c < 128)) = true := List.all_eq_true.mpr fun c hc => decide_eq_true (h.lo c hc)
  simp only [Rl.gd, decide_eq_true h3, h2, Bool.and_self]
theorem Sm.mono {n m : Nat} {x : Str} (h : Sm n x) (hn : n ≤ m) : Sm m x := ⟨Nat.le_trans h.le hn, h.lo⟩
theorem Sm.fits {n : Nat} {x : Str} (h : Sm n x) (hn : n ≤ 1000) : x.length ≤ sizeLine := Nat.le_trans h.le (Nat.le_of_lt (small1000 hn))
theorem app_cps (x y : Str) : (x ++ y).cps.toList = x.cps.toList ++ y.cps.toList := by
  show (x.cps ++ y.cps).toList = _
  simp
theorem Sm.app {n m : Nat} {x y : Str} (h : Sm n x) (g : Sm m y) : Sm (n + m) (x ++ y) := by
  refine ⟨?_, fun c hc => ?_⟩
  · rw [Str.length_append]
    have := h.le
    have := g.le
    omega
  · rw [app_cps] at hc
    rcases List.mem_append.mp hc with z | z
    · exact h.lo c z
    · exact g.lo c z
theorem Sm.cut {n : Nat} {x : Str} (h : Sm n x) (lo hi : Option Int) : Sm n (cutS x lo hi) := by
  refine ⟨Nat.le_trans (cutS_length x lo hi) h.le, fun c hc => h.lo c ?_⟩
  unfold cutS at hc
  exact List.mem_of_mem_drop (List.mem_of_mem_take (by simpa using hc))
theorem Sm.up {n : Nat} {x : Str} (h : Sm n x) : Sm n (Txt.upper x) := by
  rw [upper_ascii h.lo]
  refine ⟨?_, fun c hc => ?_⟩
  · have := h.le
    show (x.cps.map up1).size ≤ n
    rw [Array.size_map]
    exact this
  · rw [Array.toList_map] at hc
    obtain ⟨b, hb, rfl⟩ := List.mem_map.mp hc
    have := h.lo b hb
    unfold up1
    split <;> omega
theorem Sm.of {x : Str} {n : Nat} (h : (decide (x.length ≤ n) && x.cps.toList.all fun c => decide (c < 128)) = true) : Sm n x := by
  rw [Bool.and_eq_true] at h
  exact ⟨of_decide_eq_true h.1, fun c hc => of_decide_eq_true (List.all_eq_true.mp h.2 c hc)⟩
theorem Sm.join : ∀ (ys : List Str), (∀ y ∈ ys, Sm 1 y) → Sm ys.length (Txt.join "" ys) := by
  intro ys h
  rw [show Txt.join "" ys = Str.join "" ys from StrLaws.glued_eq_join "" ys]
  refine ⟨?_, fun c hc => ?_⟩
  · have q := StrLaws.join_length_le "" ys
    have e0 : (("" : Str)).length = 0 := by decide +kernel
    have s : (ys.map (·.length)).sum ≤ ys.length := by
      clear q
      induction ys with
      | nil => exact Nat.le_refl _
      | cons y r ih =>
        have h1 := (h y List.mem_cons_self).le
        have h2 := ih fun z hz => h z (List.mem_cons_of_mem _ hz)
        simp only [List.map_cons, List.sum_cons, List.length_cons]
        omega
    rw [e0] at q
    exact Nat.le_trans q (by simpa using s)
  · have q := (mem_join "" c ys).mp hc
    rcases q with ⟨t, ht, hc⟩ | ⟨_, hc⟩
    · exact (h t ht).lo c hc
    · have e0 : (("" : Str)).cps.toList = [] := by decide +kernel
      rw [e0] at hc
      cases hc
mutual
theorem gd_lay : ∀ d : PyData, gd d = true → d.canLay0 = true
  | .none, _ => by simp only [PyData.canLay0]
  | .bool _, _ => by simp only [PyData.canLay0]
  | .int _, _ => by simp only [PyData.canLay0]
  | .str x, h => by
    simp only [gd, Bool.and_eq_true, List.all_eq_true, decide_eq_true_eq] at h
    simp only [PyData.canLay0, PyData.strOk, Array.all_eq_true]
    intro i hi
    exact decide_eq_true (Nat.lt_trans (h.2 _ (by simp)) (by decide))
  | .list ds, h => by
    simp only [PyData.canLay0]
    exact gds_lay ds (by simpa only [gd] using h)
  | .tuple ds, h => by
    simp only [PyData.canLay0]
    exact gds_lay ds (by simpa only [gd] using h)
  | .dict _, h => by simp [gd] at h
theorem gds_lay : ∀ ds : List PyData, gds ds = true → PyData.canLayAll0 ds = true
  | [], _ => by simp only [PyData.canLayAll0]
  | d :: ds, h => by
    simp only [gds, Bool.and_eq_true] at h
    simp only [PyData.canLayAll0, gd_lay d h.1, gds_lay ds h.2, Bool.and_self]
end
theorem shaped_of {d : PyData} (h : gd d = true) (hd : d.depth ≤ 64) : SeqAt.shaped d = true := by
  show (d.canLay0 && decide (d.depth ≤ 64)) = true
  rw [gd_lay d h, decide_eq_true hd]
  rfl
theorem Box.notin {H : Hp} {p g a : Addr} (b : Box H p g) (h : H a = none) : a ∉ [p, g] := by
  obtain ⟨n, s, t, gs, h1, h2, _⟩ := b.ex
  intro z
  rcases List.mem_cons.mp z with e | z
  · rw [e, h1] at h
    cases h
  · rcases List.mem_cons.mp z with e | z
    · rw [e, h2] at h
      cases h
    · cases z
/-- all of these are tracked -/
def Tr (l : List Addr) (H : Hp) : Prop := ∀ b ∈ l, H b ≠ none
theorem off_new {l : List Addr} {H H' : Hp} {a : Addr} {o : HO} (h : Off l H H') (n : a ∉ l) (hn : H a = none) : Off l H (upd H' a o) := by
  intro b u e
  obtain ⟨nb, e⟩ := cut_some e
  rw [cut_out nb, upd_ne (ne_of_none e hn)]
  exact h.get e nb
theorem Box.put {H : Hp} {p g a : Addr} {o : HO} (b : Box H p g) (n : a ∉ [p, g]) : Box (upd H a o) p g := by
  obtain ⟨x, s, t, gs, h1, h2, h3⟩ := b.ex
  exact ⟨x, s, t, gs, by rw [upd_ne (fun z => n (by simp [← z]))]; exact h1, by rw [upd_ne (fun z => n (by simp [← z]))]; exact h2, h3⟩
theorem few {n : Nat} (h : n ≤ 1000) : n ≤ sizeLine := Nat.le_of_lt (small1000 h)
theorem cut_new {l : List Addr} {H : Hp} {a : Addr} {o : HO} (h : H a = none) : Same (cut l H) (cut l (upd H a o)) := Off.of (same_new h o)
theorem Tr.go {l m : List Addr} {H H' : Hp} (t : Tr l H) (o : Off m H H') (hm : ∀ b ∈ m, H' b ≠ none) : Tr l H' := fun b hb => by
  by_cases e : b ∈ m
  · exact hm b e
  · intro z
    exact t b hb (o.free z e)
theorem Box.tr {H : Hp} {p g : Addr} (b : Box H p g) : H p ≠ none ∧ H g ≠ none := by
  obtain ⟨x, s, t, gs, h1, h2, _⟩ := b.ex
  constructor
  · rw [h1]
    exact fun z => nomatch z
  · rw [h2]
    exact fun z => nomatch z
theorem ne_mem {l : List Addr} {a b : Addr} (n : a ∉ l) (h : b ∈ l) : b ≠ a := fun e => n (by rw [← e]; exact h)
theorem few2 {n : Nat} (h : n ≤ 100000) : n ≤ sizeLine := Nat.le_trans h (by decide)
theorem Tr.out {l : List Addr} {H : Hp} (t : Tr l H) {a : Addr} (h : H a = none) : a ∉ l := fun z => t a z h
theorem Tr.same {l : List Addr} {H H' : Hp} (t : Tr l H) (s : Same H H') : Tr l H' := fun b hb z => by
  cases q : H b with
  | none => exact t b hb q
  | some o =>
    rw [s b o q] at z
    cases z
theorem seqT_cut {K : PySem.W.Frag} {l : List Addr} {H : Hp} {a : Addr} {xs : List V} (h : SqT K (cut l H) a xs) : SqT K H a xs := seqT_up (cut_same l H) h
theorem cutV_all (xs : List V) (lo hi : Option Int) (h : HT.sIx xs.length 0 lo = 0 ∧ HT.sIx xs.length xs.length hi = xs.length) : cutV xs lo hi = xs := by
  unfold cutV
  rw [h.1, h.2]
  simp
/-- t + u, what comes of it, apart from the addresses l -/
def rCatU (K : PySem.W.Frag) : R2 := fun x y H Q => ∃ a b xs ys l, x = .ref a ∧ y = .ref b ∧ SqT K (cut l H) a xs ∧ SqT K (cut l H) b ys ∧ Tr l H ∧ xs.length + ys.length ≤ sizeLine ∧
  ∀ c H', Same H H' → SqT K (cut l H') c (xs ++ ys) → Q (.ref c) H'
theorem op_catU {X : Cx} : OpR X (binaryOp .Add) (rCatU X.K) := by
  intro pins s σ H x y v u Q I rx ry h
  obtain ⟨a, b, xs, ys, l, rfl, rfl, ha, hb, tl, hz, q⟩ := h
  refine op_catA pins s σ H _ _ v u Q I rx ry ⟨a, b, xs, ys, rfl, rfl, seqT_cut ha, seqT_cut hb, hz, ?_, ?_, ?_⟩
  · intro e
    exact q b H (Same.refl H) (by rw [e]; exact hb)
  · intro _ e
    exact q a H (Same.refl H) (by rw [e, List.append_nil]; exact ha)
  · intro _ _ c hc
    exact q c _ (same_new hc _) (.inl (.inl (by rw [cut_out (tl.out hc)]; exact upd_same)))
def rSlU (K : PySem.W.Frag) : V → Option Int → Option Int → Hp → VK → Prop := fun x lo hi H Q => ∃ a xs l, x = .ref a ∧ SqT K (cut l H) a xs ∧ Tr l H ∧
  ∀ c H', Same H H' → SqT K (cut l H') c (cutV xs lo hi) → Q (.ref c) H'
theorem sl_tupU {X : Cx} : SlR X (rSlU X.K) := by
  intro pins s σ H x v vl vu lo hi sl Q I rx hs pl pu h
  obtain ⟨a, xs, l, rfl, ha, tl, q⟩ := h
  refine sl_tupA pins s σ H _ v vl vu lo hi sl Q I rx hs pl pu ⟨a, xs, rfl, seqT_cut ha, ?_, ?_⟩
  · intro e
    exact q a H (Same.refl H) (by rw [cutV_all xs lo hi e]; exact ha)
  · intro _ c hc
    exact q c _ (same_new hc _) (.inl (.inl (by rw [cut_out (tl.out hc)]; exact upd_same)))
theorem cutV_take (xs : List V) {r : Int} (h0 : 0 ≤ r) (h : r ≤ (xs.length : Int)) : cutV xs none (some r) = xs.take r.toNat := by
  obtain ⟨n, rfl⟩ := Int.eq_ofNat_of_zero_le h0
  unfold cutV
  rw [HT.sIx_none, HT.sIx_nat]
  have : min n xs.length = n := by omega
  rw [this]
  rfl
theorem cutV_drop (xs : List V) {r : Int} (h0 : 0 ≤ r) (h : r ≤ (xs.length : Int)) : cutV xs (some r) none = xs.drop r.toNat := by
  obtain ⟨n, rfl⟩ := Int.eq_ofNat_of_zero_le h0
  unfold cutV
  rw [HT.sIx_none, HT.sIx_nat]
  have : min n xs.length = n := by omega
  rw [this]
  exact List.take_of_length_le (by rw [List.length_drop]; exact Nat.le_refl _)
/-! errors under KeyError, too: what the base says -/
abbrev keT : List Value := [.type "KeyError", .type "LookupError", .type "Exception", .type "BaseException", .type "object"]
abbrev veT : List Value := [.type "ValueError", .type "Exception", .type "BaseException", .type "object"]
theorem ke_pass (self : Value) : refuseLoop self "__setattr__" keT = pure () := by kernel_rfl
theorem ve_pass (self : Value) : refuseLoop self "__setattr__" veT = pure () := by kernel_rfl
/-- own classes, then T -/
def tlB (T : List Value) : List Value → Bool
  | .ref _ :: r => tlB T r
  | l => l == T
theorem tl_cases (T : List Value) : ∀ l : List Value, tlB T l = true → (∃ c r, l = .ref c :: r ∧ tlB T r = true) ∨ l = T
  | [], e => .inr (beq_iff_eq.mp e)
  | .ref c :: r, e => .inl ⟨c, r, rfl, e⟩
  | .none :: _, e => .inr (beq_iff_eq.mp e)
  | .ellipsis :: _, e => .inr (beq_iff_eq.mp e)
  | .notImplemented :: _, e => .inr (beq_iff_eq.mp e)
  | .bool _ :: _, e => .inr (beq_iff_eq.mp e)
  | .int _ _ :: _, e => .inr (beq_iff_eq.mp e)
  | .float _ _ :: _, e => .inr (beq_iff_eq.mp e)
  | .str _ _ :: _, e => .inr (beq_iff_eq.mp e)
  | .bytes _ _ :: _, e => .inr (beq_iff_eq.mp e)
  | .type _ :: _, e => .inr (beq_iff_eq.mp e)
  | .builtin _ :: _, e => .inr (beq_iff_eq.mp e)
section
variable {T : List Value}
theorem tl_ind {P : List Value → Prop} (h0 : P T) (hs : ∀ c r, P r → P (.ref c :: r)) : ∀ l : List Value, tlB T l = true → P l := by
  intro l
  induction l with
  | nil =>
    intro e
    rcases tl_cases T [] e with ⟨c, r, q, _⟩ | q
    · cases q
    · rw [q]
      exact h0
  | cons a r ih =>
    intro e
    rcases tl_cases T (a :: r) e with ⟨c, r', q, h⟩ | q
    · obtain ⟨rfl, rfl⟩ := List.cons.inj q
      exact hs _ _ (ih h)
    · rw [q]
      exact h0
theorem tl_pass (self : Value) (h0 : refuseLoop self "__setattr__" T = pure ()) : ∀ l : List Value, tlB T l = true → refuseLoop self "__setattr__" l = pure () :=
  tl_ind h0 fun c r ih => by
    rw [refuseLoop_ref]
    exact ih
theorem tl_has (x : String) : ∀ l : List Value, tlB T l = true → l.contains (.type x) = T.contains (.type x) :=
  tl_ind rfl fun c r ih => by
    rw [List.contains_cons, ih]
    rfl
theorem tl_ne (h0 : T.isEmpty = false) : ∀ l : List Value, tlB T l = true → l.isEmpty = false := tl_ind h0 fun c r ih => rfl
end
/-- what is said of the two bases: the id that makes, its owner, the rest of the order of classes -/
structure EBase (B newId initId : String) (bmF T : List Value) : Prop where
  F : ExcBaseFacts B newId initId bmF
  hasB : T.contains (.type B) = true
  noA : T.contains (.type "AttributeError") = false
  noN : T.contains (.type "NameError") = false
  ob : T.contains (.type "object") = true
  ne : T.isEmpty = false
  pass : ∀ self, refuseLoop self "__setattr__" T = pure ()
theorem eb_ve : EBase "ValueError" "ValueError.__new__" "ValueError.__init__" veT veT := ⟨PySem.F.excBase_ValueError, by decide +kernel, by decide +kernel, by decide +kernel, by decide +kernel, rfl, ve_pass⟩
theorem eb_ke : EBase "LookupError" "LookupError.__new__" "LookupError.__init__" [.type "LookupError", .type "Exception", .type "BaseException", .type "object"] keT := ⟨PySem.F.excBase_LookupError, by decide +kernel, by decide +kernel, by decide +kernel, by decide +kernel, rfl, ke_pass⟩
section
variable {M : Model} {A : Around} {E : Value → Shared → Prop} {h : Heap} {g : Array GenState} {d : Drawn} {t : Nat} {os : OsState}
variable {nm q : Str} {C N : Addr} {bs bm bmF T : List Value} {hdct : Bool} {sn : List Str} {sub : List Value} {ab : Bool} {col : Option Bool} {dd : Option Addr} {k0 k1 k2 k3 k5 : Option Value} {B newId initId : String}
theorem e_check (F : EBase B newId initId bmF T) (ht : tlB T bm = true) {rest : List Value} {kw : List (Str × Value)} {Q : Unit → Shared → Prop}
    (hC : h.get? C = some (excClassObj nm q C N bs bm hdct sn sub ab col dd k0 k1 k2 k3 k5 newId)) (hq : Q () ⟨h, g, d, t, os⟩) : wpAny M A (checkBuiltinCall newId ⟨.ref C :: rest, kw⟩) Q E ⟨h, g, d, t, os⟩ := by
  have hcont : (Value.ref C :: bm).contains (.type B) = true := by rw [List.contains_cons, tl_has B bm ht, F.hasB, Bool.or_true]
  have hstar := F.F.noStar
  simp only [checkBuiltinCall, F.F.newKind, F.F.newSplit, F.F.newRow]
  repeat (first | refine wpAny_loadPart_at hC ?_ | (refine wpAny_isSubtype_exc hC ?_; rw [hcont]) | refine wpAny_staticBase_exc hC ?_ | (refine wpAny_madeBy_exc hC ?_) | simp only [bne_self_eq_false, Bool.false_eq_true, if_false] | wp_step)
  exact hq
theorem e_checkT {rest : List Value} {kw : List (Str × Value)} {Q : Unit → Shared → Prop} (hC : h.get? C = some (excClassObj nm q C N bs bm hdct sn sub ab col dd k0 k1 k2 k3 k5 newId))
    (hq : Q () ⟨h, g, d, t, os⟩) : wpAny M A (checkBuiltinCall "type.__call__" ⟨.ref C :: rest, kw⟩) Q E ⟨h, g, d, t, os⟩ := by
  have f3 := tc_sub
  have hT : (⟨h, g, d, t, os⟩ : Shared).TypeIs (.ref C) "type" := ⟨_, hC, rfl⟩
  simp only [checkBuiltinCall, tc_kind, tc_split]
  repeat (any_goals (first | (assumption) | with_reducible refine wpAny_loadPart_at hC ?_ | with_reducible refine wpAny_onRaise ?_ | with_reducible refine wpAny_map ?_ | wp_step))
end
section
variable {prog : Program} {w : World} {A : Around} {E : Value → Shared → Prop} {R : Result → Shared → Prop} {h : Heap} {g : Array GenState} {d : Drawn} {t : Nat} {os : OsState}
variable {nm q : Str} {C N : Addr} {bs bm bmF T : List Value} {hdct : Bool} {sn : List Str} {sub : List Value} {ab : Bool} {col : Option Bool} {dd : Option Addr} {k0 k1 k2 k3 k5 : Option Value} {B newId initId : String}
theorem e_new (F : EBase B newId initId bmF T) (ht : tlB T bm = true) {rest : List Value} {kw : List (Str × Value)}
    (hC : h.get? C = some (excClassObj nm q C N bs bm hdct sn sub ab col dd k0 k1 k2 k3 k5 newId))
    (hq : R (.ok (.ret (.ref (h.objs.size + 1)))) ⟨(h.push (W.kdv_tup rest)).push (HandSPX.excO C h.objs.size), g, d, t, os⟩) (hrest : rest.length ≤ sizeLine) :
    codeAny (model prog w) A (.builtin newId ⟨.ref C :: rest, kw⟩) R ⟨h, g, d, t, os⟩ := by
  have hends := F.F.ends
  have hcB : (Value.ref C :: bm).contains (.type B) = true := by rw [List.contains_cons, tl_has B bm ht, F.hasB, Bool.or_true]
  have hcA : (Value.ref C :: bm).contains (.type "AttributeError") = false := by rw [List.contains_cons, tl_has _ bm ht, F.noA]; rfl
  have hcN : (Value.ref C :: bm).contains (.type "NameError") = false := by rw [List.contains_cons, tl_has _ bm ht, F.noN]; rfl
  refine codeAny_builtinAt F.F.entry ?_
  unfold Builtin.«BaseException.__new__»
  refine PySem.wpAt_bind ?_
  show PySem.wpAt _ _ _ (stack >>= _) _ _ _
  refine PySem.wpAt_bind (PySem.wpAt_stack (fun p below => PySem.wpAt_of_wpAny ?_))
  wp_walk
  refine PySem.wpAt_of_wpAny ?_
  rw [F.F.owner]
  repeat (first | with_reducible refine wpAny_madeHere_exc F.F.canon hC ?_ | with_reducible refine wpAny_loadPart_at hC ?_ | (with_reducible refine wpAny_isSubtype_exc hC ?_; first | rw [hcB] | rw [hcA] | rw [hcN]) | wp_step)
  show R _ _
  rw [Heap.size_push]
  exact hq
theorem e_tcall (F : EBase B newId initId bmF T) (ht : tlB T bm = true) {rest : List Value} {kw : List (Str × Value)} {fI : Addr} {Q : Fin → Shared → Prop}
    (hC : h.get? C = some (excClassObj nm q C N bs bm hdct sn sub ab col dd k0 k1 k2 k3 k5 newId))
    (hi : W.Looks (model prog w) h (typeLookup (.ref C) "__init__") (some (.ref fI))) (hb : ∀ self, W.Looks (model prog w) h (bindSpecial (.ref fI) self) (.ref fI, [self])) (hrest : rest.length ≤ sizeLine)
    (hq : codeAny (model prog w) A (.call (.ref fI) ⟨.ref (h.objs.size + 1) :: rest, kw⟩)
      (fun r s' => match r with | .ok (.ret v) => v = .none ∧ Q (.done (.ret (.ref (h.objs.size + 1)))) s' | .ok _ => False | .error e => E e s')
      ⟨(h.push (W.kdv_tup rest)).push (HandSPX.excO C h.objs.size), g, d, t, os⟩) :
    wpAny (model prog w) A (Builtin.«type.__call__» ⟨.ref C :: rest, kw⟩) Q E ⟨h, g, d, t, os⟩ := by
  repeat (first | with_reducible refine wpAny_loadPart_at hC ?_ | with_reducible refine wpAny_madeBy_exc hC ?_ | wp_step)
  refine codeAny_call_builtin_code (Code.quiet_builtin _ F.F.quiet) (e_check F ht hC ?_)
  refine e_new F ht hC ?_ hrest
  show wpAny _ _ _ _ _ _
  have k : ∀ b o, h.get? b = some o → ((h.push (W.kdv_tup rest)).push (HandSPX.excO C h.objs.size)).get? b = some o := fun b o e => Heap.get?_push_of_some _ (Heap.get?_push_of_some _ e)
  have hC₁ := k _ _ hC
  have hget : ((h.push (W.kdv_tup rest)).push (HandSPX.excO C h.objs.size)).get? (h.objs.size + 1) = some (HandSPX.excO C h.objs.size) := by heap_get
  have hcC : (Value.ref C :: bm).contains (.ref C) = true := by simp
  have i1 := hi.keeps k
  have b1 := (hb (.ref (h.objs.size + 1))).keeps k
  unfold isInstance
  repeat (first | with_reducible refine wpAny_loadPart_at hget ?_ | (with_reducible refine wpAny_isSubtype_exc hC₁ ?_; (rw [hcC])) | wp_step)
  show wpAny _ _ (typeLookup (.ref C) _) _ _ _
  refine i1.at ?_
  refine wpAny_holding (wpAny_bind (b1.at ?_))
  refine wpAny_bind (wpAny_call (codeAny_mono hq (fun r s' z => ?_)))
  rcases r with e | (v | _ | _ | _) <;> first | exact z | exact z.elim | skip
  obtain ⟨rfl, z⟩ := z
  first
    | exact wpAny_pure (wpAny_pure z)
    | (wp_walk; exact z)
theorem e_call (F : EBase B newId initId bmF T) (ht : tlB T bm = true) {rest : List Value} {kw : List (Str × Value)} {fI : Addr}
    (hC : h.get? C = some (excClassObj nm q C N bs bm hdct sn sub ab col dd k0 k1 k2 k3 k5 newId))
    (hi : W.Looks (model prog w) h (typeLookup (.ref C) "__init__") (some (.ref fI))) (hb : ∀ self, W.Looks (model prog w) h (bindSpecial (.ref fI) self) (.ref fI, [self])) (hrest : rest.length ≤ sizeLine)
    (hq : codeAny (model prog w) (A.under (.builtin "type.__call__" ⟨.ref C :: rest, kw⟩)) (.call (.ref fI) ⟨.ref (h.objs.size + 1) :: rest, kw⟩) (W.InitBack (h.objs.size + 1) R)
      ⟨(h.push (W.kdv_tup rest)).push (HandSPX.excO C h.objs.size), g, d, t, os⟩) :
    codeAny (model prog w) A (.call (.ref C) ⟨rest, kw⟩) R ⟨h, g, d, t, os⟩ := by
  have f1 := tc_lookup
  have f2 := tc_bind (.ref C)
  have hTy : (⟨h, g, d, t, os⟩ : Shared).TypeIs (.ref C) "type" := ⟨_, hC, rfl⟩
  refine codeAny_of_tree ?_
  show wpAny _ _ (callAny (.ref C) _) _ _ _
  repeat (any_goals (first | assumption | with_reducible refine wpAny_loadPart_at hC ?_ | wp_step))
  refine ⟨rfl, ?_⟩
  refine codeAny_call_builtin_at (Code.quiet_builtin _ (by decide +kernel)) entry_typeCall (e_checkT hC (e_tcall F ht hC hi hb hrest ?_))
  refine codeAny_mono hq (fun r s' z => ?_)
  rcases r with e | (v | _ | _ | _) <;> exact z
end
/-! errors under ValueError or KeyError, with an __init__ of their own: made, kept as values, looked at -/
section
open PySem.W PySem.Calls
variable {prog : Program} {w : World} {A : Around} {E : Value → Shared → Prop} {R : Result → Shared → Prop} {hp : Heap} {g : Array GenState} {d : Drawn} {t : Nat} {os : OsState}
theorem e_osa {K : W.Frag} {name : Str} {tk : Tok} {v : Value} {x C : Addr} {fv : Array Value} {cd : ClassData} (X : K.In hp) (hx : hp.get? x = some { cls := .ref C, data := .fields fv }) (hcd : W.clsIn K C = some cd)
    (hps : ∀ self, refuseLoop self "__setattr__" cd.mro = pure ()) (ne : cd.mro.isEmpty = false) (hob : cd.mro.contains (.type "object") = true) (hh : cd.hasDict = true) (ha : W.findIn K (.ref C) name = some none)
    (hq : ∀ h' tk' dx, (∀ b o, b ≠ x → hp.get? b = some o → h'.get? b = some o) → hp.objs.size ≤ dx → dx ≠ x → h'.get? x = some { cls := .ref C, dict := some dx, data := .fields fv } →
      h'.Ns1 dx (fun y => if y = name then some v else none) → R (.ok (.ret .none)) ⟨h', g, d, tk', os⟩) :
    codeAny (model prog w) A (.call (.builtin "object.__setattr__") ⟨[.ref x, .str name tk, v], []⟩) R ⟨hp, g, d, t, os⟩ := by
  have I : W.InstAt hp x { cls := .ref C, data := .fields fv } C none := ⟨hx, rfl, rfl, trivial⟩
  have SF := F.store_object
  have hxs : x ≠ hp.objs.size := Nat.ne_of_lt (Heap.lt_size hx)
  have sub : W.Looks (model prog w) hp (isInstance (.ref x) (.type "object")) true := I.type.andThen (W.looks_mroIn X (by unfold W.mroIn; rw [hcd, Option.bind_some, if_neg (by rw [ne]; decide), hob]))
  refine codeAny_call_builtin SF.slot.plain SF.entry (@W.check_slot (model prog w) _ _ ⟨hp, g, d, t, os⟩ "object.__setattr__" "object" "__setattr__" (.ref x) [.str name tk, v] [] _ SF.kind SF.split sub (SF.args (.ref x) (.str name tk) v) ?_)
  have hmr : W.Looks (model prog w) hp (mroOf (.ref C)) cd.mro := (W.looks_clsIn X hcd).andThen .now
  have L3 : W.Looks (model prog w) hp (Builtin.ObjectAttr.storeTaker? none) none := .now
  have hcls : W.Looks (model prog w) hp (classData C) cd := W.looks_clsIn X hcd
  rw [W.osa_eq, refuse_eq]
  refine wpAny_bind (wpAny_bind (I.type.at (wpAny_bind (hmr.at ?_))))
  rw [hps]
  refine wpAny_pure (wpAny_bind (I.type.at (wpAny_bind ((W.looks_findIn X ha).at (wpAny_bind (L3.at ?_))))))
  show wpAny _ _ (Builtin.ObjectAttr.storeInOwnDict (.ref x) (.ref C) (.str name tk) name v false) _ _ _
  obtain ⟨nm, bs, mro, ns, qn, hd, sn, sb, ab, col, del⟩ := cd
  dsimp only at hh
  subst hh
  unfold Builtin.ObjectAttr.storeInOwnDict Builtin.ObjectAttr.ownDictForStores
  repeat (first | with_reducible refine HandSPX.store_in_new ?_ ?_ | with_reducible refine wpAny_loadPart_at hx ?_ | with_reducible refine hcls.at ?_ | wp_step)
  · exact ⟨_, #[], _, (Heap.get?_update_ne _ _ _ _ hxs.symm).trans (Heap.get?_push_at rfl rfl), rfl, (fun e he => absurd he (by simp)), fun _ => rfl⟩
  · intro h' tk' hn' hs
    have hx₁ : (hp.push { cls := .type "dict", data := .dict #[] }).get? x = some { cls := .ref C, data := .fields fv } := Heap.get?_push_of_some _ hx
    refine hq h' tk' hp.objs.size (fun b o hb ho => ?_) (Nat.le_refl _) hxs.symm ?_ hn'
    · exact (hs.2 b (Nat.ne_of_lt (Heap.lt_size ho))).trans ((Heap.get?_update_ne _ _ _ _ hb).trans (Heap.get?_push_of_some _ ho))
    · exact (hs.2 x hxs).trans (Heap.get?_update_self _ hx₁ rfl)
theorem e_osb {K : W.Frag} {name : Str} {tk : Tok} {v : Value} {x C dx : Addr} {fv : Array Value} {cd : ClassData} {m0 : Str → Option Value} {nl : List Str} (X : K.In hp) (hx : hp.get? x = some { cls := .ref C, dict := some dx, data := .fields fv })
    (hns : hp.Ns1 dx m0) (hw : Within m0 nl) (hz : nl.length ≤ 1000) (hcd : W.clsIn K C = some cd)
    (hps : ∀ self, refuseLoop self "__setattr__" cd.mro = pure ()) (ne : cd.mro.isEmpty = false) (hob : cd.mro.contains (.type "object") = true) (hh : cd.hasDict = true) (ha : W.findIn K (.ref C) name = some none)
    (hq : ∀ h' tk', (∀ b o, b ≠ dx → hp.get? b = some o → h'.get? b = some o) → h'.Ns1 dx (fun y => if y = name then some v else m0 y) → R (.ok (.ret .none)) ⟨h', g, d, tk', os⟩) :
    codeAny (model prog w) A (.call (.builtin "object.__setattr__") ⟨[.ref x, .str name tk, v], []⟩) R ⟨hp, g, d, t, os⟩ := by
  obtain ⟨oD, esD, epD, hoD, hdD, _⟩ := hns.count hw
  have I : W.InstAt hp x { cls := .ref C, dict := some dx, data := .fields fv } C (some oD) := ⟨hx, rfl, rfl, hoD⟩
  have SF := F.store_object
  have sub : W.Looks (model prog w) hp (isInstance (.ref x) (.type "object")) true := I.type.andThen (W.looks_mroIn X (by unfold W.mroIn; rw [hcd, Option.bind_some, if_neg (by rw [ne]; decide), hob]))
  refine codeAny_call_builtin SF.slot.plain SF.entry (@W.check_slot (model prog w) _ _ ⟨hp, g, d, t, os⟩ "object.__setattr__" "object" "__setattr__" (.ref x) [.str name tk, v] [] _ SF.kind SF.split sub (SF.args (.ref x) (.str name tk) v) ?_)
  have hmr : W.Looks (model prog w) hp (mroOf (.ref C)) cd.mro := (W.looks_clsIn X hcd).andThen .now
  have L3 : W.Looks (model prog w) hp (Builtin.ObjectAttr.storeTaker? none) none := .now
  have hcls : W.Looks (model prog w) hp (classData C) cd := W.looks_clsIn X hcd
  rw [W.osa_eq, refuse_eq]
  refine wpAny_bind (wpAny_bind (I.type.at (wpAny_bind (hmr.at ?_))))
  rw [hps]
  refine wpAny_pure (wpAny_bind (I.type.at (wpAny_bind ((W.looks_findIn X ha).at (wpAny_bind (L3.at ?_))))))
  show wpAny _ _ (Builtin.ObjectAttr.storeInOwnDict (.ref x) (.ref C) (.str name tk) name v false) _ _ _
  obtain ⟨nm, bs, mro, ns, qn, hd, sn, sb, ab, col, del⟩ := cd
  dsimp only at hh
  subst hh
  unfold Builtin.ObjectAttr.storeInOwnDict Builtin.ObjectAttr.ownDictForStores
  repeat (first | with_reducible refine OEX.store_in_old hns hw hz ?_ | with_reducible refine wpAny_loadPart_at hx ?_ | with_reducible refine hcls.at ?_ | wp_step)
  intro h' tk' hn' hs
  exact hq h' tk' (fun b o hb ho => (hs.2 b hb).trans ho) hn'
end
/-- what the written part says of an own error class that has an __init__ -/
structure ExK (K : PySem.W.Frag) (C : Addr) : Prop where
  cls : ∃ B newId initId bmF T nm q N bs bm sn sub ab col dd k0 k1 k2 k3 k5, EBase B newId initId bmF T ∧ K.lookup C = some (excClassObj nm q C N bs bm true sn sub ab col dd k0 k1 k2 k3 k5 newId) ∧ tlB T bm = true
  sa : PySem.W.findIn K (.ref C) "__setattr__" = some (some (.builtin "object.__setattr__"))
  exC : PySem.W.subIn K (.ref C) (.type "BaseException") = some true
  tyC : PySem.W.typeIn K (.ref C) = some (.type "type")
  kC : PySem.W.keepIn K (.ref C) = true
theorem ExK.cd {K : PySem.W.Frag} {C : Addr} (T : ExK K C) : ∃ cd, PySem.W.clsIn K C = some cd ∧ (∀ self, refuseLoop self "__setattr__" cd.mro = pure ()) ∧ cd.mro.isEmpty = false ∧ cd.mro.contains (.type "object") = true ∧ cd.hasDict = true := by
  obtain ⟨B, newId, initId, bmF, T0, nm, q, N, bs, bm, sn, sub, ab, col, dd, k0, k1, k2, k3, k5, F, hC, hbm⟩ := T.cls
  have h2 : tlB T0 (.ref C :: bm) = true := hbm
  exact ⟨{ name := nm, bases := bs, mro := .ref C :: bm, ns := N, qualname := q, hasDict := true, slotNames := sn, subclasses := sub, abstract := ab, collection := col, hasDel := false }, by (unfold PySem.W.clsIn; rw [hC] <;> rfl),
    fun self => tl_pass self (F.pass self) _ h2, rfl, (tl_has "object" _ h2).trans F.ob, rfl⟩
section
variable {X : Cx} {pins : List (Addr × Obj)} {σ : L2.St} {H : Hp} {s : Shared} {a C dx : Addr} {f : Str} {y : V} {u : Value} {fs : List (Str × V)} {Q : Unit → Shared → Prop} {E : Value → Shared → Prop} {A : Around}
/-- the first attribute -/
theorem e_st1 (T : ExK X.K C) (I : Inv X pins σ H s) (e : H a = some (exo a C none)) (hno : PySem.W.findIn X.K (.ref C) f = some none) (ry : RelV y u)
    (h : ∀ dx s', H dx = none → dx ≠ a → Inv X pins σ (upd (upd H dx (exd dx [(f, y)])) a (exo a C (some dx))) s' → Q () s') : wpAny (model X.prog X.w) A (setAttr (.ref a) f u) Q E s := by
  obtain ⟨cd, hcl, hp0, hne, hob, hdc⟩ := T.cd
  obtain ⟨t1, ho⟩ := exo_at I.hok e
  obtain ⟨hp, g, d, t, os⟩ := s
  refine PySem.W.set_plain I.kIn (ox := { cls := .ref C, dict := none, data := .fields #[.ref t1, .none, .none, .none, .bool false, .none] }) (od := none) ⟨ho, rfl, rfl, trivial⟩ T.sa ?_
  refine e_osa I.kIn ho hcl hp0 hne hob hdc hno (fun h' tk' dx k dn dne hx hn => ?_)
  have hnd : H dx = none := I.hok.fresh dn
  have nd : ∀ {b : Addr} {o : Obj}, hp.get? b = some o → b ≠ dx := fun {b o} q => Nat.ne_of_lt (Nat.lt_of_lt_of_le (Heap.lt_size q) dn)
  have na : ∀ {b : Addr}, H b = none → b ≠ a := fun {b} n z => by
    rw [z, e] at n
    cases n
  have Un1 : Un X.fs [] H (upd (upd H dx (exd dx [(f, y)])) a (exo a C (some dx))) hp h' := ⟨fun b o q n _ _ => k b o (na n) q, fun b o q n _ _ => ⟨o.slots, k b o (na n) q⟩,
    fun b o q n _ => by (rw [upd_ne (na n), upd_ne (nd q)]; exact n),
    fun b o q _ => by
      by_cases hb : b = a
      · exact ⟨_, by (rw [hb]; exact hx)⟩
      · exact ⟨o, k b o hb q⟩,
    fun b xs q => by (rw [upd_ne (at_ne e q exo_tup), upd_ne (ne_of_none q hnd)]; exact q),
    fun b o v q => by (rw [upd_ne (at_ne e q exo_frz), upd_ne (ne_of_none q hnd)]; exact q),
    fun b ps q => ⟨#[], by (rw [upd_ne (at_ne e q exo_tbl), upd_ne (ne_of_none q hnd), q]; simp)⟩⟩
  refine h dx _ hnd dne (I.un (t' := tk') Un1 (fun b o q => ?_))
  by_cases hb : b = a
  · subst hb
    rw [upd_same] at q
    cases q
    exact exo_ok hx
  · rw [upd_ne hb] at q
    by_cases hd : b = dx
    · subst hd
      rw [upd_same] at q
      cases q
      exact exd_ok hn (relO_put (fs := []) ry (fun g => True.intro))
    · rw [upd_ne hd] at q
      refine (I.hok b o q).stay (fun c v hc z => k c v ?_ z) (fun c hc => ?_) (fun c xs hc => ?_)
      · rcases hc with hc | hc
        · rw [hc]
          exact hb
        · exact at_ne e hc exo_own
      · rw [upd_ne (at_ne e hc exo_own), upd_ne (ne_of_none hc hnd)]
        exact hc
      · rw [upd_ne (at_ne e hc exo_tup), upd_ne (ne_of_none hc hnd)]
        exact hc
/-- a further attribute -/
theorem e_st2 (T : ExK X.K C) (I : Inv X pins σ H s) (e : H a = some (exo a C (some dx))) (ed : H dx = some (exd dx fs)) (hl : fs.length ≤ 900) (hno : PySem.W.findIn X.K (.ref C) f = some none) (ry : RelV y u)
    (h : ∀ s', Inv X pins σ (upd H dx (exd dx ((f, y) :: fs))) s' → Q () s') : wpAny (model X.prog X.w) A (setAttr (.ref a) f u) Q E s := by
  obtain ⟨cd, hcl, hp0, hne, hob, hdc⟩ := T.cd
  obtain ⟨t1, ho⟩ := exo_at I.hok e
  obtain ⟨mA, hns, rel⟩ := exd_at I.hok ed
  have hw := within_of rel
  obtain ⟨hp, g, d, t, os⟩ := s
  obtain ⟨oD, _, _, hoD, _, _⟩ := hns.count hw
  refine PySem.W.set_plain I.kIn (ox := { cls := .ref C, dict := some dx, data := .fields #[.ref t1, .none, .none, .none, .bool false, .none] }) (od := some oD) ⟨ho, rfl, rfl, hoD⟩ T.sa ?_
  refine e_osb I.kIn ho hns hw (by (rw [List.length_map]; omega)) hcl hp0 hne hob hdc hno (fun h' tk' k hn => ?_)
  have hd : ∃ o, h'.get? dx = some o := by
    obtain ⟨o, _, _, e', _⟩ := hn
    exact ⟨o, e'⟩
  exact h _ (I.write (t' := tk') (x := dx) (e := dx) (o := exd dx ((f, y) :: fs)) (by rw [ed]; exact True.intro) (.inl rfl) k hd (exd_ok hn (relO_put ry rel)))
end
/-- self.f = e -/
def tOsK (K : PySem.W.Frag) (f : Str) (to te : TE) : TS := fun D σ H => te σ H fun y H1 => to σ H1 fun x H2 => ∃ a C : Addr, x = .ref a ∧ ExK K C ∧ PySem.W.findIn K (.ref C) f = some none ∧
  ((H2 a = some (exo a C none) ∧ ∀ dx, H2 dx = none → dx ≠ a → D.nx σ (upd (upd H2 dx (exd dx [(f, y)])) a (exo a C (some dx)))) ∨
    ∃ (dx : Addr) (fs : List (Str × V)), H2 a = some (exo a C (some dx)) ∧ H2 dx = some (exd dx fs) ∧ fs.length ≤ 900 ∧ D.nx σ (upd H2 dx (exd dx ((f, y) :: fs))))
/-- C(e, ..), kept as a value -/
def tMkE (C : Addr) (sp : Sp) (ta : TA) : TE := fun σ H Q => ta σ H fun vs H1 => vs.length ≤ 900 ∧ ∀ a, H1 a = none → sp (.ref a :: vs) (upd H1 a (exo a C none)) (fun v H2 => v = .non ∧ Q (.ref a) H2) fun _ _ _ => False
/-- C(k = v, ..) -/
def tMkEK (C : Addr) (m : Nat) (sp : Sp) (gV : List V → List V → List V) (tk : TA) : TE := fun σ H Q => tk σ H fun zs H1 => zs.length = m ∧ ∀ a, H1 a = none → sp (gV [.ref a] zs) (upd H1 a (exo a C none)) (fun v H2 => v = .non ∧ Q (.ref a) H2) fun _ _ _ => False
section
variable {X : Cx} {CX : CXT} {k : Nat} {C fI : Addr} {fd : FuncData} {ps ks : List Str} {sp : Sp} {o e : Expr} {es : List Expr} {to te : TE} {ta tk : TA} {f x : Str} {p p' pos : Pos} {g : List Value → List Value → List Value} {gV : List V → List V → List V} {kws : List Keyword}
theorem ps_osK (ho : PE X o to) (he : PE X e te) (hs : swapsWith e (some (.Attribute o f p')) pos.line X.env = pure false := by rfl) : PS X (.Assign [.Attribute o f p'] e pos) (tOsK X.K f to te) := by
  refine ⟨fun pins s σ H D I h => ?_⟩
  refine plainObj_wpAny_Assign_Attribute (thn (he.run pins s σ H _ I h) fun v s1 ⟨y, H1, I1, r1, q1⟩ => thn (ho.run pins s1 σ H1 _ I1 q1) fun u s2 ⟨x, H2, I2, r2, a, C, ex, T, hno, q⟩ => ?_) hs
  subst ex
  obtain rfl : u = Value.ref a := r2
  rcases q with ⟨ea, q⟩ | ⟨dx, fs, ea, ed, hl, q⟩
  · exact e_st1 T I2 ea hno r1 (fun dx s' n ne J => ⟨σ, _, J, q dx n ne⟩)
  · exact e_st2 T I2 ea ed hl hno r1 (fun s' J => ⟨σ, _, J, q⟩)
/-- the class is called -/
theorem run_mkE {pins : List (Addr × Obj)} {σ : L2.St} {H : Hp} {s : Shared} {Q : VK} {us : List Value} {kw : List (Str × Value)} {xs : Addr → List Value} {vs : Addr → List V} (T : ExK X.K C) (iC : PySem.W.findIn X.K (.ref C) "__init__" = some (some (.ref fI)))
    (tI : PySem.W.typeIn X.K (.ref fI) = some (.type "function")) (F1 : FnOk X.prog X.w X.K X.mg X.base CX k fI fd ps sp) (hr : Room (k + 1) X.A) (hx : Passes CX X (fun _ _ _ => False)) (I : Inv X pins σ H s) (hus : us.length ≤ 900)
    (hb : ∀ (s' : Shared) a, X.K.In s'.heap → BindsTo s' fd ⟨.ref a :: us, kw⟩ (ps.zip (xs a))) (r : ∀ a, Vals (vs a) (xs a))
    (h : ∀ a, H a = none → sp (vs a) (upd H a (exo a C none)) (fun v H2 => v = .non ∧ Q (.ref a) H2) fun _ _ _ => False) : wpAny (model X.prog X.w) X.A (call (.ref C) us kw) (EP X pins σ Q) X.xe s := by
  obtain ⟨B, newId, initId, bmF, T0, nm, q, N, bs, bm, sn, sub, ab, col, dd, k0, k1, k2, k3, k5, F, hC, hbm⟩ := T.cls
  obtain ⟨hp, g, dr, tk, os⟩ := s
  have hsz : hp.objs.size ≤ hp.objs.size + 1 := Nat.le_succ _
  have hn : H (hp.objs.size + 1) = none := I.hok.fresh hsz
  have hq := h (hp.objs.size + 1) hn
  have kk : ∀ b o, hp.get? b = some o → ((hp.push (PySem.W.kdv_tup us)).push (PySem.HandSPX.excO C hp.objs.size)).get? b = some o := fun b o e => Heap.get?_push_of_some _ (Heap.get?_push_of_some _ e)
  have hget : ((hp.push (PySem.W.kdv_tup us)).push (PySem.HandSPX.excO C hp.objs.size)).get? (hp.objs.size + 1) = some (PySem.HandSPX.excO C hp.objs.size) := by heap_get
  have I2 : Inv X pins σ (upd H (hp.objs.size + 1) (exo (hp.objs.size + 1) C none)) ⟨(hp.push (PySem.W.kdv_tup us)).push (PySem.HandSPX.excO C hp.objs.size), g, dr, tk, os⟩ :=
    I.laid (t' := tk) (a := hp.objs.size + 1) (o := exo (hp.objs.size + 1) C none) (h' := (hp.push (PySem.W.kdv_tup us)).push (PySem.HandSPX.excO C hp.objs.size)) kk hsz (exo_ok hget)
  refine wpAny_call (e_call F hbm (I.kIn _ _ hC) (PySem.W.looks_findIn I.kIn iC) (fun self => PySem.W.bind_fn I.kIn self tI) (by (rw [sizeLine_eq]; omega))
    (codeAny_mono (F1.run _ X.stack _ _ ⟨Value.ref (hp.objs.size + 1) :: us, kw⟩ (xs (hp.objs.size + 1)) _ _ (fun _ _ _ => False) (hr.make C us kw) (I2.env0.make C us kw) (hb _ _ I2.kIn) (r _) hq) fun r s' hq' => ?_))
  cases r with
  | error er => exact hx pins σ _ _ er s' I2 hq'
  | ok fl =>
    cases fl with
    | ret u =>
      obtain ⟨v, H', I3, rv, ev, q3⟩ := I2.after hq'
      subst ev
      exact ⟨rv, ⟨V.ref (hp.objs.size + 1), H', I3, rfl, q3⟩⟩
    | next => exact False.elim hq'
    | brk => exact False.elim hq'
    | cont => exact False.elim hq'
theorem pe_mkE (T : ExK X.K C) (iC : PySem.W.findIn X.K (.ref C) "__init__" = some (some (.ref fI))) (tI : PySem.W.typeIn X.K (.ref fI) = some (.type "function")) (F1 : FnOk X.prog X.w X.K X.mg X.base CX k fI fd ps sp) (hr : Room (k + 1) X.A)
    (hb : Binds X.K fd ps []) (hx : Passes CX X (fun _ _ _ => False)) (hg : Gl X x) (hm : X.mg x = some (.ref C)) (ha : PA X (e :: es) ta)
    (hdb : (x == ("__debug__" : Str)) = false := by decide) (he : starEach (e :: es) X.env = (false, eval e X.env) :: starEach es X.env := by rfl) (hpl : (backTo pos (starEach es X.env)).any (·.1) = false := by rfl) :
    PE X (.Call (.Name x p) (e :: es) [] pos) (tMkE C sp ta) := by
  refine ⟨fun pins s σ H Q I h => ?_⟩
  refine wpAny_Call_Name_kw (ld_glob I hg hm ?_ hdb)
  refine PySem.W.callWith_K (h₀ := X.base) I.ok.mod.kin T.kC (thn (ha.run pos pins s σ H _ I h) fun us s1 ⟨vs, H1, I1, r1, hz, q1⟩ => ⟨I1.kIn, ?_⟩) he hpl
  show wpAny _ _ (call (.ref C) us) _ _ _
  have hl : us.length = vs.length := r1.length.symm
  refine run_mkE (xs := fun a => .ref a :: us) (vs := fun a => .ref a :: vs) T iC tI F1 hr hx I1 (by (rw [hl]; exact hz)) (fun s' a Y => ?_) (fun a => .cons rfl r1) q1
  have n1 : (Value.ref a :: us ++ []).length = ps.length := by
    have e := F1.len _ _ _ _ (q1 (s1.heap.objs.size + 1) (I1.hok.fresh (Nat.le_succ _)))
    rw [List.append_nil, List.length_cons, hl]
    exact e
  have z := hb s' (.ref a :: us) Y n1
  rw [List.append_nil] at z
  exact z
theorem pe_mkEK (T : ExK X.K C) (iC : PySem.W.findIn X.K (.ref C) "__init__" = some (some (.ref fI))) (tI : PySem.W.typeIn X.K (.ref fI) = some (.type "function")) (F1 : FnOk X.prog X.w X.K X.mg X.base CX k fI fd ps sp) (hr : Room (k + 1) X.A)
    (hb : KBn X.K fd ps 1 ks g gV) (hx : Passes CX X (fun _ _ _ => False)) (hg : Gl X x) (hm : X.mg x = some (.ref C)) (hkw : PK X kws tk)
    (hall : (backToKw pos (keywordEach kws X.env)).all (·.1.isSome) = true := by rfl) (hks : (backToKw pos (keywordEach kws X.env)).filterMap (·.1) = ks := by rfl) (hdb : (x == ("__debug__" : Str)) = false := by decide)
    (hpl : ((backTo pos (starEach [] X.env)).any (·.1) || (backToKw pos (keywordEach kws X.env)).any (·.1.isNone)) = false := by rfl) :
    PE X (.Call (.Name x p) [] kws pos) (tMkEK C ks.length sp gV tk) := by
  refine ⟨fun pins s σ H Q I h => ?_⟩
  refine wpAny_Call_Name_kw (ld_glob I hg hm ?_ hdb)
  refine PySem.W.callWith_KW0 (h₀ := X.base) I.ok.mod.kin T.kC hall ?_ hpl
  refine thn (hkw.run pos pins s σ H _ I h) fun ws s2 ⟨zs, H2, I2, rz, l2, q2⟩ => ⟨I2.kIn, ?_⟩
  rw [hks]
  exact run_mkE (xs := fun a => g [.ref a] ws) (vs := fun a => gV [.ref a] zs) T iC tI F1 hr hx I2 (Nat.zero_le _) (fun s' a Y => hb.to s' [.ref a] ws Y rfl (rz.length.symm.trans l2)) (fun a => hb.rel (.cons rfl .nil) rz) q2
/-- C(), without an __init__ of its own -/
theorem pe_mkE0 {bmB : List Value} {B newId initId : String} (F : ExcBaseFacts B newId initId bmB) (q : PySem.W.excIn X.K C bmB newId = true) (kC : PySem.W.keepIn X.K (.ref C) = true) (hg : Gl X x) (hm : X.mg x = some (.ref C)) (hdb : (x == ("__debug__" : Str)) = false := by decide) :
    PE X (.Call (.Name x p) [] [] pos) (fun σ H Q => ∀ a, H a = none → Q (.ref a) (upd H a (exo a C none))) := by
  refine ⟨fun pins s σ H Q I h => ?_⟩
  refine wpAny_Call_Name_kw (ld_glob I hg hm ?_ hdb)
  refine PySem.W.callWith_K0 I.kIn kC ?_
  show wpAny _ _ (call (.ref C) []) _ _ _
  obtain ⟨bm, N, nm, qn, bs, hdct, sn, sub, ab, col, dd, k0, k1, k2, k3, k5, mN, hC, hN, hni, T⟩ := exc_obj I.kIn q
  refine wpAny_call_exc_subT F T hC hN hni (fun h' a hm => ?_) (Nat.zero_le _)
  have hn : H a = none := I.hok.gone hm.new
  obtain ⟨t, ht, _, _⟩ := hm.there
  exact ⟨.ref a, upd H a (exo a C none), I.laidN hm.keeps hm.new hn (exo_ok ht), rfl, h a hn⟩
/-- raise C(e, ..) -/
theorem pmk_exK {ta : TA} (T : ExK X.K C) (iC : PySem.W.findIn X.K (.ref C) "__init__" = some (some (.ref fI))) (tI : PySem.W.typeIn X.K (.ref fI) = some (.type "function")) (F1 : FnOk X.prog X.w X.K X.mg X.base CX k fI fd ps sp) (hr : Room (k + 1) X.A)
    (hb : Binds X.K fd ps []) (hx : Passes CX X (fun _ _ _ => False)) (hg : Gl X x) (hm : X.mg x = some (.ref C)) (ha : PA X (e :: es) ta)
    (hdb : (x == ("__debug__" : Str)) = false := by decide) (he : starEach (e :: es) X.env = (false, eval e X.env) :: starEach es X.env := by rfl) (hpl : (backTo pos (starEach es X.env)).any (·.1) = false := by rfl) :
    PMk X (.Call (.Name x p) (e :: es) [] pos) (tMkO C sp [] ta) := by
  intro pins s σ H Q I h
  obtain ⟨B, newId, initId, bmF, T0, nm, q, N, bs, bm, sn, sub, ab, col, dd, k0, k1, k2, k3, k5, F, hC, hbm⟩ := T.cls
  refine wpAny_Call_Name_kw (ld_glob I hg hm ?_ hdb)
  refine PySem.W.callWith_K (h₀ := X.base) I.ok.mod.kin T.kC (thn (ha.run pos pins s σ H _ I h) fun us s1 ⟨vs, H1, I1, r1, hz, q1⟩ => ⟨I1.kIn, ?_⟩) he hpl
  show wpAny _ _ (call (.ref C) us) _ _ _
  obtain ⟨hp, g, dr, tk, os⟩ := s1
  have hsz : hp.objs.size ≤ hp.objs.size + 1 := Nat.le_succ _
  have hn : H1 (hp.objs.size + 1) = none := I1.hok.fresh hsz
  have hq := q1 (hp.objs.size + 1) hn
  rw [List.append_nil] at hq
  have kk : ∀ b o, hp.get? b = some o → ((hp.push (PySem.W.kdv_tup us)).push (PySem.HandSPX.excO C hp.objs.size)).get? b = some o := fun b o e => Heap.get?_push_of_some _ (Heap.get?_push_of_some _ e)
  have hget : ((hp.push (PySem.W.kdv_tup us)).push (PySem.HandSPX.excO C hp.objs.size)).get? (hp.objs.size + 1) = some (PySem.HandSPX.excO C hp.objs.size) := by heap_get
  have I2 : Inv X pins σ (upd H1 (hp.objs.size + 1) (exo (hp.objs.size + 1) C none)) ⟨(hp.push (PySem.W.kdv_tup us)).push (PySem.HandSPX.excO C hp.objs.size), g, dr, tk, os⟩ :=
    I1.laid (t' := tk) (a := hp.objs.size + 1) (o := exo (hp.objs.size + 1) C none) (h' := (hp.push (PySem.W.kdv_tup us)).push (PySem.HandSPX.excO C hp.objs.size)) kk hsz (exo_ok hget)
  have r2 : Vals (V.ref (hp.objs.size + 1) :: vs) (Value.ref (hp.objs.size + 1) :: us) := .cons rfl r1
  have hl : (Value.ref (hp.objs.size + 1) :: us ++ []).length = ps.length := by
    have e := r2.length
    rw [F1.len _ _ _ _ hq] at e
    rw [List.append_nil]
    exact e.symm
  have hus : us.length ≤ sizeLine := by
    rw [← Paired.length r1, sizeLine_eq]
    omega
  have bd := hb ⟨(hp.push (PySem.W.kdv_tup us)).push (PySem.HandSPX.excO C hp.objs.size), g, dr, tk, os⟩ (Value.ref (hp.objs.size + 1) :: us) I2.kIn hl
  rw [List.append_nil] at bd
  refine wpAny_call (e_call F hbm (I1.kIn _ _ hC) (PySem.W.looks_findIn I1.kIn iC) (fun self => PySem.W.bind_fn I1.kIn self tI) hus
    (codeAny_mono (F1.run _ X.stack _ _ ⟨Value.ref (hp.objs.size + 1) :: us, []⟩ (Value.ref (hp.objs.size + 1) :: us) _ _ (fun _ _ _ => False) (hr.make C us []) (I2.env0.make C us []) bd r2 hq) fun r s' hq' => ?_))
  cases r with
  | error er => exact hx pins σ _ _ er s' I2 hq'
  | ok fl =>
    cases fl with
    | ret u =>
      obtain ⟨v, H2, os2, bare2, un2, hok2, rv, ev, d, fs, ea, ed, hd1, q2⟩ := hq'
      subst ev
      obtain ⟨h2, g2, d2, t2, os'⟩ := s'
      exact ⟨rv, mk_end (raises_own T.exC T.tyC) I1 hsz kk un2 hok2 os2 bare2 ea ed hd1 q2⟩
    | next => exact False.elim hq'
    | brk => exact False.elim hq'
    | cont => exact False.elim hq'
end
/-! errors that are kept as values: attributes, isinstance -/
/-- e.f -/
def tXa (K : PySem.W.Frag) (f : Str) (te : TE) : TE := fun σ H Q => te σ H fun x H1 => ∃ (a C d : Addr) (fs : List (Str × V)) (v : V), x = .ref a ∧ XfC K C ∧ PySem.W.findIn K (.ref C) f = some none ∧ H1 a = some (exo a C (some d)) ∧ H1 d = some (exd d fs) ∧ fs.lookup f = some v ∧ Q v H1
section
variable {X : Cx} {e : Expr} {te : TE} {pos : Pos} {n : Str}
theorem pe_xa (he : PE X e te) (hb : attributeBase e n X.env (eval e X.env) = eval e X.env := by rfl) : PE X (.Attribute e n pos) (tXa X.K n te) := by
  refine ⟨fun pins s σ H Q I h => ?_⟩
  refine attr_of hb (thn (he.run pins s σ H _ I h) fun u s1 hh => ?_)
  obtain ⟨x, H1, I1, rx, a, C, d, fs, v, ex, T, hno, ea, ed, l, q⟩ := hh
  subst ex
  obtain rfl : u = Value.ref a := rx
  obtain ⟨t1, ha⟩ := exo_at I1.hok ea
  obtain ⟨mA, hns, hr⟩ := exd_at I1.hok ed
  obtain ⟨od, ho, hl⟩ := lookIn_ns hns
  obtain ⟨u, hu, ru⟩ := RelO.some_of (v := v) (o := mA n) (by rw [← l]; exact hr n)
  have J : PySem.W.InstAt s1.heap a { cls := .ref C, dict := some d, data := .fields #[.ref t1, .none, .none, .none, .bool false, .none] } C (some od) := ⟨ha, rfl, rfl, ho⟩
  exact HandSPX.exc_get I1.kIn J T.ga T.gg T.exC (PySem.W.findObj_own T.hdC hno rfl (by rw [hl, hu])) (handed_of ru) ⟨v, H1, I1.tok _, ru, q⟩
end
/-- an error of the class D stands at a -/
def ErrAt (H : Hp) (D a : Addr) : Prop := H a = some (exo a D none) ∨ ∃ d fs, H a = some (exo a D (some d)) ∧ H d = some (exd d fs)
theorem ErrAt.up {H H' : Hp} {D a : Addr} (s : Same H H') (h : ErrAt H D a) : ErrAt H' D a := by
  rcases h with h | ⟨d, fs, h1, h2⟩
  · exact .inl (s _ _ h)
  · exact .inr ⟨d, fs, s _ _ h1, s _ _ h2⟩
def rIsX (K : PySem.W.Frag) : List V → Hp → VK → Prop := fun xs H Q => ∃ (a D : Addr) (c : V) (cv : Value) (b : Bool), xs = [.ref a, c] ∧ ExcC K D ∧ ErrAt H D a ∧ (∀ u, RelV c u → u = cv) ∧ PySem.W.kitOne K (.ref D) cv = some b ∧ Q (.bl b) H
theorem hasD_cls {K : PySem.W.Frag} {D : Addr} (h : PySem.W.hasDictIn K D = true) : (PySem.W.clsIn K D).isSome = true := by
  unfold PySem.W.hasDictIn at h
  cases e : PySem.W.clsIn K D with
  | none =>
    rw [e] at h
    cases h
  | some c => rfl
theorem call_isX {X : Cx} : CallR X (.builtin "isinstance") (rIsX X.K) := by
  intro pins s σ H xs us Q I r h
  obtain ⟨a, D, c, cv, b, rfl, C, he, hcv, e, q⟩ := h
  cases r with
  | cons rx rr =>
    cases rr with
    | cons rt rr =>
      cases rr
      cases rx
      have ec := hcv _ rt
      subst ec
      have fin : ∀ {ox : Obj} {od : Option Obj}, PySem.W.InstAt s.heap a ox D od → wpAny (model X.prog X.w) X.A (call (.builtin "isinstance") [.ref a, _]) (EP X pins σ Q) X.xe s := fun {ox od} J =>
        PySem.W.kia_one (PySem.W.kitx_exc (hasD_cls C.hd) C.hg C.hk C.hs C.ha C.hn C.ht C.hm) I.kIn J e (fun z => nomatch z) fun tk => ⟨.bl b, H, I.kept (t' := tk) fun _ _ z => z, rfl, q⟩
      rcases he with ea | ⟨d, fs, ea, ed⟩
      · obtain ⟨t1, ha⟩ := exo_at I.hok ea
        exact fin (od := none) ⟨ha, rfl, rfl, trivial⟩
      · obtain ⟨t1, ha⟩ := exo_at I.hok ea
        obtain ⟨mA, ⟨o, es, ep, ho, hr⟩, _⟩ := exd_at I.hok ed
        exact fin (od := some o) ⟨ha, rfl, rfl, ho⟩
/-! own classes: ==, !=, str, repr by the class's own defs -/
section
variable {X : Cx} {pins : List (Addr × Obj)} {σ : L2.St} {H : Hp} {s : Shared}
theorem run_at {A' : Around} {k : Nat} {f : Addr} {fd : FuncData} {ps : List Str} {sp : Sp} {us : List Value} {vs : List V} {Q : VK} {E' : Value → Shared → Prop}
    (F : FnOk X.prog X.w X.K X.mg X.base CX0 k f fd ps sp) (hr : Room k A') (ee : Env0 X.prog X.w X.K X.mg X.base A' X.stack s H) (hb : Binds X.K fd ps []) (I : Inv X pins σ H s) (r : Vals vs us) (h : sp vs H Q E0) :
    wpAny (model X.prog X.w) A' (call (.ref f) us) (EP X pins σ Q) E' s := by
  have hl : us.length = ps.length := r.length.symm.trans (F.len _ _ _ _ h)
  have bd := hb s us I.kIn (by rw [List.append_nil]; exact hl)
  rw [List.append_nil] at bd
  refine wpAny_call (codeAny_mono (F.run A' X.stack s H ⟨us, []⟩ us vs Q E0 hr ee bd r h) ?_)
  intro x t hq
  cases x with
  | error z => exact False.elim hq
  | ok fl =>
    cases fl with
    | ret u => exact I.after hq
    | next => exact False.elim hq
    | brk => exact False.elim hq
    | cont => exact False.elim hq
theorem dp_type {v : V} {d : PyData} {u : Value} (I : Inv X pins σ H s) (h : Dp X.K H v d) (r : RelV v u) : s.TypeIs u (tyN d) := by
  cases h with
  | non => cases r; rfl
  | bl b => cases r; rfl
  | int i => obtain ⟨t, rfl⟩ := r; rfl
  | str x => obtain ⟨t, rfl⟩ := r; rfl
  | lst h1 h2 =>
    cases r
    obtain ⟨its, _, ⟨o, n, ho, hc, _, _⟩, _⟩ := I.list h1
    exact ⟨o, ho, hc⟩
  | tup h1 h2 =>
    cases r
    obtain ⟨its, _, ⟨o, ho, hc, _⟩, _⟩ := I.tuple h1
    exact ⟨o, ho, hc⟩
theorem sub_looks {K : PySem.W.Frag} {h : Heap} {t c : Value} {b : Bool} (X : K.In h) (hk : PySem.W.kitOne K t c = some b) (hn : (t == c) = false) (M : Model) : PySem.W.Looks M h (isSubtype t c) b := by
  unfold PySem.W.kitOne at hk
  rw [hn] at hk
  exact (PySem.W.kit_cls X (by simpa using hk)).2.2
end
/-- what an own class says of its special names, and that built-in data are none of it -/
structure OwnC (K : PySem.W.Frag) (C fE : Addr) : Prop where
  c : C8.InsC K C
  eq : Meth K C "__eq__" fE
  ne : PySem.W.findIn K (.ref C) "__ne__" = some (some (.builtin "object.__ne__"))
  k1 : PySem.W.kitOne K (.type "NoneType") (.ref C) = some false
  k2 : PySem.W.kitOne K (.type "bool") (.ref C) = some false
  k3 : PySem.W.kitOne K (.type "int") (.ref C) = some false
  k4 : PySem.W.kitOne K (.type "str") (.ref C) = some false
  k5 : PySem.W.kitOne K (.type "list") (.ref C) = some false
  k6 : PySem.W.kitOne K (.type "tuple") (.ref C) = some false
  j1 : PySem.W.kitOne K (.ref C) (.type "NoneType") = some false
  j2 : PySem.W.kitOne K (.ref C) (.type "bool") = some false
  j3 : PySem.W.kitOne K (.ref C) (.type "int") = some false
  j4 : PySem.W.kitOne K (.ref C) (.type "str") = some false
  j5 : PySem.W.kitOne K (.ref C) (.type "list") = some false
  j6 : PySem.W.kitOne K (.ref C) (.type "tuple") = some false
theorem OwnC.of {K : PySem.W.Frag} {C fE : Addr} (o : OwnC K C fE) {H : Hp} {v : V} {d : PyData} (h : Dp K H v d) : PySem.W.kitOne K (.type (tyN d)) (.ref C) = some false ∧ PySem.W.kitOne K (.ref C) (.type (tyN d)) = some false := by
  cases h with
  | non => exact ⟨o.k1, o.j1⟩
  | bl b => exact ⟨o.k2, o.j2⟩
  | int i => exact ⟨o.k3, o.j3⟩
  | str x => exact ⟨o.k4, o.j4⟩
  | lst h1 h2 => exact ⟨o.k5, o.j5⟩
  | tup h1 h2 => exact ⟨o.k6, o.j6⟩
section
variable {X : Cx} {C fE : Addr} {k : Nat} {fd : FuncData} {sp : Sp}
theorem inst_at {pins : List (Addr × Obj)} {σ : L2.St} {H : Hp} {s : Shared} {a dx : Addr} {fs : List (Str × V)} (I : Inv X pins σ H s) (ha : H a = some (.ins C dx fs)) : ∃ ox od, PySem.W.InstAt s.heap a ox C od := by
  obtain ⟨mA, O, _⟩ := ins_get I.hok ha
  obtain ⟨od, J, _⟩ := O.look
  exact ⟨_, od, J⟩
/-- x == y, x of the class: its own __eq__ tells -/
def rEqL (C : Addr) (sp : Sp) (K : PySem.W.Frag) : R2 := fun x y H Q => ∃ a dx fs, x = .ref a ∧ H a = some (.ins C dx fs) ∧ ((∃ d, Dp K H y d) ∨ ∃ b dy gs, y = .ref b ∧ H b = some (.ins C dy gs)) ∧
  sp [x, y] H (fun v H' => ∃ b, v = .bl b ∧ Q (.bl b) H') E0
theorem op_eqL (O : OwnC X.K C fE) (F : FnOk X.prog X.w X.K X.mg X.base CX0 k fE fd ["self", "other"] sp) (hb : Binds X.K fd ["self", "other"] []) (hr : Room k X.A) : OpR X (compareOp .Eq) (rEqL C sp X.K) := by
  intro pins s σ H x y v u Q I rx ry h
  obtain ⟨a, dx, fs, rfl, ha, hy, q⟩ := h
  cases (show v = Value.ref a from rx)
  obtain ⟨ox, od, J⟩ := inst_at I ha
  have run := run_at (E' := X.xe) F hr I.env0 hb I (.cons rx (.cons ry .nil)) q
  have fin : wpAny (model X.prog X.w) X.A (tryCompare (.ref a) (Str.ofString "__eq__") u) (fun r t => ∃ b, r = some (Value.bool b) ∧ EP X pins σ Q (.bool b) t) X.xe s := by
    unfold tryCompare
    refine wpAny_bind (PySem.W.ifBound_K I.kIn J O.eq.at_ O.eq.fn (wpAny_mono run (fun r t hq => ?_) fun _ _ z => z))
    obtain ⟨v', H', I', rv, b, rfl, q'⟩ := hq
    cases (show r = Value.bool b from rv)
    exact wpAny_pure ⟨b, rfl, .bl b, H', I', rfl, q'⟩
  show wpAny _ _ (richCompare .Eq (.ref a) u) _ _ _
  unfold richCompare
  simp only [oneThing_ref]
  refine wpAny_holding ?_
  refine wpAny_bind (wpAny_cRoomFor hr.units0 ?_)
  refine wpAny_bind (J.type.here ?_)
  rcases hy with ⟨d, hd⟩ | ⟨b, dy, gs, rfl, hb2⟩
  · have ty := dp_type I hd ry
    have kk := O.of hd
    refine wpAny_bind (wpAny_typeOf ty ?_)
    have ne : (Value.ref C != Value.type (tyN d)) = true := rfl
    simp only [ne, if_true]
    refine wpAny_bind ((sub_looks I.kIn kk.1 rfl _).here ?_)
    simp only [Bool.false_eq_true, if_false]
    refine wpAny_bind (m := tryCompare (.ref a) (Str.ofString "__eq__") u) (wpAny_mono fin (fun r t hq => ?_) fun _ _ z => z)
    obtain ⟨b, rfl, hq⟩ := hq
    exact wpAny_pure hq
  · cases (show u = Value.ref b from ry)
    obtain ⟨oy, oe, J2⟩ := inst_at I hb2
    refine wpAny_bind (J2.type.here ?_)
    have ne : (Value.ref C != Value.ref C) = false := by simp
    simp only [ne, Bool.false_eq_true, if_false]
    refine wpAny_bind (wpAny_pure ?_)
    simp only [Bool.false_eq_true, if_false]
    refine wpAny_bind (m := tryCompare (.ref a) (Str.ofString "__eq__") (.ref b)) (wpAny_mono fin (fun r t hq => ?_) fun _ _ z => z)
    obtain ⟨b, rfl, hq⟩ := hq
    exact wpAny_pure hq
end
open AutoSeq1 (wpAny_loadPart')
/-! == of built-in data and an instance: the data decline -/
abbrev plainObj (C : Addr) (dd : Option Addr) (sl : Array (Option Value)) : Obj := { cls := .ref C, dict := dd, data := .plain, slots := sl }
theorem str_declines (b : Str) (u : Tok) (l C : Addr) (dd : Option Addr) (sl : Array (Option Value)) :
    Meets (Builtin.«str.__eq__» ⟨[.str b u, .ref l], []⟩) (fun _ R s => s.heap.get? l = some (plainObj C dd sl) ∧ R (.ok (.ret .notImplemented)) s) :=
  .of_wp fun prog w A R s h => by
    obtain ⟨hp, g, d, tk, os⟩ := s
    obtain ⟨hl, h⟩ := h
    wp_walk using wpAny_loadPart' hl, wpAny_load hl
    exact ⟨_, rfl, h⟩
theorem int_declines (b : Int) (u : Tok) (l C : Addr) (dd : Option Addr) (sl : Array (Option Value)) :
    Meets (Builtin.«int.__eq__» ⟨[.int b u, .ref l], []⟩) (fun _ R s => s.heap.get? l = some (plainObj C dd sl) ∧ R (.ok (.ret .notImplemented)) s) :=
  .of_wp fun prog w A R s h => by
    obtain ⟨hp, g, d, tk, os⟩ := s
    obtain ⟨hl, h⟩ := h
    wp_walk using wpAny_loadPart' hl, wpAny_load hl
    exact ⟨_, rfl, h⟩
theorem bool_declines (b : Bool) (l C : Addr) (dd : Option Addr) (sl : Array (Option Value)) :
    Meets (Builtin.«int.__eq__» ⟨[.bool b, .ref l], []⟩) (fun _ R s => s.heap.get? l = some (plainObj C dd sl) ∧ R (.ok (.ret .notImplemented)) s) :=
  .of_wp fun prog w A R s h => by
    obtain ⟨hp, g, d, tk, os⟩ := s
    obtain ⟨hl, h⟩ := h
    wp_walk using wpAny_loadPart' hl, wpAny_load hl
    exact ⟨_, rfl, h⟩
theorem sub_wp {M : Model} {A : Around} {E : Value → Shared → Prop} {s : Shared} {c t : Value} {b : Bool} {Q : Bool → Shared → Prop} (h : ∀ M, PySem.W.Looks M s.heap (isSubtype c t) b) (q : Q b s) : wpAny M A (isSubtype c t) Q E s := (h M).here q
theorem list_declines (a l C : Addr) (dd : Option Addr) (sl : Array (Option Value)) (o : Obj) :
    Meets (Builtin.«list.__eq__» ⟨[.ref a, .ref l], []⟩) (fun _ R s => s.heap.get? a = some o ∧ s.heap.get? l = some (plainObj C dd sl) ∧ (∀ M, PySem.W.Looks M s.heap (isSubtype (.ref C) (.type "list")) false) ∧ R (.ok (.ret .notImplemented)) s) :=
  .of_wp fun prog w A R s h => by
    obtain ⟨hp, g, d, tk, os⟩ := s
    obtain ⟨ha, hl, hs, h⟩ := h
    wp_walk using wpAny_loadPart' hl, wpAny_load hl, sub_wp hs
    exact ⟨_, rfl, h⟩
theorem tuple_declines (a l C : Addr) (dd : Option Addr) (sl : Array (Option Value)) (o : Obj) :
    Meets (Builtin.«tuple.__eq__» ⟨[.ref a, .ref l], []⟩) (fun _ R s => s.heap.get? a = some o ∧ s.heap.get? l = some (plainObj C dd sl) ∧ (∀ M, PySem.W.Looks M s.heap (isSubtype (.ref C) (.type "tuple")) false) ∧ R (.ok (.ret .notImplemented)) s) :=
  .of_wp fun prog w A R s h => by
    obtain ⟨hp, g, d, tk, os⟩ := s
    obtain ⟨ha, hl, hs, h⟩ := h
    wp_walk using wpAny_loadPart' hl, wpAny_load hl, sub_wp hs
    exact ⟨_, rfl, h⟩
section
variable {X : Cx} {C fE : Addr} {k : Nat} {fd : FuncData} {sp : Sp}
/-- the built-in type's own __eq__ declines -/
theorem data_declines {pins : List (Addr × Obj)} {σ : L2.St} {H : Hp} {s : Shared} {A : Around} {E : Value → Shared → Prop} {x : V} {d : PyData} {v : Value} {b dx : Addr} {fs : List (Str × V)} {Q : Option Value → Shared → Prop} (I : Inv X pins σ H s)
    (hs : ∀ M, PySem.W.Looks M s.heap (isSubtype (.ref C) (.type (tyN d))) false)
    (hd : Dp X.K H x d) (rx : RelV x v) (hb : H b = some (.ins C dx fs)) (q : Q none s) : wpAny (model X.prog X.w) A (tryCompare v (Str.ofString "__eq__") (.ref b)) Q E s := by
  obtain ⟨mA, O, _⟩ := ins_get I.hok hb
  have ob := O.obj
  cases hd with
  | non =>
    cases rx
    exact wpAny_tryCompare_declines (T := "NoneType") rfl F.slot_NoneType_eq (call_gives F.slot_NoneType_eq rfl F.entry_NoneType_eq (F.args_NoneType_eq_2 _ _) (SeqAt.NoneType___eq___none_ref_0 b) ⟨rfl, q⟩)
  | bl z =>
    cases rx
    exact wpAny_tryCompare_declines (T := "bool") rfl F.slot_bool_eq (call_meets F.slot_bool_eq rfl F.entry_int_eq (F.args_int_eq_2 _ _) (bool_declines z b C _ _) ⟨ob, ⟨rfl, q⟩⟩)
  | int i =>
    obtain ⟨t, rfl⟩ := rx
    exact wpAny_tryCompare_declines (T := "int") rfl F.slot_int_eq (call_meets F.slot_int_eq rfl F.entry_int_eq (F.args_int_eq_2 _ _) (int_declines i t b C _ _) ⟨ob, ⟨rfl, q⟩⟩)
  | str y =>
    obtain ⟨t, rfl⟩ := rx
    exact wpAny_tryCompare_declines (T := "str") rfl F.slot_str_eq (call_meets F.slot_str_eq rfl F.entry_str_eq (F.args_str_eq_2 _ _) (str_declines y t b C _ _) ⟨ob, ⟨rfl, q⟩⟩)
  | lst h1 h2 =>
    cases rx
    obtain ⟨its, _, ⟨o, n, ho, hc, _, _⟩, _⟩ := I.list h1
    exact wpAny_tryCompare_declines (T := "list") ⟨o, ho, hc⟩ F.slot_list_eq (call_meets F.slot_list_eq ⟨o, ho, hc⟩ F.entry_list_eq (F.args_list_eq_2 _ _) (list_declines _ b C _ _ o) ⟨ho, ob, hs, ⟨rfl, q⟩⟩)
  | tup h1 h2 =>
    cases rx
    obtain ⟨its, _, ⟨o, ho, hc, _⟩, _⟩ := I.tuple h1
    exact wpAny_tryCompare_declines (T := "tuple") ⟨o, ho, hc⟩ F.slot_tuple_eq (call_meets F.slot_tuple_eq ⟨o, ho, hc⟩ F.entry_tuple_eq (F.args_tuple_eq_2 _ _) (tuple_declines _ b C _ _ o) ⟨ho, ob, hs, ⟨rfl, q⟩⟩)
/-- x == y, y of the class, x built-in data: y's own __eq__ tells -/
def rEqR (C : Addr) (sp : Sp) (K : PySem.W.Frag) : R2 := fun x y H Q => ∃ b dy gs d, y = .ref b ∧ H b = some (.ins C dy gs) ∧ Dp K H x d ∧ sp [y, x] H (fun v H' => ∃ z, v = .bl z ∧ Q (.bl z) H') E0
theorem op_eqR (O : OwnC X.K C fE) (F : FnOk X.prog X.w X.K X.mg X.base CX0 k fE fd ["self", "other"] sp) (hb : Binds X.K fd ["self", "other"] []) (hr : Room k X.A) : OpR X (compareOp .Eq) (rEqR C sp X.K) := by
  intro pins s σ H x y v u Q I rx ry h
  obtain ⟨b, dy, gs, d, rfl, ha, hd, q⟩ := h
  cases (show u = Value.ref b from ry)
  obtain ⟨ox, od, J⟩ := inst_at I ha
  have run := run_at (E' := X.xe) F hr I.env0 hb I (.cons ry (.cons rx .nil)) q
  have ty := dp_type I hd rx
  have kk := O.of hd
  have sb := sub_looks I.kIn kk.2 rfl
  have fin : wpAny (model X.prog X.w) X.A (tryCompare (.ref b) (Str.ofString "__eq__") v) (fun r t => ∃ b, r = some (Value.bool b) ∧ EP X pins σ Q (.bool b) t) X.xe s := by
    unfold tryCompare
    refine wpAny_bind (PySem.W.ifBound_K I.kIn J O.eq.at_ O.eq.fn (wpAny_mono run (fun r t hq => ?_) fun _ _ z => z))
    obtain ⟨v', H', I', rv, b, rfl, q'⟩ := hq
    cases (show r = Value.bool b from rv)
    exact wpAny_pure ⟨b, rfl, .bl b, H', I', rfl, q'⟩
  show wpAny _ _ (richCompare .Eq v (.ref b)) _ _ _
  unfold richCompare
  simp only [ty.oneThing_none]
  refine wpAny_holding ?_
  refine wpAny_bind (wpAny_cRoomFor hr.units0 ?_)
  refine wpAny_bind (wpAny_typeOf ty ?_)
  refine wpAny_bind (J.type.here ?_)
  have ne : (Value.type (tyN d) != Value.ref C) = true := rfl
  simp only [ne, if_true]
  refine wpAny_bind ((sb _).here ?_)
  simp only [Bool.false_eq_true, if_false]
  refine wpAny_bind (m := tryCompare v (Str.ofString "__eq__") (.ref b)) (data_declines I sb hd rx ha ?_)
  simp only [Bool.not_false, if_true]
  refine wpAny_bind (m := tryCompare (.ref b) (Str.ofString "__eq__") v) (wpAny_mono fin (fun r t hq => ?_) fun _ _ z => z)
  obtain ⟨z, rfl, hq⟩ := hq
  exact wpAny_pure hq
theorem ifBound_b {M : Model} {A : Around} {E : Value → Shared → Prop} {s : Shared} {K : PySem.W.Frag} {x C : Addr} {ox : Obj} {od : Option Obj} {name : Str} {id : String} {args : List Value} {Q : Option Value → Shared → Prop} (X : K.In s.heap) (I : PySem.W.InstAt s.heap x ox C od)
    (hs : PySem.W.findIn K (.ref C) name = some (some (.builtin id))) (hb : ∀ self, bindSpecial (.builtin id) self = pure (.builtin id, [self])) (h : wpAny M A (call (.builtin id) (.ref x :: args)) (fun v => Q (some v)) E s) :
    wpAny M A (callSpecialIfBound? (.ref x) name args) Q E s := by
  simp only [callSpecialIfBound?, bindSpecialIfBound?]
  refine wpAny_holding (wpAny_bind (wpAny_bind (wpAny_bind (I.type.here ((PySem.W.looks_findIn X hs).here ?_)))))
  refine wpAny_bind (wpAny_askSetting (wpAny_ite ?_))
  have fin : wpAny M A (call (.builtin id) ([.ref x] ++ args) >>= fun v => pure (some v)) Q E s := wpAny_bind (wpAny_mono h (fun _ _ z => wpAny_pure z) fun _ _ z => z)
  split
  · exact wpAny_bind ((PySem.W.Looks.of_pure (hb _)).here (wpAny_pure (by exact fin)))
  · exact wpAny_tryCatch (wpAny_bind ((PySem.W.Looks.of_pure (hb _)).here (wpAny_pure (by exact fin))))
/-- x != y, x of the class (which has no own __ne__): not what its own __eq__ tells -/
def rNeL (C : Addr) (sp : Sp) (K : PySem.W.Frag) : R2 := fun x y H Q => ∃ a dx fs, x = .ref a ∧ H a = some (.ins C dx fs) ∧ ((∃ d, Dp K H y d) ∨ ∃ b dy gs, y = .ref b ∧ H b = some (.ins C dy gs)) ∧
  sp [x, y] H (fun v H' => ∃ b, v = .bl b ∧ Q (.bl (!b)) H') E0
theorem op_neL (O : OwnC X.K C fE) (F : FnOk X.prog X.w X.K X.mg X.base CX0 k fE fd ["self", "other"] sp) (hb : Binds X.K fd ["self", "other"] []) (hr : Room (k + 1) X.A) : OpR X (compareOp .NotEq) (rNeL C sp X.K) := by
  intro pins s σ H x y v u Q I rx ry h
  obtain ⟨a, dx, fs, rfl, ha, hy, q⟩ := h
  cases (show v = Value.ref a from rx)
  obtain ⟨ox, od, J⟩ := inst_at I ha
  have run := run_at (E' := X.xe) F hr.in1 I.env0.in1 hb I (.cons rx (.cons ry .nil)) q
  have body : wpAny (model X.prog X.w) X.A (call (.builtin "object.__ne__") [.ref a, u]) (fun v t => ∃ b, v = Value.bool b ∧ EP X pins σ Q (.bool b) t) X.xe s := by
    refine wpAny_call (codeAny_call_builtin PySem.F.slot_object_ne.plain PySem.F.entry_object_ne (PySem.W.check_slot (i := "object.__ne__") (owner := "object") (n := "__ne__") (by decide +kernel) (by decide +kernel) (J.type.andThen (PySem.W.looks_mroIn I.kIn O.c.hm)) (PySem.F.args_object_ne_2 _ _) ?_))
    unfold Builtin.«object.__ne__»
    refine wpAny_bind (m := slotArgs "__ne__" 1 _) (wpAny_pure ?_)
    refine wpAny_bind (m := cRoomFor _ _) (wpAny_cRoomFor (by have := hr.units; show X.A.units + 1 < cLine; omega) ?_)
    refine wpAny_bind (m := callSpecialIfBound? (.ref a) (Str.ofString "__eq__") [u]) (PySem.W.ifBound_K I.kIn J O.eq.at_ O.eq.fn (wpAny_mono run (fun r t hq => ?_) fun _ _ z => z))
    obtain ⟨v', H', I', rv, b, rfl, q'⟩ := hq
    cases (show r = Value.bool b from rv)
    refine wpAny_bind (m := truthy (.bool b)) (wpAny_truthy_bool ?_)
    exact wpAny_pure ⟨!b, rfl, .bl (!b), H', I', rfl, q'⟩
  have fin : wpAny (model X.prog X.w) X.A (tryCompare (.ref a) (Str.ofString "__ne__") u) (fun r t => ∃ b, r = some (Value.bool b) ∧ EP X pins σ Q (.bool b) t) X.xe s := by
    unfold tryCompare
    refine wpAny_bind (ifBound_b I.kIn J O.ne PySem.F.slot_object_ne.bind (wpAny_mono body (fun r t hq => ?_) fun _ _ z => z))
    obtain ⟨b, rfl, hq⟩ := hq
    exact wpAny_pure ⟨b, rfl, hq⟩
  show wpAny _ _ (richCompare .NotEq (.ref a) u) _ _ _
  unfold richCompare
  simp only [oneThing_ref]
  refine wpAny_holding ?_
  refine wpAny_bind (wpAny_cRoomFor hr.units0 ?_)
  refine wpAny_bind (J.type.here ?_)
  rcases hy with ⟨d, hd⟩ | ⟨b, dy, gs, rfl, hb2⟩
  · have ty := dp_type I hd ry
    have kk := O.of hd
    refine wpAny_bind (wpAny_typeOf ty ?_)
    have ne : (Value.ref C != Value.type (tyN d)) = true := rfl
    simp only [ne, if_true]
    refine wpAny_bind ((sub_looks I.kIn kk.1 rfl _).here ?_)
    simp only [Bool.false_eq_true, if_false]
    refine wpAny_bind (m := tryCompare (.ref a) (Str.ofString "__ne__") u) (wpAny_mono fin (fun r t hq => ?_) fun _ _ z => z)
    obtain ⟨b, rfl, hq⟩ := hq
    exact wpAny_pure hq
  · cases (show u = Value.ref b from ry)
    obtain ⟨oy, oe, J2⟩ := inst_at I hb2
    refine wpAny_bind (J2.type.here ?_)
    have ne : (Value.ref C != Value.ref C) = false := by simp
    simp only [ne, Bool.false_eq_true, if_false]
    refine wpAny_bind (wpAny_pure ?_)
    simp only [Bool.false_eq_true, if_false]
    refine wpAny_bind (m := tryCompare (.ref a) (Str.ofString "__ne__") (.ref b)) (wpAny_mono fin (fun r t hq => ?_) fun _ _ z => z)
    obtain ⟨b, rfl, hq⟩ := hq
    exact wpAny_pure hq
/-- repr(x), x of a class with its own __repr__ -/
def rRepO (C : Addr) (sp : Sp) : List V → Hp → VK → Prop := fun xs H Q => ∃ a dx fs, xs = [.ref a] ∧ H a = some (.ins C dx fs) ∧ sp [.ref a] H (fun v H' => ∃ y, v = .str y ∧ Q (.str y) H') E0
theorem call_repO {fR : Addr} (m : Meth X.K C "__repr__" fR) (F : FnOk X.prog X.w X.K X.mg X.base CX0 k fR fd ["self"] sp) (hb : Binds X.K fd ["self"] []) (hr : Room (k + 1) X.A) : CallR X (.builtin "repr") (rRepO C sp) := by
  intro pins s σ H xs us Q I r h
  obtain ⟨a, dx, fs, rfl, ha, q⟩ := h
  obtain ⟨u, rfl, ru⟩ := vals1 r
  cases (show u = Value.ref a from ru)
  obtain ⟨ox, od, J⟩ := inst_at I ha
  have run := run_at (E' := X.xe) F hr.in1 I.env0.in1 hb I (.cons ru .nil) q
  refine Calls.call_function_entry PySem.F.kind_repr PySem.F.plain_repr PySem.F.entry_repr (PySem.F.args_repr1 _) ?_
  unfold Builtin.«repr»
  refine wpAny_bind (m := oneArg "repr" _) (wpAny_pure ?_)
  refine wpAny_bind (wpAny_cRoomFor (by have := hr.units; show X.A.units + 1 < cLine; omega) ?_)
  refine wpAny_bind (m := specialOf (.ref a) (Str.ofString "__repr__")) (wpAny_bind (J.type.here ((PySem.W.looks_findIn I.kIn m.at_).here ?_)))
  show wpAny _ _ (if (some (Value.ref fR)).isNone = true then _ else _) _ _ _
  rw [if_neg (by simp)]
  refine wpAny_bind (m := callSpecialIfBound? (.ref a) (Str.ofString "__repr__") _) (PySem.W.ifBound_K I.kIn J m.at_ m.fn (wpAny_mono run (fun r t hq => ?_) fun _ _ z => z))
  obtain ⟨v', H', I', rv, y, rfl, q'⟩ := hq
  obtain ⟨tk, rfl⟩ := (show ∃ t, r = Value.str y t from rv)
  refine wpAny_bind (wpAny_isInstance (typeIs_str _ _ _) isSubtype_str_str ?_)
  have fin : EP X pins σ Q (.str y tk) t := ⟨.str y, H', I', ⟨tk, rfl⟩, q'⟩
  first
    | exact wpAny_pure ⟨_, rfl, fin⟩
    | (rw [if_pos rfl]; exact wpAny_pure ⟨_, rfl, fin⟩)
    | (simp only [if_true]; exact wpAny_pure ⟨_, rfl, fin⟩)
    | (simp only [if_true]; exact wpAny_pure fin)
/-- str(x), x of a class with its own __str__ -/
theorem call_strO {fS : Addr} (m : Meth X.K C "__str__" fS) (F : FnOk X.prog X.w X.K X.mg X.base CX0 k fS fd ["self"] sp) (hb : Binds X.K fd ["self"] []) (hr : Room (k + 2) X.A) : CallR X (.type "str") (rRepO C sp) := by
  intro pins s σ H xs us Q I r h
  obtain ⟨a, dx, fs, rfl, ha, q⟩ := h
  obtain ⟨u, rfl, ru⟩ := vals1 r
  cases (show u = Value.ref a from ru)
  obtain ⟨ox, od, J⟩ := inst_at I ha
  have run := run_at (A' := X.A.in1.in1) (E' := X.xe) F hr.in1.in1 I.env0.in1.in1 hb I (.cons ru .nil) q
  have un := hr.units
  refine callType_codes (T := "str") (Bi := Builtin.«object.__init__») (Q₁ := fun r s₁ => ∃ y u, r = .str y u ∧ EP X pins σ Q r s₁) PySem.F.called_str (PySem.F.typeCall_str_1 _) PySem.F.entry_object_init ?_ ?_
  · refine codeAny_of_tree ?_
    show wpAny _ X.A.in1.in1 (do checkBuiltinCall "str.__new__" ⟨[.type "str", .ref a], []⟩; again (.builtin "str.__new__" ⟨[.type "str", .ref a], []⟩)) _ _ s
    refine wpAny_bind (wpAny_of_eq (PySem.F.newCall_str_1 _) (wpAny_pure ⟨plainId_quiet (by decide +kernel) _, codeAny_builtin PySem.F.entry_str_new ?_⟩))
    rw [Around.under_plainId (by decide +kernel) _]
    rw [str_new_tree]
    refine wpAny_bind (wpAny_pure ?_)
    refine wpAny_bind (wpAny_of_eq isSubtype_str_str ?_)
    have key : wpAny (model X.prog X.w) X.A.in1.in1 (PySem.Builtin.Str.strOf (.ref a)) (fun r s₁ => ∃ y u, r = .str y u ∧ EP X pins σ Q r s₁) X.xe s := by
      unfold PySem.Builtin.Str.strOf
      rw [show Builtin.Str.isExactStr (.ref a) = false from rfl]
      refine wpAny_bind (m := cRoomFor _ _) (wpAny_cRoomFor (by show X.A.units + 1 + 1 < cLine; omega) ?_)
      refine wpAny_bind (m := callSpecial? (.ref a) (Str.ofString "__str__")) (PySem.W.special_fn I.kIn J m.at_ (beq_iff_eq.mp m.fn) (wpAny_mono run (fun r t hq => ?_) fun _ _ z => z))
      obtain ⟨v', H', I', rv, y, rfl, q'⟩ := hq
      obtain ⟨tk, rfl⟩ := (show ∃ t, r = Value.str y t from rv)
      exact wpAny_pure ⟨_, _, rfl, .str y, H', I', ⟨tk, rfl⟩, q'⟩
    exact wpAny_bind (wpAny_mono key (fun r s₁ hr => wpAny_pure hr) fun _ _ y => y)
  · rintro obj s₁ ⟨y, u, rfl, hq⟩
    exact ⟨typeIs_str _ _ _, PySem.F.args_object_init_2 _ _, object_init_meets PySem.F.called_str.init.lookup PySem.F.called_str.made (by decide) X.prog X.w X.A.in1 _ s₁ ⟨typeIs_str _ _ _, rfl, hq⟩⟩
end
/-! own classes: &, |, -, in, bool by the class's own defs -/
section
variable {X : Cx} {C f : Addr} {k : Nat} {fd : FuncData} {ps : List Str} {sp : Sp} {nm : Str}
/-- x op y, both of the class -/
def rBinO (C : Addr) (sp : Sp) : R2 := fun x y H Q => ∃ a dx fs b dy gs, x = .ref a ∧ y = .ref b ∧ H a = some (.ins C dx fs) ∧ H b = some (.ins C dy gs) ∧ sp [x, y] H (fun v H' => (∃ c, v = .ref c) ∧ Q v H') E0
theorem op_binO {op : Operator} (hd : PySem.dunder op.info.2 = nm) (hc : PySem.W.selfFirst X.K C = true) (M : Meth X.K C nm f) (F : FnOk X.prog X.w X.K X.mg X.base CX0 k f fd ps sp) (hb : Binds X.K fd ps []) (hr : Room k X.A) : OpR X (binaryOp op) (rBinO C sp) := by
  intro pins s σ H x y v u Q I rx ry h
  obtain ⟨a, dx, fs, b, dy, gs, rfl, rfl, ha, hb2, q⟩ := h
  cases (show v = Value.ref a from rx)
  cases (show u = Value.ref b from ry)
  obtain ⟨ox, od, J⟩ := inst_at I ha
  obtain ⟨oy, oe, J2⟩ := inst_at I hb2
  obtain ⟨m, fr⟩ := I.fr
  refine PySem.W.binop_K fr I.ok.mod.kin J J2.type hc (by rw [hd]; exact M.at_) M.fn (wpAny_mono (run_at (E' := X.xe) F hr I.env0 hb I (.cons rx (.cons ry .nil)) q) (fun r t hq => ?_) fun _ _ z => z)
  obtain ⟨v', H', I', rv, ⟨c, rfl⟩, q'⟩ := hq
  cases (show r = Value.ref c from rv)
  exact ⟨.ref c, H', I', rfl, q'⟩
/-- x in y, y of the class -/
def rInO (C : Addr) (sp : Sp) : R2 := fun x y H Q => ∃ b dy gs, y = .ref b ∧ H b = some (.ins C dy gs) ∧ sp [y, x] H (fun v H' => ∃ c, v = .bl c ∧ Q (.bl c) H') E0
theorem op_inO (M : Meth X.K C "__contains__" f) (F : FnOk X.prog X.w X.K X.mg X.base CX0 k f fd ps sp) (hb : Binds X.K fd ps []) (hr : Room k X.A) : OpR X (compareOp .In) (rInO C sp) := by
  intro pins s σ H x y v u Q I rx ry h
  obtain ⟨b, dy, gs, rfl, hb2, q⟩ := h
  cases (show u = Value.ref b from ry)
  obtain ⟨oy, oe, J2⟩ := inst_at I hb2
  obtain ⟨m, fr⟩ := I.fr
  refine PySem.W.in_K fr I.ok.mod.kin J2 M.at_ M.fn (wpAny_mono (run_at (E' := X.xe) F hr I.env0 hb I (.cons ry (.cons rx .nil)) q) (fun r t hq => ?_) fun _ _ z => z)
  obtain ⟨v', H', I', rv, c, rfl, q'⟩ := hq
  cases (show r = Value.bool c from rv)
  exact wpAny_truthy_bool ⟨.bl c, H', I', rfl, q'⟩
theorem meets_boolT {prog : Program} {w : World} (x : Value) : MeetsIn prog w (Builtin.«bool.__new__» ⟨[.type "bool", x], []⟩)
    (fun A R s => wpAny (model prog w) A.in1 (truthy x) (fun b s' => ∀ tk, R (.ok (.ret (.bool b))) { s' with toks := tk }) (fun e s' => R (.error e) s') s) := fun A R s h => by
  have f1 := F.conv_sub_bool
  obtain ⟨hp, g, d, tk, os⟩ := s
  unfold Builtin.«bool.__new__»
  repeat (any_goals (first | assumption | wp_step))
  show wpAny _ _ (truthy x) _ _ _
  refine wpAny_mono h (fun b s' hq => ?_) fun _ _ z => z
  obtain ⟨hp', g', d', tk', os'⟩ := s'
  repeat (any_goals (first | assumption | wp_step))
  exact hq _
theorem call_boolT {x : Value} {prog : Program} {w : World} {A : Around} {E : Value → Shared → Prop} {s : Shared} {Q : Value → Shared → Prop} (h : wpAny (model prog w) A.in1.in1 (truthy x) (fun b s' => ∀ tk, Q (.bool b) { s' with toks := tk }) E s) : wpAny (model prog w) A (call (.type "bool") [x]) Q E s := by
  refine callType_newIn F.called_bool F.newNe_bool (F.typeCall_bool_1 x) (F.newCall_bool_1 x) (fun obj => F.args_object_init_2 obj x) F.entry_bool_new (meets_boolT x) ?_
  exact wpAny_mono h (fun b s' hq tk => ⟨rfl, hq tk⟩) fun _ _ z => z
/-- bool(x), x of the class -/
def rBoolO (C : Addr) (sp : Sp) : List V → Hp → VK → Prop := fun xs H Q => ∃ a dx fs, xs = [.ref a] ∧ H a = some (.ins C dx fs) ∧ sp [.ref a] H (fun v H' => ∃ c, v = .bl c ∧ Q (.bl c) H') E0
theorem call_boolO (M : Meth X.K C "__bool__" f) (F : FnOk X.prog X.w X.K X.mg X.base CX0 k f fd ps sp) (hb : Binds X.K fd ps []) (hr : Room (k + 2) X.A) : CallR X (.type "bool") (rBoolO C sp) := by
  intro pins s σ H xs us Q I r h
  obtain ⟨a, dx, fs, rfl, ha, q⟩ := h
  obtain rfl := Vals.ref1 r
  obtain ⟨ox, od, J⟩ := inst_at I ha
  obtain ⟨m, fr⟩ := I.fr
  refine call_boolT (PySem.W.truthy_K fr I.ok.mod.kin J M.at_ M.fn (wpAny_mono (run_at (E' := X.xe) F hr.in1.in1 I.env0.in1.in1 hb I r q) (fun r t hq => ?_) fun _ _ z => z))
  obtain ⟨v', H', I', rv, c, rfl, q'⟩ := hq
  cases (show r = Value.bool c from rv)
  exact fun tk => ⟨.bl c, H', I'.tok _, rfl, q'⟩
/-- bool(a tuple) -/
theorem call_boolTu : CallR X (.type "bool") (fun xs H Q => ∃ a zs, xs = [.ref a] ∧ SqT X.K H a zs ∧ Q (.bl (!zs.isEmpty)) H) := by
  intro pins s σ H xs us Q I r h
  obtain ⟨a, zs, rfl, hq, q⟩ := h
  obtain rfl := Vals.ref1 r
  obtain ⟨its, rv, pl, hz⟩ := I.tuple hq
  have hlen := rv.length
  have hl := line63
  exact call_boolT (truthy_tuple pl (by simp only [List.size_toArray]; omega) fun tk => ⟨.bl (!zs.isEmpty), H, I.tok _, by rw [isEmpty_of rv]; rfl, q⟩)
end
/-! a classmethod without arguments -/
section
variable {X : Cx} {CX : CXT} {k : Nat} {C p g : Addr} {mc : Value} {sp : Sp} {E : XK} {o : Expr} {m : Str} {pos apos : Pos} {ta : TE} {pl : Sem Bool}
theorem pe_cmeth0 (he : PE X o ta) (r : ClX.CRead X.K C mc) (c : ClX.CMet X.K C mc m p g) (F : FnR X.prog X.w X.K X.mg X.base CX k g sp) (hr : Room k X.A) (hx : Passes CX X E)
    (ht : eval (.Call (.Attribute o m apos) [] [] pos) X.env = (do
      let ov ← eval o X.env
      standAt apos.atName
      let (f, first) ← holding [ov] (getMethod ov m pl)
      callWith pos f first (backTo pos (starEach [] X.env)) (backToKw pos (keywordEach [] X.env))) := by rfl) : PE X (.Call (.Attribute o m apos) [] [] pos) (ClX.tCMeth C sp E ta tNil) := by
  refine ⟨fun pins s σ H Q I h => ?_⟩
  refine PySem.W.methodCall_KW (pl := pl) (thn (he.run pins s σ H _ I h) fun u s1 ⟨x, H1, I1, rx, ex, q⟩ => ?_) ht
  subst ex
  obtain rfl : u = Value.ref C := rx
  refine ClX.getmethcm_ok I1 r c fun s2 I2 => ?_
  refine PySem.W.callWith_M0 (K := X.K) ⟨ClX.pin_at I2, I2.kIn⟩ c.fi ?_
  exact ClX.run_cm F hr hx I2 .nil q
end
/-! list(zip(t, u)) of two tuples: new pairs in a new list -/
section
variable {prog : Program} {w : World} {A : Around} {E : Value → Shared → Prop} {s : Shared}
/-- the next pair, while the one handed out before is still there -/
theorem held_item {z TI TO T i1 i2 l1 l2 : Addr} {f : Bool} {oT : Obj} {k1 k2 : Nat} {xs ys : Array Value} {x y : Value} {Q : Option Value → Shared → Prop} (D : ZipApart z TI TO i1 i2 l1 l2) (hz : IsZipHeld s.heap z TI TO T f)
    (hT : s.heap.get? T = some oT) (pI : IsPair s.heap TI (.ref i1) (.ref i2)) (t1 : s.heap.IsTupleIter i1 l1 k1) (t2 : s.heap.IsTupleIter i2 l2 k2) (u1 : s.heap.IsTuple l1 xs) (u2 : s.heap.IsTuple l2 ys) (hx : xs[k1]? = some x) (hy : ys[k2]? = some y)
    (q : ∀ h', IsZipHeld h' z TI TO T true → h'.IsTupleIter i1 l1 (k1 + 1) → h'.IsTupleIter i2 l2 (k2 + 1) → IsPair h' s.heap.objs.size x y → h'.objs.size = s.heap.objs.size + 1 → (∀ c o, c ≠ z → c ≠ i1 → c ≠ i2 → s.heap.get? c = some o → h'.get? c = some o) →
      Q (some (.ref s.heap.objs.size)) { s with heap := h' }) : wpAny (model prog w) A (pyNext (.ref z)) Q E s := by
  have ty : s.TypeIs (.ref z) "zip" := ⟨_, hz, rfl⟩
  unfold pyNext
  refine wpAny_bind (wpAny_attempt (wpAny_callSpecial?_slot (name := Str.ofString "__next__") ty F.slot_zip_next (wpAny_call_entry F.slot_zip_next ty F.entry_zip_next ?_ (F.args_zip_next_1 _))))
  show wpAny _ _ (field (.ref z) 2 >>= _) _ _ s
  refine wpAny_bind (wpAny_field hz rfl (x := .bool false) rfl ?_); show wpAny _ _ (field (.ref z) 3 >>= _) _ _ s
  refine wpAny_bind (wpAny_field hz rfl (x := .ref TI) rfl ?_); refine wpAny_bind (wpAny_seqItems pI rfl ?_); show wpAny _ _ (Builtin.SmallTypes.ownedTupleIsFree (.ref z) >>= _) _ _ s
  refine wpAny_bind (wpAny_tupleHeld_zip hz hT fun ha za sa => ?_); simp only [Bool.false_eq_true, if_false]
  refine wpAny_bind ?_; rw [← Array.forIn_toList]; simp only [List.forIn_cons, List.forIn_nil]
  refine wpAny_bind (wpAny_bind (wpAny_holding ?_)); show wpAny _ _ (Builtin.SmallTypes.nextOf (.ref i1) >>= _) _ _ _
  refine wpAny_bind (RZ.nextOf_tuple_item (s := { s with heap := ha }) (t1.extBut sa.extBut D.i1z) (u1.extBut sa.extBut D.l1z) hx fun hb tb sb => wpAny_pure ?_)
  refine wpAny_pure ?_; refine wpAny_bind (wpAny_bind (wpAny_holding ?_)); show wpAny _ _ (Builtin.SmallTypes.nextOf (.ref i2) >>= _) _ _ _
  refine wpAny_bind (RZ.nextOf_tuple_item (s := { s with heap := hb }) ((t2.extBut sa.extBut D.i2z).extBut sb.extBut D.i12.symm) ((u2.extBut sa.extBut D.l2z).extBut sb.extBut D.l2i1) hy fun hc tc sc => wpAny_pure ?_)
  refine wpAny_pure (wpAny_pure ?_); show wpAny _ _ (newTuple [x, y] >>= _) _ _ _
  refine wpAny_bind (wpAny_newTuple ?_)
  have hsz : hc.objs.size = s.heap.objs.size := by rw [sc.1, sb.1, sa.1]
  have zc : IsZipHeld hc z TI TO T true := sc.extBut _ _ D.i2z.symm (sb.extBut _ _ D.i1z.symm za)
  have hk : ∀ c o, c ≠ z → c ≠ i1 → c ≠ i2 → s.heap.get? c = some o → hc.get? c = some o := fun c o n1 n2 n3 e => sc.extBut _ _ n3 (sb.extBut _ _ n2 (sa.extBut _ _ n1 e))
  have r1 : hc.IsTupleIter i1 l1 (k1 + 1) := tb.extBut sc.extBut D.i12
  have hp : IsPair (hc.push { cls := .type "tuple", data := .seq #[x, y] }) hc.objs.size x y := Heap.get?_push_size _ rfl
  have hw : (hc.push { cls := .type "tuple", data := .seq #[x, y] }).objs.size = hc.objs.size + 1 := Heap.size_push ..
  refine wpAny_pure ⟨_, rfl, wpAny_pure ?_⟩
  show Q (some (.ref hc.objs.size)) _
  rw [hsz] at hp hw ⊢
  exact q _ (Heap.get?_push_of_some _ zc) (r1.at fun o e => Heap.get?_push_of_some _ e) (tc.at fun o e => Heap.get?_push_of_some _ e) hp hw fun c o n1 n2 n3 e => Heap.get?_push_of_some _ (hk c o n1 n2 n3 e)
theorem held_end {z TI TO T i1 i2 l1 l2 : Addr} {f : Bool} {oT : Obj} {k1 k2 : Nat} {xs ys : Array Value} {Q : Option Value → Shared → Prop} (hh : A.handled = none) (D : ZipApart z TI TO i1 i2 l1 l2) (hz : IsZipHeld s.heap z TI TO T f)
    (hT : s.heap.get? T = some oT) (pI : IsPair s.heap TI (.ref i1) (.ref i2)) (t1 : s.heap.IsTupleIter i1 l1 k1) (t2 : s.heap.IsTupleIter i2 l2 k2) (u1 : s.heap.IsTuple l1 xs) (u2 : s.heap.IsTuple l2 ys) (he : xs[k1]? = none ∨ ys[k2]? = none)
    (q : ∀ h', (∀ c o, c ≠ z → c ≠ i1 → c ≠ i2 → s.heap.get? c = some o → h'.get? c = some o) → Q none { s with heap := h' }) : wpAny (model prog w) A (pyNext (.ref z)) Q E s := by
  have ty : s.TypeIs (.ref z) "zip" := ⟨_, hz, rfl⟩
  have fin : ∀ h' e, (∀ c o, c ≠ z → c ≠ i1 → c ≠ i2 → s.heap.get? c = some o → h'.get? c = some o) → (∃ o, h'.get? e = some o ∧ o.cls = .type "StopIteration") →
      wpAny (model prog w) A (do if ← isInstance (.ref e) (.type "StopIteration") then pure none else throw (.ref e)) Q E { s with heap := h' } := fun h' e hk ⟨o, ho, hc⟩ =>
    wpAny_bind (wpAny_isInstance (T := "StopIteration") (b := true) ⟨o, ho, hc⟩ isSubtype_stop (wpAny_pure (q _ hk)))
  unfold pyNext
  refine wpAny_bind (wpAny_attempt (wpAny_callSpecial?_slot (name := Str.ofString "__next__") ty F.slot_zip_next (wpAny_call_entry F.slot_zip_next ty F.entry_zip_next ?_ (F.args_zip_next_1 _))))
  show wpAny _ _ (field (.ref z) 2 >>= _) _ _ s
  refine wpAny_bind (wpAny_field hz rfl (x := .bool false) rfl ?_); show wpAny _ _ (field (.ref z) 3 >>= _) _ _ s
  refine wpAny_bind (wpAny_field hz rfl (x := .ref TI) rfl ?_); refine wpAny_bind (wpAny_seqItems pI rfl ?_); show wpAny _ _ (Builtin.SmallTypes.ownedTupleIsFree (.ref z) >>= _) _ _ s
  refine wpAny_bind (wpAny_tupleHeld_zip hz hT fun ha za sa => ?_); simp only [Bool.false_eq_true, if_false]
  refine wpAny_bind ?_; rw [← Array.forIn_toList]; simp only [List.forIn_cons, List.forIn_nil]
  refine wpAny_bind (wpAny_bind (wpAny_holding ?_)); show wpAny _ _ (Builtin.SmallTypes.nextOf (.ref i1) >>= _) _ _ _
  cases hx : xs[k1]? with
  | none =>
    refine wpAny_bind (RZ.nextOf_tuple_end (s := { s with heap := ha }) hh (t1.extBut sa.extBut D.i1z) (u1.extBut sa.extBut D.l1z) hx fun hb e sb ie => ?_)
    exact fin hb e (fun c o n1 n2 _ x => sb _ _ n2 (sa.extBut _ _ n1 x)) ie
  | some x =>
    have hy : ys[k2]? = none := by
      rcases he with h | h
      · rw [hx] at h
        cases h
      · exact h
    refine wpAny_bind (RZ.nextOf_tuple_item (s := { s with heap := ha }) (t1.extBut sa.extBut D.i1z) (u1.extBut sa.extBut D.l1z) hx fun hb tb sb => wpAny_pure ?_)
    refine wpAny_pure ?_; refine wpAny_bind (wpAny_bind (wpAny_holding ?_)); show wpAny _ _ (Builtin.SmallTypes.nextOf (.ref i2) >>= _) _ _ _
    refine wpAny_bind (RZ.nextOf_tuple_end (s := { s with heap := hb }) hh ((t2.extBut sa.extBut D.i2z).extBut sb.extBut D.i12.symm) ((u2.extBut sa.extBut D.l2z).extBut sb.extBut D.l2i1) hy fun hc e sc ie => ?_)
    exact fin hc e (fun c o n1 n2 n3 x => sc _ _ n3 (sb.extBut _ _ n2 (sa.extBut _ _ n1 x))) ie
end
/-- how far a zip of two tuples has come -/
def ZSt (h : Heap) (z TI TO i1 i2 l1 l2 S : Addr) (i : Nat) : Prop := IsPair h TI (.ref i1) (.ref i2) ∧ h.IsTupleIter i1 l1 i ∧ h.IsTupleIter i2 l2 i ∧
  ((IsZip h z TI TO .none ∧ ∃ a b, IsPair h TO a b) ∨ ∃ T f oT, IsZipHeld h z TI TO T f ∧ h.get? T = some oT ∧ T ≠ z ∧ T ≠ i1 ∧ T ≠ i2 ∧ T ≠ S)
theorem ZSt.type {s : Shared} {z TI TO i1 i2 l1 l2 S : Addr} {i : Nat} (h : ZSt s.heap z TI TO i1 i2 l1 l2 S i) : s.TypeIs (.ref z) "zip" := by
  obtain ⟨_, _, _, ⟨hz, _⟩ | ⟨T, f, oT, hz, _⟩⟩ := h
  · exact ⟨_, hz, rfl⟩
  · exact ⟨_, hz, rfl⟩
/-- nothing but S is another -/
theorem ZSt.keep {h h' : Heap} {z TI TO i1 i2 l1 l2 S : Addr} {i : Nat} (st : ZSt h z TI TO i1 i2 l1 l2 S i) (n : S ∉ [z, TI, TO, i1, i2]) (k : ∀ b o, b ≠ S → h.get? b = some o → h'.get? b = some o) : ZSt h' z TI TO i1 i2 l1 l2 S i := by
  obtain ⟨p, t1, t2, c⟩ := st
  simp only [List.mem_cons, List.not_mem_nil, or_false, not_or] at n
  obtain ⟨n1, n2, n3, n4, n5⟩ := n
  refine ⟨k _ _ (Ne.symm n2) p, t1.at fun o e => k _ o (Ne.symm n4) e, t2.at fun o e => k _ o (Ne.symm n5) e, ?_⟩
  rcases c with ⟨hz, a, b, hb⟩ | ⟨T, f, oT, hz, hT, r1, r2, r3, r4⟩
  · exact .inl ⟨k _ _ (Ne.symm n1) hz, a, b, k _ _ (Ne.symm n3) hb⟩
  · exact .inr ⟨T, f, oT, k _ _ (Ne.symm n1) hz, k _ _ r4 hT, r1, r2, r3, r4⟩
section
variable {prog : Program} {w : World} {A : Around} {E : Value → Shared → Prop} {s : Shared}
theorem zst_item {z TI TO i1 i2 l1 l2 S : Addr} {i : Nat} {xs ys : Array Value} {x y : Value} {Q : Option Value → Shared → Prop} (D : ZipApart z TI TO i1 i2 l1 l2) (st : ZSt s.heap z TI TO i1 i2 l1 l2 S i) (hS : S < s.heap.objs.size)
    (u1 : s.heap.IsTuple l1 xs) (u2 : s.heap.IsTuple l2 ys) (hx : xs[i]? = some x) (hy : ys[i]? = some y)
    (q : ∀ h', ZSt h' z TI TO i1 i2 l1 l2 S (i + 1) → IsPair h' s.heap.objs.size x y → h'.objs.size = s.heap.objs.size + 1 → (∀ c o, c ∉ [z, TO, i1, i2] → s.heap.get? c = some o → h'.get? c = some o) → Q (some (.ref s.heap.objs.size)) { s with heap := h' }) :
    wpAny (model prog w) A (pyNext (.ref z)) Q E s := by
  obtain ⟨p, t1, t2, c⟩ := st
  have lt : ∀ {c : Addr} {o : Obj}, s.heap.get? c = some o → s.heap.objs.size ≠ c := fun e => Nat.ne_of_gt (Heap.lt_size e)
  have m1 : s.heap.objs.size ≠ i1 := let ⟨_, e, _⟩ := t1; lt e
  have m2 : s.heap.objs.size ≠ i2 := let ⟨_, e, _⟩ := t2; lt e
  rcases c with ⟨hz, a, b, hb⟩ | ⟨T, f, oT, hz, hT, r1, r2, r3, r4⟩
  · refine RZ.pyNext_zipT_item D hz p hb t1 t2 u1 u2 hx hy fun h' a1 a2 a3 a4 a5 a6 hk => ?_
    refine q h' ⟨hk _ _ D.TIz D.TITO D.TIi1 D.TIi2 p, a3, a4, .inr ⟨s.heap.objs.size, false, _, a1, a5, lt hz, m1, m2, Nat.ne_of_gt hS⟩⟩ a5 a6 fun c o n e => ?_
    simp only [List.mem_cons, List.not_mem_nil, or_false, not_or] at n
    exact hk c o n.1 n.2.1 n.2.2.1 n.2.2.2 e
  · refine held_item D hz hT p t1 t2 u1 u2 hx hy fun h' a1 a3 a4 a5 a6 hk => ?_
    refine q h' ⟨hk _ _ D.TIz D.TIi1 D.TIi2 p, a3, a4, .inr ⟨T, true, oT, a1, hk _ _ r1 r2 r3 hT, r1, r2, r3, r4⟩⟩ a5 a6 fun c o n e => ?_
    simp only [List.mem_cons, List.not_mem_nil, or_false, not_or] at n
    exact hk c o n.1 n.2.2.1 n.2.2.2 e
theorem zst_end {z TI TO i1 i2 l1 l2 S : Addr} {i : Nat} {xs ys : Array Value} {Q : Option Value → Shared → Prop} (hh : A.handled = none) (D : ZipApart z TI TO i1 i2 l1 l2) (st : ZSt s.heap z TI TO i1 i2 l1 l2 S i)
    (u1 : s.heap.IsTuple l1 xs) (u2 : s.heap.IsTuple l2 ys) (he : xs[i]? = none ∨ ys[i]? = none) (q : ∀ h', (∀ c o, c ∉ [z, TO, i1, i2] → s.heap.get? c = some o → h'.get? c = some o) → Q none { s with heap := h' }) : wpAny (model prog w) A (pyNext (.ref z)) Q E s := by
  obtain ⟨p, t1, t2, c⟩ := st
  rcases c with ⟨hz, a, b, hb⟩ | ⟨T, f, oT, hz, hT, r1, r2, r3, r4⟩
  · refine RZ.pyNext_zipT_end hh D hz p hb t1 t2 u1 u2 he fun h' hk => q h' fun c o n e => ?_
    simp only [List.mem_cons, List.not_mem_nil, or_false, not_or] at n
    exact hk c o n.1 n.2.1 n.2.2.1 n.2.2.2 e
  · refine held_end hh D hz hT p t1 t2 u1 u2 he fun h' hk => q h' fun c o n e => ?_
    simp only [List.mem_cons, List.not_mem_nil, or_false, not_or] at n
    exact hk c o n.1 n.2.2.1 n.2.2.2 e
end
/-- the pairs laid so far, above lo -/
structure ZG (xs ys : Array Value) (lo : Addr) (h : Heap) (as : List Addr) : Prop where
  rise : as.Pairwise (· < ·)
  above : ∀ a ∈ as, lo < a
  pairs : ∀ (j : Nat) (a : Addr), as[j]? = some a → ∃ x y, xs[j]? = some x ∧ ys[j]? = some y ∧ IsPair h a x y
theorem ZG.there {xs ys : Array Value} {lo : Addr} {h : Heap} {as : List Addr} (g : ZG xs ys lo h as) {a : Addr} (ha : a ∈ as) : a < h.objs.size := by
  obtain ⟨j, hj⟩ := List.mem_iff_getElem?.mp ha
  obtain ⟨x, y, _, _, e⟩ := g.pairs j a hj
  exact Heap.lt_size e
theorem ZG.keep {xs ys : Array Value} {lo : Addr} {h h' : Heap} {as : List Addr} (g : ZG xs ys lo h as) (k : ∀ b o, lo < b → h.get? b = some o → h'.get? b = some o) : ZG xs ys lo h' as :=
  ⟨g.rise, g.above, fun j a hj => let ⟨x, y, e1, e2, e3⟩ := g.pairs j a hj; ⟨x, y, e1, e2, k a _ (g.above a (List.mem_of_getElem? hj)) e3⟩⟩
theorem ZG.snoc {xs ys : Array Value} {lo : Addr} {h h' : Heap} {as : List Addr} {b : Addr} {x y : Value} (g : ZG xs ys lo h as) (k : ∀ b o, lo < b → h.get? b = some o → h'.get? b = some o) (hb : b = h.objs.size) (hl : lo < b)
    (hx : xs[as.length]? = some x) (hy : ys[as.length]? = some y) (hp : IsPair h' b x y) : ZG xs ys lo h' (as ++ [b]) := by
  have g' := g.keep k
  refine ⟨List.pairwise_append.mpr ⟨g.rise, List.pairwise_singleton _ _, fun a ha c hc => ?_⟩, fun a ha => ?_, fun j a hj => ?_⟩
  · rw [List.mem_singleton.mp hc, hb]
    exact g.there ha
  · rcases List.mem_append.mp ha with ha | ha
    · exact g.above a ha
    · rw [List.mem_singleton.mp ha]
      exact hl
  · by_cases lt : j < as.length
    · rw [List.getElem?_append_left lt] at hj
      exact g'.pairs j a hj
    · rw [List.getElem?_append_right (by omega)] at hj
      have e : j - as.length = 0 := by
        by_cases z : j - as.length = 0
        · exact z
        · rw [List.getElem?_eq_none (by simp; omega)] at hj
          cases hj
      rw [e] at hj
      have ej : j = as.length := by omega
      subst ej
      cases hj
      exact ⟨x, y, hx, hy, hp⟩
section
variable {prog : Program} {w : World} {A : Around} {s : Shared} {R : Result → Shared → Prop}
theorem z_loop {S z TI TO i1 i2 l1 l2 lo : Addr} {xs ys : Array Value} {n : Nat} (hh : A.handled = none) (D : ZipApart z TI TO i1 i2 l1 l2) (hn : n = min xs.size ys.size) (hz : n ≤ sizeLine) (aS : S ∉ [z, TI, TO, i1, i2]) (aL : l1 ≠ S ∧ l2 ≠ S)
    (low : ∀ b ∈ [S, z, TO, i1, i2], b ≤ lo) (res : Value) {h₁ : Heap}
    (hR : ∀ h' tk acc c as, (∀ b o, b ∉ [S, z, TO, i1, i2] → h₁.get? b = some o → h'.get? b = some o) → h'.get? S = some { cls := .type "list", dict := none, data := .seq acc c, slots := #[] } → as.length = n → ZG xs ys lo h' as →
      acc.toList = as.map Value.ref → R (.ok (.ret res)) { s with heap := h', toks := tk }) :
    ∀ (k i : Nat) (h : Heap) (tk c : Nat) (acc : Array Value) (as : List Addr), n - i = k → i ≤ n → ZSt h z TI TO i1 i2 l1 l2 S i → h.IsTuple l1 xs → h.IsTuple l2 ys → (∀ b o, b ∉ [S, z, TO, i1, i2] → h₁.get? b = some o → h.get? b = some o) →
      h.get? S = some { cls := .type "list", dict := none, data := .seq acc c, slots := #[] } → acc.toList = as.map Value.ref → as.length = i → ZG xs ys lo h as → lo < h.objs.size →
      codeAny (model prog w) A (.builtin "list.extend.loop" ⟨[.ref S, .ref z, res], []⟩) R { s with heap := h, toks := tk } := by
  have sub : ∀ b, b ∉ [S, z, TO, i1, i2] → b ∉ [z, TO, i1, i2] := fun b hb m => hb (List.mem_cons_of_mem _ m)
  have up2 : ∀ b, lo < b → b ∉ [S, z, TO, i1, i2] := fun b hb m => absurd (low b m) (Nat.not_le_of_lt hb)
  have S4 : S ∉ [z, TO, i1, i2] := fun m => aS (by
    simp only [List.mem_cons, List.not_mem_nil, or_false] at m ⊢
    rcases m with m | m | m | m
    · exact .inl m
    · exact .inr (.inr (.inl m))
    · exact .inr (.inr (.inr (.inl m)))
    · exact .inr (.inr (.inr (.inr m))))
  intro k
  induction k with
  | zero =>
    intro i h tk c acc as hk hi st u1 u2 kp hS ha hl g hs
    refine codeAny_builtin PySem.F.entry_extend_loop ?_; rw [Around.under_plainId PySem.F.plain_extend_loop _]
    show wpAny _ A.in1 (pyNext (.ref z) >>= _) _ _ _
    have e : xs[i]? = none ∨ ys[i]? = none := by
      have : i = min xs.size ys.size := by omega
      rcases Nat.le_total xs.size ys.size with q | q
      · exact .inl (Array.getElem?_eq_none (by omega))
      · exact .inr (Array.getElem?_eq_none (by omega))
    refine wpAny_bind (zst_end (A := A.in1) (s := { s with heap := h, toks := tk }) hh D st u1 u2 e fun h' hk' => ?_)
    exact wpAny_pure (hR h' tk acc c as (fun b o m e => hk' b o (sub b m) (kp b o m e)) (hk' S _ S4 hS) (by omega) (g.keep fun b o lb e => hk' b o (sub b (up2 b lb)) e) ha)
  | succ k ih =>
    intro i h tk c acc as hk hi st u1 u2 kp hS ha hl g hs
    have hx : i < xs.size := by omega
    have hy : i < ys.size := by omega
    have sz : acc.size = i := by rw [← Array.length_toList, ha, List.length_map, hl]
    have lS : S < h.objs.size := Heap.lt_size hS
    refine codeAny_builtin PySem.F.entry_extend_loop ?_; rw [Around.under_plainId PySem.F.plain_extend_loop _]
    show wpAny _ A.in1 (pyNext (.ref z) >>= _) _ _ _
    refine wpAny_bind (zst_item (A := A.in1) (s := { s with heap := h, toks := tk }) D st lS u1 u2 (Array.getElem?_eq_getElem hx) (Array.getElem?_eq_getElem hy) fun h' st' hp sz' hk' => ?_)
    dsimp only at hp sz' hk' ⊢
    have hS' := hk' S _ S4 hS
    have up : ∀ b o, b ≠ S → h'.get? b = some o → (h'.update S (Obj.mapSeq (·.push (Value.ref h.objs.size)))).get? b = some o := fun b o hb e => (Heap.get?_update_other _ _ (Ne.symm hb)).trans e
    have nl : ∀ b o, lo < b → h.get? b = some o → (h'.update S (Obj.mapSeq (·.push (Value.ref h.objs.size)))).get? b = some o := fun b o lb e => up b o (fun z => up2 b lb (by simp [z])) (hk' b o (sub b (up2 b lb)) e)
    have hp' : IsPair (h'.update S (Obj.mapSeq (·.push (Value.ref h.objs.size)))) h.objs.size _ _ := up _ _ (Nat.ne_of_gt lS) hp
    show wpAny _ A.in1 (updateSeq S (·.push (Value.ref h.objs.size)) >>= _) _ _ _
    refine wpAny_bind (wpAny_updateSeq hS' rfl (wpAny_pure ⟨plainId_quiet PySem.F.plain_extend_loop _, ?_⟩) (by rw [sz]; omega) (by show (acc.push (Value.ref h.objs.size)).size ≤ sizeLine + 1; rw [Array.size_push, sz]; omega))
    have tup : ∀ {l : Addr} {vs : Array Value}, l ≠ S → l ∉ [z, TO, i1, i2] → h.IsTuple l vs → (h'.update S (Obj.mapSeq (·.push (Value.ref h.objs.size)))).IsTuple l vs := fun n1 n2 ⟨o, e, r⟩ => ⟨o, up _ o n1 (hk' _ o n2 e), r⟩
    have L1 : l1 ∉ [z, TO, i1, i2] := by
      simp only [List.mem_cons, List.not_mem_nil, or_false, not_or]
      exact ⟨D.l1z, D.l1TO, D.l1i1, D.l1i2⟩
    have L2 : l2 ∉ [z, TO, i1, i2] := by
      simp only [List.mem_cons, List.not_mem_nil, or_false, not_or]
      exact ⟨D.l2z, D.l2TO, D.l2i1, D.l2i2⟩
    refine ih (i + 1) _ tk _ (acc.push (Value.ref h.objs.size)) (as ++ [h.objs.size]) (by omega) (by omega) (st'.keep aS up) (tup aL.1 L1 u1) (tup aL.2 L2 u2) (fun b o m e => up b o (fun z => m (by simp [z])) (hk' b o (sub b m) (kp b o m e)))
      (Heap.get?_update_self _ hS' rfl) (by rw [Array.toList_push, ha, List.map_append]; rfl) (by rw [List.length_append, hl]; rfl) (g.snoc nl rfl hs (by rw [hl]; exact Array.getElem?_eq_getElem hx) (by rw [hl]; exact Array.getElem?_eq_getElem hy) hp') (Nat.lt_trans hs (Heap.lt_size hp'))
end
theorem zip_len0 : typeLookup (.type "zip") "__len__" = pure none := am_miss_of_fast (by decide +kernel)
theorem zip_hint0 : typeLookup (.type "zip") "__length_hint__" = pure none := am_miss_of_fast (by decide +kernel)
section
variable {prog : Program} {w : World} {A : Around} {E : Value → Shared → Prop} {s : Shared}
/-- a zip of two tuples just made -/
structure Z0 (h : Heap) (z TI TO i1 i2 l1 l2 : Addr) (xs ys : Array Value) : Prop where
  iz : IsZip h z TI TO .none
  ti : IsPair h TI (.ref i1) (.ref i2)
  to : ∃ a b, IsPair h TO a b
  t1 : h.IsTupleIter i1 l1 0
  t2 : h.IsTupleIter i2 l2 0
  u1 : h.IsTuple l1 xs
  u2 : h.IsTuple l2 ys
  d : ZipApart z TI TO i1 i2 l1 l2
theorem Z0.keep {h h' : Heap} {z TI TO i1 i2 l1 l2 : Addr} {xs ys : Array Value} (q : Z0 h z TI TO i1 i2 l1 l2 xs ys) (k : ∀ b o, b < h.objs.size → h.get? b = some o → h'.get? b = some o) : Z0 h' z TI TO i1 i2 l1 l2 xs ys := by
  have kk : ∀ b o, h.get? b = some o → h'.get? b = some o := fun b o e => k b o (Heap.lt_size e) e
  obtain ⟨a, b, e⟩ := q.to
  obtain ⟨o1, e1, r1⟩ := q.u1
  obtain ⟨o2, e2, r2⟩ := q.u2
  exact ⟨kk _ _ q.iz, kk _ _ q.ti, ⟨a, b, kk _ _ e⟩, q.t1.at fun o e => kk _ o e, q.t2.at fun o e => kk _ o e, ⟨o1, kk _ _ e1, r1⟩, ⟨o2, kk _ _ e2, r2⟩, q.d⟩
theorem Z0.lt {h : Heap} {z TI TO i1 i2 l1 l2 : Addr} {xs ys : Array Value} (q : Z0 h z TI TO i1 i2 l1 l2 xs ys) : ∀ b ∈ [z, TI, TO, i1, i2, l1, l2], b < h.objs.size := by
  obtain ⟨a, b, e⟩ := q.to
  obtain ⟨o1, e1, r1⟩ := q.u1
  obtain ⟨o2, e2, r2⟩ := q.u2
  obtain ⟨o3, e3, _⟩ := q.t1
  obtain ⟨o4, e4, _⟩ := q.t2
  intro c hc
  simp only [List.mem_cons, List.not_mem_nil, or_false] at hc
  rcases hc with h | h | h | h | h | h | h
  · rw [h]; exact Heap.lt_size q.iz
  · rw [h]; exact Heap.lt_size q.ti
  · rw [h]; exact Heap.lt_size e
  · rw [h]; exact Heap.lt_size e3
  · rw [h]; exact Heap.lt_size e4
  · rw [h]; exact Heap.lt_size e1
  · rw [h]; exact Heap.lt_size e2
theorem z_extend {R : Result → Shared → Prop} {z TI TO i1 i2 l1 l2 S : Addr} {xs ys : Array Value} {n c₀ : Nat} (hh : A.handled = none) (q0 : Z0 s.heap z TI TO i1 i2 l1 l2 xs ys) (hn : n = min xs.size ys.size) (hz : n ≤ sizeLine)
    (aS : ∀ b ∈ [z, TI, TO, i1, i2, l1, l2], b < S) (res : Value) (hS : s.heap.get? S = some { cls := .type "list", data := .seq #[] c₀ })
    (hR : ∀ h' tk acc c as, (∀ b o, b ∉ [S, z, TO, i1, i2] → s.heap.get? b = some o → h'.get? b = some o) → h'.get? S = some { cls := .type "list", dict := none, data := .seq acc c, slots := #[] } → as.length = n → ZG xs ys S h' as →
      acc.toList = as.map Value.ref → R (.ok (.ret res)) { s with heap := h', toks := tk }) :
    wpAny (model prog w) A.in1 (Builtin.List.listExtendWith (.ref S) (.ref z) res) (fun fin s' => match fin with | .done f => R (.ok f) s' | .again c' => c'.quiet = true ∧ codeAny (model prog w) A c' R s') (fun e s' => R (.error e) s') s := by
  have nS : ∀ b ∈ [z, TI, TO, i1, i2, l1, l2], b ≠ S := fun b hb => Nat.ne_of_lt (aS b hb)
  have ty : s.TypeIs (.ref z) "zip" := ⟨_, q0.iz, rfl⟩
  have lS : S < s.heap.objs.size := Heap.lt_size hS
  unfold Builtin.List.listExtendWith
  refine wpAny_bind (wpAny_typeOf ty ?_)
  have e1 : Builtin.List.listSameRef (.ref S) (.ref z) = false := by simp [Builtin.List.listSameRef, Ne.symm (nS z (by simp))]
  have e2 : (Value.type "zip" == Value.type "list") = false := by decide
  have e3 : (Value.type "zip" == Value.type "tuple") = false := by decide
  simp only [e1, e2, e3, Bool.or_false, Bool.false_eq_true, if_false]
  refine wpAny_bind (wpAny_pyIter_zip q0.iz ?_); refine wpAny_bind (wpAny_holding ?_)
  unfold Builtin.List.listLengthHint
  refine wpAny_bind (wpAny_specialOf ty zip_len0 ?_); show wpAny _ A.in1 (specialOf (Value.ref z) (Str.ofString "__length_hint__") >>= _) _ _ s
  refine wpAny_bind (wpAny_specialOf ty zip_hint0 ?_); refine wpAny_pure ?_
  show wpAny _ A.in1 (rule "list.extend.makes-room" >>= fun _ => Builtin.List.listTouch (.ref S) >>= fun _ => again (.builtin "list.extend.loop" ⟨[.ref S, .ref z, res], []⟩)) _ _ s
  refine wpAny_bind (wpAny_rule ?_); refine wpAny_bind ?_
  show wpAny _ A.in1 (updateSeq S (·.push .none) >>= fun _ => updateSeq S (·.pop)) _ _ s
  refine wpAny_bind (wpAny_updateSeq hS rfl ?_)
  have g1 := Heap.get?_update_self (Obj.mapSeq (·.push Value.none)) hS rfl
  refine wpAny_updateSeq (hz := by seq_fits) g1 rfl ?_
  have g2 := Heap.get?_update_self (Obj.mapSeq (·.pop)) g1 rfl
  have oth : ∀ b o, b ≠ S → s.heap.get? b = some o → ((s.heap.update S (Obj.mapSeq (·.push Value.none))).update S (Obj.mapSeq (·.pop))).get? b = some o := fun b o n e => (Heap.get?_update_other _ _ (Ne.symm n)).trans ((Heap.get?_update_other _ _ (Ne.symm n)).trans e)
  obtain ⟨a, b, e⟩ := q0.to
  obtain ⟨o1, x1, r1⟩ := q0.u1
  obtain ⟨o2, x2, r2⟩ := q0.u2
  refine wpAny_pure ⟨plainId_quiet PySem.F.plain_extend_loop _, z_loop (s := s) (h₁ := s.heap) (lo := S) (n := n) hh q0.d hn hz ?_ ⟨nS _ (by simp), nS _ (by simp)⟩ ?_ res hR n 0 _ _ _ #[] [] (Nat.sub_zero _) (Nat.zero_le _)
    ⟨oth _ _ (nS _ (by simp)) q0.ti, q0.t1.at fun o e => oth _ o (nS _ (by simp)) e, q0.t2.at fun o e => oth _ o (nS _ (by simp)) e, .inl ⟨oth _ _ (nS _ (by simp)) q0.iz, a, b, oth _ _ (nS _ (by simp)) e⟩⟩
    ⟨o1, oth _ _ (nS _ (by simp)) x1, r1⟩ ⟨o2, oth _ _ (nS _ (by simp)) x2, r2⟩ (fun b o m e => oth b o (fun z => m (by simp [z])) e) g2 rfl rfl ⟨List.Pairwise.nil, (fun _ ha => nomatch ha), (fun j a hj => by simp at hj)⟩ (Heap.lt_size g2)⟩
  · intro m
    exact Nat.lt_irrefl _ (aS S (by
      simp only [List.mem_cons, List.not_mem_nil, or_false] at m ⊢
      rcases m with m | m | m | m | m
      · exact .inl m
      · exact .inr (.inl m)
      · exact .inr (.inr (.inl m))
      · exact .inr (.inr (.inr (.inl m)))
      · exact .inr (.inr (.inr (.inr (.inl m))))))
  · intro b hb
    simp only [List.mem_cons, List.not_mem_nil, or_false] at hb
    rcases hb with h | h | h | h | h
    · rw [h]; exact Nat.le_refl _
    · rw [h]; exact Nat.le_of_lt (aS _ (by simp))
    · rw [h]; exact Nat.le_of_lt (aS _ (by simp))
    · rw [h]; exact Nat.le_of_lt (aS _ (by simp))
    · rw [h]; exact Nat.le_of_lt (aS _ (by simp))
theorem z_call {Q : Value → Shared → Prop} {z TI TO i1 i2 l1 l2 : Addr} {xs ys : Array Value} {n : Nat} (hh : A.handled = none) (q0 : Z0 s.heap z TI TO i1 i2 l1 l2 xs ys) (hn : n = min xs.size ys.size) (hz : n ≤ sizeLine)
    (q : ∀ h' tk acc c as, (∀ b o, b ∉ [z, TO, i1, i2] → s.heap.get? b = some o → h'.get? b = some o) → h'.get? s.heap.objs.size = some { cls := .type "list", dict := none, data := .seq acc c, slots := #[] } → as.length = n → ZG xs ys s.heap.objs.size h' as →
      acc.toList = as.map Value.ref → Q (.ref s.heap.objs.size) { s with heap := h', toks := tk }) : wpAny (model prog w) A (call (.type "list") [.ref z]) Q E s := by
  refine callType_codes (Q₁ := fun obj s₁ => obj = .ref s.heap.objs.size ∧ s₁ = { s with heap := s.heap.push { cls := .type "list", data := .seq #[] } }) PySem.F.called_list (PySem.F.typeCall_list_1 _) PySem.F.entry_list_init (code_list_new _ ⟨rfl, rfl⟩) fun obj s₁ h₁ => ?_
  obtain ⟨rfl, rfl⟩ := h₁
  have hS : (s.heap.push { cls := .type "list", data := .seq #[] }).get? s.heap.objs.size = some { cls := .type "list", data := .seq #[] } := Heap.get?_push_size _ rfl
  refine ⟨⟨_, hS, rfl⟩, PySem.F.args_list_init_2 _ _, ?_⟩
  show wpAny _ _ (do let old ← Builtin.List.listItems (.ref s.heap.objs.size); Builtin.List.listUpdate (.ref s.heap.objs.size) (fun _ => #[]); letGo old.toList.reverse; Builtin.List.listExtendWith (.ref s.heap.objs.size) (.ref z) .none) _ _ _
  refine wpAny_bind ?_; unfold Builtin.List.listItems; refine wpAny_bind (wpAny_seqItems hS rfl (wpAny_pure ?_))
  show wpAny _ _ (updateSeq s.heap.objs.size (fun _ => #[]) >>= fun _ => letGo (#[] : Array Value).toList.reverse >>= fun _ => Builtin.List.listExtendWith (.ref s.heap.objs.size) (.ref z) .none) _ _ _
  refine wpAny_bind (wpAny_updateSeq hS rfl ?_)
  have g1 := Heap.get?_update_self (Obj.mapSeq (fun _ => (#[] : Array Value))) hS rfl
  have oth : ∀ b o, b ≠ s.heap.objs.size → s.heap.get? b = some o → ((s.heap.push { cls := .type "list", data := .seq #[] }).update s.heap.objs.size (Obj.mapSeq (fun _ => (#[] : Array Value)))).get? b = some o :=
    fun b o n e => (Heap.get?_update_other _ _ (Ne.symm n)).trans (Heap.get?_push_of_some _ e)
  refine wpAny_bind (wpAny_letGo ?_)
  refine z_extend (A := A.in1) hh (q0.keep fun b o lb e => oth b o (Nat.ne_of_lt lb) e) hn hz q0.lt .none g1 fun h' tk acc c as hk hS' hl hG ha => ?_
  refine ⟨rfl, q h' tk acc c as (fun b o m e => hk b o (fun y => ?_) (oth b o (Nat.ne_of_lt (Heap.lt_size e)) e)) hS' hl hG ha⟩
  rcases List.mem_cons.mp y with y | y
  · exact Nat.ne_of_lt (Heap.lt_size e) y
  · exact m y
end
/-- pairs tracked at these addresses -/
def putP : Hp → List Addr → List (V × V) → Hp
  | H, a :: as, p :: ps => putP (upd H a (.tup [p.1, p.2])) as ps
  | H, _, _ => H
theorem putP_off {b : Addr} : ∀ (as : List Addr) (ps : List (V × V)) (H : Hp), b ∉ as → putP H as ps b = H b
  | [], _, _, _ => by unfold putP; rfl
  | _ :: _, [], _, _ => by unfold putP; rfl
  | a :: as, p :: ps, H, h => by
    unfold putP
    rw [putP_off as ps _ fun z => h (List.mem_cons_of_mem _ z), upd_ne fun z => h (by rw [z]; exact List.mem_cons_self)]
theorem putP_at : ∀ (as : List Addr) (ps : List (V × V)) (H : Hp), as.length = ps.length → as.Nodup → ∀ (j : Nat) (a : Addr), as[j]? = some a → ∃ x y, ps[j]? = some (x, y) ∧ putP H as ps a = some (.tup [x, y])
  | [], _, _, _, _, _, _, e => by simp at e
  | _ :: _, [], _, h, _, _, _, _ => by cases h
  | a :: as, p :: ps, H, h, nd, j, b, e => by
    have nd := List.nodup_cons.mp nd
    unfold putP
    cases j with
    | zero =>
      cases e
      exact ⟨p.1, p.2, rfl, by rw [putP_off as ps _ nd.1, upd_same]⟩
    | succ j =>
      exact putP_at as ps _ (Nat.succ.inj h) nd.2 j b e
section
variable {X : Cx} {pins : List (Addr × Obj)} {σ : L2.St} {H : Hp} {s : Shared}
theorem zip_laid {h' : Heap} {tk c : Nat} {xs ys : List V} {its its2 : List Value} {acc : Array Value} {as : List Addr} {S n : Nat} (I : Inv X pins σ H s) (rx : Vals xs its) (ry : Vals ys its2) (hn : n = min xs.length ys.length) (hz : n ≤ sizeLine) (lS : s.heap.objs.size ≤ S)
    (hk : ∀ b o, s.heap.get? b = some o → h'.get? b = some o) (hS : h'.get? S = some { cls := .type "list", dict := none, data := .seq acc c, slots := #[] }) (hl : as.length = n) (g : ZG its.toArray its2.toArray S h' as) (ha : acc.toList = as.map Value.ref) :
    ∃ H' : Hp, Same H H' ∧ H S = none ∧ (∀ t ∈ as, H t = none) ∧ S ∉ as ∧ H' S = some (.lst (as.map V.ref)) ∧ (∀ (j : Nat) (t : Addr), as[j]? = some t → ∃ x y, xs[j]? = some x ∧ ys[j]? = some y ∧ H' t = some (.tup [x, y])) ∧ Inv X pins σ H' { s with heap := h', toks := tk } := by
  have nS : S ∉ as := fun z => Nat.lt_irrefl _ (g.above _ z)
  have nd : as.Nodup := List.Pairwise.imp (fun {a b} (h : a < b) => Nat.ne_of_lt h) g.rise
  have new : ∀ t ∈ as, H t = none := fun t ht => I.hok.fresh (Nat.le_trans lS (Nat.le_of_lt (g.above t ht)))
  have newS : H S = none := I.hok.fresh lS
  have lz : as.length = (xs.zip ys).length := by rw [List.length_zip, hl, hn]
  generalize hH : putP (upd H S (.lst (as.map V.ref))) as (xs.zip ys) = H'
  have atP : ∀ (j : Nat) (t : Addr), as[j]? = some t → ∃ x y, xs[j]? = some x ∧ ys[j]? = some y ∧ H' t = some (.tup [x, y]) := fun j t e => by
    obtain ⟨x, y, e1, e2⟩ := putP_at as (xs.zip ys) (upd H S (.lst (as.map V.ref))) lz nd j t e
    rw [hH] at e2
    have q := List.getElem?_zip_eq_some.mp e1
    exact ⟨x, y, q.1, q.2, e2⟩
  have off : ∀ b, b ∉ as → b ≠ S → H' b = H b := fun b h1 h2 => by rw [← hH, putP_off as _ _ h1, upd_ne h2]
  have lo : ∀ b o, s.heap.get? b = some o → b ∉ as ∧ b ≠ S := fun b o e => ⟨fun z => absurd (Nat.lt_of_lt_of_le (Heap.lt_size e) (Nat.le_trans lS (Nat.le_of_lt (g.above b z)))) (Nat.lt_irrefl _), Nat.ne_of_lt (Nat.lt_of_lt_of_le (Heap.lt_size e) lS)⟩
  have kp : Same H H' := fun b u e => by
    rw [off b (fun z => by rw [new b z] at e; cases e) (fun z => by rw [z, newS] at e; cases e)]
    exact e
  have eS : H' S = some (.lst (as.map V.ref)) := by rw [← hH, putP_off as _ _ nS, upd_same]
  refine ⟨H', kp, newS, new, nS, eS, atP, ?_⟩
  refine I.call' (ch := []) rfl ⟨fun b o e _ _ _ => hk b o e, fun b o e _ _ _ => ⟨o.slots, hk b o e⟩, fun b o e m _ => ?_, fun b o e _ => ⟨o, hk b o e⟩, fun b vs e => kp b _ e, fun b o u e => kp b _ e, fun b ps e => ⟨#[], by rw [kp b _ e]; simp⟩⟩ (fun b u e => ?_) I.bare fun b z => by simp at z
  · obtain ⟨z1, z2⟩ := lo b o e
    rw [off b z1 z2]
    exact m
  · by_cases hb : b ∈ as
    · obtain ⟨j, ej⟩ := List.mem_iff_getElem?.mp hb
      obtain ⟨x, y, ex, ey, et⟩ := atP j b ej
      rw [et] at e
      cases e
      obtain ⟨u, v, eu, ev, hp⟩ := g.pairs j b ej
      obtain ⟨u', eu', ru⟩ := rx.get ex
      obtain ⟨v', ev', rv⟩ := ry.get ey
      have a1 : u' = u := by
        have eu : its[j]? = some u := by simpa using eu
        rw [eu] at eu'
        exact (Option.some.inj eu').symm
      have a2 : v' = v := by
        have ev : its2[j]? = some v := by simpa using ev
        rw [ev] at ev'
        exact (Option.some.inj ev').symm
      subst a1
      subst a2
      exact ⟨by show 2 ≤ sizeLine; decide, [u', v'], .cons ru (.cons rv .nil), ⟨_, hp, rfl, _, rfl⟩⟩
    · by_cases hb2 : b = S
      · rw [hb2] at e ⊢
        rw [eS] at e
        cases e
        refine ⟨by rw [List.length_map]; omega, acc.toList, c, by rw [ha]; exact LiI.vals_refs as, ?_⟩
        rw [Array.toArray_toList]
        exact hS
      · rw [off b hb hb2] at e
        exact (I.hok b u e).stay (fun d v _ y => hk d v y) (fun d y => kp d _ y) fun d vs y => kp d _ y
end
/-- list(zip(t, u)) of two tuples -/
def tListZip (K : PySem.W.Frag) (ta : TA) : TE := fun σ H Q => ta σ H fun vs H1 => ∃ a b xs ys, vs = [.ref a, .ref b] ∧ SqT K H1 a xs ∧ SqT K H1 b ys ∧
  ∀ (p : Addr) (ts : List Addr) (H' : Hp), Same H1 H' → H1 p = none → (∀ t ∈ ts, H1 t = none) → p ∉ ts → H' p = some (.lst (ts.map V.ref)) → ts.length = min xs.length ys.length → (∀ (j : Nat) (t : Addr), ts[j]? = some t → ∃ x y, xs[j]? = some x ∧ ys[j]? = some y ∧ H' t = some (.tup [x, y])) → Q (.ref p) H'
section
variable {X : Cx} {e e2 : Expr} {ta : TA} {p p2 zpos pos : Pos}
theorem pe_listZip (hc : X.calm = true) (ha : PA X [e, e2] ta) (hg : Gl X "list") (hm : X.mg "list" = none) (hgz : Gl X "zip") (hmz : X.mg "zip" = none)
    (hs : starEach [.Call (.Name "zip" p2) [e, e2] [] zpos] X.env = (false, eval (.Call (.Name "zip" p2) [e, e2] [] zpos) X.env) :: starEach [] X.env := by rfl)
    (hs2 : starEach [e, e2] X.env = (false, eval e X.env) :: starEach [e2] X.env := by rfl) (hpl : (backTo zpos (starEach [e2] X.env)).any (·.1) = false := by rfl) :
    PE X (.Call (.Name "list" p) [.Call (.Name "zip" p2) [e, e2] [] zpos] [] pos) (tListZip X.K ta) := by
  refine ⟨fun pins s σ H Q I hq => ?_⟩
  refine wpAny_Call_Name_kw (ld_blt I hg hm b_list ?_); refine PyProof.Rows.callWith_type1 ?_ hs rfl
  rw [hs]
  show wpAny _ _ (spliced ((false, eval (.Call (.Name "zip" p2) [e, e2] [] zpos) X.env) :: backTo pos (starEach [] X.env))) _ _ s
  refine Calls.spliced_cons ?_
  refine Call_ (ld_blt I hgz hmz PyProof.Rows.boot_zip (PyProof.Rows.callWith_type1 (thn (ha.run zpos pins s σ H _ I hq) fun us s1 ⟨vs, H1, I1, r1, q1⟩ => ?_) hs2 hpl))
  obtain ⟨a, b, xs, ys, ex, hx, hy, q⟩ := q1
  subst ex
  obtain ⟨u, u2, rfl, ru, ru2⟩ := vals2 r1
  cases ru
  cases ru2
  obtain ⟨its, rx, px, bx⟩ := I1.tuple hx
  obtain ⟨its2, ry, py, bY⟩ := I1.tuple hy
  obtain ⟨o1, e1, r1'⟩ := id px
  obtain ⟨o2, e2', r2'⟩ := id py
  have lx := rx.length
  have ly := ry.length
  refine RZ.call_zipT (show s1.heap.IsTuple a its.toArray from px) (show s1.heap.IsTuple b its2.toArray from py) fun h' hz hTI hTO h1 h2 hsz hk => ?_
  refine Calls.spliced_nil ?_
  have q0 : Z0 h' (s1.heap.objs.size + 4) (s1.heap.objs.size + 2) (s1.heap.objs.size + 3) s1.heap.objs.size (s1.heap.objs.size + 1) a b its.toArray its2.toArray :=
    ⟨hz, hTI, ⟨_, _, hTO⟩, h1, h2, ⟨o1, hk _ _ e1, r1'⟩, ⟨o2, hk _ _ e2', r2'⟩, PySem.W.ktu_apart s1.heap.objs.size a b (Heap.lt_size e1) (Heap.lt_size e2')⟩
  refine z_call (n := min xs.length ys.length) (s := { s1 with heap := h' }) (I1.ok.hd hc) q0 (by rw [List.size_toArray, List.size_toArray, lx, ly]) (Nat.le_trans (Nat.min_le_left _ _) bx) fun h'' tk acc c as hk2 hS hl g hacc => ?_
  have kk : ∀ b o, s1.heap.get? b = some o → h''.get? b = some o := fun b o z => hk2 b o (fun m => by
    have lb := Heap.lt_size z
    simp only [List.mem_cons, List.not_mem_nil, or_false] at m
    rcases m with m | m | m | m <;> rw [m] at lb <;> first | exact Nat.lt_irrefl _ lb | exact absurd lb (Nat.not_lt.mpr (Nat.le_add_right _ _))) (hk b o z)
  obtain ⟨H', k1, k2, k3, k4, k5, k6, J⟩ := zip_laid (S := h'.objs.size) (tk := tk) I1 rx ry rfl (Nat.le_trans (Nat.min_le_left _ _) bx) (by rw [hsz]; exact Nat.le_add_right _ _) kk hS hl g hacc
  exact ⟨.ref _, H', J, rfl, q _ as H' k1 k2 k3 k4 k5 hl k6⟩
end
/-! enumerate over a list, a tuple or a text, from any number on -/
/-- what stands in Its is gone along by the iterator at it -/
structure Goer (P : Program) (w : World) (K : PySem.W.Frag) (it : Addr) (Its : Hp → List V → Prop) (tn : Nat → Heap → Prop) : Prop where
  cell : ∀ i h, tn i h → ∃ o, h.get? it = some o ∧ ∀ v, o.data ≠ .cell v
  keep : ∀ i h h', tn i h → (∀ o, h.get? it = some o → h'.get? it = some o) → tn i h'
  uniq : ∀ (X : Cx) (pins : List (Addr × Obj)) (σ : L2.St) (H : Hp) (s : Shared) xs ys, X.K = K → Inv X pins σ H s → Its H xs → Its H ys → xs = ys
  drw : ∀ (X : Cx) (i0 : Nat) (pins : List (Addr × Obj)) (σ : L2.St) (H : Hp) (s : Shared) (e : Addr) (xs : List V), X.prog = P → X.w = w → X.K = K → X.calm = true → Inv X pins σ H s → tn i0 s.heap → e ≠ it → (∃ ob, s.heap.get? e = some ob ∧ ob.cls = .type "enumerate") → Its H xs →
    ∃ (Pq : Nat → Value → Prop) (Z : Nat → Heap → Prop) (fp : List Addr), Draws P w X.A.in1 it fp xs.length Pq Z ∧ (∀ i, tn i s.heap → Z i s.heap) ∧ (∀ i h, Z i h → tn i h) ∧ e ∉ fp ∧ ∀ i u, Pq i u → ∃ x, xs[i]? = some x ∧ RelV x u
def ItC (Its : Hp → List V → Prop) (k0 : Int) : It :=
  ⟨fun i H => ∃ (zs : List V) (z : V), Its H zs ∧ zs[i]? = some z,
   fun i H y H' => ∃ T z, y = .ref T ∧ H T = none ∧ H' = upd H T (.tup [.int (k0 + (i : Nat)), z]) ∧ ∀ zs, Its H zs → zs[i]? = some z,
   fun i H => ∃ zs : List V, Its H zs ∧ zs.length = i⟩
theorem turn_enumC {P : Program} {w : World} {K : PySem.W.Frag} {elts : List Expr} {kk : Nat} {tpos : Pos} {Its : Hp → List V → Prop} {tn : Nat → Heap → Prop} (k0 : Int) (e it : Addr) (G : Goer P w K it Its tn) :
    Turn P w K (.Tuple elts kk tpos) (ItC Its k0) [e, it] e (fun i h => (∃ old, IsEnum h e it (k0 + (i : Nat)) old) ∧ tn i h ∧ e ≠ it) where
  mem := List.mem_cons_self
  obj := fun i h st b hb => by
    obtain ⟨⟨old, ee⟩, ii, _⟩ := st
    rcases List.mem_cons.mp hb with z | hb
    · subst z
      exact ⟨_, ee, fun v q => nomatch q⟩
    · rw [List.mem_singleton.mp hb]
      exact G.cell i h ii
  keep := fun i h h' st k => by
    obtain ⟨⟨old, ee⟩, ii, ne⟩ := st
    exact ⟨⟨old, k e List.mem_cons_self _ ee⟩, G.keep i h h' ii (fun o q => k it (List.mem_cons_of_mem _ List.mem_cons_self) o q), ne⟩
  item := by
    intro X hP hw hK hc i pins s σ H E I fr st hg
    subst hP hw hK
    obtain ⟨⟨old, ee⟩, ii, ne⟩ := st
    obtain ⟨zs, z, hz, hi⟩ := hg
    obtain ⟨Pq, Z, fp, D, z1, z2, ef, pq⟩ := G.drw X i pins σ H s e zs rfl rfl rfl hc I ii ne ⟨_, ee, rfl⟩ hz
    have le : e < s.heap.objs.size := Heap.lt_size ee
    have li : it < s.heap.objs.size := by
      obtain ⟨o, q, _⟩ := G.cell i _ ii
      exact Heap.lt_size q
    refine wpAny_pyNext_enum_itemC D ee (z1 i ii) (List.getElem?_eq_some_iff.mp hi).1 ne ef fun x h1 tk px ho st1 hT hs kp => ?_
    obtain ⟨x', e', rx⟩ := pq i x px
    have ex := Option.some.inj (e'.symm.trans hi)
    subst ex
    refine ⟨_, rfl, wpAny_letOwnedTupleGo_enum (s := { s with heap := h1, toks := tk + 1 }) ho fun h2 e2 sb => ?_⟩
    have t2 : h2.get? s.heap.objs.size = some { cls := .type "tuple", data := .seq #[.int (k0 + (i : Nat)) tk, x] } := (sb.2 _ (Nat.ne_of_gt le)).trans hT
    have fresh : ObjOk X.prog X.w (upd H s.heap.objs.size (.tup [.int (k0 + (i : Nat)), x'])) h2 s.heap.objs.size (.tup [.int (k0 + (i : Nat)), x']) :=
      ⟨by show 2 ≤ sizeLine; decide, [.int (k0 + (i : Nat)) tk, x], .cons ⟨_, rfl⟩ (.cons rx .nil), ⟨_, t2, rfl, _, rfl⟩⟩
    have I1 : Inv X pins σ (upd H s.heap.objs.size (.tup [.int (k0 + (i : Nat)), x'])) { s with heap := h2, toks := tk + 1 } :=
      I.turnedNew (ch := [e, it]) (fun b o nb q => (sb.2 b (fun y => nb (by simp [y]))).trans (kp b o (fun y => nb (by simp [y])) (fun y => nb (by simp [y])) q)) fr (Nat.le_refl _) fresh
    refine ⟨.ref s.heap.objs.size, _, I1, rfl, ⟨_, x', rfl, I.hok.fresh (Nat.le_refl _), rfl, fun ys hy => by rw [G.uniq X pins σ H s ys zs rfl I hy hz]; exact hi⟩, ⟨⟨x, ?_⟩, ?_, ne⟩, fun b hb => ?_⟩
    · have a1 : k0 + ((i + 1 : Nat) : Int) = k0 + (i : Nat) + 1 := by omega
      rw [a1]
      exact e2
    · exact G.keep _ h1 h2 (z2 _ _ st1) fun o q => (sb.2 it (Ne.symm ne)).trans q
    · have lb : b < s.heap.objs.size := by
        rcases List.mem_cons.mp hb with y | hb
        · rw [y]; exact le
        · rw [List.mem_singleton.mp hb]; exact li
      rw [upd_ne (Nat.ne_of_lt lb)]
      exact (fr b hb).1
  done := by
    intro X hP hw hK hc i pins s σ H E I fr st hg
    subst hP hw hK
    obtain ⟨⟨old, ee⟩, ii, ne⟩ := st
    obtain ⟨zs, hz, hl⟩ := hg
    obtain ⟨Pq, Z, fp, D, z1, z2, ef, pq⟩ := G.drw X i pins σ H s e zs rfl rfl rfl hc I ii ne ⟨_, ee, rfl⟩ hz
    subst hl
    obtain ⟨f0, f1, f2, f3, f4, f5⟩ := fr it (List.mem_cons_of_mem _ List.mem_cons_self)
    exact wpAny_pyNext_enum_endD D ee (z1 _ ii) fun h1 eb => ⟨rfl, I.turned (t' := s.toks) (fun b o nb q => eb b o nb q) f0 f1 f3 f4 f5⟩
  self := fun A i s Q E st h => by
    obtain ⟨⟨_, ee⟩, _⟩ := st
    exact wpAny_pyIter_enum ee h
theorem vals_back : ∀ {xs : List V} {us : List Value} {i : Nat} {u : Value}, Vals xs us → us[i]? = some u → ∃ x, xs[i]? = some x ∧ RelV x u := by
  intro xs us i u r e
  have hi := (List.getElem?_eq_some_iff.mp e).1
  have l := r.length
  obtain ⟨u2, e2, r2⟩ := r.get (List.getElem?_eq_getElem (l := xs) (i := i) (by omega))
  have z := Option.some.inj (e2.symm.trans e)
  subst z
  exact ⟨_, List.getElem?_eq_getElem (by omega), r2⟩
section
variable {P : Program} {w : World} {K : PySem.W.Frag}
theorem goer_tup (a it : Addr) : Goer P w K it (fun H xs => SqT K H a xs) (fun i h => h.IsTupleIter it a i) where
  cell := fun i h st => by
    obtain ⟨o, q, _, r⟩ := st
    exact ⟨o, q, fun v y => by rw [r] at y; cases y⟩
  keep := fun i h h' st k => st.at fun o q => k o q
  uniq := fun X pins σ H s xs ys hK I hx hy => by
    subst hK
    exact I.tuple_inj hx hy
  drw := fun X i0 pins σ H s e xs hP hw hK hc I ti ne ⟨oe, oq, oc⟩ hx => by
    subst hP hw hK
    obtain ⟨its, rv, p, hz⟩ := I.tuple hx
    have p2 : s.heap.IsTuple a its.toArray := p
    obtain ⟨ot, t1, t2, _⟩ := p
    have nt : a ≠ it := by
      intro y
      obtain ⟨oi, q1, q2, _⟩ := ti
      rw [y, q1] at t1
      cases t1
      rw [q2] at t2
      exact absurd (Value.type.inj t2) (by decide)
    have net : e ≠ a := by
      intro y
      rw [y, t1] at oq
      cases oq
      rw [t2] at oc
      exact absurd (Value.type.inj oc) (by decide)
    have D := Draws.tuple (prog := X.prog) (w := X.w) (A := X.A.in1) (I.ok.hd hc) it a nt its.toArray
    rw [List.size_toArray, ← rv.length] at D
    refine ⟨_, _, _, D, fun i st => ⟨st, p2⟩, fun i h z => z.1, ?_, ?_⟩
    · simp only [List.mem_cons, List.not_mem_nil, or_false, not_or]
      exact ⟨ne, net⟩
    · intro i u q
      have q : its.toArray[i]? = some u := q
      rw [List.getElem?_toArray] at q
      exact vals_back rv q
theorem goer_lst (a it : Addr) : Goer P w K it (fun H xs => SqL K H a xs) (fun i h => h.IsListIter it a i) where
  cell := fun i h st => by
    obtain ⟨o, q, _, r⟩ := st
    exact ⟨o, q, fun v y => by rw [r] at y; cases y⟩
  keep := fun i h h' st k => st.at fun o q => k o q
  uniq := fun X pins σ H s xs ys hK I hx hy => by
    subst hK
    exact I.list_inj hx hy
  drw := fun X i0 pins σ H s e xs hP hw hK hc I ti ne ⟨oe, oq, oc⟩ hx => by
    subst hP hw hK
    obtain ⟨its, rv, p, hz⟩ := I.list hx
    have p2 : s.heap.IsList a its.toArray := p.isList
    obtain ⟨ot, t1, t2, _⟩ := id p2
    have nt : a ≠ it := by
      intro y
      obtain ⟨oi, q1, q2, _⟩ := ti
      rw [y, q1] at t1
      cases t1
      rw [q2] at t2
      exact absurd (Value.type.inj t2) (by decide)
    have net : e ≠ a := by
      intro y
      rw [y, t1] at oq
      cases oq
      rw [t2] at oc
      exact absurd (Value.type.inj oc) (by decide)
    have D := Draws.list (prog := X.prog) (w := X.w) (A := X.A.in1) (I.ok.hd hc) it a nt its.toArray
    rw [List.size_toArray, ← rv.length] at D
    refine ⟨_, _, _, D, fun i st => ⟨st, p2⟩, fun i h z => z.1, ?_, ?_⟩
    · simp only [List.mem_cons, List.not_mem_nil, or_false, not_or]
      exact ⟨ne, net⟩
    · intro i u q
      have q : its.toArray[i]? = some u := q
      rw [List.getElem?_toArray] at q
      exact vals_back rv q
/-- the signs of a text -/
def signs (z : Str) : List V := z.cps.toList.map fun c => V.str ⟨#[c]⟩
theorem goer_str (z : Str) (t : Tok) (it : Addr) : Goer P w K it (fun _ xs => xs = signs z) (fun i h => h.IsStrIter it (strIterType z) z t i) where
  cell := fun i h st => by
    obtain ⟨o, q, _, r⟩ := st
    exact ⟨o, q, fun v y => by rw [r] at y; cases y⟩
  keep := fun i h h' st k => by
    obtain ⟨o, q, r⟩ := st
    exact ⟨o, k o q, r⟩
  uniq := fun X pins σ H s xs ys hK I hx hy => hx.trans hy.symm
  drw := fun X i0 pins σ H s e xs hP hw hK hc I ti ne _ hx => by
    subst hP hw hK hx
    have D := Draws.text (prog := X.prog) (w := X.w) (A := X.A.in1) (I.ok.hd hc) it z t
    have ez : z.cps.size = (signs z).length := by simp [signs]
    rw [ez] at D
    refine ⟨_, _, _, D, fun i st => st, fun i h z => z, ?_, ?_⟩
    · simp only [List.mem_cons, List.not_mem_nil, or_false]
      exact ne
    · rintro i u ⟨c, u2, q, rfl⟩
      refine ⟨.str ⟨#[c]⟩, ?_, ⟨_, rfl⟩⟩
      unfold signs
      rw [List.getElem?_map]
      have q2 : z.cps.toList[i]? = some c := by simpa using q
      rw [q2]
      rfl
end
set_option maxHeartbeats 1000000 in
theorem meets_enum1 {v : Value} {ob : Obj} {Z : Heap → Prop} (B : Begins v ob Z) :
    Meets (Builtin.«enumerate.__new__» ⟨[.type "enumerate", v], []⟩) (fun _ R s => Z s.heap ∧
      R (.ok (.ret (.ref (s.heap.push ob).objs.size))) { s with heap := (s.heap.push ob).push { cls := .type "enumerate", data := .fields #[.none, .bool false, .ref s.heap.objs.size, rawInt 0, .none, .none] } }) :=
  .of_wp fun prog w A R s hh => by
    obtain ⟨hp, g, d, tk, os⟩ := s
    obtain ⟨hz, hh⟩ := hh
    have hsub := sub_enumerate
    have go : ∀ {A' : Around} {E : Value → Shared → Prop} {Q : Value → Shared → Prop}, Q (.ref hp.objs.size) ⟨hp.push ob, g, d, tk, os⟩ → wpAny (model prog w) A' (pyIter v) Q E ⟨hp, g, d, tk, os⟩ :=
      fun q => B.iter prog w _ _ ⟨hp, g, d, tk, os⟩ _ hz q
    wp_walk using go
    refine wpAny_stack_any fun st => wpAny_pure ?_
    split
    · rename_i c _ _ _ _ _
      cases (c == Value.type "enumerate") <;>
      · wp_walk using go
        exact ⟨_, rfl, hh⟩
    · wp_walk using go
      exact ⟨_, rfl, hh⟩
theorem enum_made {prog : Program} {w : World} {A : Around} {E : Value → Shared → Prop} {s : Shared} {v : Value} {ob : Obj} {Z : Heap → Prop} {Q : Value → Shared → Prop} (B : Begins v ob Z) (hz : Z s.heap)
    (h : ∀ h', IsEnum h' (s.heap.objs.size + 1) s.heap.objs.size 0 .none → h'.get? s.heap.objs.size = some ob → (∀ b o, s.heap.get? b = some o → h'.get? b = some o) → Q (.ref (s.heap.objs.size + 1)) { s with heap := h' }) :
    wpAny (model prog w) A (call (.type "enumerate") [v]) Q E s := by
  refine callType_new F.called_enumerate (by decide) (F.typeCall_enumerate_1 _) (F.newCall_enumerate_1 _) (fun obj => F.args_object_init_2 obj _) F.entry_enumerate_new (meets_enum1 B) ⟨hz, ?_⟩
  have sz : (s.heap.push ob).objs.size = s.heap.objs.size + 1 := Heap.size_push ..
  show _ ∧ _
  rw [sz]
  have ee := Heap.get?_push_size (s.heap.push ob) (o := { cls := .type "enumerate", data := .fields #[.none, .bool false, .ref s.heap.objs.size, rawInt 0, .none, .none] }) rfl
  rw [sz] at ee
  exact ⟨⟨_, ee, rfl⟩, h _ ee (Heap.get?_push_of_some _ (Heap.get?_push_size _ B.free)) fun b o x => Heap.get?_push_of_some _ (Heap.get?_push_of_some _ x)⟩
def iEnumA (K : PySem.W.Frag) (ta : TA) : TI := fun σ H R => ta σ H fun vs H1 =>
  (∃ a xs, vs = [.ref a] ∧ SqT K H1 a xs ∧ R (ItC (fun H ys => SqT K H a ys) 0) H1) ∨ ∃ z, vs = [.str z] ∧ R (ItC (fun _ ys => ys = signs z) 0) H1
def iEnumK (K : PySem.W.Frag) (ta : TA) : TI := fun σ H R => ta σ H fun vs H1 => ∃ a xs k, vs = [.ref a, .int k] ∧ SqL K H1 a xs ∧ -(2 ^ 63) ≤ k ∧ k < 2 ^ 63 ∧ R (ItC (fun H ys => SqL K H a ys) k) H1
section
variable {X : Cx} {e e2 : Expr} {ta : TA} {p pos tpos : Pos} {elts : List Expr} {kk : Nat}
theorem pie_enum {pins : List (Addr × Obj)} {σ : L2.St} {H : Hp} {s : Shared} {h' : Heap} {Its : Hp → List V → Prop} {tn : Nat → Heap → Prop} {R : It → Hp → Prop} {k : Int} (I : Inv X pins σ H s) (G : Goer X.prog X.w X.K s.heap.objs.size Its tn)
    (ee : IsEnum h' (s.heap.objs.size + 1) s.heap.objs.size k .none) (t0 : tn 0 h') (kp : ∀ b o, s.heap.get? b = some o → h'.get? b = some o) (q : R (ItC Its k) H) :
    wpAny (model X.prog X.w) X.A (pyIter (.ref (s.heap.objs.size + 1))) (PIE X pins σ (.Tuple elts kk tpos) R) X.xe { s with heap := h' } := by
  refine wpAny_pyIter_enum ee ?_
  refine ⟨s.heap.objs.size + 1, [s.heap.objs.size + 1, s.heap.objs.size], _, _, H, rfl, I.kept (t' := s.toks) kp, turn_enumC k (s.heap.objs.size + 1) s.heap.objs.size G, ⟨⟨.none, ?_⟩, t0, Nat.succ_ne_self _⟩, fun b hb => ?_, q⟩
  · have z : k + ((0 : Nat) : Int) = k := by omega
    rw [z]
    exact ee
  · have lb : s.heap.objs.size ≤ b := by
      rcases List.mem_cons.mp hb with y | hb
      · rw [y]; exact Nat.le_succ _
      · rw [List.mem_singleton.mp hb]; exact Nat.le_refl _
    exact I.fpOk lb (I.hok.fresh lb)
theorem pi_enumA (hg : Gl X "enumerate") (hm : X.mg "enumerate" = none) (ha : PA X [e] ta) (hs : starEach [e] X.env = [(false, eval e X.env)] := by rfl) :
    PI X (.Tuple elts kk tpos) (.Call (.Name "enumerate" p) [e] [] pos) (iEnumA X.K ta) := by
  refine ⟨fun pins s σ H R I h => ?_⟩
  refine Call_ (ld_blt I hg hm boot_enumerate (PyProof.Rows.callWith_type1 (thn (ha.run pos pins s σ H _ I h) fun us s1 ⟨vs, H1, I1, r1, q1⟩ => ?_) hs rfl))
  rcases q1 with ⟨a, xs, rfl, hx, q⟩ | ⟨z, rfl, q⟩
  · obtain ⟨u, rfl, ru⟩ := r1.one
    cases ru
    obtain ⟨its, rv, tp, hz⟩ := I1.tuple hx
    exact enum_made (begins_tuple a its.toArray) tp fun h' ee hi kp => pie_enum I1 (goer_tup a _) ee ⟨_, hi, rfl, rfl⟩ kp q
  · obtain ⟨u, rfl, ru⟩ := r1.one
    obtain ⟨t, rfl⟩ := ru
    exact enum_made (begins_text z t) trivial fun h' ee hi kp => pie_enum I1 (goer_str z t _) ee ⟨_, hi, rfl, rfl⟩ kp q
theorem pi_enumK (hg : Gl X "enumerate") (hm : X.mg "enumerate" = none) (ha : PA X [e, e2] ta) (hs : starEach [e, e2] X.env = (false, eval e X.env) :: starEach [e2] X.env := by rfl) (hpl : (backTo pos (starEach [e2] X.env)).any (·.1) = false := by rfl) :
    PI X (.Tuple elts kk tpos) (.Call (.Name "enumerate" p) [e, e2] [] pos) (iEnumK X.K ta) := by
  refine ⟨fun pins s σ H R I h => ?_⟩
  refine Call_ (ld_blt I hg hm boot_enumerate (PyProof.Rows.callWith_type1 (thn (ha.run pos pins s σ H _ I h) fun us s1 ⟨vs, H1, I1, r1, q1⟩ => ?_) hs hpl))
  obtain ⟨a, xs, k, rfl, hx, k0, k1, q⟩ := q1
  obtain ⟨u, v, rfl, ru, rv⟩ := r1.two
  cases ru
  obtain ⟨t, rfl⟩ := rv
  obtain ⟨its, rv, tp, hz⟩ := I1.list hx
  exact enum_begins (begins_list a its.toArray) tp.isList k0 k1 fun h' ee hi _ kp => pie_enum I1 (goer_lst a _) ee ⟨_, hi, rfl, rfl⟩ kp q
end
/-- going along what enumerate hands out -/
theorem walk_C {Its : Hp → List V → Prop} {xs : List V} {k0 : Int} : Walk (ItC Its k0) xs.length (fun H => Its H xs)
    (fun i H y H' => ∃ T z, y = .ref T ∧ H T = none ∧ H' = upd H T (.tup [.int (k0 + (i : Nat)), z]) ∧ xs[i]? = some z) := by
  refine ⟨fun i H hi g => ⟨xs, _, g, List.getElem?_eq_getElem hi⟩, ?_, ?_⟩
  · intro H g
    exact ⟨xs, g, rfl⟩
  · rintro i H y H' hi g ⟨T, z, e1, e2, e3, e4⟩
    exact ⟨T, z, e1, e2, e3, e4 xs g⟩
/-- d.get(key), d a dict of the program's top with texts for keys -/
def tKGet (K : PySem.W.Frag) (d : Addr) (td ty : TE) : TE := fun σ H Q => td σ H fun x H1 => x = .ref d ∧ ty σ H1 fun y H2 => ∃ z r v, y = .str z ∧ PySem.W.nsIn K d z = some r ∧ RelV v (r.getD .none) ∧ Q v H2
theorem pe_kget {X : Cx} {d : Addr} {es : Array DictEntry} {n : Nat} {o e : Expr} {apos cpos : Pos} {td ty : TE} (D : KDict X.K X.w d es n) (ho : PE X o td) (he : PE X e ty) (m : M1 X o "get" apos e cpos) :
    PE X (.Call (.Attribute o "get" apos) [e] [] cpos) (tKGet X.K d td ty) := by
  refine ⟨fun pins s σ H Q I h => ?_⟩
  refine wpAny_Call_method m.base m.few m.line PySem.F.plainAttrs_dict PySem.F.slot_dict_get PySem.F.type_dict_get (thn (ho.run pins s σ H _ I h) fun u s1 ⟨x, H1, I1, rx, ex, q1⟩ => ?_)
  subst ex
  cases rx
  refine ⟨kd_type D I1, fun b q => ?_, ?_⟩
  · cases q
    exact ⟨_, I1.kIn _ _ D.at_, rfl⟩
  rw [m.trees]
  refine Calls.callWith_builtin rfl (Calls.evalArgs_plain (Calls.spliced_cons (thn (he.run pins s1 σ H1 _ I1 q1) fun iv s2 ⟨y, H2, I2, ry, z, r, v, ey, en, rv, q2⟩ => Calls.spliced_nil ?_)))
  subst ey
  obtain ⟨t, rfl⟩ := ry
  refine call_meetsIn PySem.F.slot_dict_get (kd_type D I2) PySem.F.entry_dict_get (PySem.F.args_dict_get_2 _ _) (meets_dict_get (strKind X.prog X.w) d (strKind_is X.prog X.w z t) D.low) ⟨_, PySem.W.mapOf_K (prog := X.prog) I2.kIn D.at_ D.lit, ?_⟩
  rw [PySem.W.find_K D.at_ en]
  exact ⟨v, H2, I2.tok _, rv, q2⟩
/-! zip of a text and a tuple -/
def ItST (K : PySem.W.Frag) (z : Str) (b : Addr) : It :=
  ⟨fun i H => ∃ (ys : List V) (x y : V), SqT K H b ys ∧ (signs z)[i]? = some x ∧ ys[i]? = some y,
   fun i H v H' => ∃ T x y, v = .ref T ∧ H T = none ∧ H' = upd H T (.tup [x, y]) ∧ (signs z)[i]? = some x ∧ ∀ ys, SqT K H b ys → ys[i]? = some y,
   fun i H => ∃ ys : List V, SqT K H b ys ∧ i ≤ (signs z).length ∧ i ≤ ys.length ∧ (i = (signs z).length ∨ i = ys.length)⟩
structure Ap5 (z TI TO i1 i2 b : Addr) : Prop where
  TIz : TI ≠ z
  TOz : TO ≠ z
  TITO : TI ≠ TO
  TIi1 : TI ≠ i1
  TIi2 : TI ≠ i2
  zi1 : z ≠ i1
  zi2 : z ≠ i2
  TOi1 : TO ≠ i1
  TOi2 : TO ≠ i2
  i12 : i1 ≠ i2
  zb : z ≠ b
  TOb : TO ≠ b
  i1b : i1 ≠ b
  i2b : i2 ≠ b
theorem Ap5.sep {z TI TO i1 i2 b : Addr} (D : Ap5 z TI TO i1 i2 b) : ZipSep2 z TI TO i1 i2 [i1] [i2, b] :=
  ⟨D.TIz, D.TOz, D.TITO, D.TIi1, by simp, by simpa using D.zi1, by simpa using D.TOi1, D.TIi2, by simp, by simpa using ⟨D.zi2, D.zb⟩, by simpa using ⟨D.TOi2, D.TOb⟩, by simpa using ⟨D.i12, D.i1b⟩, by simpa using D.i12.symm⟩
theorem turn_zipST {P : Program} {w : World} {K : PySem.W.Frag} {elts : List Expr} {kk : Nat} {tpos : Pos} {x : Str} {t : Tok} {b z TI TO i1 i2 : Addr} (D : Ap5 z TI TO i1 i2 b) :
    Turn P w K (.Tuple elts kk tpos) (ItST K x b) [z, TI, TO, i1, i2] z (fun i h => IsZip h z TI TO .none ∧ IsTupOf2 h TI (.ref i1) (.ref i2) ∧ (∃ x y, IsTupOf2 h TO x y) ∧ h.IsStrIter i1 (strIterType x) x t i ∧ h.IsTupleIter i2 b i) where
  mem := by simp
  obj := fun i h st c hc => by
    obtain ⟨hz, hTI, ⟨x, y, hTO⟩, ⟨o1, e1, _, d1⟩, ⟨o2, e2, _, d2⟩⟩ := st
    have e' : c = z ∨ c = TI ∨ c = TO ∨ c = i1 ∨ c = i2 := by simpa using hc
    rcases e' with q | q | q | q | q
    · rw [q]; exact ⟨_, hz, fun v q => nomatch q⟩
    · rw [q]; exact ⟨_, hTI, fun v q => nomatch q⟩
    · rw [q]; exact ⟨_, hTO, fun v q => nomatch q⟩
    · rw [q]; exact ⟨o1, e1, fun v q => by rw [d1] at q; cases q⟩
    · rw [q]; exact ⟨o2, e2, fun v q => by rw [d2] at q; cases q⟩
  keep := fun i h h' st k => by
    obtain ⟨hz, hTI, ⟨x, y, hTO⟩, ⟨o1, e1, r1⟩, h2⟩ := st
    exact ⟨k z (by simp) _ hz, k TI (by simp) _ hTI, ⟨x, y, k TO (by simp) _ hTO⟩, ⟨o1, k i1 (by simp) _ e1, r1⟩, h2.at fun o q => k i2 (by simp) o q⟩
  item := by
    intro X hP hw hK hc i pins s σ H E I hf st hg
    subst hP hw hK
    obtain ⟨hz, hTI, ⟨x0, y0, hTO⟩, h1, h2⟩ := st
    obtain ⟨ys, x1, y1, hqy, hx, hy⟩ := hg
    obtain ⟨its, rv, p, _⟩ := I.tuple hqy
    have p : s.heap.IsTuple b its.toArray := p
    have D1 := Draws.text (prog := X.prog) (w := X.w) (A := X.A.in1) (I.ok.hd hc) i1 x t
    have D2 := Draws.tuple (prog := X.prog) (w := X.w) (A := X.A.in1) (I.ok.hd hc) i2 b D.i2b.symm its.toArray
    have hzl : z < s.heap.objs.size := Heap.lt_size hz
    have l1 : i < x.cps.size := by
      have z := (List.getElem?_eq_some_iff.mp hx).1
      simpa [signs] using z
    have l2 : i < its.toArray.size := by
      have z := (List.getElem?_eq_some_iff.mp hy).1
      have := rv.length
      simp only [List.size_toArray]
      omega
    refine wpAny_pyNext_zipD2_item D.sep D1 D2 hz hTI hTO h1 ⟨h2, p⟩ l1 l2 fun u u2 h' tk pu pu2 z' TO' h1' h2' hT hsz hk => ?_
    obtain ⟨c, tc, ec, rfl⟩ := pu
    have ex : x1 = .str ⟨#[c]⟩ := by
      unfold signs at hx
      rw [List.getElem?_map] at hx
      have q2 : x.cps.toList[i]? = some c := by simpa using ec
      rw [q2] at hx
      exact (Option.some.inj hx).symm
    subst ex
    rw [List.getElem?_toArray] at pu2
    obtain ⟨y2, ey2, ry2⟩ := vals_back rv pu2
    have ey : y2 = y1 := Option.some.inj (ey2.symm.trans hy)
    subst ey
    refine ⟨_, rfl, wpAny_letOwnedTupleGo_zip (s := { s with heap := h', toks := tk }) z' fun h'' z'' sb => ?_⟩
    have hT2 : h''.get? s.heap.objs.size = some { cls := .type "tuple", data := .seq #[.str ⟨#[c]⟩ tc, u2] } := (sb.2 _ (Nat.ne_of_gt hzl)).trans hT
    have new : ObjOk X.prog X.w (upd H s.heap.objs.size (.tup [.str ⟨#[c]⟩, y2])) h'' s.heap.objs.size (.tup [.str ⟨#[c]⟩, y2]) :=
      ⟨by show 2 ≤ sizeLine; decide, [.str ⟨#[c]⟩ tc, u2], .cons ⟨_, rfl⟩ (.cons ry2 .nil), ⟨_, hT2, rfl, _, rfl⟩⟩
    have I1 : Inv X pins σ (upd H s.heap.objs.size (.tup [.str ⟨#[c]⟩, y2])) { s with heap := h'', toks := tk } :=
      I.turnedNew (ch := [z, TI, TO, i1, i2]) (fun c o hb q => (sb.2 c (fun q' => hb (by simp [q']))).trans (hk c o (fun q' => hb (by simp [q'])) (fun q' => hb (by simp [q'])) (fun q' => hb (by simp [q'])) (fun q' => hb (by simp [q'])) q)) hf (Nat.le_refl _) new
    refine ⟨.ref s.heap.objs.size, _, I1, rfl, ⟨_, _, y2, rfl, I.hok.fresh (Nat.le_refl _), rfl, hx, fun l hl => by rw [I.tuple_inj hl hqy]; exact hy⟩, ⟨z'', ?_, ⟨.str ⟨#[c]⟩ tc, u2, ?_⟩, ?_, ?_⟩, fun c hcm => ?_⟩
    · exact (sb.2 _ D.TIz).trans (hk _ _ D.TIz D.TITO D.TIi1 D.TIi2 hTI)
    · exact (sb.2 _ D.TOz).trans TO'
    · obtain ⟨o, q1, q2⟩ := h1'
      exact ⟨o, (sb.2 _ D.zi1.symm).trans q1, q2⟩
    · exact h2'.1.at fun o q => (sb.2 _ D.zi2.symm).trans q
    · have hlt : c < s.heap.objs.size := by
        have e' : c = z ∨ c = TI ∨ c = TO ∨ c = i1 ∨ c = i2 := by simpa using hcm
        rcases e' with q | q | q | q | q
        · rw [q]; exact hzl
        · rw [q]; exact Heap.lt_size hTI
        · rw [q]; exact Heap.lt_size hTO
        · rw [q]; obtain ⟨_, e1, _⟩ := h1; exact Heap.lt_size e1
        · rw [q]; obtain ⟨_, e2, _⟩ := h2; exact Heap.lt_size e2
      rw [upd_ne (Nat.ne_of_lt hlt)]
      exact (hf c hcm).1
  done := by
    intro X hP hw hK hc i pins s σ H E I hf st hg
    subst hP hw hK
    obtain ⟨hz, hTI, ⟨x0, y0, hTO⟩, h1, h2⟩ := st
    obtain ⟨ys, hqy, e1, e2, hend⟩ := hg
    obtain ⟨its, rv, p, _⟩ := I.tuple hqy
    have p : s.heap.IsTuple b its.toArray := p
    have D1 := Draws.text (prog := X.prog) (w := X.w) (A := X.A.in1) (I.ok.hd hc) i1 x t
    have D2 := Draws.tuple (prog := X.prog) (w := X.w) (A := X.A.in1) (I.ok.hd hc) i2 b D.i2b.symm its.toArray
    have ln := rv.length
    have ls : (signs x).length = x.cps.size := by simp [signs]
    have lz : its.toArray.size = its.length := List.size_toArray
    rw [ls] at e1 hend
    refine wpAny_pyNext_zipD2_end D.sep D1 D2 hz hTI hTO h1 ⟨h2, p⟩ e1 (by rw [lz]; omega) (by rw [lz]; omega) fun h' tk hk => ⟨rfl, I.turnedL (ch := [z, TI, TO, i1, i2]) (fun c o hb q =>
      hk c o (fun q' => hb (by simp [q'])) (fun q' => hb (by simp [q'])) (fun q' => hb (by simp [q'])) (fun q' => hb (by simp [q'])) q) hf⟩
  self := fun A i s Q E st h => wpAny_pyIter_zip st.1 h
def iZipST (K : PySem.W.Frag) (ta : TA) : TI := fun σ H R => ta σ H fun vs H1 => ∃ z b ys, vs = [.str z, .ref b] ∧ SqT K H1 b ys ∧ R (ItST K z b) H1
theorem pi_zipST {X : Cx} {e e2 : Expr} {ta : TA} {p pos tpos : Pos} {elts : List Expr} {kk : Nat} (hg : Gl X "zip") (hm : X.mg "zip" = none) (ha : PA X [e, e2] ta)
    (hs : starEach [e, e2] X.env = (false, eval e X.env) :: starEach [e2] X.env := by rfl) (hpl : (backTo pos (starEach [e2] X.env)).any (·.1) = false := by rfl) :
    PI X (.Tuple elts kk tpos) (.Call (.Name "zip" p) [e, e2] [] pos) (iZipST X.K ta) := by
  refine ⟨fun pins s σ H R I h => ?_⟩
  refine Call_ (ld_blt I hg hm PyProof.Rows.boot_zip (PyProof.Rows.callWith_type1 (thn (ha.run pos pins s σ H _ I h) fun us s1 ⟨vs, H1, I1, r1, q1⟩ => ?_) hs hpl))
  obtain ⟨z, b, ys, rfl, hq, q⟩ := q1
  obtain ⟨u, v, rfl, ru, rv⟩ := r1.two
  obtain ⟨t, rfl⟩ := ru
  cases rv
  obtain ⟨its, rv, p2, _⟩ := I1.tuple hq
  have p3 : s1.heap.IsTuple b its.toArray := p2
  have fresh5 : ∀ c, c ∈ [s1.heap.objs.size + 4, s1.heap.objs.size + 2, s1.heap.objs.size + 3, s1.heap.objs.size, s1.heap.objs.size + 1] → FpOk X pins H1 c := fun c hcm => by
    have e' : c = s1.heap.objs.size + 4 ∨ c = s1.heap.objs.size + 2 ∨ c = s1.heap.objs.size + 3 ∨ c = s1.heap.objs.size ∨ c = s1.heap.objs.size + 1 := by simpa using hcm
    have hle : s1.heap.objs.size ≤ c := by
      rcases e' with z | z | z | z | z
      · rw [z]; exact Nat.le_add_right _ _
      · rw [z]; exact Nat.le_add_right _ _
      · rw [z]; exact Nat.le_add_right _ _
      · rw [z]; exact Nat.le_refl _
      · rw [z]; exact Nat.le_add_right _ _
    exact I1.fpOk hle (I1.hok.fresh hle)
  refine zip_begins2 (begins_text z t) (begins_tuple b its.toArray) trivial p3 fun h' hz hTI hTO h1 h2 hsz hk => wpAny_pyIter_zip hz ?_
  have I2 : Inv X pins σ H1 { s1 with heap := h' } := I1.kept (t' := s1.toks) hk
  obtain ⟨ob, eb, _⟩ := p3
  have lb : b < s1.heap.objs.size := Heap.lt_size eb
  generalize s1.heap.objs.size = n at *
  have D : Ap5 (n + 4) (n + 2) (n + 3) n (n + 1) b := ⟨Nat.ne_of_lt (by omega), Nat.ne_of_lt (by omega), Nat.ne_of_lt (by omega), Nat.ne_of_gt (by omega), Nat.ne_of_gt (by omega), Nat.ne_of_gt (by omega), Nat.ne_of_gt (by omega), Nat.ne_of_gt (by omega), Nat.ne_of_gt (by omega), Nat.ne_of_lt (by omega), Nat.ne_of_gt (Nat.lt_of_lt_of_le lb (Nat.le_add_right _ _)), Nat.ne_of_gt (Nat.lt_of_lt_of_le lb (Nat.le_add_right _ _)), Nat.ne_of_gt lb, Nat.ne_of_gt (Nat.lt_of_lt_of_le lb (Nat.le_add_right _ _))⟩
  exact ⟨n + 4, [n + 4, n + 2, n + 3, n, n + 1], _, _, H1, rfl, I2, turn_zipST (x := z) (t := t) (b := b) D, ⟨hz, hTI, ⟨_, _, hTO⟩, ⟨_, h1, rfl, rfl⟩, ⟨_, h2, rfl, rfl⟩⟩, fresh5, q⟩
theorem walk_ST {K : PySem.W.Frag} {z : Str} {b : Addr} {ys : List V} (hl : (signs z).length = ys.length) : Walk (ItST K z b) ys.length (fun H => SqT K H b ys) (YPair (fun i => (signs z)[i]?) (fun i => ys[i]?)) := by
  refine ⟨fun i H hi q => ⟨ys, _, _, q, List.getElem?_eq_getElem (by omega), List.getElem?_eq_getElem hi⟩, fun H q => ⟨ys, q, by omega, Nat.le_refl _, .inr rfl⟩, fun i H v H' _ q y => ?_⟩
  obtain ⟨T, x, y, h1, h2, h3, h4, h5⟩ := y
  exact ⟨T, x, y, h1, h2, h3, h4, h5 ys q⟩
def topS (i : Nat) : Stmt := PySem.Challenge.pw_runlore_k14_whole_one_text_for_each_expr.main.body.getD i (.Pass ⟨0, 0, 0, 0⟩)
/-! the forms of trees, and what is inside of one -/
def exL : List (Str × Str) := [("int", "k"), ("atom", "n"), ("name", "n"), ("plus", "ek"), ("tuple", "s"), ("part", "ei"), ("join", "ee"), ("read", "n"), ("reach", "e"), ("call", "ns"), ("let", "nee"), ("if", "tee"), ("each", "nee"), ("pick", "net"), ("fold", "nenee"), ("fail", "n")]
def teL : List (Str × Str) := [("is", "we"), ("sized", "ei"), ("most", "eke"), ("alike", "ee"), ("not", "t"), ("both", "tt"), ("either", "tt")]
def allL : List (Str × Str) := exL ++ teL
/-- what stands in a slot: many trees (s), one tree (e, t), or none -/
def inSlot (k : Nat) (c : Nat) (d : PyData) : List (List Int × PyData) :=
  if c = 115 then (match d with | .tuple es => es.zipIdx.map fun p => ([(k : Int), (p.2 : Int)], p.1) | _ => [])
  else if c = 101 ∨ c = 116 then [([(k : Int)], d)] else []
def inArgs : Nat → List Nat → List PyData → List (List Int × PyData)
  | k, c :: cs, d :: ds => inSlot k c d ++ inArgs (k + 1) cs ds
  | _, [], _ => []
  | _, _ :: _, [] => []
/-- arguments as the slots want them -/
def ShA : List Nat → List PyData → Prop
  | c :: cs, d :: ds => (c = 115 → ∃ es, d = .tuple es) ∧ ShA cs ds
  | [], [] => True
  | [], _ :: _ => False
  | _ :: _, [] => False
/-- a tree of n trees, nested less than f deep -/
def Wf : Nat → Nat → PyData → Prop
  | 0, _, _ => False
  | f + 1, n, d => ∃ (h sl : Str) (args : List PyData) (ns : List Nat), d = .tuple (.str h :: args) ∧ (h, sl) ∈ allL ∧ ShA sl.cps.toList args ∧
      Paired (fun (m : Nat) (p : List Int × PyData) => Wf f m p.2) ns (inArgs 1 sl.cps.toList args) ∧ n = 1 + ns.sum
theorem ShA.len : ∀ {cs : List Nat} {ds : List PyData}, ShA cs ds → cs.length = ds.length
  | [], [], _ => rfl
  | _ :: _, _ :: _, h => congrArg (· + 1) (ShA.len h.2)
  | [], _ :: _, h => h.elim
  | _ :: _, [], h => h.elim
theorem paired_mono {α β : Type} {F G : α → β → Prop} (h : ∀ a b, F a b → G a b) : ∀ {xs : List α} {ys : List β}, Paired F xs ys → Paired G xs ys
  | _, _, .nil => .nil
  | _, _, .cons a t => .cons (h _ _ a) (paired_mono h t)
theorem paired_app {α β : Type} {F : α → β → Prop} : ∀ {xs : List α} {ys : List β} {xs2 : List α} {ys2 : List β}, Paired F xs ys → Paired F xs2 ys2 → Paired F (xs ++ xs2) (ys ++ ys2)
  | _, _, _, _, .nil, g => g
  | _, _, _, _, .cons a t, g => .cons a (paired_app t g)
theorem Wf.up : ∀ {f n : Nat} {d : PyData}, Wf f n d → Wf (f + 1) n d
  | 0, _, _, h => h.elim
  | f + 1, n, d, h => by
    obtain ⟨h0, sl, args, ns, e, m, s, p, q⟩ := h
    exact ⟨h0, sl, args, ns, e, m, s, paired_mono (fun a b z => Wf.up z) p, q⟩
theorem Wf.mono {f g n : Nat} {d : PyData} (h : Wf f n d) (hg : f ≤ g) : Wf g n d := by
  induction hg with
  | refl => exact h
  | step _ ih => exact ih.up
theorem inArgs_app : ∀ (k : Nat) (cs cs2 : List Nat) (ds ds2 : List PyData), cs.length = ds.length → inArgs k (cs ++ cs2) (ds ++ ds2) = inArgs k cs ds ++ inArgs (k + cs.length) cs2 ds2
  | k, [], cs2, [], ds2, _ => by simp [inArgs]
  | k, c :: cs, cs2, d :: ds, ds2, h => by
    have h2 : cs.length = ds.length := by simpa using h
    show inSlot k c d ++ inArgs (k + 1) (cs ++ cs2) (ds ++ ds2) = (inSlot k c d ++ inArgs (k + 1) cs ds) ++ _
    rw [inArgs_app (k + 1) cs cs2 ds ds2 h2, List.append_assoc, List.length_cons, show k + 1 + cs.length = k + (cs.length + 1) by omega]
  | k, [], cs2, _ :: _, ds2, h => by cases h
  | k, _ :: _, cs2, [], ds2, h => by cases h
theorem inArgs_take {k i : Nat} {cs : List Nat} {ds : List PyData} {c : Nat} {d : PyData} (h : cs.length = ds.length) (hc : cs[i]? = some c) (hd : ds[i]? = some d) :
    inArgs k (cs.take (i + 1)) (ds.take (i + 1)) = inArgs k (cs.take i) (ds.take i) ++ inSlot (k + i) c d := by
  have hi := (List.getElem?_eq_some_iff.mp hc).1
  rw [get_take hc, get_take hd, inArgs_app k _ _ _ _ (by rw [List.length_take, List.length_take, h])]
  have e : (cs.take i).length = i := by rw [List.length_take]; omega
  rw [e]
  simp [inArgs]
theorem ShA.at {cs : List Nat} {ds : List PyData} {i c : Nat} {d : PyData} (h : ShA cs ds) (hc : cs[i]? = some c) (hd : ds[i]? = some d) : c = 115 → ∃ es, d = .tuple es := by
  induction cs generalizing ds i with
  | nil => simp at hc
  | cons c0 cs ih =>
    cases ds with
    | nil => simp at hd
    | cons d0 ds =>
      cases i with
      | zero =>
        simp at hc hd
        subst hc hd
        exact h.1
      | succ i => exact ih (i := i) h.2 (by simpa using hc) (by simpa using hd)
/-- the trees inside, as pairs of path and tree -/
def pairD (p : List Int × PyData) : PyData := .tuple [.tuple (p.1.map PyData.int), p.2]
/-- a place inside of data -/
def atD : PyData → List Int → Option PyData
  | d, [] => some d
  | .tuple ds, i :: r => if 0 ≤ i then (match ds[i.toNat]? with | some e => atD e r | none => none) else none
  | _, _ :: _ => none
theorem atD_app : ∀ (p q : List Int) (d e : PyData), atD d p = some e → atD d (p ++ q) = atD e q
  | [], q, d, e, h => by
    have h : d = e := by simpa [atD] using h
    rw [h]
    rfl
  | i :: r, q, d, e, h => by
    cases d with
    | tuple ds =>
      simp only [atD, List.cons_append] at h ⊢
      split at h
      · rename_i h0
        rw [if_pos h0]
        cases hd : ds[i.toNat]? with
        | none => rw [hd] at h; cases h
        | some x =>
          rw [hd] at h
          exact atD_app r q x e h
      · cases h
    | none => simp [atD] at h
    | bool _ => simp [atD] at h
    | int _ => simp [atD] at h
    | str _ => simp [atD] at h
    | list _ => simp [atD] at h
    | dict _ => simp [atD] at h
theorem inSlot_at {k c : Nat} {d : PyData} {p : List Int × PyData} (h : p ∈ inSlot k c d) (ds : List PyData) (hk : ds[k]? = some d) : atD (.tuple ds) p.1 = some p.2 := by
  unfold inSlot at h
  split at h
  · cases d with
    | tuple es =>
      obtain ⟨q, hq, rfl⟩ := List.mem_map.mp h
      obtain ⟨j, hj⟩ := List.mem_iff_getElem?.mp hq
      rw [List.getElem?_zipIdx] at hj
      obtain ⟨x, hx, e⟩ := Option.map_eq_some_iff.mp hj
      subst e
      simp only [atD]
      rw [if_pos (by omega)]
      simp only [Int.toNat_natCast, hk]
      have e2 : ((0 + j : Nat) : Int).toNat = j := by omega
      simp only [atD]
      rw [if_pos (by omega), e2, hx]
    | none => simp at h
    | bool _ => simp at h
    | int _ => simp at h
    | str _ => simp at h
    | list _ => simp at h
    | dict _ => simp at h
  · split at h
    · rw [List.mem_singleton] at h
      subst h
      simp only [atD]
      rw [if_pos (by omega)]
      simp only [Int.toNat_natCast, hk]
    · cases h
theorem inArgs_at : ∀ (k : Nat) (cs : List Nat) (ds all : List PyData) (p : List Int × PyData), p ∈ inArgs k cs ds → (∀ i d, ds[i]? = some d → all[k + i]? = some d) → atD (.tuple all) p.1 = some p.2
  | k, c :: cs, d :: ds, all, p, h, g => by
    rcases List.mem_append.mp (show p ∈ inSlot k c d ++ inArgs (k + 1) cs ds from h) with h | h
    · exact inSlot_at h all (g 0 d rfl)
    · refine inArgs_at (k + 1) cs ds all p h fun i e he => ?_
      have q := g (i + 1) e (by simpa using he)
      rw [show k + 1 + i = k + (i + 1) by omega]
      exact q
  | k, [], ds, all, p, h, g => by simp [inArgs] at h
  | k, _ :: _, [], all, p, h, g => by simp [inArgs] at h
/-- what is inside of a tree -/
def kids8 : PyData → List (List Int × PyData)
  | .tuple (.str h :: args) => inArgs 1 (((allL.find? fun p => decide (p.1 = h)).map Prod.snd).getD "").cps.toList args
  | _ => []
theorem allL_find : ∀ p ∈ allL, ((allL.find? fun q => decide (q.1 = p.1)).map Prod.snd).getD "" = p.2 := by decide +kernel
theorem Wf.open {f n : Nat} {d : PyData} (w : Wf f n d) : ∃ (h sl : Str) (args : List PyData) (ns : List Nat) (f' : Nat), f = f' + 1 ∧ d = .tuple (.str h :: args) ∧ (h, sl) ∈ allL ∧ ShA sl.cps.toList args ∧ kids8 d = inArgs 1 sl.cps.toList args ∧
    Paired (fun (m : Nat) (p : List Int × PyData) => Wf f' m p.2) ns (kids8 d) ∧ n = 1 + ns.sum := by
  cases f with
  | zero => exact w.elim
  | succ f =>
    obtain ⟨h, sl, args, ns, rfl, m, s, p, q⟩ := w
    have e : kids8 (.tuple (.str h :: args)) = inArgs 1 sl.cps.toList args := by
      have z := allL_find _ m
      simp only [kids8]
      rw [z]
    exact ⟨h, sl, args, ns, f, rfl, rfl, m, s, e, by rw [e]; exact p, q⟩
theorem kids_at {f n : Nat} {d : PyData} (w : Wf f n d) : ∀ p ∈ kids8 d, atD d p.1 = some p.2 := by
  obtain ⟨h, sl, args, ns, f', _, rfl, m, s, e, p, q⟩ := w.open
  rw [e]
  intro p hp
  refine inArgs_at 1 _ args _ p hp fun i x hx => ?_
  rw [show 1 + i = i + 1 by omega]
  simpa using hx
mutual
/-- no list in it -/
def nl : PyData → Bool
  | .list _ => false
  | .dict _ => false
  | .tuple ds => nls ds
  | .none => true
  | .bool _ => true
  | .int _ => true
  | .str _ => true
def nls : List PyData → Bool
  | [] => true
  | d :: ds => nl d && nls ds
end
/-- none of these is a tuple -/
def NT (l : List Addr) (H : Hp) : Prop := ∀ b ∈ l, ∀ xs, ¬ Rd H b (.tup xs)
mutual
theorem Dp.less {K : PySem.W.Frag} {H : Hp} {l : List Addr} (hl : NT l H) : ∀ (d : PyData) (v : V), nl d = true → Dp K H v d → Dp K (cut l H) v d
  | .none, _, _, h => by cases h; exact .non
  | .bool b, _, _, h => by cases h; exact .bl b
  | .int i, _, _, h => by cases h; exact .int i
  | .str x, _, _, h => by cases h; exact .str x
  | .list ds, _, n, _ => by simp [nl] at n
  | .dict _, _, n, _ => by simp [nl] at n
  | .tuple ds, _, n, h => by
    cases h with
    | @tup a xs _ h1 h2 =>
      refine .tup ?_ (Dp.lesss hl ds _ (by simpa only [nl] using n) h2)
      rcases h1 with (h1 | ⟨o, h1⟩) | h1
      · refine .inl (.inl ?_)
        rw [cut_out fun z => hl _ z _ (.inl h1)]
        exact h1
      · refine .inl (.inr ⟨o, ?_⟩)
        rw [cut_out fun z => hl _ z _ (.inr ⟨o, h1⟩)]
        exact h1
      · exact .inr h1
theorem Dp.lesss {K : PySem.W.Frag} {H : Hp} {l : List Addr} (hl : NT l H) : ∀ (ds : List PyData) (vs : List V), nls ds = true → DpAll K H vs ds → DpAll K (cut l H) vs ds
  | [], _, _, h => by cases h; exact .nil
  | d :: ds, _, n, h => by
    simp only [nls, Bool.and_eq_true] at n
    cases h with
    | cons h1 h2 => exact .cons (Dp.less hl d _ n.1 h1) (Dp.lesss hl ds _ n.2 h2)
end
theorem nls_mem : ∀ {ds : List PyData} {d : PyData}, nls ds = true → d ∈ ds → nl d = true
  | _ :: _, _, h, m => by
    simp only [nls, Bool.and_eq_true] at h
    rcases List.mem_cons.mp m with e | e
    · rw [e]
      exact h.1
    · exact nls_mem h.2 e
theorem nls_app : ∀ ds es : List PyData, nls (ds ++ es) = (nls ds && nls es)
  | [], es => by simp [nls]
  | d :: ds, es => by simp only [List.cons_append, nls, nls_app ds es, Bool.and_assoc]
theorem Dp.off {K : PySem.W.Frag} {H H' : Hp} {l : List Addr} {d : PyData} {v : V} (h : Dp K H v d) (hl : NT l H) (n : nl d = true) (o : Off l H H') : Dp K H' v d :=
  Dp.up (Same.trans o (cut_same l H')) _ _ (Dp.less hl d v n h)
theorem DpAll.off {K : PySem.W.Frag} {H H' : Hp} {l : List Addr} {ds : List PyData} {vs : List V} (h : DpAll K H vs ds) (hl : NT l H) (n : nls ds = true) (o : Off l H H') : DpAll K H' vs ds :=
  Dp.ups (Same.trans o (cut_same l H')) _ _ (Dp.lesss hl ds vs n h)
theorem nt_lst {H : Hp} {b : Addr} {ys : List V} (h : H b = some (.lst ys)) : ∀ xs, ¬ Rd H b (.tup xs) := fun xs z => by
  rcases z with z | ⟨o, z⟩
  · rw [h] at z
    cases z
  · rw [h] at z
    cases z
theorem nt_dk {H : Hp} {b : Addr} {ys : List (Key × V)} (h : H b = some (.dK ys)) : ∀ xs, ¬ Rd H b (.tup xs) := fun xs z => by
  rcases z with z | ⟨o, z⟩
  · rw [h] at z
    cases z
  · rw [h] at z
    cases z
theorem NT.cons {H : Hp} {b : Addr} {l : List Addr} (h : ∀ xs, ¬ Rd H b (.tup xs)) (n : NT l H) : NT (b :: l) H := fun c hc => by
  rcases List.mem_cons.mp hc with e | e
  · rw [e]
    exact h
  · exact n c e
theorem NT.nil {H : Hp} : NT [] H := fun _ z => nomatch z
theorem Box.nt {H : Hp} {p g : Addr} (b : Box H p g) : NT [p, g] H := by
  obtain ⟨n, s, t, gs, h1, h2, _⟩ := b.ex
  exact .cons (nt_dk h1) (.cons (nt_lst h2) .nil)
theorem inSlot_sum (k c : Nat) (d : PyData) : ((inSlot k c d).map fun p => nod p.2).sum ≤ nod d := by
  unfold inSlot
  split
  · cases d with
    | tuple es =>
      have key : ∀ (es : List PyData) (j : Nat), ((es.zipIdx j).map fun p : PyData × Nat => nod p.1).sum = nods es := fun es => by
        induction es with
        | nil => intro j; simp [nods]
        | cons e es ih =>
          intro j
          simp only [List.zipIdx_cons, List.map_cons, List.sum_cons, nods, ih]
      simp only [List.map_map, nod]
      have := key es 0
      have e : ((fun p : List Int × PyData => nod p.2) ∘ fun p : PyData × Nat => ([(k : Int), (p.2 : Int)], p.1)) = fun p : PyData × Nat => nod p.1 := rfl
      rw [e]
      omega
    | _ => simp
  · split
    · simp
    · simp
theorem inArgs_sum : ∀ (k : Nat) (cs : List Nat) (ds : List PyData), ((inArgs k cs ds).map fun p => nod p.2).sum ≤ nods ds
  | k, c :: cs, d :: ds => by
    have h1 := inSlot_sum k c d
    have h2 := inArgs_sum (k + 1) cs ds
    simp only [inArgs, List.map_append, List.sum_append, nods]
    omega
  | _, [], _ => by simp [inArgs]
  | _, _ :: _, [] => by simp [inArgs]
theorem Wf.le : ∀ {f n : Nat} {d : PyData}, Wf f n d → n ≤ nod d
  | 0, _, _, h => h.elim
  | f + 1, n, d, h => by
    obtain ⟨h0, sl, args, ns, rfl, m, s, p, rfl⟩ := h
    have q := inArgs_sum 1 sl.cps.toList args
    have r : ns.sum ≤ ((inArgs 1 sl.cps.toList args).map fun p => nod p.2).sum := by
      revert p
      generalize inArgs 1 sl.cps.toList args = ks
      intro p
      clear q
      induction p with
      | nil => exact Nat.le_refl _
      | cons a t ih =>
        have := Wf.le a
        simp only [List.map_cons, List.sum_cons]
        omega
    simp only [nod, nods]
    omega
theorem few3 {n : Nat} (h : n ≤ 16000000) : n ≤ sizeLine := Nat.le_trans h (by decide)
/-! expressions, their words, and a reader of words -/
def leafHeads : List Str := ["int", "name", "atom"]
def tbS (s : Bool) : List (Str × Str) := if s = true then teL else exL
/-- what may stand in a slot that has no tree -/
def LeafOk (c : Nat) (d : PyData) : Prop :=
  (c = 107 ∧ ∃ i : Int, d = .int i ∧ i.natAbs < 10 ^ 18) ∨ (c = 105 ∧ ∃ i : Int, d = .int i ∧ 0 ≤ i ∧ i.natAbs < 10 ^ 18) ∨ (c = 110 ∧ ∃ x : Str, d = .str x ∧ isNm x = true) ∨ (c = 119 ∧ (d = .str "integer" ∨ d = .str "atom" ∨ d = .str "tuple"))
def ArgOk (W : Bool → PyData → Prop) : List Nat → List PyData → Prop
  | c :: cs, d :: ds => (if c = 115 then ∃ es, d = .tuple es ∧ ∀ e ∈ es, W false e else if c = 101 then W false d else if c = 116 then W true d else LeafOk c d) ∧ ArgOk W cs ds
  | [], [] => True
  | [], _ :: _ => False
  | _ :: _, [] => False
/-- a tree without brackets -/
def LeafT (d : PyData) : Prop := (∃ i : Int, d = .tuple [.str "int", .int i] ∧ i.natAbs < 10 ^ 18) ∨ ∃ x : Str, (d = .tuple [.str "name", .str x] ∨ d = .tuple [.str "atom", .str x]) ∧ isNm x = true
/-- a tree (true: a test) with at most f brackets within one another -/
def Wx : Nat → Bool → PyData → Prop
  | 0, s, d => s = false ∧ LeafT d
  | f + 1, s, d => (s = false ∧ LeafT d) ∨ ∃ (h sl : Str) (args : List PyData), d = .tuple (.str h :: args) ∧ (h, sl) ∈ tbS s ∧ h ∉ leafHeads ∧ ArgOk (Wx f) sl.cps.toList args
theorem ArgOk.mono {W W2 : Bool → PyData → Prop} (g : ∀ s d, W s d → W2 s d) : ∀ {cs : List Nat} {ds : List PyData}, ArgOk W cs ds → ArgOk W2 cs ds
  | [], [], _ => trivial
  | c :: cs, d :: ds, h => by
    refine ⟨?_, ArgOk.mono g h.2⟩
    have h1 := h.1
    split at h1
    · rename_i z
      rw [if_pos z]
      obtain ⟨es, e, q⟩ := h1
      exact ⟨es, e, fun x hx => g _ _ (q x hx)⟩
    · rename_i z
      rw [if_neg z]
      split at h1
      · rename_i y
        rw [if_pos y]
        exact g _ _ h1
      · rename_i y
        rw [if_neg y]
        split at h1
        · rename_i u
          rw [if_pos u]
          exact g _ _ h1
        · rename_i u
          rw [if_neg u]
          exact h1
  | [], _ :: _, h => h.elim
  | _ :: _, [], h => h.elim
theorem Wx.up : ∀ {f : Nat} {s : Bool} {d : PyData}, Wx f s d → Wx (f + 1) s d
  | 0, _, _, h => .inl h
  | f + 1, s, d, h => by
    rcases h with h | ⟨h0, sl, args, e, m, n, a⟩
    · exact .inl h
    · exact .inr ⟨h0, sl, args, e, m, n, a.mono fun s d z => Wx.up z⟩
theorem Wx.mono {f g : Nat} {s : Bool} {d : PyData} (h : Wx f s d) (hg : f ≤ g) : Wx g s d := by
  induction hg with
  | refl => exact h
  | step _ ih => exact ih.up
theorem ArgOk.len {W : Bool → PyData → Prop} : ∀ {cs : List Nat} {ds : List PyData}, ArgOk W cs ds → cs.length = ds.length
  | [], [], _ => rfl
  | _ :: _, _ :: _, h => congrArg (· + 1) (ArgOk.len h.2)
  | [], _ :: _, h => h.elim
  | _ :: _, [], h => h.elim
def txt : PyData → Str
  | .int i => Str.ofString (toString i)
  | .str x => x
  | _ => ""
def kidsT : PyData → List PyData
  | .tuple es => es
  | _ => []
def argWords (wd : PyData → List Str) : List Nat → List PyData → List Str
  | c :: cs, d :: ds => (if c = 115 then (kidsT d).flatMap wd else if c = 101 ∨ c = 116 then wd d else [txt d]) ++ argWords wd cs ds
  | [], _ => []
  | _ :: _, [] => []
def leafWords : PyData → List Str
  | .tuple [.str h, a] => [if h = "atom" then "'" ++ txt a else txt a]
  | _ => []
def isLeafB : PyData → Bool
  | .tuple (.str h :: _) => decide (h ∈ leafHeads)
  | _ => false
def slotsOf (h : Str) : List Nat := (((allL.find? fun p => decide (p.1 = h)).map Prod.snd).getD "").cps.toList
def nodeWords (wd : PyData → List Str) : PyData → List Str
  | .tuple (.str h :: args) => [("(" : Str), h] ++ argWords wd (slotsOf h) args ++ [(")" : Str)]
  | _ => []
/-- a tree's words; f brackets within one another at most -/
def wordsD : Nat → PyData → List Str
  | 0, d => leafWords d
  | f + 1, d => if isLeafB d = true then leafWords d else nodeWords (wordsD f) d
theorem tbS_all {s : Bool} : ∀ p ∈ tbS s, p ∈ allL := fun p h => by
  unfold tbS at h
  split at h
  · exact List.mem_append_right _ h
  · exact List.mem_append_left _ h
theorem slots_all : ∀ p ∈ allL, slotsOf p.1 = p.2.cps.toList := by decide +kernel
theorem leaf_is {d : PyData} (h : LeafT d) : isLeafB d = true := by
  rcases h with ⟨i, rfl, _⟩ | ⟨x, h | h, _⟩
  · show decide (("int" : Str) ∈ leafHeads) = true
    decide +kernel
  · rw [h]
    show decide (("name" : Str) ∈ leafHeads) = true
    decide +kernel
  · rw [h]
    show decide (("atom" : Str) ∈ leafHeads) = true
    decide +kernel
theorem words_leaf {f : Nat} {d : PyData} (h : LeafT d) : wordsD f d = leafWords d := by
  cases f with
  | zero => rfl
  | succ f =>
    show (if isLeafB d = true then leafWords d else nodeWords (wordsD f) d) = _
    rw [if_pos (leaf_is h)]
theorem words_node {f : Nat} {h sl : Str} {args : List PyData} (m : (h, sl) ∈ allL) (n : h ∉ leafHeads) : wordsD (f + 1) (.tuple (.str h :: args)) = [("(" : Str), h] ++ argWords (wordsD f) sl.cps.toList args ++ [(")" : Str)] := by
  show (if decide (h ∈ leafHeads) = true then leafWords (.tuple (.str h :: args)) else nodeWords (wordsD f) (.tuple (.str h :: args))) = _
  rw [if_neg (fun z => n (of_decide_eq_true z))]
  show [("(" : Str), h] ++ argWords (wordsD f) (slotsOf h) args ++ [(")" : Str)] = _
  rw [slots_all _ m]
theorem argWords_congr {W : Bool → PyData → Prop} {w1 w2 : PyData → List Str} (g : ∀ s d, W s d → w1 d = w2 d) : ∀ {cs : List Nat} {ds : List PyData}, ArgOk W cs ds → argWords w1 cs ds = argWords w2 cs ds
  | [], [], _ => rfl
  | c :: cs, d :: ds, h => by
    have ih := argWords_congr g h.2
    have h1 := h.1
    simp only [argWords, ih]
    congr 1
    split at h1
    · rename_i z
      rw [if_pos z, if_pos z]
      obtain ⟨es, e, q⟩ := h1
      rw [e]
      simp only [kidsT]
      have key : ∀ es : List PyData, (∀ e ∈ es, W false e) → es.flatMap w1 = es.flatMap w2 := fun es => by
        induction es with
        | nil => intro _; rfl
        | cons e es ih =>
          intro h
          rw [List.flatMap_cons, List.flatMap_cons, g _ _ (h e List.mem_cons_self), ih fun x hx => h x (List.mem_cons_of_mem _ hx)]
      exact key es q
    · rename_i z
      rw [if_neg z, if_neg z]
      split at h1
      · rename_i y
        rw [if_pos (.inl y), if_pos (.inl y)]
        exact g _ _ h1
      · rename_i y
        split at h1
        · rename_i u
          rw [if_pos (.inr u), if_pos (.inr u)]
          exact g _ _ h1
        · rename_i u
          rw [if_neg (fun z => z.elim y u), if_neg (fun z => z.elim y u)]
  | [], _ :: _, h => h.elim
  | _ :: _, [], h => h.elim
theorem words_up : ∀ {f : Nat} {s : Bool} {d : PyData}, Wx f s d → wordsD (f + 1) d = wordsD f d
  | 0, _, _, h => by rw [words_leaf h.2, words_leaf h.2]
  | f + 1, s, d, h => by
    rcases h with h | ⟨h0, sl, args, e, m, n, a⟩
    · rw [words_leaf h.2, words_leaf h.2]
    · subst e
      rw [words_node (tbS_all _ m) n, words_node (tbS_all _ m) n, argWords_congr (fun s d z => words_up z) a]
theorem words_mono {f g : Nat} {s : Bool} {d : PyData} (h : Wx f s d) (hg : f ≤ g) : wordsD g d = wordsD f d := by
  induction hg with
  | refl => rfl
  | step hk ih => rw [words_up (h.mono hk), ih]
/-! the reader -/
structure Br where
  wanted : Bool
  head : Option (Str × Str)
  found : List PyData
structure PSt where
  brs : List Br
  tree : Option PyData
def addB (b : Br) (d : PyData) : Br := ⟨b.wanted, b.head, b.found ++ [d]⟩
def keepP (bs : List Br) (d : PyData) : PSt := match bs.getLast? with
  | none => ⟨[], some d⟩
  | some b => ⟨bs.dropLast ++ [addB b d], none⟩
theorem keepP_nil (d : PyData) : keepP [] d = ⟨[], some d⟩ := rfl
theorem keepP_snoc (bs : List Br) (b : Br) (d : PyData) : keepP (bs ++ [b]) d = ⟨bs ++ [addB b d], none⟩ := by
  unfold keepP
  rw [List.getLast?_append, List.dropLast_concat]
  rfl
def wantB (b : Br) : Option Nat := match b.head with
  | none => none
  | some (_, sl) => if sl.cps.toList.getLast? = some 115 ∧ sl.cps.toList.length - 1 ≤ b.found.length then some 101 else sl.cps.toList[b.found.length]?
def wants (bs : List Br) : Option Nat := match bs.getLast? with
  | none => some 101
  | some b => wantB b
theorem wants_snoc (bs : List Br) (b : Br) : wants (bs ++ [b]) = wantB b := by
  unfold wants
  rw [List.getLast?_append]
  rfl
def packed (sl : Str) (found : List PyData) : List PyData := if sl.cps.toList.getLast? = some 115 then found.take (sl.cps.toList.length - 1) ++ [.tuple (found.drop (sl.cps.toList.length - 1))] else found
def DoneP (sl : Str) (found : List PyData) : Prop := if sl.cps.toList.getLast? = some 115 then sl.cps.toList.length - 1 ≤ found.length else found.length = sl.cps.toList.length
/-- a word that stands for something in a slot -/
def LeafW (c : Nat) (w : Str) (d : PyData) : Prop :=
  if c = 101 then LeafT d ∧ [w] = leafWords d else LeafOk c d ∧ w = txt d
inductive StepP : List Br → Str → PSt → Prop
  | opens {bs : List Br} {c : Nat} : wants bs = some c → c = 101 ∨ c = 116 → bs.length < 40 → StepP bs "(" ⟨bs ++ [⟨decide (c = 116), none, []⟩], none⟩
  | head {bs : List Br} {s : Bool} {h sl : Str} : (h, sl) ∈ tbS s → h ∉ leafHeads → (116 ∈ sl.cps.toList → bs.length + 1 < 40) → StepP (bs ++ [⟨s, none, []⟩]) h ⟨bs ++ [⟨s, some (h, sl), []⟩], none⟩
  | leaf {bs : List Br} {c : Nat} {w : Str} {d : PyData} : wants bs = some c → LeafW c w d → StepP bs w (keepP bs d)
  | close {bs : List Br} {s : Bool} {h sl : Str} {found : List PyData} : (h, sl) ∈ tbS s → DoneP sl found → StepP (bs ++ [⟨s, some (h, sl), found⟩]) ")" (keepP bs (.tuple (.str h :: packed sl found)))
inductive GoP : List Br → List Str → List Br → Prop
  | nil (bs : List Br) : GoP bs [] bs
  | cons {bs bs1 bs2 : List Br} {w : Str} {ws : List Str} : StepP bs w ⟨bs1, none⟩ → GoP bs1 ws bs2 → GoP bs (w :: ws) bs2
theorem GoP.app {b1 b2 b3 : List Br} {w1 w2 : List Str} (g : GoP b1 w1 b2) (h : GoP b2 w2 b3) : GoP b1 (w1 ++ w2) b3 := by
  induction g with
  | nil => exact h
  | cons s _ ih => exact .cons s (ih h)
def StepsP (bs : List Br) (ws : List Str) (S : PSt) : Prop := ∃ ws0 w b1, ws = ws0 ++ [w] ∧ GoP bs ws0 b1 ∧ StepP b1 w S
theorem StepsP.go {bs b2 : List Br} {ws : List Str} (h : StepsP bs ws ⟨b2, none⟩) : GoP bs ws b2 := by
  obtain ⟨ws0, w, b1, rfl, g, s⟩ := h
  exact g.app (.cons s (.nil _))
def flatA : List Nat → List PyData → List PyData
  | c :: cs, d :: ds => (if c = 115 then kidsT d else [d]) ++ flatA cs ds
  | [], _ => []
  | _ :: _, [] => []
/-- many trees, one behind another -/
theorem go_many {f : Nat} {bs : List Br} {b : Br} (ih : ∀ (bs : List Br) (s : Bool) (d : PyData), Wx f s d → wants bs = some (if s = true then 116 else 101) → bs.length + f ≤ 40 → StepsP bs (wordsD f d) (keepP bs d)) (hl : (bs ++ [b]).length + f ≤ 40) :
    ∀ (es found : List PyData), (∀ e ∈ es, Wx f false e) → (∀ k, k ≤ es.length → wantB ⟨b.wanted, b.head, found ++ es.take k⟩ = some 101) → GoP (bs ++ [⟨b.wanted, b.head, found⟩]) (es.flatMap (wordsD f)) (bs ++ [⟨b.wanted, b.head, found ++ es⟩])
  | [], found, _, _ => by
    rw [List.append_nil]
    exact .nil _
  | e :: es, found, h, hw => by
    have h0 := hw 0 (Nat.zero_le _)
    rw [List.take_zero, List.append_nil] at h0
    have s1 := ih (bs ++ [⟨b.wanted, b.head, found⟩]) false e (h e List.mem_cons_self) (by rw [wants_snoc]; exact h0) (by simpa using hl)
    rw [keepP_snoc] at s1
    have s2 := go_many ih hl es (found ++ [e]) (fun x hx => h x (List.mem_cons_of_mem _ hx)) fun k hk => by
      have z := hw (k + 1) (by simpa using hk)
      rw [List.take_succ_cons] at z
      rw [List.append_assoc]
      exact z
    rw [List.flatMap_cons]
    have s3 := s1.go.app s2
    rw [List.append_assoc] at s3
    exact s3
theorem only_last : ∀ p ∈ allL, 115 ∉ p.2.cps.toList.dropLast := by decide +kernel
theorem flatA_app : ∀ {c1 c2 : List Nat} {a1 a2 : List PyData}, c1.length = a1.length → flatA (c1 ++ c2) (a1 ++ a2) = flatA c1 a1 ++ flatA c2 a2
  | [], c2, [], a2, _ => by simp [flatA]
  | c :: cs, c2, d :: ds, a2, h => by
    have ih := flatA_app (c2 := c2) (a2 := a2) (show cs.length = ds.length by simpa using h)
    simp only [List.cons_append, flatA, ih, List.append_assoc]
  | [], _, _ :: _, _, h => by cases h
  | _ :: _, _, [], _, h => by cases h
theorem flatA_no : ∀ {c1 : List Nat} {a1 : List PyData}, c1.length = a1.length → 115 ∉ c1 → flatA c1 a1 = a1
  | [], [], _, _ => rfl
  | c :: cs, d :: ds, h, n => by
    have n1 : ¬ c = 115 := fun z => n (by rw [z]; exact List.mem_cons_self)
    have ih := flatA_no (show cs.length = ds.length by simpa using h) (fun z => n (List.mem_cons_of_mem _ z))
    simp only [flatA, if_neg n1, ih]
    rfl
  | [], _ :: _, h, _ => by cases h
  | _ :: _, [], h, _ => by cases h
theorem last_115 {c1 cs : List Nat} (h : 115 ∉ (c1 ++ 115 :: cs).dropLast) : cs = [] := by
  cases cs with
  | nil => rfl
  | cons x xs =>
    refine absurd ?_ h
    rw [List.dropLast_append_of_ne_nil (by simp)]
    exact List.mem_append_right _ (by simp)
theorem ArgOk.app {W : Bool → PyData → Prop} : ∀ {c1 c2 : List Nat} {a : List PyData}, ArgOk W (c1 ++ c2) a → ∃ a1 a2, a = a1 ++ a2 ∧ c1.length = a1.length ∧ ArgOk W c2 a2
  | [], c2, a, h => ⟨[], a, rfl, rfl, h⟩
  | c :: c1, c2, d :: a, h => by
    obtain ⟨a1, a2, e, l, q⟩ := ArgOk.app (c1 := c1) h.2
    exact ⟨d :: a1, a2, by rw [e]; rfl, by simp [l], q⟩
  | _ :: _, _, [], h => h.elim
theorem packed_args {W : Bool → PyData → Prop} {sl : Str} {args : List PyData} (hn : 115 ∉ sl.cps.toList.dropLast) (a : ArgOk W sl.cps.toList args) : DoneP sl (flatA sl.cps.toList args) ∧ packed sl (flatA sl.cps.toList args) = args := by
  unfold DoneP packed
  generalize sl.cps.toList = cs at hn a
  by_cases h : cs.getLast? = some 115
  · obtain ⟨c1, rfl⟩ : ∃ c1, cs = c1 ++ [115] := by
      have ne : cs ≠ [] := fun z => by
        rw [z] at h
        cases h
      refine ⟨cs.dropLast, ?_⟩
      have e := List.dropLast_concat_getLast ne
      rw [List.getLast?_eq_some_getLast ne] at h
      rw [Option.some.inj h] at e
      exact e.symm
    rw [List.dropLast_concat] at hn
    obtain ⟨a1, a2, rfl, l, q⟩ := a.app
    cases a2 with
    | nil => exact q.elim
    | cons d ds =>
      cases ds with
      | cons x xs => exact q.2.elim
      | nil =>
        have q1 := q.1
        rw [if_pos rfl] at q1
        obtain ⟨es, rfl, _⟩ := q1
        rw [if_pos h, if_pos h, flatA_app l, flatA_no l hn]
        have e1 : flatA [115] [PyData.tuple es] = es := by simp [flatA, kidsT]
        have e2 : (c1 ++ [115]).length - 1 = a1.length := by simp [l]
        rw [e1, e2]
        refine ⟨by simp, ?_⟩
        rw [List.take_left, List.drop_left]
  · have n2 : 115 ∉ cs := fun z => by
      obtain ⟨x, y, rfl⟩ := List.append_of_mem z
      have := last_115 hn
      subst this
      exact h (by simp)
    rw [if_neg h, if_neg h, flatA_no a.len n2]
    exact ⟨a.len.symm, rfl⟩
theorem go_args {f : Nat} {bs : List Br} {s : Bool} {h sl : Str} (ih : ∀ (bs : List Br) (s : Bool) (d : PyData), Wx f s d → wants bs = some (if s = true then 116 else 101) → bs.length + f ≤ 40 → StepsP bs (wordsD f d) (keepP bs d)) (hl : bs.length + 1 + f ≤ 40)
    (hn : 115 ∉ sl.cps.toList.dropLast) : ∀ (c1 c2 : List Nat) (a1 a2 : List PyData), sl.cps.toList = c1 ++ c2 → a1.length = c1.length → ArgOk (Wx f) c2 a2 →
    GoP (bs ++ [⟨s, some (h, sl), a1⟩]) (argWords (wordsD f) c2 a2) (bs ++ [⟨s, some (h, sl), a1 ++ flatA c2 a2⟩])
  | c1, [], a1, [], _, _, _ => by
    simp only [flatA, List.append_nil, argWords]
    exact .nil _
  | c1, c :: cs, a1, d :: ds, e, l, a => by
    have h1 := a.1
    have hl2 : (bs ++ [(⟨s, some (h, sl), a1⟩ : Br)]).length + f ≤ 40 := by
      simp only [List.length_append, List.length_cons, List.length_nil]
      omega
    by_cases c115 : c = 115
    · subst c115
      rw [e] at hn
      have ec := last_115 hn
      subst ec
      cases ds with
      | cons x xs => exact a.2.elim
      | nil =>
        rw [if_pos rfl] at h1
        obtain ⟨es, rfl, q⟩ := h1
        have e1 : flatA [115] [PyData.tuple es] = es := by simp [flatA, kidsT]
        have e2 : argWords (wordsD f) [115] [PyData.tuple es] = es.flatMap (wordsD f) := by simp [argWords, kidsT]
        rw [e1, e2]
        refine go_many (b := ⟨s, some (h, sl), []⟩) ih (by simp only [List.length_append, List.length_cons, List.length_nil]; omega) es a1 q fun k hk => ?_
        unfold wantB
        simp only
        rw [if_pos]
        rw [e]
        refine ⟨by simp, ?_⟩
        simp only [List.length_append, List.length_cons, List.length_nil]
        omega
    · rw [if_neg c115] at h1
      have wt : wants (bs ++ [⟨s, some (h, sl), a1⟩]) = some c := by
        rw [wants_snoc]
        unfold wantB
        simp only
        rw [if_neg, e, l]
        · simp
        · rintro ⟨z1, z2⟩
          rw [e] at z1 z2
          simp only [List.length_append, List.length_cons] at z2
          have : cs = [] := List.length_eq_zero_iff.mp (by omega)
          subst this
          simp at z1
          exact c115 z1
      have nxt : GoP (bs ++ [⟨s, some (h, sl), a1 ++ [d]⟩]) (argWords (wordsD f) cs ds) (bs ++ [⟨s, some (h, sl), a1 ++ [d] ++ flatA cs ds⟩]) :=
        go_args ih hl hn (c1 ++ [c]) cs (a1 ++ [d]) ds (by rw [e]; simp) (by simp [l]) a.2
      have e1 : flatA (c :: cs) (d :: ds) = [d] ++ flatA cs ds := by simp only [flatA, if_neg c115]
      rw [e1, ← List.append_assoc]
      by_cases c101 : c = 101
      · subst c101
        rw [if_pos rfl] at h1
        have s1 := ih _ false d h1 wt hl2
        rw [keepP_snoc] at s1
        have e2 : argWords (wordsD f) (101 :: cs) (d :: ds) = wordsD f d ++ argWords (wordsD f) cs ds := by simp [argWords]
        rw [e2]
        exact s1.go.app nxt
      · rw [if_neg c101] at h1
        by_cases c116 : c = 116
        · subst c116
          rw [if_pos rfl] at h1
          have s1 := ih _ true d h1 wt hl2
          rw [keepP_snoc] at s1
          have e2 : argWords (wordsD f) (116 :: cs) (d :: ds) = wordsD f d ++ argWords (wordsD f) cs ds := by simp [argWords]
          rw [e2]
          exact s1.go.app nxt
        · rw [if_neg c116] at h1
          have e2 : argWords (wordsD f) (c :: cs) (d :: ds) = [txt d] ++ argWords (wordsD f) cs ds := by
            simp only [argWords]
            rw [if_neg c115, if_neg (fun z => z.elim c101 c116)]
          rw [e2]
          have s1 := StepP.leaf (w := txt d) (d := d) wt (by unfold LeafW; rw [if_neg c101]; exact ⟨h1, rfl⟩)
          rw [keepP_snoc] at s1
          exact .cons s1 nxt
  | _, [], _, _ :: _, _, _, a => a.elim
  | _, _ :: _, _, [], _, _, a => a.elim
theorem arg_test {f : Nat} : ∀ {cs : List Nat} {ds : List PyData}, ArgOk (Wx f) cs ds → 116 ∈ cs → f ≠ 0
  | c :: cs, d :: ds, a, m => by
    rcases List.mem_cons.mp m with z | z
    · have h1 := a.1
      rw [← z, if_neg (by decide), if_neg (by decide), if_pos rfl] at h1
      intro y
      rw [y] at h1
      exact absurd h1.1 (by decide)
    · exact arg_test a.2 z
  | [], _, _, m => nomatch m
  | _ :: _, [], a, _ => a.elim
/-- a reader that wants a tree comes to it by its words -/
theorem reads : ∀ (f : Nat) (bs : List Br) (s : Bool) (d : PyData), Wx f s d → wants bs = some (if s = true then 116 else 101) → bs.length + f ≤ 40 → StepsP bs (wordsD f d) (keepP bs d) := by
  intro f
  have leaf : ∀ (f : Nat) (bs : List Br) (d : PyData), LeafT d → wants bs = some 101 → StepsP bs (wordsD f d) (keepP bs d) := by
    intro f bs d h hw
    rw [words_leaf h]
    obtain ⟨w, e⟩ : ∃ w, leafWords d = [w] := by
      rcases h with ⟨i, rfl, _⟩ | ⟨x, h | h, _⟩
      · exact ⟨_, rfl⟩
      · rw [h]; exact ⟨_, rfl⟩
      · rw [h]; exact ⟨_, rfl⟩
    rw [e]
    exact ⟨[], w, bs, rfl, .nil _, .leaf hw (by unfold LeafW; rw [if_pos rfl]; exact ⟨h, e.symm⟩)⟩
  induction f with
  | zero =>
    rintro bs s d ⟨rfl, h⟩ hw _
    exact leaf 0 bs d h hw
  | succ f ih =>
    intro bs s d h hw hl
    rcases h with ⟨rfl, h⟩ | ⟨h, sl, args, rfl, m, n, a⟩
    · exact leaf (f + 1) bs d h hw
    · rw [words_node (tbS_all _ m) n]
      have hn := only_last _ (tbS_all _ m)
      simp only at hn
      obtain ⟨q1, q2⟩ := packed_args hn a
      have g1 : GoP bs [("(" : Str), h] (bs ++ [⟨s, some (h, sl), []⟩]) := by
        have o := StepP.opens hw (by cases s; exact .inl rfl; exact .inr rfl) (by omega)
        have e : decide ((if s = true then 116 else 101) = 116) = s := by cases s <;> rfl
        rw [e] at o
        refine .cons o (.cons (.head m n fun z => ?_) (.nil _))
        have := arg_test a z
        omega
      have g2 := go_args (bs := bs) (s := s) (h := h) ih (by omega) hn [] sl.cps.toList [] args rfl rfl a
      rw [List.nil_append] at g2
      have c := StepP.close (bs := bs) m q1
      rw [q2] at c
      exact ⟨_, _, _, rfl, g1.app g2, c⟩
abbrev sBox : Stmt := topS 29
abbrev sTake : Stmt := topS 30
theorem c47 : (0 : Int) < 2147483647 := by decide
theorem c29 : (0 : Int) < 2147483629 := by decide
/-! _law_take: some number below many; the box stays a box -/
def spTake : Sp := fun vs H Q _ => ∃ (p g : Addr) (m : Int), vs = [.ref p, .int m] ∧ Box H p g ∧ 0 < m ∧ m.natAbs < 2 ^ 200 ∧
  ∀ (r : Int) (H' : Hp), 0 ≤ r → r < m → Box H' p g → Off [p, g] H H' → Q (.int r) H'
def spBox (K : PySem.W.Frag) : Sp := fun vs H Q _ => ∃ (a : Addr) (ns : List Int) (c : Int), vs = [.ref a, .int c] ∧ SqL K H a (ns.map V.int) ∧ ns.length ≤ 63 ∧ 0 ≤ c ∧ c < 1000 ∧
  ∀ (p g : Addr) (H' : Hp), Box H' p g → Same H H' → H p = none → H g = none → Q (.ref p) H'
theorem scTake : FnScope ["_law_box_here", "_law_many", "_law_digit", "_law_one"] ["_law_box_here", "_law_many"] (defScope sTake) :=
  ⟨rfl, rfl, rfl, by decide +kernel, rfl, by decide +kernel, by decide +kernel⟩
section
variable {P : Program} {w : World} {K : PySem.W.Frag} {mg : Str → Option Value} {base : Heap} {f : Addr} {fd : FuncData}
theorem get_now {H : Hp} {p g : Addr} {n s t : Int} (h : H p = some (.dK (bx g n s t))) : DGet H p (.str "now") (some (.int n)) := by
  have q := DGet.k (k := (Sum.inr "now" : Key)) h
  rw [bx_now] at q
  exact q
theorem get_great {H : Hp} {p g : Addr} {n s t : Int} (h : H p = some (.dK (bx g n s t))) : DGet H p (.str "great") (some (.ref g)) := by
  have q := DGet.k (k := (Sum.inr "great" : Key)) h
  rw [bx_great] at q
  exact q
theorem get_seed {H : Hp} {p g : Addr} {n s t : Int} (h : H p = some (.dK (bx g n s t))) : DGet H p (.str "seed") (some (.int s)) := by
  have q := DGet.k (k := (Sum.inr "seed" : Key)) h
  rw [bx_seed] at q
  exact q
theorem get_turn {H : Hp} {p g : Addr} {n s t : Int} (h : H p = some (.dK (bx g n s t))) : DGet H p (.str "turn") (some (.int t)) := by
  have q := DGet.k (k := (Sum.inr "turn" : Key)) h
  rw [bx_turn] at q
  exact q
theorem set_now {H : Hp} {p g : Addr} {n s t : Int} (y : Int) (h : H p = some (.dK (bx g n s t))) : DPut H p (.str "now") (.int y) (upd H p (.dK (bx g y s t))) := by
  have q := DPut.k (k := (Sum.inr "now" : Key)) (v := .int y) h (by show 4 < sizeLine; decide)
  rw [put_now] at q
  exact q
theorem set_seed {H : Hp} {p g : Addr} {n s t : Int} (y : Int) (h : H p = some (.dK (bx g n s t))) : DPut H p (.str "seed") (.int y) (upd H p (.dK (bx g n y t))) := by
  have q := DPut.k (k := (Sum.inr "seed" : Key)) (v := .int y) h (by show 4 < sizeLine; decide)
  rw [put_seed] at q
  exact q
theorem set_turn {H : Hp} {p g : Addr} {n s t : Int} (y : Int) (h : H p = some (.dK (bx g n s t))) : DPut H p (.str "turn") (.int y) (upd H p (.dK (bx g n s y))) := by
  have q := DPut.k (k := (Sum.inr "turn" : Key)) (v := .int y) h (by show 4 < sizeLine; decide)
  rw [put_turn] at q
  exact q
theorem ok_take {k : Nat} (F : Fun K "_law_take" "_law_take" sTake f fd) (ml : mg "len" = none) : FnOk P w K mg base CX0 (k + 1) f fd ["_law_box_here", "_law_many"] spTake := by
  refine F.ok scTake (fun vs H Q E h => ?_) (fun cdv A outer s H vs Q E hr h => ?_)
  · obtain ⟨p, g, m, rfl, _⟩ := h
    rfl
  obtain ⟨p, g, m, rfl, ⟨n, sd, t, gs, hp, hg, hl⟩, m0, m9, q⟩ := h
  have hu := hu_of hr
  have npg : p ≠ g := ne_of hp hg (by intro z; cases z)
  refine ⟨_, C8.pss_cut (ps_if (PW.pt (pw_and (pt_cmpR op_eq (pe_dget hu (pv 0) pe_str (fun _ _ => rfl)) pe_int (nomark _))
        (pw_and1 (pt_cmpR op_gt (pe_callB call_len_seq (by rfl) ml PySem.boot_len (pa_cons (pe_dget hu (pv 0) pe_str (fun _ _ => rfl)) pa_nil)) pe_int (nomark _)))))
        (pss_one (ps_dput hu (pv 0) pe_str (pe_bm0 PySem.F.plainAttrs_list PySem.F.slot_list_pop PySem.F.type_list_pop mt_pop (pe_dget hu (pv 0) pe_str (fun _ _ => rfl))) rfl)) pss_nil)
    (pss_cons (ps_if (pt_cmpR op_gt (pe_dget hu (pv 0) pe_str (fun _ _ => rfl)) pe_int (nomark _))
        (pss_cons (ps_set (i := 2) scTake.nd rfl (.inl rfl) (pe_op op_mod (pe_dget hu (pv 0) pe_str (fun _ _ => rfl)) (pv 1)))
        (pss_cons (ps_dput hu (pv 0) pe_str (pe_op op_fdivW (pe_dget hu (pv 0) pe_str (fun _ _ => rfl)) (pv 1)) rfl)
        (pss_one (ps_ret (pv 2))))) pss_nil)
    (pss_cons (ps_dput hu (pv 0) pe_str (pe_op op_add (pe_dget hu (pv 0) pe_str (fun _ _ => rfl)) pe_int) rfl)
    (pss_cons (ps_set (i := 3) scTake.nd rfl (.inl rfl) (pe_op op_mod (pe_op op_mul (pe_op op_mod (pe_op op_add (pe_dget hu (pv 0) pe_str (fun _ _ => rfl))
        (pe_op op_mul pe_int (pe_dget hu (pv 0) pe_str (fun _ _ => rfl)))) pe_int) pe_int) pe_int))
    (pss_cons (ps_dput hu (pv 0) pe_str (pe_op op_add (pe_op op_mod (pe_op op_add (pv 3) (pe_op op_mul pe_int (pe_dget hu (pv 0) pe_str (fun _ _ => rfl)))) pe_int) pe_int) rfl)
    (pss_one (ps_ret (pe_op op_mod (pe_op op_fdiv (pe_op op_add (pe_op op_mul (pv 3) pe_int) (pe_dget hu (pv 0) pe_str (fun _ _ => rfl))) pe_int) (pv 1)))))))), ?_⟩
  refine ⟨fun σ H1 => ∃ n1 gs1, σ = [some (.ref p), some (.int m), none, none] ∧ H1 p = some (.dK (bx g n1 sd t)) ∧ H1 g = some (.lst (List.map V.int gs1)) ∧ gs1.length ≤ 1000 ∧ Off [p, g] H H1, ?_, ?_⟩
  · refine ⟨_, rfl, p, _, rfl, get_now hp, rfl, _, rfl, ite2 (fun c => ?_) (fun c => iteF ⟨n, gs, rfl, hp, hg, hl, Off.refl _ _⟩)⟩
    refine ⟨_, rfl, p, _, rfl, get_great hp, g, _, rfl, .inl (SqL.of hg), _, _, rfl, rfl, _, rfl, ite2 (fun c2 => ?_) (fun c2 => ⟨n, gs, rfl, hp, hg, hl, Off.refl _ _⟩)⟩
    have c3 : (0 : Int) < (((List.map V.int gs).length : Nat) : Int) := of_decide_eq_true c2
    rw [List.length_map] at c3
    have hlast : (List.map V.int gs)[(List.map V.int gs).length - 1]? = some (V.int (gs[gs.length - 1]'(by omega))) := by
      rw [List.length_map, List.getElem?_map, List.getElem?_eq_getElem (by omega)]
      rfl
    have hp1 : (upd H g (.lst (List.map V.int gs).dropLast)) p = some (.dK (bx g n sd t)) := by rw [upd_ne npg]; exact hp
    refine ⟨_, rfl, p, _, rfl, get_great hp, .inl ⟨rfl, _, .inl (.inl hg)⟩, g, _, _, rfl, rfl, hg, hlast, _, rfl, p, _, rfl, set_now _ hp1, ?_⟩
    refine ⟨_, gs.dropLast, rfl, upd_same, ?_, ?_, ?_⟩
    · rw [upd_ne npg.symm, upd_same, List.map_dropLast]
    · rw [List.length_dropLast]
      omega
    · exact (Off.put (by simp)).trans (Off.put (by simp))
  · rintro σ H1 ⟨n1, gs1, rfl, hp1, hg1, hl1, of1⟩
    refine ⟨_, rfl, p, _, rfl, get_now hp1, _, _, rfl, rfl, _, rfl, ite2 (fun c => ?_) (fun c => ?_)⟩
    · refine ⟨_, rfl, p, _, rfl, get_now hp1, _, rfl, _, _, rfl, rfl, m0, ?_⟩
      refine ⟨_, rfl, p, _, rfl, get_now hp1, _, rfl, _, _, rfl, rfl, wide_div m0 m9 (by decide) (by decide), _, rfl, p, _, rfl, set_now _ hp1, ?_⟩
      refine ⟨_, rfl, q _ _ (Int.emod_nonneg _ (by omega)) (Int.emod_lt_of_pos _ m0) ⟨_, sd, t, gs1, upd_same, by rw [upd_ne npg.symm]; exact hg1, hl1⟩ (of1.trans (Off.put (by simp)))⟩
    · refine ⟨_, rfl, p, _, rfl, get_turn hp1, _, _, rfl, rfl, _, rfl, p, _, rfl, set_turn _ hp1, ?_⟩
      refine ⟨_, rfl, p, _, rfl, get_seed upd_same, _, rfl, p, _, rfl, get_turn upd_same, _, _, rfl, rfl, .inl ⟨by decide, by decide⟩, _, _, rfl, rfl, _, _, rfl, rfl, c47, _, _, rfl, rfl, .inr ⟨by decide, by decide⟩, _, _, rfl, rfl, c47, ?_⟩
      refine ⟨_, rfl, _, rfl, p, _, rfl, get_seed upd_same, _, _, rfl, rfl, .inl ⟨by decide, by decide⟩, _, _, rfl, rfl, _, _, rfl, rfl, c29, _, _, rfl, rfl, _, rfl, p, _, rfl, set_seed _ upd_same, ?_⟩
      refine ⟨_, rfl, _, _, rfl, rfl, .inr ⟨by decide, by decide⟩, _, rfl, p, _, rfl, get_seed upd_same, _, _, rfl, rfl, _, _, rfl, rfl, ⟨by decide, by decide⟩, _, rfl, _, _, rfl, rfl, m0, ?_⟩
      refine q _ _ (Int.emod_nonneg _ (by omega)) (Int.emod_lt_of_pos _ m0) ⟨n1, _, _, gs1, upd_same, ?_, hl1⟩ (of1.trans ((Off.put (by simp)).trans (Off.put (by simp))))
      rw [upd_ne npg.symm, upd_ne npg.symm]
      exact hg1
end
theorem cutV_ints (ns : List Int) (lo hi : Option Int) : ∃ ms : List Int, cutV (ns.map V.int) lo hi = ms.map V.int ∧ ms.length ≤ ns.length := by
  refine ⟨(ns.drop (HT.sIx ns.length 0 lo)).take (HT.sIx ns.length ns.length hi - HT.sIx ns.length 0 lo), ?_, ?_⟩
  · unfold cutV
    rw [List.length_map, List.map_take, List.map_drop]
  · rw [List.length_take, List.length_drop]
    omega
theorem int_at {ms : List Int} {i : Nat} {y : V} (h : (ms.map V.int)[i]? = some y) : ∃ z, y = V.int z := by
  rw [List.getElem?_map] at h
  cases e : ms[i]? with
  | none =>
    rw [e] at h
    cases h
  | some z =>
    rw [e] at h
    exact ⟨z, (Option.some.inj h).symm⟩
theorem scBox : FnScope ["_law_script", "_law_base", "_law_seed", "_law_cell", "_law_great"] ["_law_script", "_law_base"] (defScope sBox) :=
  ⟨rfl, rfl, rfl, by decide +kernel, rfl, by decide +kernel, by decide +kernel⟩
section
variable {P : Program} {w : World} {K : PySem.W.Frag} {mg : Str → Option Value} {base : Heap} {f : Addr} {fd : FuncData}
theorem ok_box {k : Nat} (F : Fun K "_law_box" "_law_box" sBox f fd) (mab : mg "abs" = none) : FnOk P w K mg base CX0 (k + 1) f fd ["_law_script", "_law_base"] (spBox K) := by
  refine F.ok scBox (fun vs H Q E h => ?_) (fun cdv A outer s H vs Q E hr h => ?_)
  · obtain ⟨a, ns, c, rfl, _⟩ := h
    rfl
  obtain ⟨a, ns, c, rfl, hS, hlen, c0, c9, q⟩ := h
  have hu := hu_of hr
  refine ⟨_, pss_cons (ps_set (i := 2) scBox.nd rfl (.inl rfl) (pe_op op_add pe_int (pe_op op_mul pe_int (pv 1))))
    (pss_cons (ps_for PassesOwn.never rfl (pi_list (pe_slice sl_list (pv 0) po_none (po_some pe_int))) (pg_name (i := 3) scBox.nd rfl (.inl rfl))
      (pss_one (ps_set (i := 2) scBox.nd rfl (.inl rfl) (pe_op op_mod (pe_op op_add (pe_op op_add (pe_op op_mul (pv 2) pe_int)
        (pe_op op_mod (pe_callB call_abs (by rfl) mab (by decide +kernel) (pa_cons (pv 3) pa_nil)) pe_int)) pe_int) pe_int))))
    (pss_cons (ps_setLc (i := 4) (own := [("_law_cell", 3)]) (g := gName 3) (by rfl) scBox.nd rfl rfl (sw_true rfl rfl rfl (by decide +kernel))
      (pi_list (pe_slice sl_list (pv 0) (po_some (pv 1)) (po_some pe_int)))
      (blkOk_by (own := [("_law_cell", 3)]) (N := ["_law_script", "_law_base", "_law_seed", "_law_cell", "_law_great"]) (sc := defScope sBox) (by decide +kernel))
      (fun _ _ _ _ _ => pg_name (i := 3) scBox.nd rfl (Or.inl rfl))
      (fun _ _ _ _ _ => pts_one (pt_cmpR op_ge (pe_callB call_abs (by rfl) mab (by decide +kernel) (pa_cons (pv 3) pa_nil)) (pe_op op_pow pe_int pe_int) (nomark _)))
      (fun _ _ _ _ _ => pe_callB call_abs (by rfl) mab (by decide +kernel) (pa_cons (pv 3) pa_nil)))
    (pss_one (ps_ret (pe_disp (pps_cons pe_str (pe_revL (pv 4)) (pps_cons pe_str pe_int (pps_cons pe_str (pe_op op_add (pv 2) pe_int) (pps_cons pe_str pe_int pps_nil))))
      (by rfl) (by rfl) (fun z => by cases z) (by decide)))))), ?_⟩
  refine ⟨_, rfl, _, _, rfl, rfl, .inl ⟨by decide, by decide⟩, _, _, rfl, rfl, ?_⟩
  refine ⟨_, rfl, 50, rfl, a, _, rfl, hS, fun q0 hq0 => ?_⟩
  obtain ⟨ms, em, lm⟩ := cutV_ints ns none (some 50)
  rw [em]
  have s1 : Same H (upd H q0 (.lst (ms.map V.int))) := same_new hq0 _
  refine ⟨q0, rfl, ⟨_, SqL.of upd_same⟩, for_list (K := K) (a := q0) (xs := ms.map V.int) (fun i σ H2 => ∃ (z : Int) (v : Option V), σ = [some (.ref a), some (.int c), some (.int z), v, none] ∧ -(2 ^ 40) < z ∧ z < 2 ^ 40 ∧ H2 = upd H q0 (.lst (ms.map V.int)))
    ⟨7001 + 211 * c, none, rfl, by omega, by omega, rfl⟩ (fun i σ H2 _ ⟨_, _, _, _, _, e⟩ => by rw [e]; exact SqL.of upd_same) ?_ ?_⟩
  · rintro i y σ H2 hi ⟨z, v, rfl, z0, z1, rfl⟩
    obtain ⟨x, rfl⟩ := int_at hi
    refine ⟨_, rfl, _, _, rfl, rfl, .inr ⟨by decide, by decide⟩, _, rfl, _, rfl, _, _, rfl, rfl, c29, _, _, rfl, rfl, _, _, rfl, rfl, _, _, rfl, rfl, c47, ?_⟩
    exact ⟨_, _, rfl, Int.lt_of_lt_of_le (by decide) (Int.emod_nonneg _ (by decide)), Int.lt_trans (Int.emod_lt_of_pos _ c47) (by decide), rfl⟩
  · rintro σ H2 ⟨z, v, rfl, z0, z1, rfl⟩
    refine ⟨_, rfl, _, rfl, c, rfl, 50, rfl, a, _, rfl, s1.seq hS, fun q1 hq1 => ?_⟩
    obtain ⟨ks, ek, lk⟩ := cutV_ints ns (some c) (some 50)
    rw [ek]
    have s2 := s1.trans (same_new hq1 (.lst (ks.map V.int)))
    refine ⟨q1, rfl, ⟨_, SqL.of upd_same⟩, fun D hD => lc_list (K := K) (a := q1) (xs := ks.map V.int) (fun i H3 => ∃ gs : List Int, gs.length ≤ i ∧ H3 D = some (.lst (gs.map V.int)) ∧ H3 q1 = some (.lst (ks.map V.int)) ∧ Same H H3)
      ⟨[], Nat.le_refl _, upd_same, by rw [upd_ne (ne_of_none upd_same hD), upd_same], s2.trans (same_new hD _)⟩ (fun i H3 _ ⟨_, _, _, h, _⟩ => SqL.of h) ?_ ?_⟩
    · rintro i y H3 hi ⟨gs, lg, h1, h2, h3⟩
      have hik := (List.getElem?_eq_some_iff.mp hi).1
      rw [List.length_map] at hik
      obtain ⟨x, rfl⟩ := int_at hi
      refine ⟨rfl, _, rfl, _, rfl, _, _, rfl, rfl, ⟨by decide, by decide, by decide⟩, _, _, rfl, rfl, _, rfl, ite2 (fun _ => ?_) (fun _ => ?_)⟩
      · refine ⟨_, rfl, _, rfl, _, h1, ?_, gs ++ [if x < 0 then -x else x], ?_, ?_, ?_, ?_⟩
        · rw [List.length_map]
          exact small1000 (by omega)
        · rw [List.length_append, List.length_singleton]
          omega
        · rw [upd_same, List.map_append]
          rfl
        · rw [upd_ne (ne_of_none upd_same hD)]
          exact h2
        · intro b o e
          rw [upd_ne (ne_of_none e (s2.free hD))]
          exact h3 b o e
      · exact ⟨gs, by omega, h1, h2, h3⟩
    · rintro H3 ⟨gs, lg, h1, h2, h3⟩
      rw [List.length_map] at lg
      refine fun p hp => ⟨_, rfl, D, _, rfl, SqL.of (by rw [upd_ne (ne_of_none h1 hp)]; exact h1), fun g hg => ?_⟩
      have ngp : g ≠ p := fun e => by
        rw [e, upd_same] at hg
        cases hg
      have hp2 : (upd (upd H3 p (.dK [])) g (.lst (gs.map V.int).reverse)) p = some (.dK []) := by rw [upd_ne ngp.symm, upd_same]
      refine ⟨_, rfl, _, _, rfl, rfl, hp2, bx g 0 (z + 1) 0, rfl, by show 4 ≤ 15; decide, ?_⟩
      rw [mer_box]
      have hg3 : H3 g = none := by
        rw [upd_ne ngp] at hg
        exact hg
      refine q p g _ ⟨0, z + 1, 0, gs.reverse, upd_same, ?_, ?_⟩ ?_ (h3.free hp) (h3.free hg3)
      · rw [upd_ne ngp, upd_same, List.map_reverse]
      · rw [List.length_reverse]
        omega
      · intro b o e
        have e3 := h3 b o e
        rw [upd_ne (ne_of_none e3 hp), upd_ne (ne_of_none e3 hg3), upd_ne (ne_of_none e3 hp)]
        exact e3
end
structure Tk (P : Program) (w : World) (K : PySem.W.Frag) (mg : Str → Option Value) (base : Heap) (f : Addr) (fd : FuncData) : Prop where
  ok : FnOk P w K mg base CX0 1 f fd ["_law_box_here", "_law_many"] spTake
  kp : PySem.W.keepIn K (.ref f) = true
  bd : Binds K fd ["_law_box_here", "_law_many"] []
  mg : mg "_law_take" = some (.ref f)
theorem atI_ok {α : Type} {xs : List α} {r : Int} (h0 : 0 ≤ r) (h : r < (xs.length : Int)) : ∃ x, atI xs r = some x ∧ x ∈ xs ∧ xs[r.toNat]? = some x := by
  have hr : r.toNat < xs.length := by omega
  have e : r = (r.toNat : Int) := by omega
  have q : atI xs ((r.toNat : Nat) : Int) = some xs[r.toNat] := atI_nat (List.getElem?_eq_getElem hr)
  rw [← e] at q
  exact ⟨xs[r.toNat], q, List.getElem_mem hr, List.getElem?_eq_getElem hr⟩
theorem okG {P : Program} {w : World} {K : PySem.W.Frag} {mg : Str → Option Value} {base : Heap} {x qual : Str} {st : Stmt} {f : Addr} {fd : FuncData} {N ps : List Str} {k : Nat} {sp : Sp} (F : Fun K x qual st f fd) (S : FnScope N ps (defScope st))
    (len : ∀ ws H Q E, sp ws H Q E → ws.length = ps.length)
    (hb : ∀ (cdv : Value) (A : Around) (outer : List Env) (s : Shared) (H : Hp) (vs : List V) (Q : VK) (E : XK), A.guards = some [] → Room k (A.deeper (envOfC qual (defScope st) s.heap.objs.size f cdv)) → sp vs H Q E →
      ∃ t, PSs (cxOf CX0 P w K mg base N qual (defScope st) f cdv A outer s H E).nox (defBody st) t ∧ t { nx := fun _ H' => Q .non H', rt := Q } (start N vs) H) : FnG P w K mg base CX0 (k + 1) f fd ps sp := by
  obtain ⟨oc, od, kV, doc, pm, an, cdv, ct, osl, rfl, lk, hcd⟩ := F.ex
  refine fnG_of lk hcd S len ?_
  intro A outer s H vs Q E hg hr hsp
  obtain ⟨t, h, q⟩ := hb cdv A outer s H vs Q E hg hr hsp
  exact ⟨t, h.nox, q⟩
theorem bool_prn (b : Bool) : Prn (.bool b) := prn_of (by simp only [gd]) (by simp only [nod]; omega) (by simp only [PyData.depth]; omega)
/-- a def of the top that keeps a promise -/
structure Dn (P : Program) (w : World) (K : PySem.W.Frag) (mg : Str → Option Value) (base : Heap) (lvl : Nat) (nm : Str) (ps : List Str) (sp : Sp) (f : Addr) (fd : FuncData) : Prop where
  ok : FnOk P w K mg base CX0 lvl f fd ps sp
  kp : PySem.W.keepIn K (.ref f) = true
  bd : Binds K fd ps []
  mg : mg nm = some (.ref f)
theorem cut_less {l m : List Addr} {H : Hp} (h : ∀ b ∈ m, b ∈ l) : Same (cut l H) (cut m H) := fun b o e => by
  obtain ⟨n, e⟩ := cut_some e
  rw [cut_out (fun z => n (h b z))]
  exact e
theorem cut_more {l : List Addr} {H : Hp} {a : Addr} {o : HO} (h : H a = none) : Same (cut l H) (cut (a :: l) (upd H a o)) := fun b u e => by
  obtain ⟨n, e⟩ := cut_some e
  have nb := ne_of_none e h
  rw [cut_out (fun z => (List.mem_cons.mp z).elim nb n), upd_ne nb]
  exact e
theorem dp_true {K : PySem.W.Frag} {H : Hp} {b : Bool} (h : b = true) : Dp K H (.bl b) (.bool true) := by
  rw [h]
  exact .bl true
theorem DpAll.parts {K : PySem.W.Frag} {H : Hp} {xs : List V} {ds : List PyData} (h : DpAll K H xs ds) (i : Nat) : DpAll K H (xs.take i) (ds.take i) ∧ DpAll K H (xs.drop i) (ds.drop i) := by
  have lx := DpAll.len h
  obtain ⟨d1, d2, e, a, b⟩ := DpAll.unapp (xs := xs.take i) (ys := xs.drop i) (by rw [List.take_append_drop]; exact h)
  have la := DpAll.len a
  have lb := DpAll.len b
  rw [List.length_take] at la
  rw [List.length_drop] at lb
  subst e
  by_cases hi : i ≤ xs.length
  · have l1 : d1.length = i := by omega
    have e1 : (d1 ++ d2).take i = d1 := by rw [← l1]; exact List.take_left
    have e2 : (d1 ++ d2).drop i = d2 := by rw [← l1]; exact List.drop_left
    rw [e1, e2]
    exact ⟨a, b⟩
  · have l2 : d2 = [] := List.length_eq_zero_iff.mp (by omega)
    subst l2
    rw [List.append_nil, List.take_of_length_le (l := d1) (by omega), List.drop_of_length_le (l := d1) (by omega)]
    exact ⟨a, b⟩
theorem cutV_dp {K : PySem.W.Frag} {H : Hp} {xs : List V} {ds : List PyData} (h : DpAll K H xs ds) (lo hi : Option Int) : ∃ es, DpAll K H (cutV xs lo hi) es ∧ ∀ e ∈ es, e ∈ ds := by
  unfold cutV
  exact ⟨_, (DpAll.parts (DpAll.parts h _).2 _).1, fun e he => List.mem_of_mem_drop (List.mem_of_mem_take he)⟩
theorem gd_int {i : Int} (h : i.natAbs < 2 ^ 1000) : gd (.int i) = true := by
  simp only [gd]
  exact decide_eq_true (Nat.lt_trans (PySem.Flt.log2_lt_of (by decide) h) (by decide))
abbrev sSorts : Stmt := topS 10
abbrev sItems : Stmt := topS 11
def isT (h : Str) : Bool := teL.any fun p => decide (p.1 = h)
def sortS (c : Nat) : Str := if c = 101 then "expression" else if c = 116 then "test" else if c = 115 then "expressions" else if c = 107 then "integer" else if c = 110 then "name" else if c = 105 then "index" else "kind"
def sortsV (sl : Str) : List V := sl.cps.toList.map fun c => V.str (sortS c)
def wantS (h : Str) : Str := if isT h = true then "test" else "expression"
theorem isT_e : ∀ p ∈ exL, isT p.1 = false := by decide +kernel
theorem isT_t : ∀ p ∈ teL, isT p.1 = true := by decide +kernel
/-- the two tables of the program's top -/
structure Tab (K : PySem.W.Frag) (w : World) (mg : Str → Option Value) (aE : Addr) (esE : Array DictEntry) (nE : Nat) (aT : Addr) (esT : Array DictEntry) (nT : Nat) : Prop where
  mE : mg "EXPRESSIONS" = some (.ref aE)
  mT : mg "TESTS" = some (.ref aT)
  dE : KDict K w aE esE nE
  dT : KDict K w aT esT nT
  e1 : ∀ p ∈ exL, ∃ a, PySem.W.nsIn K aE p.1 = some (some (.ref a)) ∧ ∀ H, SqT K H a (sortsV p.2)
  t1 : ∀ p ∈ teL, ∃ a, PySem.W.nsIn K aT p.1 = some (some (.ref a)) ∧ ∀ H, SqT K H a (sortsV p.2)
  e0 : ∀ p ∈ exL, PySem.W.nsIn K aT p.1 = some none
theorem scSorts : FnScope ["word", "wanted"] ["word", "wanted"] (defScope sSorts) := ⟨rfl, rfl, rfl, by decide +kernel, rfl, by decide +kernel, by decide +kernel⟩
theorem scItems : FnScope ["tree", "wanted"] ["tree"] (defScope sItems) := ⟨rfl, rfl, rfl, by decide +kernel, rfl, by decide +kernel, by decide +kernel⟩
def spSorts (K : PySem.W.Frag) : Sp := fun vs H Q _ => ∃ h sl, vs = [.str h, .str (wantS h)] ∧ (h, sl) ∈ allL ∧ ∀ a, (∀ H', SqT K H' a (sortsV sl)) → Q (.ref a) H
/-- pairs of an item and its sort -/
def spItems (K : PySem.W.Frag) : Sp := fun vs H Q _ => ∃ a h sl xs, vs = [.ref a] ∧ SqT K H a (.str h :: xs) ∧ xs.length ≤ 1000 ∧ (h, sl) ∈ allL ∧ xs.length = sl.cps.toList.length ∧
  ∀ (p : Addr) (ts : List Addr) (H' : Hp), Same H H' → H p = none → H' p = some (.lst (ts.map V.ref)) → ts.length = xs.length → (∀ (j : Nat) (t : Addr), ts[j]? = some t → ∃ x c, xs[j]? = some x ∧ sl.cps.toList[j]? = some c ∧ H' t = some (.tup [x, .str (sortS c)])) → Q (.ref p) H'
section
variable {P : Program} {w : World} {K : PySem.W.Frag} {mg : Str → Option Value} {base : Heap} {f fS : Addr} {fd dS : FuncData} {aE aT : Addr} {esE esT : Array DictEntry} {nE nT : Nat}
theorem ok_sorts {k : Nat} (F : Fun K "sorts_behind" "sorts_behind" sSorts f fd) (TB : Tab K w mg aE esE nE aT esT nT) : FnOk P w K mg base CX0 (k + 1) f fd ["word", "wanted"] (spSorts K) := by
  refine F.ok scSorts (fun vs H Q E h => ?_) (fun cdv A outer s H vs Q E hr h => ?_)
  · obtain ⟨h, sl, rfl, _⟩ := h
    rfl
  obtain ⟨h, sl, rfl, m, q⟩ := h
  refine ⟨_, pss_one (ps_ret (pe_ifExp (pt_cmpR op_eq (pv 1) pe_str (nomark _)) (pe_kget TB.dT (pe_glob (by rfl) TB.mT (v := .ref aT) rfl) (pv 0) ⟨rfl, rfl, rfl, rfl⟩) (pe_kget TB.dE (pe_glob (by rfl) TB.mE (v := .ref aE) rfl) (pv 0) ⟨rfl, rfl, rfl, rfl⟩))), ?_⟩
  refine ⟨_, rfl, rfl, _, rfl, ?_⟩
  rcases List.mem_append.mp m with m | m
  · have e := isT_e _ m
    obtain ⟨a, n1, sq⟩ := TB.e1 _ m
    have e2 : wantS h = "expression" := by unfold wantS; rw [e]; rfl
    rw [e2]
    exact iteF ⟨rfl, _, rfl, h, _, _, rfl, n1, (show RelV (V.ref a) (Value.ref a) from rfl), q a sq⟩
  · have e := isT_t _ m
    obtain ⟨a, n1, sq⟩ := TB.t1 _ m
    have e2 : wantS h = "test" := by unfold wantS; rw [e]; rfl
    rw [e2]
    exact iteT ⟨rfl, _, rfl, h, _, _, rfl, n1, (show RelV (V.ref a) (Value.ref a) from rfl), q a sq⟩
theorem ok_items {k : Nat} (F : Fun K "sorted_items" "sorted_items" sItems f fd) (TB : Tab K w mg aE esE nE aT esT nT) (ml : mg "list" = none) (mz : mg "zip" = none) (GS : Dn P w K mg base 1 "sorts_behind" ["word", "wanted"] (spSorts K) fS dS) :
    FnOk P w K mg base CX0 (k + 2) f fd ["tree"] (spItems K) := by
  refine F.ok scItems (fun vs H Q E h => ?_) (fun cdv A outer s H vs Q E hr h => ?_)
  · obtain ⟨a, h, sl, xs, rfl, _⟩ := h
    rfl
  obtain ⟨a, h, sl, xs, rfl, hx, lx, m, le, q⟩ := h
  have hr1 : Room 1 _ := hr.mono (by omega)
  refine ⟨_, pss_cons (ps_set (i := 1) scItems.nd rfl (.inl rfl) (pe_ifExp (pt_cmpR (op_in_kd TB.dT) (pe_ix ix_tup (pv 0) pe_int (fun _ _ => rfl)) (pe_glob (by rfl) TB.mT (v := .ref aT) rfl) rfl) pe_str pe_str))
    (pss_one (ps_ret (pe_listZip (by rfl) (pa_cons (pe_slice sl_tupA (pv 0) (po_some pe_int) po_none) (pa_cons (pe_call GS.ok hr1 (by rfl) GS.mg GS.kp GS.bd .nil pass0 (pa_cons (pe_ix ix_tup (pv 0) pe_int (fun _ _ => rfl)) (pa_cons (pv 1) pa_nil))) pa_nil)) (by rfl) ml (by rfl) mz))), ?_⟩
  have a0 : atI (V.str h :: xs) 0 = some (.str h) := atI_nat (j := 0) rfl
  have nr : ∃ r, PySem.W.nsIn K aT h = some r ∧ r.isSome = isT h := by
    rcases List.mem_append.mp m with m | m
    · exact ⟨_, TB.e0 _ m, (isT_e _ m).symm⟩
    · obtain ⟨a, n1, sq⟩ := TB.t1 _ m
      exact ⟨_, n1, (isT_t _ m).symm⟩
  obtain ⟨r, n1, er⟩ := nr
  have e3 : ∀ b : Bool, b = isT h → (if b = true then ("test" : Str) else "expression") = wantS h := fun b e => by
    unfold wantS
    rw [e]
  have fin : ∀ (cc : Addr) (H1 : Hp), Same H H1 → SqT K H1 cc xs → ∀ bb, (∀ H', SqT K H' bb (sortsV sl)) → ∀ (p : Addr) (ts : List Addr) (H' : Hp), Same H1 H' → H1 p = none → (∀ t ∈ ts, H1 t = none) → p ∉ ts → H' p = some (.lst (ts.map V.ref)) → ts.length = min xs.length (sortsV sl).length → (∀ (j : Nat) (t : Addr), ts[j]? = some t → ∃ x y, xs[j]? = some x ∧ (sortsV sl)[j]? = some y ∧ H' t = some (.tup [x, y])) → Q (.ref p) H' := by
    intro cc H1 s1 hc bb hb p ts H' s2 hp _ _ hl lt at'
    have ls : (sortsV sl).length = xs.length := by
      unfold sortsV
      rw [List.length_map, le]
    refine q p ts H' (s1.trans s2) (s1.free hp) hl (by omega) fun j t ht => ?_
    obtain ⟨x, y, e1, e2, e4⟩ := at' j t ht
    unfold sortsV at e2
    rw [List.getElem?_map] at e2
    obtain ⟨c, ec, rfl⟩ := Option.map_eq_some_iff.mp e2
    exact ⟨x, c, e1, ec, e4⟩
  refine ⟨_, rfl, a, _, 0, _, rfl, rfl, hx, a0, h, r, rfl, rfl, n1, ?_⟩
  rw [er]
  refine ⟨_, rfl, ite2 (fun c => ?_) (fun c => ?_)⟩
  all_goals
    refine ⟨_, rfl, 1, rfl, a, _, rfl, hx, (fun e => ?_), fun _ cc hcc => ?_⟩
    · have e := e.1
      rw [show (1 : Int) = ((1 : Nat) : Int) from rfl, HT.sIx_nat, List.length_cons] at e
      omega
    rw [cutV_drop _ (by decide) (by simp only [List.length_cons]; omega)]
    have s1 : Same H (upd H cc (.tup xs)) := same_new hcc _
    refine ⟨_, rfl, a, _, 0, _, rfl, rfl, seqT_up s1 hx, a0, _, rfl, h, sl, ?_, m, fun bb hb => ⟨cc, bb, xs, sortsV sl, rfl, .inl (.inl upd_same), hb _, fin cc _ s1 (.inl (.inl upd_same)) bb hb⟩⟩
    unfold wantS
    first
      | exact congrArg (fun z => [V.str h, V.str z]) (if_pos c).symm
      | exact congrArg (fun z => [V.str h, V.str z]) (if_neg c).symm
end
theorem putF_len {f : Str} {v v0 : V} : ∀ {fs : List (Str × V)}, fs.lookup f = some v0 → (putF f v fs).length = fs.length
  | [], h => by cases h
  | (g, x) :: r, h => by
    show (if g = f then (g, v) :: r else (g, x) :: putF f v r).length = _
    by_cases e : g = f
    · rw [if_pos e]
      rfl
    · rw [if_neg e]
      have h2 : r.lookup f = some v0 := by
        have z : (f == g) = false := beq_eq_false_iff_ne.mpr fun y => e y.symm
        simpa only [List.lookup, z] using h
      simp only [List.length_cons, putF_len h2]
/-- the attributes of a reader -/
structure FR (fs : List (Str × V)) (L : Addr) (t : V) : Prop where
  b : fs.lookup ("brackets" : Str) = some (.ref L)
  t : fs.lookup ("tree" : Str) = some t
  n : fs.length ≤ 10
/-- the attributes of a bracket -/
structure FB (fs : List (Str × V)) (w h s : V) (fa : Addr) : Prop where
  w : fs.lookup ("wanted" : Str) = some w
  h : fs.lookup ("head" : Str) = some h
  s : fs.lookup ("sorts" : Str) = some s
  f : fs.lookup ("found" : Str) = some (.ref fa)
  n : fs.length ≤ 10
theorem nbt : ¬ (("brackets" : Str) = "tree") := by decide +kernel
theorem nwh : ¬ (("wanted" : Str) = "head") := by decide +kernel
theorem nws : ¬ (("wanted" : Str) = "sorts") := by decide +kernel
theorem nwf : ¬ (("wanted" : Str) = "found") := by decide +kernel
theorem nhs : ¬ (("head" : Str) = "sorts") := by decide +kernel
theorem nhf : ¬ (("head" : Str) = "found") := by decide +kernel
theorem nsf : ¬ (("sorts" : Str) = "found") := by decide +kernel
theorem FR.tree {fs : List (Str × V)} {L : Addr} {t v : V} (h : FR fs L t) : FR (putF "tree" v fs) L v :=
  ⟨by rw [lookup_putF, if_neg nbt]; exact h.b, by rw [lookup_putF, if_pos rfl], by rw [putF_len h.t]; exact h.n⟩
theorem FB.head {fs : List (Str × V)} {w h s v : V} {fa : Addr} (b : FB fs w h s fa) : FB (putF "head" v fs) w v s fa :=
  ⟨by rw [lookup_putF, if_neg nwh]; exact b.w, by rw [lookup_putF, if_pos rfl], by rw [lookup_putF, if_neg (fun z => nhs z.symm)]; exact b.s, by rw [lookup_putF, if_neg (fun z => nhf z.symm)]; exact b.f, by rw [putF_len b.h]; exact b.n⟩
theorem FB.sorts {fs : List (Str × V)} {w h s v : V} {fa : Addr} (b : FB fs w h s fa) : FB (putF "sorts" v fs) w h v fa :=
  ⟨by rw [lookup_putF, if_neg nws]; exact b.w, by rw [lookup_putF, if_neg nhs]; exact b.h, by rw [lookup_putF, if_pos rfl], by rw [lookup_putF, if_neg (fun z => nsf z.symm)]; exact b.f, by rw [putF_len b.s]; exact b.n⟩
structure CR (K : PySem.W.Frag) (mg : Str → Option Value) (C : Addr) : Prop where
  cl : Cls K C
  nb : NoAttr K C "brackets"
  nt : NoAttr K C "tree"
  mg : mg "Reader" = some (.ref C)
structure CB (K : PySem.W.Frag) (mg : Str → Option Value) (C : Addr) : Prop where
  cl : Cls K C
  nw : NoAttr K C "wanted"
  nh : NoAttr K C "head"
  ns : NoAttr K C "sorts"
  nf : NoAttr K C "found"
  mg : mg "Bracket" = some (.ref C)
def wantedS (b : Bool) : Str := if b = true then "test" else "expression"
/-- a bracket of the reader at a, what it has found at fa -/
structure BrAt (K : PySem.W.Frag) (C : Addr) (H : Hp) (a fa : Addr) (b : Br) : Prop where
  ex : ∃ dx fs hv sv vs, H a = some (.ins C dx fs) ∧ FB fs (.str (wantedS b.wanted)) hv sv fa ∧ H fa = some (.lst vs) ∧ DpAll K H vs b.found ∧ nls b.found = true ∧ b.found.length ≤ 5000000 ∧
    (match b.head with | none => hv = .non | some (h, sl) => hv = .str h ∧ (h, sl) ∈ tbS b.wanted ∧ ∃ sa, sv = .ref sa ∧ ∀ H', SqT K H' sa (sortsV sl))
def BrsAt (K : PySem.W.Frag) (C : Addr) (H : Hp) : List Addr → List Addr → List Br → Prop
  | a :: as, fa :: fas, b :: bs => BrAt K C H a fa b ∧ BrsAt K C H as fas bs
  | [], [], [] => True
  | _, _, _ => False
theorem nt_ins {H : Hp} {b C dx : Addr} {fs : List (Str × V)} (h : H b = some (.ins C dx fs)) : ∀ xs, ¬ Rd H b (.tup xs) := fun xs z => by
  rcases z with z | ⟨o, z⟩
  · rw [h] at z
    cases z
  · rw [h] at z
    cases z
theorem BrAt.off {K : PySem.W.Frag} {C : Addr} {H H' : Hp} {l : List Addr} {a fa : Addr} {b : Br} (h : BrAt K C H a fa b) (hl : NT l H) (na : a ∉ l) (nf : fa ∉ l) (o : Off l H H') : BrAt K C H' a fa b := by
  obtain ⟨dx, fs, hv, sv, vs, h1, h2, h3, h4, h5, h6, h7⟩ := h.ex
  exact ⟨dx, fs, hv, sv, vs, o.get h1 na, h2, o.get h3 nf, DpAll.off h4 hl h5 o, h5, h6, h7⟩
theorem BrsAt.off {K : PySem.W.Frag} {C : Addr} {H H' : Hp} {l : List Addr} (hl : NT l H) (o : Off l H H') : ∀ {as fas : List Addr} {bs : List Br}, BrsAt K C H as fas bs → (∀ a ∈ as, a ∉ l) → (∀ a ∈ fas, a ∉ l) → BrsAt K C H' as fas bs
  | _ :: _, _ :: _, _ :: _, h, n1, n2 => ⟨h.1.off hl (n1 _ List.mem_cons_self) (n2 _ List.mem_cons_self) o, BrsAt.off hl o h.2 (fun a z => n1 a (List.mem_cons_of_mem _ z)) fun a z => n2 a (List.mem_cons_of_mem _ z)⟩
  | [], [], [], _, _, _ => trivial
  | _ :: _, [], _, h, _, _ => h.elim
  | [], _ :: _, _, h, _, _ => h.elim
  | [], [], _ :: _, h, _, _ => h.elim
  | _ :: _, _ :: _, [], h, _, _ => h.elim
theorem BrsAt.len {K : PySem.W.Frag} {C : Addr} {H : Hp} : ∀ {as fas : List Addr} {bs : List Br}, BrsAt K C H as fas bs → as.length = bs.length ∧ fas.length = bs.length
  | _ :: _, _ :: _, _ :: _, h => ⟨congrArg (· + 1) (BrsAt.len h.2).1, congrArg (· + 1) (BrsAt.len h.2).2⟩
  | [], [], [], _ => ⟨rfl, rfl⟩
  | _ :: _, [], _, h => h.elim
  | [], _ :: _, _, h => h.elim
  | [], [], _ :: _, h => h.elim
  | _ :: _, _ :: _, [], h => h.elim
theorem BrsAt.snoc {K : PySem.W.Frag} {C : Addr} {H : Hp} {a fa : Addr} {b : Br} : ∀ {as fas : List Addr} {bs : List Br}, BrsAt K C H as fas bs → BrAt K C H a fa b → BrsAt K C H (as ++ [a]) (fas ++ [fa]) (bs ++ [b])
  | _ :: _, _ :: _, _ :: _, h, g => ⟨h.1, h.2.snoc g⟩
  | [], [], [], _, g => ⟨g, trivial⟩
  | _ :: _, [], _, h, _ => h.elim
  | [], _ :: _, _, h, _ => h.elim
  | [], [], _ :: _, h, _ => h.elim
  | _ :: _, _ :: _, [], h, _ => h.elim
theorem BrsAt.unsnoc {K : PySem.W.Frag} {C : Addr} {H : Hp} {b : Br} : ∀ {as fas : List Addr} {bs : List Br}, BrsAt K C H as fas (bs ++ [b]) → ∃ as2 fas2 a fa, as = as2 ++ [a] ∧ fas = fas2 ++ [fa] ∧ BrsAt K C H as2 fas2 bs ∧ BrAt K C H a fa b
  | a :: as, fa :: fas, [], h => by
    cases as with
    | nil =>
      cases fas with
      | nil => exact ⟨[], [], a, fa, rfl, rfl, trivial, h.1⟩
      | cons _ _ => exact h.2.elim
    | cons x as =>
      cases fas <;> exact h.2.elim
  | a :: as, fa :: fas, b0 :: bs, h => by
    obtain ⟨as2, fas2, a2, fa2, rfl, rfl, h1, h2⟩ := BrsAt.unsnoc (bs := bs) h.2
    exact ⟨a :: as2, fa :: fas2, a2, fa2, rfl, rfl, ⟨h.1, h1⟩, h2⟩
  | [], [], bs, h => by cases bs <;> exact h.elim
  | _ :: _, [], bs, h => by cases bs <;> exact h.elim
  | [], _ :: _, bs, h => by cases bs <;> exact h.elim
def TreeAt (K : PySem.W.Frag) (H : Hp) (v : V) : Option PyData → Prop
  | none => v = .non
  | some d => Dp K H v d ∧ nl d = true
/-- the reader at r: what is its own lies at the addresses l -/
structure RdAt (K : PySem.W.Frag) (C CBr : Addr) (H : Hp) (r : Addr) (l : List Addr) (S : PSt) : Prop where
  ex : ∃ dx fs L t as fas, l = r :: L :: (as ++ fas) ∧ H r = some (.ins C dx fs) ∧ FR fs L t ∧ H L = some (.lst (as.map V.ref)) ∧ BrsAt K CBr H as fas S.brs ∧ TreeAt K H t S.tree ∧ l.Nodup
theorem BrsAt.nt {K : PySem.W.Frag} {C : Addr} {H : Hp} : ∀ {as fas : List Addr} {bs : List Br}, BrsAt K C H as fas bs → NT as H ∧ NT fas H
  | _ :: _, _ :: _, _ :: _, h => by
    obtain ⟨dx, fs, hv, sv, vs, h1, h2, h3, _⟩ := h.1.ex
    exact ⟨.cons (nt_ins h1) (BrsAt.nt h.2).1, .cons (nt_lst h3) (BrsAt.nt h.2).2⟩
  | [], [], [], _ => ⟨.nil, .nil⟩
  | _ :: _, [], _, h => h.elim
  | [], _ :: _, _, h => h.elim
  | [], [], _ :: _, h => h.elim
  | _ :: _, _ :: _, [], h => h.elim
theorem BrsAt.tr {K : PySem.W.Frag} {C : Addr} {H : Hp} : ∀ {as fas : List Addr} {bs : List Br}, BrsAt K C H as fas bs → Tr as H ∧ Tr fas H
  | _ :: _, _ :: _, _ :: _, h => by
    obtain ⟨dx, fs, hv, sv, vs, h1, h2, h3, _⟩ := h.1.ex
    obtain ⟨t1, t2⟩ := BrsAt.tr h.2
    refine ⟨fun b hb => ?_, fun b hb => ?_⟩
    · rcases List.mem_cons.mp hb with z | z
      · rw [z, h1]; exact fun z => nomatch z
      · exact t1 b z
    · rcases List.mem_cons.mp hb with z | z
      · rw [z, h3]; exact fun z => nomatch z
      · exact t2 b z
  | [], [], [], _ => ⟨(fun _ z => nomatch z), (fun _ z => nomatch z)⟩
  | _ :: _, [], _, h => h.elim
  | [], _ :: _, _, h => h.elim
  | [], [], _ :: _, h => h.elim
  | _ :: _, _ :: _, [], h => h.elim
theorem RdAt.nt {K : PySem.W.Frag} {C CBr : Addr} {H : Hp} {r : Addr} {l : List Addr} {S : PSt} (h : RdAt K C CBr H r l S) : NT l H ∧ Tr l H := by
  obtain ⟨dx, fs, L, t, as, fas, rfl, h1, h2, h3, h4, h5, h6⟩ := h.ex
  obtain ⟨n1, n2⟩ := h4.nt
  obtain ⟨t1, t2⟩ := h4.tr
  refine ⟨.cons (nt_ins h1) (.cons (nt_lst h3) fun b hb => (List.mem_append.mp hb).elim (n1 b) (n2 b)), fun b hb => ?_⟩
  rcases List.mem_cons.mp hb with z | hb
  · rw [z, h1]; exact fun z => nomatch z
  · rcases List.mem_cons.mp hb with z | hb
    · rw [z, h3]; exact fun z => nomatch z
    · exact (List.mem_append.mp hb).elim (t1 b) (t2 b)
theorem TreeAt.off {K : PySem.W.Frag} {H H' : Hp} {l : List Addr} {v : V} {o : Option PyData} (h : TreeAt K H v o) (hl : NT l H) (f : Off l H H') : TreeAt K H' v o := by
  cases o with
  | none => exact h
  | some d => exact ⟨Dp.off h.1 hl h.2 f, h.2⟩
/-- what is not the reader's may change -/
theorem RdAt.off {K : PySem.W.Frag} {C CBr : Addr} {H H' : Hp} {r : Addr} {l m : List Addr} {S : PSt} (h : RdAt K C CBr H r l S) (hm : NT m H) (n : ∀ a ∈ l, a ∉ m) (o : Off m H H') : RdAt K C CBr H' r l S := by
  obtain ⟨dx, fs, L, t, as, fas, rfl, h1, h2, h3, h4, h5, h6⟩ := h.ex
  refine ⟨dx, fs, L, t, as, fas, rfl, o.get h1 (n _ (by simp)), h2, o.get h3 (n _ (by simp)), h4.off hm o (fun a z => n a (by simp [z])) (fun a z => n a (by simp [z])), h5.off hm o, h6⟩
theorem RdAt.same {K : PySem.W.Frag} {C CBr : Addr} {H H' : Hp} {r : Addr} {l : List Addr} {S : PSt} (h : RdAt K C CBr H r l S) (s : Same H H') : RdAt K C CBr H' r l S :=
  h.off (m := []) .nil (fun _ _ z => nomatch z) (Off.of s)
abbrev sBIni : Stmt := inClass (topS 17) 0
abbrev sRIni : Stmt := inClass (topS 18) 0
abbrev sKeep : Stmt := topS 23
theorem scBIni : FnScope ["self", "wanted"] ["self", "wanted"] (defScope sBIni) := ⟨rfl, rfl, rfl, by decide +kernel, rfl, by decide +kernel, by decide +kernel⟩
theorem scRIni : FnScope ["self"] ["self"] (defScope sRIni) := ⟨rfl, rfl, rfl, by decide +kernel, rfl, by decide +kernel, by decide +kernel⟩
theorem scKeep : FnScope ["reader", "thing"] ["reader", "thing"] (defScope sKeep) := ⟨rfl, rfl, rfl, by decide +kernel, rfl, by decide +kernel, by decide +kernel⟩
def spRIni (C : Addr) : Sp := fun vs H Q _ => ∃ a dx, vs = [.ref a] ∧ H a = some (.ins C dx []) ∧ ∀ L fs H', H' a = some (.ins C dx fs) → FR fs L .non → H' L = some (.lst []) → L ≠ a → H L = none → (∀ b u, b ≠ a → H b = some u → H' b = some u) → Q .non H'
def spBIni (C : Addr) : Sp := fun vs H Q _ => ∃ a dx ws, vs = [.ref a, .str ws] ∧ H a = some (.ins C dx []) ∧ ∀ fa t fs H', H' a = some (.ins C dx fs) → FB fs (.str ws) .non (.ref t) fa → H' fa = some (.lst []) → fa ≠ a → H fa = none → (∀ b u, b ≠ a → H b = some u → H' b = some u) → Q .non H'
def spKeep (K : PySem.W.Frag) (C CBr : Addr) : Sp := fun vs H Q _ => ∃ r v bs d l, vs = [.ref r, v] ∧ RdAt K C CBr H r l ⟨bs, none⟩ ∧ Dp K H v d ∧ nl d = true ∧ (∀ b ∈ bs, b.found.length < 5000000) ∧ ∀ H', RdAt K C CBr H' r l (keepP bs d) → Off l H H' → Q .non H'
theorem last_new {l : List Addr} {a : Addr} (h : (l ++ [a]).Nodup) : ∀ x ∈ l, x ≠ a := fun x hx e => (List.nodup_append.mp h).2.2 x hx a (by simp) e
section
variable {P : Program} {w : World} {K : PySem.W.Frag} {mg : Str → Option Value} {base : Heap} {f : Addr} {fd : FuncData} {C CBr : Addr}
theorem ok_rini {k : Nat} (F : Fun K "__init__" "Reader.__init__" sRIni f fd) (T : CR K mg C) : FnOk P w K mg base CX0 (k + 1) f fd ["self"] (spRIni C) := by
  refine F.ok scRIni (fun vs H Q E h => ?_) (fun cdv A outer s H vs Q E hr h => ?_)
  · obtain ⟨a, dx, rfl, _⟩ := h
    rfl
  obtain ⟨a, dx, rfl, ha, q⟩ := h
  refine ⟨_, pss_cons (ps_fld (pv 0) (pe_lst pa_nil) rfl) (pss_one (ps_fld (pv 0) pe_non rfl)), ?_⟩
  refine ⟨by decide, fun L hL => ?_⟩
  have naL : a ≠ L := ne_of_none ha hL
  refine ⟨_, rfl, a, C, dx, [], rfl, by rw [upd_ne naL]; exact ha, T.cl, T.nb, (by show 0 < 1000; decide), _, rfl, a, C, dx, _, rfl, upd_same, T.cl, T.nt, (by show 1 < 1000; decide), ?_⟩
  refine q L _ _ upd_same ⟨?_, ?_, ?_⟩ (by rw [upd_ne naL.symm, upd_ne naL.symm]; exact upd_same) naL.symm hL (fun b u n z => by rw [upd_ne n, upd_ne n, upd_ne (ne_of_none z hL)]; exact z)
  · rw [lookup_putF, if_neg nbt, lookup_putF, if_pos rfl]
  · rw [lookup_putF, if_pos rfl]
  · have e : (putF "tree" V.non (putF "brackets" (.ref L) [])).length = 2 := by
      show (if ("brackets" : Str) = "tree" then _ else _ : List (Str × V)).length = 2
      rw [if_neg nbt]
      rfl
    rw [e]
    decide
theorem putF_le (f : Str) (v : V) : ∀ fs : List (Str × V), (putF f v fs).length ≤ fs.length + 1
  | [] => by simp [putF]
  | (g, x) :: r => by
    have ih := putF_le f v r
    show (if g = f then (g, v) :: r else (g, x) :: putF f v r).length ≤ _
    split
    · simp
    · simp only [List.length_cons]
      omega
theorem ok_bini {k : Nat} (F : Fun K "__init__" "Bracket.__init__" sBIni f fd) (T : CB K mg C) : FnOk P w K mg base CX0 (k + 1) f fd ["self", "wanted"] (spBIni C) := by
  refine F.ok scBIni (fun vs H Q E h => ?_) (fun cdv A outer s H vs Q E hr h => ?_)
  · obtain ⟨a, dx, ws, rfl, _⟩ := h
    rfl
  obtain ⟨a, dx, ws, rfl, ha, q⟩ := h
  refine ⟨_, pss_cons (ps_fld (pv 0) (pv 1) rfl) (pss_cons (ps_fld (pv 0) pe_non rfl) (pss_cons (ps_fld (pv 0) (pe_tup pa_nil) rfl) (pss_one (ps_fld (pv 0) (pe_lst pa_nil) rfl)))), ?_⟩
  have l1 := putF_le "wanted" (.str ws) []
  have l2 := putF_le "head" .non (putF "wanted" (.str ws) [])
  simp only [List.length_nil] at l1
  refine ⟨_, rfl, _, rfl, a, C, dx, [], rfl, ha, T.cl, T.nw, (by show 0 < 1000; decide), _, rfl, a, C, dx, _, rfl, upd_same, T.cl, T.nh, by omega, by decide, fun t ht => ?_⟩
  have nat : a ≠ t := ne_of_none upd_same ht
  have l3 := putF_le "sorts" (.ref t) (putF "head" .non (putF "wanted" (.str ws) []))
  refine ⟨_, rfl, a, C, dx, _, rfl, by rw [upd_ne nat]; exact upd_same, T.cl, T.ns, by omega, by decide, fun fa hfa => ?_⟩
  have naf : a ≠ fa := ne_of_none upd_same hfa
  have l4 := putF_le "found" (.ref fa) (putF "sorts" (.ref t) (putF "head" .non (putF "wanted" (.str ws) [])))
  refine ⟨_, rfl, a, C, dx, _, rfl, by rw [upd_ne naf]; exact upd_same, T.cl, T.nf, by omega, ?_⟩
  have ht0 : H t = none := by
    rw [upd_ne nat.symm, upd_ne nat.symm] at ht
    exact ht
  have hf0 : H fa = none := by
    rw [upd_ne naf.symm] at hfa
    by_cases e : fa = t
    · rw [e]; exact ht0
    · rw [upd_ne e, upd_ne naf.symm, upd_ne naf.symm] at hfa
      exact hfa
  refine q fa t _ _ upd_same ⟨?_, ?_, ?_, ?_, by omega⟩ (by rw [upd_ne naf.symm]; exact upd_same) naf.symm hf0 (fun b u n z => by rw [upd_ne n, upd_ne (ne_of_none z hf0), upd_ne n, upd_ne (ne_of_none z ht0), upd_ne n, upd_ne n]; exact z)
  · rw [lookup_putF, if_neg nwf, lookup_putF, if_neg nws, lookup_putF, if_neg nwh, lookup_putF, if_pos rfl]
  · rw [lookup_putF, if_neg nhf, lookup_putF, if_neg nhs, lookup_putF, if_pos rfl]
  · rw [lookup_putF, if_neg nsf, lookup_putF, if_pos rfl]
  · rw [lookup_putF, if_pos rfl]
theorem ok_keep {k : Nat} (F : Fun K "keep" "keep" sKeep f fd) (T : CR K mg C) (TB : CB K mg CBr) : FnOk P w K mg base CX0 (k + 1) f fd ["reader", "thing"] (spKeep K C CBr) := by
  refine F.ok scKeep (fun vs H Q E h => ?_) (fun cdv A outer s H vs Q E hr h => ?_)
  · obtain ⟨r, v, bs, d, l, rfl, _⟩ := h
    rfl
  obtain ⟨r, v, bs, d, l, rfl, hR, hd, nd, lf, q⟩ := h
  refine ⟨_, pss_one (ps_if (pt_truth (pe_fld (pv 0) rfl) (by intro _; rfl))
    (pss_one (ps_expr (pe_bm PySem.F.plainAttrs_list PySem.F.slot_list_append PySem.F.type_list_append mt_append (pe_fld (pe_ix ix_list (pe_fld (pv 0) rfl) (pe_un un_neg pe_int) (fun _ _ => rfl)) rfl) (pa_cons (pv 1) pa_nil))))
    (pss_one (ps_fld (pv 0) (pv 1) rfl))), ?_⟩
  obtain ⟨dx, fs, L, t, as, fas, el, h1, h2, h3, h4, h5, h6⟩ := hR.ex
  refine ⟨_, rfl, r, C, dx, fs, _, rfl, h1, T.cl, T.nb, h2.b, _, .inl ⟨_, SqL.of h3, rfl⟩, ?_⟩
  rcases List.eq_nil_or_concat bs with e | ⟨bs0, b, e⟩
  · subst e
    have la := h4.len
    have ea : as = [] := List.length_eq_zero_iff.mp la.1
    have ef : fas = [] := List.length_eq_zero_iff.mp la.2
    subst ea ef el
    refine iteF ⟨_, rfl, _, rfl, r, C, dx, fs, rfl, h1, T.cl, T.nt, by have := h2.n; omega, ?_⟩
    have nrL : r ≠ L := fun z => by
      rw [z] at h1
      rw [h1] at h3
      cases h3
    have o : Off [r] H (upd H r (.ins C dx (putF "tree" v fs))) := Off.put (by simp)
    refine q _ ⟨dx, _, L, v, [], [], rfl, upd_same, h2.tree, by rw [upd_ne nrL.symm]; exact h3, trivial, ⟨Dp.off hd (.cons (nt_ins h1) .nil) nd o, nd⟩, h6⟩ (o.mono fun b hb => by simp at hb; simp [hb])
  · rw [List.concat_eq_append] at e
    subst e
    obtain ⟨as2, fas2, a, fa, rfl, rfl, g1, g2⟩ := h4.unsnoc
    obtain ⟨dx2, fs2, hv, sv, vs, k1, k2, k3, k4, k5, k6, k7⟩ := g2.ex
    have ne : (!((as2 ++ [a]).map V.ref).isEmpty) = true := by simp
    rw [ne]
    have al : atI ((as2 ++ [a]).map V.ref) (-1) = some (.ref a) := by
      rw [List.map_append]
      exact atI_last _ _
    have lb := lf b (by simp)
    refine iteT ⟨_, rfl, r, C, dx, fs, _, rfl, h1, T.cl, T.nb, h2.b, 1, rfl, L, _, -1, .ref a, rfl, rfl, SqL.of h3, al, a, CBr, dx2, fs2, .ref fa, rfl, k1, TB.cl, TB.nf, k2.f, .inl ⟨rfl, _, SqL.of k3⟩, _, rfl, fa, vs, v, rfl, rfl, k3, ?_, ?_⟩
    · have := DpAll.len k4
      exact Nat.lt_of_le_of_lt (by omega : vs.length ≤ 16000000) (by decide)
    have o : Off [fa] H (upd H fa (.lst (vs ++ [v]))) := Off.put (by simp)
    have ntf : NT [fa] H := .cons (nt_lst k3) .nil
    have el2 : l = (r :: L :: (as2 ++ [a] ++ fas2)) ++ [fa] := by rw [el]; simp
    have ln := last_new (el2 ▸ h6)
    refine q _ ?_ (o.mono fun b hb => by rw [List.mem_singleton.mp hb, el2]; simp)
    rw [keepP_snoc]
    refine ⟨dx, fs, L, t, as2 ++ [a], fas2 ++ [fa], el, by rw [upd_ne (ln r (by simp))]; exact h1, h2, by rw [upd_ne (ln L (by simp))]; exact h3, ?_, h5, h6⟩
    refine (g1.off ntf o (fun x hx => by simpa using ln x (by simp [hx])) (fun x hx => by simpa using ln x (by simp [hx]))).snoc ?_
    refine ⟨dx2, fs2, hv, sv, vs ++ [v], by rw [upd_ne (ln a (by simp))]; exact k1, k2, upd_same, ?_, ?_, ?_, k7⟩
    · exact DpAll.app (DpAll.off k4 ntf k5 o) (.cons (Dp.off hd ntf nd o) .nil)
    · show nls (b.found ++ [d]) = true
      rw [nls_app, k5]
      simp only [nls, nd, Bool.and_self]
    · show (b.found ++ [d]).length ≤ 5000000
      rw [List.length_append, List.length_singleton]
      omega
end
abbrev sClose : Stmt := topS 22
abbrev sHead : Stmt := topS 21
theorem scClose : FnScope ["reader", "bracket", "found", "many"] ["reader"] (defScope sClose) := ⟨rfl, rfl, rfl, by decide +kernel, rfl, by decide +kernel, by decide +kernel⟩
theorem scHead : FnScope ["reader", "word", "bracket", "sorts"] ["reader", "word"] (defScope sHead) := ⟨rfl, rfl, rfl, by decide +kernel, rfl, by decide +kernel, by decide +kernel⟩
/-- one word is read by a reader without a tree -/
def Reads (K : PySem.W.Frag) (C CBr : Addr) (H : Hp) (r : Addr) (l : List Addr) (S : PSt) (Q : VK) : Prop := ∀ H' l', RdAt K C CBr H' r l' S → Off l H H' → (∀ b ∈ l', b ∈ l ∨ H b = none) → Q (.bl true) H'
def spClose (K : PySem.W.Frag) (C CBr : Addr) : Sp := fun vs H Q _ => ∃ r bs s h sl found l, vs = [.ref r] ∧ RdAt K C CBr H r l ⟨bs ++ [⟨s, some (h, sl), found⟩], none⟩ ∧ DoneP sl found ∧ (∀ b ∈ bs, b.found.length < 5000000) ∧ Reads K C CBr H r l (keepP bs (.tuple (.str h :: packed sl found))) Q
def spHead (K : PySem.W.Frag) (C CBr : Addr) : Sp := fun vs H Q _ => ∃ r bs s h sl l, vs = [.ref r, .str h] ∧ RdAt K C CBr H r l ⟨bs ++ [⟨s, none, []⟩], none⟩ ∧ (h, sl) ∈ tbS s ∧ h ∉ leafHeads ∧ (116 ∈ sl.cps.toList → bs.length + 1 < 40) ∧ Reads K C CBr H r l ⟨bs ++ [⟨s, some (h, sl), []⟩], none⟩ Q
theorem sorts_last (sl : Str) (ne : sl.cps.toList ≠ []) : ∃ c, atI (sortsV sl) (-1) = some (.str (sortS c)) ∧ sl.cps.toList.getLast? = some c := by
  unfold sortsV
  have e := List.dropLast_concat_getLast ne
  refine ⟨sl.cps.toList.getLast ne, ?_, List.getLast?_eq_some_getLast ne⟩
  generalize sl.cps.toList.getLast ne = c at e
  rw [← e, List.map_append]
  exact atI_last _ _
theorem sortS_s : ∀ c : Nat, (sortS c = "expressions") = (c = 115) := by
  intro c
  unfold sortS
  refine propext ⟨fun h => ?_, fun h => by subst h; rfl⟩
  revert h
  repeat' split
  all_goals first
    | exact fun _ => by assumption
    | exact fun h => absurd h (by decide +kernel)
theorem sl_ne : ∀ p ∈ allL, p.2.cps.toList ≠ [] := by decide +kernel
theorem sl_len : ∀ p ∈ allL, p.2.cps.toList.length ≤ 10 := by decide +kernel
section
variable {P : Program} {w : World} {K : PySem.W.Frag} {mg : Str → Option Value} {base : Heap} {f fK : Addr} {fd dK : FuncData} {C CBr : Addr}
theorem ok_close {k : Nat} (F : Fun K "close_bracket" "close_bracket" sClose f fd) (T : CR K mg C) (TB : CB K mg CBr) (mn : mg "len" = none) (mt : mg "tuple" = none) (GK : Dn P w K mg base 1 "keep" ["reader", "thing"] (spKeep K C CBr) fK dK) :
    FnOk P w K mg base CX0 (k + 2) f fd ["reader"] (spClose K C CBr) := by
  refine F.ok scClose (fun vs H Q E h => ?_) (fun cdv A outer s H vs Q E hr h => ?_)
  · obtain ⟨r, bs, s, h, sl, found, l, rfl, _⟩ := h
    rfl
  obtain ⟨r, bs, st, h, sl, found, l, rfl, hR, hdn, lf, q⟩ := h
  have hr1 : Room 1 _ := hr.mono (by omega)
  refine ⟨_, pss_cons (ps_set (i := 1) scClose.nd rfl (.inl rfl) (pe_bm0 PySem.F.plainAttrs_list PySem.F.slot_list_pop PySem.F.type_list_pop mt_pop (pe_fld (pv 0) rfl)))
    (pss_cons (ps_set (i := 2) scClose.nd rfl (.inl rfl) (pe_fld (pv 1) rfl))
    (C8.pss_cut (ps_if (pt_cmpR op_eq (pe_ix ix_tup (pe_fld (pv 1) rfl) (pe_un un_neg pe_int) (fun _ _ => rfl)) pe_str (nomark _))
      (pss_cons (ps_set (i := 3) scClose.nd rfl (.inl rfl) (pe_op op_sub (pe_callB call_len_seq (by rfl) mn PySem.boot_len (pa_cons (pe_fld (pv 1) rfl) pa_nil)) pe_int))
      (pss_one (ps_set (i := 2) scClose.nd rfl (.inl rfl) (pe_lst (StX.pa_star (pe_slice sl_list (pv 2) po_none (po_some (pv 3))) (pa_cons (pe_callTy call_tuple_of (by rfl) mt b_tup (pa_cons (pe_slice sl_list (pv 2) (po_some (pv 3)) po_none) pa_nil)) pa_nil)))))) pss_nil)
    (pss_cons (ps_expr (pe_call GK.ok hr1 (by rfl) GK.mg GK.kp GK.bd .nil pass0 (pa_cons (pv 0) (pa_cons (pe_tup (pa_cons (pe_fld (pv 1) rfl) (StX.pa_star (pv 2) pa_nil))) pa_nil))))
    (pss_one (ps_ret pe_bl))))), ?_⟩
  obtain ⟨dx, fs, L, t, as, fas, el, h1, h2, h3, h4, h5, h6⟩ := hR.ex
  obtain ⟨as2, fas2, a, fa, rfl, rfl, g1, g2⟩ := h4.unsnoc
  obtain ⟨dx2, fs2, hv, sv, vs, k1, k2, k3, k4, k5, k6, k7⟩ := g2.ex
  obtain ⟨rfl, mm, sa, rfl, sq⟩ := k7
  have k4 : DpAll K H vs found := k4
  have k5 : nls found = true := k5
  have k6 : found.length ≤ 5000000 := k6
  have mm : (h, sl) ∈ tbS st := mm
  have h3' : H L = some (.lst (as2.map V.ref ++ [.ref a])) := by rw [h3, List.map_append]; rfl
  refine ⟨_, rfl, r, C, dx, fs, _, rfl, h1, T.cl, T.nb, h2.b, .inl ⟨rfl, _, SqL.of h3'⟩, L, _, .ref a, rfl, rfl, h3', last_at _ _, ?_⟩
  rw [drop_last]
  have o1 : Off [L] H (upd H L (.lst (as2.map V.ref))) := Off.put (by simp)
  have ntL : NT [L] H := .cons (nt_lst h3) .nil
  have nd := h6
  rw [el] at nd
  have nL : ∀ x ∈ r :: (as2 ++ [a] ++ (fas2 ++ [fa])), x ≠ L := by
    have e : (L :: r :: (as2 ++ [a] ++ (fas2 ++ [fa]))).Nodup := (List.Perm.nodup_iff (List.Perm.swap _ _ _)).mp nd
    intro x hx z
    rw [z] at hx
    exact (List.nodup_cons.mp e).1 hx
  have w1 : (upd H L (.lst (as2.map V.ref))) L = some (.lst (as2.map V.ref)) := upd_same
  have r1 : (upd H L (.lst (as2.map V.ref))) r = some (.ins C dx fs) := by rw [upd_ne (nL r (by simp))]; exact h1
  have a1 : (upd H L (.lst (as2.map V.ref))) a = some (.ins CBr dx2 fs2) := by rw [upd_ne (nL a (by simp))]; exact k1
  have f1 : (upd H L (.lst (as2.map V.ref))) fa = some (.lst vs) := by rw [upd_ne (nL fa (by simp))]; exact k3
  have d1 : DpAll K (upd H L (.lst (as2.map V.ref))) vs found := DpAll.off k4 ntL k5 o1
  have R1 : RdAt K C CBr (upd H L (.lst (as2.map V.ref))) r (r :: L :: (as2 ++ fas2)) ⟨bs, none⟩ := by
    refine ⟨dx, fs, L, t, as2, fas2, rfl, r1, h2, w1, g1.off ntL o1 (fun x hx => by simpa using nL x (by simp [hx])) (fun x hx => by simpa using nL x (by simp [hx])), h5, ?_⟩
    refine List.Nodup.sublist ?_ nd
    refine .cons_cons _ (.cons_cons _ ?_)
    exact List.Sublist.append (List.sublist_append_left _ _) (List.sublist_append_left _ _)
  generalize upd H L (.lst (as2.map V.ref)) = H1 at *
  have ne := sl_ne _ (tbS_all _ mm)
  have lsl := sl_len _ (tbS_all _ mm)
  simp only at ne lsl
  obtain ⟨c, al, gl⟩ := sorts_last sl ne
  have lvs := DpAll.len d1
  refine ⟨_, rfl, a, CBr, dx2, fs2, _, rfl, a1, TB.cl, TB.nf, k2.f, ?_⟩
  refine ⟨fun σ H2 => ∃ fo m xs, σ = [some (.ref r), some (.ref a), some (.ref fo), m] ∧ H2 fo = some (.lst xs) ∧ DpAll K H2 xs (packed sl found) ∧ Same H1 H2, ?_, ?_⟩
  · refine ⟨_, rfl, a, CBr, dx2, fs2, _, rfl, a1, TB.cl, TB.ns, k2.s, 1, rfl, sa, _, -1, _, rfl, rfl, sq H1, al, rfl, _, rfl, ite2 (fun cc => ?_) (fun cc => ?_)⟩
    · have c115 : c = 115 := by
        have z : sortS c = "expressions" := V.str.inj (of_decide_eq_true cc)
        rw [sortS_s] at z
        exact z
      subst c115
      have ls : (sortsV sl).length = sl.cps.toList.length := by simp [sortsV]
      have hdn2 : sl.cps.toList.length - 1 ≤ found.length := by
        unfold DoneP at hdn
        rw [if_pos gl] at hdn
        exact hdn
      have pos : 1 ≤ sl.cps.toList.length := List.length_pos_iff.mpr ne
      refine ⟨_, rfl, a, CBr, dx2, fs2, _, rfl, a1, TB.cl, TB.ns, k2.s, sa, _, rfl, .inr (sq H1), _, _, rfl, rfl, ?_⟩
      rw [ls]
      have ez : ((sl.cps.toList.length : Nat) : Int) - 1 = ((sl.cps.toList.length - 1 : Nat) : Int) := by omega
      refine ⟨_, rfl, _, rfl, _, rfl, fa, vs, rfl, SqL.of f1, fun p1 hp1 => ⟨p1, _, rfl, .inr (SqL.of upd_same), ?_⟩⟩
      have s1 : Same H1 (upd H1 p1 (.lst (cutV vs none (some (((sl.cps.toList.length : Nat) : Int) - 1))))) := same_new hp1 _
      refine ⟨_, rfl, _, rfl, _, rfl, fa, vs, rfl, SqL.of (s1 _ _ f1), fun p2 hp2 => ⟨p2, _, rfl, .inl ⟨SqL.of upd_same, fun t1 ht1 => ⟨?_, fun fo hfo => ?_⟩⟩⟩⟩
      · rw [List.length_append]
        have := cutV_length vs none (some (((sl.cps.toList.length : Nat) : Int) - 1))
        exact few3 (by simp only [List.length_cons, List.length_nil]; omega)
      · have s2 := s1.trans (same_new (o := .lst (cutV vs (some (((sl.cps.toList.length : Nat) : Int) - 1)) none)) hp2)
        have s3 := s2.trans (same_new (o := .tup (cutV vs (some (((sl.cps.toList.length : Nat) : Int) - 1)) none)) ht1)
        have s4 := s3.trans (same_new (o := .lst (cutV vs none (some (((sl.cps.toList.length : Nat) : Int) - 1)) ++ [V.ref t1])) hfo)
        have ntf : t1 ≠ fo := ne_of_none upd_same hfo
        refine ⟨fo, _, _, rfl, upd_same, ?_, s4⟩
        unfold packed
        rw [if_pos gl, ez, cutV_take vs (by omega) (by omega), cutV_drop vs (by omega) (by omega), Int.toNat_natCast]
        have dd := Dp.ups s4 _ _ d1
        rw [ez, cutV_take vs (by omega) (by omega), cutV_drop vs (by omega) (by omega), Int.toNat_natCast] at dd
        refine DpAll.app (DpAll.parts dd _).1 (.cons (.tup (.inl (.inl (by rw [upd_ne ntf]; exact upd_same))) (DpAll.parts dd _).2) .nil)
    · have n115 : ¬ sl.cps.toList.getLast? = some 115 := fun z => cc (decide_eq_true (by
        rw [gl] at z
        rw [Option.some.inj z, V.str.injEq]
        decide +kernel))
      refine ⟨fa, _, vs, rfl, f1, ?_, Same.refl _⟩
      unfold packed
      rw [if_neg n115]
      exact d1
  · rintro σ H2 ⟨fo, m, xs, rfl, q1, q2, q3⟩
    have lp : (packed sl found).length ≤ 5000001 := by
      unfold packed
      split
      · simp only [List.length_append, List.length_take, List.length_cons, List.length_nil]
        omega
      · omega
    have lxs := DpAll.len q2
    refine ⟨_, rfl, _, rfl, a, CBr, dx2, fs2, _, rfl, q3 _ _ a1, TB.cl, TB.nh, k2.h, _, rfl, fo, xs, rfl, .inr (SqL.of q1), ?_, fun T1 hT1 => ?_⟩
    · exact few3 (by simp only [List.length_cons, List.length_append, List.length_nil]; omega)
    have s4 : Same H2 (upd H2 T1 (.tup (V.str h :: (xs ++ [])))) := same_new hT1 _
    have q2' : DpAll K H2 (xs ++ []) (packed sl found) := by
      rw [List.append_nil]
      exact q2
    have nlp : nls (packed sl found) = true := by
      unfold packed
      split
      · have z := congrArg nls (List.take_append_drop (sl.cps.toList.length - 1) found)
        rw [nls_app, k5, Bool.and_eq_true] at z
        rw [nls_app, z.1]
        simp only [nls, nl, z.2, Bool.and_self]
      · exact k5
    refine ⟨r, .ref T1, bs, .tuple (.str h :: packed sl found), _, rfl, R1.same (q3.trans s4), .tup (xs := .str h :: (xs ++ [])) (.inl (.inl upd_same)) (.cons (.str h) (Dp.ups s4 _ _ q2')), by simp only [nl, nls, nlp, Bool.and_self], lf, fun H' R' o' => ?_⟩
    have sub : ∀ b ∈ r :: L :: (as2 ++ fas2), b ∈ l := fun b hb => by
      rw [el]
      simp only [List.mem_cons, List.mem_append] at hb ⊢
      rcases hb with z | z | z | z
      · exact .inl z
      · exact .inr (.inl z)
      · exact .inr (.inr (.inl (.inl z)))
      · exact .inr (.inr (.inr (.inl z)))
    refine q H' _ R' ?_ fun b hb => .inl (sub b hb)
    exact (o1.mono fun b hb => by rw [List.mem_singleton.mp hb, el]; simp).trans ((Off.of (q3.trans s4)).trans (o'.mono sub))
theorem ok_head {k : Nat} {fS : Addr} {dS : FuncData} (F : Fun K "read_head" "read_head" sHead f fd) (T : CR K mg C) (TB : CB K mg CBr) (mn : mg "len" = none) {tk : Tok} (mM : mg "MOST_BRACKETS" = some (.int 40 tk)) (GS : Dn P w K mg base 1 "sorts_behind" ["word", "wanted"] (spSorts K) fS dS) :
    FnOk P w K mg base CX0 (k + 2) f fd ["reader", "word"] (spHead K C CBr) := by
  refine F.ok scHead (fun vs H Q E h => ?_) (fun cdv A outer s H vs Q E hr h => ?_)
  · obtain ⟨r, bs, s, h, sl, l, rfl, _⟩ := h
    rfl
  obtain ⟨r, bs, st, h, sl, l, rfl, hR, m, n, lt, q⟩ := h
  have hr1 : Room 1 _ := hr.mono (by omega)
  refine ⟨_, pss_cons (ps_set (i := 2) scHead.nd rfl (.inl rfl) (pe_ix ix_list (pe_fld (pv 0) rfl) (pe_un un_neg pe_int) (fun _ _ => rfl)))
    (pss_cons (ps_set (i := 3) scHead.nd rfl (.inl rfl) (pe_call GS.ok hr1 (by rfl) GS.mg GS.kp GS.bd .nil pass0 (pa_cons (pv 1) (pa_cons (pe_fld (pv 2) rfl) pa_nil))))
    (pss_cons (ps_if (PW.pt (pw_or (pt_cmp (pc_isN (pv 3))) (pw_or1 (pt_cmpR op_in_seq (pv 1) (pe_tup (pa_cons pe_str (pa_cons pe_str (pa_cons pe_str pa_nil)))) rfl)))) (pss_one (ps_ret pe_bl)) pss_nil)
    (pss_cons (ps_if (PW.pt (pw_and (pt_cmpR op_in_seq pe_str (pv 3) rfl) (pw_and1 (pt_cmpR op_eq (pe_callB call_len_seq (by rfl) mn PySem.boot_len (pa_cons (pe_fld (pv 0) rfl) pa_nil)) (pe_glob (by rfl) mM (v := .int 40) ⟨_, rfl⟩) (nomark _))))) (pss_one (ps_ret pe_bl)) pss_nil)
    (pss_cons (ps_fld (pv 2) (pv 1) rfl)
    (pss_cons (ps_fld (pv 2) (pv 3) rfl)
    (pss_one (ps_ret pe_bl))))))), ?_⟩
  obtain ⟨dx, fs, L, t, as, fas, el, h1, h2, h3, h4, h5, h6⟩ := hR.ex
  have lbs := h4.len
  obtain ⟨as2, fas2, a, fa, rfl, rfl, g1, g2⟩ := h4.unsnoc
  obtain ⟨dx2, fs2, hv, sv, vs, k1, k2, k3, k4, k5, k6, k7⟩ := g2.ex
  have al : atI ((as2 ++ [a]).map V.ref) (-1) = some (.ref a) := by
    rw [List.map_append]
    exact atI_last _ _
  have mA := tbS_all _ m
  have ew : wantedS st = wantS h := by
    unfold wantS
    cases st with
    | true =>
      have z := isT_t _ (show (h, sl) ∈ teL from m)
      simp only at z
      rw [z]
      rfl
    | false =>
      have z := isT_e _ (show (h, sl) ∈ exL from m)
      simp only at z
      rw [z]
      rfl
  have lsl := sl_len _ mA
  simp only at lsl
  have ls : (sortsV sl).length = sl.cps.toList.length := by simp [sortsV]
  have inS : inV (.str "test") (sortsV sl) = decide (116 ∈ sl.cps.toList) := by
    unfold sortsV
    generalize sl.cps.toList = cs
    induction cs with
    | nil => rfl
    | cons c cs ih =>
      have e1 : inV (.str "test") ((c :: cs).map fun c => V.str (sortS c)) = (eqV (.str (sortS c)) (.str "test") || inV (.str "test") (cs.map fun c => V.str (sortS c))) := rfl
      rw [e1, ih]
      have e2 : eqV (.str (sortS c)) (.str "test") = decide (c = 116) := by
        show (sortS c == ("test" : Str)) = _
        by_cases z : c = 116
        · subst z
          decide +kernel
        · rw [decide_eq_false z]
          refine beq_eq_false_iff_ne.mpr ?_
          unfold sortS
          repeat' split
          all_goals first
            | exact absurd (by assumption) z
            | decide +kernel
      rw [e2]
      by_cases z : c = 116
      · rw [z]
        simp
      · rw [decide_eq_false z, Bool.false_or]
        by_cases y : 116 ∈ cs
        · rw [decide_eq_true y, decide_eq_true (List.mem_cons_of_mem _ y)]
        · rw [decide_eq_false y, decide_eq_false (fun x => (List.mem_cons.mp x).elim (fun q => z q.symm) y)]
  refine ⟨_, rfl, r, C, dx, fs, _, rfl, h1, T.cl, T.nb, h2.b, 1, rfl, L, _, -1, .ref a, rfl, rfl, SqL.of h3, al, ?_⟩
  refine ⟨_, rfl, _, rfl, a, CBr, dx2, fs2, _, rfl, k1, TB.cl, TB.nw, k2.w, h, sl, by rw [← ew]; rfl, mA, fun sa sq => ?_⟩
  refine ⟨_, rfl, _, rfl, ?_⟩
  refine iteF ?_
  refine ⟨_, rfl, few (by simp), fun T1 hT1 => ⟨T1, _, rfl, .inr (.inl (.inl upd_same)), rfl, rfl, _, rfl, ite2 (fun cc => ?_) (fun cc => ?_)⟩⟩
  · exfalso
    apply n
    simp only [inV, List.any_cons, List.any_nil, eqV, Bool.or_false, Bool.or_eq_true, beq_iff_eq, Bool.false_eq_true, if_false] at cc
    unfold leafHeads
    simp only [List.mem_cons, List.not_mem_nil, or_false]
    rcases cc with z | z | z
    · exact .inl z.symm
    · exact .inr (.inr z.symm)
    · exact .inr (.inl z.symm)
  · have s1 : Same H (upd H T1 (.tup [.str "int", .str "atom", .str "name"])) := same_new hT1 _
    generalize upd H T1 (.tup [.str "int", .str "atom", .str "name"]) = H1 at s1
    have r1 := s1 _ _ h1
    have L1 := s1 _ _ h3
    have a1 := s1 _ _ k1
    have fl : (sortsV sl).all flatV = true := by
      unfold sortsV
      rw [List.all_map]
      exact List.all_eq_true.mpr fun _ _ => rfl
    have nd := h6
    rw [el] at nd
    have na : ∀ x, (x = r ∨ x = L ∨ x ∈ as2 ∨ x ∈ fas2 ∨ x = fa) → x ≠ a := by
      have e : (r :: L :: (as2 ++ [a] ++ (fas2 ++ [fa]))).Perm ((r :: L :: (as2 ++ (fas2 ++ [fa]))) ++ [a]) := by
        simp only [List.cons_append, List.append_assoc]
        exact .cons _ (.cons _ (List.Perm.append_left _ (by simpa using (List.perm_append_comm (l₁ := [a]) (l₂ := fas2 ++ [fa])))))
      have ln := last_new ((List.Perm.nodup_iff e).mp nd)
      intro x hx
      exact ln x (by simp only [List.mem_cons, List.mem_append, List.not_mem_nil, or_false]; rcases hx with z | z | z | z | z <;> simp [z])
    have o2 : Off [a] H1 (upd (upd H1 a (.ins CBr dx2 (putF "head" (.str h) fs2))) a (.ins CBr dx2 (putF "sorts" (.ref sa) (putF "head" (.str h) fs2)))) := (Off.put (by simp)).trans (Off.put (by simp))
    have ntA : NT [a] H1 := .cons (nt_ins a1) .nil
    have fin : RdAt K C CBr (upd (upd H1 a (.ins CBr dx2 (putF "head" (.str h) fs2))) a (.ins CBr dx2 (putF "sorts" (.ref sa) (putF "head" (.str h) fs2)))) r l ⟨bs ++ [⟨st, some (h, sl), []⟩], none⟩ := by
      refine ⟨dx, fs, L, t, as2 ++ [a], fas2 ++ [fa], el, o2.get r1 (by simpa using na r (by simp)), h2, o2.get L1 (by simpa using na L (by simp)), ?_, h5, h6⟩
      have g1' : BrsAt K CBr H1 as2 fas2 bs := g1.off (l := []) .nil (Off.of s1) (fun _ _ z => nomatch z) (fun _ _ z => nomatch z)
      refine (g1'.off ntA o2 (fun x hx => by simpa using na x (by simp [hx])) (fun x hx => by simpa using na x (by simp [hx]))).snoc ?_
      exact ⟨dx2, _, .str h, .ref sa, vs, upd_same, (k2.head).sorts, o2.get (s1 _ _ k3) (by simpa using na fa (by simp)), DpAll.off (Dp.ups s1 _ _ k4) ntA k5 o2, k5, k6, rfl, m, sa, rfl, sq⟩
    have q' := q _ l fin ((Off.of s1).trans (o2.mono fun b hb => by rw [List.mem_singleton.mp hb, el]; simp)) fun b hb => .inl hb
    have n1 : fs2.length < 1000 := by have := k2.n; omega
    have n2 : (putF "head" (V.str h) fs2).length < 1000 := by have := (k2.head (v := .str h)).n; omega
    have la2 : ((as2 ++ [a]).map V.ref).length = bs.length + 1 := by
      rw [List.length_map]
      have := lbs.1
      simpa using this
    refine ⟨_, rfl, sa, _, rfl, .inr (sq H1), rfl, fl, _, rfl, ite2 (fun c => ⟨_, rfl, r, C, dx, fs, _, rfl, r1, T.cl, T.nb, h2.b, L, _, rfl, .inl (SqL.of L1), rfl, _, rfl, ?_⟩) (fun c => iteF ?_)⟩
    · have c2 : inV (.str "test") (sortsV sl) = true := c
      rw [inS] at c2
      have := lt (of_decide_eq_true c2)
      rw [la2]
      have e : decide (V.int ((bs.length + 1 : Nat) : Int) = V.int 40) = false := decide_eq_false fun z => by
        have := V.int.inj z
        omega
      rw [e]
      refine iteF ⟨_, rfl, _, rfl, a, CBr, dx2, fs2, rfl, a1, TB.cl, TB.nh, n1, _, rfl, _, rfl, a, CBr, dx2, _, rfl, upd_same, TB.cl, TB.ns, n2, q'⟩
    · exact ⟨_, rfl, _, rfl, a, CBr, dx2, fs2, rfl, a1, TB.cl, TB.nh, n1, _, rfl, _, rfl, a, CBr, dx2, _, rfl, upd_same, TB.cl, TB.ns, n2, q'⟩
end
/-! words alone: numbers, names, kinds -/
abbrev sName : Stmt := topS 6
abbrev sNum : Stmt := topS 26
abbrev sCan : Stmt := topS 25
abbrev sLeaf : Stmt := topS 27
theorem scName : FnScope ["thing", "letter"] ["thing"] (defScope sName) := ⟨rfl, rfl, rfl, by decide +kernel, rfl, by decide +kernel, by decide +kernel⟩
theorem scNum : FnScope ["word", "digits", "digit"] ["word"] (defScope sNum) := ⟨rfl, rfl, rfl, by decide +kernel, rfl, by decide +kernel, by decide +kernel⟩
theorem scCan : FnScope ["word", "sort"] ["word", "sort"] (defScope sCan) := ⟨rfl, rfl, rfl, by decide +kernel, rfl, by decide +kernel, by decide +kernel⟩
theorem scLeaf : FnScope ["word"] ["word"] (defScope sLeaf) := ⟨rfl, rfl, rfl, by decide +kernel, rfl, by decide +kernel, by decide +kernel⟩
def digOk (c : Nat) : Bool := decide (48 ≤ c) && decide (c ≤ 57)
def digsOf : List Nat → List Nat
  | 45 :: r => r
  | cs => cs
def isNum (x : Str) : Bool := decide (1 ≤ (digsOf x.cps.toList).length) && decide ((digsOf x.cps.toList).length ≤ 18) && (digsOf x.cps.toList).all digOk && (decide ((digsOf x.cps.toList).head? ≠ some 48) || decide (x = "0"))
theorem cps_0 : (("0" : Str)).cps.toList = [48] := by decide +kernel
theorem cps_9 : (("9" : Str)).cps.toList = [57] := by decide +kernel
theorem ge_0 (c : Nat) : (!decide ((⟨#[c]⟩ : Str).cps.toList < ("0" : Str).cps.toList)) = decide (48 ≤ c) := by
  rw [cps_0]
  by_cases h : 48 ≤ c
  · have : ¬ ((⟨#[c]⟩ : Str).cps.toList < [48]) := fun z => by
      have := (one_lt c 48).mp z
      omega
    rw [decide_eq_false this, decide_eq_true h]
    rfl
  · have : ((⟨#[c]⟩ : Str).cps.toList < [48]) := (one_lt c 48).mpr (by omega)
    rw [decide_eq_true this, decide_eq_false h]
    rfl
theorem le_9 (c : Nat) : (!decide (("9" : Str).cps.toList < (⟨#[c]⟩ : Str).cps.toList)) = decide (c ≤ 57) := by
  rw [cps_9]
  by_cases h : c ≤ 57
  · have : ¬ (([57] : List Nat) < (⟨#[c]⟩ : Str).cps.toList) := fun z => by
      have := (one_lt 57 c).mp z
      omega
    rw [decide_eq_false this, decide_eq_true h]
    rfl
  · have : (([57] : List Nat) < (⟨#[c]⟩ : Str).cps.toList) := (one_lt 57 c).mpr (by omega)
    rw [decide_eq_true this, decide_eq_false h]
    rfl
theorem cps_minus : (("-" : Str)).cps.toList = [45] := by decide +kernel
theorem str_ext {x y : Str} (h : x.cps.toList = y.cps.toList) : x = y := by
  cases x
  cases y
  exact congrArg _ (Array.toList_inj.mp h)
theorem rp_minus (x : Str) : Txt.removeprefix x "-" = ⟨(digsOf x.cps.toList).toArray⟩ := by
  unfold Txt.removeprefix
  have e1 := PySem.StrLaws.subAt_eq x "-" 0
  have l1 : ("-" : Str).length = 1 := by decide +kernel
  rw [l1, cps_minus, List.drop_zero] at e1
  rw [e1, l1]
  cases h : x.cps.toList with
  | nil =>
    rw [show (([] : List Nat).take 1 == [45]) = false by decide]
    refine str_ext ?_
    exact h
  | cons c r =>
    by_cases c45 : c = 45
    · subst c45
      rw [show ((45 :: r).take 1 == [45]) = true by simp]
      have lx : x.length = r.length + 1 := by
        rw [len_cps, ← Array.length_toList, h]
        rfl
      refine str_ext ?_
      simp only [if_true, Txt.affix]
      rw [if_neg (by simp [lx])]
      show (x.cps.extract 1 x.length).toList = r
      rw [Array.toList_extract, h]
      simp [lx]
    · rw [show ((c :: r).take 1 == [45]) = false by simp [c45]]
      refine str_ext ?_
      have : digsOf (c :: r) = c :: r := by
        unfold digsOf
        split
        · rename_i z
          exact absurd (List.cons.inj z).1 c45
        · rfl
      rw [this]
      exact h
theorem isNm_fst {x : Str} (h : isNm x = true) : ∃ c r, x.cps.toList = c :: r ∧ 97 ≤ c ∧ c ≤ 122 ∧ x.length ≤ 8 := by
  unfold isNm at h
  simp only [Bool.and_eq_true, decide_eq_true_eq] at h
  obtain ⟨⟨h1, h2⟩, h3⟩ := h
  cases e : x.cps.toList with
  | nil =>
    rw [len_cps, ← Array.length_toList, e] at h1
    cases h1
  | cons c r =>
    rw [e, List.all_cons, Bool.and_eq_true] at h3
    unfold lowOk at h3
    simp only [Bool.and_eq_true, decide_eq_true_eq] at h3
    exact ⟨c, r, rfl, h3.1.1, h3.1.2, h2⟩
/-- no number begins so -/
theorem not_num {x : Str} {c : Nat} {r : List Nat} (e : x.cps.toList = c :: r) (n1 : c ≠ 45) (n2 : ¬ (48 ≤ c ∧ c ≤ 57)) : isNum x = false := by
  have d : digsOf (c :: r) = c :: r := by
    unfold digsOf
    split
    · rename_i z
      exact absurd (List.cons.inj z).1 n1
    · rfl
  have f : digOk c = false := by
    unfold digOk
    by_cases a : 48 ≤ c
    · rw [decide_eq_true a, decide_eq_false (fun b => n2 ⟨a, b⟩)]
      rfl
    · rw [decide_eq_false a]
      rfl
  unfold isNum
  rw [e, d, List.all_cons, f, Bool.false_and, Bool.and_false, Bool.false_and]
theorem digits_all (m : Nat) : ∀ c ∈ (Nat.toDigits 10 m).map Char.toNat, 48 ≤ c ∧ c ≤ 57 := by
  intro c hc
  obtain ⟨ch, hch, e⟩ := List.mem_map.mp hc
  have r := digit_range (Nat.isDigit_of_mem_toDigits (by decide) (by decide) hch)
  rw [← e]
  exact r
theorem toDigits_lead (m : Nat) (h : m ≠ 0) : ((Nat.toDigits 10 m).map Char.toNat).head? ≠ some 48 := by
  induction m using Nat.strongRecOn with
  | _ m ih =>
    by_cases h10 : m < 10
    · rw [Nat.toDigits_of_lt_base h10]
      have : ∀ d : Nat, d < 10 → d ≠ 0 → (([Nat.digitChar d].map Char.toNat).head? ≠ some 48) := by decide
      exact this m h10 h
    · have hm : m % 10 < 10 := Nat.mod_lt m (by decide)
      have t : Nat.toDigits 10 (m / 10) ++ Nat.toDigits 10 (m % 10) = Nat.toDigits 10 (10 * (m / 10) + m % 10) := Nat.toDigits_append_toDigits (by decide) (by omega) hm
      rw [Nat.div_add_mod] at t
      rw [← t, List.map_append]
      have ne : (Nat.toDigits 10 (m / 10)).map Char.toNat ≠ [] := fun z => by
        have q := ih (m / 10) (by omega) (by omega)
        have e := List.map_eq_nil_iff.mp z
        have := Nat.length_toDigits_pos (b := 10) (n := m / 10)
        rw [e] at this
        exact absurd this (by decide)
      have q := ih (m / 10) (by omega) (by omega)
      cases hx : (Nat.toDigits 10 (m / 10)).map Char.toNat with
      | nil => exact absurd hx ne
      | cons a r =>
        rw [hx] at q
        exact q
theorem digits_len (m : Nat) (h : m < 10 ^ 18) : 1 ≤ ((Nat.toDigits 10 m).map Char.toNat).length ∧ ((Nat.toDigits 10 m).map Char.toNat).length ≤ 18 := by
  rw [List.length_map]
  refine ⟨Nat.length_toDigits_pos, ?_⟩
  exact (Nat.length_toDigits_le_iff (by decide) (by decide)).mpr h
theorem txt_nat (m : Nat) : (txt (.int ((m : Nat) : Int))).cps.toList = (Nat.toDigits 10 m).map Char.toNat := PySem.W.KIN.signs_num m
theorem txt_neg (m : Nat) : (txt (.int (-((m + 1 : Nat) : Int)))).cps.toList = 45 :: (Nat.toDigits 10 (m + 1)).map Char.toNat := by
  show (Str.ofString (toString (-((m + 1 : Nat) : Int)))).cps.toList = _
  rw [signs_ofString]
  have e : toString (-((m + 1 : Nat) : Int)) = "-" ++ Nat.repr (m + 1) := rfl
  rw [e, String.toList_append, List.map_append, Nat.toList_repr]
  rfl
/-- what an integer's text is like -/
structure NumT (i : Int) (x : Str) : Prop where
  nm : isNum x = true
  rd : PySem.intText? x = some i
  ln : x.length ≤ 19
  p : 1 ≤ x.length
  lo : ∀ c ∈ x.cps.toList, c = 45 ∨ (48 ≤ c ∧ c ≤ 57)
  ng : 0 ≤ i → x.cps.toList.head? ≠ some 45
theorem num_txt {i : Int} (h : i.natAbs < 10 ^ 18) : NumT i (txt (.int i)) := by
  have dok : ∀ m : Nat, ((Nat.toDigits 10 m).map Char.toNat).all digOk = true := fun m => by
    refine List.all_eq_true.mpr fun c hc => ?_
    have := digits_all m c hc
    unfold digOk
    rw [decide_eq_true this.1, decide_eq_true this.2]
    rfl
  by_cases hi : i < 0
  · obtain ⟨m, rfl⟩ : ∃ m : Nat, i = -((m + 1 : Nat) : Int) := ⟨i.natAbs - 1, by omega⟩
    have hm : m + 1 < 10 ^ 18 := by omega
    have e := txt_neg m
    obtain ⟨l1, l2⟩ := digits_len (m + 1) hm
    have ld := toDigits_lead (m + 1) (by omega)
    have da := digits_all (m + 1)
    have vb := PySem.W.KIN.val_back (m + 1)
    have dk := dok (m + 1)
    generalize (Nat.toDigits 10 (m + 1)).map Char.toNat = ds at e l1 l2 ld da vb dk
    have lx : (txt (.int (-((m + 1 : Nat) : Int)))).length = ds.length + 1 := by
      rw [len_cps, ← Array.length_toList, e]
      rfl
    refine ⟨?_, ?_, by omega, by omega, ?_, fun z => by omega⟩
    · unfold isNum
      rw [e]
      show (decide (1 ≤ ds.length) && decide (ds.length ≤ 18) && ds.all digOk && (decide (ds.head? ≠ some 48) || _)) = true
      rw [decide_eq_true l1, decide_eq_true l2, dk, decide_eq_true ld]
      rfl
    · have z := PySem.intText_neg e da (fun z => by rw [z] at l1; cases l1) (by omega)
      rw [vb] at z
      exact z
    · rw [e]
      intro c hc
      rcases List.mem_cons.mp hc with z | z
      · exact .inl z
      · exact .inr (da c z)
  · obtain ⟨m, rfl⟩ := Int.eq_ofNat_of_zero_le (show 0 ≤ i by omega)
    have hm : m < 10 ^ 18 := by omega
    have e := txt_nat m
    obtain ⟨l1, l2⟩ := digits_len m hm
    have ld := toDigits_lead m
    have da := digits_all m
    have vb := PySem.W.KIN.val_back m
    have dk := dok m
    have e0 : m = 0 → txt (.int ((m : Nat) : Int)) = "0" := fun z => by subst z; decide +kernel
    generalize (Nat.toDigits 10 m).map Char.toNat = ds at e l1 l2 ld da vb dk
    have lx : (txt (.int ((m : Nat) : Int))).length = ds.length := by
      rw [len_cps, ← Array.length_toList, e]
    have dd : digsOf ds = ds := by
      cases ds with
      | nil => rfl
      | cons c r =>
        have := da c List.mem_cons_self
        unfold digsOf
        split
        · rename_i z
          have := (List.cons.inj z).1
          omega
        · rfl
    refine ⟨?_, ?_, by omega, by omega, ?_, fun _ => ?_⟩
    · unfold isNum
      rw [e, dd, decide_eq_true l1, decide_eq_true l2, dk]
      by_cases z : m = 0
      · rw [decide_eq_true (e0 z), Bool.or_true]
        rfl
      · rw [decide_eq_true (ld z)]
        rfl
    · have z := PySem.intText_digits (x := txt (.int ((m : Nat) : Int))) (by rw [e]; exact da) (by rw [e]; exact fun z => by rw [z] at l1; cases l1) (by omega)
      rw [e, vb] at z
      exact z
    · rw [e]
      exact fun c hc => .inr (da c hc)
    · rw [e]
      cases ds with
      | nil => exact fun z => nomatch z
      | cons c r =>
        have := da c List.mem_cons_self
        intro z
        have := Option.some.inj z
        omega
theorem sg_one (c k : Nat) : ((⟨#[c]⟩ : Str) = ⟨#[k]⟩) ↔ c = k := by
  refine ⟨fun h => ?_, fun h => by rw [h]⟩
  have h2 := congrArg (fun z : Str => z.cps.toList) h
  simpa using h2
theorem ch_minus : ("-" : Str) = ⟨#[45]⟩ := by decide +kernel
theorem ch_quote : ("'" : Str) = ⟨#[39]⟩ := by decide +kernel
theorem ch_zero : ("0" : Str) = ⟨#[48]⟩ := by decide +kernel
theorem iteT' {b : Bool} {p q : Prop} (h : b = true) (x : p) : if b = true then p else q := by
  rw [if_pos h]
  exact x
theorem iteF' {b : Bool} {p q : Prop} (h : b = false) (x : q) : if b = true then p else q := by
  rw [if_neg (by rw [h]; decide)]
  exact x
theorem isNm_num {x : Str} (h : isNm x = true) : isNum x = false := by
  obtain ⟨c, r, e, a1, a2, _⟩ := isNm_fst h
  exact not_num e (by omega) (by omega)
theorem cps_cat (x y : Str) : (x ++ y).cps.toList = x.cps.toList ++ y.cps.toList := TL.tl_append x y
theorem cps_q : (("'" : Str)).cps.toList = [39] := by decide +kernel
/-- a word behind a quote -/
theorem q_head (y : Str) : cutS ("'" ++ y) none (some 1) = "'" ∧ cutS ("'" ++ y) (some 1) none = y ∧ isNum ("'" ++ y) = false ∧ isNm ("'" ++ y) = false ∧ ("'" ++ y : Str).length = y.length + 1 ∧ ("'" ++ y : Str).cps.toList = 39 :: y.cps.toList := by
  have e : ("'" ++ y : Str).cps.toList = 39 :: y.cps.toList := by
    rw [cps_cat, cps_q]
    rfl
  have l : ("'" ++ y : Str).length = y.length + 1 := by
    rw [len_cps, ← Array.length_toList, e, List.length_cons, Array.length_toList]
    rfl
  have i1 : ∀ d : Nat, HT.sIx (y.length + 1) d (some 1) = 1 := fun d => by
    rw [show (1 : Int) = ((1 : Nat) : Int) from rfl, HT.sIx_nat]
    omega
  refine ⟨str_ext ?_, str_ext ?_, not_num e (by decide) (by decide), ?_, l, e⟩
  · unfold cutS
    rw [l, i1, e, cps_q]
    rfl
  · unfold cutS
    rw [l, i1, e]
    have : HT.sIx (y.length + 1) (y.length + 1) none = y.length + 1 := rfl
    rw [this]
    show (List.take y.cps.size y.cps.toList) = _
    exact List.take_of_length_le (by simp)
  · cases h : isNm ("'" ++ y) with
    | false => rfl
    | true =>
      obtain ⟨c, r, e1, a1, a2, _⟩ := isNm_fst h
      rw [e] at e1
      have := (List.cons.inj e1).1
      omega
theorem leaf_word {d : PyData} {x : Str} (h : LeafT d) (e : [x] = leafWords d) : (∃ i, d = .tuple [.str "int", .int i] ∧ NumT i x) ∨ (d = .tuple [.str "name", .str x] ∧ isNm x = true) ∨ (∃ y, d = .tuple [.str "atom", .str y] ∧ x = "'" ++ y ∧ isNm y = true) := by
  rcases h with ⟨i, rfl, hi⟩ | ⟨y, rfl | rfl, hy⟩
  · have e : [x] = [if ("int" : Str) = "atom" then "'" ++ txt (.int i) else txt (.int i)] := e
    rw [if_neg (by decide +kernel)] at e
    rw [(List.cons.inj e).1]
    exact .inl ⟨i, rfl, num_txt hi⟩
  · have e : [x] = [if ("name" : Str) = "atom" then "'" ++ y else y] := e
    rw [if_neg (by decide +kernel)] at e
    have e := (List.cons.inj e).1
    subst e
    exact .inr (.inl ⟨rfl, hy⟩)
  · have e : [x] = [if ("atom" : Str) = "atom" then "'" ++ y else y] := e
    rw [if_pos rfl] at e
    exact .inr (.inr ⟨y, rfl, (List.cons.inj e).1, hy⟩)
theorem leaf_len {d : PyData} {x : Str} (h : LeafT d) (e : [x] = leafWords d) : 1 ≤ x.length ∧ x.length ≤ 19 := by
  rcases leaf_word h e with ⟨i, _, z⟩ | ⟨_, z⟩ | ⟨y, _, rfl, z⟩
  · exact ⟨z.p, z.ln⟩
  · unfold isNm at z
    simp only [Bool.and_eq_true, decide_eq_true_eq] at z
    omega
  · obtain ⟨_, _, _, _, l, _⟩ := q_head y
    obtain ⟨_, _, _, _, _, l8⟩ := isNm_fst z
    omega
theorem LeafW.cases {c : Nat} {x : Str} {d : PyData} (h : LeafW c x d) : (c = 101 ∧ ((∃ i, d = .tuple [.str "int", .int i] ∧ NumT i x) ∨ (d = .tuple [.str "name", .str x] ∧ isNm x = true) ∨ (∃ y, d = .tuple [.str "atom", .str y] ∧ x = "'" ++ y ∧ isNm y = true))) ∨
    (c = 107 ∧ ∃ i, NumT i x ∧ d = .int i) ∨ (c = 105 ∧ ∃ i, NumT i x ∧ 0 ≤ i ∧ d = .int i) ∨ (c = 110 ∧ isNm x = true ∧ d = .str x) ∨ (c = 119 ∧ (x = "integer" ∨ x = "atom" ∨ x = "tuple") ∧ d = .str x) := by
  unfold LeafW at h
  split at h
  · rename_i c1
    exact .inl ⟨c1, leaf_word h.1 h.2⟩
  · obtain ⟨h, rfl⟩ := h
    rcases h with ⟨rfl, i, rfl, hi⟩ | ⟨rfl, i, rfl, i0, hi⟩ | ⟨rfl, y, rfl, hy⟩ | ⟨rfl, h⟩
    · exact .inr (.inl ⟨rfl, i, num_txt hi, rfl⟩)
    · exact .inr (.inr (.inl ⟨rfl, i, num_txt hi, i0, rfl⟩))
    · exact .inr (.inr (.inr (.inl ⟨rfl, hy, rfl⟩)))
    · refine .inr (.inr (.inr (.inr ⟨rfl, ?_⟩)))
      rcases h with rfl | rfl | rfl
      · exact ⟨.inl rfl, rfl⟩
      · exact ⟨.inr (.inl rfl), rfl⟩
      · exact ⟨.inr (.inr rfl), rfl⟩
def spName : Sp := fun vs H Q _ => ∃ x, vs = [.str x] ∧ x.length ≤ 16000000 ∧ ∀ H', Same H H' → Q (.bl (isNm x)) H'
def spNum : Sp := fun vs H Q _ => ∃ x, vs = [.str x] ∧ x.length ≤ 16000000 ∧ ∀ H', Same H H' → Q (.bl (isNum x)) H'
def spCan : Sp := fun vs H Q _ => ∃ w c d, vs = [.str w, .str (sortS c)] ∧ LeafW c w d ∧ ∀ H', Same H H' → Q (.bl true) H'
def spLeaf (K : PySem.W.Frag) : Sp := fun vs H Q _ => ∃ w d, vs = [.str w] ∧ LeafT d ∧ [w] = leafWords d ∧ ∀ v H', Same H H' → Dp K H' v d → Q v H'
section
variable {P : Program} {w : World} {K : PySem.W.Frag} {mg : Str → Option Value} {base : Heap} {f fN fM : Addr} {fd dN dM : FuncData}
theorem ok_name {k : Nat} (F : Fun K "is_name" "is_name" sName f fd) (mi : mg "isinstance" = none) (ms : mg "str" = none) (mn : mg "len" = none) (ma : mg "all" = none) : FnOk P w K mg base CX0 (k + 1) f fd ["thing"] spName := by
  refine F.ok scName (fun vs H Q E h => ?_) (fun cdv A outer s H vs Q E hr h => ?_)
  · obtain ⟨x, rfl, _⟩ := h
    rfl
  obtain ⟨x, rfl, hx, q⟩ := h
  refine ⟨_, pss_cons (ps_if (PW.pt (pw_or (pt_not (pt_val (pe_callB call_isD (by rfl) mi (by decide +kernel) (pa_cons (pv 0) (pa_cons (pe_bltn (by rfl) ms (by decide +kernel) (v := .ty "str") rfl) pa_nil)))))
      (pw_or1 (pt_not (pt_chain op_le op_le pe_int (pe_callB call_len_str (by rfl) mn PySem.boot_len (pa_cons (pv 0) pa_nil)) pe_int))))) (pss_one (ps_ret pe_bl)) pss_nil)
    (pss_one (ps_ret (pe_callB (cr_all rfl) (by rfl) ma (by decide +kernel) (pa_cons (pe_lc (own := [("letter", 1)]) (g := gName 1) (by rfl) scName.nd (pi_str (pv 0))
      (blkOk_by (own := [("letter", 1)]) (N := ["thing", "letter"]) (sc := defScope sName) (by decide +kernel))
      (fun _ _ _ _ _ => pg_name (i := 1) scName.nd rfl (Or.inl rfl)) (fun _ _ _ _ _ => pts_nil) (fun _ _ _ _ _ => pe_chain op_le_str op_le_str pe_str (pv 1) pe_str)) pa_nil)))), ?_⟩
  refine ⟨_, rfl, .str x, .str x, "str", _, rfl, .str x, kit_str (.str x), _, rfl, ?_⟩
  have hx2 : x.length ≤ sizeLine := Nat.le_trans hx (by decide)
  refine iteF ?_
  refine ⟨_, rfl, x, rfl, hx2, _, _, rfl, rfl, _, rfl, ite2 (fun c1 => ?_) (fun c1 => ?_)⟩
  · have c1 : 1 ≤ (x.length : Int) := of_decide_eq_true c1
    refine ⟨_, _, rfl, rfl, _, rfl, ?_⟩
    by_cases c2 : (x.length : Int) ≤ 8
    · rw [decide_eq_true c2]
      refine iteF ?_
      refine ⟨_, rfl, x, rfl, fun D hD => ?_⟩
      refine lc_it walk_str (fun i H2 => H2 D = some (.lst ((x.cps.toList.take i).map fun c => V.bl (lowOk c))) ∧ Same H H2) ⟨upd_same, same_new hD _⟩ (fun _ _ _ _ => True.intro) ?_ ?_
      · rintro i y H2 H3 hi ⟨h1, h2⟩ ⟨rfl, c, hc, rfl⟩
        refine ⟨rfl, ?_⟩
        refine ⟨_, rfl, _, _, rfl, rfl, _, rfl, ?_⟩
        have key : lowOk c = ((!decide ((⟨#[c]⟩ : Str).cps.toList < ("a" : Str).cps.toList)) && (!decide (("z" : Str).cps.toList < (⟨#[c]⟩ : Str).cps.toList))) := by
          rw [ge_a, le_z]
          rfl
        have fin : ∀ b : Bool, b = lowOk c → ∃ acc, H3 D = some (.lst acc) ∧ acc.length < sizeLine ∧ (upd H3 D (.lst (acc ++ [V.bl b]))) D = some (.lst ((x.cps.toList.take (i + 1)).map fun c => V.bl (lowOk c))) ∧ Same H (upd H3 D (.lst (acc ++ [V.bl b]))) := by
          intro b hb
          refine ⟨_, h1, ?_, ?_, ?_⟩
          · rw [List.length_map, List.length_take]
            have : x.cps.toList.length = x.length := by simp [len_cps]
            exact Nat.lt_of_le_of_lt (Nat.le_trans (Nat.min_le_right _ _) (by omega)) (small1000 (n := 100) (by decide))
          · rw [upd_same, take_snoc _ (cps_at hc), hb]
          · intro b2 o e
            rw [upd_ne (ne_of_none e hD)]
            exact h2 b2 o e
        by_cases ca : (!decide ((⟨#[c]⟩ : Str).cps.toList < ("a" : Str).cps.toList)) = true
        · rw [ca] at key ⊢
          refine iteT ?_
          refine ⟨_, _, rfl, rfl, fin _ ?_⟩
          rw [key, Bool.true_and]
        · have ca := Bool.eq_false_iff.mpr ca
          rw [ca] at key ⊢
          refine iteF (fin _ ?_)
          rw [key, Bool.false_and]
      · rintro H2 ⟨h1, h2⟩
        refine ⟨D, x.cps.toList.map lowOk, rfl, SqL.of ?_, ?_⟩
        · rw [h1, List.map_map]
          have : x.cps.toList.take x.cps.size = x.cps.toList := List.take_of_length_le (by simp)
          rw [this]
          rfl
        · rw [all_map]
          have e : isNm x = x.cps.toList.all lowOk := by
            have a1 : 1 ≤ x.length := by omega
            have a2 : x.length ≤ 8 := by omega
            show (decide (1 ≤ x.length) && decide (x.length ≤ 8) && x.cps.toList.all lowOk) = _
            rw [decide_eq_true a1, decide_eq_true a2]
            rfl
          rw [e] at q
          exact q H2 h2
    · rw [decide_eq_false c2]
      refine iteT ?_
      have e : isNm x = false := by
        have a2 : ¬ x.length ≤ 8 := by omega
        show (decide (1 ≤ x.length) && decide (x.length ≤ 8) && x.cps.toList.all lowOk) = _
        rw [decide_eq_false a2, Bool.and_false, Bool.false_and]
      rw [e] at q
      exact q H (Same.refl H)
  · have c1 : ¬ 1 ≤ (x.length : Int) := of_decide_eq_false (Bool.eq_false_iff.mpr c1)
    refine ⟨_, rfl, ?_⟩
    refine iteT ?_
    have e : isNm x = false := by
      have a2 : ¬ 1 ≤ x.length := by omega
      show (decide (1 ≤ x.length) && decide (x.length ≤ 8) && x.cps.toList.all lowOk) = _
      rw [decide_eq_false a2, Bool.false_and, Bool.false_and]
    rw [e] at q
    exact q H (Same.refl H)
theorem ok_num {k : Nat} (F : Fun K "is_number" "is_number" sNum f fd) (mn : mg "len" = none) (ma : mg "all" = none) {tk : Tok} (mD : mg "MOST_DIGITS" = some (.int 18 tk)) : FnOk P w K mg base CX0 (k + 1) f fd ["word"] spNum := by
  refine F.ok scNum (fun vs H Q E h => ?_) (fun cdv A outer s H vs Q E hr h => ?_)
  · obtain ⟨x, rfl, _⟩ := h
    rfl
  obtain ⟨x, rfl, hx, q⟩ := h
  refine ⟨_, pss_cons (ps_set (i := 1) scNum.nd rfl (.inl rfl) (pe_bm PySem.F.plainAttrs_str PySem.F.slot_str_removeprefix PySem.F.type_str_removeprefix mt_removeprefix (pv 0) (pa_cons pe_str pa_nil)))
    (pss_cons (ps_if (PW.pt (pw_or (pt_not (pt_chain op_le op_le pe_int (pe_callB call_len_str (by rfl) mn PySem.boot_len (pa_cons (pv 1) pa_nil)) (pe_glob (by rfl) mD (v := .int 18) ⟨_, rfl⟩)))
        (pw_or1 (pt_not (pt_val (pe_callB (cr_all rfl) (by rfl) ma (by decide +kernel) (pa_cons (pe_lc (own := [("digit", 2)]) (g := gName 2) (by rfl) scNum.nd (pi_str (pv 1))
          (blkOk_by (own := [("digit", 2)]) (N := ["word", "digits", "digit"]) (sc := defScope sNum) (by decide +kernel))
          (fun _ _ _ _ _ => pg_name (i := 2) scNum.nd rfl (Or.inl rfl)) (fun _ _ _ _ _ => pts_nil) (fun _ _ _ _ _ => pe_chain op_le_str op_le_str pe_str (pv 2) pe_str)) pa_nil))))))) (pss_one (ps_ret pe_bl)) pss_nil)
    (pss_one (ps_ret (pe_or (pe_cmpR op_ne (pe_ix ix_str (pv 1) pe_int (fun _ _ => rfl)) pe_str (nomark _)) (pe_one (pe_cmpR op_eq (pv 0) pe_str (nomark _))))))), ?_⟩
  have hx2 : x.length ≤ sizeLine := Nat.le_trans hx (by decide)
  refine ⟨_, rfl, rfl, x, "-", rfl, rfl, hx2, ?_⟩
  rw [rp_minus]
  have en : isNum x = (decide (1 ≤ (digsOf x.cps.toList).length) && decide ((digsOf x.cps.toList).length ≤ 18) && (digsOf x.cps.toList).all digOk && (decide ((digsOf x.cps.toList).head? ≠ some 48) || decide (x = "0"))) := rfl
  have ld : (digsOf x.cps.toList).length ≤ 16000000 := by
    have z : x.cps.toList.length = x.length := by simp [len_cps]
    unfold digsOf
    split
    · rename_i r e
      rw [e, List.length_cons] at z
      omega
    · omega
  generalize digsOf x.cps.toList = ds at en ld
  have ly : (⟨ds.toArray⟩ : Str).length = ds.length := by simp [len_cps]
  refine ⟨_, rfl, ⟨ds.toArray⟩, rfl, by rw [ly]; exact few3 ld, _, _, rfl, rfl, _, rfl, ?_⟩
  rw [ly]
  refine ite2 (fun c1 => ?_) (fun c1 => ?_)
  · have c1 : 1 ≤ (ds.length : Int) := of_decide_eq_true c1
    refine ⟨_, _, rfl, rfl, _, rfl, ?_⟩
    by_cases c2 : (ds.length : Int) ≤ 18
    · rw [decide_eq_true c2]
      refine iteF ?_
      refine ⟨_, rfl, ⟨ds.toArray⟩, rfl, fun D hD => ?_⟩
      refine lc_it walk_str (fun i H2 => H2 D = some (.lst ((ds.take i).map fun c => V.bl (digOk c))) ∧ Same H H2) ⟨upd_same, same_new hD _⟩ (fun _ _ _ _ => True.intro) ?_ ?_
      · rintro i y H2 H3 hi ⟨h1, h2⟩ ⟨rfl, c, hc, rfl⟩
        have hc : ds[i]? = some c := by simpa using hc
        refine ⟨rfl, ?_⟩
        refine ⟨_, rfl, _, _, rfl, rfl, _, rfl, ?_⟩
        have key : digOk c = ((!decide ((⟨#[c]⟩ : Str).cps.toList < ("0" : Str).cps.toList)) && (!decide (("9" : Str).cps.toList < (⟨#[c]⟩ : Str).cps.toList))) := by
          rw [ge_0, le_9]
          rfl
        have fin : ∀ b : Bool, b = digOk c → ∃ acc, H3 D = some (.lst acc) ∧ acc.length < sizeLine ∧ (upd H3 D (.lst (acc ++ [V.bl b]))) D = some (.lst ((ds.take (i + 1)).map fun c => V.bl (digOk c))) ∧ Same H (upd H3 D (.lst (acc ++ [V.bl b]))) := by
          intro b hb
          refine ⟨_, h1, ?_, ?_, ?_⟩
          · rw [List.length_map, List.length_take]
            exact Nat.lt_of_le_of_lt (Nat.le_trans (Nat.min_le_right _ _) (by omega)) (small1000 (n := 100) (by decide))
          · rw [upd_same, take_snoc _ hc, hb]
          · intro b2 o e
            rw [upd_ne (ne_of_none e hD)]
            exact h2 b2 o e
        by_cases ca : (!decide ((⟨#[c]⟩ : Str).cps.toList < ("0" : Str).cps.toList)) = true
        · rw [ca] at key ⊢
          refine iteT ?_
          refine ⟨_, _, rfl, rfl, fin _ ?_⟩
          rw [key, Bool.true_and]
        · have ca := Bool.eq_false_iff.mpr ca
          rw [ca] at key ⊢
          refine iteF (fin _ ?_)
          rw [key, Bool.false_and]
      · rintro H2 ⟨h1, h2⟩
        refine ⟨D, ds.map digOk, rfl, SqL.of ?_, ?_⟩
        · rw [h1, List.map_map]
          have : ds.take ((⟨ds.toArray⟩ : Str).cps.size) = ds := List.take_of_length_le (by simp)
          rw [this]
          rfl
        · rw [all_map]
          have a1 : 1 ≤ ds.length := by omega
          have a2 : ds.length ≤ 18 := by omega
          rw [decide_eq_true a1, decide_eq_true a2, Bool.and_self, Bool.true_and] at en
          cases ha : ds.all digOk with
          | false =>
            rw [ha, Bool.false_and] at en
            rw [en] at q
            exact ⟨_, rfl, iteT (q H2 h2)⟩
          | true =>
            rw [ha, Bool.true_and] at en
            refine ⟨_, rfl, iteF ?_⟩
            cases ds with
            | nil => cases a1
            | cons c r =>
              refine ⟨_, rfl, ⟨(c :: r).toArray⟩, 0, c, rfl, rfl, by rw [ly]; exact few3 ld, atI_nat (j := 0) rfl, ?_⟩
              have e48 : (decide (V.str ⟨#[c]⟩ = V.str "0")) = decide (c = 48) := by
                by_cases z : c = 48
                · rw [z]
                  decide +kernel
                · rw [decide_eq_false z]
                  exact decide_eq_false fun y => z ((sg_one c 48).mp (V.str.inj y))
              rw [ch_zero] at *
              refine ⟨rfl, _, rfl, ite2 (fun cc => ?_) (fun cc => ?_)⟩
              · rw [e48, Bool.not_eq_true', decide_eq_false_iff_not] at cc
                rw [decide_eq_true (show (c :: r).head? ≠ some 48 from fun z => cc (Option.some.inj z)), Bool.true_or] at en
                rw [en] at q
                exact q H2 h2
              · rw [e48, Bool.not_eq_true', decide_eq_false_iff_not, Decidable.not_not] at cc
                subst cc
                rw [decide_eq_false (show ¬ ((48 :: r).head? ≠ some 48) from fun z => z rfl), Bool.false_or] at en
                refine ⟨_, rfl, rfl, ?_⟩
                have e5 : decide (V.str x = V.str ⟨#[48]⟩) = decide (x = ⟨#[48]⟩) := by
                  by_cases z : x = ⟨#[48]⟩
                  · rw [z, decide_eq_true rfl, decide_eq_true rfl]
                  · rw [decide_eq_false z, decide_eq_false fun y => z (V.str.inj y)]
                rw [e5, ← en]
                exact q H2 h2
    · rw [decide_eq_false c2]
      refine iteT ?_
      have a2 : ¬ ds.length ≤ 18 := by omega
      rw [decide_eq_false a2, Bool.and_false, Bool.false_and, Bool.false_and] at en
      rw [en] at q
      exact q H (Same.refl H)
  · have c1 : ¬ 1 ≤ (ds.length : Int) := of_decide_eq_false (Bool.eq_false_iff.mpr c1)
    refine ⟨_, rfl, ?_⟩
    refine iteT ?_
    have a2 : ¬ 1 ≤ ds.length := by omega
    rw [decide_eq_false a2, Bool.false_and, Bool.false_and, Bool.false_and] at en
    rw [en] at q
    exact q H (Same.refl H)
theorem ok_can {k : Nat} (F : Fun K "can_be" "can_be" sCan f fd) (GM : Dn P w K mg base 1 "is_number" ["word"] spNum fM dM) (GN : Dn P w K mg base 1 "is_name" ["thing"] spName fN dN) : FnOk P w K mg base CX0 (k + 2) f fd ["word", "sort"] spCan := by
  refine F.ok scCan (fun vs H Q E h => ?_) (fun cdv A outer s H vs Q E hr h => ?_)
  · obtain ⟨x, c, d, rfl, _⟩ := h
    rfl
  obtain ⟨x, c, d, rfl, lw, q⟩ := h
  have hr1 : Room 1 _ := hr.mono (by omega)
  refine ⟨_, pss_cons (ps_if (pt_cmpR op_eq (pv 1) pe_str (nomark _)) (pss_one (ps_ret (pe_or (pe_call GM.ok hr1 (by rfl) GM.mg GM.kp GM.bd .nil pass0 (pa_cons (pv 0) pa_nil)) (pe_or (pe_call GN.ok hr1 (by rfl) GN.mg GN.kp GN.bd .nil pass0 (pa_cons (pv 0) pa_nil)) (pe_one
        (pe_and (pe_cmpR op_eq (pe_slice sl_str (pv 0) po_none (po_some pe_int)) pe_str (nomark _)) (pe_one (pe_call GN.ok hr1 (by rfl) GN.mg GN.kp GN.bd .nil pass0 (pa_cons (pe_slice sl_str (pv 0) (po_some pe_int) po_none) pa_nil))))))))) pss_nil)
    (pss_cons (ps_if (pt_cmpR op_eq (pv 1) pe_str (nomark _)) (pss_one (ps_ret (pe_call GM.ok hr1 (by rfl) GM.mg GM.kp GM.bd .nil pass0 (pa_cons (pv 0) pa_nil)))) pss_nil)
    (pss_cons (ps_if (pt_cmpR op_eq (pv 1) pe_str (nomark _)) (pss_one (ps_ret (pe_and (pe_call GM.ok hr1 (by rfl) GM.mg GM.kp GM.bd .nil pass0 (pa_cons (pv 0) pa_nil)) (pe_one (pe_cmpR op_ne (pe_ix ix_str (pv 0) pe_int (fun _ _ => rfl)) pe_str (nomark _)))))) pss_nil)
    (pss_cons (ps_if (pt_cmpR op_eq (pv 1) pe_str (nomark _)) (pss_one (ps_ret (pe_cmpR op_in_seq (pv 0) (pe_tup (pa_cons pe_str (pa_cons pe_str (pa_cons pe_str pa_nil)))) rfl))) pss_nil)
    (pss_one (ps_ret (pe_and (pe_cmpR op_eq (pv 1) pe_str (nomark _)) (pe_one (pe_call GN.ok hr1 (by rfl) GN.mg GN.kp GN.bd .nil pass0 (pa_cons (pv 0) pa_nil))))))))), ?_⟩
  rcases lw.cases with ⟨rfl, h⟩ | ⟨rfl, i, h, _⟩ | ⟨rfl, i, h, i0, _⟩ | ⟨rfl, h, _⟩ | ⟨rfl, h, _⟩
  · refine ⟨_, rfl, rfl, _, rfl, iteT' (by decide +kernel) ?_⟩
    rcases h with ⟨i, rfl, h⟩ | ⟨rfl, h⟩ | ⟨y, rfl, rfl, h⟩
    · exact ⟨_, rfl, x, rfl, by have := h.ln; omega, fun H1 s1 => ⟨_, rfl, iteT' h.nm (q H1 s1)⟩⟩
    · have hn := isNm_num h
      obtain ⟨_, _, _, _, _, l8⟩ := isNm_fst h
      exact ⟨_, rfl, x, rfl, by omega, fun H1 s1 => ⟨_, rfl, iteF' hn ⟨_, rfl, x, rfl, by omega, fun H2 s2 => ⟨_, rfl, iteT' h (q H2 (s1.trans s2))⟩⟩⟩⟩
    · obtain ⟨_, _, _, _, _, l8⟩ := isNm_fst h
      obtain ⟨a1, a2, a3, a4, a5⟩ := q_head y
      refine ⟨_, rfl, _, rfl, by omega, fun H1 s1 => ⟨_, rfl, iteF' a3 ⟨_, rfl, _, rfl, by omega, fun H2 s2 => ⟨_, rfl, iteF' a4 ?_⟩⟩⟩⟩
      refine ⟨_, rfl, _, rfl, _, rfl, few (by omega), rfl, _, rfl, iteT' (decide_eq_true (by rw [a1])) ⟨_, rfl, _, rfl, _, rfl, few (by omega), _, rfl, by rw [a2]; omega, fun H3 s3 => ?_⟩⟩
      rw [a2, h]
      exact q H3 (s1.trans (s2.trans s3))
  · refine ⟨_, rfl, rfl, _, rfl, iteF' (by decide +kernel) ⟨_, rfl, rfl, _, rfl, iteT' (by decide +kernel) ⟨_, rfl, x, rfl, by have := h.ln; omega, fun H1 s1 => ?_⟩⟩⟩
    rw [h.nm]
    exact q H1 s1
  · refine ⟨_, rfl, rfl, _, rfl, iteF' (by decide +kernel) ⟨_, rfl, rfl, _, rfl, iteF' (by decide +kernel) ⟨_, rfl, rfl, _, rfl, iteT' (by decide +kernel) ⟨_, rfl, x, rfl, by have := h.ln; omega, fun H1 s1 => ⟨_, rfl, iteT' h.nm ?_⟩⟩⟩⟩⟩
    have p := h.p
    have ng := h.ng i0
    cases e : x.cps.toList with
    | nil =>
      rw [len_cps, ← Array.length_toList, e] at p
      cases p
    | cons c r =>
      rw [e] at ng
      refine ⟨_, rfl, x, 0, c, rfl, rfl, few (by have := h.ln; omega), by rw [e]; exact atI_nat (j := 0) rfl, rfl, ?_⟩
      have n45 : ¬ c = 45 := fun z => ng (by rw [z]; rfl)
      have e1 : (!decide (V.str ⟨#[c]⟩ = V.str "-")) = true := by
        rw [ch_minus, decide_eq_false fun z => n45 ((sg_one c 45).mp (V.str.inj z))]
        rfl
      rw [e1]
      exact q H1 s1
  · refine ⟨_, rfl, rfl, _, rfl, iteF' (by decide +kernel) ⟨_, rfl, rfl, _, rfl, iteF' (by decide +kernel) ⟨_, rfl, rfl, _, rfl, iteF' (by decide +kernel) ⟨_, rfl, rfl, _, rfl, iteF' (by decide +kernel) ⟨_, rfl, rfl, _, rfl, iteT' (by decide +kernel) ⟨_, rfl, x, rfl, ?_, fun H1 s1 => ?_⟩⟩⟩⟩⟩⟩
    · obtain ⟨_, _, _, _, _, l8⟩ := isNm_fst h
      omega
    · rw [h]
      exact q H1 s1
  · refine ⟨_, rfl, rfl, _, rfl, iteF' (by decide +kernel) ⟨_, rfl, rfl, _, rfl, iteF' (by decide +kernel) ⟨_, rfl, rfl, _, rfl, iteF' (by decide +kernel) ⟨_, rfl, rfl, _, rfl, iteT' (by decide +kernel) ⟨_, rfl, few (by simp), fun T hT => ⟨T, _, rfl, .inr (.inl (.inl upd_same)), rfl, rfl, ?_⟩⟩⟩⟩⟩⟩
    have e : inV (.str x) [.str "integer", .str "atom", .str "tuple"] = true := by
      rcases h with rfl | rfl | rfl <;> decide +kernel
    rw [e]
    exact q _ (same_new hT _)
theorem ok_leaf {k : Nat} (F : Fun K "leaf_of" "leaf_of" sLeaf f fd) (mi : mg "int" = none) (GN : Dn P w K mg base 1 "is_name" ["thing"] spName fN dN) : FnOk P w K mg base CX0 (k + 2) f fd ["word"] (spLeaf K) := by
  refine F.ok scLeaf (fun vs H Q E h => ?_) (fun cdv A outer s H vs Q E hr h => ?_)
  · obtain ⟨x, d, rfl, _⟩ := h
    rfl
  obtain ⟨x, d, rfl, lt, ew, q⟩ := h
  have hr1 : Room 1 _ := hr.mono (by omega)
  refine ⟨_, pss_cons (ps_if (pt_cmpR op_eq (pe_ix ix_str (pv 0) pe_int (fun _ _ => rfl)) pe_str (nomark _)) (pss_one (ps_ret (pe_tup (pa_cons pe_str (pa_cons (pe_slice sl_str (pv 0) (po_some pe_int) po_none) pa_nil))))) pss_nil)
    (pss_one (ps_ret (pe_ifExp (pt_val (pe_call GN.ok hr1 (by rfl) GN.mg GN.kp GN.bd .nil pass0 (pa_cons (pv 0) pa_nil))) (pe_tup (pa_cons pe_str (pa_cons (pv 0) pa_nil))) (pe_tup (pa_cons pe_str (pa_cons (pe_callTy call_int_str (by rfl) mi (by decide +kernel) (pa_cons (pv 0) pa_nil)) pa_nil)))))), ?_⟩
  have ll := leaf_len lt ew
  have sx : x.length ≤ sizeLine := few (by omega)
  obtain ⟨c0, r0, e0⟩ : ∃ c r, x.cps.toList = c :: r := by
    cases e : x.cps.toList with
    | nil =>
      rw [len_cps, ← Array.length_toList, e] at ll
      exact absurd ll.1 (by decide)
    | cons c r => exact ⟨c, r, rfl⟩
  refine ⟨_, rfl, x, 0, c0, rfl, rfl, sx, by rw [e0]; exact atI_nat (j := 0) rfl, rfl, _, rfl, ?_⟩
  rcases (leaf_word lt ew) with ⟨i, rfl, h⟩ | ⟨rfl, h⟩ | ⟨y, rfl, rfl, h⟩
  · have h39 : ¬ c0 = 39 := fun z => by
      have := h.lo c0 (by rw [e0]; exact List.mem_cons_self)
      omega
    have hn : isNm x = false := by
      cases hq : isNm x with
      | false => rfl
      | true =>
        obtain ⟨c, r, e1, a1, a2, _⟩ := isNm_fst hq
        rw [e0] at e1
        have := h.lo c0 (by rw [e0]; exact List.mem_cons_self)
        have := (List.cons.inj e1).1
        omega
    refine iteF' (decide_eq_false fun z => h39 ((sg_one c0 39).mp (V.str.inj z))) ⟨_, rfl, x, rfl, by omega, fun H1 s1 => ⟨_, rfl, iteF' hn ⟨_, rfl, _, _, rfl, h.rd, by omega, few (by simp), fun T hT => ?_⟩⟩⟩
    have s2 := s1.trans (same_new (o := .tup [.str "int", .int i]) hT)
    exact q _ _ s2 (.tup (.inl (.inl upd_same)) (.cons (.str _) (.cons (.int _) .nil)))
  · obtain ⟨c, r, e1, a1, a2, _⟩ := isNm_fst h
    have h39 : ¬ c0 = 39 := fun z => by
      rw [e0] at e1
      have := (List.cons.inj e1).1
      omega
    refine iteF' (decide_eq_false fun z => h39 ((sg_one c0 39).mp (V.str.inj z))) ⟨_, rfl, x, rfl, by omega, fun H1 s1 => ⟨_, rfl, iteT' h ⟨_, rfl, few (by simp), fun T hT => ?_⟩⟩⟩
    have s2 := s1.trans (same_new (o := .tup [.str "name", .str x]) hT)
    exact q _ _ s2 (.tup (.inl (.inl upd_same)) (.cons (.str _) (.cons (.str _) .nil)))
  · obtain ⟨a1, a2, a3, a4, a5, a6⟩ := q_head y
    rw [a6] at e0
    have e39 := (List.cons.inj e0).1
    refine iteT' (decide_eq_true (by rw [← e39, ch_quote])) ⟨_, rfl, _, rfl, _, rfl, sx, few (by simp), fun T hT => ?_⟩
    rw [a2]
    have s2 := same_new (o := .tup [.str "atom", .str y]) hT
    exact q _ _ s2 (.tup (.inl (.inl upd_same)) (.cons (.str _) (.cons (.str _) .nil)))
end
/-! an item, a word -/
abbrev sItem : Stmt := topS 24
abbrev sRead : Stmt := topS 20
theorem scItem : FnScope ["reader", "word", "sort"] ["reader", "word", "sort"] (defScope sItem) := ⟨rfl, rfl, rfl, by decide +kernel, rfl, by decide +kernel, by decide +kernel⟩
theorem scRead : FnScope ["reader", "word", "bracket", "many"] ["reader", "word"] (defScope sRead) := ⟨rfl, rfl, rfl, by decide +kernel, rfl, by decide +kernel, by decide +kernel⟩
def ItemP (bs : List Br) (c : Nat) (x : Str) (S : PSt) : Prop := (x = "(" ∧ (c = 101 ∨ c = 116) ∧ bs.length < 40 ∧ S = ⟨bs ++ [⟨decide (c = 116), none, []⟩], none⟩) ∨ ∃ d, LeafW c x d ∧ S = keepP bs d
def spItem (K : PySem.W.Frag) (C CBr : Addr) : Sp := fun vs H Q _ => ∃ r x c bs l S, vs = [.ref r, .str x, .str (sortS c)] ∧ RdAt K C CBr H r l ⟨bs, none⟩ ∧ (∀ b ∈ bs, b.found.length < 5000000) ∧ ItemP bs c x S ∧ Reads K C CBr H r l S Q
def spRead (K : PySem.W.Frag) (C CBr : Addr) : Sp := fun vs H Q _ => ∃ r x bs l S, vs = [.ref r, .str x] ∧ RdAt K C CBr H r l ⟨bs, none⟩ ∧ (∀ b ∈ bs, b.found.length < 5000000) ∧ StepP bs x S ∧ Reads K C CBr H r l S Q
theorem LeafW.low {c : Nat} {x : Str} {d : PyData} (h : LeafW c x d) : ¬ x = "(" ∧ ¬ x = ")" ∧ x.length ≤ 1000 := by
  have e1 : ("(" : Str).cps.toList = [40] := by decide +kernel
  have e2 : (")" : Str).cps.toList = [41] := by decide +kernel
  have key : ∀ y : Str, y.cps.toList = [40] ∨ y.cps.toList = [41] → ¬ isNm y = true ∧ isNum y = false := fun y hy => by
    obtain ⟨c, hc, ey⟩ : ∃ c, (c = 40 ∨ c = 41) ∧ y.cps.toList = [c] := by
      rcases hy with z | z
      · exact ⟨_, .inl rfl, z⟩
      · exact ⟨_, .inr rfl, z⟩
    refine ⟨fun z => ?_, not_num ey (by omega) (by omega)⟩
    obtain ⟨c2, r, e, a1, a2, _⟩ := isNm_fst z
    rw [ey] at e
    have := (List.cons.inj e).1
    omega
  have nn : ∀ y : Str, y = "(" ∨ y = ")" → ¬ isNm y = true ∧ isNum y = false := fun y hy => key y (by
    rcases hy with z | z
    · rw [z]; exact .inl e1
    · rw [z]; exact .inr e2)
  have num : ∀ i, NumT i x → ¬ x = "(" ∧ ¬ x = ")" ∧ x.length ≤ 1000 := fun i z => by
    have := z.nm
    refine ⟨fun y => ?_, fun y => ?_, by have := z.ln; omega⟩
    · rw [(nn x (.inl y)).2] at this
      cases this
    · rw [(nn x (.inr y)).2] at this
      cases this
  have nam : isNm x = true → ¬ x = "(" ∧ ¬ x = ")" ∧ x.length ≤ 1000 := fun z => by
    refine ⟨fun y => (nn x (.inl y)).1 z, fun y => (nn x (.inr y)).1 z, ?_⟩
    obtain ⟨_, _, _, _, _, l8⟩ := isNm_fst z
    omega
  rcases h.cases with ⟨_, h2⟩ | ⟨_, i, h, _⟩ | ⟨_, i, h, _, _⟩ | ⟨_, h, _⟩ | ⟨_, h, _⟩
  · clear h
    rcases h2 with ⟨i, _, h⟩ | ⟨_, h⟩ | ⟨y, _, rfl, h⟩
    · exact num i h
    · exact nam h
    · obtain ⟨a1, a2, a3, a4, a5, a6⟩ := q_head y
      obtain ⟨_, _, _, _, _, l8⟩ := isNm_fst h
      refine ⟨fun z => ?_, fun z => ?_, by omega⟩
      · rw [z, e1] at a6
        have := (List.cons.inj a6).1
        omega
      · rw [z, e2] at a6
        have := (List.cons.inj a6).1
        omega
  · exact num i h
  · exact num i h
  · exact nam h
  · rcases h with rfl | rfl | rfl
    · exact ⟨by decide +kernel, by decide +kernel, by decide +kernel⟩
    · exact ⟨by decide +kernel, by decide +kernel, by decide +kernel⟩
    · exact ⟨by decide +kernel, by decide +kernel, by decide +kernel⟩
theorem sortS_et : ∀ c : Nat, (sortS c = "expression" ∨ sortS c = "test") = (c = 101 ∨ c = 116) := by
  intro c
  unfold sortS
  refine propext ⟨fun h => ?_, fun h => ?_⟩
  · revert h
    repeat' split
    all_goals first
      | exact fun _ => .inl (by assumption)
      | exact fun _ => .inr (by assumption)
      | exact fun h => absurd h (by decide +kernel)
  · rcases h with h | h
    · subst h
      exact .inl rfl
    · subst h
      exact .inr rfl
theorem inVv (s a b : Str) : inV (.str s) [.str a, .str b] = true ↔ s = a ∨ s = b := by
  simp only [inV, List.any_cons, List.any_nil, eqV, Bool.or_false, Bool.or_eq_true, beq_iff_eq]
  exact ⟨fun h => h.imp Eq.symm Eq.symm, fun h => h.imp Eq.symm Eq.symm⟩
theorem LeafW.nl {c : Nat} {x : Str} {d : PyData} (h : LeafW c x d) : nl d = true := by
  rcases h.cases with ⟨_, h2⟩ | ⟨_, i, _, rfl⟩ | ⟨_, i, _, _, rfl⟩ | ⟨_, _, rfl⟩ | ⟨_, _, rfl⟩
  · rcases h2 with ⟨i, rfl, _⟩ | ⟨rfl, _⟩ | ⟨y, rfl, _, _⟩
    all_goals simp only [Rl.nl, Rl.nls, Bool.and_self]
  all_goals simp only [Rl.nl]
theorem LeafW.num {c : Nat} {x : Str} {d : PyData} (h : LeafW c x d) (n : ¬ c = 101) : ((c = 107 ∨ c = 105) → ∃ i, NumT i x ∧ d = .int i) ∧ (¬ (c = 107 ∨ c = 105) → d = .str x) := by
  rcases h.cases with ⟨z, _⟩ | ⟨z, i, h, e⟩ | ⟨z, i, h, _, e⟩ | ⟨z, _, e⟩ | ⟨z, _, e⟩
  · exact absurd z n
  · exact ⟨fun _ => ⟨i, h, e⟩, fun y => absurd (.inl z) y⟩
  · exact ⟨fun _ => ⟨i, h, e⟩, fun y => absurd (.inr z) y⟩
  · exact ⟨fun y => by omega, fun _ => e⟩
  · exact ⟨fun y => by omega, fun _ => e⟩
theorem sortS_e : ∀ c : Nat, (sortS c = "expression") = (c = 101) := by
  intro c
  unfold sortS
  refine propext ⟨fun h => ?_, fun h => by subst h; rfl⟩
  revert h
  repeat' split
  all_goals first
    | exact fun _ => by assumption
    | exact fun h => absurd h (by decide +kernel)
theorem StepP.kinds {bs : List Br} {x : Str} {S : PSt} (h : StepP bs x S) : (∃ c, wants bs = some c ∧ ItemP bs c x S) ∨
    (∃ b0 s h sl, bs = b0 ++ [⟨s, none, []⟩] ∧ x = h ∧ (h, sl) ∈ tbS s ∧ h ∉ leafHeads ∧ (116 ∈ sl.cps.toList → b0.length + 1 < 40) ∧ S = ⟨b0 ++ [⟨s, some (h, sl), []⟩], none⟩) ∨
    (∃ b0 s h sl found, bs = b0 ++ [⟨s, some (h, sl), found⟩] ∧ x = ")" ∧ (h, sl) ∈ tbS s ∧ DoneP sl found ∧ S = keepP b0 (.tuple (.str h :: packed sl found))) := by
  cases h with
  | opens h1 h2 h3 => exact .inl ⟨_, h1, .inl ⟨rfl, h2, h3, rfl⟩⟩
  | head h1 h2 h3 => exact .inr (.inl ⟨_, _, _, _, rfl, rfl, h1, h2, h3, rfl⟩)
  | leaf h1 h2 => exact .inl ⟨_, h1, .inr ⟨_, h2, rfl⟩⟩
  | close h1 h2 => exact .inr (.inr ⟨_, _, _, _, _, rfl, rfl, h1, h2, rfl⟩)
theorem sortS_ki : ∀ c : Nat, (sortS c = "integer" ∨ sortS c = "index") = (c = 107 ∨ c = 105) := by
  intro c
  unfold sortS
  refine propext ⟨fun h => ?_, fun h => ?_⟩
  · revert h
    repeat' split
    all_goals first
      | exact fun _ => .inl (by assumption)
      | exact fun _ => .inr (by assumption)
      | exact fun h => absurd h (by decide +kernel)
  · rcases h with h | h
    · subst h
      exact .inl rfl
    · subst h
      exact .inr rfl
section
variable {P : Program} {w : World} {K : PySem.W.Frag} {mg : Str → Option Value} {base : Heap} {f fK fB fL fC : Addr} {fd dK dB dL dC : FuncData} {C CBr : Addr}
theorem ok_item {k : Nat} (F : Fun K "read_item" "read_item" sItem f fd) (T : CR K mg C) (TB : CB K mg CBr) (mn : mg "len" = none) (mi : mg "int" = none) {tk : Tok} (mM : mg "MOST_BRACKETS" = some (.int 40 tk))
    (MB : Mk K CBr fB) (GB : FnOk P w K mg base CX0 1 fB dB ["self", "wanted"] (spBIni CBr)) (bB : Binds K dB ["self", "wanted"] []) (GK : Dn P w K mg base 1 "keep" ["reader", "thing"] (spKeep K C CBr) fK dK) (GC : Dn P w K mg base 2 "can_be" ["word", "sort"] spCan fC dC)
    (GL : Dn P w K mg base 2 "leaf_of" ["word"] (spLeaf K) fL dL) : FnOk P w K mg base CX0 (k + 3) f fd ["reader", "word", "sort"] (spItem K C CBr) := by
  refine F.ok scItem (fun vs H Q E h => ?_) (fun cdv A outer s H vs Q E hr h => ?_)
  · obtain ⟨r, x, c, bs, l, S, rfl, _⟩ := h
    rfl
  obtain ⟨r, x, c, bs, l, S, rfl, hR, lf, hp, q⟩ := h
  have hr1 : Room 1 _ := hr.mono (by omega)
  have hr2 : Room 2 _ := hr.mono (by omega)
  refine ⟨_, pss_cons (ps_if (PW.pt (pw_and (pt_cmpR op_eq (pv 1) pe_str (nomark _)) (pw_and1 (pt_cmpR op_in_seq (pv 2) (pe_tup (pa_cons pe_str (pa_cons pe_str pa_nil))) rfl))))
      (pss_cons (ps_if (pt_cmpR op_eq (pe_callB call_len_seq (by rfl) mn PySem.boot_len (pa_cons (pe_fld (pv 0) rfl) pa_nil)) (pe_glob (by rfl) mM (v := .int 40) ⟨_, rfl⟩) (nomark _)) (pss_one (ps_ret pe_bl)) pss_nil)
      (pss_cons (ps_expr (pe_bm PySem.F.plainAttrs_list PySem.F.slot_list_append PySem.F.type_list_append mt_append (pe_fld (pv 0) rfl) (pa_cons (pe_make MB GB hr2 (by rfl) TB.mg bB .nil pass0 (pa_cons (pv 2) pa_nil)) pa_nil)))
      (pss_one (ps_ret pe_bl)))) pss_nil)
    (pss_cons (ps_if (pt_not (pt_val (pe_call GC.ok hr2 (by rfl) GC.mg GC.kp GC.bd .nil pass0 (pa_cons (pv 1) (pa_cons (pv 2) pa_nil))))) (pss_one (ps_ret pe_bl)) pss_nil)
    (pss_cons (ps_if (pt_cmpR op_eq (pv 2) pe_str (nomark _))
      (pss_one (ps_expr (pe_call GK.ok hr1 (by rfl) GK.mg GK.kp GK.bd .nil pass0 (pa_cons (pv 0) (pa_cons (pe_call GL.ok hr2 (by rfl) GL.mg GL.kp GL.bd .nil pass0 (pa_cons (pv 1) pa_nil)) pa_nil)))))
      (pss_one (ps_expr (pe_call GK.ok hr1 (by rfl) GK.mg GK.kp GK.bd .nil pass0 (pa_cons (pv 0) (pa_cons (pe_ifExp (pt_cmpR op_in_seq (pv 2) (pe_tup (pa_cons pe_str (pa_cons pe_str pa_nil))) rfl) (pe_callTy call_int_str (by rfl) mi (by decide +kernel) (pa_cons (pv 1) pa_nil)) (pv 1)) pa_nil))))))
    (pss_one (ps_ret pe_bl)))), ?_⟩
  obtain ⟨dx, fs, L, t, as, fas, el, h1, h2, h3, h4, h5, h6⟩ := hR.ex
  have lbs : as.length = bs.length ∧ fas.length = bs.length := h4.len
  refine ⟨_, rfl, rfl, _, rfl, ?_⟩
  rcases hp with ⟨rfl, hc, lt, rfl⟩ | ⟨d, lw, rfl⟩
  · refine iteT' (by decide +kernel) ⟨_, rfl, few (by simp), fun T1 hT1 => ⟨T1, _, rfl, .inr (.inl (.inl upd_same)), rfl, rfl, _, rfl, iteT' ((inVv _ _ _).mpr (by rw [sortS_et]; exact hc)) ?_⟩⟩
    have s1 : Same H (upd H T1 (.tup [.str "expression", .str "test"])) := same_new hT1 _
    generalize upd H T1 (.tup [.str "expression", .str "test"]) = H1 at s1
    have r1 := s1 _ _ h1
    have L1 := s1 _ _ h3
    have e40 : decide (V.int ((as.map V.ref).length : Nat) = V.int 40) = false := decide_eq_false fun z => by
      have z := V.int.inj z
      rw [List.length_map, lbs.1] at z
      omega
    refine ⟨_, rfl, r, C, dx, fs, _, rfl, r1, T.cl, T.nb, h2.b, L, _, rfl, .inl (SqL.of L1), rfl, _, rfl, iteF' e40 ?_⟩
    refine ⟨_, rfl, r, C, dx, fs, _, rfl, r1, T.cl, T.nb, h2.b, .inl ⟨rfl, _, SqL.of L1⟩, _, rfl, fun a da ha hda nda => ?_⟩
    have sM : Same H1 (upd (upd H1 da (.own a)) a (.ins CBr da [])) := fun b u z => by
      rw [upd_ne (ne_of_none z ha), upd_ne (ne_of_none z hda)]
      exact z
    refine ⟨a, da, sortS c, rfl, upd_same, fun fa tt fs2 H2 e1 e2 e3 e4 e5 e6 => ⟨rfl, L, as.map V.ref, .ref a, rfl, rfl, ?_, ?_, ?_⟩⟩
    · exact e6 _ _ (ne_of_none L1 ha) (sM _ _ L1)
    · rw [List.length_map, lbs.1]
      exact small1000 (by omega)
    have s2 : Same H1 H2 := fun b u z => e6 _ _ (ne_of_none z ha) (sM _ _ z)
    have s3 := s1.trans s2
    have naL : a ≠ L := (ne_of_none L1 ha).symm
    have nfL : fa ≠ L := (ne_of_none (sM _ _ L1) e5).symm
    have ha0 : H a = none := s1.free ha
    have hf0 : H fa = none := s1.free (sM.free e5)
    obtain ⟨ntl, trl⟩ := hR.nt
    have al : a ∉ l := fun z => trl a z ha0
    have fl : fa ∉ l := fun z => trl fa z hf0
    have nd : (r :: L :: ((as ++ [a]) ++ (fas ++ [fa]))).Nodup := by
      have e : (r :: L :: ((as ++ [a]) ++ (fas ++ [fa]))).Perm (l ++ [a, fa]) := by
        rw [el]
        simp only [List.cons_append, List.append_assoc]
        refine .cons _ (.cons _ (List.Perm.append_left _ ?_))
        have z : ([a] ++ (fas ++ [fa])).Perm ((fas ++ [a]) ++ [fa]) := by
          rw [← List.append_assoc]
          exact List.Perm.append_right _ List.perm_append_comm
        simpa using z
      refine (List.Perm.nodup_iff e).mpr (List.nodup_append.mpr ⟨h6, by simp [e4.symm], fun x hx y hy => ?_⟩)
      simp only [List.mem_cons, List.not_mem_nil, or_false] at hy
      rcases hy with z | z
      · rw [z]; exact fun y => al (y ▸ hx)
      · rw [z]; exact fun y => fl (y ▸ hx)
    have ndl := h6
    rw [el] at ndl
    have nL : ∀ y ∈ r :: (as ++ fas), y ≠ L := by
      have e : (L :: r :: (as ++ fas)).Nodup := (List.Perm.nodup_iff (List.Perm.swap _ _ _)).mp ndl
      intro y hy z
      rw [z] at hy
      exact (List.nodup_cons.mp e).1 hy
    have ntL : NT [L] H2 := .cons (nt_lst (s2 _ _ L1)) .nil
    have oL : Off [L] H2 (upd H2 L (.lst (as.map V.ref ++ [.ref a]))) := Off.put (by simp)
    refine q _ (r :: L :: ((as ++ [a]) ++ (fas ++ [fa]))) ⟨dx, fs, L, t, as ++ [a], fas ++ [fa], rfl, ?_, h2, ?_, ?_, h5, nd⟩ ?_ ?_
    · rw [upd_ne (nL r (by simp))]
      exact s3 _ _ h1
    · rw [upd_same, List.map_append]
      rfl
    · have g := (h4.off (l := []) .nil (Off.of s3) (fun _ _ z => nomatch z) (fun _ _ z => nomatch z)).off ntL oL (fun y hy => by simpa using nL y (by simp [hy])) (fun y hy => by simpa using nL y (by simp [hy]))
      refine g.snoc ⟨da, fs2, .non, .ref tt, [], by rw [upd_ne naL]; exact e1, ?_, by rw [upd_ne nfL]; exact e3, .nil, rfl, Nat.zero_le _, rfl⟩
      have ew : wantedS (decide (c = 116)) = sortS c := by
        rcases hc with z | z <;> subst z <;> decide +kernel
      show FB fs2 (.str (wantedS (decide (c = 116)))) _ _ _
      rw [ew]
      exact e2
    · exact (Off.of s3).trans (oL.mono fun b hb => by rw [List.mem_singleton.mp hb, el]; simp)
    · intro b hb
      rw [el]
      simp only [List.mem_cons, List.mem_append, List.not_mem_nil, or_false] at hb ⊢
      rcases hb with z | z | (z | z) | z | z
      · exact .inl (.inl z)
      · exact .inl (.inr (.inl z))
      · exact .inl (.inr (.inr (.inl z)))
      · exact .inr (by rw [z]; exact ha0)
      · exact .inl (.inr (.inr (.inr z)))
      · exact .inr (by rw [z]; exact hf0)
  · obtain ⟨n1, n2, l1⟩ := lw.low
    refine iteF' (decide_eq_false fun z => n1 (V.str.inj z)) ?_
    refine ⟨_, rfl, _, rfl, x, c, d, rfl, lw, fun H1 s1 => ⟨_, rfl, iteF ⟨_, rfl, rfl, _, rfl, ite2 (fun cc => ?_) (fun cc => ?_)⟩⟩⟩
    · have c1 : c = 101 := by
        have z : sortS c = "expression" := V.str.inj (of_decide_eq_true cc)
        rw [sortS_e] at z
        exact z
      subst c1
      obtain ⟨q1, q2⟩ : LeafT d ∧ [x] = leafWords d := by
        have z := lw
        unfold LeafW at z
        rw [if_pos rfl] at z
        exact z
      refine ⟨_, rfl, _, rfl, x, d, rfl, q1, q2, fun v H2 s2 dv => ⟨r, v, bs, d, l, rfl, hR.same (s1.trans s2), dv, lw.nl, lf, fun H3 R3 o3 => ?_⟩⟩
      exact q H3 l R3 ((Off.of (s1.trans s2)).trans o3) fun b hb => .inl hb
    · have c1 : ¬ c = 101 := fun z => cc (decide_eq_true (by rw [z]; rfl))
      obtain ⟨a1, a2⟩ := lw.num c1
      refine ⟨_, rfl, _, rfl, few (by simp), fun T1 hT1 => ⟨T1, _, rfl, .inr (.inl (.inl upd_same)), rfl, rfl, _, rfl, ?_⟩⟩
      have s2 := s1.trans (same_new (o := .tup [.str "integer", .str "index"]) hT1)
      refine ite2 (fun ck => ?_) (fun ck => ?_)
      · obtain ⟨i, hi, rfl⟩ := a1 (by
          rw [← sortS_ki]
          exact (inVv _ _ _).mp ck)
        exact ⟨_, rfl, _, i, rfl, hi.rd, by have := hi.ln; omega, r, .int i, bs, .int i, l, rfl, hR.same s2, .int i, lw.nl, lf, fun H3 R3 o3 => q H3 l R3 ((Off.of s2).trans o3) fun b hb => .inl hb⟩
      · have e := a2 (fun z => ck (by
          rw [← sortS_ki] at z
          exact (inVv _ _ _).mpr z))
        subst e
        exact ⟨_, rfl, r, .str x, bs, .str x, l, rfl, hR.same s2, .str x, lw.nl, lf, fun H3 R3 o3 => q H3 l R3 ((Off.of s2).trans o3) fun b hb => .inl hb⟩
theorem ok_read {k : Nat} {fI fH fQ : Addr} {dI dH dQ : FuncData} (F : Fun K "read_word" "read_word" sRead f fd) (T : CR K mg C) (TB : CB K mg CBr) (mn : mg "len" = none)
    (GI : Dn P w K mg base 3 "read_item" ["reader", "word", "sort"] (spItem K C CBr) fI dI) (GH : Dn P w K mg base 2 "read_head" ["reader", "word"] (spHead K C CBr) fH dH) (GQ : Dn P w K mg base 2 "close_bracket" ["reader"] (spClose K C CBr) fQ dQ) :
    FnOk P w K mg base CX0 (k + 4) f fd ["reader", "word"] (spRead K C CBr) := by
  refine F.ok scRead (fun vs H Q E h => ?_) (fun cdv A outer s H vs Q E hr h => ?_)
  · obtain ⟨r, x, bs, l, S, rfl, _⟩ := h
    rfl
  obtain ⟨r, x, bs, l, S, rfl, hR, lf, hp, q⟩ := h
  have hr2 : Room 2 _ := hr.mono (by omega)
  have hr3 : Room 3 _ := hr.mono (by omega)
  refine ⟨_, pss_cons (ps_if (pt_cmp (pc_notN (pe_fld (pv 0) rfl))) (pss_one (ps_ret pe_bl)) pss_nil)
    (pss_cons (ps_if (pt_not (pt_truth (pe_fld (pv 0) rfl) (by intro _; rfl))) (pss_one (ps_ret (pe_call GI.ok hr3 (by rfl) GI.mg GI.kp GI.bd .nil pass0 (pa_cons (pv 0) (pa_cons (pv 1) (pa_cons pe_str pa_nil)))))) pss_nil)
    (pss_cons (ps_set (i := 2) scRead.nd rfl (.inl rfl) (pe_ix ix_list (pe_fld (pv 0) rfl) (pe_un un_neg pe_int) (fun _ _ => rfl)))
    (pss_cons (ps_if (pt_cmp (pc_isN (pe_fld (pv 2) rfl))) (pss_one (ps_ret (pe_call GH.ok hr2 (by rfl) GH.mg GH.kp GH.bd .nil pass0 (pa_cons (pv 0) (pa_cons (pv 1) pa_nil))))) pss_nil)
    (pss_cons (ps_set (i := 3) scRead.nd rfl (.inl rfl) (pe_callB call_len_seq (by rfl) mn PySem.boot_len (pa_cons (pe_fld (pv 2) rfl) pa_nil)))
    (pss_cons (ps_if (PW.pt (pw_and (pt_cmpR op_eq (pe_ix ix_tup (pe_fld (pv 2) rfl) (pe_un un_neg pe_int) (fun _ _ => rfl)) pe_str (nomark _)) (pw_and1 (pt_cmpR op_ge (pv 3) (pe_op op_sub (pe_callB call_len_seq (by rfl) mn PySem.boot_len (pa_cons (pe_fld (pv 2) rfl) pa_nil)) pe_int) (nomark _)))))
      (pss_one (ps_ret (pe_ifExp (pt_cmpR op_eq (pv 1) pe_str (nomark _)) (pe_call GQ.ok hr2 (by rfl) GQ.mg GQ.kp GQ.bd .nil pass0 (pa_cons (pv 0) pa_nil)) (pe_call GI.ok hr3 (by rfl) GI.mg GI.kp GI.bd .nil pass0 (pa_cons (pv 0) (pa_cons (pv 1) (pa_cons pe_str pa_nil))))))) pss_nil)
    (pss_cons (ps_if (pt_cmpR op_eq (pv 3) (pe_callB call_len_seq (by rfl) mn PySem.boot_len (pa_cons (pe_fld (pv 2) rfl) pa_nil)) (nomark _)) (pss_one (ps_ret (pe_and (pe_cmpR op_eq (pv 1) pe_str (nomark _)) (pe_one (pe_call GQ.ok hr2 (by rfl) GQ.mg GQ.kp GQ.bd .nil pass0 (pa_cons (pv 0) pa_nil)))))) pss_nil)
    (pss_one (ps_ret (pe_call GI.ok hr3 (by rfl) GI.mg GI.kp GI.bd .nil pass0 (pa_cons (pv 0) (pa_cons (pv 1) (pa_cons (pe_ix ix_tup (pe_fld (pv 2) rfl) (pv 3) (fun _ _ => rfl)) pa_nil)))))))))))), ?_⟩
  obtain ⟨dx, fs, L, t, as, fas, el, h1, h2, h3, h4, h5, h6⟩ := hR.ex
  have lbs : as.length = bs.length ∧ fas.length = bs.length := h4.len
  have et : t = .non := h5
  subst et
  refine ⟨_, rfl, r, C, dx, fs, _, rfl, h1, T.cl, T.nt, h2.t, ?_⟩
  refine ⟨_, rfl, iteF' (by decide) ⟨_, rfl, r, C, dx, fs, _, rfl, h1, T.cl, T.nb, h2.b, _, .inl ⟨_, SqL.of h3, rfl⟩, ?_⟩⟩
  rcases List.eq_nil_or_concat bs with e | ⟨b1, b, e⟩
  · subst e
    have ea : as = [] := List.length_eq_zero_iff.mp lbs.1
    subst ea
    refine iteT' (by decide) ?_
    rcases hp.kinds with ⟨c, hw, ip⟩ | ⟨b0, _, _, _, e, _⟩ | ⟨b0, _, _, _, _, e, _⟩
    · have ec := (Option.some.inj hw).symm
      subst ec
      exact ⟨_, rfl, _, rfl, r, x, 101, [], l, S, rfl, hR, lf, ip, q⟩
    · simp at e
    · simp at e
  · rw [List.concat_eq_append] at e
    subst e
    obtain ⟨as2, fas2, a, fa, rfl, rfl, g1, g2⟩ := h4.unsnoc
    obtain ⟨dx2, fs2, hv, sv, vs, k1, k2, k3, k4, k5, k6, k7⟩ := g2.ex
    have al : atI ((as2 ++ [a]).map V.ref) (-1) = some (.ref a) := by
      rw [List.map_append]
      exact atI_last _ _
    have lvs := DpAll.len k4
    refine iteF' (by simp) ⟨_, rfl, r, C, dx, fs, _, rfl, h1, T.cl, T.nb, h2.b, 1, rfl, L, _, -1, .ref a, rfl, rfl, SqL.of h3, al, ?_⟩
    refine ⟨_, rfl, a, CBr, dx2, fs2, _, rfl, k1, TB.cl, TB.nh, k2.h, _, rfl, ?_⟩
    rcases hp.kinds with ⟨c, hw, ip⟩ | ⟨b0, st, h, sl, e, rfl, m, n, lt, rfl⟩ | ⟨b0, st, h, sl, found, e, rfl, m, hdn, rfl⟩
    · rw [wants_snoc] at hw
      obtain ⟨wd, hd, found⟩ := b
      cases hd with
      | none => cases hw
      | some hsl =>
        obtain ⟨h, sl⟩ := hsl
        obtain ⟨rfl, m, sa, rfl, sq⟩ := k7
        have lvs : vs.length = found.length := DpAll.len k4
        have mA := tbS_all _ m
        obtain ⟨cl, al2, gl⟩ := sorts_last sl (sl_ne _ mA)
        have ls : (sortsV sl).length = sl.cps.toList.length := by simp [sortsV]
        have pos : 1 ≤ sl.cps.toList.length := List.length_pos_iff.mpr (sl_ne _ mA)
        have hw : (if sl.cps.toList.getLast? = some 115 ∧ sl.cps.toList.length - 1 ≤ found.length then some 101 else sl.cps.toList[found.length]?) = some c := hw
        rw [gl] at hw
        have np : ¬ x = ")" := by
          rcases ip with ⟨rfl, _⟩ | ⟨d, lw, _⟩
          · decide +kernel
          · exact lw.low.2.1
        refine iteF' (decide_eq_false (fun z => nomatch z)) ⟨_, rfl, a, CBr, dx2, fs2, _, rfl, k1, TB.cl, TB.nf, k2.f, fa, vs, rfl, .inl (SqL.of k3), ?_⟩
        have fin : ¬ (cl = 115 ∧ sl.cps.toList.length - 1 ≤ found.length) → found.length < sl.cps.toList.length ∧ (sortsV sl)[found.length]? = some (.str (sortS c)) := fun z => by
          rw [if_neg (fun y => z ⟨Option.some.inj y.1, y.2⟩)] at hw
          refine ⟨(List.getElem?_eq_some_iff.mp hw).1, ?_⟩
          unfold sortsV
          rw [List.getElem?_map, hw]
          rfl
        refine ⟨_, rfl, a, CBr, dx2, fs2, _, rfl, k1, TB.cl, TB.ns, k2.s, 1, rfl, sa, _, -1, _, rfl, rfl, sq H, al2, rfl, _, rfl, ite2 (fun cc => ?_) (fun cc => ?_)⟩
        · have c115 : cl = 115 := by
            have z : sortS cl = "expressions" := V.str.inj (of_decide_eq_true cc)
            rw [sortS_s] at z
            exact z
          subst c115
          refine ⟨_, rfl, _, rfl, a, CBr, dx2, fs2, _, rfl, k1, TB.cl, TB.ns, k2.s, sa, _, rfl, .inr (sq H), _, _, rfl, rfl, _, _, rfl, rfl, _, rfl, ite2 (fun c2 => ?_) (fun c2 => ?_)⟩
          · have c2 := of_decide_eq_true c2
            rw [if_pos ⟨rfl, by omega⟩] at hw
            have e := Option.some.inj hw
            subst e
            exact ⟨_, rfl, rfl, _, rfl, iteF' (decide_eq_false fun z => np (V.str.inj z)) ⟨_, rfl, _, rfl, r, x, 101, _, l, S, rfl, hR, lf, ip, q⟩⟩
          · have c2 := of_decide_eq_false (Bool.eq_false_iff.mpr c2)
            obtain ⟨f1, f2⟩ := fin (by omega)
            refine ⟨_, rfl, _, rfl, a, CBr, dx2, fs2, _, rfl, k1, TB.cl, TB.ns, k2.s, sa, _, rfl, .inr (sq H), rfl, _, rfl, iteF' (decide_eq_false (fun z => by have := V.int.inj z; omega)) ?_⟩
            refine ⟨_, rfl, _, rfl, _, rfl, a, CBr, dx2, fs2, _, rfl, k1, TB.cl, TB.ns, k2.s, _, rfl, sa, _, _, .str (sortS c), rfl, rfl, sq H, ?_, r, x, c, _, l, S, rfl, hR, lf, ip, q⟩
            rw [lvs]
            exact atI_nat f2
        · have n115 : ¬ cl = 115 := fun z => cc (decide_eq_true (by rw [V.str.injEq, sortS_s]; exact z))
          obtain ⟨f1, f2⟩ := fin (fun z => n115 z.1)
          refine ⟨_, rfl, _, rfl, a, CBr, dx2, fs2, _, rfl, k1, TB.cl, TB.ns, k2.s, sa, _, rfl, .inr (sq H), rfl, _, rfl, iteF' (decide_eq_false (fun z => by have := V.int.inj z; omega)) ?_⟩
          refine ⟨_, rfl, _, rfl, _, rfl, a, CBr, dx2, fs2, _, rfl, k1, TB.cl, TB.ns, k2.s, _, rfl, sa, _, _, .str (sortS c), rfl, rfl, sq H, ?_, r, x, c, _, l, S, rfl, hR, lf, ip, q⟩
          rw [lvs]
          exact atI_nat f2
    · obtain ⟨e1, e2⟩ := List.append_inj' e rfl
      have e2 := (List.cons.inj e2).1
      subst e1 e2
      have ev : hv = .non := k7
      subst ev
      exact iteT' (by decide) ⟨_, rfl, _, rfl, r, b1, st, x, sl, l, rfl, hR, m, n, lt, q⟩
    · obtain ⟨e1, e2⟩ := List.append_inj' e rfl
      have e2 := (List.cons.inj e2).1
      subst e1 e2
      obtain ⟨rfl, mm, sa, rfl, sq⟩ := k7
      have k4 : DpAll K H vs found := k4
      have lvs : vs.length = found.length := DpAll.len k4
      have mA := tbS_all _ m
      obtain ⟨c, al2, gl⟩ := sorts_last sl (sl_ne _ mA)
      have ls : (sortsV sl).length = sl.cps.toList.length := by simp [sortsV]
      have pos : 1 ≤ sl.cps.toList.length := List.length_pos_iff.mpr (sl_ne _ mA)
      unfold DoneP at hdn
      have hdn0 := hdn
      rw [gl] at hdn
      have l1 : ∀ b ∈ b1, b.found.length < 5000000 := fun b hb => lf b (by simp [hb])
      refine iteF' (decide_eq_false (fun z => nomatch z)) ⟨_, rfl, a, CBr, dx2, fs2, _, rfl, k1, TB.cl, TB.nf, k2.f, fa, vs, rfl, .inl (SqL.of k3), ?_⟩
      refine ⟨_, rfl, a, CBr, dx2, fs2, _, rfl, k1, TB.cl, TB.ns, k2.s, 1, rfl, sa, _, -1, _, rfl, rfl, sq H, al2, rfl, _, rfl, ite2 (fun cc => ?_) (fun cc => ?_)⟩
      · have c115 : c = 115 := by
          have z : sortS c = "expressions" := V.str.inj (of_decide_eq_true cc)
          rw [sortS_s] at z
          exact z
        subst c115
        rw [if_pos rfl] at hdn
        refine ⟨_, rfl, _, rfl, a, CBr, dx2, fs2, _, rfl, k1, TB.cl, TB.ns, k2.s, sa, _, rfl, .inr (sq H), _, _, rfl, rfl, _, _, rfl, rfl, _, rfl, iteT' (decide_eq_true (by omega)) ?_⟩
        exact ⟨_, rfl, rfl, _, rfl, iteT' (by decide +kernel) ⟨_, rfl, r, b1, st, h, sl, found, l, rfl, hR, hdn0, l1, q⟩⟩
      · have n115 : ¬ c = 115 := fun z => cc (decide_eq_true (by rw [V.str.injEq, sortS_s]; exact z))
        rw [if_neg (fun z => n115 (Option.some.inj z))] at hdn
        refine ⟨_, rfl, _, rfl, a, CBr, dx2, fs2, _, rfl, k1, TB.cl, TB.ns, k2.s, sa, _, rfl, .inr (sq H), rfl, _, rfl, iteT' (decide_eq_true (by rw [lvs, ls, hdn])) ?_⟩
        exact ⟨_, rfl, rfl, _, rfl, iteT' (by decide +kernel) ⟨_, rfl, r, b1, st, h, sl, found, l, rfl, hR, hdn0, l1, q⟩⟩
end
/-! a text is read -/
def iEnumL (K : PySem.W.Frag) (ta : TA) : TI := fun σ H R => ta σ H fun vs H1 => ∃ a xs, vs = [.ref a] ∧ SqL K H1 a xs ∧ R (ItC (fun H ys => SqL K H a ys) 0) H1
section
variable {X : Cx} {e : Expr} {ta : TA} {p pos tpos : Pos} {elts : List Expr} {kk : Nat}
theorem pi_enumL (hg : Gl X "enumerate") (hm : X.mg "enumerate" = none) (ha : PA X [e] ta) (hs : starEach [e] X.env = [(false, eval e X.env)] := by rfl) :
    PI X (.Tuple elts kk tpos) (.Call (.Name "enumerate" p) [e] [] pos) (iEnumL X.K ta) := by
  refine ⟨fun pins s σ H R I h => ?_⟩
  refine Call_ (ld_blt I hg hm boot_enumerate (PyProof.Rows.callWith_type1 (thn (ha.run pos pins s σ H _ I h) fun us s1 ⟨vs, H1, I1, r1, q1⟩ => ?_) hs rfl))
  obtain ⟨a, xs, rfl, hx, q⟩ := q1
  obtain ⟨u, rfl, ru⟩ := r1.one
  cases ru
  obtain ⟨its, rv, tp, hz⟩ := I1.list hx
  exact enum_made (begins_list a its.toArray) tp.isList fun h' ee hi kp => pie_enum I1 (goer_lst a _) ee ⟨_, hi, rfl, rfl⟩ kp q
theorem ps_void {st : Stmt} : PS X st (fun _ _ _ => False) := ⟨fun _ _ _ _ _ _ h => h.elim⟩
end
theorem StepP.cnt {bs : List Br} {x : Str} {S : PSt} {i : Nat} (h : StepP bs x S) (hb : ∀ b ∈ bs, b.found.length ≤ i) : ∀ b ∈ S.brs, b.found.length ≤ i + 1 := by
  have kp : ∀ (bs : List Br) (d : PyData), (∀ b ∈ bs, b.found.length ≤ i) → ∀ b ∈ (keepP bs d).brs, b.found.length ≤ i + 1 := fun bs d hb b hm => by
    rcases List.eq_nil_or_concat bs with e | ⟨b1, b2, e⟩
    · subst e
      exact absurd hm (by simp [keepP])
    · rw [List.concat_eq_append] at e
      subst e
      rw [keepP_snoc] at hm
      rcases List.mem_append.mp hm with z | z
      · have := hb b (by simp [z])
        omega
      · rw [List.mem_singleton.mp z]
        have := hb b2 (by simp)
        show (b2.found ++ [d]).length ≤ _
        rw [List.length_append, List.length_singleton]
        omega
  cases h with
  | opens h1 h2 h3 =>
    intro b hm
    rcases List.mem_append.mp hm with z | z
    · have := hb b z
      omega
    · rw [List.mem_singleton.mp z]
      exact Nat.zero_le _
  | head h1 h2 h3 =>
    intro b hm
    rcases List.mem_append.mp hm with z | z
    · have := hb b (by simp [z])
      omega
    · rw [List.mem_singleton.mp z]
      exact Nat.zero_le _
  | leaf h1 h2 => exact kp _ _ hb
  | close h1 h2 => exact kp _ _ fun b hm => hb b (by simp [hm])
/-- a word that has no blank in it -/
def Cln (x : Str) : Prop := 32 ∉ x.cps.toList ∧ x.length ≤ 20
theorem heads_cln : ∀ p ∈ allL, (decide (32 ∉ p.1.cps.toList) && decide (p.1.length ≤ 20)) = true := by decide +kernel
theorem LeafW.cln {c : Nat} {x : Str} {d : PyData} (h : LeafW c x d) : Cln x := by
  have num : ∀ i, NumT i x → Cln x := fun i z => ⟨fun m => by have := z.lo 32 m; omega, by have := z.ln; omega⟩
  have nam : ∀ y : Str, isNm y = true → 32 ∉ y.cps.toList ∧ y.length ≤ 8 := fun y z => by
    unfold isNm at z
    simp only [Bool.and_eq_true, decide_eq_true_eq, List.all_eq_true] at z
    refine ⟨fun m => ?_, z.1.2⟩
    have := z.2 32 m
    revert this
    decide
  rcases h.cases with ⟨_, h2⟩ | ⟨_, i, h, _⟩ | ⟨_, i, h, _, _⟩ | ⟨_, h, _⟩ | ⟨_, h, _⟩
  · clear h
    rcases h2 with ⟨i, _, h⟩ | ⟨_, h⟩ | ⟨y, _, rfl, h⟩
    · exact num i h
    · obtain ⟨a, b⟩ := nam x h
      exact ⟨a, by omega⟩
    · obtain ⟨a, b⟩ := nam y h
      obtain ⟨_, _, _, _, a5, a6⟩ := q_head y
      refine ⟨?_, by omega⟩
      rw [a6]
      exact fun z => (List.mem_cons.mp z).elim (fun z => by omega) a
  · exact num i h
  · exact num i h
  · obtain ⟨a, b⟩ := nam x h
    exact ⟨a, by omega⟩
  · rcases h with rfl | rfl | rfl
    · exact ⟨by decide +kernel, by decide +kernel⟩
    · exact ⟨by decide +kernel, by decide +kernel⟩
    · exact ⟨by decide +kernel, by decide +kernel⟩
theorem StepP.cln {bs : List Br} {x : Str} {S : PSt} (h : StepP bs x S) : Cln x := by
  cases h with
  | opens h1 h2 h3 => exact ⟨by decide +kernel, by decide +kernel⟩
  | head h1 h2 h3 =>
    have z := heads_cln _ (tbS_all _ h1)
    simp only [Bool.and_eq_true, decide_eq_true_eq] at z
    exact z
  | leaf h1 h2 => exact h2.cln
  | close h1 h2 => exact ⟨by decide +kernel, by decide +kernel⟩
theorem GoP.cln {bs b2 : List Br} {ws : List Str} (g : GoP bs ws b2) : ∀ x ∈ ws, Cln x := by
  induction g with
  | nil => exact fun _ z => nomatch z
  | cons s _ ih =>
    intro x hx
    rcases List.mem_cons.mp hx with z | z
    · rw [z]; exact s.cln
    · exact ih x z
theorem StepsP.cln {bs : List Br} {ws : List Str} {S : PSt} (h : StepsP bs ws S) : ws ≠ [] ∧ ∀ x ∈ ws, Cln x := by
  obtain ⟨ws0, w, b1, rfl, g, s⟩ := h
  refine ⟨by simp, fun x hx => ?_⟩
  rcases List.mem_append.mp hx with z | z
  · exact g.cln x z
  · rw [List.mem_singleton.mp z]; exact s.cln
theorem split_back {ws : List Str} (ne : ws ≠ []) (h : ∀ x ∈ ws, 32 ∉ x.cps.toList) : Txt.split (Txt.join " " ws) " " = ws := by
  have e1 : (" " : Str) = SX.S [32] := by decide +kernel
  have e2 : ws = (ws.map TL.tl).map SX.S := by
    rw [List.map_map]
    have : SX.S ∘ TL.tl = id := funext fun x => SX.S_tl x
    rw [this, List.map_id]
  rw [e1]
  conv => lhs; rw [e2]
  rw [SX.join_S, SX.split_S (by simp) (by decide), SX.spl_join (by simpa using ne) (fun p hp => ?_), ← e2]
  obtain ⟨x, hx, rfl⟩ := List.mem_map.mp hp
  exact h x hx
theorem join_len {ws : List Str} {m : Nat} (h : ∀ x ∈ ws, x.length ≤ m) : (ws.map (·.length)).sum ≤ ws.length * m := by
  induction ws with
  | nil => simp
  | cons x xs ih =>
    have h1 := h x List.mem_cons_self
    have h2 := ih fun y hy => h y (List.mem_cons_of_mem _ hy)
    simp only [List.map_cons, List.sum_cons, List.length_cons, Nat.add_mul, Nat.one_mul]
    omega
theorem LeafT.tup {d : PyData} (h : LeafT d) : ∃ h args, d = .tuple (.str h :: args) := by
  rcases h with ⟨i, rfl, _⟩ | ⟨x, h | h, _⟩
  · exact ⟨_, _, rfl⟩
  · exact ⟨_, _, h⟩
  · exact ⟨_, _, h⟩
theorem Wx.tup : ∀ {f : Nat} {s : Bool} {d : PyData}, Wx f s d → ∃ h args, d = .tuple (.str h :: args)
  | 0, _, _, h => h.2.tup
  | _ + 1, _, _, h => by
    rcases h with h | ⟨h0, sl, args, e, _⟩
    · exact h.2.tup
    · exact ⟨_, _, e⟩
abbrev sRx : Stmt := topS 19
theorem scRx : FnScope ["text", "reader", "words", "at", "word"] ["text"] (defScope sRx) := ⟨rfl, rfl, rfl, by decide +kernel, rfl, by decide +kernel, by decide +kernel⟩
def spRx (K : PySem.W.Frag) : Sp := fun vs H Q _ => ∃ x d f, vs = [.str x] ∧ x = Txt.join " " (wordsD f d) ∧ x.length + 2 ≤ sizeLine ∧ Wx f false d ∧ f ≤ 40 ∧ (wordsD f d).length ≤ 4900000 ∧ ∀ v H', Same H H' → Dp K H' v d → Q v H'
def AtP (ws0 : List Str) (b1 : List Br) (d : PyData) (i : Nat) (S : PSt) : Prop := (i ≤ ws0.length ∧ ∃ b, S = ⟨b, none⟩ ∧ GoP b (ws0.drop i) b1) ∨ (i = ws0.length + 1 ∧ S = ⟨[], some d⟩)
theorem AtP.next {ws0 : List Str} {w : Str} {b1 : List Br} {d : PyData} {i : Nat} {S : PSt} {x : Str} (h : AtP ws0 b1 d i S) (sw : StepP b1 w ⟨[], some d⟩) (hx : (ws0 ++ [w])[i]? = some x) : ∃ b S2, S = ⟨b, none⟩ ∧ StepP b x S2 ∧ AtP ws0 b1 d (i + 1) S2 := by
  have hi := (List.getElem?_eq_some_iff.mp hx).1
  rw [List.length_append, List.length_singleton] at hi
  rcases h with ⟨hl, b, rfl, g⟩ | ⟨hl, _⟩
  · by_cases z : i < ws0.length
    · rw [List.getElem?_append_left z] at hx
      rw [List.drop_eq_getElem_cons z] at g
      have ex : ws0[i] = x := (List.getElem?_eq_some_iff.mp hx).2
      rw [ex] at g
      cases g with
      | cons s g2 => exact ⟨b, _, rfl, s, .inl ⟨z, _, rfl, g2⟩⟩
    · have e : i = ws0.length := by omega
      subst e
      rw [List.getElem?_append_right (Nat.le_refl _), Nat.sub_self] at hx
      have ex : w = x := Option.some.inj hx
      subst ex
      rw [List.drop_length] at g
      cases g
      exact ⟨b1, _, rfl, sw, .inr ⟨rfl, rfl⟩⟩
  · omega
section
variable {P : Program} {w : World} {K : PySem.W.Frag} {mg : Str → Option Value} {base : Heap} {f fR fW : Addr} {fd dR dW : FuncData} {C CBr : Addr}
theorem ok_rx {k : Nat} (F : Fun K "read_expression" "read_expression" sRx f fd) (T : CR K mg C) (me : mg "enumerate" = none) (MR : Mk K C fR) (GR : FnOk P w K mg base CX0 1 fR dR ["self"] (spRIni C)) (bR : Binds K dR ["self"] [])
    (GW : Dn P w K mg base 4 "read_word" ["reader", "word"] (spRead K C CBr) fW dW) : FnOk P w K mg base CX0 (k + 5) f fd ["text"] (spRx K) := by
  refine F.ok scRx (fun vs H Q E h => ?_) (fun cdv A outer s H vs Q E hr h => ?_)
  · obtain ⟨x, d, f0, rfl, _⟩ := h
    rfl
  obtain ⟨x, d, f0, rfl, ex, lx, wx, hf, lw, q⟩ := h
  have hr2 : Room 2 _ := hr.mono (by omega)
  have hr4 : Room 4 _ := hr.mono (by omega)
  refine ⟨_, pss_cons (ps_set (i := 1) scRx.nd rfl (.inl rfl) (pe_make0 MR GR hr2 (by rfl) T.mg bR .nil pass0))
    (pss_cons (ps_set (i := 2) scRx.nd rfl (.inl rfl) (pe_split (pv 0) pe_str))
    (pss_cons (ps_for PassesOwn.never rfl (pi_enumL (by rfl) me (pa_cons (pv 2) pa_nil)) (pg_tup (by rfl) (pgs_cons (pg_name (i := 3) scRx.nd rfl (.inl rfl)) (pgs_cons (pg_name (i := 4) scRx.nd rfl (.inl rfl)) pgs_nil)))
      (pss_one (ps_if (pt_not (pt_val (pe_call GW.ok hr4 (by rfl) GW.mg GW.kp GW.bd .nil pass0 (pa_cons (pv 1) (pa_cons (pv 4) pa_nil))))) (pss_one ps_void) pss_nil)))
    (pss_cons (ps_if (pt_cmp (pc_isN (pe_fld (pv 1) rfl))) (pss_one ps_void) pss_nil)
    (pss_one (ps_ret (pe_fld (pv 1) rfl)))))), ?_⟩
  obtain ⟨ws0, wl, b1, ews, gs, sw⟩ := reads f0 [] false d wx rfl (by simpa using hf)
  rw [keepP_nil] at sw
  obtain ⟨nws, cl⟩ := StepsP.cln ⟨ws0, wl, b1, ews, gs, sw⟩
  refine fun r dr hr0 hd0 nrd => ?_
  have sM : Same H (upd (upd H dr (.own r)) r (.ins C dr [])) := fun b u z => by
    rw [upd_ne (ne_of_none z hr0), upd_ne (ne_of_none z hd0)]
    exact z
  refine ⟨r, dr, rfl, upd_same, fun L fs H1 e1 e2 e3 e4 e5 e6 => ⟨rfl, ?_⟩⟩
  have s1 : Same H H1 := fun b u z => e6 _ _ (ne_of_none z hr0) (sM _ _ z)
  have hL0 : H L = none := sM.free e5
  have R1 : RdAt K C CBr H1 r [r, L] ⟨[], none⟩ := ⟨dr, fs, L, .non, [], [], rfl, e1, e2, e3, trivial, rfl, by simp [e4.symm]⟩
  have hsp : Txt.split x " " = ws0 ++ [wl] := by
    rw [ex, ews]
    rw [ews] at cl nws
    exact split_back nws fun y hy => (cl y hy).1
  refine ⟨_, rfl, ⟨_, rfl⟩, x, " ", rfl, rfl, by decide +kernel, lx, fun p hp => ?_⟩
  rw [hsp]
  have s2 : Same H1 (upd H1 p (.lst ((ws0 ++ [wl]).map V.str))) := same_new hp _
  have hp2 : (upd H1 p (.lst ((ws0 ++ [wl]).map V.str))) p = some (.lst ((ws0 ++ [wl]).map V.str)) := upd_same
  have pl : p ∉ [r, L] := fun z => by
    simp only [List.mem_cons, List.not_mem_nil, or_false] at z
    rcases z with z | z
    · rw [z, e1] at hp
      cases hp
    · rw [z, e3] at hp
      cases hp
  generalize upd H1 p (.lst ((ws0 ++ [wl]).map V.str)) = H2 at s2 hp2
  have s12 := s1.trans s2
  have lws : ws0.length + 1 ≤ 4900000 := by
    rw [ews, List.length_append, List.length_singleton] at lw
    exact lw
  refine ⟨_, rfl, p, _, rfl, SqL.of hp2, for_it (walk_C (Its := fun H ys => SqL K H p ys) (xs := (ws0 ++ [wl]).map V.str) (k0 := 0)) (fun i σ H3 => ∃ l S o3 o4, σ = [some (.str x), some (.ref r), some (.ref p), o3, o4] ∧ RdAt K C CBr H3 r l S ∧ p ∉ l ∧ H3 p = some (.lst ((ws0 ++ [wl]).map V.str)) ∧ AtP ws0 b1 d i S ∧ (∀ b ∈ S.brs, b.found.length ≤ i) ∧ Same H H3 ∧ ∀ b ∈ l, H b = none)
    ⟨[r, L], ⟨[], none⟩, none, none, rfl, R1.same s2, pl, hp2, .inl ⟨Nat.zero_le _, [], rfl, gs⟩, (fun _ z => nomatch z), s12, fun b hb => ?_⟩ ?_ ?_ ?_⟩
  · simp only [List.mem_cons, List.not_mem_nil, or_false] at hb
    rcases hb with z | z
    · rw [z]; exact hr0
    · rw [z]; exact hL0
  · rintro i σ H3 hi ⟨l, S, o3, o4, rfl, g1, g2, g3, g4, g5, g6, g7⟩
    exact SqL.of g3
  · rintro i y σ H3 H3' hi ⟨l, S, o3, o4, rfl, g1, g2, g3, g4, g5, g6, g7⟩ ⟨T, z, rfl, hT, rfl, hz⟩
    rw [List.getElem?_map] at hz
    obtain ⟨xw, hw, rfl⟩ := Option.map_eq_some_iff.mp hz
    obtain ⟨b, S2, rfl, st, g8⟩ := g4.next sw hw
    have s3 : Same H3 (upd H3 T (.tup [.int (0 + (i : Nat)), .str xw])) := same_new hT _
    have hi2 : i < ws0.length + 1 := by simpa using hi
    have lf : ∀ b' ∈ b, b'.found.length < 5000000 := fun b' hb => by
      have := g5 b' hb
      omega
    refine ⟨T, [.int (0 + (i : Nat)), .str xw], rfl, .inl (.inl upd_same), rfl, _, _, rfl, _, _, rfl, rfl, ?_⟩
    refine ⟨_, rfl, _, rfl, r, xw, b, l, S2, rfl, g1.same s3, lf, st, fun H4 l4 R4 o4' m4 => ⟨_, rfl, iteF ⟨l4, S2, _, _, rfl, R4, ?_, ?_, g8, ?_, ?_, ?_⟩⟩⟩
    · intro z
      rcases m4 p z with y | y
      · exact g2 y
      · rw [s3 _ _ g3] at y
        cases y
    · exact o4'.get (s3 _ _ g3) g2
    · exact st.cnt g5
    · intro b' u z
      exact o4'.get ((g6.trans s3) _ _ z) (fun y => by rw [g7 b' y] at z; cases z)
    · intro b' hb
      rcases m4 b' hb with y | y
      · exact g7 b' y
      · exact (g6.trans s3).free y
  · rintro σ H3 ⟨l, S, o3, o4, rfl, g1, g2, g3, g4, g5, g6, g7⟩
    have eS : S = ⟨[], some d⟩ := by
      rw [List.length_map, List.length_append, List.length_singleton] at g4
      rcases g4 with ⟨z, _⟩ | ⟨_, z⟩
      · omega
      · exact z
    subst eS
    obtain ⟨dx, fs, L, t, as, fas, el, h1, h2, h3, h4, h5, h6⟩ := g1.ex
    obtain ⟨h5, h7⟩ := h5
    refine ⟨_, rfl, r, C, dx, fs, _, rfl, h1, T.cl, T.nt, h2.t, _, rfl, iteF' ?_ ⟨_, rfl, r, C, dx, fs, _, rfl, h1, T.cl, T.nt, h2.t, q t H3 g6 h5⟩⟩
    refine decide_eq_false fun z => ?_
    rw [z] at h5
    have : ∃ h args, d = .tuple (.str h :: args) := by
      exact wx.tup
    obtain ⟨h, args, rfl⟩ := this
    cases h5
end
/-! a tree's text -/
abbrev sFur : Stmt := topS 16
abbrev sShow : Stmt := topS 15
theorem scFur : FnScope ["tree", "things", "item", "sort"] ["tree"] (defScope sFur) := ⟨rfl, rfl, rfl, by decide +kernel, rfl, by decide +kernel, by decide +kernel⟩
theorem scShow : FnScope ["tree", "words", "todo", "one", "things"] ["tree"] (defScope sShow) := ⟨rfl, rfl, rfl, by decide +kernel, rfl, by decide +kernel, by decide +kernel⟩
def thS (c : Nat) (d : PyData) : List PyData := if c = 115 then kidsT d else if c = 107 ∨ c = 105 then [.str (txt d)] else [d]
def thD : List Nat → List PyData → List PyData
  | c :: cs, d :: ds => thS c d ++ thD cs ds
  | [], _ => []
  | _ :: _, [] => []
theorem thD_app : ∀ (cs cs2 : List Nat) (ds ds2 : List PyData), cs.length = ds.length → thD (cs ++ cs2) (ds ++ ds2) = thD cs ds ++ thD cs2 ds2
  | [], cs2, [], ds2, _ => rfl
  | c :: cs, cs2, d :: ds, ds2, h => by
    have h2 : cs.length = ds.length := by simpa using h
    show thS c d ++ thD (cs ++ cs2) (ds ++ ds2) = (thS c d ++ thD cs ds) ++ _
    rw [thD_app cs cs2 ds ds2 h2, List.append_assoc]
  | [], cs2, _ :: _, ds2, h => by cases h
  | _ :: _, cs2, [], ds2, h => by cases h
theorem thD_take {i : Nat} {cs : List Nat} {ds : List PyData} {c : Nat} {d : PyData} (h : cs.length = ds.length) (hc : cs[i]? = some c) (hd : ds[i]? = some d) : thD (cs.take (i + 1)) (ds.take (i + 1)) = thD (cs.take i) (ds.take i) ++ thS c d := by
  rw [get_take hc, get_take hd, thD_app _ _ _ _ (by rw [List.length_take, List.length_take, h])]
  simp [thD]
theorem thS_nl {c : Nat} {d : PyData} (h : nl d = true) : nls (thS c d) = true := by
  unfold thS
  split
  · cases d with
    | tuple es => simpa only [kidsT, nl] using h
    | _ => rfl
  · split
    · simp only [nls, nl, Bool.and_self]
    · simp only [nls, h, Bool.and_self]
theorem thD_nl : ∀ {cs : List Nat} {ds : List PyData}, nls ds = true → nls (thD cs ds) = true
  | c :: cs, d :: ds, h => by
    simp only [nls, Bool.and_eq_true] at h
    show nls (thS c d ++ thD cs ds) = true
    rw [nls_app, thS_nl h.1, thD_nl h.2]
    rfl
  | [], _, _ => rfl
  | _ :: _, [], _ => rfl
theorem nls_take {ds : List PyData} (i : Nat) (h : nls ds = true) : nls (ds.take i) = true := by
  have e := congrArg nls (List.take_append_drop i ds)
  rw [nls_app, h, Bool.and_eq_true] at e
  exact e.1
/-- one slot's data is as the slot wants it -/
def SlotD (W : Bool → PyData → Prop) (c : Nat) (d : PyData) : Prop := if c = 115 then ∃ es, d = .tuple es ∧ ∀ e ∈ es, W false e else if c = 101 then W false d else if c = 116 then W true d else LeafOk c d
theorem ArgOk.at {W : Bool → PyData → Prop} : ∀ {cs : List Nat} {ds : List PyData} {i c : Nat} {d : PyData}, ArgOk W cs ds → cs[i]? = some c → ds[i]? = some d → SlotD W c d
  | c0 :: cs, d0 :: ds, 0, c, d, h, hc, hd => by
    simp at hc hd
    subst hc hd
    exact h.1
  | c0 :: cs, d0 :: ds, i + 1, c, d, h, hc, hd => ArgOk.at h.2 (by simpa using hc) (by simpa using hd)
  | [], _, _, _, _, _, hc, _ => by simp at hc
  | _ :: _, [], _, _, _, h, _, _ => h.elim
theorem thS_small {W : Bool → PyData → Prop} {c : Nat} {d : PyData} (h : SlotD W c d) : (thS c d).length ≤ nod d := by
  unfold thS
  split
  · cases d with
    | tuple es =>
      have := nods_len es
      simp only [kidsT, nod]
      omega
    | _ => simp [kidsT]
  · have : 1 ≤ nod d := by
      cases d <;> simp only [nod] <;> omega
    split <;> simpa using this
theorem thD_small {W : Bool → PyData → Prop} : ∀ {cs : List Nat} {ds : List PyData}, ArgOk W cs ds → (thD cs ds).length ≤ nods ds
  | c :: cs, d :: ds, h => by
    have h1 := thS_small (W := W) (c := c) (d := d) h.1
    have h2 := thD_small h.2
    simp only [thD, List.length_append, nods]
    omega
  | [], _, _ => by simp [thD]
  | _ :: _, [], h => h.elim
theorem thD_pre : ∀ (i : Nat) {cs : List Nat} {ds : List PyData}, cs.length = ds.length → (thD (cs.take i) (ds.take i)).length ≤ (thD cs ds).length := fun i cs ds h => by
  have e := thD_app (cs.take i) (cs.drop i) (ds.take i) (ds.drop i) (by rw [List.length_take, List.length_take, h])
  rw [List.take_append_drop, List.take_append_drop] at e
  rw [e, List.length_append]
  omega
theorem num_log {i : Int} (h : i.natAbs < 10 ^ 18) : i.natAbs.log2 < 1920 := by
  by_cases z : i.natAbs = 0
  · rw [z]
    decide
  · exact (Nat.log2_lt z).mpr (Nat.lt_of_lt_of_le h (Nat.le_trans (by decide : 10 ^ 18 ≤ 2 ^ 60) (Nat.pow_le_pow_right (by decide) (by decide))))
def spFur (K : PySem.W.Frag) : Sp := fun vs H Q _ => ∃ a h sl xs args W, vs = [.ref a] ∧ SqT K H a (.str h :: xs) ∧ DpAll K H xs args ∧ nls args = true ∧ (h, sl) ∈ allL ∧ ArgOk W sl.cps.toList args ∧ nods args ≤ 5000000 ∧
  ∀ L us H', Same H H' → H L = none → H' L = some (.lst us) → DpAll K H' us (thD sl.cps.toList args) → Q (.ref L) H'
section
variable {P : Program} {w : World} {K : PySem.W.Frag} {mg : Str → Option Value} {base : Heap} {f fI : Addr} {fd dI : FuncData}
theorem ok_fur {k : Nat} (F : Fun K "further_things" "further_things" sFur f fd) (ms : mg "str" = none) (GI : Dn P w K mg base 2 "sorted_items" ["tree"] (spItems K) fI dI) : FnOk P w K mg base CX0 (k + 3) f fd ["tree"] (spFur K) := by
  refine F.ok scFur (fun vs H Q E h => ?_) (fun cdv A outer s H vs Q E hr h => ?_)
  · obtain ⟨a, h, sl, xs, args, W, rfl, _⟩ := h
    rfl
  obtain ⟨a, h, sl, xs, args, W, rfl, hx, dx, na, m, ok, nd, q⟩ := h
  have hr2 : Room 2 _ := hr.mono (by omega)
  refine ⟨_, pss_cons (ps_set (i := 1) scFur.nd rfl (.inl rfl) (pe_lst pa_nil))
    (pss_cons (ps_for PassesOwn.never rfl (pi_list (pe_call GI.ok hr2 (by rfl) GI.mg GI.kp GI.bd .nil pass0 (pa_cons (pv 0) pa_nil))) (pg_tup (by rfl) (pgs_cons (pg_name (i := 2) scFur.nd rfl (.inl rfl)) (pgs_cons (pg_name (i := 3) scFur.nd rfl (.inl rfl)) pgs_nil)))
      (pss_one (ps_if (pt_cmpR op_eq (pv 3) pe_str (nomark _))
        (pss_one (ps_expr (pe_bm PySem.F.plainAttrs_list PySem.F.slot_list_extend PySem.F.type_list_extend mt_extT (pv 1) (pa_cons (pv 2) pa_nil))))
        (pss_one (ps_if (pt_cmpR op_in_seq (pv 3) (pe_tup (pa_cons pe_str (pa_cons pe_str pa_nil))) rfl)
          (pss_one (ps_expr (pe_bm PySem.F.plainAttrs_list PySem.F.slot_list_append PySem.F.type_list_append mt_append (pv 1) (pa_cons (pe_callTy call_str_int (by rfl) ms (by decide +kernel) (pa_cons (pv 2) pa_nil)) pa_nil))))
          (pss_one (ps_expr (pe_bm PySem.F.plainAttrs_list PySem.F.slot_list_append PySem.F.type_list_append mt_append (pv 1) (pa_cons (pv 2) pa_nil)))))))))
    (pss_one (ps_ret (pv 1)))), ?_⟩
  refine ⟨by decide, fun L hL => ?_⟩
  have s1 : Same H (upd H L (.lst [])) := same_new hL _
  have lx := DpAll.len dx
  have la := ok.len
  have ln := nods_len args
  have lsl := sl_len _ m
  simp only at lsl
  refine ⟨_, rfl, a, h, sl, xs, rfl, seqT_up s1 hx, by omega, m, by omega, fun p ts H3 s3 hp hl3 lt at3 => ?_⟩
  have hL3 : H3 L = some (.lst []) := s3 _ _ upd_same
  have s03 : Same H H3 := s1.trans s3
  have ntL3 : NT [L] H3 := .cons (nt_lst hL3) .nil
  have npL : p ≠ L := fun z => by
    rw [z, upd_same] at hp
    cases hp
  have ntL : ∀ (j : Nat) (t : Addr), ts[j]? = some t → t ≠ L := fun j t e z => by
    obtain ⟨x, c, _, _, h3⟩ := at3 j t e
    rw [z, hL3] at h3
    cases h3
  have hbnd := thD_small ok
  refine ⟨p, rfl, ⟨_, SqL.of hl3⟩, for_list (K := K) (a := p) (xs := ts.map V.ref) (fun i σ H2 => ∃ o2 o3 us, σ = [some (.ref a), some (.ref L), o2, o3] ∧ H2 L = some (.lst us) ∧ DpAll K H2 us (thD (sl.cps.toList.take i) (args.take i)) ∧ Off [L] H3 H2)
    ⟨none, none, [], rfl, hL3, .nil, Off.refl _ _⟩ ?_ ?_ ?_⟩
  · rintro i σ H2 hi ⟨o2, o3, us, rfl, h1, h2, h3⟩
    exact SqL.of (h3.get hl3 (by simpa using npL))
  · rintro i y σ H2 hi ⟨o2, o3, us, rfl, h1, h2, h3⟩
    rw [List.getElem?_map] at hi
    obtain ⟨t, ht, rfl⟩ := Option.map_eq_some_iff.mp hi
    obtain ⟨x, c, ex, ec, h3t⟩ := at3 i t ht
    have h2t := h3.get h3t (by simpa using ntL i t ht)
    obtain ⟨d, ed, dxd⟩ := DpAll.get dx ex
    have ndl : nl d = true := nls_mem na (List.mem_of_getElem? ed)
    have dx2 : Dp K H2 x d := Dp.off (Dp.up s03 _ _ dxd) ntL3 ndl h3
    have tk := thD_take la ec ed
    have sd := ok.at ec ed
    have lus := DpAll.len h2
    have lpre := thD_pre i la
    have ntc : nls (thD (sl.cps.toList.take i) (args.take i)) = true := thD_nl (nls_take i na)
    have ntL2 : NT [L] H2 := .cons (nt_lst h1) .nil
    refine ⟨t, [x, .str (sortS c)], rfl, .inl (.inl h2t), rfl, _, _, rfl, _, _, rfl, rfl, ?_⟩
    refine ⟨_, rfl, rfl, _, rfl, ite2 (fun cc => ?_) (fun cc => ?_)⟩
    · have c115 : c = 115 := by
        have z : sortS c = "expressions" := V.str.inj (of_decide_eq_true cc)
        rw [sortS_s] at z
        exact z
      subst c115
      unfold SlotD at sd
      rw [if_pos rfl] at sd
      obtain ⟨es, rfl, _⟩ := sd
      obtain ⟨b, ys, es2, rfl, e2, hb, dys⟩ := tup_of dx2 rfl
      cases e2
      have lys := DpAll.len dys
      have sml : (thS 115 (.tuple es)).length ≤ nod (.tuple es) := by
        have := nods_len es
        simp only [thS, kidsT, nod, if_true]
        omega
      have ndt := nods_mem (List.mem_of_getElem? ed)
      have e5 : thS 115 (.tuple es) = es := by simp only [thS, kidsT, if_true]
      rw [e5] at sml tk
      have o : Off [L] H2 (upd H2 L (.lst (us ++ ys))) := Off.put (by simp)
      refine ⟨_, rfl, .inl ⟨rfl, _, SqL.of h1⟩, _, rfl, L, b, us, ys, rfl, rfl, h1, hb, few3 (by omega), _, _, us ++ ys, rfl, upd_same, ?_, h3.trans o⟩
      rw [tk]
      exact DpAll.app (DpAll.off h2 ntL2 ntc o) (DpAll.off dys ntL2 (by simpa only [nl] using ndl) o)
    · have n115 : ¬ c = 115 := fun z => cc (decide_eq_true (by rw [V.str.injEq, sortS_s]; exact z))
      refine ⟨_, rfl, few (by simp), fun T2 hT2 => ⟨T2, _, rfl, .inr (.inl (.inl upd_same)), rfl, rfl, _, rfl, ?_⟩⟩
      have s5 : Same H2 (upd H2 T2 (.tup [.str "integer", .str "index"])) := same_new hT2 _
      generalize upd H2 T2 (.tup [.str "integer", .str "index"]) = H5 at s5
      have h15 := s5 _ _ h1
      have ntL5 : NT [L] H5 := .cons (nt_lst h15) .nil
      have fin : ∀ (v : V) (d2 : PyData), Dp K H5 v d2 → nl d2 = true → thS c d = [d2] → ∃ o2 o3 us_1, [some (V.ref a), some (V.ref L), some x, some (V.str (sortS c))] = [some (V.ref a), some (V.ref L), o2, o3] ∧ (upd H5 L (.lst (us ++ [v]))) L = some (.lst us_1) ∧ DpAll K (upd H5 L (.lst (us ++ [v]))) us_1 (thD (sl.cps.toList.take (i + 1)) (args.take (i + 1))) ∧ Off [L] H3 (upd H5 L (.lst (us ++ [v]))) := by
        intro v d2 hv n2 e
        have o : Off [L] H5 (upd H5 L (.lst (us ++ [v]))) := Off.put (by simp)
        refine ⟨_, _, us ++ [v], rfl, upd_same, ?_, h3.trans ((Off.of s5).trans o)⟩
        rw [tk, e]
        exact DpAll.app (DpAll.off (Dp.ups s5 _ _ h2) ntL5 ntc o) (.cons (Dp.off hv ntL5 n2 o) .nil)
      refine ite2 (fun ck => ?_) (fun ck => ?_)
      · have hc : c = 107 ∨ c = 105 := by
          rw [← sortS_ki]
          exact (inVv _ _ _).mp ck
        have hi2 : ∃ j : Int, d = .int j ∧ j.natAbs < 10 ^ 18 := by
          unfold SlotD at sd
          rw [if_neg n115, if_neg (by omega), if_neg (by omega)] at sd
          rcases sd with ⟨_, j, e, hj⟩ | ⟨_, j, e, _, hj⟩ | ⟨z, _⟩ | ⟨z, _⟩
          · exact ⟨j, e, hj⟩
          · exact ⟨j, e, hj⟩
          · omega
          · omega
        obtain ⟨j, rfl, hj⟩ := hi2
        cases dx2
        refine ⟨_, rfl, .inl ⟨rfl, _, SqL.of h15⟩, _, rfl, j, rfl, num_log hj, L, us, _, rfl, rfl, h15, Nat.lt_of_le_of_lt (by omega : us.length ≤ 16000000) (by decide), fin _ (.str (txt (.int j))) (.str _) (by simp only [nl]) ?_⟩
        unfold thS
        rw [if_neg n115, if_pos hc]
      · have hc : ¬ (c = 107 ∨ c = 105) := fun z => ck (by
          rw [← sortS_ki] at z
          exact (inVv _ _ _).mpr z)
        refine ⟨_, rfl, .inl ⟨rfl, _, SqL.of h15⟩, _, rfl, L, us, _, rfl, rfl, h15, Nat.lt_of_le_of_lt (by omega : us.length ≤ 16000000) (by decide), fin _ d (Dp.up s5 _ _ dx2) ndl ?_⟩
        unfold thS
        rw [if_neg n115, if_neg hc]
  · rintro σ H2 ⟨o2, o3, us, rfl, h1, h2, h3⟩
    refine ⟨_, rfl, ?_⟩
    rw [List.length_map, List.take_of_length_le (by omega), List.take_of_length_le (by omega)] at h2
    have s2 : Same H H2 := fun b u z => h3.get (s03 _ _ z) (by simpa using ne_of_none z hL)
    exact q L us H2 s2 hL h1 h2
end
/-! show_expression -/
theorem dpAll_rev {K : PySem.W.Frag} {H : Hp} : ∀ {vs : List V} {ds : List PyData}, DpAll K H vs ds → DpAll K H vs.reverse ds.reverse
  | _, _, .nil => .nil
  | _, _, .cons a t => by
    rw [List.reverse_cons, List.reverse_cons]
    exact DpAll.app (dpAll_rev t) (.cons a .nil)
theorem nls_rev : ∀ ds : List PyData, nls ds.reverse = nls ds
  | [] => rfl
  | d :: ds => by
    rw [List.reverse_cons, nls_app, nls_rev ds]
    simp only [nls, Bool.and_true]
    exact Bool.and_comm _ _
def wt : PyData → List Str
  | .str x => [x]
  | d => wordsD 40 d
def Itm (e : PyData) : Prop := (∃ x, e = .str x) ∨ ∃ f s, f ≤ 40 ∧ Wx f s e ∧ nod e ≤ 5000000
theorem wt_tree {f : Nat} {s : Bool} {d : PyData} (h : Wx f s d) (hf : f ≤ 40) : wt d = wordsD f d := by
  obtain ⟨h0, args, rfl⟩ := h.tup
  exact words_mono h hf
theorem slot_itm {f c : Nat} {d : PyData} (hf : f ≤ 40) (h : SlotD (Wx f) c d) (hn : nod d ≤ 5000000) : (∀ e ∈ thS c d, Itm e) ∧ (thS c d).flatMap wt = if c = 115 then (kidsT d).flatMap (wordsD f) else if c = 101 ∨ c = 116 then wordsD f d else [txt d] := by
  unfold SlotD at h
  unfold thS
  split at h
  · rename_i c1
    obtain ⟨es, rfl, hw⟩ := h
    rw [if_pos c1, if_pos c1]
    simp only [kidsT]
    refine ⟨fun e he => .inr ⟨f, false, hf, hw e he, Nat.le_trans (nods_mem he) (by simp only [nod] at hn; omega)⟩, ?_⟩
    clear hn
    induction es with
    | nil => rfl
    | cons e es ih =>
      rw [List.flatMap_cons, List.flatMap_cons, wt_tree (hw e List.mem_cons_self) hf, ih fun x hx => hw x (List.mem_cons_of_mem _ hx)]
  · rename_i c1
    rw [if_neg c1, if_neg c1]
    split at h
    · rename_i c2
      rw [if_neg (by omega), if_pos (.inl c2)]
      refine ⟨fun e he => ?_, ?_⟩
      · rw [List.mem_singleton.mp he]
        exact .inr ⟨f, false, hf, h, hn⟩
      · rw [List.flatMap_cons, List.flatMap_nil, List.append_nil, wt_tree h hf]
    · rename_i c2
      split at h
      · rename_i c3
        rw [if_neg (by omega), if_pos (.inr c3)]
        refine ⟨fun e he => ?_, ?_⟩
        · rw [List.mem_singleton.mp he]
          exact .inr ⟨f, true, hf, h, hn⟩
        · rw [List.flatMap_cons, List.flatMap_nil, List.append_nil, wt_tree h hf]
      · rename_i c3
        rw [if_neg (by omega : ¬ (c = 101 ∨ c = 116))]
        split
        · exact ⟨fun e he => .inl ⟨_, List.mem_singleton.mp he⟩, rfl⟩
        · rename_i c4
          have : ∃ x, d = .str x := by
            rcases h with ⟨z, _⟩ | ⟨z, _⟩ | ⟨_, x, e, _⟩ | ⟨_, z⟩
            · omega
            · omega
            · exact ⟨x, e⟩
            · rcases z with z | z | z
              · exact ⟨_, z⟩
              · exact ⟨_, z⟩
              · exact ⟨_, z⟩
          obtain ⟨x, rfl⟩ := this
          exact ⟨fun e he => .inl ⟨_, List.mem_singleton.mp he⟩, rfl⟩
theorem args_itm {f : Nat} (hf : f ≤ 40) : ∀ {cs : List Nat} {ds : List PyData}, ArgOk (Wx f) cs ds → nods ds ≤ 5000000 → (∀ e ∈ thD cs ds, Itm e) ∧ (thD cs ds).flatMap wt = argWords (wordsD f) cs ds
  | c :: cs, d :: ds, h, hn => by
    simp only [nods] at hn
    obtain ⟨a1, a2⟩ := slot_itm (c := c) (d := d) hf h.1 (by omega)
    obtain ⟨b1, b2⟩ := args_itm hf h.2 (by omega)
    refine ⟨fun e he => ?_, ?_⟩
    · rcases List.mem_append.mp (show e ∈ thS c d ++ thD cs ds from he) with z | z
      · exact a1 e z
      · exact b1 e z
    · show (thS c d ++ thD cs ds).flatMap wt = _
      rw [List.flatMap_append, a2, b2]
      rfl
  | [], [], _, _ => ⟨(fun _ z => nomatch z), rfl⟩
  | [], _ :: _, h, _ => h.elim
  | _ :: _, [], h, _ => h.elim
/-- a tree is a leaf or a bracket -/
theorem Wx.look : ∀ {f : Nat} {s : Bool} {d : PyData}, Wx f s d → LeafT d ∨ ∃ f' h sl args, f = f' + 1 ∧ d = .tuple (.str h :: args) ∧ (h, sl) ∈ allL ∧ h ∉ leafHeads ∧ ArgOk (Wx f') sl.cps.toList args
  | 0, _, _, h => .inl h.2
  | f + 1, _, _, h => by
    rcases h with h | ⟨h0, sl, args, e, m, n, a⟩
    · exact .inl h.2
    · exact .inr ⟨f, h0, sl, args, rfl, e, tbS_all _ m, n, a⟩
theorem wt_pos {e : PyData} (h : Itm e) : 1 ≤ (wt e).length := by
  rcases h with ⟨x, rfl⟩ | ⟨f, s, hf, w, _⟩
  · exact Nat.le_refl _
  · rw [wt_tree w hf]
    rcases w.look with l | ⟨f', h, sl, args, rfl, rfl, m, n, a⟩
    · rw [words_leaf l]
      rcases l with ⟨i, rfl, _⟩ | ⟨x, h | h, _⟩
      · exact Nat.le_refl _
      · rw [h]; exact Nat.le_refl _
      · rw [h]; exact Nat.le_refl _
    · rw [words_node m n]
      simp only [List.length_append, List.length_cons, List.length_nil]
      omega
theorem flat_len : ∀ {es : List PyData}, (∀ e ∈ es, Itm e) → es.length ≤ (es.flatMap wt).length
  | [], _ => Nat.le_refl _
  | e :: es, h => by
    have h1 := wt_pos (h e List.mem_cons_self)
    have h2 := flat_len fun x hx => h x (List.mem_cons_of_mem _ hx)
    rw [List.flatMap_cons, List.length_append, List.length_cons]
    omega
section
variable {X : Cx}
theorem call_strU : CallR X (.type "str") (fun xs H Q => (∃ i, xs = [.int i] ∧ i.natAbs.log2 < 1920 ∧ Q (.str (toString i)) H) ∨ ∃ a, xs = [.str a] ∧ Q (.str a) H) := by
  intro pins s σ H xs us Q I rs h
  rcases h with h | h
  · exact call_str_int pins s σ H xs us Q I rs h
  · exact SkE.call_str_str pins s σ H xs us Q I rs h
end
def spShow (K : PySem.W.Frag) : Sp := fun vs H Q _ => ∃ v d f, vs = [v] ∧ Dp K H v d ∧ nl d = true ∧ Wx f false d ∧ f ≤ 40 ∧ nod d ≤ 5000000 ∧ (wordsD f d).length ≤ 4900000 ∧ ((wordsD f d).map (·.length)).sum + (wordsD f d).length ≤ sizeLine ∧ ∀ H', Same H H' → Q (.str (Txt.join " " (wordsD f d))) H'
section
variable {P : Program} {w : World} {K : PySem.W.Frag} {mg : Str → Option Value} {base : Heap} {f fF : Addr} {fd dF : FuncData}
theorem ok_show {k : Nat} (F : Fun K "show_expression" "show_expression" sShow f fd) (mi : mg "isinstance" = none) (ms : mg "str" = none) (GF : Dn P w K mg base 3 "further_things" ["tree"] (spFur K) fF dF) : FnOk P w K mg base CX0 (k + 4) f fd ["tree"] (spShow K) := by
  refine F.ok scShow (fun vs H Q E h => ?_) (fun cdv A outer s H vs Q E hr h => ?_)
  · obtain ⟨v, d, f0, rfl, _⟩ := h
    rfl
  obtain ⟨v, d, f0, rfl, hd, hnl, wx, hf, hnd, hw, hj, q⟩ := h
  have hr3 : Room 3 _ := hr.mono (by omega)
  refine ⟨_, pss_cons (ps_set (i := 1) scShow.nd rfl (.inl rfl) (pe_lst pa_nil))
    (pss_cons (ps_set (i := 2) scShow.nd rfl (.inl rfl) (pe_lst (pa_cons (pv 0) pa_nil)))
    (pss_cons (ps_while PassesOwn.never (pt_truth (pv 2) (by intro _; rfl))
      (pss_cons (ps_set (i := 3) scShow.nd rfl (.inl rfl) (pe_bm0 PySem.F.plainAttrs_list PySem.F.slot_list_pop PySem.F.type_list_pop mt_pop (pv 2)))
      (pss_one (ps_if (pt_val (pe_callB call_isD (by rfl) mi (by decide +kernel) (pa_cons (pv 3) (pa_cons (pe_bltn (by rfl) ms (by decide +kernel) (v := .ty "str") rfl) pa_nil))))
        (pss_one (ps_expr (pe_bm PySem.F.plainAttrs_list PySem.F.slot_list_append PySem.F.type_list_append mt_append (pv 1) (pa_cons (pv 3) pa_nil))))
      (pss_one (ps_if (pt_cmpR op_in_seq (pe_ix ix_tup (pv 3) pe_int (fun _ _ => rfl)) (pe_tup (pa_cons pe_str (pa_cons pe_str pa_nil))) rfl)
        (pss_one (ps_expr (pe_bm PySem.F.plainAttrs_list PySem.F.slot_list_append PySem.F.type_list_append mt_append (pv 1) (pa_cons (pe_callTy call_strU (by rfl) ms (by decide +kernel) (pa_cons (pe_ix ix_tup (pv 3) pe_int (fun _ _ => rfl)) pa_nil)) pa_nil))))
      (pss_one (ps_if (pt_cmpR op_eq (pe_ix ix_tup (pv 3) pe_int (fun _ _ => rfl)) pe_str (nomark _))
        (pss_one (ps_expr (pe_bm PySem.F.plainAttrs_list PySem.F.slot_list_append PySem.F.type_list_append mt_append (pv 1) (pa_cons (pe_joined (.cons pe_str (.cons (pe_fmt (pe_ix ix_tup (pv 3) pe_int (fun _ _ => rfl))) .nil))) pa_nil))))
        (pss_cons (ps_set (i := 4) scShow.nd rfl (.inl rfl) (pe_call GF.ok hr3 (by rfl) GF.mg GF.kp GF.bd .nil pass0 (pa_cons (pv 3) pa_nil)))
        (pss_cons (ps_expr (pe_bm PySem.F.plainAttrs_list PySem.F.slot_list_extend PySem.F.type_list_extend mt_extend (pv 1) (pa_cons (pe_lst (pa_cons pe_str (pa_cons (pe_ix ix_tup (pv 3) pe_int (fun _ _ => rfl)) pa_nil))) pa_nil)))
        (pss_cons (ps_expr (pe_bm PySem.F.plainAttrs_list PySem.F.slot_list_append PySem.F.type_list_append mt_append (pv 2) (pa_cons pe_str pa_nil)))
        (pss_one (ps_expr (pe_bm PySem.F.plainAttrs_list PySem.F.slot_list_extend PySem.F.type_list_extend mt_extend (pv 2) (pa_cons (pe_revL (pv 4)) pa_nil)))))))))))))))
    (pss_one (ps_ret (pe_join pe_str (pv 1)))))), ?_⟩
  refine ⟨by decide, fun FA hFA => ⟨_, rfl, few (by simp), fun TD hTD => ?_⟩⟩
  have hT0 : H TD = none := (same_new (o := .lst []) hFA).free hTD
  have nFT : FA ≠ TD := ne_of_none upd_same hTD
  have s0 : Same H (upd (upd H FA (.lst [])) TD (.lst [v])) := (same_new hFA _).trans (same_new hTD _)
  have hF1 : (upd (upd H FA (.lst [])) TD (.lst [v])) FA = some (.lst []) := by rw [upd_ne nFT]; exact upd_same
  have hT1 : (upd (upd H FA (.lst [])) TD (.lst [v])) TD = some (.lst [v]) := upd_same
  generalize upd (upd H FA (.lst [])) TD (.lst [v]) = HB at s0 hF1 hT1
  have eW : wt d = wordsD f0 d := wt_tree wx hf
  obtain ⟨nws, cl⟩ := StepsP.cln (reads f0 [] false d wx rfl (by simpa using hf))
  generalize wordsD f0 d = W at eW hw hj q nws cl
  refine ⟨(fun m σ H2 => ∃ (ws : List Str) (ts : List V) (es : List PyData) (o3 o4 : Option V), σ = [some v, some (.ref FA), some (.ref TD), o3, o4] ∧ H2 FA = some (.lst (ws.map V.str)) ∧ H2 TD = some (.lst ts) ∧ DpAll K H2 ts es ∧ nls es = true ∧ (∀ e ∈ es, Itm e) ∧ ws ++ es.reverse.flatMap wt = W ∧ m + ws.length = W.length ∧ Off [FA, TD] HB H2),
    ⟨W.length, [], [v], [d], none, none, rfl, hF1, hT1, .cons (Dp.up s0 _ _ hd) .nil, by simp only [nls, hnl, Bool.and_self], (fun e he => by rw [List.mem_singleton.mp he]; exact .inr ⟨f0, false, hf, wx, hnd⟩), by simp [eW], by simp, Off.refl _ _⟩, ?_⟩
  rintro m σ H2 ⟨ws, ts, es, o3, o4, rfl, hu, hx, dx, nx, ix, eq, em, off⟩
  have hlen := flat_len (es := es.reverse) fun e he => ix e (List.mem_reverse.mp he)
  have elen := congrArg List.length eq
  rw [List.length_append] at elen
  rw [List.length_reverse] at hlen
  have lts := DpAll.len dx
  refine ⟨_, rfl, _, .inl ⟨ts, SqL.of hx, rfl⟩, ?_⟩
  by_cases ee : ts = []
  · subst ee
    cases dx
    have eW2 : ws = W := by simpa using eq
    subst eW2
    refine iteF ⟨⟨_, rfl⟩, _, rfl, " ", FA, ws, rfl, rfl, .inl (SqL.of hu), ?_, q H2 ?_⟩
    · have e0 : ((" " : Str)).length = 1 := by decide +kernel
      have hs0 : sizeLine = 16777216 := rfl
      rw [e0]
      omega
    · intro b u z
      refine off.get (s0 _ _ z) ?_
      simp only [List.mem_cons, List.not_mem_nil, or_false, not_or]
      exact ⟨ne_of_none z hFA, ne_of_none z hT0⟩
  · have e1 : (!ts.isEmpty) = true := by simp [ee]
    rw [e1]
    refine iteT ?_
    obtain ⟨ts2, x, rfl⟩ : ∃ ts2 x, ts = ts2 ++ [x] := ⟨ts.dropLast, ts.getLast ee, (List.dropLast_concat_getLast ee).symm⟩
    obtain ⟨es2, d2, rfl, da, db⟩ := DpAll.unapp dx
    obtain ⟨e, rfl, db1⟩ : ∃ e, d2 = [e] ∧ Dp K H2 x e := by
      cases db with
      | cons y1 y2 =>
        cases y2
        exact ⟨_, rfl, y1⟩
    rw [nls_app, Bool.and_eq_true] at nx
    obtain ⟨nx1, nx2⟩ := nx
    have nx2 : nl e = true := by simpa only [nls, Bool.and_true] using nx2
    have ie : Itm e := ix e (by simp)
    have eq2 : ws ++ (wt e ++ es2.reverse.flatMap wt) = W := by
      rw [List.reverse_append, List.reverse_cons, List.reverse_nil, List.nil_append, List.flatMap_append, List.flatMap_cons, List.flatMap_nil, List.append_nil] at eq
      exact eq
    have pw := wt_pos ie
    have len2 := congrArg List.length eq2
    rw [List.length_append, List.length_append] at len2
    refine ⟨fun σ' H3 => ∃ m', m' < m ∧ ∃ (ws : List Str) (ts : List V) (es : List PyData) (o3 o4 : Option V), σ' = [some v, some (.ref FA), some (.ref TD), o3, o4] ∧ H3 FA = some (.lst (ws.map V.str)) ∧ H3 TD = some (.lst ts) ∧ DpAll K H3 ts es ∧ nls es = true ∧ (∀ e ∈ es, Itm e) ∧ ws ++ es.reverse.flatMap wt = W ∧ m' + ws.length = W.length ∧ Off [FA, TD] HB H3, fun _ _ z => z, ?_⟩
    refine ⟨_, rfl, .inl ⟨rfl, _, SqL.of hx⟩, TD, _, _, rfl, rfl, hx, last_at _ _, ?_⟩
    rw [drop_last]
    have nt2 : NT [FA, TD] H2 := .cons (nt_lst hu) (.cons (nt_lst hx) .nil)
    have p3 : Off [FA, TD] H2 (upd H2 TD (.lst ts2)) := Off.put (by simp)
    have hu3 : (upd H2 TD (.lst ts2)) FA = some (.lst (ws.map V.str)) := by rw [upd_ne nFT]; exact hu
    have hx3 : (upd H2 TD (.lst ts2)) TD = some (.lst ts2) := upd_same
    have da3 : DpAll K (upd H2 TD (.lst ts2)) ts2 es2 := DpAll.off da nt2 nx1 p3
    have de3 : Dp K (upd H2 TD (.lst ts2)) x e := Dp.off db1 nt2 nx2 p3
    have off3 := off.trans p3
    generalize upd H2 TD (.lst ts2) = H3 at hu3 hx3 da3 de3 off3
    have nt3 : NT [FA, TD] H3 := .cons (nt_lst hu3) (.cons (nt_lst hx3) .nil)
    have lws : ws.length ≤ 4900000 := by omega
    -- one word more
    have one : ∀ (y : Str) (H4 : Hp) (r4 : Option V), Same H3 H4 → wt e = [y] → ∃ m', m' < m ∧ ∃ (ws_1 : List Str) (ts : List V) (es : List PyData) (o3 o4 : Option V), [some v, some (.ref FA), some (.ref TD), some x, r4] = [some v, some (.ref FA), some (.ref TD), o3, o4] ∧ (upd H4 FA (.lst (ws.map V.str ++ [.str y]))) FA = some (.lst (ws_1.map V.str)) ∧ (upd H4 FA (.lst (ws.map V.str ++ [.str y]))) TD = some (.lst ts) ∧ DpAll K (upd H4 FA (.lst (ws.map V.str ++ [.str y]))) ts es ∧ nls es = true ∧ (∀ e ∈ es, Itm e) ∧ ws_1 ++ es.reverse.flatMap wt = W ∧ m' + ws_1.length = W.length ∧ Off [FA, TD] HB (upd H4 FA (.lst (ws.map V.str ++ [.str y]))) := by
      intro y H4 r4 s4 ey
      rw [ey] at eq2 len2
      have p4 : Off [FA, TD] H4 (upd H4 FA (.lst (ws.map V.str ++ [.str y]))) := Off.put (by simp)
      have o4 : Off [FA, TD] H3 (upd H4 FA (.lst (ws.map V.str ++ [.str y]))) := (Off.of s4).trans p4
      refine ⟨(es2.reverse.flatMap wt).length, by simp only [List.length_cons, List.length_nil] at len2; omega, ws ++ [y], ts2, es2, _, _, rfl, by rw [upd_same, List.map_append]; rfl, by rw [upd_ne nFT.symm]; exact s4 _ _ hx3, DpAll.off da3 nt3 nx1 o4, nx1, fun e he => ix e (by simp [he]), by rw [List.append_assoc]; exact eq2, ?_, off3.trans o4⟩
      simp only [List.length_append, List.length_cons, List.length_nil] at len2 ⊢
      omega
    have lap : (ws.map V.str).length < sizeLine := Nat.lt_of_le_of_lt (by rw [List.length_map]; omega : (ws.map V.str).length ≤ 16000000) (by decide)
    refine ⟨_, rfl, x, e, "str", _, rfl, de3, kit_str e, _, rfl, ?_⟩
    rcases ie with ⟨y, rfl⟩ | ⟨fe, se, hfe, we, nde⟩
    · cases de3
      refine iteT ?_
      exact ⟨_, rfl, .inl ⟨rfl, _, SqL.of hu3⟩, _, rfl, FA, _, .str y, rfl, rfl, hu3, lap, one y H3 _ (Same.refl _) rfl⟩
    · obtain ⟨h, args, rfl⟩ := we.tup
      obtain ⟨b, ys, ds, rfl, e3, hb, dys⟩ := tup_of de3 rfl
      cases e3
      obtain ⟨zs, rfl, dzs⟩ : ∃ zs, ys = .str h :: zs ∧ DpAll K H3 zs args := by
        cases dys with
        | cons y1 y2 =>
          cases y1
          exact ⟨_, rfl, y2⟩
      have a0 : atI (V.str h :: zs) 0 = some (.str h) := atI_nat (j := 0) rfl
      refine iteF ⟨_, rfl, b, _, 0, _, rfl, rfl, hb, a0, few (by simp), fun T4 hT4 => ⟨T4, _, rfl, .inr (.inl (.inl upd_same)), rfl, rfl, _, rfl, ?_⟩⟩
      have s4 : Same H3 (upd H3 T4 (.tup [.str "int", .str "name"])) := same_new hT4 _
      generalize upd H3 T4 (.tup [.str "int", .str "name"]) = H4 at s4
      have hb4 := seqT_up s4 hb
      rcases we.look with lf | ⟨f', h', sl, args', rfl, e4, m4, n4, ok4⟩
      · have ew := words_leaf (f := 40) lf
        have ew : wt (.tuple (.str h :: args)) = leafWords (.tuple (.str h :: args)) := ew
        rcases lf with ⟨i, e4, hi⟩ | ⟨y, e4 | e4, hy⟩
        · cases e4
          obtain ⟨rfl⟩ : zs = [.int i] := by
            cases dzs with
            | cons y1 y2 =>
              cases y1
              cases y2
              rfl
          refine iteT' (by decide +kernel) ⟨_, rfl, .inl ⟨rfl, _, SqL.of (s4 _ _ hu3)⟩, _, rfl, b, _, 1, _, rfl, rfl, hb4, atI_nat (j := 1) rfl, .inl ⟨i, rfl, num_log hi, FA, _, .str (txt (.int i)), rfl, rfl, s4 _ _ hu3, lap, one _ H4 _ s4 ?_⟩⟩
          rw [ew]
          show [if ("int" : Str) = "atom" then _ else _] = _
          rw [if_neg (by decide +kernel)]
        · cases e4
          obtain ⟨rfl⟩ : zs = [.str y] := by
            cases dzs with
            | cons y1 y2 =>
              cases y1
              cases y2
              rfl
          refine iteT' (by decide +kernel) ⟨_, rfl, .inl ⟨rfl, _, SqL.of (s4 _ _ hu3)⟩, _, rfl, b, _, 1, _, rfl, rfl, hb4, atI_nat (j := 1) rfl, .inr ⟨y, rfl, FA, _, .str y, rfl, rfl, s4 _ _ hu3, lap, one _ H4 _ s4 ?_⟩⟩
          rw [ew]
          show [if ("name" : Str) = "atom" then _ else _] = _
          rw [if_neg (by decide +kernel)]
          rfl
        · cases e4
          obtain ⟨rfl⟩ : zs = [.str y] := by
            cases dzs with
            | cons y1 y2 =>
              cases y1
              cases y2
              rfl
          obtain ⟨_, _, _, _, q5, _⟩ := q_head y
          obtain ⟨_, _, _, _, _, l8⟩ := isNm_fst hy
          have e6 : (Str.empty ++ "'" : Str) = "'" := by decide +kernel
          refine iteF' (by decide +kernel) ⟨_, rfl, b, _, 0, _, rfl, rfl, hb4, a0, rfl, _, rfl, iteT' (by decide +kernel) ⟨_, rfl, .inl ⟨rfl, _, SqL.of (s4 _ _ hu3)⟩, "'", rfl, by rw [e6]; decide +kernel, ?_⟩⟩
          rw [e6]
          refine ⟨_, rfl, b, _, 1, _, rfl, rfl, hb4, atI_nat (j := 1) rfl, .inl ⟨y, rfl, few (by omega), y, rfl, few (by omega), FA, _, .str ("'" ++ y), rfl, rfl, s4 _ _ hu3, lap, one _ H4 _ s4 ?_⟩⟩
          rw [ew]
          show [if ("atom" : Str) = "atom" then _ else _] = _
          rw [if_pos rfl]
          rfl
      · cases e4
        have ew : wt (.tuple (.str h :: args)) = [("(" : Str), h] ++ argWords (wordsD 39) sl.cps.toList args ++ [(")" : Str)] := words_node m4 n4
        have nd5 : nods args ≤ 5000000 := by
          simp only [nod, nods] at nde
          omega
        obtain ⟨it1, it2⟩ := args_itm (by omega) ok4 nd5
        have ew : wt (.tuple (.str h :: args)) = [("(" : Str), h] ++ (thD sl.cps.toList args).flatMap wt ++ [(")" : Str)] := by
          rw [ew, it2, argWords_congr (fun s d z => words_mono z (by omega : f' ≤ 39)) ok4]
        have nar : nls args = true := by
          simpa only [nl, nls, Bool.true_and] using nx2
        have hin : inV (.str h) [.str "int", .str "name"] = false := by
          cases hq : inV (.str h) [.str "int", .str "name"] with
          | false => rfl
          | true =>
            exfalso
            apply n4
            unfold leafHeads
            rcases (inVv _ _ _).mp hq with z | z <;> rw [z] <;> decide +kernel
        have hat : ¬ h = "atom" := fun z => n4 (by rw [z]; decide +kernel)
        refine iteF' hin ⟨_, rfl, b, _, 0, _, rfl, rfl, hb4, a0, rfl, _, rfl, iteF' (decide_eq_false fun z => hat (V.str.inj z)) ?_⟩
        refine ⟨_, rfl, b, h, sl, zs, args, Wx f', rfl, hb4, Dp.ups s4 _ _ dzs, nar, m4, ok4, nd5, fun L us H5 s5 hL h5 dus => ?_⟩
        have s35 := s4.trans s5
        have hu5 := s35 _ _ hu3
        have hx5 := s35 _ _ hx3
        have nLF : L ≠ FA := fun z => by
          rw [z, s4 _ _ hu3] at hL
          cases hL
        have nLT : L ≠ TD := fun z => by
          rw [z, s4 _ _ hx3] at hL
          cases hL
        have lus := DpAll.len dus
        have lth := thD_small ok4
        refine ⟨_, rfl, .inl ⟨rfl, _, SqL.of hu5⟩, _, rfl, b, _, 0, _, rfl, rfl, seqT_up s5 hb4, a0, few (by simp), fun D hD => ?_⟩
        have s6 : Same H5 (upd H5 D (.lst [.str "(", .str h])) := same_new hD _
        have hD6 : (upd H5 D (.lst [.str "(", .str h])) D = some (.lst [.str "(", .str h]) := upd_same
        generalize upd H5 D (.lst [.str "(", .str h]) = H6 at s6 hD6
        refine ⟨FA, D, _, _, rfl, rfl, s6 _ _ hu5, hD6, few3 (by rw [List.length_map]; simp only [List.length_cons, List.length_nil]; omega), ?_⟩
        have o7 : Off [FA, TD] H6 (upd H6 FA (.lst (ws.map V.str ++ [.str "(", .str h]))) := Off.put (by simp)
        have hu7 : (upd H6 FA (.lst (ws.map V.str ++ [.str "(", .str h]))) FA = some (.lst (ws.map V.str ++ [.str "(", .str h])) := upd_same
        have hx7 : (upd H6 FA (.lst (ws.map V.str ++ [.str "(", .str h]))) TD = some (.lst ts2) := by rw [upd_ne nFT.symm]; exact s6 _ _ hx5
        generalize upd H6 FA (.lst (ws.map V.str ++ [.str "(", .str h])) = H7 at o7 hu7 hx7
        have le2 := DpAll.len da3
        have fl2 := flat_len (es := es2) fun e he => ix e (by simp [he])
        have fl3 : (es2.reverse.flatMap wt).length = (es2.flatMap wt).length := by
          rw [List.length_flatMap, List.length_flatMap, List.map_reverse, List.sum_reverse]
        refine ⟨_, rfl, .inl ⟨rfl, _, SqL.of hx7⟩, TD, ts2, .str ")", rfl, rfl, hx7, Nat.lt_of_le_of_lt (by omega : ts2.length ≤ 16000000) (by decide), ?_⟩
        have o8 : Off [FA, TD] H7 (upd H7 TD (.lst (ts2 ++ [.str ")"]))) := Off.put (by simp)
        have hu8 : (upd H7 TD (.lst (ts2 ++ [.str ")"]))) FA = some (.lst (ws.map V.str ++ [.str "(", .str h])) := by rw [upd_ne nFT]; exact hu7
        have hx8 : (upd H7 TD (.lst (ts2 ++ [.str ")"]))) TD = some (.lst (ts2 ++ [.str ")"])) := upd_same
        generalize upd H7 TD (.lst (ts2 ++ [.str ")"])) = H8 at o8 hu8 hx8
        have o58 : Off [FA, TD] H5 H8 := (Off.of s6).trans (o7.trans o8)
        have nmL : L ∉ [FA, TD] := by
          simp only [List.mem_cons, List.not_mem_nil, or_false, not_or]
          exact ⟨nLF, nLT⟩
        refine ⟨_, rfl, .inl ⟨rfl, _, SqL.of hx8⟩, _, rfl, L, us, rfl, SqL.of (o58.get h5 nmL), fun p hp => ⟨TD, p, _, us.reverse, rfl, rfl, (same_new hp _) _ _ hx8, upd_same, few3 (by rw [List.length_append, List.length_reverse, List.length_singleton]; omega), ?_⟩⟩
        have s9 : Same H8 (upd H8 p (.lst us.reverse)) := same_new hp _
        generalize upd H8 p (.lst us.reverse) = H9 at s9
        have o10 : Off [FA, TD] H9 (upd H9 TD (.lst (ts2 ++ [.str ")"] ++ us.reverse))) := Off.put (by simp)
        have o5X : Off [FA, TD] H5 (upd H9 TD (.lst (ts2 ++ [.str ")"] ++ us.reverse))) := o58.trans ((Off.of s9).trans o10)
        have o3X : Off [FA, TD] H3 (upd H9 TD (.lst (ts2 ++ [.str ")"] ++ us.reverse))) := (Off.of s35).trans o5X
        have nt5 : NT [FA, TD] H5 := .cons (nt_lst hu5) (.cons (nt_lst hx5) .nil)
        have nth : nls (thD sl.cps.toList args) = true := thD_nl nar
        rw [ew] at eq2 len2
        refine ⟨W.length - (ws ++ [("(" : Str), h]).length, ?_, ws ++ [("(" : Str), h], ts2 ++ [.str ")"] ++ us.reverse, es2 ++ [.str ")"] ++ (thD sl.cps.toList args).reverse, _, _, rfl, ?_, upd_same, ?_, ?_, ?_, ?_, ?_, off3.trans o3X⟩
        · simp only [List.length_append, List.length_cons, List.length_nil] at len2 ⊢
          omega
        · rw [upd_ne nFT, List.map_append]
          exact s9 _ _ hu8
        · exact DpAll.app (DpAll.app (DpAll.off da3 nt3 nx1 o3X) (.cons (.str _) .nil)) (dpAll_rev (DpAll.off dus nt5 nth o5X))
        · rw [nls_app, nls_app, nx1, nls_rev, nth]
          simp only [nls, nl, Bool.and_self]
        · intro e he
          rcases List.mem_append.mp he with z | z
          · rcases List.mem_append.mp z with z | z
            · exact ix e (by simp [z])
            · rw [List.mem_singleton.mp z]
              exact .inl ⟨_, rfl⟩
          · exact it1 e (List.mem_reverse.mp z)
        · rw [← eq2]
          simp only [List.reverse_append, List.reverse_reverse, List.reverse_cons, List.reverse_nil, List.nil_append, List.flatMap_append, List.flatMap_cons, List.flatMap_nil, List.append_nil, List.append_assoc, List.cons_append]
          rfl
        · simp only [List.length_append, List.length_cons, List.length_nil] at len2 ⊢
          omega
end
/-! the law's own drawing -/
abbrev sPick : Stmt := topS 31
abbrev sForms : Stmt := topS 32
abbrev sWord : Stmt := topS 33
abbrev sThing : Stmt := topS 34
theorem scPick : FnScope ["_law_box_here", "_law_items"] ["_law_box_here", "_law_items"] (defScope sPick) := ⟨rfl, rfl, rfl, by decide +kernel, rfl, by decide +kernel, by decide +kernel⟩
theorem scForms : FnScope ["_law_sort", "_law_found", "_law_more", "_law_tests"] ["_law_sort"] (defScope sForms) := ⟨rfl, rfl, rfl, by decide +kernel, rfl, by decide +kernel, by decide +kernel⟩
theorem scWord : FnScope ["_law_box_here", "_law_letters", "_law_many", "_law_k"] ["_law_box_here"] (defScope sWord) := ⟨rfl, rfl, rfl, by decide +kernel, rfl, by decide +kernel, by decide +kernel⟩
theorem scThing : FnScope ["_law_box_here", "_law_slot", "_law_some", "_law_great"] ["_law_box_here", "_law_slot"] (defScope sThing) := ⟨rfl, rfl, rfl, by decide +kernel, rfl, by decide +kernel, by decide +kernel⟩
theorem b_dict : bootBuiltins "dict" = some (.type "dict") := by decide +kernel
def kvL (l : List (Str × Str)) : List (Key × V) := l.map fun p => (Sum.inr p.1, V.str p.2)
theorem putK_new {kvs : List (Key × V)} {k : Key} {v : V} (h : ∀ p ∈ kvs, p.1 ≠ k) : putK kvs k v = kvs ++ [(k, v)] := by
  unfold putK
  rw [if_neg]
  intro z
  obtain ⟨p, hp, e⟩ := List.any_eq_true.mp z
  exact h p hp (of_decide_eq_true e)
theorem mergeK_new : ∀ (more kvs : List (Key × V)), ((kvs ++ more).map Prod.fst).Nodup → mergeK kvs more = kvs ++ more
  | [], kvs, _ => by simp [mergeK]
  | (k, v) :: r, kvs, h => by
    have e : putK kvs k v = kvs ++ [(k, v)] := putK_new fun p hp e => by
      rw [List.map_append, List.nodup_append] at h
      exact h.2.2 p.1 (List.mem_map.mpr ⟨p, hp, rfl⟩) k (by simp) e
    show mergeK (putK kvs k v) r = _
    rw [e, mergeK_new r (kvs ++ [(k, v)]) (by rw [List.append_assoc]; exact h), List.append_assoc]
    rfl
theorem kvL_nodup {l : List (Str × Str)} (h : (l.map Prod.fst).Nodup) : ((kvL l).map Prod.fst).Nodup := by
  unfold kvL
  rw [List.map_map]
  have e : (Prod.fst ∘ fun p : Str × Str => ((Sum.inr p.1 : Key), V.str p.2)) = (fun x : Str => (Sum.inr x : Key)) ∘ Prod.fst := rfl
  rw [e, ← List.map_map]
  exact List.Pairwise.map _ (fun a b n z => n (Sum.inr.inj z)) h
theorem merge_kvL {l : List (Str × Str)} (h : (l.map Prod.fst).Nodup) : mergeK [] (kvL l) = kvL l := mergeK_new _ _ (kvL_nodup h)
theorem kvL_app (a b : List (Str × Str)) : kvL (a ++ b) = kvL a ++ kvL b := List.map_append
theorem nd_ex : (exL.map Prod.fst).Nodup := by decide +kernel
theorem nd_te : (teL.map Prod.fst).Nodup := by decide +kernel
theorem nd_all : (allL.map Prod.fst).Nodup := by decide +kernel
def spPick : Sp := fun vs H Q _ => ∃ p g a xs, vs = [.ref p, .ref a] ∧ Box H p g ∧ H a = some (.lst xs) ∧ a ∉ [p, g] ∧ 0 < xs.length ∧ xs.length ≤ 1000 ∧ ∀ x ∈ xs, ∀ H', Box H' p g → Off [p, g] H H' → Q x H'
def spForms : Sp := fun vs H Q _ => ∃ s, vs = [.str s] ∧ ∀ p H', Same H H' → H p = none → H' p = some (.dK (kvL (if s = "t" then teL else exL))) → Q (.ref p) H'
def spWord : Sp := fun vs H Q _ => ∃ p g, vs = [.ref p] ∧ Box H p g ∧ ∀ x H', isNm x = true → Box H' p g → Off [p, g] H H' → Q (.str x) H'
def spThing : Sp := fun vs H Q _ => ∃ p g c, vs = [.ref p, .str ⟨#[c]⟩] ∧ (c = 119 ∨ c = 110 ∨ c = 107 ∨ c = 105) ∧ Box H p g ∧ ∀ v d H', (∀ (K : PySem.W.Frag) (H'' : Hp), Dp K H'' v d) → LeafOk c d → gd d = true → nod d = 1 → d.depth = 0 → nl d = true → Box H' p g → Off [p, g] H H' → Q v H' 
theorem joinL_one : ∀ cs : List Nat, TL.joinL [] (cs.map fun c => [c]) = cs
  | [] => rfl
  | [c] => rfl
  | c :: d :: cs => by
    have ih := joinL_one (d :: cs)
    show [c] ++ ([] ++ TL.joinL [] ((d :: cs).map fun c => [c])) = _
    rw [ih]
    rfl
theorem join_one (cs : List Nat) : (Txt.join "" (cs.map fun c => (⟨#[c]⟩ : Str))).cps.toList = cs := by
  have e := SX.join_S [] (cs.map fun c => [c])
  rw [List.map_map, joinL_one] at e
  have e2 : ("" : Str) = SX.S [] := by decide +kernel
  have e3 : (SX.S ∘ fun c : Nat => [c]) = fun c => (⟨#[c]⟩ : Str) := rfl
  rw [e3] at e
  rw [e2, e]
theorem join_nm {cs : List Nat} (h : ∀ c ∈ cs, lowOk c = true) (h1 : 1 ≤ cs.length) (h8 : cs.length ≤ 8) : isNm (Txt.join "" (cs.map fun c => (⟨#[c]⟩ : Str))) = true := by
  have e := join_one cs
  generalize Txt.join "" (cs.map fun c => (⟨#[c]⟩ : Str)) = x at e
  have lx : x.length = cs.length := by rw [len_cps, ← Array.length_toList, e]
  unfold isNm
  rw [lx, e, decide_eq_true h1, decide_eq_true h8, List.all_eq_true.mpr h]
  rfl
theorem alpha_low : ∀ c ∈ ("abcdefghijklmnopqrstuvwxyz" : Str).cps.toList, lowOk c = true := by decide +kernel
theorem alpha_sm : Sm 26 ("abcdefghijklmnopqrstuvwxyz" : Str) := Sm.of (by decide +kernel)
theorem alpha_len : ("abcdefghijklmnopqrstuvwxyz" : Str).cps.toList.length = 26 := by decide +kernel
section
variable {P : Program} {w : World} {K : PySem.W.Frag} {mg : Str → Option Value} {base : Heap} {f fT fP fW : Addr} {fd dT dP dW : FuncData}
theorem ok_pick {k : Nat} (F : Fun K "_law_pick" "_law_pick" sPick f fd) (mn : mg "len" = none) (T : Tk P w K mg base fT dT) : FnOk P w K mg base CX0 (k + 2) f fd ["_law_box_here", "_law_items"] spPick := by
  refine F.ok scPick (fun vs H Q E h => ?_) (fun cdv A outer s H vs Q E hr h => ?_)
  · obtain ⟨p, g, a, xs, rfl, _⟩ := h
    rfl
  obtain ⟨p, g, a, xs, rfl, hb, ha, na, l0, l1, q⟩ := h
  have hr1 : Room 1 _ := hr.mono (by omega)
  refine ⟨_, pss_one (ps_ret (pe_ix ix_list (pv 1) (pe_call T.ok hr1 (by rfl) T.mg T.kp T.bd .nil pass0 (pa_cons (pv 0) (pa_cons (pe_callB call_len_seq (by rfl) mn PySem.boot_len (pa_cons (pv 1) pa_nil)) pa_nil))) (fun _ _ => rfl))), ?_⟩
  refine ⟨_, rfl, _, rfl, _, rfl, a, xs, rfl, .inl (SqL.of ha), p, g, _, rfl, hb, by omega, ?_, fun r H1 r0 r1 b1 o1 => ?_⟩
  · show xs.length < 2 ^ 200
    exact Nat.lt_of_le_of_lt l1 (by decide)
  obtain ⟨x, hx, mx, _⟩ := atI_ok (xs := xs) r0 r1
  exact ⟨a, _, _, x, rfl, rfl, SqL.of (o1.get ha na), hx, q x mx H1 b1 o1⟩
theorem ok_forms {k : Nat} (F : Fun K "_law_forms" "_law_forms" sForms f fd) (md : mg "dict" = none) (ml : mg "list" = none) : FnOk P w K mg base CX0 (k + 1) f fd ["_law_sort"] spForms := by
  refine F.ok scForms (fun vs H Q E h => ?_) (fun cdv A outer s H vs Q E hr h => ?_)
  · obtain ⟨s, rfl, _⟩ := h
    rfl
  obtain ⟨srt, rfl, q⟩ := h
  refine ⟨_, pss_cons (ps_set (i := 1) scForms.nd rfl (.inl rfl) (pe_disp (pps_cons pe_str pe_str (pps_cons pe_str pe_str (pps_cons pe_str pe_str (pps_cons pe_str pe_str (pps_cons pe_str pe_str (pps_cons pe_str pe_str (pps_cons pe_str pe_str (pps_cons pe_str pe_str pps_nil)))))))) (by rfl) (by rfl) (fun z => by cases z) (by decide)))
    (pss_cons (ps_set (i := 2) scForms.nd rfl (.inl rfl) (pe_disp (pps_cons pe_str pe_str (pps_cons pe_str pe_str (pps_cons pe_str pe_str (pps_cons pe_str pe_str (pps_cons pe_str pe_str (pps_cons pe_str pe_str (pps_cons pe_str pe_str pps_nil))))))) (by rfl) (by rfl) (fun z => by cases z) (by decide)))
    (pss_cons (ps_set (i := 3) scForms.nd rfl (.inl rfl) (pe_disp (pps_cons pe_str pe_str (pps_cons pe_str pe_str (pps_cons pe_str pe_str (pps_cons pe_str pe_str (pps_cons pe_str pe_str (pps_cons pe_str pe_str (pps_cons pe_str pe_str pps_nil))))))) (by rfl) (by rfl) (fun z => by cases z) (by decide)))
    (pss_one (ps_ret (pe_ifExp (pt_cmpR op_eq (pv 0) pe_str (nomark _)) (pv 3) (pe_callTy (call_dictP rfl) (by rfl) md b_dict (pa_cons
      (pe_op op_cat (pe_op op_cat (LiI.pe_listItems (by rfl) (pv 1) (by rfl) ml b_list) (LiI.pe_listItems (by rfl) (pv 2) (by rfl) ml b_list)) (pe_lst (pa_cons (pe_tup (pa_cons pe_str (pa_cons pe_str pa_nil))) pa_nil))) pa_nil))))))), ?_⟩
  refine fun p1 h1 => ⟨upd_same, kvL (exL.take 8), rfl, by decide, fun p2 h2 => ⟨upd_same, kvL ((exL.drop 8).take 7), rfl, by decide, fun p3 h3 => ⟨upd_same, kvL teL, rfl, by decide, ?_⟩⟩⟩
  rw [merge_kvL (by decide +kernel)] at h2
  rw [merge_kvL (by decide +kernel), merge_kvL (by decide +kernel)] at h3
  rw [merge_kvL (by decide +kernel), merge_kvL (by decide +kernel), merge_kvL (by decide +kernel)]
  have sA : Same H (upd (upd H p1 (.dK [])) p1 (.dK (kvL (exL.take 8)))) := fun b u z => by
    rw [upd_ne (ne_of_none z h1), upd_ne (ne_of_none z h1)]
    exact z
  have hA1 : (upd (upd H p1 (.dK [])) p1 (.dK (kvL (exL.take 8)))) p1 = some (.dK (kvL (exL.take 8))) := upd_same
  generalize upd (upd H p1 (.dK [])) p1 (.dK (kvL (exL.take 8))) = HA at *
  have sB : Same HA (upd (upd HA p2 (.dK [])) p2 (.dK (kvL ((exL.drop 8).take 7)))) := fun b u z => by
    rw [upd_ne (ne_of_none z h2), upd_ne (ne_of_none z h2)]
    exact z
  have hB2 : (upd (upd HA p2 (.dK [])) p2 (.dK (kvL ((exL.drop 8).take 7)))) p2 = some (.dK (kvL ((exL.drop 8).take 7))) := upd_same
  generalize upd (upd HA p2 (.dK [])) p2 (.dK (kvL ((exL.drop 8).take 7))) = HB at *
  have sC : Same HB (upd (upd HB p3 (.dK [])) p3 (.dK (kvL teL))) := fun b u z => by
    rw [upd_ne (ne_of_none z h3), upd_ne (ne_of_none z h3)]
    exact z
  have hC3 : (upd (upd HB p3 (.dK [])) p3 (.dK (kvL teL))) p3 = some (.dK (kvL teL)) := upd_same
  generalize upd (upd HB p3 (.dK [])) p3 (.dK (kvL teL)) = HC at *
  have s3 := sA.trans (sB.trans sC)
  refine ⟨_, rfl, rfl, _, rfl, ite2 (fun c => ⟨_, rfl, ?_⟩) (fun c => ?_)⟩
  · have c : srt = "t" := V.str.inj (of_decide_eq_true c)
    exact q p3 HC s3 ((sA.trans sB).free h3) (by rw [if_pos c]; exact hC3)
  · have c : ¬ srt = "t" := fun z => c (decide_eq_true (by rw [z]))
    refine ⟨_, rfl, p1, _, rfl, sC _ _ (sB _ _ hA1), fun H5 l1 ts1 s5 hl1 ht1 nl1 e1 P1 => ?_⟩
    have s5 : Same HC H5 := s5
    refine ⟨_, rfl, p2, _, rfl, s5 _ _ (sC _ _ hB2), fun H6 l2 ts2 s6 hl2 ht2 nl2 e2 P2 => ?_⟩
    have s6 : Same H5 H6 := s6
    have t1 := P1.length
    have t2 := P2.length
    have q1 : (kvL (exL.take 8)).length = 8 := by decide +kernel
    have q2 : (kvL ((exL.drop 8).take 7)).length = 7 := by decide +kernel
    refine ⟨l1, l2, _, _, rfl, rfl, s6 _ _ e1, e2, few (by rw [List.length_map, List.length_map]; omega), fun l3 hl3 => ⟨few (by simp), fun t3 ht3 => ⟨few (by simp), fun l4 hl4 => ?_⟩⟩⟩
    have s7 : Same H6 (upd H6 l3 (.lst (ts1.map V.ref ++ ts2.map V.ref))) := same_new hl3 _
    have e3 : (upd H6 l3 (.lst (ts1.map V.ref ++ ts2.map V.ref))) l3 = some (.lst (ts1.map V.ref ++ ts2.map V.ref)) := upd_same
    generalize upd H6 l3 (.lst (ts1.map V.ref ++ ts2.map V.ref)) = H7 at *
    have s8 : Same H7 (upd H7 t3 (.tup [.str "fail", .str "n"])) := same_new ht3 _
    have e4 : (upd H7 t3 (.tup [.str "fail", .str "n"])) t3 = some (.tup [.str "fail", .str "n"]) := upd_same
    generalize upd H7 t3 (.tup [.str "fail", .str "n"]) = H8 at *
    have s9 : Same H8 (upd H8 l4 (.lst [.ref t3])) := same_new hl4 _
    have e5 : (upd H8 l4 (.lst [.ref t3])) l4 = some (.lst [.ref t3]) := upd_same
    generalize upd H8 l4 (.lst [.ref t3]) = H9 at *
    refine ⟨l3, l4, _, _, rfl, rfl, s9 _ _ (s8 _ _ e3), e5, few (by simp only [List.length_append, List.length_map, List.length_cons, List.length_nil]; omega), fun l5 hl5 => ?_⟩
    have s10 : Same H9 (upd H9 l5 (.lst (ts1.map V.ref ++ ts2.map V.ref ++ [.ref t3]))) := same_new hl5 _
    have e6 : (upd H9 l5 (.lst (ts1.map V.ref ++ ts2.map V.ref ++ [.ref t3]))) l5 = some (.lst (ts1.map V.ref ++ ts2.map V.ref ++ [.ref t3])) := upd_same
    generalize upd H9 l5 (.lst (ts1.map V.ref ++ ts2.map V.ref ++ [.ref t3])) = HX at *
    have up : ∀ {H1 H2 : Hp} {ts : List Addr} {kvs : List (Key × V)}, Same H1 H2 → Paired (fun (t : Addr) (q : Key × V) => H1 t = some (.tup [kV q.1, q.2])) ts kvs → Paired (fun (t : Addr) (q : Key × V) => SqT K H2 t [kV q.1, q.2]) ts kvs := fun s p => paired_mono (fun a b z => .inl (.inl (s _ _ z))) p
    refine ⟨l5, ts1 ++ ts2 ++ [t3], kvL exL, rfl, ?_, ?_, fun r hr5 => ?_⟩
    · refine SqL.of ?_
      rw [e6, List.map_append, List.map_append]
      rfl
    · have e7 : kvL exL = kvL (exL.take 8) ++ kvL ((exL.drop 8).take 7) ++ [((Sum.inr "fail" : Key), V.str "n")] := by decide +kernel
      rw [e7]
      exact paired_app (paired_app (up (s6.trans (s7.trans (s8.trans (s9.trans s10)))) P1) (up (s7.trans (s8.trans (s9.trans s10))) P2)) (.cons (.inl (.inl (s10 _ _ (s9 _ _ e4)))) .nil)
    · rw [merge_kvL nd_ex]
      have sX : Same H HX := s3.trans (s5.trans (s6.trans (s7.trans (s8.trans (s9.trans s10)))))
      exact q r _ (sX.trans (same_new hr5 _)) (sX.free hr5) (by rw [if_neg c]; exact upd_same)
theorem ok_word {k : Nat} (F : Fun K "_law_word" "_law_word" sWord f fd) (mr : mg "range" = none) (T : Tk P w K mg base fT dT) (GP : Dn P w K mg base 2 "_law_pick" ["_law_box_here", "_law_items"] spPick fP dP) : FnOk P w K mg base CX0 (k + 3) f fd ["_law_box_here"] spWord := by
  refine F.ok scWord (fun vs H Q E h => ?_) (fun cdv A outer s H vs Q E hr h => ?_)
  · obtain ⟨p, g, rfl, _⟩ := h
    rfl
  obtain ⟨p, g, rfl, hb, q⟩ := h
  have hr1 : Room 1 _ := hr.mono (by omega)
  have hr2 : Room 2 _ := hr.mono (by omega)
  refine ⟨_, pss_cons (ps_set (i := 1) scWord.nd rfl (.inr rfl) pe_str)
    (pss_cons (ps_if (pt_cmpR op_eq (pe_call T.ok hr1 (by rfl) T.mg T.kp T.bd .nil pass0 (pa_cons (pv 0) (pa_cons pe_int pa_nil))) pe_int (nomark _))
      (pss_one (ps_ret (pe_call GP.ok hr2 (by rfl) GP.mg GP.kp GP.bd .nil pass0 (pa_cons (pv 0) (pa_cons (pe_lst (pa_cons pe_str (pa_cons pe_str (pa_cons pe_str (pa_cons pe_str (pa_cons pe_str (pa_cons pe_str (pa_cons pe_str (pa_cons pe_str (pa_cons pe_str (pa_cons pe_str pa_nil))))))))))) pa_nil))))) pss_nil)
    (pss_cons (ps_set (i := 2) scWord.nd rfl (.inl rfl) (pe_op op_add pe_int (pe_ix ix_list (pe_lst (pa_cons (pe_call T.ok hr1 (by rfl) T.mg T.kp T.bd .nil pass0 (pa_cons (pv 0) (pa_cons pe_int pa_nil))) (pa_cons (pe_call T.ok hr1 (by rfl) T.mg T.kp T.bd .nil pass0 (pa_cons (pv 0) (pa_cons pe_int pa_nil))) pa_nil)))
      (pe_op op_fdiv (pe_call T.ok hr1 (by rfl) T.mg T.kp T.bd .nil pass0 (pa_cons (pv 0) (pa_cons pe_int pa_nil))) pe_int) (fun _ _ => rfl))))
    (pss_one (ps_ret (pe_join pe_str (pe_lc (own := [("_law_k", 3)]) (g := gName 3) (by rfl) scWord.nd
      (pi_range1 (by rfl) mr (pa_cons (pv 2) pa_nil))
      (blkOk_by (own := [("_law_k", 3)]) (N := ["_law_box_here", "_law_letters", "_law_many", "_law_k"]) (sc := defScope sWord) (by decide +kernel))
      (fun _ _ _ _ _ => pg_name (i := 3) scWord.nd rfl (Or.inl rfl)) (fun _ _ _ _ _ => pts_nil)
      (fun _ _ _ _ _ => pe_ix ix_str (pv 1) (pe_call T.ok hr1 (by rfl) T.mg T.kp T.bd .nil pass0 (pa_cons (pv 0) (pa_cons pe_int pa_nil))) (fun _ _ => rfl)))))))), ?_⟩
  refine ⟨_, rfl, p, g, 6, rfl, hb, by decide, by decide, fun r H1 r0 r8 b1 o1 => ⟨rfl, _, rfl, ite2 (fun c => ?_) (fun c => ?_)⟩⟩
  · refine ⟨_, rfl, few (by simp), fun D hD => ?_⟩
    have nD := b1.notin hD
    refine ⟨p, g, D, _, rfl, b1.put nD, upd_same, nD, by simp, by simp, fun x mx H2 b2 o2 => ?_⟩
    have o3 := off_new (o := .lst [V.str "if", V.str "atom", V.str "tuple", V.str "is", V.str "int", V.str "name", V.str "read", V.str "abcdefgh", V.str "fold", V.str "not"]) o1 nD (o1.free hD nD)
    obtain ⟨y, rfl, sy⟩ : ∃ y : Str, x = .str y ∧ isNm y = true := by
      have key : ∀ y ∈ (["if", "atom", "tuple", "is", "int", "name", "read", "abcdefgh", "fold", "not"] : List Str), isNm y = true := by decide +kernel
      have mx2 : x ∈ (["if", "atom", "tuple", "is", "int", "name", "read", "abcdefgh", "fold", "not"] : List Str).map V.str := mx
      obtain ⟨y, hy, rfl⟩ := List.mem_map.mp mx2
      exact ⟨y, rfl, key y hy⟩
    exact q y H2 sy b2 (o3.trans o2)
  · refine ⟨_, rfl, p, g, 2, rfl, b1, by decide, by decide, fun s1 H3 s10 s12 b3 o3 => ⟨_, rfl, p, g, 8, rfl, b3, by decide, by decide, fun s2 H4 s20 s28 b4 o4 => ⟨few (by simp), fun D hD => ?_⟩⟩⟩
    have o4 := o1.trans (o3.trans o4)
    have nD := b4.notin hD
    have b5 := b4.put (o := .lst [V.int s1, V.int s2]) nD
    have o5 := off_new (o := .lst [V.int s1, V.int s2]) o4 nD (o4.free hD nD)
    refine ⟨_, rfl, p, g, 9, rfl, b5, by decide, by decide, fun s3 H6 s30 s39 b6 o6 => ⟨_, _, rfl, rfl, ⟨by decide, by decide⟩, ?_⟩⟩
    have hD6 := o6.get (upd_same (H := H4) (a := D) (o := .lst [V.int s1, V.int s2])) nD
    obtain ⟨x, hx, mx, _⟩ := atI_ok (xs := [V.int s1, V.int s2]) (r := s3 / 5) (by omega) (by simp only [List.length_cons, List.length_nil]; omega)
    refine ⟨D, _, _, x, rfl, rfl, SqL.of hD6, hx, ?_⟩
    obtain ⟨m, rfl, m0, m8⟩ : ∃ m : Int, x = .int m ∧ 0 ≤ m ∧ m < 8 := by
      simp only [List.mem_cons, List.not_mem_nil, or_false] at mx
      rcases mx with e | e
      · exact ⟨_, e, by omega, by omega⟩
      · exact ⟨_, e, by omega, by omega⟩
    have o6 := o5.trans o6
    refine ⟨1, m, rfl, rfl, ⟨_, rfl⟩, _, rfl, 1 + m, rfl, by omega, by omega, fun D2 hD2 => ?_⟩
    have n2 := b6.notin hD2
    refine lc_range (lo := 0) (n := (1 + m).toNat) (fun i H2 => ∃ cs : List Nat, cs.length = i ∧ (∀ c ∈ cs, lowOk c = true) ∧ H2 D2 = some (.lst ((cs.map fun c => (⟨#[c]⟩ : Str)).map V.str)) ∧ Box H2 p g ∧ Off [p, g] H H2)
      ⟨[], rfl, fun _ z => (List.not_mem_nil z).elim, upd_same, b6.same (same_new hD2 _), o6.trans (Off.of (same_new hD2 _))⟩ ?_ ?_
    · rintro i H2 hi ⟨cs, lc, sc, h1, b2, o2⟩
      refine ⟨rfl, _, rfl, _, rfl, p, g, 26, rfl, b2, by decide, by decide, fun r2 H3 s0 s26 b3 o3 => ?_⟩
      obtain ⟨c, hc, mc, _⟩ := atI_ok (xs := ("abcdefghijklmnopqrstuvwxyz" : Str).cps.toList) (r := r2) s0 (by rw [alpha_len]; exact s26)
      refine ⟨_, _, c, rfl, rfl, alpha_sm.fits (by decide), hc, _, o3.get h1 n2, ?_, cs ++ [c], ?_, ?_, ?_, b3.put n2, ?_⟩
      · rw [List.length_map, List.length_map]
        exact small1000 (by omega)
      · rw [List.length_append, List.length_singleton]
        omega
      · intro d hd
        rcases List.mem_append.mp hd with z | z
        · exact sc d z
        · rw [List.mem_singleton.mp z]
          exact alpha_low c mc
      · rw [upd_same, List.map_append, List.map_append]
        rfl
      · exact off_new (o2.trans o3) n2 (o6.free hD2 n2)
    · rintro H2 ⟨cs, lc, sc, h1, b2, o2⟩
      refine ⟨_, D2, cs.map fun c => (⟨#[c]⟩ : Str), rfl, rfl, .inl (SqL.of h1), ?_, q _ _ (join_nm sc (by omega) (by omega)) b2 o2⟩
      have e0 : (("" : Str)).length = 0 := by decide +kernel
      rw [e0, Nat.mul_zero, Nat.add_zero]
      have z := join_len (ws := cs.map fun c => (⟨#[c]⟩ : Str)) (m := 1) (fun y hy => by
        obtain ⟨c, _, rfl⟩ := List.mem_map.mp hy
        exact Nat.le_refl _)
      rw [List.length_map] at z
      omega
end
theorem nm_sm {x : Str} (h : isNm x = true) : Sm 8 x := by
  unfold isNm at h
  simp only [Bool.and_eq_true, decide_eq_true_eq, List.all_eq_true] at h
  refine ⟨h.1.2, fun c hc => ?_⟩
  have z := h.2 c hc
  unfold lowOk at z
  simp only [Bool.and_eq_true, decide_eq_true_eq] at z
  omega
theorem nm_gd {x : Str} (h : isNm x = true) : gd (.str x) = true := (nm_sm h).gd (by decide)
section
variable {P : Program} {w : World} {K : PySem.W.Frag} {mg : Str → Option Value} {base : Heap} {f fT fP fW : Addr} {fd dT dP dW : FuncData}
theorem ok_thing {k : Nat} (F : Fun K "_law_thing" "_law_thing" sThing f fd) (T : Tk P w K mg base fT dT) (GP : Dn P w K mg base 2 "_law_pick" ["_law_box_here", "_law_items"] spPick fP dP) (GW : Dn P w K mg base 3 "_law_word" ["_law_box_here"] spWord fW dW) :
    FnOk P w K mg base CX0 (k + 4) f fd ["_law_box_here", "_law_slot"] spThing := by
  refine F.ok scThing (fun vs H Q E h => ?_) (fun cdv A outer s H vs Q E hr h => ?_)
  · obtain ⟨p, g, c, rfl, _⟩ := h
    rfl
  obtain ⟨p, g, c, rfl, hc, hb, q⟩ := h
  have hr1 : Room 1 _ := hr.mono (by omega)
  have hr2 : Room 2 _ := hr.mono (by omega)
  have hr3 : Room 3 _ := hr.mono (by omega)
  refine ⟨_, pss_cons (ps_if (pt_cmpR op_eq (pv 1) pe_str (nomark _)) (pss_one (ps_ret (pe_call GP.ok hr2 (by rfl) GP.mg GP.kp GP.bd .nil pass0 (pa_cons (pv 0) (pa_cons (pe_lst (pa_cons pe_str (pa_cons pe_str (pa_cons pe_str pa_nil)))) pa_nil))))) pss_nil)
    (pss_cons (ps_if (pt_cmpR op_eq (pv 1) pe_str (nomark _)) (pss_one (ps_ret (pe_call GW.ok hr3 (by rfl) GW.mg GW.kp GW.bd .nil pass0 (pa_cons (pv 0) pa_nil)))) pss_nil)
    (pss_cons (ps_set (i := 2) scThing.nd rfl (.inl rfl) (pe_lst (pa_cons (pe_call T.ok hr1 (by rfl) T.mg T.kp T.bd .nil pass0 (pa_cons (pv 0) (pa_cons pe_int pa_nil))) (pa_cons (pe_call T.ok hr1 (by rfl) T.mg T.kp T.bd .nil pass0 (pa_cons (pv 0) (pa_cons pe_int pa_nil)))
      (pa_cons (pe_call T.ok hr1 (by rfl) T.mg T.kp T.bd .nil pass0 (pa_cons (pv 0) (pa_cons (pe_op op_pow pe_int pe_int) pa_nil))) (pa_cons (pe_call T.ok hr1 (by rfl) T.mg T.kp T.bd .nil pass0 (pa_cons (pv 0) (pa_cons (pe_op op_pow pe_int pe_int) pa_nil))) pa_nil))))))
    (pss_cons (ps_set (i := 3) scThing.nd rfl (.inl rfl) (pe_ix ix_list (pe_op op_cat (pv 2) (pe_lst (pa_cons (pe_op op_sub (pe_op op_sub (pe_op op_pow pe_int pe_int) pe_int) (pe_call T.ok hr1 (by rfl) T.mg T.kp T.bd .nil pass0 (pa_cons (pv 0) (pa_cons (pe_op op_pow pe_int pe_int) pa_nil)))) pa_nil)))
      (pe_op op_fdiv (pe_call T.ok hr1 (by rfl) T.mg T.kp T.bd .nil pass0 (pa_cons (pv 0) (pa_cons pe_int pa_nil))) pe_int) (fun _ _ => rfl)))
    (pss_one (ps_ret (pe_ifExp (PW.pt (pw_or (pt_cmpR op_eq (pv 1) pe_str (nomark _)) (pw_or1 (pt_cmpR op_gt (pe_call T.ok hr1 (by rfl) T.mg T.kp T.bd .nil pass0 (pa_cons (pv 0) (pa_cons pe_int pa_nil))) pe_int (nomark _))))) (pv 3) (pe_op op_sub pe_int (pv 3)))))))), ?_⟩
  have strq : ∀ x H', LeafOk c (.str x) → gd (.str x) = true → Box H' p g → Off [p, g] H H' → Q (.str x) H' := fun x H' lo gx b o => q (.str x) (.str x) H' (fun _ _ => .str x) lo gx (by simp only [nod]) (by simp only [PyData.depth]) (by simp only [nl]) b o
  have intq : ∀ (i : Int) H', LeafOk c (.int i) → i.natAbs < 10 ^ 18 → Box H' p g → Off [p, g] H H' → Q (.int i) H' := fun i H' lo si b o =>
    q (.int i) (.int i) H' (fun _ _ => .int i) lo (gd_int (Nat.lt_of_lt_of_le si (Nat.le_trans (by decide : 10 ^ 18 ≤ 2 ^ 60) (Nat.pow_le_pow_right (by decide) (by decide))))) (by simp only [nod]) (by simp only [PyData.depth]) (by simp only [nl]) b o
  refine ⟨_, rfl, rfl, _, rfl, ite2 (fun c1 => ?_) (fun c1 => ⟨_, rfl, rfl, _, rfl, ite2 (fun c2 => ?_) (fun c2 => ?_)⟩)⟩
  · have ec : c = 119 := (sg_one c 119).mp (V.str.inj (of_decide_eq_true c1))
    subst ec
    refine ⟨_, rfl, few (by simp), fun D hD => ?_⟩
    have nD := hb.notin hD
    have s1 : Same H (upd H D (.lst [V.str "integer", V.str "atom", V.str "tuple"])) := same_new hD _
    refine ⟨p, g, D, _, rfl, hb.put nD, upd_same, nD, by simp, by simp, fun x mx H2 b2 o2 => ?_⟩
    have mx2 : x ∈ (["integer", "atom", "tuple"] : List Str).map V.str := mx
    obtain ⟨y, hy, rfl⟩ := List.mem_map.mp mx2
    have key : ∀ y ∈ (["integer", "atom", "tuple"] : List Str), (decide (y.length ≤ 8) && y.cps.toList.all fun c => decide (c < 128)) = true := by decide +kernel
    refine strq y H2 ?_ ((Sm.of (key y hy)).gd (by decide)) b2 ((Off.of s1).trans o2)
    simp only [List.mem_cons, List.not_mem_nil, or_false] at hy
    exact .inr (.inr (.inr ⟨rfl, by rcases hy with z | z | z <;> simp [z]⟩))
  · have ec : c = 110 := (sg_one c 110).mp (V.str.inj (of_decide_eq_true c2))
    subst ec
    exact ⟨_, rfl, p, g, rfl, hb, fun x H' nx b o => strq x H' (.inr (.inr (.inl ⟨rfl, x, rfl, nx⟩))) (nm_gd nx) b o⟩
  · have hc2 : c = 107 ∨ c = 105 := by
      rcases hc with z | z | z | z
      · subst z
        exact absurd c1 (by decide +kernel)
      · subst z
        exact absurd c2 (by decide +kernel)
      · exact .inl z
      · exact .inr z
    have b4 : (10 : Int) ^ (4 : Int).toNat = 10000 := by decide
    have b12 : (10 : Int) ^ (12 : Int).toNat = 1000000000000 := by decide
    have b18 : (10 : Int) ^ (18 : Int).toNat = 1000000000000000000 := by decide
    have b6 : (10 : Int) ^ (6 : Int).toNat = 1000000 := by decide
    refine ⟨_, rfl, p, g, 9, rfl, hb, by decide, by decide, fun s1 H3 s10 s12 b3 o3 => ⟨_, rfl, p, g, 21, rfl, b3, by decide, by decide, fun s2 H4 s20 s28 bb4 o4 => ?_⟩⟩
    refine ⟨_, rfl, _, _, rfl, rfl, ⟨by decide, by decide, by decide⟩, p, g, _, rfl, bb4, by decide, by decide, fun s3 H5 s30 s38 b5 o5 => ?_⟩
    refine ⟨_, rfl, _, _, rfl, rfl, ⟨by decide, by decide, by decide⟩, p, g, _, rfl, b5, by decide, by decide, fun s4 H6 s40 s48 bb6 o6 => ?_⟩
    refine ⟨few (by simp), fun D hD => ?_⟩
    rw [b4] at s38
    rw [b12] at s48
    have o7 := o3.trans (o4.trans (o5.trans o6))
    have nD := bb6.notin hD
    have b7 := bb6.put (o := .lst [V.int s1, V.int s2, V.int s3, V.int s4]) nD
    have o8 := off_new (o := .lst [V.int s1, V.int s2, V.int s3, V.int s4]) o7 nD (o7.free hD nD)
    have hD8 : (upd H6 D (.lst [V.int s1, V.int s2, V.int s3, V.int s4])) D = some (.lst [V.int s1, V.int s2, V.int s3, V.int s4]) := upd_same
    generalize upd H6 D (.lst [V.int s1, V.int s2, V.int s3, V.int s4]) = H7 at b7 o8 hD8
    refine ⟨_, rfl, _, _, rfl, rfl, ⟨by decide, by decide, by decide⟩, _, _, rfl, rfl, _, rfl, _, _, rfl, rfl, ⟨by decide, by decide, by decide⟩, p, g, _, rfl, b7, by decide, by decide, fun s5 H8 s50 s58 b8 o9 => ?_⟩
    rw [b6] at s58
    refine ⟨_, _, rfl, rfl, few (by simp), fun D2 hD2 => ?_⟩
    have nD2 := b8.notin hD2
    have b9 := b8.put (o := .lst [V.int (10 ^ (18 : Int).toNat - 1 - s5)]) nD2
    have o10 := off_new (o := .lst [V.int (10 ^ (18 : Int).toNat - 1 - s5)]) (o8.trans o9) nD2 ((o8.trans o9).free hD2 nD2)
    have h89 : Same H8 (upd H8 D2 (.lst [V.int (10 ^ (18 : Int).toNat - 1 - s5)])) := same_new hD2 _
    have hD9 := h89 _ _ (o9.get hD8 nD)
    have hE9 : (upd H8 D2 (.lst [V.int (10 ^ (18 : Int).toNat - 1 - s5)])) D2 = some (.lst [V.int (10 ^ (18 : Int).toNat - 1 - s5)]) := upd_same
    generalize upd H8 D2 (.lst [V.int (10 ^ (18 : Int).toNat - 1 - s5)]) = H9 at b9 o10 hD9 hE9
    refine ⟨D, D2, _, _, rfl, rfl, hD9, hE9, few (by simp), fun D3 hD3 => ?_⟩
    have nD3 := b9.notin hD3
    have bA := b9.put (o := .lst ([V.int s1, V.int s2, V.int s3, V.int s4] ++ [V.int (10 ^ (18 : Int).toNat - 1 - s5)])) nD3
    have oA := off_new (o := .lst ([V.int s1, V.int s2, V.int s3, V.int s4] ++ [V.int (10 ^ (18 : Int).toNat - 1 - s5)])) o10 nD3 (o10.free hD3 nD3)
    have hA : (upd H9 D3 (.lst ([V.int s1, V.int s2, V.int s3, V.int s4] ++ [V.int (10 ^ (18 : Int).toNat - 1 - s5)]))) D3 = some (.lst ([V.int s1, V.int s2, V.int s3, V.int s4] ++ [V.int (10 ^ (18 : Int).toNat - 1 - s5)])) := upd_same
    generalize upd H9 D3 (.lst ([V.int s1, V.int s2, V.int s3, V.int s4] ++ [V.int (10 ^ (18 : Int).toNat - 1 - s5)])) = HA at bA oA hA
    refine ⟨_, rfl, p, g, 9, rfl, bA, by decide, by decide, fun s6 HB s60 s69 bB oB => ⟨_, _, rfl, rfl, ⟨by decide, by decide⟩, ?_⟩⟩
    obtain ⟨x, hx, mx, _⟩ := atI_ok (xs := [V.int s1, V.int s2, V.int s3, V.int s4] ++ [V.int (10 ^ (18 : Int).toNat - 1 - s5)]) (r := s6 / 2) (by omega) (by simp only [List.length_append, List.length_cons, List.length_nil]; omega)
    obtain ⟨m, rfl, m0, m8⟩ : ∃ m : Int, x = .int m ∧ 0 ≤ m ∧ m < 1000000000000000000 := by
      rw [b18] at mx
      simp only [List.mem_cons, List.mem_append, List.not_mem_nil, or_false] at mx
      rcases mx with (e | e | e | e) | e
      · exact ⟨_, e, by omega, by omega⟩
      · exact ⟨_, e, by omega, by omega⟩
      · exact ⟨_, e, by omega, by omega⟩
      · exact ⟨_, e, by omega, by omega⟩
      · exact ⟨_, e, by omega, by omega⟩
    refine ⟨D3, _, _, .int m, rfl, rfl, SqL.of (oB.get hA nD3), hx, ?_⟩
    have oC := oA.trans oB
    have big : (10 : Nat) ^ 18 = 1000000000000000000 := by decide
    have pos : LeafOk c (.int m) := by
      rcases hc2 with z | z
      · exact .inl ⟨z, m, rfl, by rw [big]; omega⟩
      · exact .inr (.inl ⟨z, m, rfl, m0, by rw [big]; omega⟩)
    refine ⟨_, rfl, rfl, _, rfl, ite2 (fun c5 => ⟨_, rfl, intq m HB pos (by rw [big]; omega) bB oC⟩) (fun c5 => ?_)⟩
    have ec : c = 107 := by
      rcases hc2 with z | z
      · exact z
      · subst z
        exact absurd c5 (by decide +kernel)
    refine ⟨_, rfl, p, g, 3, rfl, bB, by decide, by decide, fun s7 HC s70 s73 bC oD => ⟨_, _, rfl, rfl, _, rfl, ite2 (fun c => ⟨_, rfl, ?_⟩) (fun c => ⟨_, rfl, _, _, rfl, rfl, ?_⟩)⟩⟩
    · exact intq m HC pos (by rw [big]; omega) bC (oC.trans oD)
    · exact intq (0 - m) HC (.inl ⟨ec, 0 - m, rfl, by rw [big]; omega⟩) (by rw [big]; omega) bC (oC.trans oD)
end
abbrev sTree : Stmt := topS 35
theorem scTree : FnScope ["_law_box_here", "_law_sort", "_law_deep", "_law_room", "_law_forms_here", "_law_head", "_law_heads", "_law_found", "_law_slot", "_law_many", "_law_is_tree", "_law_k"] ["_law_box_here", "_law_sort", "_law_deep", "_law_room"] (defScope sTree) :=
  ⟨rfl, rfl, rfl, by decide +kernel, rfl, by decide +kernel, by decide +kernel⟩
def phi (w : Int) : Nat := (max w 1).toNat
def limS (s : Str) : Nat := if s = "t" then 6 else 3
def tblS (s : Str) : List (Str × Str) := if s = "t" then teL else exL
def cst (c : Nat) : Nat := if c = 115 then 37 else if c = 101 then 3 else if c = 116 then 6 else 1
def cstL (cs : List Nat) : Nat := (cs.map cst).sum
def keysV (l : List (Str × Str)) : List V := l.map fun p => V.str p.1
abbrev eightV : List V := [.str "int", .str "atom", .str "name", .str "read", .str "is", .str "sized", .str "alike", .str "most"]
abbrev fourV : List V := [.str "int", .str "atom", .str "name", .str "is"]
def spTree (K : PySem.W.Frag) (n : Nat) : Sp := fun vs H Q _ => ∃ p g wd e w0 s, vs = [.ref p, .str s, .int e, .ref wd] ∧ Box H p g ∧ H wd = some (.lst [.int w0]) ∧ wd ∉ [p, g] ∧ ((s = "e" ∧ 0 ≤ e) ∨ (s = "t" ∧ 1 ≤ e)) ∧ e < (n : Int) ∧
  ∀ v d H' w1, Box H' p g → H' wd = some (.lst [.int w1]) → Off [p, g, wd] H H' → Dp K H' v d → Wx n (decide (s = "t")) d → gd d = true → nl d = true → (d.depth : Int) ≤ 2 * e + 1 → w1 ≤ w0 - 1 → nod d + 80 * phi w1 ≤ limS s + 80 * phi w0 → Q v H'
theorem heads_ok {s : Str} {hs : List V} (h : hs = (keysV (tblS s)).filter (fun x => inV x eightV) ∨ hs = keysV (tblS s)) : hs ≠ [] ∧ hs.length ≤ 16 ∧ hs.filter (fun x => inV x fourV) ≠ [] ∧ ∀ x ∈ hs, x ∈ keysV (tblS s) := by
  have a1 : ∀ b : Bool, (keysV (if b = true then teL else exL)).filter (fun x => inV x eightV) ≠ [] ∧ ((keysV (if b = true then teL else exL)).filter (fun x => inV x eightV)).length ≤ 16 ∧ ((keysV (if b = true then teL else exL)).filter (fun x => inV x eightV)).filter (fun x => inV x fourV) ≠ [] := by
    intro b
    cases b <;> exact ⟨by decide +kernel, by decide +kernel, by decide +kernel⟩
  have a2 : ∀ b : Bool, keysV (if b = true then teL else exL) ≠ [] ∧ (keysV (if b = true then teL else exL)).length ≤ 16 ∧ (keysV (if b = true then teL else exL)).filter (fun x => inV x fourV) ≠ [] := by
    intro b
    cases b <;> exact ⟨by decide +kernel, by decide +kernel, by decide +kernel⟩
  have e : tblS s = if decide (s = "t") = true then teL else exL := by
    unfold tblS
    by_cases z : s = "t"
    · rw [if_pos z, if_pos (decide_eq_true z)]
    · rw [if_neg z, if_neg (fun y => z (of_decide_eq_true y))]
  rcases h with rfl | rfl
  · refine ⟨?_, ?_, ?_, fun x hx => (List.mem_filter.mp hx).1⟩
    · rw [e]; exact (a1 _).1
    · rw [e]; exact (a1 _).2.1
    · rw [e]; exact (a1 _).2.2
  · refine ⟨?_, ?_, ?_, fun x hx => hx⟩
    · rw [e]; exact (a2 _).1
    · rw [e]; exact (a2 _).2.1
    · rw [e]; exact (a2 _).2.2
theorem four_ex : ∀ p ∈ exL, inV (.str p.1) fourV = true → p.2 = "k" ∨ p.2 = "n" := by decide +kernel
theorem four_te : ∀ p ∈ teL, inV (.str p.1) fourV = true → p.2 = "we" := by decide +kernel
theorem cst_all : ∀ p ∈ allL, cstL p.2.cps.toList ≤ 60 := by decide +kernel
theorem tbl_all {s : Str} : ∀ p ∈ tblS s, p ∈ allL := fun p h => by
  unfold tblS at h
  split at h
  · exact List.mem_append_right _ h
  · exact List.mem_append_left _ h
structure SlotOk (s : Str) (e w0 : Int) (sl : Str) : Prop where
  go : ∀ c ∈ sl.cps.toList, (c = 101 ∨ c = 115 → 1 ≤ e) ∧ (c = 116 → 2 ≤ e)
  co : 2 + cstL sl.cps.toList + 80 * phi (w0 - 1) ≤ limS s + 80 * phi w0
def PH (s : Str) (e w0 : Int) (hs : List V) : Prop := hs ≠ [] ∧ hs.length ≤ 16 ∧ ∀ x ∈ hs, ∃ h sl, x = .str h ∧ (h, sl) ∈ tblS s ∧ SlotOk s e w0 sl
theorem ph_few {s : Str} {e w0 : Int} {hs : List V} (h : hs = (keysV (tblS s)).filter (fun x => inV x eightV) ∨ hs = keysV (tblS s)) (he : (s = "e" ∧ 0 ≤ e) ∨ (s = "t" ∧ 1 ≤ e)) : PH s e w0 (hs.filter fun x => inV x fourV) := by
  obtain ⟨h1, h2, h3, h4⟩ := heads_ok h
  refine ⟨h3, Nat.le_trans (List.length_filter_le _ _) h2, fun x hx => ?_⟩
  obtain ⟨m1, m2⟩ := List.mem_filter.mp hx
  obtain ⟨⟨hd, sl⟩, m3, rfl⟩ := List.mem_map.mp (h4 x m1)
  refine ⟨hd, sl, rfl, m3, ?_⟩
  have ph : phi (w0 - 1) ≤ phi w0 := by
    unfold phi
    omega
  rcases he with ⟨rfl, e0⟩ | ⟨rfl, e1⟩
  · have l0 : limS "e" = 3 := by decide +kernel
    rcases four_ex _ m3 m2 with z | z
    · simp only at z
      subst z
      have q : cstL ("k" : Str).cps.toList = 1 := by decide +kernel
      exact ⟨fun c hc => by
        have hc : c = 107 := by
          have z : ("k" : Str).cps.toList = [107] := by decide +kernel
          rw [z] at hc
          exact List.mem_singleton.mp hc
        omega, by rw [q, l0]; omega⟩
    · simp only at z
      subst z
      have q : cstL ("n" : Str).cps.toList = 1 := by decide +kernel
      exact ⟨fun c hc => by
        have hc : c = 110 := by
          have z : ("n" : Str).cps.toList = [110] := by decide +kernel
          rw [z] at hc
          exact List.mem_singleton.mp hc
        omega, by rw [q, l0]; omega⟩
  · have l0 : limS "t" = 6 := by decide +kernel
    have z := four_te _ m3 m2
    simp only at z
    subst z
    have q : cstL ("we" : Str).cps.toList = 4 := by decide +kernel
    exact ⟨fun c hc => by
      have hc : c = 119 ∨ c = 101 := by
        have z : ("we" : Str).cps.toList = [119, 101] := by decide +kernel
        rw [z] at hc
        simpa using hc
      omega, by rw [q, l0]; omega⟩
theorem ph_many {s : Str} {e w0 : Int} {hs : List V} (h : hs = (keysV (tblS s)).filter (fun x => inV x eightV) ∨ hs = keysV (tblS s)) (he : 2 ≤ e) (hw : 1 ≤ w0 - 1) : PH s e w0 hs := by
  obtain ⟨h1, h2, h3, h4⟩ := heads_ok h
  refine ⟨h1, h2, fun x hx => ?_⟩
  obtain ⟨⟨hd, sl⟩, m3, rfl⟩ := List.mem_map.mp (h4 x hx)
  refine ⟨hd, sl, rfl, m3, fun c hc => by omega, ?_⟩
  have := cst_all _ (tbl_all _ m3)
  simp only at this
  have : phi w0 = phi (w0 - 1) + 1 := by
    unfold phi
    omega
  omega
theorem lock_same {H2 H3 : Hp} {d : Addr} {u x : HO} (h : H2 d = some u) (s : Same (upd H2 d x) H3) : Same H2 (upd H3 d u) := fun b o z => by
  by_cases e : b = d
  · rw [e, upd_same]
    rw [e, h] at z
    exact z
  · rw [upd_ne e]
    exact s b o (by rw [upd_ne e]; exact z)
theorem sg_s (c : Nat) : (V.str ⟨#[c]⟩ = V.str "s") ↔ c = 115 := by
  rw [V.str.injEq]
  exact sg_one c 115
theorem sg_e : ("e" : Str) = ⟨#[101]⟩ := by decide +kernel
theorem sg_t : ("t" : Str) = ⟨#[116]⟩ := by decide +kernel
theorem inV_et (c : Nat) : inV (.str ⟨#[c]⟩) [.str "e", .str "t"] = true ↔ c = 101 ∨ c = 116 := by
  simp only [inV, List.any_cons, List.any_nil, eqV, Bool.or_false, Bool.or_eq_true, beq_iff_eq]
  rw [sg_e, sg_t, sg_one, sg_one]
  exact ⟨fun h => h.imp Eq.symm Eq.symm, fun h => h.imp Eq.symm Eq.symm⟩
theorem val_te : ∀ p ∈ teL, valV (kvL teL) (Sum.inr p.1 : Key) = some (.str p.2) := by decide +kernel
theorem val_ex : ∀ p ∈ exL, valV (kvL exL) (Sum.inr p.1 : Key) = some (.str p.2) := by decide +kernel
theorem val_tbl {s : Str} : ∀ p ∈ tblS s, valV (kvL (tblS s)) (Sum.inr p.1 : Key) = some (.str p.2) := fun p h => by
  unfold tblS at h ⊢
  split at h
  · rename_i c
    rw [if_pos c]
    exact val_te p h
  · rename_i c
    rw [if_neg c]
    exact val_ex p h
theorem ArgOk.snoc {W : Bool → PyData → Prop} : ∀ {cs : List Nat} {ds : List PyData} {c : Nat} {d : PyData}, ArgOk W cs ds → SlotD W c d → ArgOk W (cs ++ [c]) (ds ++ [d])
  | [], [], _, _, _, h => ⟨h, trivial⟩
  | _ :: _, _ :: _, _, _, h, g => ⟨h.1, ArgOk.snoc h.2 g⟩
  | [], _ :: _, _, _, h, _ => h.elim
  | _ :: _, [], _, _, h, _ => h.elim
theorem leaf_e : ∀ p ∈ exL, p.1 ∈ leafHeads → p = (("int", "k") : Str × Str) ∨ p = (("atom", "n") : Str × Str) ∨ p = (("name", "n") : Str × Str) := by decide +kernel
theorem leaf_t : ∀ p ∈ teL, p.1 ∉ leafHeads := by decide +kernel
theorem slot_chars : ∀ p ∈ allL, ∀ c ∈ p.2.cps.toList, c = 115 ∨ c = 101 ∨ c = 116 ∨ c = 119 ∨ c = 110 ∨ c = 107 ∨ c = 105 := by decide +kernel
theorem tb_tbl (s : Str) : tbS (decide (s = "t")) = tblS s := by
  unfold tbS tblS
  by_cases z : s = "t"
  · rw [if_pos z, if_pos (decide_eq_true z)]
  · rw [if_neg z, if_neg (fun y => z (of_decide_eq_true y))]
theorem node_wx {n : Nat} {s : Bool} {h sl : Str} {ds : List PyData} (m : (h, sl) ∈ tbS s) (a : ArgOk (Wx n) sl.cps.toList ds) : Wx (n + 1) s (.tuple (.str h :: ds)) := by
  by_cases z : h ∈ leafHeads
  · left
    have ck : ("k" : Str).cps.toList = [107] := by decide +kernel
    have cn : ("n" : Str).cps.toList = [110] := by decide +kernel
    cases s with
    | true => exact absurd z (leaf_t (h, sl) m)
    | false =>
      refine ⟨rfl, ?_⟩
      rcases leaf_e (h, sl) m z with e | e | e
      · cases e
        rw [ck] at a
        match ds, a with
        | [d], a =>
          have a1 : LeafOk 107 d := a.1
          rcases a1 with ⟨_, i, rfl, hi⟩ | ⟨z, _⟩ | ⟨z, _⟩ | ⟨z, _⟩
          · exact .inl ⟨i, rfl, hi⟩
          · exact absurd z (by decide)
          · exact absurd z (by decide)
          · exact absurd z (by decide)
        | [], a => exact a.elim
        | _ :: _ :: _, a => exact a.2.elim
      · cases e
        rw [cn] at a
        match ds, a with
        | [d], a =>
          have a1 : LeafOk 110 d := a.1
          rcases a1 with ⟨z, _⟩ | ⟨z, _⟩ | ⟨_, x, rfl, hx⟩ | ⟨z, _⟩
          · exact absurd z (by decide)
          · exact absurd z (by decide)
          · exact .inr ⟨x, .inr rfl, hx⟩
          · exact absurd z (by decide)
        | [], a => exact a.elim
        | _ :: _ :: _, a => exact a.2.elim
      · cases e
        rw [cn] at a
        match ds, a with
        | [d], a =>
          have a1 : LeafOk 110 d := a.1
          rcases a1 with ⟨z, _⟩ | ⟨z, _⟩ | ⟨_, x, rfl, hx⟩ | ⟨z, _⟩
          · exact absurd z (by decide)
          · exact absurd z (by decide)
          · exact .inr ⟨x, .inl rfl, hx⟩
          · exact absurd z (by decide)
        | [], a => exact a.elim
        | _ :: _ :: _, a => exact a.2.elim
  · exact .inr ⟨h, sl, ds, rfl, m, z, a⟩
theorem cstL_snoc (cs : List Nat) (c : Nat) : cstL (cs ++ [c]) = cstL cs + cst c := by
  unfold cstL
  rw [List.map_append, List.sum_append]
  simp
theorem gd_heads : ∀ p ∈ allL, gd (.str p.1) = true := by decide +kernel
theorem op_inK {X : Cx} {K : PySem.W.Frag} (h : X.K = K) : OpR X (compareOp .In) (rIn K false) := by
  subst h
  exact op_in_seq
section
variable {P : Program} {w : World} {K : PySem.W.Frag} {mg : Str → Option Value} {base : Heap} {f fT fF fP fG : Addr} {fd dT dF dP dG : FuncData}
theorem ok_tree {k n : Nat} (F : Fun K "_law_tree" "_law_tree" sTree f fd) (ml : mg "list" = none) (mt : mg "tuple" = none) (mr : mg "range" = none) (T : Tk P w K mg base fT dT) (GF : Dn P w K mg base 1 "_law_forms" ["_law_sort"] spForms fF dF)
    (GP : Dn P w K mg base 2 "_law_pick" ["_law_box_here", "_law_items"] spPick fP dP) (GT : Dn P w K mg base 4 "_law_thing" ["_law_box_here", "_law_slot"] spThing fG dG)
    (G : FnOk P w K mg base CX0 (k + 4) f fd ["_law_box_here", "_law_sort", "_law_deep", "_law_room"] (spTree K n)) (bV : Binds K fd ["_law_box_here", "_law_sort", "_law_deep", "_law_room"] []) (mV : mg "_law_tree" = some (.ref f)) :
    FnOk P w K mg base CX0 (k + 5) f fd ["_law_box_here", "_law_sort", "_law_deep", "_law_room"] (spTree K (n + 1)) := by
  refine F.ok scTree (fun vs H Q E h => ?_) (fun cdv A outer s H vs Q E hr h => ?_)
  · obtain ⟨p, g, wd, e, w0, s, rfl, _⟩ := h
    rfl
  obtain ⟨p, g, wd, e, w0, srt, rfl, hb, hw, nw, hs, en, q⟩ := h
  have hr1 : Room 1 _ := hr.mono (by omega)
  have hr2 : Room 2 _ := hr.mono (by omega)
  have hr4 : Room 4 _ := hr.mono (by omega)
  have hu := hu_of hr
  refine ⟨_, pss_cons (ps_asg (pe_op op_sub (pe_ix ix_list (pv 3) pe_int (fun _ _ => rfl)) pe_int) (pg_sub (pv 3) pe_int set_list))
    (pss_cons (ps_set (i := 4) scTree.nd rfl (.inl rfl) (pe_call GF.ok hr1 (by rfl) GF.mg GF.kp GF.bd .nil pass0 (pa_cons (pv 1) pa_nil)))
    (pss_cons (ps_lock (ps_setLc (i := 6) (own := [("_law_head", 5)]) (g := gName 5) (by rfl) scTree.nd rfl rfl (sw_true rfl rfl rfl (by decide +kernel)) (pi_keys (pv 4))
        (blkOk_by (own := [("_law_head", 5)]) (N := ["_law_box_here", "_law_sort", "_law_deep", "_law_room", "_law_forms_here", "_law_head", "_law_heads", "_law_found", "_law_slot", "_law_many", "_law_is_tree", "_law_k"]) (sc := defScope sTree) (by decide +kernel))
        (fun _ _ _ _ _ => pg_name (i := 5) scTree.nd rfl (Or.inl rfl)) (fun _ _ _ _ _ => pts_one (pt_cmpR (op_inK (K := K) rfl) (pv 5) (pe_tup (pa_cons pe_str (pa_cons pe_str (pa_cons pe_str (pa_cons pe_str (pa_cons pe_str (pa_cons pe_str (pa_cons pe_str (pa_cons pe_str pa_nil))))))))) rfl)) (fun _ _ _ _ _ => pv 5)))
    (C8.pss_cut (ps_if (PW.pt (pw_and (pt_cmpR op_gt (pv 2) pe_int (nomark _)) (pw_and (pt_cmpR op_gt (pe_ix ix_list (pv 3) pe_int (fun _ _ => rfl)) pe_int (nomark _)) (pw_and1 (pt_cmpR op_gt (pe_call T.ok hr1 (by rfl) T.mg T.kp T.bd .nil pass0 (pa_cons (pv 0) (pa_cons pe_int pa_nil))) pe_int (nomark _))))))
      (pss_one (ps_set (i := 6) scTree.nd rfl (.inl rfl) (pe_callTy (call_listD rfl) (by rfl) ml b_list (pa_cons (pv 4) pa_nil)))) pss_nil)
    (C8.pss_cut (ps_if (PW.pt (pw_or (pt_cmpR op_lt (pv 2) pe_int (nomark _)) (pw_or1 (pt_cmpR op_lt (pe_ix ix_list (pv 3) pe_int (fun _ _ => rfl)) pe_int (nomark _)))))
      (pss_one (ps_setLc (i := 6) (own := [("_law_head", 5)]) (g := gName 5) (by rfl) scTree.nd rfl rfl (sw_true rfl rfl rfl (by decide +kernel)) (pi_list (pv 6))
        (blkOk_by (own := [("_law_head", 5)]) (N := ["_law_box_here", "_law_sort", "_law_deep", "_law_room", "_law_forms_here", "_law_head", "_law_heads", "_law_found", "_law_slot", "_law_many", "_law_is_tree", "_law_k"]) (sc := defScope sTree) (by decide +kernel))
        (fun _ _ _ _ _ => pg_name (i := 5) scTree.nd rfl (Or.inl rfl)) (fun _ _ _ _ _ => pts_one (pt_cmpR (op_inK (K := K) rfl) (pv 5) (pe_tup (pa_cons pe_str (pa_cons pe_str (pa_cons pe_str (pa_cons pe_str pa_nil))))) rfl)) (fun _ _ _ _ _ => pv 5))) pss_nil)
    (pss_cons (ps_par (i := 5) (j := 7) (by rfl) scTree.nd rfl rfl (by decide) rfl rfl (pa_cons (pe_call GP.ok hr2 (by rfl) GP.mg GP.kp GP.bd .nil pass0 (pa_cons (pv 0) (pa_cons (pv 6) pa_nil))) (pa_cons (pe_lst pa_nil) pa_nil)) (by rfl))
    (pss_cons (ps_for PassesOwn.never rfl (pi_str (pe_dget hu (pv 4) (pv 5) (fun _ _ => rfl))) (pg_name (i := 8) scTree.nd rfl (Or.inl rfl))
      (pss_one (ps_if (pt_cmpR op_eq (pv 8) pe_str (nomark _))
        (pss_cons (ps_set (i := 9) scTree.nd rfl (.inl rfl) (pe_ix ix_list (pe_lst (pa_cons (pe_call T.ok hr1 (by rfl) T.mg T.kp T.bd .nil pass0 (pa_cons (pv 0) (pa_cons pe_int pa_nil))) (pa_cons (pe_op op_add pe_int (pe_call T.ok hr1 (by rfl) T.mg T.kp T.bd .nil pass0 (pa_cons (pv 0) (pa_cons pe_int pa_nil)))) pa_nil)))
          (pe_op op_fdiv (pe_call T.ok hr1 (by rfl) T.mg T.kp T.bd .nil pass0 (pa_cons (pv 0) (pa_cons pe_int pa_nil))) pe_int) (fun _ _ => rfl)))
        (pss_one (ps_expr (pe_bm PySem.F.plainAttrs_list PySem.F.slot_list_append PySem.F.type_list_append mt_append (pv 7) (pa_cons (pe_callTy call_tuple_of (by rfl) mt b_tup (pa_cons (pe_lc (own := [("_law_k", 11)]) (g := gName 11) (by rfl) scTree.nd (pi_range1 (by rfl) mr (pa_cons (pv 9) pa_nil))
          (blkOk_by (own := [("_law_k", 11)]) (N := ["_law_box_here", "_law_sort", "_law_deep", "_law_room", "_law_forms_here", "_law_head", "_law_heads", "_law_found", "_law_slot", "_law_many", "_law_is_tree", "_law_k"]) (sc := defScope sTree) (by decide +kernel))
          (fun _ _ _ _ _ => pg_name (i := 11) scTree.nd rfl (Or.inl rfl)) (fun _ _ _ _ _ => pts_nil)
          (fun _ _ _ _ _ => pe_call G hr (by rfl) mV F.kp bV .nil pass0 (pa_cons (pv 0) (pa_cons pe_str (pa_cons (pe_op op_sub (pv 2) pe_int) (pa_cons (pv 3) pa_nil)))))) pa_nil)) pa_nil)))))
        (pss_cons (ps_set (i := 10) scTree.nd rfl (.inl rfl) (pe_cmpR op_in_seq (pv 8) (pe_tup (pa_cons pe_str (pa_cons pe_str pa_nil))) rfl))
        (pss_one (ps_expr (pe_bm PySem.F.plainAttrs_list PySem.F.slot_list_append PySem.F.type_list_append mt_append (pv 7) (pa_cons (pe_ifExp (pt_val (pv 10))
          (pe_call G hr (by rfl) mV F.kp bV .nil pass0 (pa_cons (pv 0) (pa_cons (pv 8) (pa_cons (pe_op op_sub (pv 2) pe_int) (pa_cons (pv 3) pa_nil)))))
          (pe_call GT.ok hr4 (by rfl) GT.mg GT.kp GT.bd .nil pass0 (pa_cons (pv 0) (pa_cons (pv 8) pa_nil)))) pa_nil))))))))
    (pss_one (ps_ret (pe_op op_catT (pe_tup (pa_cons (pv 5) pa_nil)) (pe_callTy call_tuple_of (by rfl) mt b_tup (pa_cons (pv 7) pa_nil)))))))))))  , ?_⟩
  have npg : p ∉ [wd] ∧ g ∉ [wd] := by
    simp only [List.mem_cons, List.not_mem_nil, or_false, not_or] at nw ⊢
    exact ⟨fun z => nw.1 z.symm, fun z => nw.2 z.symm⟩
  have sub : ∀ b ∈ [p, g], b ∈ [p, g, wd] := fun b hb => by
    simp only [List.mem_cons, List.not_mem_nil, or_false] at hb ⊢
    rcases hb with h | h
    · exact .inl h
    · exact .inr (.inl h)
  refine ⟨_, rfl, wd, _, 0, _, rfl, rfl, SqL.of hw, rfl, _, _, rfl, rfl, _, rfl, wd, _, 0, 0, rfl, rfl, hw, rfl, ?_⟩
  have b1 := hb.put (o := .lst [.int (w0 - 1)]) nw
  have o1 : Off [p, g, wd] H (upd H wd (.lst [.int (w0 - 1)])) := Off.put (by simp)
  have hw1 : (upd H wd (.lst [.int (w0 - 1)])) wd = some (.lst [.int (w0 - 1)]) := upd_same
  refine ⟨_, rfl, srt, rfl, fun pf H2 s2 hpf e2 => ?_⟩
  have s2 : Same (upd H wd (.lst [.int (w0 - 1)])) H2 := s2
  have et : (if srt = "t" then teL else exL) = tblS srt := rfl
  rw [et] at e2
  have b2 := b1.same s2
  have o2 : Off [p, g, wd] H H2 := o1.trans (Off.of s2)
  have hw2 := s2 _ _ hw1
  refine ⟨pf, .dK (kvL (tblS srt)), e2, trivial, fun od => ?_⟩
  refine ⟨_, rfl, pf, od, rfl, .inl ⟨kvL (tblS srt), upd_same, fun D hD => ?_⟩⟩
  refine lc_it walk_keys (fun i H3 => H3 D = some (.lst (((keysV (tblS srt)).take i).filter fun x => inV x eightV)) ∧ Same (upd H2 pf (.frz od (.dK (kvL (tblS srt))))) (cut [D] H3)) ⟨upd_same, ?_⟩ ?_ ?_ ?_
  · intro b u z
    rw [cut_out (by simp only [List.mem_singleton]; exact ne_of_none z hD), upd_ne (ne_of_none z hD)]
    exact z
  · rintro i H3 hi ⟨g1, g2⟩
    exact cut_same _ _ _ _ (g2 _ _ upd_same)
  · rintro i y H3 H3' hi ⟨g1, g2⟩ ⟨rfl, kk, vv, hk, rfl⟩
    unfold kvL at hk
    rw [List.getElem?_map] at hk
    obtain ⟨⟨hd, sl⟩, hp, ep⟩ := Option.map_eq_some_iff.mp hk
    cases ep
    have tk : (keysV (tblS srt)).take (i + 1) = (keysV (tblS srt)).take i ++ [V.str hd] := get_take (by unfold keysV; rw [List.getElem?_map, hp]; rfl)
    refine ⟨rfl, _, rfl, few (by simp), fun T1 hT1 => ⟨T1, _, rfl, .inr (.inl (.inl upd_same)), rfl, rfl, _, rfl, ite2 (fun c => ?_) (fun c => ?_)⟩⟩
    · have c2 : inV (V.str hd) eightV = true := c
      have q1 : Same H3' (upd H3' T1 (.tup eightV)) := same_new hT1 _
      refine ⟨_, rfl, _, q1 _ _ g1, ?_, ?_, ?_⟩
      · have l1 := List.length_filter_le (fun x => inV x eightV) ((keysV (tblS srt)).take i)
        rw [List.length_take] at l1
        have l2 := (heads_ok (s := srt) (.inr rfl)).2.1
        exact small1000 (by omega)
      · rw [upd_same, tk, List.filter_append]
        simp only [List.filter_cons, c2, if_true, List.filter_nil]
        rfl
      · exact g2.trans ((Off.of q1).trans (Off.put (by simp)))
    · have c2 : inV (V.str hd) eightV = false := Bool.eq_false_iff.mpr c
      have q1 : Same H3' (upd H3' T1 (.tup eightV)) := same_new hT1 _
      refine ⟨?_, g2.trans (Off.of q1)⟩
      rw [q1 _ _ g1, tk, List.filter_append]
      simp only [List.filter_cons, c2, Bool.false_eq_true, if_false, List.filter_nil, List.append_nil]
  · rintro H3 ⟨g1, g2⟩
    have g3 : H3 pf = some (.frz od (.dK (kvL (tblS srt)))) := cut_same _ _ _ _ (g2 _ _ upd_same)
    refine ⟨g3, ?_⟩
    have nDp : D ≠ pf := fun z => by
      rw [z, g3] at g1
      cases g1
    rw [List.take_of_length_le (by simp [kvL, keysV])] at g1
    have s4 : Same H2 (upd H3 pf (.dK (kvL (tblS srt)))) := lock_same e2 (g2.trans (cut_same _ _))
    have hd4 : (upd H3 pf (.dK (kvL (tblS srt)))) D = some (.lst ((keysV (tblS srt)).filter fun x => inV x eightV)) := by
      rw [upd_ne nDp]
      exact g1
    have e4 : (upd H3 pf (.dK (kvL (tblS srt)))) pf = some (.dK (kvL (tblS srt))) := upd_same
    generalize upd H3 pf (.dK (kvL (tblS srt))) = H4 at s4 hd4 e4
    have b4 := b2.same s4
    have o4 := o2.trans (Off.of s4)
    have hw4 := s4 _ _ hw2
    have hpf0 : pf ∉ [p, g, wd] := fun z => by
      simp only [List.mem_cons, List.not_mem_nil, or_false] at z
      rcases z with z | z | z
      · rw [z] at hpf
        exact b1.tr.1 hpf
      · rw [z] at hpf
        exact b1.tr.2 hpf
      · rw [z] at hpf
        exact absurd (hw1.symm.trans hpf) (fun y => nomatch y)
    -- what stands behind the first test
    refine ⟨fun σ H5 => ∃ hd hs, σ = [some (.ref p), some (.str srt), some (.int e), some (.ref wd), some (.ref pf), none, some (.ref hd), none, none, none, none, none] ∧ H5 hd = some (.lst hs) ∧ (hs = (keysV (tblS srt)).filter (fun x => inV x eightV) ∨ hs = keysV (tblS srt)) ∧
        Box H5 p g ∧ H5 wd = some (.lst [.int (w0 - 1)]) ∧ H5 pf = some (.dK (kvL (tblS srt))) ∧ Off [p, g, wd] H H5 ∧ hd ∉ [p, g, wd], ?_, ?_⟩
    · have upn : ∀ b, H2 b ≠ none → (upd H2 pf (.frz od (.dK (kvL (tblS srt))))) b ≠ none := fun b z => by
        by_cases y : b = pf
        · rw [y, upd_same]
          exact fun z => nomatch z
        · rw [upd_ne y]
          exact z
      have nD : D ∉ [p, g, wd] := fun z => by
        simp only [List.mem_cons, List.not_mem_nil, or_false] at z
        rcases z with z | z | z
        · rw [z] at hD
          exact upn _ b2.tr.1 hD
        · rw [z] at hD
          exact upn _ b2.tr.2 hD
        · rw [z] at hD
          exact upn _ (by rw [hw2]; exact fun z => nomatch z) hD
      refine ⟨_, rfl, _, _, rfl, rfl, _, rfl, ite2 (fun c => ?_) (fun c => iteF ⟨D, _, rfl, hd4, .inl rfl, b4, hw4, e4, o4, nD⟩)⟩
      refine ⟨_, rfl, wd, _, 0, _, rfl, rfl, SqL.of hw4, rfl, _, _, rfl, rfl, _, rfl, ite2 (fun c2 => ?_) (fun c2 => iteF ⟨D, _, rfl, hd4, .inl rfl, b4, hw4, e4, o4, nD⟩)⟩
      have nDs : D ∉ [p, g] := fun z => nD (sub _ z)
      have npf : pf ∉ [p, g] := fun z => hpf0 (sub _ z)
      refine ⟨_, rfl, p, g, 5, rfl, b4, by decide, by decide, fun r H5 r0 r5 b5 o5 => ⟨_, _, rfl, rfl, _, rfl, ite2 (fun c3 => ?_) (fun c3 => ⟨D, _, rfl, o5.get hd4 nDs, .inl rfl, b5, o5.get hw4 nw, o5.get e4 npf, o4.trans (o5.mono sub), nD⟩)⟩⟩
      have o6 := o4.trans (o5.mono sub)
      have e5 := o5.get e4 npf
      have w5 := o5.get hw4 nw
      refine ⟨_, rfl, pf, _, rfl, .inl e5, fun D2 hD2 => ?_⟩
      have s6 : Same H5 (upd H5 D2 (.lst ((kvL (tblS srt)).map fun kv => kV kv.1))) := same_new hD2 _
      have n2 : D2 ∉ [p, g, wd] := fun z => by
        simp only [List.mem_cons, List.not_mem_nil, or_false] at z
        rcases z with z | z | z
        · rw [z] at hD2
          exact b5.tr.1 hD2
        · rw [z] at hD2
          exact b5.tr.2 hD2
        · rw [z, w5] at hD2
          cases hD2
      refine ⟨D2, keysV (tblS srt), rfl, ?_, .inr rfl, b5.same s6, s6 _ _ w5, s6 _ _ e5, o6.trans (Off.of s6), n2⟩
      rw [upd_same]
      unfold kvL keysV
      rw [List.map_map]
      rfl
    · rintro σ H5 ⟨hd, hl, rfl, h1, h2, b5, w5, f5, o5, n5⟩
      refine ⟨fun σ H6 => ∃ hd hs, σ = [some (.ref p), some (.str srt), some (.int e), some (.ref wd), some (.ref pf), none, some (.ref hd), none, none, none, none, none] ∧ H6 hd = some (.lst hs) ∧ PH srt e w0 hs ∧
        Box H6 p g ∧ H6 wd = some (.lst [.int (w0 - 1)]) ∧ H6 pf = some (.dK (kvL (tblS srt))) ∧ Off [p, g, wd] H H6 ∧ hd ∉ [p, g, wd], ?_, ?_⟩
      · have stay : 2 ≤ e → 1 ≤ w0 - 1 → PH srt e w0 hl := fun z1 z2 => ph_many h2 z1 z2
        have nd5 : hd ∉ [p, g] := fun z => n5 (sub _ z)
        have cutd : ∀ {Nx : L2.St → Hp → Prop}, (∀ (D2 : Addr) (H6 : Hp), H6 D2 = some (.lst (hl.filter fun x => inV x fourV)) → Same H5 H6 → H5 D2 = none → Nx [some (.ref p), some (.str srt), some (.int e), some (.ref wd), some (.ref pf), none, some (.ref D2), none, none, none, none, none] H6) → Nx = Nx := fun _ => rfl
        have few4 : ∀ (D2 : Addr) (H6 : Hp), H6 D2 = some (.lst (hl.filter fun x => inV x fourV)) → Same H5 H6 → H5 D2 = none → ∃ hd hs, [some (V.ref p), some (V.str srt), some (V.int e), some (V.ref wd), some (V.ref pf), none, some (V.ref D2), none, none, none, none, none] = [some (V.ref p), some (V.str srt), some (V.int e), some (V.ref wd), some (V.ref pf), none, some (V.ref hd), none, none, none, none, none] ∧ H6 hd = some (.lst hs) ∧ PH srt e w0 hs ∧
            Box H6 p g ∧ H6 wd = some (.lst [.int (w0 - 1)]) ∧ H6 pf = some (.dK (kvL (tblS srt))) ∧ Off [p, g, wd] H H6 ∧ hd ∉ [p, g, wd] := fun D2 H6 hl6 s6 hD2 => by
          have n2 : D2 ∉ [p, g, wd] := fun z => by
            simp only [List.mem_cons, List.not_mem_nil, or_false] at z
            rcases z with z | z | z
            · rw [z] at hD2
              exact b5.tr.1 hD2
            · rw [z] at hD2
              exact b5.tr.2 hD2
            · rw [z, w5] at hD2
              cases hD2
          exact ⟨D2, _, rfl, hl6, ph_few h2 hs, b5.same s6, s6 _ _ w5, s6 _ _ f5, o5.trans (Off.of s6), n2⟩
        refine ⟨_, rfl, _, _, rfl, rfl, _, rfl, ite2 (fun c => ?_) (fun c => ⟨_, rfl, wd, _, 0, _, rfl, rfl, SqL.of w5, rfl, _, _, rfl, rfl, _, rfl, ite2 (fun c2 => ?_) (fun c2 => ?_)⟩)⟩
        case refine_3 => exact ⟨hd, hl, rfl, h1, stay (by have := of_decide_eq_false (Bool.eq_false_iff.mpr c); omega) (by have := of_decide_eq_false (Bool.eq_false_iff.mpr c2); omega), b5, w5, f5, o5, n5⟩
        all_goals
          refine ⟨_, rfl, hd, rfl, ⟨_, SqL.of h1⟩, fun D2 hD2 => lc_list (K := K) (a := hd) (xs := hl) (fun i H6 => H6 D2 = some (.lst ((hl.take i).filter fun x => inV x fourV)) ∧ Same H5 (cut [D2] H6)) ⟨upd_same, ?_⟩ ?_ ?_ ?_⟩
          · intro b u z
            rw [cut_out (by simp only [List.mem_singleton]; exact ne_of_none z hD2), upd_ne (ne_of_none z hD2)]
            exact z
          · rintro i H6 hi ⟨g1, g2⟩
            exact SqL.of (cut_same _ _ _ _ (g2 _ _ h1))
          · rintro i y H6 hy ⟨g1, g2⟩
            obtain ⟨hdd, mm, rfl⟩ : ∃ hdd, hdd ∈ tblS srt ∧ y = V.str hdd.1 := by
              have := (heads_ok h2).2.2.2 y (List.mem_of_getElem? hy)
              obtain ⟨pp, m1, m2⟩ := List.mem_map.mp this
              exact ⟨pp, m1, m2.symm⟩
            have tk := get_take hy
            refine ⟨rfl, _, rfl, few (by simp), fun T1 hT1 => ⟨T1, _, rfl, .inr (.inl (.inl upd_same)), rfl, rfl, _, rfl, ite2 (fun cc => ?_) (fun cc => ?_)⟩⟩
            · have c2 : inV (V.str hdd.1) fourV = true := cc
              have q1 : Same H6 (upd H6 T1 (.tup fourV)) := same_new hT1 _
              refine ⟨_, rfl, _, q1 _ _ g1, ?_, ?_, ?_⟩
              · have l1 := List.length_filter_le (fun x => inV x fourV) (hl.take i)
                rw [List.length_take] at l1
                have l2 := (heads_ok h2).2.1
                exact small1000 (by omega)
              · rw [upd_same, tk, List.filter_append]
                simp only [List.filter_cons, c2, if_true, List.filter_nil]
              · exact g2.trans ((Off.of q1).trans (Off.put (by simp)))
            · have c2 : inV (V.str hdd.1) fourV = false := Bool.eq_false_iff.mpr cc
              have q1 : Same H6 (upd H6 T1 (.tup fourV)) := same_new hT1 _
              refine ⟨?_, g2.trans (Off.of q1)⟩
              rw [q1 _ _ g1, tk, List.filter_append]
              simp only [List.filter_cons, c2, Bool.false_eq_true, if_false, List.filter_nil, List.append_nil]
          · rintro H6 ⟨g1, g2⟩
            rw [List.take_length] at g1
            exact few4 D2 H6 g1 (g2.trans (cut_same _ _)) hD2
      · rintro σ H6 ⟨hd, hl, rfl, h1, h2, b6, w6, f6, o6, n6⟩
        obtain ⟨pn, pl, pm⟩ := h2
        have nd6 : hd ∉ [p, g] := fun z => n6 (sub _ z)
        have npf : pf ∉ [p, g] := fun z => hpf0 (sub _ z)
        refine ⟨_, rfl, _, rfl, p, g, hd, hl, rfl, b6, h1, nd6, List.length_pos_iff.mpr pn, by omega, fun x mx H7 b7 o7 => ⟨by decide, fun fl hfl => ⟨_, _, rfl, ?_⟩⟩⟩
        obtain ⟨h, sl, rfl, m, so⟩ := pm x mx
        have s8 : Same H7 (upd H7 fl (.lst [])) := same_new hfl _
        have w7 := o7.get w6 nw
        have nfl : fl ∉ [p, g, wd] := fun z => by
          simp only [List.mem_cons, List.not_mem_nil, or_false] at z
          rcases z with z | z | z
          · rw [z] at hfl
            exact b7.tr.1 hfl
          · rw [z] at hfl
            exact b7.tr.2 hfl
          · rw [z, w7] at hfl
            cases hfl
        have hfl0 : H fl = none := (o6.trans (o7.mono sub)).free hfl nfl
        have nfl2 : fl ∉ [p, g] := fun z => nfl (sub _ z)
        have nwf : wd ≠ fl := fun z => nfl (by rw [← z]; simp)
        have o8 : Off [p, g, wd] H (upd H7 fl (.lst [])) := (o6.trans (o7.mono sub)).trans (Off.of s8)
        have f8 := s8 _ _ (o7.get f6 npf)
        have b8 := b7.same s8
        have w8 := s8 _ _ w7
        have l8 : (upd H7 fl (.lst [])) fl = some (.lst []) := upd_same
        generalize upd H7 fl (.lst []) = H8 at o8 f8 b8 w8 l8
        have dg := DGet.k (k := (Sum.inr h : Key)) f8
        rw [val_tbl _ m] at dg
        refine ⟨_, rfl, _, rfl, pf, _, rfl, dg, sl, rfl, ?_⟩
        refine for_it walk_str (fun i σ H9 => ∃ o8 o9 o10 xs ds wi, σ = [some (.ref p), some (.str srt), some (.int e), some (.ref wd), some (.ref pf), some (.str h), some (.ref hd), some (.ref fl), o8, o9, o10, none] ∧
            xs.length = i ∧ H9 fl = some (.lst xs) ∧ DpAll K H9 xs ds ∧ gds ds = true ∧ nls ds = true ∧ (PyData.depthAll ds : Int) ≤ 2 * e ∧ ArgOk (Wx n) (sl.cps.toList.take i) ds ∧
            Box H9 p g ∧ H9 wd = some (.lst [.int wi]) ∧ Off [p, g, wd] H H9 ∧ wi ≤ w0 - 1 ∧ nods ds + 80 * phi wi ≤ cstL (sl.cps.toList.take i) + 80 * phi (w0 - 1))
          ⟨none, none, none, [], [], w0 - 1, rfl, rfl, l8, .nil, by simp only [gds], by simp only [nls], ?_, trivial, b8, w8, o8, Int.le_refl _, by simp [nods, cstL]⟩ (fun _ _ _ _ _ => trivial) ?_ ?_
        · have e0 : 0 ≤ e := by
            rcases hs with z | z
            · exact z.2
            · omega
          simp only [PyData.depthAll]
          omega
        · rintro i y σ H9 H9' hi ⟨q8, q9, q10, xs, ds, wi, rfl, lx, hx, dx, gx, nx, px, sx, b9, w9, o9, wle, co⟩ ⟨rfl, c, hc, rfl⟩
          have hc2 : sl.cps.toList[i]? = some c := by simpa using hc
          have tk := get_take hc2
          have lcs : (sl.cps.toList.take i).length = i := by
            have := (List.getElem?_eq_some_iff.mp hc2).1
            rw [List.length_take]
            omega
          have sg := so.go c (List.mem_of_getElem? hc2)
          have lds := sx.len
          have li := (List.getElem?_eq_some_iff.mp hc2).1
          have lsl : sl.cps.toList.length ≤ 60 := by
            have z := cst_all _ (tbl_all _ m)
            have : sl.cps.toList.length ≤ cstL sl.cps.toList := by
              generalize sl.cps.toList = cs
              induction cs with
              | nil => simp
              | cons a cs ih =>
                have h1 : 1 ≤ cst a := by
                  unfold cst
                  repeat' split
                  all_goals omega
                have h2 : cstL (a :: cs) = cst a + cstL cs := by simp [cstL]
                rw [h2, List.length_cons]
                omega
            simp only at z
            omega
          -- one more argument
          have more : ∀ (v : V) (d : PyData) (w2 : Int) (H10 : Hp) (r9 r10 : Option V), H10 fl = some (.lst (xs ++ [v])) → DpAll K H10 xs ds → Dp K H10 v d → gd d = true → nl d = true → (d.depth : Int) ≤ 2 * e → SlotD (Wx n) c d → Box H10 p g → H10 wd = some (.lst [.int w2]) → Off [p, g, wd] H H10 → w2 ≤ wi → nod d + 80 * phi w2 ≤ cst c + 80 * phi wi →
              ∃ o8 o9 o10 xs ds wi, [some (V.ref p), some (V.str srt), some (V.int e), some (V.ref wd), some (V.ref pf), some (V.str h), some (V.ref hd), some (V.ref fl), some (V.str ⟨#[c]⟩), r9, r10, none] = [some (V.ref p), some (V.str srt), some (V.int e), some (V.ref wd), some (V.ref pf), some (V.str h), some (V.ref hd), some (V.ref fl), o8, o9, o10, none] ∧
            xs.length = i + 1 ∧ H10 fl = some (.lst xs) ∧ DpAll K H10 xs ds ∧ gds ds = true ∧ nls ds = true ∧ (PyData.depthAll ds : Int) ≤ 2 * e ∧ ArgOk (Wx n) (sl.cps.toList.take (i + 1)) ds ∧
            Box H10 p g ∧ H10 wd = some (.lst [.int wi]) ∧ Off [p, g, wd] H H10 ∧ wi ≤ w0 - 1 ∧ nods ds + 80 * phi wi ≤ cstL (sl.cps.toList.take (i + 1)) + 80 * phi (w0 - 1) := by
            intro v d w2 H10 r9 r10 a1 a2 a3 a4 a5 a6 a7 a9 a10 a11 a12 a13
            refine ⟨_, _, _, xs ++ [v], ds ++ [d], w2, rfl, by rw [List.length_append, lx]; rfl, a1, DpAll.app a2 (.cons a3 .nil), ?_, ?_, ?_, ?_, a9, a10, a11, by omega, ?_⟩
            · rw [gds_app, gx]
              simp only [gds, a4, Bool.and_self]
            · rw [nls_app, nx]
              simp only [nls, a5, Bool.and_self]
            · rw [depthAll_app]
              simp only [PyData.depthAll]
              omega
            · rw [tk]
              exact sx.snoc a7
            · rw [tk, cstL_snoc, nods_app]
              simp only [nods]
              omega
          have nt9 : NT [p, g, wd] H9' := by
            have z := b9.nt
            exact .cons (z p (by simp)) (.cons (z g (by simp)) (.cons (nt_lst w9) .nil))
          refine ⟨_, rfl, rfl, _, rfl, ite2 (fun cc => ?_) (fun cc => ?_)⟩
          · have c115 : c = 115 := (sg_s c).mp (of_decide_eq_true cc)
            subst c115
            have e1 : 1 ≤ e := sg.1 (.inr rfl)
            have w3 : ∀ {HB : Hp} {D : Addr}, Box HB p g → HB wd = some (.lst [.int wi]) → HB D = none → D ∉ [p, g, wd] := fun bz wz hz z => by
              simp only [List.mem_cons, List.not_mem_nil, or_false] at z
              rcases z with z | z | z
              · rw [z] at hz
                exact bz.tr.1 hz
              · rw [z] at hz
                exact bz.tr.2 hz
              · rw [z, wz] at hz
                cases hz
            refine ⟨_, rfl, p, g, 4, rfl, b9, by decide, by decide, fun s1 HA s10 s14 ba oa => ⟨_, rfl, p, g, 5, rfl, ba, by decide, by decide, fun s2 HB s20 s25 bb ob => ⟨_, _, rfl, rfl, few (by simp), fun D hD => ?_⟩⟩⟩
            have oab := oa.trans ob
            have nD := w3 bb (oab.get w9 nw) hD
            have bc := bb.put (o := .lst [V.int s1, V.int (8 + s2)]) (fun z => nD (sub _ z))
            have oc : Off [p, g] H9' (upd HB D (.lst [V.int s1, V.int (8 + s2)])) := off_new oab (fun z => nD (sub _ z)) (oab.free hD (fun z => nD (sub _ z)))
            have hDc : (upd HB D (.lst [V.int s1, V.int (8 + s2)])) D = some (.lst [V.int s1, V.int (8 + s2)]) := upd_same
            generalize upd HB D (.lst [V.int s1, V.int (8 + s2)]) = HC at bc oc hDc
            refine ⟨_, rfl, p, g, 12, rfl, bc, by decide, by decide, fun s3 HD s30 s312 bd od2 => ⟨_, _, rfl, rfl, ⟨by decide, by decide⟩, ?_⟩⟩
            have ocd := oc.trans od2
            obtain ⟨x, hx1, mx, _⟩ := atI_ok (xs := [V.int s1, V.int (8 + s2)]) (r := s3 / 11) (by omega) (by simp only [List.length_cons, List.length_nil]; omega)
            obtain ⟨mm, rfl, m0, m12⟩ : ∃ mm : Int, x = .int mm ∧ 0 ≤ mm ∧ mm ≤ 12 := by
              simp only [List.mem_cons, List.not_mem_nil, or_false] at mx
              rcases mx with z | z
              · exact ⟨_, z, by omega, by omega⟩
              · exact ⟨_, z, by omega, by omega⟩
            refine ⟨D, _, _, .int mm, rfl, rfl, SqL.of (od2.get hDc (fun z => nD (sub _ z))), hx1, ?_⟩
            have xD := ocd.get hx nfl2
            have wD := ocd.get w9 nw
            refine ⟨_, rfl, .inl ⟨rfl, _, SqL.of xD⟩, _, rfl, mm, rfl, by omega, by omega, fun D2 hD2 => ?_⟩
            have n2 := w3 bd wD hD2
            have oE : Off [p, g, wd] H9' (upd HD D2 (.lst [])) := off_new (ocd.mono sub) n2 ((ocd.mono sub).free hD2 n2)
            refine lc_range (lo := 0) (n := mm.toNat) (fun j HE => ∃ vs es wj, vs.length = j ∧ HE D2 = some (.lst vs) ∧ DpAll K HE vs es ∧ gds es = true ∧ nls es = true ∧ (PyData.depthAll es : Int) ≤ 2 * (e - 1) + 1 ∧ (∀ e ∈ es, Wx n false e) ∧
                Box HE p g ∧ HE wd = some (.lst [.int wj]) ∧ Off [p, g, wd] H9' HE ∧ wj ≤ wi ∧ nods es + 80 * phi wj ≤ 3 * j + 80 * phi wi)
              ⟨[], [], wi, rfl, upd_same, .nil, by simp only [gds], by simp only [nls], by simp only [PyData.depthAll]; omega, (fun _ z => nomatch z), bd.put (fun z => n2 (sub _ z)), by rw [upd_ne (fun z => n2 (by rw [← z]; simp))]; exact wD, oE, Int.le_refl _, by simp only [nods]; omega⟩ ?_ ?_
            · rintro j HE hj ⟨vs, es, wj, lv, h1, h2, h3, h4, h5, h6, h7, h8, h9, h10, h11⟩
              refine ⟨rfl, _, rfl, _, rfl, _, _, rfl, rfl, _, rfl, p, g, wd, e - 1, wj, "e", rfl, h7, h8, nw, .inl ⟨rfl, by omega⟩, by omega, fun v d HF w2 k1 k2 k3 k4 k5 k6 k7 k8 k9 k10 => ?_⟩
              have ntE : NT [p, g, wd] HE := by
                have z := h7.nt
                exact .cons (z p (by simp)) (.cons (z g (by simp)) (.cons (nt_lst h8) .nil))
              have hF := k3.get h1 n2
              have ntF : NT [D2] HF := .cons (nt_lst hF) .nil
              have pF : Off [D2] HF (upd HF D2 (.lst (vs ++ [v]))) := Off.put (by simp)
              have l3 : limS "e" = 3 := by decide +kernel
              refine ⟨vs, hF, few (by omega), vs ++ [v], es ++ [d], w2, by rw [List.length_append, lv]; rfl, upd_same, DpAll.app (DpAll.off (DpAll.off h2 ntE h4 k3) ntF h4 pF) (.cons (Dp.off k4 ntF k7 pF) .nil), ?_, ?_, ?_, (fun x hx => (List.mem_append.mp hx).elim (h6 x) fun z => by rw [List.mem_singleton.mp z]; exact (show decide (("e" : Str) = "t") = false by decide +kernel) ▸ k5), k1.put (fun z => n2 (sub _ z)), by rw [upd_ne (fun z => n2 (by rw [← z]; simp))]; exact k2,
                off_new (h9.trans k3) n2 ((ocd.mono sub).free hD2 n2), by omega, ?_⟩
              · rw [gds_app, h3]
                simp only [gds, k6, Bool.and_self]
              · rw [nls_app, h4]
                simp only [nls, k7, Bool.and_self]
              · rw [depthAll_app]
                simp only [PyData.depthAll]
                omega
              · rw [nods_app]
                simp only [nods]
                omega
            · rintro HE ⟨vs, es, wj, lv, h1, h2, h3, h4, h5, h6, h7, h8, h9, h10, h11⟩
              refine ⟨D2, vs, rfl, .inl ⟨SqL.of h1, fun t ht => ?_⟩⟩
              have xE := h9.get hx nfl
              have r1 : Same HE (upd HE t (.tup vs)) := same_new ht _
              have ntf : t ≠ fl := fun z => by
                rw [z, xE] at ht
                cases ht
              have dE : DpAll K HE xs ds := DpAll.off dx nt9 nx h9
              have ntF : NT [fl] (upd HE t (.tup vs)) := .cons (nt_lst (r1 _ _ xE)) .nil
              have pF : Off [fl] (upd HE t (.tup vs)) (upd (upd HE t (.tup vs)) fl (.lst (xs ++ [.ref t]))) := Off.put (by simp)
              have c37 : cst 115 = 37 := by decide
              refine ⟨fl, xs, .ref t, rfl, rfl, r1 _ _ xE, few (by omega), more (.ref t) (.tuple es) wj _ _ _ upd_same (DpAll.off (Dp.ups r1 _ _ dE) ntF nx pF) (.tup (.inl (.inl (by rw [upd_ne ntf]; exact upd_same))) (DpAll.off (Dp.ups r1 _ _ h2) ntF h4 pF)) (by simpa only [gd] using h3) (by simpa only [nl] using h4) (by simp only [PyData.depth]; omega) (by unfold SlotD; rw [if_pos rfl]; exact ⟨es, rfl, h6⟩)
                ((h7.same r1).put nfl2) (by rw [upd_ne nwf]; exact r1 _ _ h8) (off_new (o9.trans (h9.trans (Off.of r1))) nfl hfl0) h10 ?_⟩
              simp only [nod, c37]
              have : (mm.toNat : Int) = mm := by omega
              omega
          · have n115 : ¬ c = 115 := fun z => cc (decide_eq_true ((sg_s c).mpr z))
            refine ⟨_, rfl, few (by simp), fun T1 hT1 => ⟨T1, _, rfl, .inr (.inl (.inl upd_same)), rfl, rfl, ?_⟩⟩
            have s1 : Same H9' (upd H9' T1 (.tup [.str "e", .str "t"])) := same_new hT1 _
            have bb := b9.same s1
            have ww := s1 _ _ w9
            have xx := s1 _ _ hx
            have oo : Off [p, g, wd] H9' (upd H9' T1 (.tup [.str "e", .str "t"])) := Off.of s1
            generalize upd H9' T1 (.tup [.str "e", .str "t"]) = HA at s1 bb ww xx oo
            refine ⟨_, rfl, .inl ⟨rfl, _, SqL.of xx⟩, _, rfl, _, rfl, ite2 (fun c2 => ?_) (fun c2 => ?_)⟩
            · have c3 : c = 101 ∨ c = 116 := (inV_et c).mp c2
              refine ⟨_, rfl, _, rfl, _, rfl, _, _, rfl, rfl, _, rfl, p, g, wd, e - 1, wi, ⟨#[c]⟩, rfl, bb, ww, nw, ?_, by omega, fun v d HB w2 k1 k2 k3 k4 k5 k6 k7 k8 k9 k10 => ?_⟩
              · rcases c3 with z | z
                · exact .inl ⟨by rw [z]; exact sg_e.symm, by have := sg.1 (.inl z); omega⟩
                · exact .inr ⟨by rw [z]; exact sg_t.symm, by have := sg.2 z; omega⟩
              have xB := k3.get xx nfl
              have dB : DpAll K HB xs ds := DpAll.off dx nt9 nx (oo.trans k3)
              have pB : Off [fl] HB (upd HB fl (.lst (xs ++ [v]))) := Off.put (by simp)
              have ntB : NT [fl] HB := .cons (nt_lst xB) .nil
              have lc : limS ⟨#[c]⟩ = cst c := by
                rcases c3 with z | z
                · rw [z]
                  decide +kernel
                · rw [z]
                  decide +kernel
              exact ⟨fl, xs, v, rfl, rfl, xB, few (by omega), more v d w2 _ _ _ upd_same (DpAll.off dB ntB nx pB) (Dp.off k4 ntB k7 pB) k6 k7 (by omega) (by
                unfold SlotD
                rw [if_neg n115]
                rcases c3 with z | z
                · subst z
                  rw [show decide ((⟨#[101]⟩ : Str) = "t") = false by decide +kernel] at k5
                  exact k5
                · subst z
                  rw [show decide ((⟨#[116]⟩ : Str) = "t") = true by decide +kernel] at k5
                  exact k5) (k1.put nfl2) (by rw [upd_ne nwf]; exact k2)
                (off_new (o9.trans (oo.trans k3)) nfl hfl0) (by omega) (by omega)⟩
            · have c3 : ¬ (c = 101 ∨ c = 116) := fun z => c2 ((inV_et c).mpr z)
              have hcc : c = 119 ∨ c = 110 ∨ c = 107 ∨ c = 105 := by
                rcases slot_chars _ (tbl_all _ m) c (List.mem_of_getElem? hc2) with z | z | z | z | z | z | z
                · exact absurd z n115
                · exact absurd (.inl z) c3
                · exact absurd (.inr z) c3
                · exact .inl z
                · exact .inr (.inl z)
                · exact .inr (.inr (.inl z))
                · exact .inr (.inr (.inr z))
              refine ⟨_, rfl, _, rfl, p, g, c, rfl, hcc, bb, fun v d HB k4 lo k6 k10 k8 k7 k1 k3 => ?_⟩
              have xB := k3.get xx nfl2
              have oB := oo.trans (k3.mono sub)
              have dB : DpAll K HB xs ds := DpAll.off dx nt9 nx oB
              have pB : Off [fl] HB (upd HB fl (.lst (xs ++ [v]))) := Off.put (by simp)
              have ntB : NT [fl] HB := .cons (nt_lst xB) .nil
              have lc : cst c = 1 := by
                unfold cst
                rw [if_neg n115, if_neg (fun z => c3 (.inl z)), if_neg (fun z => c3 (.inr z))]
              have e0 : 0 ≤ e := by
                rcases hs with z | z
                · exact z.2
                · omega
              exact ⟨fl, xs, v, rfl, rfl, xB, few (by omega), more v d wi _ _ _ upd_same (DpAll.off dB ntB nx pB) (k4 K _) k6 k7 (by rw [k8]; omega) (by
                unfold SlotD
                rw [if_neg n115, if_neg (fun z => c3 (.inl z)), if_neg (fun z => c3 (.inr z))]
                exact lo) (k1.put nfl2) (by rw [upd_ne nwf]; exact k3.get ww nw)
                (off_new (o9.trans oB) nfl hfl0) (Int.le_refl _) (by omega)⟩
        · rintro σ H9 ⟨q8, q9, q10, xs, ds, wi, rfl, lx, hx, dx, gx, nx, px, sx, b9, w9, o9, wle, co⟩
          have ez : sl.cps.toList.take sl.cps.size = sl.cps.toList := List.take_of_length_le (by simp)
          rw [ez] at sx co
          have lds := sx.len
          have lxs : xs.length = sl.cps.toList.length := by rw [lx]; simp
          have xne : xs ≠ [] := fun z => sl_ne _ (tbl_all _ m) (List.length_eq_zero_iff.mp (by rw [← lxs, z]; rfl))
          have lsm : xs.length ≤ nods ds := by
            have := nods_len ds
            omega
          have sco := so.co
          have phw : phi (w0 - 1) ≤ phi w0 := by
            unfold phi
            omega
          refine ⟨_, rfl, few (by simp), fun t1 ht1 => ⟨_, rfl, fl, xs, rfl, .inl ⟨SqL.of ((same_new ht1 _) _ _ hx), fun t2 ht2 => ?_⟩⟩⟩
          have r1 : Same H9 (upd H9 t1 (.tup [.str h])) := same_new ht1 _
          have r2 := r1.trans (same_new (o := .tup xs) ht2)
          have n12 : t1 ≠ t2 := ne_of_none upd_same ht2
          have x2 := (DpAll.len dx)
          have cle := cst_all _ (tbl_all _ m)
          refine ⟨t1, t2, [.str h], xs, rfl, rfl, .inl (.inl (by rw [upd_ne n12]; exact upd_same)), .inl (.inl upd_same), by simp, few (by
            have : xs.length ≤ 60 := by
              have : sl.cps.toList.length ≤ cstL sl.cps.toList := by
                generalize sl.cps.toList = cs
                induction cs with
                | nil => simp
                | cons a cs ih =>
                  have h1 : 1 ≤ cst a := by
                    unfold cst
                    repeat' split
                    all_goals omega
                  have h2 : cstL (a :: cs) = cst a + cstL cs := by simp [cstL]
                  rw [h2, List.length_cons]
                  omega
              simp only at cle
              omega
            simp only [List.length_cons, List.length_nil]
            omega), fun z => absurd z xne, fun _ t3 ht3 => ?_⟩
          have r3 := r2.trans (same_new (o := .tup ([V.str h] ++ xs)) ht3)
          have dT := Dp.ups r3 _ _ dx
          have hgh := gd_heads _ (tbl_all _ m)
          simp only at hgh
          refine q (.ref t3) (.tuple (.str h :: ds)) _ wi (b9.same r3) (r3 _ _ w9) (o9.trans (Off.of r3)) (.tup (.inl (.inl upd_same)) (.cons (.str h) dT)) (node_wx (by rw [tb_tbl]; exact m) sx) ?_ ?_ ?_ wle ?_
          · simp only [gd, gds] at hgh ⊢
            rw [hgh, gx]
            rfl
          · simp only [nl, nls, nx, Bool.and_self]
          · simp only [PyData.depth, PyData.depthAll]
            omega
          · simp only [nod, nods]
            omega
end
/-! words that can stand in a slot, told by a function -/
theorem digsVal_snoc (ds : List Nat) (d : Nat) : PySem.NumText.digitsVal (ds ++ [d]) = PySem.NumText.digitsVal ds * 10 + (d - 48) := by
  unfold PySem.NumText.digitsVal
  rw [List.foldl_append]
  rfl
theorem digsVal_pos : ∀ (n : Nat) (ds : List Nat), ds.length = n → ds ≠ [] → (∀ c ∈ ds, 48 ≤ c ∧ c ≤ 57) → ds.head? ≠ some 48 → 0 < PySem.NumText.digitsVal ds ∧ (Nat.toDigits 10 (PySem.NumText.digitsVal ds)).map Char.toNat = ds := by
  intro n
  induction n with
  | zero => exact fun ds h n => absurd (List.length_eq_zero_iff.mp h) n
  | succ n ih =>
    intro ds hl ne ha hh
    obtain ⟨r, d, rfl⟩ : ∃ r d, ds = r ++ [d] := ⟨ds.dropLast, ds.getLast ne, (List.dropLast_concat_getLast ne).symm⟩
    have hd := ha d (by simp)
    have dig : ∀ k : Nat, k < 10 → (Nat.digitChar k).toNat = k + 48 := by decide
    rw [digsVal_snoc]
    by_cases er : r = []
    · subst er
      have d48 : d ≠ 48 := fun z => hh (by rw [z]; rfl)
      have e0 : PySem.NumText.digitsVal [] = 0 := rfl
      rw [e0]
      refine ⟨by omega, ?_⟩
      rw [show 0 * 10 + (d - 48) = d - 48 by omega, Nat.toDigits_of_lt_base (by omega)]
      show [(Nat.digitChar (d - 48)).toNat] = [] ++ [d]
      rw [dig _ (by omega), show d - 48 + 48 = d by omega]
      rfl
    · have hr : r.head? ≠ some 48 := by
        cases r with
        | nil => exact absurd rfl er
        | cons a b => exact hh
      obtain ⟨i1, i2⟩ := ih r (by simpa using hl) er (fun c hc => ha c (by simp [hc])) hr
      refine ⟨by omega, ?_⟩
      have t : Nat.toDigits 10 (PySem.NumText.digitsVal r) ++ Nat.toDigits 10 (d - 48) = Nat.toDigits 10 (10 * PySem.NumText.digitsVal r + (d - 48)) := Nat.toDigits_append_toDigits (by decide) i1 (by omega)
      rw [show PySem.NumText.digitsVal r * 10 + (d - 48) = 10 * PySem.NumText.digitsVal r + (d - 48) by omega, ← t, List.map_append, i2, Nat.toDigits_of_lt_base (by omega)]
      show r ++ [(Nat.digitChar (d - 48)).toNat] = _
      rw [dig _ (by omega), show d - 48 + 48 = d by omega]
theorem digOk_iff {c : Nat} : digOk c = true ↔ 48 ≤ c ∧ c ≤ 57 := by
  unfold digOk
  simp
/-- a number's word is the text of a number -/
theorem num_back {x : Str} (h : isNum x = true) : ∃ i : Int, x = txt (.int i) ∧ i.natAbs < 10 ^ 18 ∧ (x.cps.toList.head? ≠ some 45 → 0 ≤ i) := by
  unfold isNum at h
  simp only [Bool.and_eq_true, Bool.or_eq_true, decide_eq_true_eq] at h
  obtain ⟨⟨⟨h1, h2⟩, h3⟩, h4⟩ := h
  by_cases x0 : x = "0"
  · exact ⟨0, by rw [x0]; decide +kernel, by decide, fun _ => Int.le_refl _⟩
  have hh := h4.resolve_right x0
  have ha : ∀ c ∈ digsOf x.cps.toList, 48 ≤ c ∧ c ≤ 57 := fun c hc => digOk_iff.mp (List.all_eq_true.mp h3 c hc)
  have ne : digsOf x.cps.toList ≠ [] := fun z => by
    rw [z] at h1
    cases h1
  obtain ⟨p1, p2⟩ := digsVal_pos _ _ rfl ne ha hh
  have lt : PySem.NumText.digitsVal (digsOf x.cps.toList) < 10 ^ 18 := by
    refine (Nat.length_toDigits_le_iff (by decide) (by decide)).mp ?_
    have z := congrArg List.length p2
    rw [List.length_map] at z
    omega
  generalize hm : PySem.NumText.digitsVal (digsOf x.cps.toList) = m at p1 p2 lt
  by_cases c45 : x.cps.toList.head? = some 45
  · obtain ⟨r, er⟩ : ∃ r, x.cps.toList = 45 :: r := by
      cases e : x.cps.toList with
      | nil => rw [e] at c45; cases c45
      | cons a b =>
        rw [e] at c45
        rw [Option.some.inj c45]
        exact ⟨b, rfl⟩
    obtain ⟨k, rfl⟩ : ∃ k, m = k + 1 := ⟨m - 1, by omega⟩
    refine ⟨-((k + 1 : Nat) : Int), str_ext ?_, by omega, fun z => absurd c45 z⟩
    rw [txt_neg, p2, er]
    rfl
  · refine ⟨((m : Nat) : Int), str_ext ?_, by omega, fun _ => by omega⟩
    rw [txt_nat, p2]
    unfold digsOf
    split
    · rename_i r e
      rw [e] at c45
      exact absurd rfl c45
    · rfl
def qName (x : Str) : Bool := decide (x.cps.toList.head? = some 39) && isNm (cutS x (some 1) none)
def canB (c : Nat) (x : Str) : Bool :=
  if c = 101 then isNum x || (isNm x || qName x) else if c = 107 then isNum x else if c = 105 then isNum x && decide (x.cps.toList.head? ≠ some 45)
  else if c = 119 then decide (x = "integer" ∨ x = "atom" ∨ x = "tuple") else if c = 110 then isNm x else false
def valT (x : Str) : Int := (PySem.intText? x).getD 0
def mkD (c : Nat) (x : Str) : PyData :=
  if c = 101 then (if qName x = true then .tuple [.str "atom", .str (cutS x (some 1) none)] else if isNm x = true then .tuple [.str "name", .str x] else .tuple [.str "int", .int (valT x)])
  else if c = 107 ∨ c = 105 then .int (valT x) else .str x
theorem q_cut {x : Str} (h : x.cps.toList.head? = some 39) : x = "'" ++ cutS x (some 1) none := by
  obtain ⟨r, er⟩ : ∃ r, x.cps.toList = 39 :: r := by
    cases e : x.cps.toList with
    | nil => rw [e] at h; cases h
    | cons a b =>
      rw [e] at h
      rw [Option.some.inj h]
      exact ⟨b, rfl⟩
  have e2 : x = "'" ++ (⟨r.toArray⟩ : Str) := str_ext (by rw [cps_cat, cps_q, er]; rfl)
  have z := (q_head (⟨r.toArray⟩ : Str)).2.1
  rw [← e2] at z
  rw [z]
  exact e2
theorem val_num {i : Int} {x : Str} (h : NumT i x) : valT x = i := by
  unfold valT
  rw [h.rd]
  rfl
theorem num_is {x : Str} (h : isNum x = true) : NumT (valT x) x ∧ x = txt (.int (valT x)) ∧ (valT x).natAbs < 10 ^ 18 ∧ (x.cps.toList.head? ≠ some 45 → 0 ≤ valT x) := by
  obtain ⟨i, e, a, b⟩ := num_back h
  have n : NumT i x := by
    rw [e]
    exact num_txt a
  have v := val_num n
  rw [v]
  exact ⟨n, e, a, b⟩
theorem num_no {x : Str} (h : isNum x = true) : isNm x = false ∧ qName x = false := by
  have n := (num_is h).1
  have p := n.p
  cases e : x.cps.toList with
  | nil =>
    rw [len_cps, ← Array.length_toList, e] at p
    cases p
  | cons c r =>
    have := n.lo c (by rw [e]; exact List.mem_cons_self)
    constructor
    · cases q : isNm x with
      | false => rfl
      | true =>
        obtain ⟨c2, r2, e2, a1, a2, _⟩ := isNm_fst q
        rw [e] at e2
        have := (List.cons.inj e2).1
        omega
    · unfold qName
      rw [e, decide_eq_false (show ¬ (c :: r).head? = some 39 from fun z => by have := Option.some.inj z; omega), Bool.false_and]
theorem nm_no {x : Str} (h : isNm x = true) : qName x = false := by
  obtain ⟨c2, r2, e2, a1, a2, _⟩ := isNm_fst h
  unfold qName
  rw [e2, decide_eq_false (show ¬ (c2 :: r2).head? = some 39 from fun z => by have := Option.some.inj z; omega), Bool.false_and]
theorem can_leaf {c : Nat} {x : Str} (h : canB c x = true) : LeafW c x (mkD c x) := by
  unfold canB at h
  unfold LeafW mkD
  by_cases c1 : c = 101
  · rw [if_pos c1] at h
    rw [if_pos c1, if_pos c1]
    cases hn : isNum x with
    | true =>
      obtain ⟨n1, n2⟩ := num_no hn
      obtain ⟨a, b, d, _⟩ := num_is hn
      rw [if_neg (by rw [n2]; decide), if_neg (by rw [n1]; decide)]
      refine ⟨.inl ⟨_, rfl, d⟩, ?_⟩
      show [x] = [if ("int" : Str) = "atom" then _ else txt (.int (valT x))]
      rw [if_neg (by decide +kernel), ← b]
    | false =>
      rw [hn, Bool.false_or] at h
      cases hm : isNm x with
      | true =>
        rw [if_neg (by rw [nm_no hm]; decide), if_pos rfl]
        refine ⟨.inr ⟨x, .inl rfl, hm⟩, ?_⟩
        show [x] = [if ("name" : Str) = "atom" then _ else x]
        rw [if_neg (by decide +kernel)]
      | false =>
        rw [hm, Bool.false_or] at h
        rw [if_pos h]
        unfold qName at h
        simp only [Bool.and_eq_true, decide_eq_true_eq] at h
        refine ⟨.inr ⟨_, .inr rfl, h.2⟩, ?_⟩
        show [x] = [if ("atom" : Str) = "atom" then "'" ++ cutS x (some 1) none else _]
        rw [if_pos rfl, ← q_cut h.1]
  · rw [if_neg c1] at h
    rw [if_neg c1, if_neg c1]
    by_cases c2 : c = 107
    · rw [if_pos c2] at h
      rw [if_pos (.inl c2)]
      obtain ⟨a, b, d, _⟩ := num_is h
      exact ⟨.inl ⟨c2, _, rfl, d⟩, b⟩
    · rw [if_neg c2] at h
      by_cases c3 : c = 105
      · rw [if_pos c3] at h
        rw [if_pos (.inr c3)]
        simp only [Bool.and_eq_true, decide_eq_true_eq] at h
        obtain ⟨a, b, d, e⟩ := num_is h.1
        exact ⟨.inr (.inl ⟨c3, _, rfl, e h.2, d⟩), b⟩
      · rw [if_neg c3] at h
        rw [if_neg (fun z => z.elim c2 c3)]
        by_cases c4 : c = 119
        · rw [if_pos c4] at h
          refine ⟨.inr (.inr (.inr ⟨c4, ?_⟩)), rfl⟩
          rcases of_decide_eq_true h with z | z | z
          · exact .inl (by rw [z])
          · exact .inr (.inl (by rw [z]))
          · exact .inr (.inr (by rw [z]))
        · rw [if_neg c4] at h
          by_cases c5 : c = 110
          · rw [if_pos c5] at h
            exact ⟨.inr (.inr (.inl ⟨c5, x, rfl, h⟩)), rfl⟩
          · rw [if_neg c5] at h
            cases h
theorem leaf_can {c : Nat} {x : Str} {d : PyData} (h : LeafW c x d) : canB c x = true ∧ d = mkD c x := by
  rcases h.cases with ⟨rfl, h2⟩ | ⟨rfl, i, h2, rfl⟩ | ⟨rfl, i, h2, i0, rfl⟩ | ⟨rfl, h2, rfl⟩ | ⟨rfl, h2, rfl⟩
  · unfold canB mkD
    rw [if_pos rfl, if_pos rfl]
    rcases h2 with ⟨i, rfl, h3⟩ | ⟨rfl, h3⟩ | ⟨y, rfl, rfl, h3⟩
    · obtain ⟨n1, n2⟩ := num_no h3.nm
      rw [h3.nm, if_neg (by rw [n2]; decide), if_neg (by rw [n1]; decide), val_num h3]
      exact ⟨rfl, rfl⟩
    · rw [if_neg (by rw [nm_no h3]; decide), if_pos h3, h3]
      exact ⟨by rw [Bool.true_or, Bool.or_true], rfl⟩
    · obtain ⟨a1, a2, a3, a4, a5, a6⟩ := q_head y
      have q : qName ("'" ++ y) = true := by
        unfold qName
        rw [a2, a6, h3]
        rfl
      rw [if_pos q, q, a2]
      exact ⟨by rw [Bool.or_true, Bool.or_true], rfl⟩
  · exact ⟨h2.nm, by unfold mkD; rw [if_neg (by decide), if_pos (.inl rfl), val_num h2]⟩
  · refine ⟨?_, by unfold mkD; rw [if_neg (by decide), if_pos (.inr rfl), val_num h2]⟩
    unfold canB
    rw [if_neg (by decide), if_neg (by decide), if_pos rfl, h2.nm, decide_eq_true (h2.ng i0)]
    rfl
  · exact ⟨h2, rfl⟩
  · refine ⟨?_, rfl⟩
    unfold canB
    rw [if_neg (by decide), if_neg (by decide), if_neg (by decide), if_pos rfl]
    exact decide_eq_true h2
/-! the reader as a function, and what it has read -/
def wantAt (sl : List Nat) (n : Nat) : Option Nat := if sl.getLast? = some 115 ∧ sl.length - 1 ≤ n then some 101 else sl[n]?
theorem wantB_at {b : Br} {h sl : Str} (e : b.head = some (h, sl)) : wantB b = wantAt sl.cps.toList b.found.length := by
  unfold wantB wantAt
  rw [e]
def isS (sl : Str) (m : Nat) : Bool := decide (sl.cps.toList.getLast? = some 115 ∧ sl.cps.toList.length - 1 ≤ m)
def itemX (bs : List Br) (c : Nat) (x : Str) : Option PSt :=
  if x = "(" ∧ (c = 101 ∨ c = 116) then (if bs.length = 40 then none else some ⟨bs ++ [⟨decide (c = 116), none, []⟩], none⟩)
  else if canB c x = true then some (keepP bs (mkD c x)) else none
def headX (b0 : List Br) (s : Bool) (x : Str) : Option PSt := match (tbS s).find? (fun p => decide (p.1 = x)) with
  | none => none
  | some p => if x ∈ leafHeads then none else if 116 ∈ p.2.cps.toList ∧ b0.length + 1 = 40 then none else some ⟨b0 ++ [⟨s, some (x, p.2), []⟩], none⟩
def topX (b0 : List Br) (b : Br) (x : Str) : Option PSt := match b.head with
  | none => headX b0 b.wanted x
  | some (h, sl) => match wantAt sl.cps.toList b.found.length with
    | none => if x = ")" then some (keepP b0 (.tuple (.str h :: packed sl b.found))) else none
    | some c => if isS sl b.found.length = true ∧ x = ")" then some (keepP b0 (.tuple (.str h :: packed sl b.found))) else itemX (b0 ++ [b]) c x
def stepX (bs : List Br) (x : Str) : Option PSt := match bs.getLast? with
  | none => itemX [] 101 x
  | some b => topX bs.dropLast b x
theorem stepX_nil (x : Str) : stepX [] x = itemX [] 101 x := rfl
theorem stepX_snoc (b0 : List Br) (b : Br) (x : Str) : stepX (b0 ++ [b]) x = topX b0 b x := by
  unfold stepX
  rw [List.getLast?_append, List.dropLast_concat]
  rfl
/-- what a slot holds, and its words -/
def ItOk (f c : Nat) (d : PyData) : Prop := if c = 101 then Wx f false d else if c = 116 then Wx f true d else LeafOk c d
def itW (f c : Nat) (d : PyData) : List Str := if c = 101 ∨ c = 116 then wordsD f d else [txt d]
inductive Fd (f : Nat) (sl : List Nat) : List PyData → List Str → Prop
  | nil : Fd f sl [] []
  | snoc {ds : List PyData} {ws : List Str} {c : Nat} {d : PyData} : Fd f sl ds ws → wantAt sl ds.length = some c → ItOk f c d → Fd f sl (ds ++ [d]) (ws ++ itW f c d)
theorem wantAt_lt {sl : List Nat} {n c : Nat} (h : wantAt sl n = some c) (hn : ¬ (sl.getLast? = some 115 ∧ sl.length - 1 ≤ n)) : sl[n]? = some c := by
  unfold wantAt at h
  rw [if_neg hn] at h
  exact h
theorem leafOk_c {c : Nat} {d : PyData} (h : LeafOk c d) : c ≠ 115 ∧ c ≠ 101 ∧ c ≠ 116 := by
  rcases h with ⟨rfl, _⟩ | ⟨rfl, _⟩ | ⟨rfl, _⟩ | ⟨rfl, _⟩ <;> decide
theorem argOk_snoc {W : Bool → PyData → Prop} : ∀ {cs : List Nat} {ds : List PyData} {c : Nat} {d : PyData}, ArgOk W cs ds → (if c = 115 then ∃ es, d = .tuple es ∧ ∀ e ∈ es, W false e else if c = 101 then W false d else if c = 116 then W true d else LeafOk c d) → ArgOk W (cs ++ [c]) (ds ++ [d])
  | [], [], _, _, _, h => ⟨h, trivial⟩
  | _ :: _, _ :: _, _, _, a, h => ⟨a.1, argOk_snoc a.2 h⟩
  | [], _ :: _, _, _, a, _ => a.elim
  | _ :: _, [], _, _, a, _ => a.elim
theorem argW_snoc {wd : PyData → List Str} : ∀ {cs : List Nat} {ds : List PyData} {c : Nat} {d : PyData}, cs.length = ds.length → argWords wd (cs ++ [c]) (ds ++ [d]) = argWords wd cs ds ++ (if c = 115 then (kidsT d).flatMap wd else if c = 101 ∨ c = 116 then wd d else [txt d])
  | [], [], c, d, _ => by simp only [List.nil_append, argWords, List.append_nil]
  | a :: cs, b :: ds, c, d, h => by
    have ih := argW_snoc (wd := wd) (c := c) (d := d) (show cs.length = ds.length by simpa using h)
    simp only [List.cons_append, argWords, ih, List.append_assoc]
  | [], _ :: _, _, _, h => by cases h
  | _ :: _, [], _, _, h => by cases h
/-- what is found: first one for each slot, then many trees -/
structure FdI (f : Nat) (c1 : List Nat) (sB : Bool) (ds : List PyData) (ws : List Str) : Prop where
  ex : ∃ a es, ds = a ++ es ∧ a.length ≤ c1.length ∧ (es ≠ [] → a.length = c1.length ∧ sB = true) ∧ ArgOk (Wx f) (c1.take a.length) a ∧ (∀ e ∈ es, Wx f false e) ∧ ws = argWords (wordsD f) (c1.take a.length) a ++ es.flatMap (wordsD f)
theorem Fd.inv {f : Nat} {c1 : List Nat} {sB : Bool} (hn : 115 ∉ c1) {ds : List PyData} {ws : List Str} (h : Fd f (c1 ++ (if sB = true then [115] else [])) ds ws) : FdI f c1 sB ds ws := by
  generalize hsl : c1 ++ (if sB = true then [115] else []) = sl at h
  induction h with
  | nil => exact ⟨[], [], rfl, Nat.zero_le _, fun z => absurd rfl z, trivial, (fun _ z => nomatch z), by simp [argWords]⟩
  | @snoc ds ws c d _ hw hi ih =>
    subst hsl
    obtain ⟨a, es, rfl, la, le, ok, oe, rfl⟩ := ih.ex
    by_cases full : a.length = c1.length ∧ sB = true
    · -- one more of the many
      obtain ⟨l1, rfl⟩ := full
      have hc : c = 101 := by
        unfold wantAt at hw
        rw [if_pos rfl, if_pos ⟨by simp, by simp only [List.length_append, List.length_cons, List.length_nil]; omega⟩] at hw
        exact (Option.some.inj hw).symm
      subst hc
      refine ⟨a, es ++ [d], by rw [List.append_assoc], la, fun _ => ⟨l1, rfl⟩, ok, fun e he => ?_, ?_⟩
      · rcases List.mem_append.mp he with z | z
        · exact oe e z
        · rw [List.mem_singleton.mp z]
          exact hi
      · rw [List.flatMap_append, List.append_assoc]
        simp [itW]
    · have ee : es = [] := Decidable.byContradiction fun z => full (le z)
      subst ee
      rw [List.append_nil] at hw ⊢
      have nS : ¬ ((c1 ++ (if sB = true then [115] else [])).getLast? = some 115 ∧ (c1 ++ (if sB = true then [115] else [])).length - 1 ≤ a.length) := by
        rintro ⟨z1, z2⟩
        cases sB with
        | true =>
          simp only [if_true, List.length_append, List.length_cons, List.length_nil] at z2
          exact full ⟨by omega, rfl⟩
        | false =>
          simp only [Bool.false_eq_true, if_false, List.append_nil] at z1
          exact hn (List.mem_of_getLast? z1)
      have hx := wantAt_lt hw nS
      have la2 : a.length < c1.length := by
        have z := (List.getElem?_eq_some_iff.mp hx).1
        cases sB with
        | true =>
          simp only [if_true, List.length_append, List.length_cons, List.length_nil] at z
          have : a.length ≠ c1.length := fun y => full ⟨y, rfl⟩
          omega
        | false =>
          simp only [Bool.false_eq_true, if_false, List.append_nil] at z
          exact z
      rw [List.getElem?_append_left la2] at hx
      have ec : c ≠ 115 := fun z => hn (by rw [← z]; exact List.mem_of_getElem? hx)
      have tk : c1.take (a ++ [d]).length = c1.take a.length ++ [c] := by
        rw [List.length_append, List.length_singleton]
        exact get_take hx
      refine ⟨a ++ [d], [], by rw [List.append_nil], by rw [List.length_append, List.length_singleton]; omega, fun z => absurd rfl z, ?_, (fun _ z => nomatch z), ?_⟩
      · rw [tk]
        refine argOk_snoc ok ?_
        rw [if_neg ec]
        exact hi
      · rw [tk, argW_snoc ok.len, if_neg ec]
        simp [itW]
theorem slots_split : ∀ p ∈ allL, ∃ c1 sB, p.2.cps.toList = c1 ++ (if sB = true then [115] else []) ∧ 115 ∉ c1 := by
  intro p hp
  have hn := only_last p hp
  by_cases h : p.2.cps.toList.getLast? = some 115
  · have ne : p.2.cps.toList ≠ [] := fun z => by
      rw [z] at h
      cases h
    refine ⟨p.2.cps.toList.dropLast, true, ?_, hn⟩
    have e := List.dropLast_concat_getLast ne
    rw [List.getLast?_eq_some_getLast ne] at h
    rw [Option.some.inj h] at e
    exact e.symm
  · refine ⟨p.2.cps.toList, false, by simp, fun z => ?_⟩
    obtain ⟨x, y, e⟩ := List.append_of_mem z
    rw [e] at hn
    have := last_115 hn
    subst this
    rw [e] at h
    exact h (by simp)
/-- a bracket is closed -/
theorem Fd.close {f : Nat} {h sl : Str} (m : (h, sl) ∈ allL) {ds : List PyData} {ws : List Str} (q : Fd f sl.cps.toList ds ws) (hd : DoneP sl ds) : ArgOk (Wx f) sl.cps.toList (packed sl ds) ∧ argWords (wordsD f) sl.cps.toList (packed sl ds) = ws := by
  obtain ⟨c1, sB, e, hn⟩ := slots_split _ m
  simp only at e
  rw [e] at q
  obtain ⟨a, es, rfl, la, le, ok, oe, rfl⟩ := (q.inv hn).ex
  unfold DoneP at hd
  unfold packed
  rw [e] at hd ⊢
  cases sB with
  | true =>
    simp only [if_true] at hd ⊢
    rw [if_pos (by simp)] at hd
    rw [if_pos (by simp)]
    simp only [List.length_append, List.length_cons, List.length_nil] at hd ⊢
    have l1 : a.length = c1.length := by
      by_cases z : es = []
      · subst z
        simp only [List.length_nil] at hd
        omega
      · exact (le z).1
    have e1 : c1.length + (0 + 1) - 1 = a.length := by omega
    rw [e1, List.take_left, List.drop_left]
    have tk : c1.take a.length = c1 := List.take_of_length_le (by omega)
    rw [tk] at ok ⊢
    refine ⟨argOk_snoc ok ?_, ?_⟩
    · rw [if_pos rfl]
      exact ⟨es, rfl, oe⟩
    · rw [argW_snoc ok.len, if_pos rfl]
      rfl
  | false =>
    simp only [Bool.false_eq_true, if_false, List.append_nil] at hd ⊢
    have hl : ¬ c1.getLast? = some 115 := fun z => hn (List.mem_of_getLast? z)
    rw [if_neg hl] at hd
    rw [if_neg hl]
    have ee : es = [] := Decidable.byContradiction fun z => by
      have := (le z).2
      cases this
    subst ee
    rw [List.append_nil] at hd ⊢
    have tk : c1.take a.length = c1 := List.take_of_length_le (by omega)
    rw [tk] at ok ⊢
    exact ⟨ok, by simp⟩
def swant (s : Bool) : Nat := if s = true then 116 else 101
/-- open brackets and the words that they have read -/
inductive Rec : List Br → List Str → Prop
  | nil : Rec [] []
  | opened {bs : List Br} {ws : List Str} {s : Bool} : Rec bs ws → bs.length < 40 → wants bs = some (swant s) → Rec (bs ++ [⟨s, none, []⟩]) (ws ++ [("(" : Str)])
  | headed {bs : List Br} {ws fs : List Str} {s : Bool} {h sl : Str} {found : List PyData} : Rec bs ws → bs.length < 40 → wants bs = some (swant s) → (h, sl) ∈ tbS s → h ∉ leafHeads → Fd (40 - (bs.length + 1)) sl.cps.toList found fs →
      (116 ∈ sl.cps.toList → bs.length + 1 < 40) → Rec (bs ++ [⟨s, some (h, sl), found⟩]) (ws ++ ([("(" : Str), h] ++ fs))
theorem snoc_inj {α : Type} {a b : List α} {x y : α} (h : a ++ [x] = b ++ [y]) : a = b ∧ x = y := by
  obtain ⟨h1, h2⟩ := List.append_inj' h rfl
  exact ⟨h1, (List.cons.inj h2).1⟩
theorem Rec.len {bs : List Br} {ws : List Str} (h : Rec bs ws) : bs.length ≤ 40 := by
  cases h with
  | nil => exact Nat.zero_le _
  | opened _ l _ => rw [List.length_append, List.length_singleton]; omega
  | headed _ l _ _ _ _ _ => rw [List.length_append, List.length_singleton]; omega
theorem Rec.unsnoc {b0 : List Br} {b : Br} {ws : List Str} (h : Rec (b0 ++ [b]) ws) : ∃ w0 s, Rec b0 w0 ∧ b0.length < 40 ∧ wants b0 = some (swant s) ∧ ((b = ⟨s, none, []⟩ ∧ ws = w0 ++ [("(" : Str)]) ∨
    ∃ h sl found fs, b = ⟨s, some (h, sl), found⟩ ∧ (h, sl) ∈ tbS s ∧ h ∉ leafHeads ∧ Fd (40 - (b0.length + 1)) sl.cps.toList found fs ∧ (116 ∈ sl.cps.toList → b0.length + 1 < 40) ∧ ws = w0 ++ ([("(" : Str), h] ++ fs)) := by
  generalize e : b0 ++ [b] = bs at h
  cases h with
  | nil => simp at e
  | opened r l w =>
    obtain ⟨rfl, rfl⟩ := snoc_inj e
    exact ⟨_, _, r, l, w, .inl ⟨rfl, rfl⟩⟩
  | headed r l w m n q t =>
    obtain ⟨rfl, rfl⟩ := snoc_inj e
    exact ⟨_, _, r, l, w, .inr ⟨_, _, _, _, rfl, m, n, q, t, rfl⟩⟩
theorem Rec.nil_ws {ws : List Str} (h : Rec [] ws) : ws = [] := by
  generalize e : ([] : List Br) = bs at h
  cases h with
  | nil => rfl
  | opened r l w => simp at e
  | headed r l w m n q t => simp at e
/-- what has been read when a step is done -/
def Went (ws : List Str) (S : PSt) : Prop := (S.tree = none ∧ Rec S.brs ws) ∨ ∃ d, S = ⟨[], some d⟩ ∧ Wx 40 false d ∧ wordsD 40 d = ws
theorem Rec.keep {bs : List Br} {ws : List Str} {c : Nat} {d : PyData} (h : Rec bs ws) (hw : wants bs = some c) (hi : ItOk (40 - bs.length) c d) : Went (ws ++ itW (40 - bs.length) c d) (keepP bs d) := by
  rcases List.eq_nil_or_concat bs with e | ⟨b0, b, e⟩
  · subst e
    have ew := h.nil_ws
    subst ew
    have ec := (Option.some.inj hw).symm
    subst ec
    rw [keepP_nil]
    exact .inr ⟨d, rfl, hi, by simp [itW]⟩
  · rw [List.concat_eq_append] at e
    subst e
    rw [keepP_snoc]
    obtain ⟨w0, s, r, l, w, q⟩ := h.unsnoc
    rcases q with ⟨rfl, rfl⟩ | ⟨h, sl, found, fs, rfl, m, n, q, t, rfl⟩
    · rw [wants_snoc] at hw
      cases hw
    · refine .inl ⟨rfl, ?_⟩
      rw [wants_snoc, wantB_at rfl] at hw
      rw [List.length_append, List.length_singleton] at hi ⊢
      have z := Rec.headed r l w m n (Fd.snoc q hw hi) t
      simpa only [addB, List.append_assoc] using z
theorem leaf_it {c f : Nat} {x : Str} {d : PyData} (h : LeafW c x d) : ItOk f c d ∧ itW f c d = [x] := by
  unfold ItOk itW
  rcases h.cases with ⟨rfl, _⟩ | ⟨rfl, _⟩ | ⟨rfl, _⟩ | ⟨rfl, _⟩ | ⟨rfl, _⟩
  · unfold LeafW at h
    rw [if_pos rfl] at h
    rw [if_pos rfl, if_pos (.inl rfl), words_leaf h.1]
    refine ⟨?_, h.2.symm⟩
    cases f with
    | zero => exact ⟨rfl, h.1⟩
    | succ f => exact .inl ⟨rfl, h.1⟩
  all_goals
    unfold LeafW at h
    rw [if_neg (by decide)] at h
    rw [if_neg (by decide), if_neg (by decide), if_neg (by decide), h.2]
    exact ⟨h.1, rfl⟩
theorem Rec.done {b0 : List Br} {s : Bool} {h sl : Str} {found : List PyData} {ws : List Str} (r : Rec (b0 ++ [⟨s, some (h, sl), found⟩]) ws) (hd : DoneP sl found) : Went (ws ++ [(")" : Str)]) (keepP b0 (.tuple (.str h :: packed sl found))) := by
  obtain ⟨w0, s2, r0, l, w, q⟩ := r.unsnoc
  rcases q with ⟨e, _⟩ | ⟨h2, sl2, found2, fs, e, m, n, q, t, rfl⟩
  · cases e
  · cases e
    obtain ⟨a1, a2⟩ := q.close (tbS_all _ m) hd
    have e40 : 40 - b0.length = (40 - (b0.length + 1)) + 1 := by omega
    have wx : Wx (40 - b0.length) s (.tuple (.str h :: packed sl found)) := by
      rw [e40]
      exact .inr ⟨h, sl, _, rfl, m, n, a1⟩
    have it : ItOk (40 - b0.length) (swant s) (.tuple (.str h :: packed sl found)) := by
      unfold ItOk swant
      cases s
      · exact wx
      · exact wx
    have z := r0.keep w it
    have ew : itW (40 - b0.length) (swant s) (.tuple (.str h :: packed sl found)) = [("(" : Str), h] ++ fs ++ [(")" : Str)] := by
      unfold itW swant
      rw [if_pos (by cases s; exact .inl rfl; exact .inr rfl), e40, words_node (tbS_all _ m) n, a2]
    rw [ew] at z
    simpa only [List.append_assoc] using z
theorem fd_len {f : Nat} {sl : List Nat} {ds : List PyData} {ws : List Str} (h : Fd f sl ds ws) : sl.getLast? = some 115 ∨ ds.length ≤ sl.length := by
  cases h with
  | nil => exact .inr (Nat.zero_le _)
  | snoc _ hw _ =>
    unfold wantAt at hw
    split at hw
    · rename_i z
      exact .inl z.1
    · refine .inr ?_
      rw [List.length_append, List.length_singleton]
      exact (List.getElem?_eq_some_iff.mp hw).1
theorem done_of {f : Nat} {h sl : Str} (m : (h, sl) ∈ allL) {ds : List PyData} {ws : List Str} (q : Fd f sl.cps.toList ds ws) (hw : wantAt sl.cps.toList ds.length = none ∨ isS sl ds.length = true) : DoneP sl ds := by
  unfold DoneP
  rcases hw with hw | hw
  · unfold wantAt at hw
    split at hw
    · cases hw
    · rename_i z
      have l := List.getElem?_eq_none_iff.mp hw
      by_cases e : sl.cps.toList.getLast? = some 115
      · rw [if_pos e]
        omega
      · rw [if_neg e]
        rcases fd_len q with y | y
        · exact absurd y e
        · omega
  · have z := of_decide_eq_true hw
    rw [if_pos z.1]
    exact z.2
theorem find_ex : ∀ p ∈ exL, exL.find? (fun q => decide (q.1 = p.1)) = some p := by decide +kernel
theorem find_te : ∀ p ∈ teL, teL.find? (fun q => decide (q.1 = p.1)) = some p := by decide +kernel
theorem find_tb {s : Bool} {h sl : Str} (m : (h, sl) ∈ tbS s) : (tbS s).find? (fun p => decide (p.1 = h)) = some (h, sl) := by
  cases s with
  | false => exact find_ex _ m
  | true => exact find_te _ m
theorem item_of {bs : List Br} {c : Nat} {x : Str} {S : PSt} {ws : List Str} (r : Rec bs ws) (hw : wants bs = some c) (h : itemX bs c x = some S) : ItemP bs c x S ∧ StepP bs x S ∧ Went (ws ++ [x]) S := by
  unfold itemX at h
  split at h
  · rename_i z
    split at h
    · cases h
    · rename_i n40
      cases h
      have l := r.len
      obtain ⟨rfl, hc⟩ := z
      refine ⟨.inl ⟨rfl, hc, by omega, rfl⟩, .opens hw hc (by omega), .inl ⟨rfl, .opened r (by omega) ?_⟩⟩
      rw [hw]
      rcases hc with rfl | rfl <;> rfl
  · split at h
    · rename_i cb
      cases h
      have lw := can_leaf cb
      obtain ⟨a, b⟩ := leaf_it (f := 40 - bs.length) lw
      have z := r.keep hw a
      rw [b] at z
      exact ⟨.inr ⟨_, lw, rfl⟩, .leaf hw lw, z⟩
    · cases h
theorem step_of {bs : List Br} {x : Str} {S : PSt} {ws : List Str} (r : Rec bs ws) (h : stepX bs x = some S) : StepP bs x S ∧ Went (ws ++ [x]) S := by
  rcases List.eq_nil_or_concat bs with e | ⟨b0, b, e⟩
  · subst e
    rw [stepX_nil] at h
    exact (item_of r rfl h).2
  · rw [List.concat_eq_append] at e
    subst e
    rw [stepX_snoc] at h
    obtain ⟨w0, s, r0, l, w, q⟩ := r.unsnoc
    rcases q with ⟨rfl, rfl⟩ | ⟨hh, sl, found, fs, rfl, m, n, q, t, rfl⟩
    · unfold topX at h
      simp only at h
      unfold headX at h
      split at h
      · cases h
      · rename_i p hp
        split at h
        · cases h
        · rename_i n
          split at h
          · cases h
          · rename_i t
            cases h
            have e : p.1 = x := by
              have z := List.find?_some hp
              simpa using z
            have m := List.mem_of_find?_eq_some hp
            obtain ⟨p1, p2⟩ := p
            simp only at e t m
            subst e
            have t2 : 116 ∈ p2.cps.toList → b0.length + 1 < 40 := fun z => by
              have : ¬ b0.length + 1 = 40 := fun y => t ⟨z, y⟩
              omega
            refine ⟨.head m n t2, .inl ⟨rfl, ?_⟩⟩
            have z := Rec.headed r0 l w m n .nil t2
            simpa using z
    · unfold topX at h
      simp only at h
      cases hwa : wantAt sl.cps.toList found.length with
      | none =>
        rw [hwa] at h
        simp only at h
        split at h
        · rename_i e
          cases h
          subst e
          have d := done_of (tbS_all _ m) q (.inl hwa)
          exact ⟨.close m d, r.done d⟩
        · cases h
      | some c =>
        rw [hwa] at h
        simp only at h
        split at h
        · rename_i e
          cases h
          obtain ⟨e1, rfl⟩ := e
          have d := done_of (tbS_all _ m) q (.inr e1)
          exact ⟨.close m d, r.done d⟩
        · exact (item_of r (by rw [wants_snoc, wantB_at rfl, hwa]) h).2
theorem stepX_item {bs : List Br} {c : Nat} {x : Str} (hw : wants bs = some c) (n : ¬ x = ")") : stepX bs x = itemX bs c x := by
  rcases List.eq_nil_or_concat bs with e | ⟨b0, b, e⟩
  · subst e
    have ec := (Option.some.inj hw).symm
    subst ec
    rfl
  · rw [List.concat_eq_append] at e
    subst e
    rw [stepX_snoc]
    rw [wants_snoc] at hw
    obtain ⟨s, hd, found⟩ := b
    cases hd with
    | none => cases hw
    | some p =>
      obtain ⟨h, sl⟩ := p
      rw [wantB_at rfl] at hw
      unfold topX
      simp only at hw ⊢
      rw [hw]
      simp only
      rw [if_neg (fun z => n z.2)]
theorem of_step {bs : List Br} {x : Str} {S : PSt} (h : StepP bs x S) : stepX bs x = some S := by
  cases h with
  | opens hw hc hl =>
    rw [stepX_item hw (by decide +kernel)]
    unfold itemX
    rw [if_pos ⟨rfl, hc⟩, if_neg (by omega)]
  | @head b0 s h sl m n t =>
    rw [stepX_snoc]
    unfold topX
    simp only
    unfold headX
    rw [find_tb m]
    simp only
    rw [if_neg n, if_neg (fun z => by have := t z.1; omega)]
  | leaf hw lw =>
    obtain ⟨n1, n2, _⟩ := lw.low
    obtain ⟨c1, rfl⟩ := leaf_can lw
    rw [stepX_item hw n2]
    unfold itemX
    rw [if_neg (fun z => n1 z.1), if_pos c1]
  | @close b0 s h sl found m d =>
    rw [stepX_snoc]
    unfold topX
    simp only
    unfold DoneP at d
    by_cases e : sl.cps.toList.getLast? = some 115
    · rw [if_pos e] at d
      have w : wantAt sl.cps.toList found.length = some 101 := by
        unfold wantAt
        rw [if_pos ⟨e, d⟩]
      rw [w]
      simp only
      exact if_pos ⟨decide_eq_true ⟨e, d⟩, trivial⟩
    · rw [if_neg e] at d
      have w : wantAt sl.cps.toList found.length = none := by
        unfold wantAt
        rw [if_neg (fun z => e z.1), d]
        simp
      rw [w]
      simp only
      exact if_pos trivial
def stX (S : PSt) (x : Str) : Option PSt := match S.tree with
  | some _ => none
  | none => stepX S.brs x
/-- the index of the first word that is refused -/
def wrongF : PSt → List Str → Nat → Option Nat
  | S, [], i => match S.tree with
    | some _ => none
    | none => some i
  | S, x :: ws, i => match stX S x with
    | none => some i
    | some S2 => wrongF S2 ws (i + 1)
def wrongW (ws : List Str) : Option Nat := wrongF ⟨[], none⟩ ws 0
theorem stX_of {S S2 : PSt} {x : Str} {ws : List Str} (g : Went ws S) (h : stX S x = some S2) : S.tree = none ∧ Rec S.brs ws ∧ StepP S.brs x S2 ∧ Went (ws ++ [x]) S2 := by
  rcases g with ⟨e, r⟩ | ⟨d, rfl, _⟩
  · unfold stX at h
    rw [e] at h
    simp only at h
    exact ⟨e, r, step_of r h⟩
  · cases h
theorem wrong_none : ∀ {ws ws0 : List Str} {S : PSt} {i : Nat}, Went ws0 S → wrongF S ws i = none → ∃ d, Wx 40 false d ∧ wordsD 40 d = ws0 ++ ws
  | [], ws0, S, i, g, h => by
    rcases g with ⟨e, r⟩ | ⟨d, rfl, wx, ew⟩
    · unfold wrongF at h
      rw [e] at h
      cases h
    · exact ⟨d, wx, by rw [ew, List.append_nil]⟩
  | x :: ws, ws0, S, i, g, h => by
    unfold wrongF at h
    cases e : stX S x with
    | none =>
      rw [e] at h
      cases h
    | some S2 =>
      rw [e] at h
      have z := wrong_none (stX_of g e).2.2.2 h
      simpa only [List.append_assoc, List.singleton_append] using z
theorem go_wrong {b1 b2 : List Br} {ws : List Str} (g : GoP b1 ws b2) : ∀ (r : List Str) (i : Nat), wrongF ⟨b1, none⟩ (ws ++ r) i = wrongF ⟨b2, none⟩ r (i + ws.length) := by
  induction g with
  | nil => exact fun r i => rfl
  | cons s _ ih =>
    intro r i
    have e := of_step s
    show (match stX ⟨_, none⟩ _ with | none => some i | some S2 => wrongF S2 _ (i + 1)) = _
    have e2 : stX ⟨_, none⟩ _ = some _ := e
    rw [e2]
    simp only
    refine (ih r (i + 1)).trans ?_
    rw [List.length_cons]
    congr 1
    omega
theorem wrong_reads {f : Nat} {d : PyData} (h : Wx f false d) (hf : f ≤ 40) : wrongW (wordsD f d) = none := by
  obtain ⟨ws0, x, b1, e, g, s⟩ := reads f [] false d h rfl (by simpa using hf)
  unfold wrongW
  rw [e, go_wrong g]
  show (match stX ⟨b1, none⟩ x with | none => _ | some S2 => wrongF S2 [] _) = _
  have e2 : stX ⟨b1, none⟩ x = some _ := of_step s
  rw [e2]
  rfl
/-! the law's own reader -/
abbrev sg (c : Nat) : Str := ⟨#[c]⟩
def cur (sl : List Nat) (m : Nat) : Nat := if sl.getLast? = some 115 then min m (sl.length - 1) else m
def restL (sl : List Nat) (m : Nat) : List Str := (")" : Str) :: ((sl.drop (cur sl m)).map sg).reverse
def dueB (b : Br) (k : Nat) : List Str := match b.head with
  | none => [(")" : Str), if b.wanted = true then "head t" else "head e"]
  | some (_, sl) => restL sl.cps.toList (b.found.length + k)
def outL (bs : List Br) : List Str := bs.flatMap fun b => dueB b 1
def dueL (bs : List Br) : List Str := match bs.getLast? with
  | none => [("e" : Str)]
  | some b => outL bs.dropLast ++ dueB b 0
def dueS (S : PSt) : List Str := match S.tree with
  | some _ => []
  | none => dueL S.brs
theorem dueL_snoc (b0 : List Br) (b : Br) : dueL (b0 ++ [b]) = outL b0 ++ dueB b 0 := by
  unfold dueL
  rw [List.getLast?_append, List.dropLast_concat]
  rfl
theorem outL_snoc (b0 : List Br) (b : Br) : outL (b0 ++ [b]) = outL b0 ++ dueB b 1 := by
  unfold outL
  rw [List.flatMap_append]
  simp
def cnt (l : List Str) : Nat := l.countP fun y => decide (y = (")" : Str))
theorem cnt_app (a b : List Str) : cnt (a ++ b) = cnt a + cnt b := by unfold cnt; rw [List.countP_append]
theorem no_41 : ∀ p ∈ allL, 41 ∉ p.2.cps.toList := by decide +kernel
theorem sg_close {c : Nat} (h : c ≠ 41) : ¬ (sg c = (")" : Str)) := fun z => by
  have e : (")" : Str) = ⟨#[41]⟩ := by decide +kernel
  rw [e] at z
  exact h ((sg_one c 41).mp z)
theorem cnt_sg {cs : List Nat} (h : 41 ∉ cs) : cnt ((cs.map sg).reverse) = 0 := by
  unfold cnt
  rw [List.countP_eq_zero]
  intro y hy
  obtain ⟨c, hc, rfl⟩ := List.mem_map.mp (List.mem_reverse.mp hy)
  have := sg_close (c := c) (fun z => h (z ▸ hc))
  simpa using this
theorem cnt_rest {h sl : Str} (m : (h, sl) ∈ allL) (k : Nat) : cnt (restL sl.cps.toList k) = 1 := by
  have z := no_41 _ m
  have e : restL sl.cps.toList k = [(")" : Str)] ++ ((sl.cps.toList.drop (cur sl.cps.toList k)).map sg).reverse := rfl
  rw [e, cnt_app, cnt_sg (fun y => z (List.mem_of_mem_drop y))]
  decide +kernel
theorem Rec.cntB {b0 : List Br} {b : Br} {ws : List Str} (r : Rec (b0 ++ [b]) ws) (k : Nat) : cnt (dueB b k) = 1 := by
  obtain ⟨w0, s, r0, l, w, q⟩ := r.unsnoc
  rcases q with ⟨rfl, rfl⟩ | ⟨hh, sl, found, fs, rfl, m, n, q, t, rfl⟩
  · cases s
    · exact (by decide +kernel : cnt [(")" : Str), "head e"] = 1)
    · exact (by decide +kernel : cnt [(")" : Str), "head t"] = 1)
  · exact cnt_rest (tbS_all _ m) _
theorem Rec.cntO {bs : List Br} {ws : List Str} (r : Rec bs ws) : cnt (outL bs) = bs.length := by
  have key : ∀ (n : Nat) (bs : List Br) (ws : List Str), bs.length = n → Rec bs ws → cnt (outL bs) = bs.length := fun n => by
    induction n with
    | zero =>
      intro bs ws h _
      rw [List.length_eq_zero_iff.mp h]
      rfl
    | succ n ih =>
      intro bs ws h r
      rcases List.eq_nil_or_concat bs with e | ⟨b0, b, e⟩
      · subst e
        cases h
      · rw [List.concat_eq_append] at e
        subst e
        obtain ⟨w0, s, r0, l, w, q⟩ := r.unsnoc
        rw [outL_snoc, cnt_app, r.cntB, ih b0 w0 (by simpa using h) r0, List.length_append]
        rfl
  exact key _ _ _ rfl r
def fitB (m x : Str) : Bool := if m = "n" then isNm x else if m = "w" then decide (x = "integer" ∨ x = "atom" ∨ x = "tuple") else if m = "k" ∨ m = "i" then isNum x && (decide (m = "k") || decide (x.cps.toList.head? ≠ some 45))
  else if ¬ m = "e" ∨ isNum x = true ∨ isNm x = true then decide (m = "e") else qName x
def slotsL (m x : Str) : Str := (((tbS (decide (cutS m (some 5) none = "t"))).find? fun p => decide (p.1 = x)).map Prod.snd).getD ""
def stepY (d0 : List Str) (m x : Str) : Option (List Str) :=
  if m = "s" ∧ x = ")" then some d0.dropLast
  else if (m = "e" ∨ m = "t" ∨ m = "s") ∧ x = "(" then
    (if 40 < cnt (d0 ++ ((if m = "s" then [("s" : Str)] else []) ++ [(")" : Str), if m = "t" then "head t" else "head e"])) then none else some (d0 ++ ((if m = "s" then [("s" : Str)] else []) ++ [(")" : Str), if m = "t" then "head t" else "head e"])))
  else if cutS m none (some 4) = "head" then
    (if slotsL m x = "" ∨ (cnt d0 = 40 ∧ 116 ∈ (slotsL m x).cps.toList) ∨ x ∈ leafHeads then none else some (d0 ++ ((slotsL m x).cps.toList.map sg).reverse))
  else if m = "s" ∧ fitB "e" x = true then some (d0 ++ [("s" : Str)])
  else if fitB m x = false ∧ ¬ (m = ")" ∧ x = ")") then none else some d0
theorem fit_e (x : Str) : fitB "e" x = canB 101 x := by
  unfold fitB canB
  rw [if_neg (by decide +kernel), if_neg (by decide +kernel), if_neg (by decide +kernel), if_pos rfl]
  cases a : isNum x with
  | true => rw [if_pos (.inr (.inl rfl))]; rw [Bool.true_or]; decide +kernel
  | false =>
    cases b : isNm x with
    | true => rw [if_pos (.inr (.inr rfl))]; rw [Bool.true_or, Bool.or_true]; decide +kernel
    | false =>
      rw [if_neg (by rintro (z | z | z); exact z rfl; cases z; cases z), Bool.false_or, Bool.false_or]
theorem fit_no {m : Str} (h : m = ")" ∨ m = "t" ∨ m = "s") (x : Str) : fitB m x = false := by
  unfold fitB
  rcases h with rfl | rfl | rfl
  all_goals
    rw [if_neg (by decide +kernel), if_neg (by decide +kernel), if_neg (by decide +kernel), if_pos (.inl (by decide +kernel))]
    decide +kernel
theorem due_keep {bs : List Br} {d : PyData} (hh : ∀ b ∈ bs, b.head ≠ none) : dueS (keepP bs d) = outL bs := by
  rcases List.eq_nil_or_concat bs with e | ⟨b0, b, e⟩
  · subst e
    rfl
  · rw [List.concat_eq_append] at e
    subst e
    rw [keepP_snoc, outL_snoc]
    show dueL (b0 ++ [addB b d]) = _
    rw [dueL_snoc]
    congr 1
    have z := hh b (by simp)
    obtain ⟨s, hd, found⟩ := b
    cases hd with
    | none => exact absurd rfl z
    | some p =>
      obtain ⟨h, sl⟩ := p
      show restL _ _ = restL _ _
      simp only [addB, List.length_append, List.length_singleton, Nat.add_zero]
theorem wants_head {bs : List Br} {c : Nat} (h : wants bs = some c) : ∀ b, bs.getLast? = some b → b.head ≠ none := by
  intro b hb z
  unfold wants at h
  rw [hb] at h
  simp only at h
  unfold wantB at h
  rw [z] at h
  cases h
theorem Rec.heads {bs : List Br} {ws : List Str} (r : Rec bs ws) : ∀ b0 b, bs = b0 ++ [b] → ∀ y ∈ b0, y.head ≠ none := by
  have key : ∀ (n : Nat) (bs : List Br) (ws : List Str), bs.length = n → Rec bs ws → (∃ c, wants bs = some c) → ∀ y ∈ bs, y.head ≠ none := fun n => by
    induction n with
    | zero =>
      intro bs ws h _ _ y hy
      rw [List.length_eq_zero_iff.mp h] at hy
      cases hy
    | succ n ih =>
      intro bs ws h r hw y hy
      rcases List.eq_nil_or_concat bs with e | ⟨b0, b, e⟩
      · subst e
        cases h
      · rw [List.concat_eq_append] at e
        subst e
        obtain ⟨w0, s, r0, l, w, q⟩ := r.unsnoc
        rcases List.mem_append.mp hy with z | z
        · exact ih b0 w0 (by simpa using h) r0 ⟨_, w⟩ y z
        · rw [List.mem_singleton.mp z]
          obtain ⟨c, hw⟩ := hw
          exact wants_head hw b (by rw [List.getLast?_append]; rfl)
  intro b0 b e y hy
  subst e
  obtain ⟨w0, s, r0, l, w, q⟩ := r.unsnoc
  exact key _ b0 w0 rfl r0 ⟨_, w⟩ y hy
theorem slot_codes : ∀ p ∈ allL, ∀ c ∈ p.2.cps.toList, c = 101 ∨ c = 116 ∨ c = 107 ∨ c = 105 ∨ c = 110 ∨ c = 119 ∨ c = 115 := by decide +kernel
theorem slots_some : ∀ p ∈ allL, ¬ p.2 = "" := by decide +kernel
theorem due_open (bs : List Br) (s : Bool) : dueL (bs ++ [⟨s, none, []⟩]) = outL bs ++ [(")" : Str), if s = true then "head t" else "head e"] := by
  rw [dueL_snoc]
  rfl
theorem simG {bs : List Br} {ws : List Str} {c : Nat} {m x : Str} (r : Rec bs ws) (hh : ∀ b ∈ bs, b.head ≠ none) (m1 : ¬ m = "s") (m2 : (m = "e" ∨ m = "t" ∨ m = "s") ↔ (c = 101 ∨ c = 116)) (m3 : ¬ cutS m none (some 4) = "head") (m4 : ¬ m = ")")
    (m5 : fitB m x = canB c x) (m6 : (if m = "t" then ("head t" : Str) else "head e") = (if decide (c = 116) = true then ("head t" : Str) else ("head e" : Str))) : stepY (outL bs) m x = (itemX bs c x).map dueS := by
  have hl := r.len
  have hcn := r.cntO
  unfold itemX stepY
  rw [if_neg (fun z => m1 z.1)]
  by_cases ex : x = "(" ∧ (c = 101 ∨ c = 116)
  · have e2 : (m = "e" ∨ m = "t" ∨ m = "s") ∧ x = "(" := ⟨m2.mpr ex.2, ex.1⟩
    rw [if_pos e2, if_pos ex, if_neg m1, m6, List.nil_append]
    have k : cnt (outL bs ++ [(")" : Str), if decide (c = 116) = true then "head t" else "head e"]) = bs.length + 1 := by
      rw [cnt_app, hcn]
      congr 1
      cases decide (c = 116)
      · exact (by decide +kernel : cnt [(")" : Str), "head e"] = 1)
      · exact (by decide +kernel : cnt [(")" : Str), "head t"] = 1)
    rw [k]
    by_cases n40 : bs.length = 40
    · rw [if_pos (by omega), if_pos n40]
      rfl
    · rw [if_neg (by omega), if_neg n40]
      show some _ = some (dueL (bs ++ [⟨decide (c = 116), none, []⟩]))
      rw [due_open]
  · rw [if_neg (fun z => ex ⟨z.2, m2.mp z.1⟩), if_neg ex, if_neg m3, if_neg (fun z => m1 z.1), m5]
    cases h : canB c x with
    | false =>
      rw [if_pos ⟨rfl, fun z => m4 z.1⟩, if_neg (by decide)]
      rfl
    | true =>
      rw [if_neg (fun z => by cases z.1), if_pos rfl]
      show some _ = some (dueS (keepP bs _))
      rw [due_keep hh]
theorem sgm_e : sg 101 = ("e" : Str) := by decide +kernel
theorem sgm_t : sg 116 = ("t" : Str) := by decide +kernel
theorem sgm_k : sg 107 = ("k" : Str) := by decide +kernel
theorem sgm_i : sg 105 = ("i" : Str) := by decide +kernel
theorem sgm_n : sg 110 = ("n" : Str) := by decide +kernel
theorem sgm_w : sg 119 = ("w" : Str) := by decide +kernel
theorem sgm_s' : sg 115 = ("s" : Str) := by decide +kernel
theorem fit_sg {c : Nat} (hc : c = 101 ∨ c = 116 ∨ c = 107 ∨ c = 105 ∨ c = 110 ∨ c = 119) (x : Str) : fitB (sg c) x = canB c x := by
  rcases hc with rfl | rfl | rfl | rfl | rfl | rfl
  · rw [sgm_e]
    exact fit_e x
  · rw [sgm_t, fit_no (.inr (.inl rfl))]
    rfl
  · rw [sgm_k]
    unfold fitB canB
    rw [if_neg (by decide +kernel), if_neg (by decide +kernel), if_pos (.inl rfl), if_neg (by decide), if_pos rfl, decide_eq_true rfl, Bool.true_or, Bool.and_true]
  · rw [sgm_i]
    unfold fitB canB
    rw [if_neg (by decide +kernel), if_neg (by decide +kernel), if_pos (.inr rfl), if_neg (by decide), if_neg (by decide), if_pos rfl, decide_eq_false (by decide +kernel), Bool.false_or]
  · rw [sgm_n]
    unfold fitB canB
    rw [if_pos rfl]
    rfl
  · rw [sgm_w]
    unfold fitB canB
    rw [if_neg (by decide +kernel), if_pos rfl]
    rfl
theorem simA {bs : List Br} {ws : List Str} {c : Nat} (r : Rec bs ws) (hh : ∀ b ∈ bs, b.head ≠ none) (hc : c = 101 ∨ c = 116 ∨ c = 107 ∨ c = 105 ∨ c = 110 ∨ c = 119) (x : Str) : stepY (outL bs) (sg c) x = (itemX bs c x).map dueS := by
  have m5 := fit_sg hc x
  rcases hc with rfl | rfl | rfl | rfl | rfl | rfl
  all_goals
    refine simG r hh (by decide +kernel) ?_ (by decide +kernel) (by decide +kernel) m5 (by decide +kernel)
    first
      | exact ⟨fun _ => .inl rfl, fun _ => .inl (by decide +kernel)⟩
      | exact ⟨fun _ => .inr rfl, fun _ => .inr (.inl (by decide +kernel))⟩
      | exact ⟨fun z => absurd z (by decide +kernel), fun z => absurd z (by decide)⟩
theorem simS {bs : List Br} {ws d0 : List Str} (r : Rec bs ws) (hh : ∀ b ∈ bs, b.head ≠ none) (e : d0 ++ [("s" : Str)] = outL bs) {x : Str} (nx : ¬ x = ")") : stepY d0 "s" x = (itemX bs 101 x).map dueS := by
  have hl := r.len
  have hcn := r.cntO
  unfold itemX stepY
  rw [if_neg (fun z => nx z.2)]
  by_cases ex : x = "("
  · have e1 : (if ("s" : Str) = "s" then [("s" : Str)] else []) = [("s" : Str)] := if_pos rfl
    have e2 : (if ("s" : Str) = "t" then ("head t" : Str) else ("head e" : Str)) = "head e" := if_neg (by decide +kernel)
    rw [if_pos ⟨.inr (.inr rfl), ex⟩, e1, e2, ← List.append_assoc, e]
    rw [if_pos (⟨ex, .inl rfl⟩ : x = "(" ∧ (101 = 101 ∨ 101 = 116))]
    have k : cnt (outL bs ++ [(")" : Str), "head e"]) = bs.length + 1 := by
      rw [cnt_app, hcn]
      congr 1
    rw [k]
    by_cases n40 : bs.length = 40
    · rw [if_pos (by omega), if_pos n40]
      rfl
    · rw [if_neg (by omega), if_neg n40]
      show some _ = some (dueL (bs ++ [⟨false, none, []⟩]))
      rw [due_open]
      rfl
  · rw [if_neg (fun z => ex z.2), if_neg (by decide +kernel), fit_e]
    rw [if_neg (show ¬ (x = "(" ∧ (101 = 101 ∨ 101 = 116)) from fun z => ex z.1)]
    cases h : canB 101 x with
    | false =>
      rw [if_neg (fun z => by cases z.2), if_pos ⟨fit_no (.inr (.inr rfl)) x, fun z => nx z.2⟩]
      rfl
    | true =>
      rw [if_pos ⟨rfl, rfl⟩, if_pos rfl, e]
      show some _ = some (dueS (keepP bs _))
      rw [due_keep hh]
/-- the law's own reader does as the program's -/
theorem sim {bs : List Br} {ws : List Str} (r : Rec bs ws) (x : Str) : ∃ d0 m, dueL bs = d0 ++ [m] ∧ stepY d0 m x = (stepX bs x).map dueS := by
  rcases List.eq_nil_or_concat bs with e | ⟨b0, b, e⟩
  · subst e
    refine ⟨[], "e", rfl, ?_⟩
    have z := simA r (fun _ z => nomatch z) (.inl rfl) x
    rw [sgm_e] at z
    exact z
  · rw [List.concat_eq_append] at e
    subst e
    have hh0 := r.heads b0 b rfl
    obtain ⟨w0, s, r0, l, w, q⟩ := r.unsnoc
    have hcn0 := r0.cntO
    rw [dueL_snoc, stepX_snoc]
    rcases q with ⟨rfl, rfl⟩ | ⟨hh, sl, found, fs, rfl, m, n, q, t, rfl⟩
    · refine ⟨outL b0 ++ [(")" : Str)], if s = true then "head t" else "head e", by rw [List.append_assoc]; rfl, ?_⟩
      have c0 : cnt (outL b0 ++ [(")" : Str)]) = b0.length + 1 := by
        rw [cnt_app, hcn0]
        congr 1
      have hm : ∀ s : Bool, ¬ ((if s = true then ("head t" : Str) else "head e") = "s") ∧ ¬ ((if s = true then ("head t" : Str) else "head e") = "e" ∨ (if s = true then ("head t" : Str) else "head e") = "t" ∨ (if s = true then ("head t" : Str) else "head e") = "s") ∧ cutS (if s = true then ("head t" : Str) else "head e") none (some 4) = "head" ∧ decide (cutS (if s = true then ("head t" : Str) else "head e") (some 5) none = "t") = s := by
        intro s
        cases s <;> exact ⟨by decide +kernel, by decide +kernel, by decide +kernel, by decide +kernel⟩
      obtain ⟨h1, h2, h3, h4⟩ := hm s
      generalize (if s = true then ("head t" : Str) else "head e") = mk at h1 h2 h3 h4
      unfold stepY
      rw [if_neg (fun z => h1 z.1), if_neg (fun z => h2 z.1), if_pos h3, c0]
      unfold topX
      simp only
      unfold headX slotsL
      rw [h4]
      cases hf : (tbS s).find? (fun p => decide (p.1 = x)) with
      | none =>
        simp only [Option.map_none, Option.getD_none]
        rw [if_pos (.inl trivial)]
      | some p =>
        have m := List.mem_of_find?_eq_some hf
        have ne := slots_some _ (tbS_all _ m)
        have ex : p.1 = x := by
          have z := List.find?_some hf
          simpa using z
        simp only [Option.map_some, Option.getD_some]
        by_cases nx : x ∈ leafHeads
        · rw [if_pos (.inr (.inr nx)), if_pos nx]
          rfl
        · rw [if_neg nx]
          by_cases t : 116 ∈ p.2.cps.toList ∧ b0.length + 1 = 40
          · rw [if_pos (.inr (.inl ⟨t.2, t.1⟩)), if_pos t]
            rfl
          · rw [if_neg (by rintro (z | z | z); exact ne z; exact t ⟨z.2, z.1⟩; exact nx z), if_neg t]
            show some _ = some (dueL (b0 ++ [⟨s, some (x, p.2), []⟩]))
            rw [dueL_snoc]
            have e0 : cur p.2.cps.toList 0 = 0 := by
              unfold cur
              split
              · exact Nat.min_eq_left (Nat.zero_le _)
              · rfl
            show _ = some (outL b0 ++ restL p.2.cps.toList 0)
            unfold restL
            rw [e0, List.drop_zero, List.append_assoc]
            rfl
    · have mA := tbS_all _ m
      have dk : ∀ d, dueS (keepP b0 d) = outL b0 := fun d => due_keep hh0
      have hh1 : ∀ y ∈ b0 ++ [(⟨s, some (hh, sl), found⟩ : Br)], y.head ≠ none := fun y hy => by
        rcases List.mem_append.mp hy with z | z
        · exact hh0 y z
        · rw [List.mem_singleton.mp z]
          exact fun z => nomatch z
      have eB : dueB ⟨s, some (hh, sl), found⟩ 0 = restL sl.cps.toList found.length := rfl
      have eO : outL (b0 ++ [(⟨s, some (hh, sl), found⟩ : Br)]) = outL b0 ++ restL sl.cps.toList (found.length + 1) := outL_snoc _ _
      rw [eB]
      unfold topX
      simp only
      by_cases hS : sl.cps.toList.getLast? = some 115 ∧ sl.cps.toList.length - 1 ≤ found.length
      · -- many trees
        have w1 : wantAt sl.cps.toList found.length = some 101 := by
          unfold wantAt
          rw [if_pos hS]
        have ck : ∀ k, sl.cps.toList.length - 1 ≤ k → restL sl.cps.toList k = [(")" : Str), "s"] := fun k hk => by
          obtain ⟨c1, e⟩ : ∃ c1, sl.cps.toList = c1 ++ [115] := by
            have ne : sl.cps.toList ≠ [] := fun z => by
              rw [z] at hS
              cases hS.1
            refine ⟨sl.cps.toList.dropLast, ?_⟩
            have e := List.dropLast_concat_getLast ne
            have z := hS.1
            rw [List.getLast?_eq_some_getLast ne] at z
            rw [Option.some.inj z] at e
            exact e.symm
          unfold restL cur
          rw [if_pos hS.1, Nat.min_eq_right hk, e]
          have e1 : (c1 ++ [115]).length - 1 = c1.length := by simp
          rw [e1, List.drop_left]
          show [(")" : Str), sg 115] = _
          rw [sgm_s']
        rw [w1, ck _ hS.2]
        refine ⟨outL b0 ++ [(")" : Str)], "s", by rw [List.append_assoc]; rfl, ?_⟩
        simp only
        by_cases ex : x = ")"
        · unfold stepY
          rw [if_pos ⟨rfl, ex⟩, if_pos ⟨decide_eq_true hS, ex⟩, List.dropLast_concat]
          show some _ = some (dueS (keepP b0 _))
          rw [dk]
        · rw [if_neg (fun z => ex z.2)]
          refine simS r hh1 ?_ ex
          rw [eO, ck _ (by omega), List.append_assoc]
          rfl
      · cases hw : wantAt sl.cps.toList found.length with
        | none =>
          -- all is there
          have lk : sl.cps.toList.length ≤ found.length := by
            unfold wantAt at hw
            rw [if_neg hS] at hw
            exact List.getElem?_eq_none_iff.mp hw
          have n115 : ¬ sl.cps.toList.getLast? = some 115 := fun z => hS ⟨z, by omega⟩
          have eR : restL sl.cps.toList found.length = [(")" : Str)] := by
            unfold restL cur
            rw [if_neg n115, List.drop_eq_nil_iff.mpr lk]
            rfl
          rw [eR]
          refine ⟨outL b0, ")", rfl, ?_⟩
          simp only
          unfold stepY
          rw [if_neg (fun z => absurd z.1 (by decide +kernel)), if_neg (fun z => absurd z.1 (by decide +kernel)), if_neg (by decide +kernel), if_neg (fun z => absurd z.1 (by decide +kernel)), fit_no (.inl rfl)]
          by_cases ex : x = ")"
          · rw [if_neg (fun z => z.2 ⟨rfl, ex⟩), if_pos ex]
            show some _ = some (dueS (keepP b0 _))
            rw [dk]
          · rw [if_pos ⟨rfl, fun z => ex z.2⟩, if_neg ex]
            rfl
        | some c =>
          have hx := wantAt_lt hw hS
          have lt := (List.getElem?_eq_some_iff.mp hx).1
          have iS : ¬ (isS sl found.length = true ∧ x = ")") := fun z => hS (of_decide_eq_true z.1)
          simp only
          rw [if_neg iS]
          have c115 : c ≠ 115 := fun z => by
            have ol := only_last _ mA
            simp only at ol
            subst z
            have e := List.getElem?_eq_some_iff.mp hx
            by_cases ll : found.length = sl.cps.toList.length - 1
            · refine hS ⟨?_, by omega⟩
              rw [List.getLast?_eq_getElem?, ← ll]
              exact hx
            · refine ol (List.mem_of_getElem? (i := found.length) ?_)
              rw [List.getElem?_dropLast, if_pos (by omega)]
              exact hx
          have hc : c = 101 ∨ c = 116 ∨ c = 107 ∨ c = 105 ∨ c = 110 ∨ c = 119 := by
            rcases slot_codes _ mA c (List.mem_of_getElem? hx) with z | z | z | z | z | z | z
            · exact .inl z
            · exact .inr (.inl z)
            · exact .inr (.inr (.inl z))
            · exact .inr (.inr (.inr (.inl z)))
            · exact .inr (.inr (.inr (.inr (.inl z))))
            · exact .inr (.inr (.inr (.inr (.inr z))))
            · exact absurd z c115
          have k0 : cur sl.cps.toList found.length = found.length := by
            unfold cur
            split
            · rename_i z
              exact Nat.min_eq_left (by have : ¬ sl.cps.toList.length - 1 ≤ found.length := fun y => hS ⟨z, y⟩; omega)
            · rfl
          have k1 : cur sl.cps.toList (found.length + 1) = found.length + 1 := by
            unfold cur
            split
            · rename_i z
              exact Nat.min_eq_left (by have : ¬ sl.cps.toList.length - 1 ≤ found.length := fun y => hS ⟨z, y⟩; omega)
            · rfl
          have eR : restL sl.cps.toList found.length = restL sl.cps.toList (found.length + 1) ++ [sg c] := by
            unfold restL
            rw [k0, k1, List.drop_eq_getElem_cons lt]
            obtain ⟨_, e⟩ := List.getElem?_eq_some_iff.mp hx
            rw [e, List.map_cons, List.reverse_cons]
            rfl
          refine ⟨outL b0 ++ restL sl.cps.toList (found.length + 1), sg c, by rw [eR, List.append_assoc], ?_⟩
          rw [← eO]
          exact simA r hh1 hc x
/-! words that are refused -/
def spOr (a b : Sp) : Sp := fun vs H Q E => a vs H Q E ∨ b vs H Q E
theorem fn_or {P : Program} {w : World} {K : PySem.W.Frag} {mg : Str → Option Value} {base : Heap} {CX : CXT} {k : Nat} {f : Addr} {fd : FuncData} {ps : List Str} {a b : Sp} (F : FnOk P w K mg base CX k f fd ps a) (G : FnOk P w K mg base CX k f fd ps b) : FnOk P w K mg base CX k f fd ps (spOr a b) :=
  ⟨fun vs H Q E h => h.elim (F.len vs H Q E) (G.len vs H Q E), fun A outer s H args us vs Q E hr he hb hv h => h.elim (F.run A outer s H args us vs Q E hr he hb hv) (G.run A outer s H args us vs Q E hr he hb hv)⟩
def keyS : Value → Option Str
  | .str x _ => some x
  | _ => none
theorem ns_absent {K : PySem.W.Frag} {a : Addr} {es : Array DictEntry} {n : Nat} {names : List Str} {x : Str} (l : K.lookup a = some ⟨.type "dict", none, .dict es n, #[]⟩) (k : es.toList.map (fun e => keyS e.key) = names.map some) (nx : x ∉ names) : PySem.W.nsIn K a x = some none := by
  unfold PySem.W.nsIn
  rw [l]
  simp only
  have hk : ∀ e ∈ es.toList, ∃ y t, e.key = .str y t ∧ y ∈ names := fun e he => by
    have m : keyS e.key ∈ names.map some := by
      rw [← k]
      exact List.mem_map.mpr ⟨e, he, rfl⟩
    obtain ⟨y, hy, ey⟩ := List.mem_map.mp m
    cases hq : e.key with
    | str z t =>
      rw [hq] at ey
      exact ⟨z, t, rfl, by rw [← Option.some.inj ey]; exact hy⟩
    | _ =>
      rw [hq] at ey
      cases ey
  have h1 : es.toList.find? (·.key.isStr x) = none := by
    refine List.find?_eq_none.mpr fun e he => ?_
    obtain ⟨y, t, e1, m⟩ := hk e he
    rw [e1]
    intro z
    have z : (y == x) = true := z
    rw [beq_iff_eq] at z
    exact nx (z ▸ m)
  have h2 : es.toList.any (·.refKey) = false := by
    refine List.any_eq_false.mpr fun e he => ?_
    obtain ⟨y, t, e1, m⟩ := hk e he
    unfold PySem.DictEntry.refKey
    rw [e1]
    exact fun z => nomatch z
  rw [h1, h2]
  rfl
/-- the two tables have no other words -/
structure Tab0 (K : PySem.W.Frag) (aE aT : Addr) : Prop where
  aE : ∀ x, x ∉ exL.map Prod.fst → PySem.W.nsIn K aE x = some none
  aT : ∀ x, x ∉ teL.map Prod.fst → PySem.W.nsIn K aT x = some none
theorem find_no {l : List (Str × Str)} {x : Str} (h : l.find? (fun p => decide (p.1 = x)) = none) : x ∉ l.map Prod.fst := fun m => by
  obtain ⟨p, hp, e⟩ := List.mem_map.mp m
  have z := List.find?_eq_none.mp h p hp
  simp only [decide_eq_true_eq] at z
  exact z e
def spSorts0 : Sp := fun vs H Q _ => ∃ x s, vs = [.str x, .str (wantedS s)] ∧ (tbS s).find? (fun p => decide (p.1 = x)) = none ∧ Q .non H
section
variable {P : Program} {w : World} {K : PySem.W.Frag} {mg : Str → Option Value} {base : Heap} {f fS fM fN : Addr} {fd dS dM dN : FuncData} {aE aT : Addr} {esE esT : Array DictEntry} {nE nT : Nat} {C CBr : Addr}
theorem ok_sorts0 {k : Nat} (F : Fun K "sorts_behind" "sorts_behind" sSorts f fd) (TB : Tab K w mg aE esE nE aT esT nT) (T0 : Tab0 K aE aT) : FnOk P w K mg base CX0 (k + 1) f fd ["word", "wanted"] spSorts0 := by
  refine F.ok scSorts (fun vs H Q E h => ?_) (fun cdv A outer s H vs Q E hr h => ?_)
  · obtain ⟨x, s, rfl, _⟩ := h
    rfl
  obtain ⟨x, st, rfl, m, q⟩ := h
  refine ⟨_, pss_one (ps_ret (pe_ifExp (pt_cmpR op_eq (pv 1) pe_str (nomark _)) (pe_kget TB.dT (pe_glob (by rfl) TB.mT (v := .ref aT) rfl) (pv 0) ⟨rfl, rfl, rfl, rfl⟩) (pe_kget TB.dE (pe_glob (by rfl) TB.mE (v := .ref aE) rfl) (pv 0) ⟨rfl, rfl, rfl, rfl⟩))), ?_⟩
  refine ⟨_, rfl, rfl, _, rfl, ?_⟩
  cases st with
  | false => exact iteF' (by decide +kernel) ⟨rfl, _, rfl, x, _, .non, rfl, T0.aE x (find_no m), rfl, q⟩
  | true => exact iteT' (by decide +kernel) ⟨rfl, _, rfl, x, _, .non, rfl, T0.aT x (find_no m), rfl, q⟩
def spHead0 (K : PySem.W.Frag) (C CBr : Addr) : Sp := fun vs H Q _ => ∃ r bs s x l, vs = [.ref r, .str x] ∧ RdAt K C CBr H r l ⟨bs ++ [⟨s, none, []⟩], none⟩ ∧ headX bs s x = none ∧ ∀ H', Same H H' → Q (.bl false) H'
theorem want_eq {st : Bool} {h sl : Str} (m : (h, sl) ∈ tbS st) : wantedS st = wantS h := by
  unfold wantS
  cases st with
  | true =>
    have z := isT_t _ (show (h, sl) ∈ teL from m)
    simp only at z
    rw [z]
    rfl
  | false =>
    have z := isT_e _ (show (h, sl) ∈ exL from m)
    simp only at z
    rw [z]
    rfl
theorem in_sorts (cs : List Nat) : inV (.str "test") (cs.map fun c => V.str (sortS c)) = decide (116 ∈ cs) := by
  induction cs with
  | nil => rfl
  | cons c cs ih =>
    have e1 : inV (.str "test") ((c :: cs).map fun c => V.str (sortS c)) = (eqV (.str (sortS c)) (.str "test") || inV (.str "test") (cs.map fun c => V.str (sortS c))) := rfl
    rw [e1, ih]
    have e2 : eqV (.str (sortS c)) (.str "test") = decide (c = 116) := by
      show (sortS c == ("test" : Str)) = _
      by_cases z : c = 116
      · subst z
        decide +kernel
      · rw [decide_eq_false z]
        refine beq_eq_false_iff_ne.mpr ?_
        unfold sortS
        repeat' split
        all_goals first
          | exact absurd (by assumption) z
          | decide +kernel
    rw [e2]
    by_cases z : c = 116
    · rw [z]
      simp
    · rw [decide_eq_false z, Bool.false_or]
      by_cases y : 116 ∈ cs
      · rw [decide_eq_true y, decide_eq_true (List.mem_cons_of_mem _ y)]
      · rw [decide_eq_false y, decide_eq_false (fun x => (List.mem_cons.mp x).elim (fun q => z q.symm) y)]
theorem ok_head0 {k : Nat} (F : Fun K "read_head" "read_head" sHead f fd) (T : CR K mg C) (TB : CB K mg CBr) (mn : mg "len" = none) {tk : Tok} (mM : mg "MOST_BRACKETS" = some (.int 40 tk)) (GS : Dn P w K mg base 1 "sorts_behind" ["word", "wanted"] (spOr (spSorts K) spSorts0) fS dS) :
    FnOk P w K mg base CX0 (k + 2) f fd ["reader", "word"] (spHead0 K C CBr) := by
  refine F.ok scHead (fun vs H Q E h => ?_) (fun cdv A outer s H vs Q E hr h => ?_)
  · obtain ⟨r, bs, s, x, l, rfl, _⟩ := h
    rfl
  obtain ⟨r, bs, st, x, l, rfl, hR, hx, q⟩ := h
  have hr1 : Room 1 _ := hr.mono (by omega)
  refine ⟨_, pss_cons (ps_set (i := 2) scHead.nd rfl (.inl rfl) (pe_ix ix_list (pe_fld (pv 0) rfl) (pe_un un_neg pe_int) (fun _ _ => rfl)))
    (pss_cons (ps_set (i := 3) scHead.nd rfl (.inl rfl) (pe_call GS.ok hr1 (by rfl) GS.mg GS.kp GS.bd .nil pass0 (pa_cons (pv 1) (pa_cons (pe_fld (pv 2) rfl) pa_nil))))
    (pss_cons (ps_if (PW.pt (pw_or (pt_cmp (pc_isN (pv 3))) (pw_or1 (pt_cmpR op_in_seq (pv 1) (pe_tup (pa_cons pe_str (pa_cons pe_str (pa_cons pe_str pa_nil)))) rfl)))) (pss_one (ps_ret pe_bl)) pss_nil)
    (pss_cons (ps_if (PW.pt (pw_and (pt_cmpR op_in_seq pe_str (pv 3) rfl) (pw_and1 (pt_cmpR op_eq (pe_callB call_len_seq (by rfl) mn PySem.boot_len (pa_cons (pe_fld (pv 0) rfl) pa_nil)) (pe_glob (by rfl) mM (v := .int 40) ⟨_, rfl⟩) (nomark _))))) (pss_one (ps_ret pe_bl)) pss_nil)
    (pss_cons (ps_fld (pv 2) (pv 1) rfl)
    (pss_cons (ps_fld (pv 2) (pv 3) rfl)
    (pss_one (ps_ret pe_bl))))))), ?_⟩
  obtain ⟨dx, fs, L, t, as, fas, el, h1, h2, h3, h4, h5, h6⟩ := hR.ex
  have lbs := h4.len
  obtain ⟨as2, fas2, a, fa, rfl, rfl, g1, g2⟩ := h4.unsnoc
  obtain ⟨dx2, fs2, hv, sv, vs, k1, k2, k3, k4, k5, k6, k7⟩ := g2.ex
  have al : atI ((as2 ++ [a]).map V.ref) (-1) = some (.ref a) := by
    rw [List.map_append]
    exact atI_last _ _
  refine ⟨_, rfl, r, C, dx, fs, _, rfl, h1, T.cl, T.nb, h2.b, 1, rfl, L, _, -1, .ref a, rfl, rfl, SqL.of h3, al, ?_⟩
  refine ⟨_, rfl, _, rfl, a, CBr, dx2, fs2, _, rfl, k1, TB.cl, TB.nw, k2.w, ?_⟩
  unfold headX at hx
  cases hf : (tbS st).find? (fun p => decide (p.1 = x)) with
  | none =>
    refine .inr ⟨x, st, rfl, hf, ?_⟩
    exact ⟨_, rfl, _, rfl, iteT (q H (Same.refl H))⟩
  | some p =>
    rw [hf] at hx
    simp only at hx
    have m := List.mem_of_find?_eq_some hf
    have ex : p.1 = x := by
      have z := List.find?_some hf
      simpa using z
    obtain ⟨h, sl⟩ := p
    simp only at ex hx m
    subst ex
    have mA := tbS_all _ m
    refine .inl ⟨h, sl, by rw [← want_eq m]; rfl, mA, fun sa sq => ?_⟩
    refine ⟨_, rfl, _, rfl, iteF ?_⟩
    refine ⟨_, rfl, few (by simp), fun T1 hT1 => ⟨T1, _, rfl, .inr (.inl (.inl upd_same)), rfl, rfl, _, rfl, ?_⟩⟩
    have s1 : Same H (upd H T1 (.tup [.str "int", .str "atom", .str "name"])) := same_new hT1 _
    refine ite2 (fun cc => q _ s1) (fun cc => ?_)
    have n : h ∉ leafHeads := fun z => by
      apply cc
      unfold leafHeads at z
      simp only [List.mem_cons, List.not_mem_nil, or_false] at z
      rcases z with rfl | rfl | rfl <;> decide +kernel
    rw [if_neg n] at hx
    have t40 : 116 ∈ sl.cps.toList ∧ bs.length + 1 = 40 := Decidable.byContradiction fun z => by
      rw [if_neg z] at hx
      cases hx
    have fl : (sortsV sl).all flatV = true := by
      unfold sortsV
      rw [List.all_map]
      exact List.all_eq_true.mpr fun _ _ => rfl
    have la2 : ((as2 ++ [a]).map V.ref).length = bs.length + 1 := by
      rw [List.length_map]
      have := lbs.1
      simpa using this
    refine ⟨_, rfl, sa, _, rfl, .inr (sq _), rfl, fl, _, rfl, iteT' (by unfold sortsV; rw [in_sorts]; exact decide_eq_true t40.1) ?_⟩
    refine ⟨_, rfl, r, C, dx, fs, _, rfl, s1 _ _ h1, T.cl, T.nb, h2.b, L, _, rfl, .inl (SqL.of (s1 _ _ h3)), rfl, _, rfl, ?_⟩
    rw [la2, t40.2]
    exact iteT' (by decide) (q _ s1)
end
theorem cut1_q (x : Str) : (cutS x none (some 1) = "'") ↔ x.cps.toList.head? = some 39 := by
  have e : (cutS x none (some 1)).cps.toList = x.cps.toList.take 1 := by
    unfold cutS
    rw [HT.sIx_none, show (1 : Int) = ((1 : Nat) : Int) from rfl, HT.sIx_nat]
    show (List.take (min 1 x.length - 0) (List.drop 0 x.cps.toList)) = _
    rw [List.drop_zero, Nat.sub_zero]
    have l : x.length = x.cps.toList.length := by simp [len_cps]
    rw [l]
    cases x.cps.toList with
    | nil => rfl
    | cons a b => simp
  constructor
  · intro h
    rw [h, cps_q] at e
    cases q : x.cps.toList with
    | nil =>
      rw [q] at e
      cases e
    | cons a b =>
      rw [q] at e
      rw [List.take_succ_cons, List.take_zero] at e
      rw [← (List.cons.inj e).1]
      rfl
  · intro h
    refine str_ext ?_
    rw [e, cps_q]
    cases q : x.cps.toList with
    | nil =>
      rw [q] at h
      cases h
    | cons a b =>
      rw [q] at h
      rw [List.take_succ_cons, List.take_zero, Option.some.inj h]
theorem cut_len (x : Str) (lo hi : Option Int) : (cutS x lo hi).length ≤ x.length := by
  have l : ∀ y : Str, y.length = y.cps.toList.length := fun y => by simp [len_cps]
  rw [l, l x]
  unfold cutS
  simp only [List.length_take, List.length_drop]
  omega
def codes (c : Nat) : Prop := c = 101 ∨ c = 116 ∨ c = 107 ∨ c = 105 ∨ c = 110 ∨ c = 119
def spCan0 : Sp := fun vs H Q _ => ∃ x c, vs = [.str x, .str (sortS c)] ∧ codes c ∧ canB c x = false ∧ x.length ≤ 16000000 ∧ ∀ H', Same H H' → Q (.bl false) H'
def spItem0 (K : PySem.W.Frag) (C CBr : Addr) : Sp := fun vs H Q _ => ∃ r x c bs l, vs = [.ref r, .str x, .str (sortS c)] ∧ RdAt K C CBr H r l ⟨bs, none⟩ ∧ codes c ∧ itemX bs c x = none ∧ x.length ≤ 16000000 ∧ ∀ H', Same H H' → Q (.bl false) H'
section
variable {P : Program} {w : World} {K : PySem.W.Frag} {mg : Str → Option Value} {base : Heap} {f fK fB fL fC fM fN : Addr} {fd dK dB dL dC dM dN : FuncData} {C CBr : Addr}
theorem ok_can0 {k : Nat} (F : Fun K "can_be" "can_be" sCan f fd) (GM : Dn P w K mg base 1 "is_number" ["word"] spNum fM dM) (GN : Dn P w K mg base 1 "is_name" ["thing"] spName fN dN) : FnOk P w K mg base CX0 (k + 2) f fd ["word", "sort"] spCan0 := by
  refine F.ok scCan (fun vs H Q E h => ?_) (fun cdv A outer s H vs Q E hr h => ?_)
  · obtain ⟨x, c, rfl, _⟩ := h
    rfl
  obtain ⟨x, c, rfl, hc, hb, hx, q⟩ := h
  have hr1 : Room 1 _ := hr.mono (by omega)
  refine ⟨_, pss_cons (ps_if (pt_cmpR op_eq (pv 1) pe_str (nomark _)) (pss_one (ps_ret (pe_or (pe_call GM.ok hr1 (by rfl) GM.mg GM.kp GM.bd .nil pass0 (pa_cons (pv 0) pa_nil)) (pe_or (pe_call GN.ok hr1 (by rfl) GN.mg GN.kp GN.bd .nil pass0 (pa_cons (pv 0) pa_nil)) (pe_one
        (pe_and (pe_cmpR op_eq (pe_slice sl_str (pv 0) po_none (po_some pe_int)) pe_str (nomark _)) (pe_one (pe_call GN.ok hr1 (by rfl) GN.mg GN.kp GN.bd .nil pass0 (pa_cons (pe_slice sl_str (pv 0) (po_some pe_int) po_none) pa_nil))))))))) pss_nil)
    (pss_cons (ps_if (pt_cmpR op_eq (pv 1) pe_str (nomark _)) (pss_one (ps_ret (pe_call GM.ok hr1 (by rfl) GM.mg GM.kp GM.bd .nil pass0 (pa_cons (pv 0) pa_nil)))) pss_nil)
    (pss_cons (ps_if (pt_cmpR op_eq (pv 1) pe_str (nomark _)) (pss_one (ps_ret (pe_and (pe_call GM.ok hr1 (by rfl) GM.mg GM.kp GM.bd .nil pass0 (pa_cons (pv 0) pa_nil)) (pe_one (pe_cmpR op_ne (pe_ix ix_str (pv 0) pe_int (fun _ _ => rfl)) pe_str (nomark _)))))) pss_nil)
    (pss_cons (ps_if (pt_cmpR op_eq (pv 1) pe_str (nomark _)) (pss_one (ps_ret (pe_cmpR op_in_seq (pv 0) (pe_tup (pa_cons pe_str (pa_cons pe_str (pa_cons pe_str pa_nil)))) rfl))) pss_nil)
    (pss_one (ps_ret (pe_and (pe_cmpR op_eq (pv 1) pe_str (nomark _)) (pe_one (pe_call GN.ok hr1 (by rfl) GN.mg GN.kp GN.bd .nil pass0 (pa_cons (pv 0) pa_nil))))))))), ?_⟩
  unfold canB at hb
  rcases hc with rfl | rfl | rfl | rfl | rfl | rfl
  · rw [if_pos rfl] at hb
    simp only [Bool.or_eq_false_iff] at hb
    obtain ⟨b1, b2, b3⟩ := hb
    refine ⟨_, rfl, rfl, _, rfl, iteT' (by decide +kernel) ⟨_, rfl, x, rfl, hx, fun H1 s1 => ⟨_, rfl, iteF' b1 ⟨_, rfl, x, rfl, hx, fun H2 s2 => ⟨_, rfl, iteF' b2 ?_⟩⟩⟩⟩⟩
    refine ⟨_, rfl, _, rfl, _, rfl, few3 hx, rfl, _, rfl, ite2 (fun cc => ?_) (fun cc => ?_)⟩
    · have e39 := (cut1_q x).mp (V.str.inj (of_decide_eq_true cc))
      unfold qName at b3
      rw [decide_eq_true e39, Bool.true_and] at b3
      refine ⟨_, rfl, _, rfl, _, rfl, few3 hx, _, rfl, Nat.le_trans (cut_len _ _ _) hx, fun H3 s3 => ?_⟩
      rw [b3]
      exact q H3 (s1.trans (s2.trans s3))
    · exact q H2 (s1.trans s2)
  · refine ⟨_, rfl, rfl, _, rfl, iteF' (by decide +kernel) ⟨_, rfl, rfl, _, rfl, iteF' (by decide +kernel) ⟨_, rfl, rfl, _, rfl, iteF' (by decide +kernel) ⟨_, rfl, rfl, _, rfl, iteF' (by decide +kernel) ⟨_, rfl, rfl, _, rfl, iteF' (by decide +kernel) ?_⟩⟩⟩⟩⟩
    exact q H (Same.refl H)
  · rw [if_neg (by decide), if_pos rfl] at hb
    refine ⟨_, rfl, rfl, _, rfl, iteF' (by decide +kernel) ⟨_, rfl, rfl, _, rfl, iteT' (by decide +kernel) ⟨_, rfl, x, rfl, hx, fun H1 s1 => ?_⟩⟩⟩
    rw [hb]
    exact q H1 s1
  · rw [if_neg (by decide), if_neg (by decide), if_pos rfl] at hb
    refine ⟨_, rfl, rfl, _, rfl, iteF' (by decide +kernel) ⟨_, rfl, rfl, _, rfl, iteF' (by decide +kernel) ⟨_, rfl, rfl, _, rfl, iteT' (by decide +kernel) ⟨_, rfl, x, rfl, hx, fun H1 s1 => ⟨_, rfl, ?_⟩⟩⟩⟩⟩
    cases hn : isNum x with
    | false => exact iteF (q H1 s1)
    | true =>
      rw [hn, Bool.true_and, decide_eq_false_iff_not, Decidable.not_not] at hb
      obtain ⟨r, er⟩ : ∃ r, x.cps.toList = 45 :: r := by
        cases e : x.cps.toList with
        | nil => rw [e] at hb; cases hb
        | cons a b =>
          rw [e] at hb
          rw [Option.some.inj hb]
          exact ⟨b, rfl⟩
      refine iteT ⟨_, rfl, x, 0, 45, rfl, rfl, few3 hx, by rw [er]; exact atI_nat (j := 0) rfl, rfl, ?_⟩
      have e1 : (!decide (V.str ⟨#[45]⟩ = V.str "-")) = false := by decide +kernel
      rw [e1]
      exact q H1 s1
  · rw [if_neg (by decide), if_neg (by decide), if_neg (by decide), if_neg (by decide), if_pos rfl] at hb
    refine ⟨_, rfl, rfl, _, rfl, iteF' (by decide +kernel) ⟨_, rfl, rfl, _, rfl, iteF' (by decide +kernel) ⟨_, rfl, rfl, _, rfl, iteF' (by decide +kernel) ⟨_, rfl, rfl, _, rfl, iteF' (by decide +kernel) ⟨_, rfl, rfl, _, rfl, iteT' (by decide +kernel) ⟨_, rfl, x, rfl, hx, fun H1 s1 => ?_⟩⟩⟩⟩⟩⟩
    rw [hb]
    exact q H1 s1
  · rw [if_neg (by decide), if_neg (by decide), if_neg (by decide), if_pos rfl] at hb
    refine ⟨_, rfl, rfl, _, rfl, iteF' (by decide +kernel) ⟨_, rfl, rfl, _, rfl, iteF' (by decide +kernel) ⟨_, rfl, rfl, _, rfl, iteF' (by decide +kernel) ⟨_, rfl, rfl, _, rfl, iteT' (by decide +kernel) ⟨_, rfl, few (by simp), fun T hT => ⟨T, _, rfl, .inr (.inl (.inl upd_same)), rfl, rfl, ?_⟩⟩⟩⟩⟩⟩
    have e : inV (.str x) [.str "integer", .str "atom", .str "tuple"] = false := by
      refine Bool.eq_false_iff.mpr fun z => (of_decide_eq_false hb) ?_
      simp only [inV, List.any_cons, List.any_nil, eqV, Bool.or_false, Bool.or_eq_true, beq_iff_eq] at z
      exact z.imp Eq.symm (Or.imp Eq.symm Eq.symm)
    rw [e]
    exact q _ (same_new hT _)
theorem ok_item0 {k : Nat} (F : Fun K "read_item" "read_item" sItem f fd) (T : CR K mg C) (TB : CB K mg CBr) (mn : mg "len" = none) (mi : mg "int" = none) {tk : Tok} (mM : mg "MOST_BRACKETS" = some (.int 40 tk))
    (MB : Mk K CBr fB) (GB : FnOk P w K mg base CX0 1 fB dB ["self", "wanted"] (spBIni CBr)) (bB : Binds K dB ["self", "wanted"] []) (GK : Dn P w K mg base 1 "keep" ["reader", "thing"] (spKeep K C CBr) fK dK) (GC : Dn P w K mg base 2 "can_be" ["word", "sort"] spCan0 fC dC)
    (GL : Dn P w K mg base 2 "leaf_of" ["word"] (spLeaf K) fL dL) : FnOk P w K mg base CX0 (k + 3) f fd ["reader", "word", "sort"] (spItem0 K C CBr) := by
  refine F.ok scItem (fun vs H Q E h => ?_) (fun cdv A outer s H vs Q E hr h => ?_)
  · obtain ⟨r, x, c, bs, l, rfl, _⟩ := h
    rfl
  obtain ⟨r, x, c, bs, l, rfl, hR, hc, hp, hx, q⟩ := h
  have hr1 : Room 1 _ := hr.mono (by omega)
  have hr2 : Room 2 _ := hr.mono (by omega)
  refine ⟨_, pss_cons (ps_if (PW.pt (pw_and (pt_cmpR op_eq (pv 1) pe_str (nomark _)) (pw_and1 (pt_cmpR op_in_seq (pv 2) (pe_tup (pa_cons pe_str (pa_cons pe_str pa_nil))) rfl))))
      (pss_cons (ps_if (pt_cmpR op_eq (pe_callB call_len_seq (by rfl) mn PySem.boot_len (pa_cons (pe_fld (pv 0) rfl) pa_nil)) (pe_glob (by rfl) mM (v := .int 40) ⟨_, rfl⟩) (nomark _)) (pss_one (ps_ret pe_bl)) pss_nil)
      (pss_cons (ps_expr (pe_bm PySem.F.plainAttrs_list PySem.F.slot_list_append PySem.F.type_list_append mt_append (pe_fld (pv 0) rfl) (pa_cons (pe_make MB GB hr2 (by rfl) TB.mg bB .nil pass0 (pa_cons (pv 2) pa_nil)) pa_nil)))
      (pss_one (ps_ret pe_bl)))) pss_nil)
    (pss_cons (ps_if (pt_not (pt_val (pe_call GC.ok hr2 (by rfl) GC.mg GC.kp GC.bd .nil pass0 (pa_cons (pv 1) (pa_cons (pv 2) pa_nil))))) (pss_one (ps_ret pe_bl)) pss_nil)
    (pss_cons (ps_if (pt_cmpR op_eq (pv 2) pe_str (nomark _))
      (pss_one (ps_expr (pe_call GK.ok hr1 (by rfl) GK.mg GK.kp GK.bd .nil pass0 (pa_cons (pv 0) (pa_cons (pe_call GL.ok hr2 (by rfl) GL.mg GL.kp GL.bd .nil pass0 (pa_cons (pv 1) pa_nil)) pa_nil)))))
      (pss_one (ps_expr (pe_call GK.ok hr1 (by rfl) GK.mg GK.kp GK.bd .nil pass0 (pa_cons (pv 0) (pa_cons (pe_ifExp (pt_cmpR op_in_seq (pv 2) (pe_tup (pa_cons pe_str (pa_cons pe_str pa_nil))) rfl) (pe_callTy call_int_str (by rfl) mi (by decide +kernel) (pa_cons (pv 1) pa_nil)) (pv 1)) pa_nil))))))
    (pss_one (ps_ret pe_bl)))), ?_⟩
  obtain ⟨dx, fs, L, t, as, fas, el, h1, h2, h3, h4, h5, h6⟩ := hR.ex
  have lbs : as.length = bs.length ∧ fas.length = bs.length := h4.len
  unfold itemX at hp
  by_cases ex : x = "(" ∧ (c = 101 ∨ c = 116)
  · rw [if_pos ex] at hp
    have n40 : bs.length = 40 := Decidable.byContradiction fun z => by
      rw [if_neg z] at hp
      cases hp
    obtain ⟨rfl, hc2⟩ := ex
    refine ⟨_, rfl, rfl, _, rfl, iteT' (by decide +kernel) ⟨_, rfl, few (by simp), fun T1 hT1 => ⟨T1, _, rfl, .inr (.inl (.inl upd_same)), rfl, rfl, _, rfl, iteT' ((inVv _ _ _).mpr (by rw [sortS_et]; exact hc2)) ?_⟩⟩⟩
    have s1 : Same H (upd H T1 (.tup [.str "expression", .str "test"])) := same_new hT1 _
    refine ⟨_, rfl, r, C, dx, fs, _, rfl, s1 _ _ h1, T.cl, T.nb, h2.b, L, _, rfl, .inl (SqL.of (s1 _ _ h3)), rfl, _, rfl, ?_⟩
    rw [List.length_map, lbs.1, n40]
    exact iteT' (by decide) (q _ s1)
  · rw [if_neg ex] at hp
    have hb : canB c x = false := by
      cases z : canB c x with
      | false => rfl
      | true =>
        rw [z, if_pos rfl] at hp
        cases hp
    refine ⟨_, rfl, rfl, _, rfl, ite2 (fun c1 => ?_) (fun c1 => ?_)⟩
    · have e1 : x = "(" := V.str.inj (of_decide_eq_true c1)
      have nc : ¬ (c = 101 ∨ c = 116) := fun z => ex ⟨e1, z⟩
      refine ⟨_, rfl, few (by simp), fun T1 hT1 => ⟨T1, _, rfl, .inr (.inl (.inl upd_same)), rfl, rfl, _, rfl, iteF' (Bool.eq_false_iff.mpr fun z => nc (by rw [← sortS_et]; exact (inVv _ _ _).mp z)) ?_⟩⟩
      have s1 : Same H (upd H T1 (.tup [.str "expression", .str "test"])) := same_new hT1 _
      exact ⟨_, rfl, _, rfl, x, c, rfl, hc, hb, hx, fun H2 s2 => ⟨_, rfl, iteT (q H2 (s1.trans s2))⟩⟩
    · exact ⟨_, rfl, _, rfl, x, c, rfl, hc, hb, hx, fun H2 s2 => ⟨_, rfl, iteT (q H2 s2)⟩⟩
end
/-! own errors -/
/-- an error of the class C with these attributes stands at a, its dict at d -/
def ErrD (H : Hp) (C a d : Addr) (fs : List (Str × V)) : Prop := H a = some (exo a C (some d)) ∧ H d = some (exd d fs)
theorem ErrD.up {H H' : Hp} {C a d : Addr} {fs : List (Str × V)} (s : Same H H') (h : ErrD H C a d fs) : ErrD H' C a d fs := ⟨s _ _ h.1, s _ _ h.2⟩
theorem ErrD.at {H : Hp} {C a d : Addr} {fs : List (Str × V)} (h : ErrD H C a d fs) : ErrAt H C a := .inr ⟨d, fs, h.1, h.2⟩
theorem few9 {n : Nat} (h : n ≤ 3) : n ≤ 900 := Nat.le_trans h (by decide)
/-- an __init__ that keeps its arguments in attributes of these names -/
def spIni (C : Addr) (ns : List Str) : Sp := fun vs H Q _ => ∃ (a : Addr) (ws : List V), vs = .ref a :: ws ∧ ws.length = ns.length ∧ H a = some (exo a C none) ∧
  ∀ d H', H d = none → d ≠ a → ErrD H' C a d (ns.zip ws).reverse → (∀ b o, b ≠ a → H b = some o → H' b = some o) → Q .non H'
/-- what is known of an error class with an __init__ of its own -/
structure EC (P : Program) (w : World) (K : PySem.W.Frag) (mg : Str → Option Value) (base : Heap) (nm : Str) (ns ks : List Str) (C fI : Addr) (fd : FuncData) : Prop where
  T : ExK K C
  X : XfC K C
  E : ExcC K C
  iC : PySem.W.findIn K (.ref C) "__init__" = some (some (.ref fI))
  tI : PySem.W.typeIn K (.ref fI) = some (.type "function")
  ok : FnOk P w K mg base CX0 1 fI fd ("self" :: ns) (spIni C ns)
  bd : Binds K fd ("self" :: ns) []
  mg : mg nm = some (.ref C)
  no : ∀ f ∈ ns, PySem.W.findIn K (.ref C) f = some none
section
variable {P : Program} {w : World} {K : PySem.W.Frag} {mg : Str → Option Value} {base : Heap} {C fI : Addr} {fd : FuncData}
abbrev sI2 : Stmt := inClass (topS 2) 0
theorem scI2 : FnScope ["self", "at"] ["self", "at"] (defScope sI2) := ⟨rfl, rfl, rfl, by decide +kernel, rfl, by decide +kernel, by decide +kernel⟩
theorem ok_I2 {k : Nat} (F : Fun K "__init__" "NoText.__init__" sI2 fI fd) (T : ExK K C) (no0 : PySem.W.findIn K (.ref C) "at" = some none) : FnOk P w K mg base CX0 (k + 1) fI fd ["self", "at"] (spIni C ["at"]) := by
  refine F.ok scI2 (fun vs H Q E h => ?_) (fun cdv A outer s H vs Q E hr h => ?_)
  · obtain ⟨a, ws, rfl, hl, _⟩ := h
    simp only [List.length_cons, hl]
  obtain ⟨a, ws, rfl, hl, ha, q⟩ := h
  match ws, hl with
  | [v0], _ =>
    refine ⟨_, pss_one (ps_osK (pv 0) (pv 1)), ?_⟩
    refine ⟨_, rfl, _, rfl, a, C, rfl, T, no0, .inl ⟨ha, fun dx n1 n2 => q dx _ n1 n2 ⟨upd_same, by (rw [upd_ne n2]; exact upd_same)⟩ fun b o nb hb => ?_⟩⟩
    rw [upd_ne nb, upd_ne (ne_of_none hb n1)]
    exact hb
end
/-- the error class named nm stands at C, the rest of its order of classes is bm -/
structure EL (K : PySem.W.Frag) (C : Addr) (nm : Str) (bm : List Value) (newId : String) : Prop where
  ex : ∃ q N bs sn sub ab col dd k0 k1 k2 k3 k5, K.lookup C = some (excClassObj nm q C N bs bm true sn sub ab col dd k0 k1 k2 k3 k5 newId)
section
variable {K : PySem.W.Frag} {C C' : Addr} {nm nm' : Str} {bm bm' : List Value} {newId newId' : String}
theorem EL.cd (e : EL K C nm bm newId) : ∃ cd, PySem.W.clsIn K C = some cd ∧ cd.mro = .ref C :: bm ∧ cd.name = nm ∧ cd.hasDict = true := by
  obtain ⟨q, N, bs, sn, sub, ab, col, dd, k0, k1, k2, k3, k5, h⟩ := e.ex
  exact ⟨{ name := nm, bases := bs, mro := .ref C :: bm, ns := N, qualname := q, hasDict := true, slotNames := sn, subclasses := sub, abstract := ab, collection := col, hasDel := false }, by (unfold PySem.W.clsIn; rw [h] <;> rfl), rfl, rfl, rfl⟩
theorem EL.ne (e : EL K C nm bm newId) (e' : EL K C' nm' bm' newId') (h : nm ≠ nm') : C ≠ C' := fun z => by
  obtain ⟨cd, h1, _, h2, _⟩ := e.cd
  obtain ⟨cd', h1', _, h2', _⟩ := e'.cd
  rw [z, h1'] at h1
  have q := Option.some.inj h1
  subst q
  exact h (h2.symm.trans h2')
theorem EL.ty (e : EL K C nm bm newId) : PySem.W.typeIn K (.ref C) = some (.type "type") := by
  obtain ⟨q, N, bs, sn, sub, ab, col, dd, k0, k1, k2, k3, k5, h⟩ := e.ex
  show (K.lookup C).map (·.cls) = _
  rw [h]
  rfl
theorem EL.sub (e : EL K C nm bm newId) (c : Value) : PySem.W.subIn K (.ref C) c = some ((Value.ref C :: bm).contains c) := by
  obtain ⟨cd, h1, h2, _⟩ := e.cd
  show PySem.W.mroIn K C c = _
  unfold PySem.W.mroIn
  rw [h1, Option.bind_some, h2]
  rfl
theorem EL.hd (e : EL K C nm bm newId) : PySem.W.hasDictIn K C = true := by
  obtain ⟨cd, h1, _, _, h3⟩ := e.cd
  unfold PySem.W.hasDictIn
  rw [h1]
  exact h3
theorem EL.isK (e : EL K C nm bm newId) (e' : EL K C' nm' bm' newId') : PySem.W.kitOne K (.ref C) (.ref C') = some ((Value.ref C :: bm).contains (.ref C')) := by
  unfold PySem.W.kitOne PySem.W.kitCls
  by_cases h : (Value.ref C == Value.ref C') = true
  · rw [if_pos h]
    have q := beq_iff_eq.mp h
    rw [← q]
    simp
  · rw [if_neg h]
    obtain ⟨cd, h1, _⟩ := e'.cd
    show (if ((PySem.W.clsIn K C').isSome && PySem.W.typeIn K (.ref C') == some (.type "type")) = true then PySem.W.subIn K (.ref C) (.ref C') else none) = _
    rw [h1, e'.ty, e.sub]
    simp only [Option.isSome_some, beq_self_eq_true, Bool.and_self, if_true]
theorem EL.isT (e : EL K C nm bm newId) {T : String} (m : PySem.W.kitMeta T = true) : PySem.W.kitOne K (.ref C) (.type T) = some ((Value.ref C :: bm).contains (.type T)) := by
  unfold PySem.W.kitOne PySem.W.kitCls
  rw [if_neg (fun z => nomatch (beq_iff_eq.mp z : Value.ref C = Value.type T))]
  show (if PySem.W.kitMeta T = true then _ else _) = _
  rw [if_pos m]
  exact e.sub _
/-- what is asked of the class by its names -/
structure EF (K : PySem.W.Frag) (C : Addr) : Prop where
  ga : PySem.W.findIn K (.ref C) "__getattribute__" = some (some (.builtin "BaseException.__getattribute__"))
  gg : PySem.W.findIn K (.ref C) "__getattr__" = some none
  ha : PySem.W.findIn K (.ref C) "__class__" = some (some (.builtin "object.__class__"))
  sa : PySem.W.findIn K (.ref C) "__setattr__" = some (some (.builtin "object.__setattr__"))
  kC : PySem.W.keepIn K (.ref C) = true
structure Hn (K : PySem.W.Frag) : Prop where
  hn : PySem.W.specialIn K (.builtin "object.__class__") "__get__" = some (some (.builtin "getset_descriptor.__get__"))
  ht : PySem.W.takesIn K (.builtin "object.__class__") = some true
theorem EL.exk {B initId : String} {bmF T : List Value} (e : EL K C nm bm newId) (f : EF K C) (F : EBase B newId initId bmF T) (ht : tlB T bm = true) (hb : bm.contains (.type "BaseException") = true) : ExK K C := by
  obtain ⟨q, N, bs, sn, sub, ab, col, dd, k0, k1, k2, k3, k5, h⟩ := e.ex
  exact ⟨⟨B, newId, initId, bmF, T, nm, q, N, bs, bm, sn, sub, ab, col, dd, k0, k1, k2, k3, k5, F, h, ht⟩, f.sa, by (rw [e.sub, List.contains_cons, hb, Bool.or_true]), e.ty, f.kC⟩
theorem EL.xf (e : EL K C nm bm newId) (f : EF K C) (hb : bm.contains (.type "BaseException") = true) : XfC K C := ⟨f.ga, f.gg, by (rw [e.sub, List.contains_cons, hb, Bool.or_true]), e.hd⟩
theorem EL.exc (e : EL K C nm bm newId) (f : EF K C) (n : Hn K) (hb : bm.contains (.type "BaseException") = true) (ho : bm.contains (.type "object") = true) : ExcC K C :=
  ⟨f.ga, f.gg, by (rw [e.sub, List.contains_cons, hb, Bool.or_true]), e.hd, f.ha, n.hn, n.ht, by (have z := e.sub (.type "object"); rw [List.contains_cons, ho, Bool.or_true] at z; exact z)⟩
end
theorem lk1 {f : Str} {y : V} {r : List (Str × V)} : ((f, y) :: r).lookup f = some y := by rw [L2.lookup_put, if_pos rfl]
theorem EC.exm {P : Program} {w : World} {K : PySem.W.Frag} {mg : Str → Option Value} {base : Heap} {nm : Str} {ns ks : List Str} {C fI : Addr} {fd : FuncData} (c : EC P w K mg base nm ns ks C fI fd) {nm' : Str} {bm : List Value} {newId : String} (e : EL K C nm' bm newId) :
    PySem.W.exmOne K (.ref C) (.ref C) = some true :=
  PySem.W.exm_ref c.T.exC e.hd c.T.tyC (by rw [e.sub, List.contains_cons, beq_self_eq_true, Bool.true_or])
theorem few1 {n : Nat} (h : n ≤ 1000) : n < sizeLine := small1000 h
/-- behind the making of an error that is raised -/
theorem flown {H1 H' : Hp} {a d : Addr} {o u : HO} (ha : H1 a = none) (hd : H1 d = none) (k : ∀ b v, b ≠ a → upd H1 a o b = some v → H' b = some v) : Same H1 (upd (L2.del H' a) d u) := fun b v z => by
  have na := ne_of_none z ha
  rw [upd_ne (ne_of_none z hd), L2.del_ne na]
  exact k b v na (by (rw [upd_ne na]; exact z))
/-- isinstance(e, (A, B)) -/
def rIsXT (K : PySem.W.Frag) : List V → Hp → VK → Prop := fun xs H Q => ∃ (a D tp : Addr) (cs : List Addr) (b : Bool), xs = [.ref a, .ref tp] ∧ ExcC K D ∧ ErrAt H D a ∧ H tp = some (.tup (cs.map V.ref)) ∧ PySem.W.kitAny K (.ref D) (cs.map Value.ref) = some b ∧ Q (.bl b) H
theorem vals_refs : ∀ {cs : List Addr} {us : List Value}, Vals (cs.map V.ref) us → us = cs.map Value.ref
  | [], _, h => by cases h; rfl
  | c :: cs, _, h => by
    cases h with
    | cons h1 h2 =>
      cases h1
      rw [vals_refs h2]
      rfl
theorem call_isXT {X : Cx} : CallR X (.builtin "isinstance") (rIsXT X.K) := by
  intro pins s σ H xs us Q I r h
  obtain ⟨a, D, tp, cs, b, rfl, C, he, ht, e, q⟩ := h
  cases r with
  | cons rx rr =>
    cases rr with
    | cons rt rr =>
      cases rr
      cases rx
      cases rt
      obtain ⟨its, r2, ⟨o, ho, hc, n, hd⟩, hl2⟩ := I.tuple (.inl (.inl ht) : SqT X.K H tp (cs.map V.ref))
      have ei := vals_refs r2
      subst ei
      obtain ⟨oc, od0, oda, osl⟩ := o
      cases hc
      cases hd
      have fin : ∀ {ox : Obj} {od : Option Obj}, PySem.W.InstAt s.heap a ox D od → wpAny (model X.prog X.w) X.A (call (.builtin "isinstance") [.ref a, .ref tp]) (EP X pins σ Q) X.xe s := fun {ox od} J =>
        PySem.W.kia_tup (PySem.W.kitx_exc (hasD_cls C.hd) C.hg C.hk C.hs C.ha C.hn C.ht C.hm) I.kIn J ho e (fun z => nomatch z) fun tk => ⟨.bl b, H, I.kept (t' := tk) fun _ _ z => z, rfl, q⟩
      rcases he with ea | ⟨d, fs, ea, ed⟩
      · obtain ⟨t1, ha⟩ := exo_at I.hok ea
        exact fin (od := none) ⟨ha, rfl, rfl, trivial⟩
      · obtain ⟨t1, ha⟩ := exo_at I.hok ea
        obtain ⟨mA, ⟨o, es, ep, ho2, hr⟩, _⟩ := exd_at I.hok ed
        exact fin (od := some o) ⟨ha, rfl, rfl, ho2⟩
def spRead0 (K : PySem.W.Frag) (C CBr : Addr) : Sp := fun vs H Q _ => ∃ r x S l ws, vs = [.ref r, .str x] ∧ RdAt K C CBr H r l S ∧ Went ws S ∧ stX S x = none ∧ x.length ≤ 16000000 ∧ ∀ H', Same H H' → Q (.bl false) H'
theorem slot_code {p : Str × Str} (m : p ∈ allL) {n c : Nat} (hx : p.2.cps.toList[n]? = some c) (hS : ¬ (p.2.cps.toList.getLast? = some 115 ∧ p.2.cps.toList.length - 1 ≤ n)) : codes c := by
  have lt := (List.getElem?_eq_some_iff.mp hx).1
  have c115 : c ≠ 115 := fun z => by
    have ol := only_last _ m
    subst z
    by_cases ll : n = p.2.cps.toList.length - 1
    · refine hS ⟨?_, by omega⟩
      rw [List.getLast?_eq_getElem?, ← ll]
      exact hx
    · refine ol (List.mem_of_getElem? (i := n) ?_)
      rw [List.getElem?_dropLast, if_pos (by omega)]
      exact hx
  rcases slot_codes _ m c (List.mem_of_getElem? hx) with z | z | z | z | z | z | z
  · exact .inl z
  · exact .inr (.inl z)
  · exact .inr (.inr (.inl z))
  · exact .inr (.inr (.inr (.inl z)))
  · exact .inr (.inr (.inr (.inr (.inl z))))
  · exact .inr (.inr (.inr (.inr (.inr z))))
  · exact absurd z c115
section
variable {P : Program} {w : World} {K : PySem.W.Frag} {mg : Str → Option Value} {base : Heap} {f : Addr} {fd : FuncData} {C CBr : Addr}
theorem ok_read0 {k : Nat} {fI fH fQ : Addr} {dI dH dQ : FuncData} (F : Fun K "read_word" "read_word" sRead f fd) (T : CR K mg C) (TB : CB K mg CBr) (mn : mg "len" = none)
    (GI : Dn P w K mg base 3 "read_item" ["reader", "word", "sort"] (spItem0 K C CBr) fI dI) (GH : Dn P w K mg base 2 "read_head" ["reader", "word"] (spHead0 K C CBr) fH dH) (GQ : Dn P w K mg base 2 "close_bracket" ["reader"] (spClose K C CBr) fQ dQ) :
    FnOk P w K mg base CX0 (k + 4) f fd ["reader", "word"] (spRead0 K C CBr) := by
  refine F.ok scRead (fun vs H Q E h => ?_) (fun cdv A outer s H vs Q E hr h => ?_)
  · obtain ⟨r, x, S, l, ws, rfl, _⟩ := h
    rfl
  obtain ⟨r, x, S, l, ws, rfl, hR, wn, hp, hxl, q⟩ := h
  have hr2 : Room 2 _ := hr.mono (by omega)
  have hr3 : Room 3 _ := hr.mono (by omega)
  refine ⟨_, pss_cons (ps_if (pt_cmp (pc_notN (pe_fld (pv 0) rfl))) (pss_one (ps_ret pe_bl)) pss_nil)
    (pss_cons (ps_if (pt_not (pt_truth (pe_fld (pv 0) rfl) (by intro _; rfl))) (pss_one (ps_ret (pe_call GI.ok hr3 (by rfl) GI.mg GI.kp GI.bd .nil pass0 (pa_cons (pv 0) (pa_cons (pv 1) (pa_cons pe_str pa_nil)))))) pss_nil)
    (pss_cons (ps_set (i := 2) scRead.nd rfl (.inl rfl) (pe_ix ix_list (pe_fld (pv 0) rfl) (pe_un un_neg pe_int) (fun _ _ => rfl)))
    (pss_cons (ps_if (pt_cmp (pc_isN (pe_fld (pv 2) rfl))) (pss_one (ps_ret (pe_call GH.ok hr2 (by rfl) GH.mg GH.kp GH.bd .nil pass0 (pa_cons (pv 0) (pa_cons (pv 1) pa_nil))))) pss_nil)
    (pss_cons (ps_set (i := 3) scRead.nd rfl (.inl rfl) (pe_callB call_len_seq (by rfl) mn PySem.boot_len (pa_cons (pe_fld (pv 2) rfl) pa_nil)))
    (pss_cons (ps_if (PW.pt (pw_and (pt_cmpR op_eq (pe_ix ix_tup (pe_fld (pv 2) rfl) (pe_un un_neg pe_int) (fun _ _ => rfl)) pe_str (nomark _)) (pw_and1 (pt_cmpR op_ge (pv 3) (pe_op op_sub (pe_callB call_len_seq (by rfl) mn PySem.boot_len (pa_cons (pe_fld (pv 2) rfl) pa_nil)) pe_int) (nomark _)))))
      (pss_one (ps_ret (pe_ifExp (pt_cmpR op_eq (pv 1) pe_str (nomark _)) (pe_call GQ.ok hr2 (by rfl) GQ.mg GQ.kp GQ.bd .nil pass0 (pa_cons (pv 0) pa_nil)) (pe_call GI.ok hr3 (by rfl) GI.mg GI.kp GI.bd .nil pass0 (pa_cons (pv 0) (pa_cons (pv 1) (pa_cons pe_str pa_nil))))))) pss_nil)
    (pss_cons (ps_if (pt_cmpR op_eq (pv 3) (pe_callB call_len_seq (by rfl) mn PySem.boot_len (pa_cons (pe_fld (pv 2) rfl) pa_nil)) (nomark _)) (pss_one (ps_ret (pe_and (pe_cmpR op_eq (pv 1) pe_str (nomark _)) (pe_one (pe_call GQ.ok hr2 (by rfl) GQ.mg GQ.kp GQ.bd .nil pass0 (pa_cons (pv 0) pa_nil)))))) pss_nil)
    (pss_one (ps_ret (pe_call GI.ok hr3 (by rfl) GI.mg GI.kp GI.bd .nil pass0 (pa_cons (pv 0) (pa_cons (pv 1) (pa_cons (pe_ix ix_tup (pe_fld (pv 2) rfl) (pv 3) (fun _ _ => rfl)) pa_nil)))))))))))), ?_⟩
  obtain ⟨dx, fs, L, t, as, fas, el, h1, h2, h3, h4, h5, h6⟩ := hR.ex
  refine ⟨_, rfl, r, C, dx, fs, _, rfl, h1, T.cl, T.nt, h2.t, ?_⟩
  rcases wn with ⟨et, rc⟩ | ⟨d, rfl, wx, _⟩
  · obtain ⟨bs, tr⟩ := S
    have et : tr = none := et
    subst et
    have rc : Rec bs ws := rc
    have hp : stepX bs x = none := hp
    have lbs : as.length = bs.length ∧ fas.length = bs.length := h4.len
    have et : t = .non := h5
    subst et
    refine ⟨_, rfl, iteF' (by decide) ⟨_, rfl, r, C, dx, fs, _, rfl, h1, T.cl, T.nb, h2.b, _, .inl ⟨_, SqL.of h3, rfl⟩, ?_⟩⟩
    rcases List.eq_nil_or_concat bs with e | ⟨b1, b, e⟩
    · subst e
      have ea : as = [] := List.length_eq_zero_iff.mp lbs.1
      subst ea
      refine iteT' (by decide) ?_
      exact ⟨_, rfl, _, rfl, r, x, 101, [], l, rfl, hR, .inl rfl, hp, hxl, q⟩
    · rw [List.concat_eq_append] at e
      subst e
      obtain ⟨as2, fas2, a, fa, rfl, rfl, g1, g2⟩ := h4.unsnoc
      obtain ⟨dx2, fs2, hv, sv, vs, k1, k2, k3, k4, k5, k6, k7⟩ := g2.ex
      have al : atI ((as2 ++ [a]).map V.ref) (-1) = some (.ref a) := by
        rw [List.map_append]
        exact atI_last _ _
      refine iteF' (by simp) ⟨_, rfl, r, C, dx, fs, _, rfl, h1, T.cl, T.nb, h2.b, 1, rfl, L, _, -1, .ref a, rfl, rfl, SqL.of h3, al, ?_⟩
      refine ⟨_, rfl, a, CBr, dx2, fs2, _, rfl, k1, TB.cl, TB.nh, k2.h, _, rfl, ?_⟩
      rw [stepX_snoc] at hp
      obtain ⟨w0, s2, r0, l0, w0', qq⟩ := rc.unsnoc
      rcases qq with ⟨rfl, rfl⟩ | ⟨h, sl, found, fs3, rfl, m, n, fq, t116, rfl⟩
      · have ev : hv = .non := k7
        subst ev
        exact iteT' (by decide) ⟨_, rfl, _, rfl, r, b1, s2, x, l, rfl, hR, hp, q⟩
      · obtain ⟨rfl, mm, sa, rfl, sq⟩ := k7
        have k4 : DpAll K H vs found := k4
        have lvs : vs.length = found.length := DpAll.len k4
        have mA := tbS_all _ m
        obtain ⟨cl, al2, gl⟩ := sorts_last sl (sl_ne _ mA)
        have ls : (sortsV sl).length = sl.cps.toList.length := by simp [sortsV]
        have pos : 1 ≤ sl.cps.toList.length := List.length_pos_iff.mpr (sl_ne _ mA)
        unfold topX at hp
        simp only at hp
        refine iteF' (decide_eq_false (fun z => nomatch z)) ⟨_, rfl, a, CBr, dx2, fs2, _, rfl, k1, TB.cl, TB.nf, k2.f, fa, vs, rfl, .inl (SqL.of k3), ?_⟩
        have rest : ¬ (sl.cps.toList.getLast? = some 115 ∧ sl.cps.toList.length - 1 ≤ found.length) →
            (∃ c, wantAt sl.cps.toList found.length = some c ∧ sl.cps.toList[found.length]? = some c ∧ codes c ∧ itemX (b1 ++ [⟨s2, some (h, sl), found⟩]) c x = none ∧ found.length < sl.cps.toList.length ∧ (sortsV sl)[found.length]? = some (.str (sortS c))) ∨ (found.length = sl.cps.toList.length ∧ ¬ x = ")") := fun hS => by
          cases hw : wantAt sl.cps.toList found.length with
          | none =>
            rw [hw] at hp
            simp only at hp
            refine .inr ⟨?_, fun z => by rw [if_pos z] at hp; cases hp⟩
            unfold wantAt at hw
            rw [if_neg hS] at hw
            have l1 := List.getElem?_eq_none_iff.mp hw
            rcases fd_len fq with y | y
            · exact absurd ⟨y, by omega⟩ hS
            · omega
          | some c =>
            have hx := wantAt_lt hw hS
            rw [hw] at hp
            simp only at hp
            rw [if_neg (fun z => hS (of_decide_eq_true z.1))] at hp
            refine .inl ⟨c, rfl, hx, slot_code (p := (h, sl)) mA hx hS, hp, (List.getElem?_eq_some_iff.mp hx).1, ?_⟩
            unfold sortsV
            rw [List.getElem?_map, hx]
            rfl
        refine ⟨_, rfl, a, CBr, dx2, fs2, _, rfl, k1, TB.cl, TB.ns, k2.s, 1, rfl, sa, _, -1, _, rfl, rfl, sq H, al2, rfl, _, rfl, ite2 (fun cc => ?_) (fun cc => ?_)⟩
        · have c115 : cl = 115 := by
            have z : sortS cl = "expressions" := V.str.inj (of_decide_eq_true cc)
            rw [sortS_s] at z
            exact z
          subst c115
          refine ⟨_, rfl, _, rfl, a, CBr, dx2, fs2, _, rfl, k1, TB.cl, TB.ns, k2.s, sa, _, rfl, .inr (sq H), _, _, rfl, rfl, _, _, rfl, rfl, _, rfl, ite2 (fun c2 => ?_) (fun c2 => ?_)⟩
          · have c2 := of_decide_eq_true c2
            have hS : sl.cps.toList.getLast? = some 115 ∧ sl.cps.toList.length - 1 ≤ found.length := ⟨gl, by omega⟩
            have w1 : wantAt sl.cps.toList found.length = some 101 := by
              unfold wantAt
              rw [if_pos hS]
            rw [w1] at hp
            simp only at hp
            have np : ¬ x = ")" := fun z => by
              rw [if_pos ⟨decide_eq_true hS, z⟩] at hp
              cases hp
            rw [if_neg (fun z => np z.2)] at hp
            exact ⟨_, rfl, rfl, _, rfl, iteF' (decide_eq_false fun z => np (V.str.inj z)) ⟨_, rfl, _, rfl, r, x, 101, _, l, rfl, hR, .inl rfl, hp, hxl, q⟩⟩
          · have c2 := of_decide_eq_false (Bool.eq_false_iff.mpr c2)
            rcases rest (fun z => by omega) with ⟨c, _, hx, hc, hp2, lt, f2⟩ | ⟨e1, np⟩
            · refine ⟨_, rfl, _, rfl, a, CBr, dx2, fs2, _, rfl, k1, TB.cl, TB.ns, k2.s, sa, _, rfl, .inr (sq H), rfl, _, rfl, iteF' (decide_eq_false (fun z => by have := V.int.inj z; omega)) ?_⟩
              refine ⟨_, rfl, _, rfl, _, rfl, a, CBr, dx2, fs2, _, rfl, k1, TB.cl, TB.ns, k2.s, _, rfl, sa, _, _, .str (sortS c), rfl, rfl, sq H, ?_, r, x, c, _, l, rfl, hR, hc, hp2, hxl, q⟩
              rw [lvs]
              exact atI_nat f2
            · refine ⟨_, rfl, _, rfl, a, CBr, dx2, fs2, _, rfl, k1, TB.cl, TB.ns, k2.s, sa, _, rfl, .inr (sq H), rfl, _, rfl, iteT' (decide_eq_true (by rw [lvs, ls, e1])) ?_⟩
              exact ⟨_, rfl, rfl, _, rfl, iteF' (decide_eq_false fun z => np (V.str.inj z)) (q H (Same.refl H))⟩
        · have n115 : ¬ cl = 115 := fun z => cc (decide_eq_true (by rw [V.str.injEq, sortS_s]; exact z))
          rcases rest (fun z => by rw [gl] at z; exact n115 (Option.some.inj z.1)) with ⟨c, _, hx, hc, hp2, lt, f2⟩ | ⟨e1, np⟩
          · refine ⟨_, rfl, _, rfl, a, CBr, dx2, fs2, _, rfl, k1, TB.cl, TB.ns, k2.s, sa, _, rfl, .inr (sq H), rfl, _, rfl, iteF' (decide_eq_false (fun z => by have := V.int.inj z; omega)) ?_⟩
            refine ⟨_, rfl, _, rfl, _, rfl, a, CBr, dx2, fs2, _, rfl, k1, TB.cl, TB.ns, k2.s, _, rfl, sa, _, _, .str (sortS c), rfl, rfl, sq H, ?_, r, x, c, _, l, rfl, hR, hc, hp2, hxl, q⟩
            rw [lvs]
            exact atI_nat f2
          · refine ⟨_, rfl, _, rfl, a, CBr, dx2, fs2, _, rfl, k1, TB.cl, TB.ns, k2.s, sa, _, rfl, .inr (sq H), rfl, _, rfl, iteT' (decide_eq_true (by rw [lvs, ls, e1])) ?_⟩
            exact ⟨_, rfl, rfl, _, rfl, iteF' (decide_eq_false fun z => np (V.str.inj z)) (q H (Same.refl H))⟩
  · have h5 : Dp K H t d ∧ nl d = true := h5
    obtain ⟨hh, args, rfl⟩ := wx.tup
    obtain ⟨h5, _⟩ := h5
    cases h5 with
    | tup ha hb => exact ⟨_, rfl, iteT' (by rw [decide_eq_false (fun z => nomatch z)]; rfl) (q H (Same.refl H))⟩
end
/-! any text is read -/
abbrev splitW (x : Str) : List Str := Txt.split x " "
theorem join_exact : ∀ ws : List Str, ws ≠ [] → (Str.join " " ws).length + 1 = (ws.map (·.length)).sum + ws.length
  | [], h => absurd rfl h
  | [x], _ => by
    show x.length + 1 = _
    simp
  | x :: y :: r, _ => by
    have ih := join_exact (y :: r) (by simp)
    show (x ++ " " ++ Str.join " " (y :: r)).length + 1 = _
    have e1 : ((" " : Str)).length = 1 := by decide +kernel
    rw [PySem.strLen_append, PySem.strLen_append, e1]
    simp only [List.map_cons, List.sum_cons, List.length_cons] at ih ⊢
    omega
theorem join_is (ws : List Str) : Txt.join " " ws = Str.join " " ws := StrLaws.glued_eq_join " " ws
theorem split_ne (x : Str) : splitW x ≠ [] := fun z => by
  have e := PySem.StrLaws.join_split x " "
  have e2 : Txt.split x " " = [] := z
  rw [e2] at e
  have e1 : (" " : Str) = SX.S [32] := by decide +kernel
  rw [← SX.S_tl x, e1, SX.split_S (by simp) (by decide)] at e2
  have key : ∀ (l : List Nat) (k : Nat) (acc : List Nat), TL.spl [32] k acc l ≠ [] := fun l => by
    induction l with
    | nil =>
      intro k acc
      rw [TL.spl_nil]
      exact fun z => nomatch z
    | cons c r ih =>
      intro k acc
      cases k with
      | zero =>
        by_cases h : TL.pre [32] (c :: r) = true
        · rw [TL.spl_hit h]
          exact fun z => nomatch z
        · rw [TL.spl_miss (Bool.eq_false_iff.mpr h)]
          exact ih _ _
      | succ k => exact ih k acc
  exact key _ _ _ (List.map_eq_nil_iff.mp e2)
structure SpW (x : Str) : Prop where
  ne : splitW x ≠ []
  join : Txt.join " " (splitW x) = x
  sum : ((splitW x).map (·.length)).sum + (splitW x).length = x.length + 1
  one : ∀ y ∈ splitW x, y.length ≤ x.length
theorem spW (x : Str) : SpW x := by
  have ne := split_ne x
  have e := PySem.StrLaws.join_split x " "
  have s := join_exact (splitW x) ne
  have e2 : (Str.join " " (splitW x)).length = x.length := congrArg Str.length e
  refine ⟨ne, by rw [join_is]; exact e, by omega, fun y hy => ?_⟩
  have key : ∀ ws : List Str, y ∈ ws → y.length + (ws.length - 1) ≤ (ws.map (·.length)).sum + (ws.length - 1) := fun ws h => by
    have : y.length ≤ (ws.map (·.length)).sum := by
      induction ws with
      | nil => cases h
      | cons a b ih =>
        simp only [List.map_cons, List.sum_cons]
        rcases List.mem_cons.mp h with z | z
        · rw [z]; omega
        · have := ih z; omega
    omega
  have := key _ hy
  have l1 : 1 ≤ (splitW x).length := List.length_pos_iff.mpr ne
  omega
def spRx2 (K : PySem.W.Frag) (CE : Addr) : Sp := fun vs H Q E => ∃ x, vs = [.str x] ∧ x.length ≤ 4000000 ∧
  (∀ v d H', wrongW (splitW x) = none → Same H H' → Dp K H' v d → nl d = true → Wx 40 false d → wordsD 40 d = splitW x → Q v H') ∧
  (∀ i d H', wrongW (splitW x) = some i → Same H H' → H d = none → H' d = some (.xd [("at", .int ((i : Nat) : Int))]) → E (.ref CE) (some d) H')
section
variable {P : Program} {w : World} {K : PySem.W.Frag} {mg : Str → Option Value} {base : Heap} {f fR fW CE fE : Addr} {fd dR dW dE : FuncData} {C CBr : Addr} {ks : List Str}
theorem ok_rx2 {k : Nat} (F : Fun K "read_expression" "read_expression" sRx f fd) (T : CR K mg C) (me : mg "enumerate" = none) (mn : mg "len" = none) (MR : Mk K C fR) (GR : FnOk P w K mg base CX0 1 fR dR ["self"] (spRIni C)) (bR : Binds K dR ["self"] [])
    (GW : Dn P w K mg base 4 "read_word" ["reader", "word"] (spOr (spRead K C CBr) (spRead0 K C CBr)) fW dW) (c4 : EC P w K mg base "NoText" ["at"] ks CE fE dE) : FnOk P w K mg base (L2.CX P w) (k + 5) f fd ["text"] (spRx2 K CE) := by
  refine F.okX scRx (fun vs H Q E h => ?_) (fun cdv A outer s H vs Q E hr h => ?_)
  · obtain ⟨x, rfl, _⟩ := h
    rfl
  obtain ⟨x, rfl, hx, q1, q2⟩ := h
  have hr2 : Room 2 _ := hr.mono (by omega)
  have hr4 : Room 4 _ := hr.mono (by omega)
  refine ⟨_, pss_cons (ps_set (i := 1) scRx.nd rfl (.inl rfl) (pe_make0 MR GR hr2 (by rfl) T.mg bR .nil pass0))
    (pss_cons (ps_set (i := 2) scRx.nd rfl (.inl rfl) (pe_split (pv 0) pe_str))
    (pss_cons (ps_for (passes_of rfl) rfl (pi_enumL (by rfl) me (pa_cons (pv 2) pa_nil)) (pg_tup (by rfl) (pgs_cons (pg_name (i := 3) scRx.nd rfl (.inl rfl)) (pgs_cons (pg_name (i := 4) scRx.nd rfl (.inl rfl)) pgs_nil)))
      (pss_one (ps_if (pt_not (pt_val (pe_call GW.ok hr4 (by rfl) GW.mg GW.kp GW.bd .nil pass0 (pa_cons (pv 1) (pa_cons (pv 4) pa_nil))))) (pss_one (ps_raise rfl (takes_of rfl rfl rfl rfl) (pmk_exK c4.T c4.iC c4.tI c4.ok hr2 c4.bd pass0 (by rfl) c4.mg (pa_cons (pv 3) pa_nil)))) pss_nil)))
    (pss_cons (ps_if (pt_cmp (pc_isN (pe_fld (pv 1) rfl))) (pss_one (ps_raise rfl (takes_of rfl rfl rfl rfl) (pmk_exK c4.T c4.iC c4.tI c4.ok hr2 c4.bd pass0 (by rfl) c4.mg (pa_cons (pe_callB call_len_seq (by rfl) mn PySem.boot_len (pa_cons (pv 2) pa_nil)) pa_nil)))) pss_nil)
    (pss_one (ps_ret (pe_fld (pv 1) rfl)))))), ?_⟩
  have SP := spW x
  have hs0 : sizeLine = 16777216 := rfl
  refine fun r dr hr0 hd0 nrd => ?_
  have sM : Same H (upd (upd H dr (.own r)) r (.ins C dr [])) := fun b u z => by
    rw [upd_ne (ne_of_none z hr0), upd_ne (ne_of_none z hd0)]
    exact z
  refine ⟨r, dr, rfl, upd_same, fun L fs H1 e1 e2 e3 e4 e5 e6 => ⟨rfl, ?_⟩⟩
  have s1 : Same H H1 := fun b u z => e6 _ _ (ne_of_none z hr0) (sM _ _ z)
  have hL0 : H L = none := sM.free e5
  have R1 : RdAt K C CBr H1 r [r, L] ⟨[], none⟩ := ⟨dr, fs, L, .non, [], [], rfl, e1, e2, e3, trivial, rfl, by simp [e4.symm]⟩
  refine ⟨_, rfl, ⟨_, rfl⟩, x, " ", rfl, rfl, by decide +kernel, by omega, fun p hp => ?_⟩
  have ews : Txt.split x " " = splitW x := rfl
  rw [ews]
  have lw : (splitW x).length ≤ 4000001 := by
    have := SP.sum
    omega
  have wl1 := SP.one
  have eR : wrongF ⟨[], none⟩ (splitW x) 0 = wrongW (splitW x) := rfl
  generalize splitW x = ws at lw wl1 eR q1 q2
  have s2 : Same H1 (upd H1 p (.lst (ws.map V.str))) := same_new hp _
  have hp2 : (upd H1 p (.lst (ws.map V.str))) p = some (.lst (ws.map V.str)) := upd_same
  have pl : p ∉ [r, L] := fun z => by
    simp only [List.mem_cons, List.not_mem_nil, or_false] at z
    rcases z with z | z
    · rw [z, e1] at hp
      cases hp
    · rw [z, e3] at hp
      cases hp
  generalize upd H1 p (.lst (ws.map V.str)) = H2 at s2 hp2
  have s12 := s1.trans s2
  -- an error leaves
  have out : ∀ (i : Nat) (H3 : Hp) (a1 : Addr), wrongW ws = some i → Same H H3 → H3 a1 = none → ∀ (x1 : Addr) (H4 : Hp), H3 x1 = none → (∀ b v, b ≠ a1 → upd H3 a1 (exo a1 CE none) b = some v → H4 b = some v) →
      E (.ref CE) (some x1) (upd (L2.del H4 a1) x1 (.xd [("at", .int ((i : Nat) : Int))])) := fun i H3 a1 ew s3 ha x1 H4 hx1 k4 =>
    q2 i x1 _ ew (s3.trans (flown ha hx1 k4)) (s3.free hx1) upd_same
  refine ⟨_, rfl, p, _, rfl, SqL.of hp2, for_it (walk_C (Its := fun H ys => SqL K H p ys) (xs := ws.map V.str) (k0 := 0)) (fun i σ H3 => ∃ l S o3 o4, σ = [some (.str x), some (.ref r), some (.ref p), o3, o4] ∧ RdAt K C CBr H3 r l S ∧ p ∉ l ∧ H3 p = some (.lst (ws.map V.str)) ∧ Went (ws.take i) S ∧ wrongF S (ws.drop i) i = wrongW ws ∧ (∀ b ∈ S.brs, b.found.length ≤ i) ∧ Same H H3 ∧ ∀ b ∈ l, H b = none)
    ⟨[r, L], ⟨[], none⟩, none, none, rfl, R1.same s2, pl, hp2, .inl ⟨rfl, .nil⟩, eR, (fun _ z => nomatch z), s12, fun b hb => ?_⟩ ?_ ?_ ?_⟩
  · simp only [List.mem_cons, List.not_mem_nil, or_false] at hb
    rcases hb with z | z
    · rw [z]; exact hr0
    · rw [z]; exact hL0
  · rintro i σ H3 hi ⟨l, S, o3, o4, rfl, g1, g2, g3, g4, gw, g5, g6, g7⟩
    exact SqL.of g3
  · rintro i y σ H3 H3' hi ⟨l, S, o3, o4, rfl, g1, g2, g3, g4, gw, g5, g6, g7⟩ ⟨T, z, rfl, hT, rfl, hz⟩
    rw [List.getElem?_map] at hz
    obtain ⟨xw, hw, rfl⟩ := Option.map_eq_some_iff.mp hz
    have s3 : Same H3 (upd H3 T (.tup [.int (0 + (i : Nat)), .str xw])) := same_new hT _
    have hi2 : i < ws.length := (List.getElem?_eq_some_iff.mp hw).1
    have dr1 : ws.drop i = xw :: ws.drop (i + 1) := by
      rw [List.drop_eq_getElem_cons hi2]
      obtain ⟨_, e⟩ := List.getElem?_eq_some_iff.mp hw
      rw [e]
    have tk1 : ws.take (i + 1) = ws.take i ++ [xw] := get_take hw
    have lx1 := wl1 xw (List.mem_of_getElem? hw)
    refine ⟨T, [.int (0 + (i : Nat)), .str xw], rfl, .inl (.inl upd_same), rfl, _, _, rfl, _, _, rfl, rfl, ?_⟩
    rw [dr1] at gw
    unfold wrongF at gw
    cases es : stX S xw with
    | none =>
      rw [es] at gw
      refine ⟨_, rfl, _, rfl, .inr ⟨r, xw, S, l, ws.take i, rfl, g1.same s3, g4, es, by omega, fun H4 s4 => ⟨_, rfl, iteT ?_⟩⟩⟩
      refine ⟨_, rfl, by (show 1 ≤ 1000); decide, fun a1 h1 => ⟨a1, [.int (0 + (i : Nat))], rfl, rfl, upd_same, fun x1 H5 n1 e1' E1 k1 => ⟨rfl, x1, [("at", .int (0 + (i : Nat)))], E1.1, E1.2, by (rw [upd_ne e1'] at n1; exact n1), ?_⟩⟩⟩
      have z0 : (0 + (i : Nat) : Int) = ((i : Nat) : Int) := by omega
      have z1 := out i H4 a1 gw.symm ((g6.trans s3).trans s4) h1 x1 H5 (by rw [upd_ne e1'] at n1; exact n1) k1
      rw [z0]
      exact z1
    | some S2 =>
      rw [es] at gw
      obtain ⟨et, rc, st, wn⟩ := stX_of g4 es
      obtain ⟨b, tr⟩ := S
      have et : tr = none := et
      subst et
      have lf : ∀ b' ∈ b, b'.found.length < 5000000 := fun b' hb => by
        have := g5 b' hb
        omega
      refine ⟨_, rfl, _, rfl, .inl ⟨r, xw, b, l, S2, rfl, g1.same s3, lf, st, fun H4 l4 R4 o4' m4 => ⟨_, rfl, iteF ⟨l4, S2, _, _, rfl, R4, ?_, ?_, by rw [tk1]; exact wn, gw, ?_, ?_, ?_⟩⟩⟩⟩
      · intro z
        rcases m4 p z with y | y
        · exact g2 y
        · rw [s3 _ _ g3] at y
          cases y
      · exact o4'.get (s3 _ _ g3) g2
      · exact st.cnt g5
      · intro b' u z
        exact o4'.get ((g6.trans s3) _ _ z) (fun y => by rw [g7 b' y] at z; cases z)
      · intro b' hb
        rcases m4 b' hb with y | y
        · exact g7 b' y
        · exact (g6.trans s3).free y
  · rintro σ H3 ⟨l, S, o3, o4, rfl, g1, g2, g3, g4, gw, g5, g6, g7⟩
    rw [List.length_map] at g4 gw
    rw [List.take_length] at g4
    rw [List.drop_length] at gw
    unfold wrongF at gw
    obtain ⟨dx, fs, L, t, as, fas, el, h1, h2, h3, h4, h5, h6⟩ := g1.ex
    refine ⟨_, rfl, r, C, dx, fs, _, rfl, h1, T.cl, T.nt, h2.t, _, rfl, ?_⟩
    rcases g4 with ⟨et, rc⟩ | ⟨d, rfl, wx, ew⟩
    · rw [et] at gw h5
      have h5 : t = .non := h5
      subst h5
      refine iteT' (by decide) ?_
      refine ⟨_, rfl, p, _, rfl, .inl (SqL.of g3), by (show 1 ≤ 1000); decide, fun a1 h1' => ⟨a1, [_], rfl, rfl, upd_same, fun x1 H5 n1 e1' E1 k1 => ⟨rfl, x1, [("at", _)], E1.1, E1.2, by (rw [upd_ne e1'] at n1; exact n1), ?_⟩⟩⟩
      have z1 := out ws.length H3 a1 gw.symm g6 h1' x1 H5 (by rw [upd_ne e1'] at n1; exact n1) k1
      rw [List.length_map]
      exact z1
    · obtain ⟨h5, h7⟩ := h5
      refine iteF' ?_ ⟨_, rfl, r, C, dx, fs, _, rfl, h1, T.cl, T.nt, h2.t, q1 t d H3 gw.symm g6 h5 h7 wx ew⟩
      refine decide_eq_false fun z => ?_
      rw [z] at h5
      obtain ⟨h, args, rfl⟩ := wx.tup
      cases h5
end
/-! the law's own looks at words -/
abbrev sLName : Stmt := topS 36
abbrev sLInt : Stmt := topS 37
abbrev sLFit : Stmt := topS 38
theorem scLName : FnScope ["_law_word_here", "_law_letters", "_law_one"] ["_law_word_here"] (defScope sLName) := ⟨rfl, rfl, rfl, by decide +kernel, rfl, by decide +kernel, by decide +kernel⟩
theorem scLInt : FnScope ["_law_word_here", "_law_digits", "_law_one"] ["_law_word_here"] (defScope sLInt) := ⟨rfl, rfl, rfl, by decide +kernel, rfl, by decide +kernel, by decide +kernel⟩
theorem scLFit : FnScope ["_law_mark", "_law_word_here"] ["_law_mark", "_law_word_here"] (defScope sLFit) := ⟨rfl, rfl, rfl, by decide +kernel, rfl, by decide +kernel, by decide +kernel⟩
/-- plain signs alone -/
def Low (x : Str) : Prop := ∀ c ∈ x.cps.toList, c < 128
def spFit : Sp := fun vs H Q _ => ∃ m x, vs = [.str m, .str x] ∧ x.length ≤ 16000000 ∧ Low x ∧ ∀ H', Same H H' → Q (.bl (fitB m x)) H'
def spNameL : Sp := fun vs H Q _ => ∃ x, vs = [.str x] ∧ x.length ≤ 16000000 ∧ Low x ∧ ∀ H', Same H H' → Q (.bl (isNm x)) H'
def spNumL : Sp := fun vs H Q _ => ∃ x, vs = [.str x] ∧ x.length ≤ 16000000 ∧ Low x ∧ ∀ H', Same H H' → Q (.bl (isNum x)) H'
def oddV (l : List Nat) (g : Nat → Bool) : List V := (l.filter fun c => !g c).map fun c => V.str ⟨#[c]⟩
theorem oddV_snoc {l : List Nat} {g : Nat → Bool} {c : Nat} : oddV (l ++ [c]) g = if g c = true then oddV l g else oddV l g ++ [V.str ⟨#[c]⟩] := by
  unfold oddV
  rw [List.filter_append, List.map_append]
  cases h : g c <;> simp [h]
theorem oddV_dp {K : PySem.W.Frag} {H : Hp} (l : List Nat) (g : Nat → Bool) : DpAll K H (oddV l g) ((l.filter fun c => !g c).map fun c => PyData.str ⟨#[c]⟩) := by
  unfold oddV
  induction l.filter fun c => !g c with
  | nil => exact .nil
  | cons a b ih => exact .cons (.str _) ih
theorem Low.ok {x : Str} (h : Low x) : PyData.canLay0 (.str x) = true := by
  simp only [PyData.canLay0]
  unfold PySem.PyData.strOk
  rw [← Array.all_toList]
  exact List.all_eq_true.mpr fun c hc => decide_eq_true (by have := h c hc; omega)
theorem lay_strs : ∀ l : List Str, (∀ x ∈ l, Low x) → PyData.canLayAll0 (l.map PyData.str) = true
  | [], _ => by simp only [List.map_nil, PyData.canLayAll0]
  | x :: l, h => by
    simp only [List.map_cons, PyData.canLayAll0, (h x List.mem_cons_self).ok, lay_strs l fun y hy => h y (List.mem_cons_of_mem _ hy), Bool.and_self]
theorem dep_strs : ∀ l : List Str, PyData.depthAll (l.map PyData.str) = 0
  | [] => by simp only [List.map_nil, PyData.depthAll]
  | x :: l => by simp only [List.map_cons, PyData.depthAll, PyData.depth, dep_strs l, Nat.max_self]
theorem shp_strs {l : List Str} (h : ∀ x ∈ l, Low x) : SeqAt.shaped (.list (l.map PyData.str)) = true := by
  unfold SeqAt.shaped
  simp only [PyData.canLay0, lay_strs l h, PyData.depth, dep_strs]
  rfl
theorem odd_len (l : List Nat) (g : Nat → Bool) : (oddV l g).length ≤ l.length := by
  unfold oddV
  rw [List.length_map]
  exact List.length_filter_le _ _
theorem take_snoc2 {l : List Nat} {i c : Nat} (h : l[i]? = some c) : l.take (i + 1) = l.take i ++ [c] := by
  rw [List.take_succ, h]
  rfl
theorem odd_none (l : List Nat) (g : Nat → Bool) : ((l.filter fun c => !g c).map fun c => PyData.str ⟨#[c]⟩).isEmpty = l.all g := by
  induction l with
  | nil => rfl
  | cons c l ih =>
    cases h : g c <;> simp_all
theorem odd_list {K : PySem.W.Frag} {H : Hp} {D : Addr} {l : List Nat} {g : Nat → Bool} (h : H D = some (.lst (oddV l g))) : Dp K H (.ref D) (.list ((l.filter fun c => !g c).map fun c => PyData.str ⟨#[c]⟩)) :=
  .lst (SqL.of h) (oddV_dp l g)
theorem odd_shp {l : List Nat} {g : Nat → Bool} (h : ∀ c ∈ l, c < 128) : SeqAt.shaped (.list ((l.filter fun c => !g c).map fun c => PyData.str ⟨#[c]⟩)) = true := by
  have e : ((l.filter fun c => !g c).map fun c => PyData.str ⟨#[c]⟩) = ((l.filter fun c => !g c).map fun c => (⟨#[c]⟩ : Str)).map PyData.str := by
    rw [List.map_map]
    rfl
  rw [e]
  refine shp_strs fun x hx => ?_
  obtain ⟨c, hc, rfl⟩ := List.mem_map.mp hx
  intro d hd
  have hd : d ∈ [c] := hd
  rw [List.mem_singleton.mp hd]
  exact h c ((List.mem_filter.mp hc).1)
theorem eqv_nilL (ds : List PyData) : PyData.eqv (.list ds) (.list []) = ds.isEmpty := by
  cases ds with
  | nil => simp only [PyData.eqv, PyData.eqvAll, List.isEmpty_nil]
  | cons d ds => simp only [PyData.eqv, PyData.eqvAll, List.isEmpty_cons]
theorem cut_take1 (x : Str) : (cutS x none (some 1)).cps.toList = x.cps.toList.take 1 := by
  unfold cutS
  rw [HT.sIx_none, show (1 : Int) = ((1 : Nat) : Int) from rfl, HT.sIx_nat]
  show (List.take (min 1 x.length - 0) (List.drop 0 x.cps.toList)) = _
  rw [List.drop_zero, Nat.sub_zero]
  have l : x.length = x.cps.toList.length := by simp [len_cps]
  rw [l]
  cases x.cps.toList with
  | nil => rfl
  | cons a b => simp
theorem cut_drop1 (x : Str) : (cutS x (some 1) none).cps.toList = x.cps.toList.drop 1 := by
  unfold cutS
  rw [HT.sIx_none, show (1 : Int) = ((1 : Nat) : Int) from rfl, HT.sIx_nat]
  show (List.take (x.length - min 1 x.length) (List.drop (min 1 x.length) x.cps.toList)) = _
  have l : x.length = x.cps.toList.length := by simp [len_cps]
  rw [l]
  cases x.cps.toList with
  | nil => rfl
  | cons a b => simp
theorem cut1_m (x : Str) : (cutS x none (some 1) = "-") ↔ x.cps.toList.head? = some 45 := by
  have e := cut_take1 x
  constructor
  · intro h
    rw [h, cps_minus] at e
    cases q : x.cps.toList with
    | nil =>
      rw [q] at e
      cases e
    | cons a b =>
      rw [q, List.take_succ_cons, List.take_zero] at e
      rw [← (List.cons.inj e).1]
      rfl
  · intro h
    refine str_ext ?_
    rw [e, cps_minus]
    cases q : x.cps.toList with
    | nil =>
      rw [q] at h
      cases h
    | cons a b =>
      rw [q] at h
      rw [List.take_succ_cons, List.take_zero, Option.some.inj h]
theorem cps_m0 : (("-0" : Str)).cps.toList = [45, 48] := by decide +kernel
/-- the law's last row about numbers -/
theorem num_last {x y : Str} (hy : y.cps.toList = digsOf x.cps.toList) (h1 : 1 ≤ (digsOf x.cps.toList).length) (h2 : (digsOf x.cps.toList).length ≤ 18) (h3 : (digsOf x.cps.toList).all digOk = true) :
    isNum x = (if x = "-0" then false else if y = "0" then true else decide (y.cps.toList.head? ≠ some 48)) := by
  unfold isNum
  rw [decide_eq_true h1, decide_eq_true h2, h3, ← hy]
  by_cases a : x = "-0"
  · rw [if_pos a, hy, a, cps_m0]
    decide +kernel
  · rw [if_neg a]
    by_cases b : y = "0"
    · rw [if_pos b, b]
      have e : x = "0" := by
        refine str_ext ?_
        rw [b, cps_0] at hy
        rw [cps_0]
        cases q : x.cps.toList with
        | nil =>
          rw [q] at hy
          cases hy
        | cons c r =>
          rw [q] at hy
          by_cases c45 : c = 45
          · subst c45
            have hy : [48] = r := hy
            refine absurd (str_ext ?_) a
            rw [q, cps_m0, ← hy]
          · have e2 : digsOf (c :: r) = c :: r := by
              unfold digsOf
              split
              · rename_i z
                exact absurd (List.cons.inj z).1 c45
              · rfl
            rw [e2] at hy
            exact hy.symm
      rw [decide_eq_true e]
      simp
    · rw [if_neg b]
      have e : ¬ x = "0" := fun z => b (str_ext (by rw [hy, z, cps_0]; rfl))
      rw [decide_eq_false e, Bool.or_false]
      rfl
theorem mem_rng {a n c : Nat} : c ∈ (List.range n).map (fun k => k + a) ↔ a ≤ c ∧ c < a + n := by
  simp only [List.mem_map, List.mem_range]
  constructor
  · rintro ⟨k, h, rfl⟩
    omega
  · intro h
    exact ⟨c - a, by omega, by omega⟩
theorem in_letters (c : Nat) : (!(Builtin.Str.occurrences ("abcdefghijklmnopqrstuvwxyz" : Str) ⟨#[c]⟩ 0 ("abcdefghijklmnopqrstuvwxyz" : Str).length 1).isEmpty) = lowOk c := by
  rw [PySem.StrLaws.found_one]
  have e : ("abcdefghijklmnopqrstuvwxyz" : Str).cps.toList = (List.range 26).map (fun k => k + 97) := by decide +kernel
  rw [e]
  unfold lowOk
  by_cases h : 97 ≤ c ∧ c < 97 + 26
  · rw [decide_eq_true (mem_rng.mpr h), decide_eq_true h.1, decide_eq_true (by omega)]
    rfl
  · rw [decide_eq_false fun z => h (mem_rng.mp z)]
    by_cases h1 : 97 ≤ c
    · rw [decide_eq_true h1, decide_eq_false (by omega)]
      rfl
    · rw [decide_eq_false h1]
      rfl
theorem in_digits (c : Nat) : (!(Builtin.Str.occurrences ("0123456789" : Str) ⟨#[c]⟩ 0 ("0123456789" : Str).length 1).isEmpty) = digOk c := by
  rw [PySem.StrLaws.found_one]
  have e : ("0123456789" : Str).cps.toList = (List.range 10).map (fun k => k + 48) := by decide +kernel
  rw [e]
  unfold digOk
  by_cases h : 48 ≤ c ∧ c < 48 + 10
  · rw [decide_eq_true (mem_rng.mpr h), decide_eq_true h.1, decide_eq_true (by omega)]
    rfl
  · rw [decide_eq_false fun z => h (mem_rng.mp z)]
    by_cases h1 : 48 ≤ c
    · rw [decide_eq_true h1, decide_eq_false (by omega)]
      rfl
    · rw [decide_eq_false h1]
      rfl
section
variable {P : Program} {w : World} {K : PySem.W.Frag} {mg : Str → Option Value} {base : Heap} {f fN fI : Addr} {fd dN dI : FuncData}
theorem ok_lname {k : Nat} (F : Fun K "_law_is_name" "_law_is_name" sLName f fd) (mn : mg "len" = none) : FnOk P w K mg base CX0 (k + 1) f fd ["_law_word_here"] spNameL := by
  refine F.ok scLName (fun vs H Q E h => ?_) (fun cdv A outer s H vs Q E hr h => ?_)
  · obtain ⟨x, rfl, _⟩ := h
    rfl
  obtain ⟨x, rfl, hx, hlo, q⟩ := h
  refine ⟨_, pss_cons (ps_set (i := 1) scLName.nd rfl (.inr rfl) pe_str)
    (pss_one (ps_ret (pe_and (pe_chain op_le op_le pe_int (pe_callB call_len_str (by rfl) mn PySem.boot_len (pa_cons (pv 0) pa_nil)) pe_int) (pe_one (pe_cmpR (op_eqD hr.units) (pe_lc (own := [("_law_one", 2)]) (g := gName 2) (by rfl) scLName.nd (pi_str (pv 0))
      (blkOk_by (own := [("_law_one", 2)]) (N := ["_law_word_here", "_law_letters", "_law_one"]) (sc := defScope sLName) (by decide +kernel))
      (fun _ _ _ _ _ => pg_name (i := 2) scLName.nd rfl (Or.inl rfl)) (fun _ _ _ _ _ => pts_one (pt_cmpR op_notin_str (pv 2) (pv 1) rfl)) (fun _ _ _ _ _ => pv 2)) (pe_lst pa_nil) (nomark _)))))), ?_⟩
  refine ⟨_, rfl, x, rfl, few3 hx, _, _, rfl, rfl, _, rfl, ite2 (fun c1 => ?_) (fun c1 => ?_)⟩
  · have c1 : 1 ≤ (x.length : Int) := of_decide_eq_true c1
    refine ⟨_, _, rfl, rfl, _, rfl, ?_⟩
    by_cases c2 : (x.length : Int) ≤ 8
    · rw [decide_eq_true c2]
      refine iteT ⟨_, rfl, x, rfl, fun D hD => ?_⟩
      refine lc_it walk_str (fun i H2 => H2 D = some (.lst (oddV (x.cps.toList.take i) lowOk)) ∧ Same H H2) ⟨upd_same, same_new hD _⟩ (fun _ _ _ _ => True.intro) ?_ ?_
      · rintro i y H2 H3 hi ⟨h1, h2⟩ ⟨rfl, c, hc, rfl⟩
        refine ⟨rfl, _, rfl, _, rfl, _, _, rfl, rfl, ?_⟩
        rw [in_letters]
        have tk : x.cps.toList.take (i + 1) = x.cps.toList.take i ++ [c] := take_snoc2 (cps_at hc)
        rw [tk, oddV_snoc]
        cases hg : lowOk c with
        | true => exact ⟨_, rfl, iteF ⟨by rw [if_pos rfl]; exact h1, h2⟩⟩
        | false =>
          refine ⟨_, rfl, iteT ⟨_, rfl, _, h1, ?_, by rw [upd_same, if_neg (by decide)], fun b2 o e => by rw [upd_ne (ne_of_none e hD)]; exact h2 b2 o e⟩⟩
          have lo := odd_len (x.cps.toList.take i) lowOk
          rw [List.length_take] at lo
          have : x.cps.toList.length = x.length := by simp [len_cps]
          exact small1000 (by omega)
      · rintro H2 ⟨h1, h2⟩
        refine ⟨by decide, fun p hp => ?_⟩
        have s3 : Same H2 (upd H2 p (.lst [])) := same_new hp _
        have sz : x.cps.toList.take x.cps.size = x.cps.toList := List.take_of_length_le (by simp)
        rw [sz] at h1
        refine ⟨_, .list [], odd_list (s3 _ _ h1), .lst (SqL.of upd_same) .nil, odd_shp hlo, by decide +kernel, ?_⟩
        rw [eqv_nilL, odd_none]
        have e : isNm x = x.cps.toList.all lowOk := by
          have a1 : 1 ≤ x.length := by omega
          have a2 : x.length ≤ 8 := by omega
          show (decide (1 ≤ x.length) && decide (x.length ≤ 8) && x.cps.toList.all lowOk) = _
          rw [decide_eq_true a1, decide_eq_true a2]
          rfl
        rw [e] at q
        exact q _ (h2.trans s3)
    · rw [decide_eq_false c2]
      refine iteF ?_
      have e : isNm x = false := by
        have a2 : ¬ x.length ≤ 8 := by omega
        show (decide (1 ≤ x.length) && decide (x.length ≤ 8) && x.cps.toList.all lowOk) = _
        rw [decide_eq_false a2, Bool.and_false, Bool.false_and]
      rw [e] at q
      exact q H (Same.refl H)
  · have c1 : ¬ 1 ≤ (x.length : Int) := of_decide_eq_false (Bool.eq_false_iff.mpr c1)
    have e : isNm x = false := by
      have a2 : ¬ x.length ≥ 1 := by omega
      show (decide (1 ≤ x.length) && decide (x.length ≤ 8) && x.cps.toList.all lowOk) = _
      rw [decide_eq_false a2, Bool.false_and, Bool.false_and]
    rw [e] at q
    exact ⟨_, rfl, iteF (q H (Same.refl H))⟩
theorem ok_lint {k : Nat} (F : Fun K "_law_is_integer" "_law_is_integer" sLInt f fd) (mn : mg "len" = none) : FnOk P w K mg base CX0 (k + 1) f fd ["_law_word_here"] spNumL := by
  refine F.ok scLInt (fun vs H Q E h => ?_) (fun cdv A outer s H vs Q E hr h => ?_)
  · obtain ⟨x, rfl, _⟩ := h
    rfl
  obtain ⟨x, rfl, hx, hlo, q⟩ := h
  refine ⟨_, pss_cons (ps_set (i := 1) scLInt.nd rfl (.inl rfl) (pe_ifExp (pt_cmpR op_eq (pe_slice sl_str (pv 0) po_none (po_some pe_int)) pe_str (nomark _)) (pe_slice sl_str (pv 0) (po_some pe_int) po_none) (pv 0)))
    (pss_cons (ps_if (PW.pt (pw_or (pt_not (pt_chain op_le op_le pe_int (pe_callB call_len_str (by rfl) mn PySem.boot_len (pa_cons (pv 1) pa_nil)) pe_int))
        (pw_or1 (pt_cmpR (op_neD hr.units) (pe_lc (own := [("_law_one", 2)]) (g := gName 2) (by rfl) scLInt.nd (pi_str (pv 1))
          (blkOk_by (own := [("_law_one", 2)]) (N := ["_law_word_here", "_law_digits", "_law_one"]) (sc := defScope sLInt) (by decide +kernel))
          (fun _ _ _ _ _ => pg_name (i := 2) scLInt.nd rfl (Or.inl rfl)) (fun _ _ _ _ _ => pts_one (pt_cmpR op_notin_str (pv 2) pe_str rfl)) (fun _ _ _ _ _ => pv 2)) (pe_lst pa_nil) (nomark _))))) (pss_one (ps_ret pe_bl)) pss_nil)
    (pss_one (ps_ret (pe_and (pe_cmpR op_ne (pv 0) pe_str (nomark _)) (pe_one (pe_or (pe_cmpR op_eq (pv 1) pe_str (nomark _)) (pe_one (pe_cmpR op_ne (pe_ix ix_str (pv 1) pe_int (fun _ _ => rfl)) pe_str (nomark _))))))))), ?_⟩
  refine ⟨_, rfl, _, rfl, _, rfl, few3 hx, rfl, _, rfl, ite2 (fun cm => ?_) (fun cm => ?_)⟩
  · have c45 := (cut1_m x).mp (V.str.inj (of_decide_eq_true cm))
    refine ⟨_, rfl, _, rfl, _, rfl, few3 hx, ?_⟩
    have hy : (cutS x (some 1) none).cps.toList = digsOf x.cps.toList := by
      rw [cut_drop1]
      cases z : x.cps.toList with
      | nil => rfl
      | cons a b =>
        rw [z] at c45
        rw [Option.some.inj c45]
        rfl
    have hyl : (cutS x (some 1) none).length ≤ 16000000 := Nat.le_trans (cut_len _ _ _) hx
    have hyo : ∀ c ∈ (cutS x (some 1) none).cps.toList, c < 128 := fun c hc => by
      rw [cut_drop1] at hc
      exact hlo c (List.mem_of_mem_drop hc)
    generalize cutS x (some 1) none = y at hy hyl hyo
    have ly : y.length = y.cps.toList.length := by simp [len_cps]
    refine ⟨_, rfl, y, rfl, few3 hyl, _, _, rfl, rfl, _, rfl, ite2 (fun c1 => ?_) (fun c1 => ?_)⟩
    · have c1 : 1 ≤ (y.length : Int) := of_decide_eq_true c1
      refine ⟨_, _, rfl, rfl, _, rfl, ?_⟩
      by_cases c2 : (y.length : Int) ≤ 18
      · rw [decide_eq_true c2]
        refine iteF ?_
        refine ⟨_, rfl, y, rfl, fun D hD => ?_⟩
        refine lc_it walk_str (fun i H2 => H2 D = some (.lst (oddV (y.cps.toList.take i) digOk)) ∧ Same H H2) ⟨upd_same, same_new hD _⟩ (fun _ _ _ _ => True.intro) ?_ ?_
        · rintro i y2 H2 H3 hi ⟨h1, h2⟩ ⟨rfl, c, hc, rfl⟩
          refine ⟨rfl, _, rfl, _, _, rfl, rfl, ?_⟩
          rw [in_digits]
          have tk : y.cps.toList.take (i + 1) = y.cps.toList.take i ++ [c] := take_snoc2 (cps_at hc)
          rw [tk, oddV_snoc]
          cases hg : digOk c with
          | true => exact ⟨_, rfl, iteF ⟨by rw [if_pos rfl]; exact h1, h2⟩⟩
          | false =>
            refine ⟨_, rfl, iteT ⟨_, rfl, _, h1, ?_, by rw [upd_same, if_neg (by decide)], fun b2 o e => by rw [upd_ne (ne_of_none e hD)]; exact h2 b2 o e⟩⟩
            have lo := odd_len (y.cps.toList.take i) digOk
            rw [List.length_take] at lo
            exact small1000 (by omega)
        · rintro H2 ⟨h1, h2⟩
          refine ⟨by decide, fun p hp => ?_⟩
          have s3 : Same H2 (upd H2 p (.lst [])) := same_new hp _
          have sz : y.cps.toList.take y.cps.size = y.cps.toList := List.take_of_length_le (by simp)
          rw [sz] at h1
          refine ⟨_, .list [], odd_list (s3 _ _ h1), .lst (SqL.of upd_same) .nil, odd_shp hyo, by decide +kernel, _, rfl, ?_⟩
          rw [eqv_nilL, odd_none]
          cases ha : y.cps.toList.all digOk with
          | false =>
            have e : isNum x = false := by
              unfold isNum
              rw [← hy, ha, Bool.and_false, Bool.false_and]
            rw [e] at q
            exact iteT (q _ (h2.trans s3))
          | true =>
            have e := num_last hy (by rw [← hy]; omega) (by rw [← hy]; omega) (by rw [← hy]; exact ha)
            refine iteF ⟨_, rfl, rfl, _, rfl, ite2 (fun c3 => ?_) (fun c3 => ?_)⟩
            · have n0 : ¬ x = "-0" := fun z => by
                rw [z, decide_eq_true rfl] at c3
                cases c3
              rw [if_neg n0] at e
              refine ⟨_, rfl, rfl, _, rfl, ite2 (fun c4 => ?_) (fun c4 => ?_)⟩
              · rw [if_pos (V.str.inj (of_decide_eq_true c4))] at e
                rw [e] at q
                exact q _ (h2.trans s3)
              · rw [if_neg (fun z => c4 (decide_eq_true (by rw [z])))] at e
                obtain ⟨c, r, er⟩ : ∃ c r, y.cps.toList = c :: r := by
                  cases z : y.cps.toList with
                  | nil =>
                    rw [z] at ly
                    rw [ly] at c1
                    exact absurd c1 (by decide)
                  | cons a b => exact ⟨a, b, rfl⟩
                refine ⟨_, rfl, y, 0, c, rfl, rfl, few3 hyl, by rw [er]; exact atI_nat (j := 0) rfl, rfl, ?_⟩
                have e48 : (!decide (V.str ⟨#[c]⟩ = V.str "0")) = decide (y.cps.toList.head? ≠ some 48) := by
                  rw [er, ch_zero]
                  by_cases z : c = 48
                  · rw [z, decide_eq_true rfl, decide_eq_false (show ¬ ((48 :: r).head? ≠ some 48) from fun w => w rfl)]
                    rfl
                  · rw [decide_eq_false (fun w => z ((sg_one c 48).mp (V.str.inj w))), decide_eq_true (show (c :: r).head? ≠ some 48 from fun w => z (Option.some.inj w))]
                    rfl
                rw [e48, ← e]
                exact q _ (h2.trans s3)
            · have z0 : x = "-0" := by
                have c3 := Bool.eq_false_iff.mpr c3
                rw [Bool.not_eq_false', decide_eq_true_eq] at c3
                exact V.str.inj c3
              rw [if_pos z0] at e
              rw [e] at q
              exact q _ (h2.trans s3)
      · rw [decide_eq_false c2]
        refine iteT ?_
        have e : isNum x = false := by
          unfold isNum
          rw [← hy, decide_eq_false (show ¬ y.cps.toList.length ≤ 18 by omega), Bool.and_false, Bool.false_and, Bool.false_and]
        rw [e] at q
        exact q _ (Same.refl H)
    · have c1 : ¬ 1 ≤ (y.length : Int) := of_decide_eq_false (Bool.eq_false_iff.mpr c1)
      have e : isNum x = false := by
        unfold isNum
        rw [← hy, decide_eq_false (show ¬ 1 ≤ y.cps.toList.length by omega), Bool.false_and, Bool.false_and, Bool.false_and]
      rw [e] at q
      exact ⟨_, rfl, iteT (q _ (Same.refl H))⟩
  · have n45 : ¬ x.cps.toList.head? = some 45 := fun z => cm (decide_eq_true (by rw [(cut1_m x).mpr z]))
    have hy : x.cps.toList = digsOf x.cps.toList := by
      unfold digsOf
      split
      · rename_i r z
        rw [z] at n45
        exact absurd rfl n45
      · rfl
    have hyl := hx
    have hyo := hlo
    refine ⟨_, rfl, ?_⟩
    have ly : x.length = x.cps.toList.length := by simp [len_cps]
    refine ⟨_, rfl, x, rfl, few3 hyl, _, _, rfl, rfl, _, rfl, ite2 (fun c1 => ?_) (fun c1 => ?_)⟩
    · have c1 : 1 ≤ (x.length : Int) := of_decide_eq_true c1
      refine ⟨_, _, rfl, rfl, _, rfl, ?_⟩
      by_cases c2 : (x.length : Int) ≤ 18
      · rw [decide_eq_true c2]
        refine iteF ?_
        refine ⟨_, rfl, x, rfl, fun D hD => ?_⟩
        refine lc_it walk_str (fun i H2 => H2 D = some (.lst (oddV (x.cps.toList.take i) digOk)) ∧ Same H H2) ⟨upd_same, same_new hD _⟩ (fun _ _ _ _ => True.intro) ?_ ?_
        · rintro i y2 H2 H3 hi ⟨h1, h2⟩ ⟨rfl, c, hc, rfl⟩
          refine ⟨rfl, _, rfl, _, _, rfl, rfl, ?_⟩
          rw [in_digits]
          have tk : x.cps.toList.take (i + 1) = x.cps.toList.take i ++ [c] := take_snoc2 (cps_at hc)
          rw [tk, oddV_snoc]
          cases hg : digOk c with
          | true => exact ⟨_, rfl, iteF ⟨by rw [if_pos rfl]; exact h1, h2⟩⟩
          | false =>
            refine ⟨_, rfl, iteT ⟨_, rfl, _, h1, ?_, by rw [upd_same, if_neg (by decide)], fun b2 o e => by rw [upd_ne (ne_of_none e hD)]; exact h2 b2 o e⟩⟩
            have lo := odd_len (x.cps.toList.take i) digOk
            rw [List.length_take] at lo
            exact small1000 (by omega)
        · rintro H2 ⟨h1, h2⟩
          refine ⟨by decide, fun p hp => ?_⟩
          have s3 : Same H2 (upd H2 p (.lst [])) := same_new hp _
          have sz : x.cps.toList.take x.cps.size = x.cps.toList := List.take_of_length_le (by simp)
          rw [sz] at h1
          refine ⟨_, .list [], odd_list (s3 _ _ h1), .lst (SqL.of upd_same) .nil, odd_shp hyo, by decide +kernel, _, rfl, ?_⟩
          rw [eqv_nilL, odd_none]
          cases ha : x.cps.toList.all digOk with
          | false =>
            have e : isNum x = false := by
              unfold isNum
              rw [← hy, ha, Bool.and_false, Bool.false_and]
            rw [e] at q
            exact iteT (q _ (h2.trans s3))
          | true =>
            have e := num_last hy (by rw [← hy]; omega) (by rw [← hy]; omega) (by rw [← hy]; exact ha)
            refine iteF ⟨_, rfl, rfl, _, rfl, ite2 (fun c3 => ?_) (fun c3 => ?_)⟩
            · have n0 : ¬ x = "-0" := fun z => by
                rw [z, decide_eq_true rfl] at c3
                cases c3
              rw [if_neg n0] at e
              refine ⟨_, rfl, rfl, _, rfl, ite2 (fun c4 => ?_) (fun c4 => ?_)⟩
              · rw [if_pos (V.str.inj (of_decide_eq_true c4))] at e
                rw [e] at q
                exact q _ (h2.trans s3)
              · rw [if_neg (fun z => c4 (decide_eq_true (by rw [z])))] at e
                obtain ⟨c, r, er⟩ : ∃ c r, x.cps.toList = c :: r := by
                  cases z : x.cps.toList with
                  | nil =>
                    rw [z] at ly
                    rw [ly] at c1
                    exact absurd c1 (by decide)
                  | cons a b => exact ⟨a, b, rfl⟩
                refine ⟨_, rfl, x, 0, c, rfl, rfl, few3 hyl, by rw [er]; exact atI_nat (j := 0) rfl, rfl, ?_⟩
                have e48 : (!decide (V.str ⟨#[c]⟩ = V.str "0")) = decide (x.cps.toList.head? ≠ some 48) := by
                  rw [er, ch_zero]
                  by_cases z : c = 48
                  · rw [z, decide_eq_true rfl, decide_eq_false (show ¬ ((48 :: r).head? ≠ some 48) from fun w => w rfl)]
                    rfl
                  · rw [decide_eq_false (fun w => z ((sg_one c 48).mp (V.str.inj w))), decide_eq_true (show (c :: r).head? ≠ some 48 from fun w => z (Option.some.inj w))]
                    rfl
                rw [e48, ← e]
                exact q _ (h2.trans s3)
            · have z0 : x = "-0" := by
                have c3 := Bool.eq_false_iff.mpr c3
                rw [Bool.not_eq_false', decide_eq_true_eq] at c3
                exact V.str.inj c3
              rw [if_pos z0] at e
              rw [e] at q
              exact q _ (h2.trans s3)
      · rw [decide_eq_false c2]
        refine iteT ?_
        have e : isNum x = false := by
          unfold isNum
          rw [← hy, decide_eq_false (show ¬ x.cps.toList.length ≤ 18 by omega), Bool.and_false, Bool.false_and, Bool.false_and]
        rw [e] at q
        exact q _ (Same.refl H)
    · have c1 : ¬ 1 ≤ (x.length : Int) := of_decide_eq_false (Bool.eq_false_iff.mpr c1)
      have e : isNum x = false := by
        unfold isNum
        rw [← hy, decide_eq_false (show ¬ 1 ≤ x.cps.toList.length by omega), Bool.false_and, Bool.false_and, Bool.false_and]
      rw [e] at q
      exact ⟨_, rfl, iteT (q _ (Same.refl H))⟩
theorem ok_lfit {k : Nat} (F : Fun K "_law_is_fit" "_law_is_fit" sLFit f fd) (GN : Dn P w K mg base 1 "_law_is_name" ["_law_word_here"] spNameL fN dN) (GI : Dn P w K mg base 1 "_law_is_integer" ["_law_word_here"] spNumL fI dI) :
    FnOk P w K mg base CX0 (k + 2) f fd ["_law_mark", "_law_word_here"] spFit := by
  refine F.ok scLFit (fun vs H Q E h => ?_) (fun cdv A outer s H vs Q E hr h => ?_)
  · obtain ⟨m, x, rfl, _⟩ := h
    rfl
  obtain ⟨m, x, rfl, hx, hlo, q⟩ := h
  have hr1 : Room 1 _ := hr.mono (by omega)
  refine ⟨_, pss_cons (ps_if (pt_cmpR op_eq (pv 0) pe_str (nomark _)) (pss_one (ps_ret (pe_call GN.ok hr1 (by rfl) GN.mg GN.kp GN.bd .nil pass0 (pa_cons (pv 1) pa_nil)))) pss_nil)
    (pss_cons (ps_if (pt_cmpR op_eq (pv 0) pe_str (nomark _)) (pss_one (ps_ret (pe_cmpR op_in_seq (pv 1) (pe_tup (pa_cons pe_str (pa_cons pe_str (pa_cons pe_str pa_nil)))) rfl))) pss_nil)
    (pss_cons (ps_if (pt_cmpR op_in_seq (pv 0) (pe_tup (pa_cons pe_str (pa_cons pe_str pa_nil))) rfl) (pss_one (ps_ret (pe_and (pe_call GI.ok hr1 (by rfl) GI.mg GI.kp GI.bd .nil pass0 (pa_cons (pv 1) pa_nil)) (pe_one (pe_or (pe_cmpR op_eq (pv 0) pe_str (nomark _)) (pe_one (pe_cmpR op_ne (pe_ix ix_str (pv 1) pe_int (fun _ _ => rfl)) pe_str (nomark _)))))))) pss_nil)
    (pss_cons (ps_if (PW.pt (pw_or (pt_cmpR op_ne (pv 0) pe_str (nomark _)) (pw_or (pt_val (pe_call GI.ok hr1 (by rfl) GI.mg GI.kp GI.bd .nil pass0 (pa_cons (pv 1) pa_nil))) (pw_or1 (pt_val (pe_call GN.ok hr1 (by rfl) GN.mg GN.kp GN.bd .nil pass0 (pa_cons (pv 1) pa_nil)))))))
      (pss_one (ps_ret (pe_cmpR op_eq (pv 0) pe_str (nomark _)))) pss_nil)
    (pss_one (ps_ret (pe_and (pe_cmpR op_eq (pe_slice sl_str (pv 1) po_none (po_some pe_int)) pe_str (nomark _)) (pe_one (pe_call GN.ok hr1 (by rfl) GN.mg GN.kp GN.bd .nil pass0 (pa_cons (pe_slice sl_str (pv 1) (po_some pe_int) po_none) pa_nil))))))))), ?_⟩
  have seq : ∀ y : Str, (decide (V.str m = V.str y) = true) ↔ m = y := fun y => ⟨fun z => V.str.inj (of_decide_eq_true z), fun z => decide_eq_true (by rw [z])⟩
  refine ⟨_, rfl, rfl, _, rfl, ite2 (fun c1 => ?_) (fun c1 => ?_)⟩
  · have e : fitB m x = isNm x := by
      unfold fitB
      rw [if_pos ((seq _).mp c1)]
    rw [e] at q
    exact ⟨_, rfl, x, rfl, hx, hlo, q⟩
  have n1 : ¬ m = "n" := fun z => c1 ((seq _).mpr z)
  refine ⟨_, rfl, rfl, _, rfl, ite2 (fun c2 => ?_) (fun c2 => ?_)⟩
  · have e : fitB m x = decide (x = "integer" ∨ x = "atom" ∨ x = "tuple") := by
      unfold fitB
      rw [if_neg n1, if_pos ((seq _).mp c2)]
    rw [e] at q
    refine ⟨_, rfl, few (by simp), fun T hT => ⟨T, _, rfl, .inr (.inl (.inl upd_same)), rfl, rfl, ?_⟩⟩
    have e2 : inV (.str x) [.str "integer", .str "atom", .str "tuple"] = decide (x = "integer" ∨ x = "atom" ∨ x = "tuple") := by
      simp only [inV, List.any_cons, List.any_nil, eqV, Bool.or_false]
      rw [Bool.eq_iff_iff]
      simp only [Bool.or_eq_true, beq_iff_eq, decide_eq_true_eq]
      exact ⟨fun z => z.imp Eq.symm (Or.imp Eq.symm Eq.symm), fun z => z.imp Eq.symm (Or.imp Eq.symm Eq.symm)⟩
    rw [e2]
    exact q _ (same_new hT _)
  have n2 : ¬ m = "w" := fun z => c2 ((seq _).mpr z)
  refine ⟨_, rfl, few (by simp), fun T hT => ⟨T, _, rfl, .inr (.inl (.inl upd_same)), rfl, rfl, _, rfl, ?_⟩⟩
  have s1 : Same H (upd H T (.tup [.str "k", .str "i"])) := same_new hT _
  generalize upd H T (.tup [.str "k", .str "i"]) = H1 at s1
  refine ite2 (fun c3 => ?_) (fun c3 => ?_)
  · have m3 := (inVv _ _ _).mp c3
    have e : fitB m x = (isNum x && (decide (m = "k") || decide (x.cps.toList.head? ≠ some 45))) := by
      unfold fitB
      rw [if_neg n1, if_neg n2, if_pos m3]
    rw [e] at q
    refine ⟨_, rfl, x, rfl, hx, hlo, fun H2 s2 => ⟨_, rfl, ?_⟩⟩
    cases hn : isNum x with
    | false =>
      rw [hn, Bool.false_and] at q
      exact iteF (q _ (s1.trans s2))
    | true =>
      rw [hn, Bool.true_and] at q
      refine iteT ⟨_, rfl, rfl, _, rfl, ite2 (fun c4 => ?_) (fun c4 => ?_)⟩
      · rw [decide_eq_true ((seq _).mp c4), Bool.true_or] at q
        exact q _ (s1.trans s2)
      · rw [decide_eq_false (fun z => c4 ((seq _).mpr z)), Bool.false_or] at q
        have nz := (num_is hn).1.p
        obtain ⟨c, r, er⟩ : ∃ c r, x.cps.toList = c :: r := by
          cases z : x.cps.toList with
          | nil =>
            rw [len_cps, ← Array.length_toList, z] at nz
            cases nz
          | cons a b => exact ⟨a, b, rfl⟩
        refine ⟨_, rfl, x, 0, c, rfl, rfl, few3 hx, by rw [er]; exact atI_nat (j := 0) rfl, rfl, ?_⟩
        have e45 : (!decide (V.str ⟨#[c]⟩ = V.str "-")) = decide (x.cps.toList.head? ≠ some 45) := by
          rw [er, ch_minus]
          by_cases z : c = 45
          · rw [z, decide_eq_true rfl, decide_eq_false (show ¬ ((45 :: r).head? ≠ some 45) from fun w => w rfl)]
            rfl
          · rw [decide_eq_false (fun w => z ((sg_one c 45).mp (V.str.inj w))), decide_eq_true (show (c :: r).head? ≠ some 45 from fun w => z (Option.some.inj w))]
            rfl
        rw [e45]
        exact q _ (s1.trans s2)
  have n3 : ¬ (m = "k" ∨ m = "i") := fun z => c3 ((inVv _ _ _).mpr z)
  have e : fitB m x = if ¬ m = "e" ∨ isNum x = true ∨ isNm x = true then decide (m = "e") else qName x := by
    unfold fitB
    rw [if_neg n1, if_neg n2, if_neg n3]
  refine ⟨_, rfl, rfl, _, rfl, ite2 (fun c4 => ?_) (fun c4 => ?_)⟩
  · have ne : ¬ m = "e" := fun z => by
      rw [(seq _).mpr z] at c4
      cases c4
    rw [if_pos (.inl ne), decide_eq_false ne] at e
    rw [e] at q
    refine ⟨_, rfl, rfl, ?_⟩
    rw [decide_eq_false fun z => ne (V.str.inj z)]
    exact q _ s1
  · have me : m = "e" := by
      have c4 := Bool.eq_false_iff.mpr c4
      rw [Bool.not_eq_false', decide_eq_true_eq] at c4
      exact V.str.inj c4
    refine ⟨_, rfl, x, rfl, hx, hlo, fun H2 s2 => ⟨_, rfl, ?_⟩⟩
    cases hn : isNum x with
    | true =>
      rw [if_pos (.inr (.inl hn)), decide_eq_true me] at e
      rw [e] at q
      refine iteT ⟨_, rfl, rfl, ?_⟩
      rw [decide_eq_true (by rw [me])]
      exact q _ (s1.trans s2)
    | false =>
      refine iteF ⟨_, rfl, x, rfl, hx, hlo, fun H3 s3 => ⟨_, rfl, ?_⟩⟩
      cases hm : isNm x with
      | true =>
        rw [if_pos (.inr (.inr hm)), decide_eq_true me] at e
        rw [e] at q
        refine iteT ⟨_, rfl, rfl, ?_⟩
        rw [decide_eq_true (by rw [me])]
        exact q _ (s1.trans (s2.trans s3))
      | false =>
        rw [if_neg (by rintro (z | z | z); exact z me; rw [hn] at z; cases z; rw [hm] at z; cases z)] at e
        rw [e] at q
        refine iteF ⟨_, rfl, _, rfl, _, rfl, few3 hx, rfl, _, rfl, ite2 (fun cc => ?_) (fun cc => ?_)⟩
        · have e39 := (cut1_q x).mp (V.str.inj (of_decide_eq_true cc))
          unfold qName at q
          rw [decide_eq_true e39, Bool.true_and] at q
          refine ⟨_, rfl, _, rfl, _, rfl, few3 hx, _, rfl, Nat.le_trans (cut_len _ _ _) hx, fun c hc => ?_, fun H4 s4 => q _ (s1.trans (s2.trans (s3.trans s4)))⟩
          rw [cut_drop1] at hc
          exact hlo c (List.mem_of_mem_drop hc)
        · have n39 : ¬ x.cps.toList.head? = some 39 := fun z => cc (decide_eq_true (by rw [(cut1_q x).mpr z]))
          unfold qName at q
          rw [decide_eq_false n39, Bool.false_and] at q
          exact q _ (s1.trans (s2.trans s3))
end
/-! the law's own reader -/
def oV : Option Nat → V
  | none => .non
  | some i => .int ((i : Nat) : Int)
def spFirst : Sp := fun vs H Q _ => ∃ x, vs = [.str x] ∧ x.length ≤ 4000000 ∧ Low x ∧ ∀ H', Same H H' → Q (oV (wrongW (splitW x))) H'
section
variable {X : Cx}
theorem call_listS (hc : X.calm = true) : CallR X (.type "list") (fun xs H Q => ∃ x, xs = [.str x] ∧ x.length ≤ sizeLine ∧ ∀ l, H l = none → Q (.ref l) (upd H l (.lst (x.cps.toList.map fun c => V.str ⟨#[c]⟩)))) := by
  intro pins s σ H xs us Q I r h
  obtain ⟨x, rfl, hx, q⟩ := h
  obtain ⟨u, rfl, rx⟩ := vals1 r
  obtain ⟨t, rfl⟩ := rx
  refine PySem.call_list_str (I.ok.hd hc) x t (fun h' tk acc c kp e it => ?_) hx
  have rv : Vals (x.cps.toList.map fun c => V.str ⟨#[c]⟩) acc.toList := by
    refine vals_of_idx _ _ ?_ fun j u hj => ?_
    · rw [List.length_map, Array.length_toList, it.1, Array.length_toList]
    · obtain ⟨c, t2, hc2, rfl⟩ := it.2 j u (by simpa using hj)
      exact ⟨.str ⟨#[c]⟩, by rw [List.getElem?_map, cps_at hc2]; rfl, t2, rfl⟩
  exact ⟨.ref s.heap.objs.size, _, I.laid (t' := tk) kp (Nat.le_refl _) (show ObjOk X.prog X.w _ h' _ (.lst _) from ⟨by rw [List.length_map, Array.length_toList]; exact hx, acc.toList, c, rv, by rw [Array.toArray_toList]; exact e⟩), rfl, q _ (I.hok.fresh (Nat.le_refl _))⟩
end
theorem join_mem {ws : List Str} {y : Str} {c : Nat} : y ∈ ws → c ∈ y.cps.toList → c ∈ (Str.join " " ws).cps.toList := by
  intro hy hc
  induction ws with
  | nil => cases hy
  | cons a b ih =>
    cases b with
    | nil =>
      rw [List.mem_singleton.mp hy] at hc
      exact hc
    | cons d e =>
      show c ∈ (a ++ " " ++ Str.join " " (d :: e)).cps.toList
      rw [cps_cat, cps_cat]
      rcases List.mem_cons.mp hy with z | z
      · rw [z] at hc
        simp [hc]
      · have := ih z
        simp [this]
theorem sp_mem {x y : Str} {c : Nat} (hy : y ∈ splitW x) (hc : c ∈ y.cps.toList) : c ∈ x.cps.toList := by
  have z := join_mem hy hc
  have e := PySem.StrLaws.join_split x " "
  rw [e] at z
  exact z
theorem valV_kvL {l : List (Str × Str)} {x : Str} : valV (kvL l) (Sum.inr x : Key) = (l.find? fun p => decide (p.1 = x)).map fun p => V.str p.2 := by
  induction l with
  | nil => rfl
  | cons p l ih =>
    unfold valV kvL at ih ⊢
    rw [List.map_cons, List.find?_cons, List.find?_cons]
    by_cases h : p.1 = x
    · rw [decide_eq_true h, decide_eq_true (show (Sum.inr p.1 : Key) = Sum.inr x by rw [h])]
      rfl
    · rw [decide_eq_false h, decide_eq_false (show ¬ (Sum.inr p.1 : Key) = Sum.inr x from fun z => h (Sum.inr.inj z))]
      exact ih
theorem strs_dp {K : PySem.W.Frag} {H : Hp} (l : List Str) : DpAll K H (l.map V.str) (l.map PyData.str) := by
  induction l with
  | nil => exact .nil
  | cons a b ih => exact .cons (.str _) ih
theorem low_lit {x : Str} (h : (x.cps.toList.all fun c => decide (c < 128)) = true) : Low x := fun c hc => of_decide_eq_true (List.all_eq_true.mp h c hc)
/-- a mark -/
def Mk1 (y : Str) : Prop := Low y ∧ y.length ≤ 10
theorem mk_lit {x : Str} (h : (x.cps.toList.all fun c => decide (c < 128)) = true) (l : x.length ≤ 10) : Mk1 x := ⟨low_lit h, l⟩
theorem slot_low : ∀ p ∈ allL, ∀ c ∈ p.2.cps.toList, c < 128 := by decide +kernel
theorem slot_len : ∀ p ∈ allL, p.2.cps.toList.length ≤ 5 := by decide +kernel
theorem rest_low {h sl : Str} (m : (h, sl) ∈ allL) (k : Nat) : (∀ y ∈ restL sl.cps.toList k, Mk1 y) ∧ (restL sl.cps.toList k).length ≤ 6 := by
  constructor
  · intro y hy
    unfold restL at hy
    rcases List.mem_cons.mp hy with z | z
    · rw [z]
      exact mk_lit (by decide +kernel) (by decide +kernel)
    · obtain ⟨c, hc, rfl⟩ := List.mem_map.mp (List.mem_reverse.mp z)
      refine ⟨fun d hd => ?_, by show 1 ≤ 10; decide⟩
      have hd : d ∈ [c] := hd
      rw [List.mem_singleton.mp hd]
      exact slot_low _ m c (List.mem_of_mem_drop hc)
  · unfold restL
    have := slot_len _ m
    simp only at this
    rw [List.length_cons, List.length_reverse, List.length_map, List.length_drop]
    omega
theorem Rec.low1 {b0 : List Br} {b : Br} {ws : List Str} (r : Rec (b0 ++ [b]) ws) (k : Nat) : (∀ y ∈ dueB b k, Mk1 y) ∧ (dueB b k).length ≤ 6 := by
  obtain ⟨w0, s, r0, l, w, q⟩ := r.unsnoc
  rcases q with ⟨rfl, rfl⟩ | ⟨hh, sl, found, fs, rfl, m, n, q, t, rfl⟩
  · refine ⟨fun y hy => ?_, by show 2 ≤ 6; decide⟩
    have hy : y ∈ [(")" : Str), if s = true then "head t" else "head e"] := hy
    simp only [List.mem_cons, List.not_mem_nil, or_false] at hy
    rcases hy with z | z
    · rw [z]
      exact mk_lit (by decide +kernel) (by decide +kernel)
    · rw [z]
      cases s <;> exact mk_lit (by decide +kernel) (by decide +kernel)
  · exact rest_low (tbS_all _ m) _
theorem Rec.lowO {bs : List Br} {ws : List Str} (r : Rec bs ws) : (∀ y ∈ outL bs, Mk1 y) ∧ (outL bs).length ≤ 6 * bs.length := by
  have key : ∀ (n : Nat) (bs : List Br) (ws : List Str), bs.length = n → Rec bs ws → (∀ y ∈ outL bs, Mk1 y) ∧ (outL bs).length ≤ 6 * bs.length := fun n => by
    induction n with
    | zero =>
      intro bs ws h _
      rw [List.length_eq_zero_iff.mp h]
      exact ⟨(fun _ z => nomatch z), by decide⟩
    | succ n ih =>
      intro bs ws h r
      rcases List.eq_nil_or_concat bs with e | ⟨b0, b, e⟩
      · subst e
        cases h
      · rw [List.concat_eq_append] at e
        subst e
        obtain ⟨w0, s, r0, l, w, q⟩ := r.unsnoc
        obtain ⟨a1, a2⟩ := ih b0 w0 (by simpa using h) r0
        obtain ⟨c1, c2⟩ := r.low1 1
        rw [outL_snoc]
        refine ⟨fun y hy => (List.mem_append.mp hy).elim (a1 y) (c1 y), ?_⟩
        rw [List.length_append, List.length_append, List.length_singleton]
        omega
  exact key _ _ _ rfl r
theorem Went.low {ws : List Str} {S : PSt} (g : Went ws S) : (∀ y ∈ dueS S, Mk1 y) ∧ (dueS S).length ≤ 250 := by
  rcases g with ⟨e, r⟩ | ⟨d, rfl, _⟩
  · unfold dueS
    rw [e]
    simp only
    generalize S.brs = bs at r
    rcases List.eq_nil_or_concat bs with e | ⟨b0, b, e⟩
    · subst e
      refine ⟨fun y hy => ?_, by decide⟩
      have hy : y ∈ [("e" : Str)] := hy
      rw [List.mem_singleton.mp hy]
      exact mk_lit (by decide +kernel) (by decide +kernel)
    · rw [List.concat_eq_append] at e
      subst e
      obtain ⟨w0, s, r0, l, w, q⟩ := r.unsnoc
      obtain ⟨a1, a2⟩ := r0.lowO
      obtain ⟨c1, c2⟩ := r.low1 0
      rw [dueL_snoc]
      refine ⟨fun y hy => (List.mem_append.mp hy).elim (a1 y) (c1 y), ?_⟩
      rw [List.length_append]
      omega
  · exact ⟨(fun _ z => nomatch z), Nat.zero_le _⟩
theorem eqv_two (m x : Str) : PyData.eqv (.list [.str m, .str x]) (.list [.str ")", .str ")"]) = (decide (m = ")") && decide (x = ")")) := by
  simp only [PyData.eqv, PyData.eqvAll, Bool.and_true]
  congr 1
theorem mark_of {K : PySem.W.Frag} {σ : L2.St} {H : Hp} {L : Addr} {D d0 : List Str} {m : Str} {b : Bool} {Qk : VK} (hσ : tVar 2 σ H fun x H1 => x = .ref L ∧ H1 = H) (hL : H L = some (.lst (D.map V.str))) (hc : (D = d0 ++ [m] ∧ b = true) ∨ (D = [] ∧ d0 = [] ∧ m = "no mark" ∧ b = false))
    (cont : ∀ H6, H6 L = some (.lst (d0.map V.str)) → Off [L] H H6 → Qk (.str m) H6) : if b = true then tBM0 K "list" rPop (tVar 2) σ H Qk else tC (.str "no mark") σ H Qk := by
  obtain ⟨x, e, rfl, _⟩ := hσ
  rcases hc with ⟨rfl, rfl⟩ | ⟨rfl, rfl, rfl, rfl⟩
  · rw [List.map_append] at hL
    refine iteT ⟨_, e, .inl ⟨rfl, _, SqL.of hL⟩, L, _, _, rfl, rfl, hL, last_at _ _, ?_⟩
    have e2 : (d0.map V.str ++ [m].map V.str).dropLast = d0.map V.str := List.dropLast_concat
    rw [e2]
    exact cont _ upd_same (Off.put (by simp))
  · exact iteF (cont _ hL (Off.refl _ _))
theorem rep1 (k : Bool) (x : V) : (List.replicate (if k = true then (1 : Int) else 0).toNat [x]).flatten = if k = true then [x] else [] := by
  cases k <;> rfl
theorem cnt_snoc (l : List Str) (y : Str) : cnt (l ++ [y]) = cnt l + (if y = ")" then 1 else 0) := by
  rw [cnt_app]
  congr 1
  unfold cnt
  rw [List.countP_singleton]
  by_cases h : y = ")"
  · rw [if_pos h, if_pos (decide_eq_true h)]
  · rw [if_neg h, if_neg (by rw [decide_eq_false h]; decide)]
theorem cnt_le (l : List Str) : cnt l ≤ l.length := List.countP_le_length
theorem dec_str (a b : Str) : decide (V.str a = V.str b) = decide (a = b) := by
  by_cases h : a = b
  · rw [decide_eq_true h, decide_eq_true (by rw [h])]
  · rw [decide_eq_false h, decide_eq_false fun z => h (V.str.inj z)]
theorem and_eqs {σ : L2.St} {H : Hp} {i j : Nat} {m x a b : Str} {Qb : Bool → Hp → Prop} (h1 : σ[i]? = some (some (.str m))) (h2 : σ[j]? = some (some (.str x))) (k : Qb (decide (m = a ∧ x = b)) H) :
    tAnd (tTest (tOp rEq (tVar i) (tC (.str a)))) (tTest (tOp rEq (tVar j) (tC (.str b)))) σ H Qb := by
  refine ⟨_, h1, rfl, _, rfl, ?_⟩
  rw [dec_str]
  by_cases c : m = a
  · refine iteT' (decide_eq_true c) ⟨_, h2, rfl, _, rfl, ?_⟩
    rw [dec_str]
    have e : decide (m = a ∧ x = b) = decide (x = b) := by
      by_cases d : x = b
      · rw [decide_eq_true d, decide_eq_true ⟨c, d⟩]
      · rw [decide_eq_false d, decide_eq_false fun z => d z.2]
    rw [e] at k
    exact k
  · rw [decide_eq_false fun z => c z.1] at k
    exact iteF' (decide_eq_false c) k
theorem inV3 (m a b c : Str) : inV (.str m) [.str a, .str b, .str c] = decide (m = a ∨ m = b ∨ m = c) := by
  simp only [inV, List.any_cons, List.any_nil, eqV, Bool.or_false]
  rw [Bool.eq_iff_iff]
  simp only [Bool.or_eq_true, beq_iff_eq, decide_eq_true_eq]
  exact ⟨fun z => z.imp Eq.symm (Or.imp Eq.symm Eq.symm), fun z => z.imp Eq.symm (Or.imp Eq.symm Eq.symm)⟩
theorem and_in3 {K : PySem.W.Frag} {σ : L2.St} {H : Hp} {i j : Nat} {m x a1 a2 a3 b : Str} {Qb : Bool → Hp → Prop} (h1 : σ[i]? = some (some (.str m))) (h2 : σ[j]? = some (some (.str x))) (k : ∀ H1, Same H H1 → Qb (decide ((m = a1 ∨ m = a2 ∨ m = a3) ∧ x = b)) H1) :
    tAnd (tTest (tOp (rIn K false) (tVar i) (tTup (tCons (tC (.str a1)) (tCons (tC (.str a2)) (tCons (tC (.str a3)) tNil)))))) (tTest (tOp rEq (tVar j) (tC (.str b)))) σ H Qb := by
  refine ⟨_, h1, few (by simp), fun T hT => ⟨T, _, rfl, .inr (.inl (.inl upd_same)), rfl, rfl, _, rfl, ?_⟩⟩
  have k := k _ (same_new (o := .tup [.str a1, .str a2, .str a3]) hT)
  rw [inV3]
  by_cases c : m = a1 ∨ m = a2 ∨ m = a3
  · refine iteT' (decide_eq_true c) ⟨_, h2, rfl, _, rfl, ?_⟩
    rw [dec_str]
    have e : decide ((m = a1 ∨ m = a2 ∨ m = a3) ∧ x = b) = decide (x = b) := by
      by_cases d : x = b
      · rw [decide_eq_true d, decide_eq_true ⟨c, d⟩]
      · rw [decide_eq_false d, decide_eq_false fun z => d z.2]
    rw [e] at k
    exact k
  · rw [decide_eq_false fun z => c z.1] at k
    exact iteF' (decide_eq_false c) k
theorem and_fit {σ : L2.St} {H : Hp} {i j : Nat} {m x a b : Str} {Qb : Bool → Hp → Prop} (h1 : σ[i]? = some (some (.str m))) (h2 : σ[j]? = some (some (.str x))) (lx : x.length ≤ 16000000) (lo : Low x) (k : ∀ H1, Same H H1 → Qb (decide (m = a ∧ fitB b x = true)) H1) :
    tAnd (tTest (tOp rEq (tVar i) (tC (.str a)))) (tTest (tCall spFit [] E0 (tCons (tC (.str b)) (tCons (tVar j) tNil)))) σ H Qb := by
  refine ⟨_, h1, rfl, _, rfl, ?_⟩
  rw [dec_str]
  by_cases c : m = a
  · refine iteT' (decide_eq_true c) ⟨_, h2, b, x, rfl, lx, lo, fun H1 s1 => ⟨_, rfl, ?_⟩⟩
    have k := k H1 s1
    have e : decide (m = a ∧ fitB b x = true) = fitB b x := by
      cases d : fitB b x
      · exact decide_eq_false fun z => by cases z.2
      · exact decide_eq_true ⟨c, rfl⟩
    rw [e] at k
    exact k
  · have k := k H (Same.refl H)
    rw [decide_eq_false fun z => c z.1] at k
    exact iteF' (decide_eq_false c) k
theorem not_fit {K : PySem.W.Frag} {σ : L2.St} {H : Hp} {i j : Nat} {m x : Str} {Qb : Bool → Hp → Prop} (h1 : σ[i]? = some (some (.str m))) (h2 : σ[j]? = some (some (.str x))) (lx : x.length ≤ 16000000) (lo : Low x) (lm : Low m) (k : ∀ H1, Same H H1 → Qb (decide (fitB m x = false ∧ ¬ (m = ")" ∧ x = ")"))) H1) :
    tAnd (tNot (tTest (tCall spFit [] E0 (tCons (tVar i) (tCons (tVar j) tNil))))) (tTest (tOp (rNeD K) (tLst (tCons (tVar i) (tCons (tVar j) tNil))) (tLst (tCons (tC (.str ")")) (tCons (tC (.str ")")) tNil))))) σ H Qb := by
  refine ⟨_, h1, _, h2, m, x, rfl, lx, lo, fun H1 s1 => ⟨_, rfl, ?_⟩⟩
  cases hf : fitB m x with
  | true =>
    have k := k H1 s1
    rw [decide_eq_false fun z => by rw [hf] at z; cases z.1] at k
    exact iteF k
  | false =>
    refine iteT ⟨_, h1, _, h2, few (by simp), fun P1 hP1 => ⟨few (by simp), fun P2 hP2 => ?_⟩⟩
    have s2 : Same H1 (upd H1 P1 (.lst [.str m, .str x])) := same_new hP1 _
    have e2 : (upd H1 P1 (.lst [.str m, .str x])) P1 = some (.lst [.str m, .str x]) := upd_same
    have s3 := same_new (o := .lst [.str ")", .str ")"]) hP2
    refine ⟨.list [.str m, .str x], .list [.str ")", .str ")"], .lst (SqL.of (s3 _ _ e2)) (.cons (.str _) (.cons (.str _) .nil)), .lst (SqL.of upd_same) (.cons (.str _) (.cons (.str _) .nil)), ?_, by decide +kernel, _, rfl, ?_⟩
    · exact shp_strs (l := [m, x]) fun y hy => by
        simp only [List.mem_cons, List.not_mem_nil, or_false] at hy
        rcases hy with z | z
        · rw [z]; exact lm
        · rw [z]; exact lo
    · rw [eqv_two]
      have k := k _ (s1.trans (s2.trans s3))
      have e : decide (fitB m x = false ∧ ¬ (m = ")" ∧ x = ")")) = (!(decide (m = ")") && decide (x = ")"))) := by
        by_cases c : m = ")"
        · by_cases d : x = ")"
          · rw [decide_eq_true c, decide_eq_true d]
            exact decide_eq_false fun z => z.2 ⟨c, d⟩
          · rw [decide_eq_false d, Bool.and_false]
            exact decide_eq_true ⟨hf, fun z => d z.2⟩
        · rw [decide_eq_false c, Bool.false_and]
          exact decide_eq_true ⟨hf, fun z => c z.1⟩
      rw [e] at k
      exact k
theorem due_s {bs : List Br} {ws d0 : List Str} (r : Rec bs ws) (e : dueL bs = d0 ++ [("s" : Str)]) : d0 ≠ [] := by
  intro z
  subst z
  rw [List.nil_append] at e
  rcases List.eq_nil_or_concat bs with h | ⟨b0, b, h⟩
  · subst h
    have e : [("e" : Str)] = [("s" : Str)] := e
    exact absurd (List.cons.inj e).1 (by decide +kernel)
  · rw [List.concat_eq_append] at h
    subst h
    rw [dueL_snoc] at e
    obtain ⟨w0, s, r0, l, w, q⟩ := r.unsnoc
    have key : ∃ t, dueB b 0 = (")" : Str) :: t := by
      rcases q with ⟨rfl, rfl⟩ | ⟨hh, sl, found, fs, rfl, _⟩
      · exact ⟨_, rfl⟩
      · exact ⟨_, rfl⟩
    obtain ⟨t, et⟩ := key
    rw [et] at e
    cases ho : outL b0 with
    | nil =>
      rw [ho] at e
      have e : (")" : Str) :: t = [("s" : Str)] := e
      exact absurd (List.cons.inj e).1 (by decide +kernel)
    | cons a c =>
      rw [ho] at e
      have := congrArg List.length e
      simp at this
theorem ite_tC {b : Bool} {a c : V} {σ : L2.St} {H : Hp} {Qk : VK} (k : Qk (if b = true then a else c) H) : if b = true then tC a σ H Qk else tC c σ H Qk := by
  cases b
  · exact iteF k
  · exact iteT k
theorem or_3 {K : PySem.W.Frag} {σ : L2.St} {H : Hp} {sl x : Str} {deep : Bool} {Qb : Bool → Hp → Prop} (h6 : σ[6]? = some (some (.str sl))) (h7 : σ[7]? = some (some (.bl deep))) (h4 : σ[4]? = some (some (.str x)))
    (k : ∀ H1, Same H H1 → Qb (decide (sl = "" ∨ deep = true ∨ x ∈ leafHeads)) H1) :
    tOr (tTest (tOp rEq (tVar 6) (tC (.str "")))) (tOr (tTest (tVar 7)) (tTest (tOp (rIn K false) (tVar 4) (tTup (tCons (tC (.str "int")) (tCons (tC (.str "atom")) (tCons (tC (.str "name")) tNil))))))) σ H Qb := by
  refine ⟨_, h6, rfl, _, rfl, ?_⟩
  rw [dec_str]
  by_cases c1 : sl = ""
  · have k := k H (Same.refl H)
    rw [decide_eq_true (.inl c1)] at k
    exact iteT' (decide_eq_true c1) k
  · refine iteF' (decide_eq_false c1) ⟨_, h7, _, rfl, ?_⟩
    cases c2 : deep with
    | true =>
      have k := k H (Same.refl H)
      rw [decide_eq_true (.inr (.inl c2))] at k
      exact iteT k
    | false =>
      refine iteF ⟨_, h4, few (by simp), fun T hT => ⟨T, _, rfl, .inr (.inl (.inl upd_same)), rfl, rfl, _, rfl, ?_⟩⟩
      have k := k _ (same_new (o := .tup [.str "int", .str "atom", .str "name"]) hT)
      rw [inV3]
      have e : decide (sl = "" ∨ deep = true ∨ x ∈ leafHeads) = decide (x = "int" ∨ x = "atom" ∨ x = "name") := by
        by_cases c3 : x = "int" ∨ x = "atom" ∨ x = "name"
        · rw [decide_eq_true c3]
          refine decide_eq_true (.inr (.inr ?_))
          rcases c3 with z | z | z <;> rw [z] <;> decide +kernel
        · rw [decide_eq_false c3]
          refine decide_eq_false ?_
          rintro (z | z | z)
          · exact c1 z
          · rw [c2] at z
            cases z
          · unfold leafHeads at z
            simp only [List.mem_cons, List.not_mem_nil, or_false] at z
            rcases z with z | z | z
            · exact c3 (.inl z)
            · exact c3 (.inr (.inr z))
            · exact c3 (.inr (.inl z))
      rw [e] at k
      exact k
theorem slotsL_len (m x : Str) : (slotsL m x).cps.toList.length ≤ 5 := by
  unfold slotsL
  cases h : (tbS (decide (cutS m (some 5) none = "t"))).find? (fun p => decide (p.1 = x)) with
  | none => exact (by decide +kernel : ("" : Str).cps.toList.length ≤ 5)
  | some p => exact slot_len _ (tbS_all _ (List.mem_of_find?_eq_some h))
theorem slots_get (m x : Str) : (valV (kvL (if cutS m (some 5) none = "t" then teL else exL)) (Sum.inr x : Key)).getD (.str "") = V.str (slotsL m x) := by
  have e : (if cutS m (some 5) none = "t" then teL else exL) = tbS (decide (cutS m (some 5) none = "t")) := by
    unfold tbS
    by_cases z : cutS m (some 5) none = "t"
    · rw [if_pos z, if_pos (decide_eq_true z)]
    · rw [if_neg z, if_neg (by rw [decide_eq_false z]; decide)]
  rw [e, valV_kvL]
  unfold slotsL
  cases (tbS (decide (cutS m (some 5) none = "t"))).find? (fun p => decide (p.1 = x)) <;> rfl
theorem deep_of {c : Bool} {σ : L2.St} {H : Hp} {sl : Str} {Qk : VK} (h6 : σ[6]? = some (some (.str sl))) (k : Qk (.bl (c && decide (116 ∈ sl.cps.toList))) H) :
    if c = true then tOp (fun x y H Q => ∃ i j, x = V.str i ∧ y = V.str j ∧ Q (V.bl (!(Builtin.Str.occurrences j i 0 j.length 1).isEmpty)) H) (tC (.str "t")) (tVar 6) σ H Qk else Qk (.bl false) H := by
  cases c with
  | false => exact iteF k
  | true =>
    refine iteT ⟨_, h6, _, sl, rfl, rfl, ?_⟩
    have e : (!(Builtin.Str.occurrences sl ("t" : Str) 0 sl.length 1).isEmpty) = decide (116 ∈ sl.cps.toList) := by
      rw [← sgm_t]
      exact PySem.StrLaws.found_one sl 116
    rw [e]
    exact k
theorem step_nm (x : Str) : stepY [] "no mark" x = none := by
  unfold stepY
  rw [if_neg (fun z => absurd z.1 (by decide +kernel)), if_neg (fun z => absurd z.1 (by decide +kernel)), if_neg (by decide +kernel), if_neg (fun z => absurd z.1 (by decide +kernel))]
  refine if_pos ⟨?_, fun z => absurd z.1 (by decide +kernel)⟩
  unfold fitB
  rw [if_neg (by decide +kernel), if_neg (by decide +kernel), if_neg (by decide +kernel), if_pos (.inl (by decide +kernel))]
  decide +kernel
/-! one word further -/
abbrev sLStep : Stmt := topS 39
theorem scLStep : FnScope ["_law_due", "_law_word_here", "_law_mark"] ["_law_due", "_law_word_here"] (defScope sLStep) := ⟨rfl, rfl, rfl, by decide +kernel, rfl, by decide +kernel, by decide +kernel⟩
def stepL (d0 : List Str) (m x : Str) : List Str :=
  if m = "s" ∧ x = ")" then d0.dropLast
  else if (m = "e" ∨ m = "t" ∨ m = "s") ∧ x = "(" then d0 ++ ((if m = "s" then [("s" : Str)] else []) ++ [(")" : Str), if m = "t" then "head t" else "head e"])
  else if cutS m none (some 4) = "head" then d0 ++ ((slotsL m x).cps.toList.map sg).reverse
  else if m = "s" then d0 ++ [("s" : Str)] else d0
theorem stepL_of {d0 d' : List Str} {m x : Str} (h : stepY d0 m x = some d') : stepL d0 m x = d' := by
  unfold stepY at h
  unfold stepL
  by_cases a1 : m = "s" ∧ x = ")"
  · rw [if_pos a1] at h ⊢
    exact Option.some.inj h
  rw [if_neg a1] at h ⊢
  by_cases a2 : (m = "e" ∨ m = "t" ∨ m = "s") ∧ x = "("
  · rw [if_pos a2] at h ⊢
    by_cases c : 40 < cnt (d0 ++ ((if m = "s" then [("s" : Str)] else []) ++ [(")" : Str), if m = "t" then "head t" else "head e"]))
    · rw [if_pos c] at h
      cases h
    · rw [if_neg c] at h
      exact Option.some.inj h
  rw [if_neg a2] at h ⊢
  by_cases a3 : cutS m none (some 4) = "head"
  · rw [if_pos a3] at h ⊢
    by_cases c : slotsL m x = "" ∨ (cnt d0 = 40 ∧ 116 ∈ (slotsL m x).cps.toList) ∨ x ∈ leafHeads
    · rw [if_pos c] at h
      cases h
    · rw [if_neg c] at h
      exact Option.some.inj h
  rw [if_neg a3] at h ⊢
  by_cases a4 : m = "s"
  · rw [if_pos a4]
    by_cases c : m = "s" ∧ fitB "e" x = true
    · rw [if_pos c] at h
      exact Option.some.inj h
    · rw [if_neg c] at h
      have e : fitB m x = false := by
        rw [a4]
        unfold fitB
        rw [if_neg (by decide +kernel), if_neg (by decide +kernel), if_neg (by decide +kernel), if_pos (.inl (by decide +kernel))]
        decide +kernel
      rw [if_pos ⟨e, fun z => absurd (a4.symm.trans z.1) (by decide +kernel)⟩] at h
      cases h
  · rw [if_neg a4]
    rw [if_neg (fun z => a4 z.1)] at h
    by_cases c : fitB m x = false ∧ ¬ (m = ")" ∧ x = ")")
    · rw [if_pos c] at h
      cases h
    · rw [if_neg c] at h
      exact Option.some.inj h
theorem slots_at {m x : Str} (h : slotsL m x ≠ "") : valV (kvL (if cutS m (some 5) none = "t" then teL else exL)) (Sum.inr x : Key) = some (V.str (slotsL m x)) := by
  have e : (if cutS m (some 5) none = "t" then teL else exL) = tbS (decide (cutS m (some 5) none = "t")) := by
    unfold tbS
    by_cases z : cutS m (some 5) none = "t"
    · rw [if_pos z, if_pos (decide_eq_true z)]
    · rw [if_neg z, if_neg (by rw [decide_eq_false z]; decide)]
  rw [e, valV_kvL]
  unfold slotsL at h ⊢
  cases q : (tbS (decide (cutS m (some 5) none = "t"))).find? (fun p => decide (p.1 = x)) with
  | none =>
    rw [q] at h
    exact absurd rfl h
  | some p => rfl
def spStep : Sp := fun vs H Q _ => ∃ L d0 m x, vs = [.ref L, .str x] ∧ H L = some (.lst ((d0 ++ [m]).map V.str)) ∧ d0.length ≤ 250 ∧ m.length ≤ 10 ∧ (m = "s" → d0 ≠ []) ∧ (cutS m none (some 4) = "head" → slotsL m x ≠ "") ∧
  ∀ H', Off [L] H H' → H' L = some (.lst ((stepL d0 m x).map V.str)) → Q .non H'
section
variable {P : Program} {w : World} {K : PySem.W.Frag} {mg : Str → Option Value} {base : Heap} {f fF : Addr} {fd dF : FuncData}
theorem ok_lstep {k : Nat} (F : Fun K "_law_step" "_law_step" sLStep f fd) (mi : mg "int" = none) (ml : mg "list" = none) (GF : Dn P w K mg base 1 "_law_forms" ["_law_sort"] spForms fF dF) : FnOk P w K mg base CX0 (k + 2) f fd ["_law_due", "_law_word_here"] spStep := by
  refine F.ok scLStep (fun vs H Q E h => ?_) (fun cdv A outer s H vs Q E hr h => ?_)
  · obtain ⟨L, d0, m, x, rfl, _⟩ := h
    rfl
  obtain ⟨L, d0, m, x, rfl, g1, len0, lenM, ns0, sk, q⟩ := h
  have hr1 : Room 1 _ := hr.mono (by omega)
  have hu := hu_of hr
  refine ⟨_, pss_cons (ps_set (i := 2) scLStep.nd rfl (.inl rfl) (pe_bm0 PySem.F.plainAttrs_list PySem.F.slot_list_pop PySem.F.type_list_pop mt_pop (pv 0)))
    (pss_one (ps_if (PW.pt (pw_and (pt_cmpR op_eq (pv 2) pe_str (nomark _)) (pw_and1 (pt_cmpR op_eq (pv 1) pe_str (nomark _))))) (pss_one (ps_expr (pe_bm0 PySem.F.plainAttrs_list PySem.F.slot_list_pop PySem.F.type_list_pop mt_pop (pv 0))))
    (pss_one (ps_if (PW.pt (pw_and (pt_cmpR op_in_seq (pv 2) (pe_tup (pa_cons pe_str (pa_cons pe_str (pa_cons pe_str pa_nil)))) rfl) (pw_and1 (pt_cmpR op_eq (pv 1) pe_str (nomark _)))))
        (pss_one (ps_expr (pe_bm PySem.F.plainAttrs_list PySem.F.slot_list_extend PySem.F.type_list_extend mt_extend (pv 0) (pa_cons (pe_op op_cat (pe_op op_rep (pe_lst (pa_cons pe_str pa_nil)) (pe_callTy call_int1 (by rfl) mi (by decide +kernel) (pa_cons (pe_cmpR op_eq (pv 2) pe_str (nomark _)) pa_nil)))
          (pe_lst (pa_cons pe_str (pa_cons (pe_ifExp (pt_cmpR op_eq (pv 2) pe_str (nomark _)) pe_str pe_str) pa_nil)))) pa_nil))))
    (pss_one (ps_if (pt_cmpR op_eq (pe_slice sl_str (pv 2) po_none (po_some pe_int)) pe_str (nomark _))
        (pss_one (ps_expr (pe_bm PySem.F.plainAttrs_list PySem.F.slot_list_extend PySem.F.type_list_extend mt_extend (pv 0) (pa_cons (pe_revL (pe_callTy (call_listS rfl) (by rfl) ml b_list (pa_cons (pe_dget hu (pe_call GF.ok hr1 (by rfl) GF.mg GF.kp GF.bd .nil pass0 (pa_cons (pe_slice sl_str (pv 2) (po_some pe_int) po_none) pa_nil)) (pv 1) (fun _ _ => rfl)) pa_nil))) pa_nil))))
    (pss_one (ps_if (pt_cmpR op_eq (pv 2) pe_str (nomark _)) (pss_one (ps_expr (pe_bm PySem.F.plainAttrs_list PySem.F.slot_list_append PySem.F.type_list_append mt_append (pv 0) (pa_cons pe_str pa_nil)))) pss_nil)))))))), ?_⟩
  rw [List.map_append] at g1
  refine ⟨_, rfl, .inl ⟨rfl, _, SqL.of g1⟩, L, _, _, rfl, rfl, g1, last_at _ _, ?_⟩
  have e2 : (d0.map V.str ++ [m].map V.str).dropLast = d0.map V.str := List.dropLast_concat
  rw [e2]
  have k1 : (upd H L (.lst (d0.map V.str))) L = some (.lst (d0.map V.str)) := upd_same
  have k2 : Off [L] H (upd H L (.lst (d0.map V.str))) := Off.put (by simp)
  generalize upd H L (.lst (d0.map V.str)) = H6 at k1 k2 ⊢
  by_cases a1 : m = "s" ∧ x = ")"
  · refine and_eqs rfl rfl ?_
    rw [decide_eq_true a1]
    have ey : stepL d0 m x = d0.dropLast := by
      unfold stepL
      rw [if_pos a1]
    have n0 := ns0 a1.1
    obtain ⟨d1, y1, rfl⟩ : ∃ d1 y1, d0 = d1 ++ [y1] := ⟨d0.dropLast, d0.getLast n0, (List.dropLast_concat_getLast n0).symm⟩
    rw [List.map_append] at k1
    refine iteT ⟨_, rfl, .inl ⟨rfl, _, SqL.of k1⟩, L, _, _, rfl, rfl, k1, last_at _ _, ?_⟩
    have e2 : (d1.map V.str ++ [y1].map V.str).dropLast = d1.map V.str := List.dropLast_concat
    rw [e2]
    rw [List.dropLast_concat] at ey
    rw [ey] at q
    exact q _ (k2.trans (Off.put (by simp))) upd_same
  refine and_eqs rfl rfl ?_
  rw [decide_eq_false a1]
  refine iteF ?_
  by_cases a2 : (m = "e" ∨ m = "t" ∨ m = "s") ∧ x = "("
  · refine and_in3 rfl rfl fun H7 s7 => ?_
    rw [decide_eq_true a2]
    have k1 := s7 _ _ k1
    refine iteT ⟨_, rfl, .inl ⟨rfl, _, SqL.of k1⟩, few (by simp), fun A1 hA1 => ?_⟩
    refine ⟨_, rfl, rfl, .inr ⟨_, rfl, A1, _, [.str "s"], rfl, rfl, upd_same, ?_, ?_, ?_, fun A2 hA2 => ?_⟩⟩
    · split <;> decide
    · split <;> decide
    · refine few ?_
      split <;> simp
    rw [rep1, dec_str]
    have eS : (if decide (m = "s") = true then [V.str "s"] else []) = (if m = "s" then [("s" : Str)] else []).map V.str := by
      by_cases z : m = "s"
      · rw [if_pos z, if_pos (decide_eq_true z)]
        rfl
      · rw [if_neg z, if_neg (by rw [decide_eq_false z]; decide)]
        rfl
    rw [eS]
    refine ⟨_, rfl, rfl, _, rfl, ite_tC ⟨few (by simp), fun A3 hA3 => ?_⟩⟩
    have eT : (if decide (V.str m = V.str "t") = true then V.str "head t" else V.str "head e") = V.str (if m = "t" then ("head t" : Str) else ("head e" : Str)) := by
      rw [dec_str]
      by_cases z : m = "t"
      · rw [if_pos z, if_pos (decide_eq_true z)]
      · rw [if_neg z, if_neg (by rw [decide_eq_false z]; decide)]
    rw [eT]
    have ey0 : stepL d0 m x = d0 ++ ((if m = "s" then [("s" : Str)] else []) ++ [(")" : Str), if m = "t" then "head t" else "head e"]) := by
      unfold stepL
      rw [if_neg a1, if_pos a2]
    have ls : (if m = "s" then [("s" : Str)] else []).length ≤ 1 := by split <;> simp
    generalize (if m = "s" then [("s" : Str)] else []) = sE at ls ey0 hA3 ⊢
    generalize (if m = "t" then ("head t" : Str) else ("head e" : Str)) = hE at ey0 ⊢
    have q1 := same_new (o := .lst [.str "s"]) hA1
    have k1 := q1 _ _ k1
    generalize upd H7 A1 (.lst [.str "s"]) = H8 at q1 k1 hA2 hA3 ⊢
    have q2 := same_new (o := .lst (sE.map V.str)) hA2
    have v2 : (upd H8 A2 (.lst (sE.map V.str))) A2 = some (.lst (sE.map V.str)) := upd_same
    have k1 := q2 _ _ k1
    generalize upd H8 A2 (.lst (sE.map V.str)) = H9 at q2 v2 k1 hA3 ⊢
    have q3 := same_new (o := .lst [.str ")", .str hE]) hA3
    have v3 : (upd H9 A3 (.lst [.str ")", .str hE])) A3 = some (.lst [.str ")", .str hE]) := upd_same
    have k1 := q3 _ _ k1
    have v2 := q3 _ _ v2
    generalize upd H9 A3 (.lst [.str ")", .str hE]) = H10 at q3 v2 v3 k1 ⊢
    refine ⟨A2, A3, _, _, rfl, rfl, v2, v3, few (by rw [List.length_map]; simp only [List.length_cons, List.length_nil]; omega), fun A4 hA4 => ?_⟩
    have q4 := same_new (o := .lst (sE.map V.str ++ [.str ")", .str hE])) hA4
    have v4 : (upd H10 A4 (.lst (sE.map V.str ++ [.str ")", .str hE]))) A4 = some (.lst (sE.map V.str ++ [.str ")", .str hE])) := upd_same
    have k1 := q4 _ _ k1
    have qA : Same H6 (upd H10 A4 (.lst (sE.map V.str ++ [.str ")", .str hE]))) := s7.trans (q1.trans (q2.trans (q3.trans q4)))
    generalize upd H10 A4 (.lst (sE.map V.str ++ [.str ")", .str hE])) = H11 at q4 v4 k1 qA ⊢
    refine ⟨L, A4, _, _, rfl, rfl, k1, v4, few (by simp only [List.length_append, List.length_map, List.length_cons, List.length_nil]; omega), ?_⟩
    have eD : d0.map V.str ++ (sE.map V.str ++ [.str ")", .str hE]) = (d0 ++ (sE ++ [(")" : Str), hE])).map V.str := by
      rw [List.map_append, List.map_append]
      rfl
    rw [eD]
    rw [ey0] at q
    exact q _ ((k2.trans (Off.of qA)).trans (Off.put (by simp))) upd_same
  refine and_in3 rfl rfl fun H7 s7 => ?_
  rw [decide_eq_false a2]
  refine iteF ?_
  have k1 := s7 _ _ k1
  have k2 := k2.trans (Off.of s7)
  refine ⟨_, rfl, _, rfl, _, rfl, few (by omega), rfl, _, rfl, ?_⟩
  rw [dec_str]
  by_cases a3 : cutS m none (some 4) = "head"
  · refine iteT' (decide_eq_true a3) ?_
    have ey0 : stepL d0 m x = d0 ++ ((slotsL m x).cps.toList.map sg).reverse := by
      unfold stepL
      rw [if_neg a1, if_neg a2, if_pos a3]
    have lsl := slotsL_len m x
    have sa := slots_at (sk a3)
    refine ⟨_, rfl, .inl ⟨rfl, _, SqL.of k1⟩, _, rfl, _, rfl, _, rfl, few (by omega), _, rfl, fun pf H8 s8 hpf e8 => ?_⟩
    have dg := DGet.k (k := (Sum.inr x : Key)) e8
    rw [sa] at dg
    have k1 := s8 _ _ k1
    have k2 := k2.trans (Off.of s8)
    generalize slotsL m x = sl at ey0 lsl dg ⊢
    refine ⟨_, rfl, pf, _, rfl, dg, sl, rfl, few (by have e : sl.length = sl.cps.toList.length := (by simp [len_cps]); omega), fun A1 hA1 => ⟨A1, _, rfl, SqL.of upd_same, fun A2 hA2 => ?_⟩⟩
    have r1 := same_new (o := .lst (sl.cps.toList.map fun c => V.str ⟨#[c]⟩)) hA1
    have r2 := same_new (o := .lst (sl.cps.toList.map fun c => V.str ⟨#[c]⟩).reverse) hA2
    have rr := r1.trans r2
    refine ⟨L, A2, _, _, rfl, rfl, rr _ _ k1, upd_same, few (by simp only [List.length_map, List.length_reverse]; omega), ?_⟩
    have eD : d0.map V.str ++ (sl.cps.toList.map fun c => V.str ⟨#[c]⟩).reverse = (d0 ++ (sl.cps.toList.map sg).reverse).map V.str := by
      rw [List.map_append, List.map_reverse, List.map_map]
      rfl
    rw [eD]
    rw [ey0] at q
    exact q _ ((k2.trans (Off.of rr)).trans (Off.put (by simp))) upd_same
  · refine iteF' (decide_eq_false a3) ⟨_, rfl, rfl, _, rfl, ?_⟩
    rw [dec_str]
    by_cases a4 : m = "s"
    · have ey0 : stepL d0 m x = d0 ++ [("s" : Str)] := by
        unfold stepL
        rw [if_neg a1, if_neg a2, if_neg a3, if_pos a4]
      refine iteT' (decide_eq_true a4) ⟨_, rfl, .inl ⟨rfl, _, SqL.of k1⟩, L, _, .str "s", rfl, rfl, k1, small1000 (by rw [List.length_map]; omega), ?_⟩
      have eD : d0.map V.str ++ [V.str "s"] = (d0 ++ [("s" : Str)]).map V.str := by
        rw [List.map_append]
        rfl
      rw [eD]
      rw [ey0] at q
      exact q _ (k2.trans (Off.put (by simp))) upd_same
    · have ey0 : stepL d0 m x = d0 := by
        unfold stepL
        rw [if_neg a1, if_neg a2, if_neg a3, if_neg a4]
      rw [ey0] at q
      exact iteF' (decide_eq_false a4) (q _ k2 k1)
end
/-! how deep it is -/
theorem cnt_one (m : Str) : cnt [m] = if m = ")" then 1 else 0 := by
  have z := cnt_snoc [] m
  have e : cnt [] = 0 := rfl
  rw [List.nil_append, e, Nat.zero_add] at z
  exact z
theorem Rec.cntD {bs : List Br} {ws : List Str} (r : Rec bs ws) : cnt (dueL bs) = bs.length := by
  rcases List.eq_nil_or_concat bs with h | ⟨b0, b, h⟩
  · subst h
    exact (by decide +kernel : cnt [("e" : Str)] = 0)
  · rw [List.concat_eq_append] at h
    subst h
    obtain ⟨w0, s, r0, l, w, q⟩ := r.unsnoc
    rw [dueL_snoc, cnt_app, r0.cntO, r.cntB, List.length_append]
    rfl
theorem Went.cnt {ws : List Str} {S : PSt} (g : Went ws S) : cnt (dueS S) = S.brs.length := by
  rcases g with ⟨e, r⟩ | ⟨d, rfl, _⟩
  · unfold dueS
    rw [e]
    exact r.cntD
  · rfl
theorem keepP_len (bs : List Br) (d : PyData) : (keepP bs d).brs.length = bs.length := by
  rcases List.eq_nil_or_concat bs with h | ⟨b0, b, h⟩
  · subst h
    rfl
  · rw [List.concat_eq_append] at h
    subst h
    rw [keepP_snoc]
    simp only [List.length_append, List.length_singleton]
theorem heads_open : ∀ p ∈ allL, p.1 ≠ ")" ∧ p.1 ≠ "(" := by decide +kernel
theorem StepP.shut {bs : List Br} {S : PSt} (h : StepP bs ")" S) : S.brs.length + 1 = bs.length := by
  generalize e : (")" : Str) = x at h
  cases h with
  | opens _ _ _ => exact absurd e (by decide +kernel)
  | head m _ _ => exact absurd e.symm (heads_open _ (tbS_all _ m)).1
  | leaf _ l => exact absurd e.symm l.low.2.1
  | close _ _ => rw [keepP_len, List.length_append, List.length_singleton]
theorem slots_no41 (m x : Str) : 41 ∉ (slotsL m x).cps.toList := by
  unfold slotsL
  cases h : (tbS (decide (cutS m (some 5) none = "t"))).find? (fun p => decide (p.1 = x)) with
  | none => exact (by decide +kernel : 41 ∉ ("" : Str).cps.toList)
  | some p => exact no_41 _ (tbS_all _ (List.mem_of_find?_eq_some h))
theorem head_ne {m : Str} (h : cutS m none (some 4) = "head") : m ≠ ")" ∧ m ≠ "s" ∧ m ≠ "e" ∧ m ≠ "t" := by
  refine ⟨?_, ?_, ?_, ?_⟩ <;> rintro rfl <;> exact absurd h (by decide +kernel)
theorem step_slots {d0 d' : List Str} {m x : Str} (h : stepY d0 m x = some d') (c : cutS m none (some 4) = "head") : slotsL m x ≠ "" := by
  obtain ⟨n1, n2, n3, n4⟩ := head_ne c
  unfold stepY at h
  rw [if_neg (fun z => n2 z.1), if_neg (fun z => z.1.elim n3 fun y => y.elim n4 n2), if_pos c] at h
  intro z
  rw [if_pos (.inl z)] at h
  cases h
/-- the mark with which a word must fit -/
def fitM (m : Str) : Str := if m = "s" then "e" else m
theorem fit_s (x : Str) : fitB "s" x = false := by
  unfold fitB
  rw [if_neg (by decide +kernel), if_neg (by decide +kernel), if_neg (by decide +kernel), if_pos (.inl (by decide +kernel))]
  decide +kernel
/-- a closing bracket where one can be -/
theorem step_shut {d0 : List Str} {m : Str} (h : m = "s" ∨ m = ")") : ∃ d', stepY d0 m ")" = some d' := by
  unfold stepY
  rcases h with rfl | rfl
  · exact ⟨_, if_pos ⟨rfl, rfl⟩⟩
  · refine ⟨d0, ?_⟩
    rw [if_neg (fun z => absurd z.1 (by decide +kernel)), if_neg (fun z => absurd z.2 (by decide +kernel)), if_neg (by decide +kernel), if_neg (fun z => absurd z.1 (by decide +kernel)), if_neg (fun z => z.2 ⟨rfl, rfl⟩)]
theorem step_open {d0 : List Str} {m : Str} (h : m = "e" ∨ m = "t" ∨ m = "s") : if 40 < cnt (d0 ++ [m]) + 1 then stepY d0 m "(" = none else ∃ d', stepY d0 m "(" = some d' ∧ cnt d' = cnt (d0 ++ [m]) + 1 := by
  have e0 : cnt (d0 ++ [m]) = cnt d0 := by
    rw [cnt_snoc]
    rcases h with rfl | rfl | rfl <;> rfl
  have e1 : cnt (d0 ++ ((if m = "s" then [("s" : Str)] else []) ++ [(")" : Str), if m = "t" then "head t" else "head e"])) = cnt d0 + 1 := by
    rw [cnt_app]
    congr 1
    rcases h with rfl | rfl | rfl <;> decide +kernel
  have ey : stepY d0 m "(" = if 40 < cnt (d0 ++ ((if m = "s" then [("s" : Str)] else []) ++ [(")" : Str), if m = "t" then "head t" else "head e"])) then none else some (d0 ++ ((if m = "s" then [("s" : Str)] else []) ++ [(")" : Str), if m = "t" then "head t" else "head e"])) := by
    unfold stepY
    rw [if_neg (fun z => absurd z.2 (by decide +kernel)), if_pos ⟨h, rfl⟩]
  rw [e0]
  rw [e1] at ey
  by_cases c : 40 < cnt d0 + 1
  · rw [if_pos c] at ey ⊢
    exact ey
  · rw [if_neg c] at ey ⊢
    exact ⟨_, ey, e1⟩
theorem step_head {d0 : List Str} {m x : Str} (c : cutS m none (some 4) = "head") : if slotsL m x = "" ∨ (cnt (d0 ++ [m]) = 40 ∧ 116 ∈ (slotsL m x).cps.toList) ∨ x ∈ leafHeads then stepY d0 m x = none else ∃ d', stepY d0 m x = some d' ∧ cnt d' = cnt (d0 ++ [m]) := by
  obtain ⟨n1, n2, n3, n4⟩ := head_ne c
  have e0 : cnt (d0 ++ [m]) = cnt d0 := by
    rw [cnt_snoc, if_neg n1]
    rfl
  have ey : stepY d0 m x = if slotsL m x = "" ∨ (cnt d0 = 40 ∧ 116 ∈ (slotsL m x).cps.toList) ∨ x ∈ leafHeads then none else some (d0 ++ ((slotsL m x).cps.toList.map sg).reverse) := by
    unfold stepY
    rw [if_neg (fun z => n2 z.1), if_neg (fun z => z.1.elim n3 fun y => y.elim n4 n2), if_pos c]
  rw [e0]
  by_cases a : slotsL m x = "" ∨ (cnt d0 = 40 ∧ 116 ∈ (slotsL m x).cps.toList) ∨ x ∈ leafHeads
  · rw [if_pos a] at ey ⊢
    exact ey
  · rw [if_neg a] at ey ⊢
    exact ⟨_, ey, by rw [cnt_app, cnt_sg (slots_no41 m x)]; rfl⟩
theorem step_fit {d0 : List Str} {m x : Str} (a1 : ¬ ((m = "s" ∨ m = ")") ∧ x = ")")) (a2 : ¬ ((m = "e" ∨ m = "t" ∨ m = "s") ∧ x = "(")) (a3 : ¬ cutS m none (some 4) = "head") :
    if fitB (fitM m) x = true then ∃ d', stepY d0 m x = some d' ∧ cnt d' = cnt (d0 ++ [m]) else stepY d0 m x = none := by
  have ey : stepY d0 m x = if m = "s" ∧ fitB "e" x = true then some (d0 ++ [("s" : Str)]) else if fitB m x = false ∧ ¬ (m = ")" ∧ x = ")") then none else some d0 := by
    unfold stepY
    rw [if_neg (fun z => a1 ⟨.inl z.1, z.2⟩), if_neg a2, if_neg a3]
  rw [ey]
  clear ey
  by_cases s : m = "s"
  · subst s
    have e : fitM "s" = "e" := rfl
    rw [e, fit_s]
    cases h : fitB "e" x with
    | true =>
      rw [if_pos rfl, if_pos ⟨rfl, rfl⟩]
      exact ⟨_, rfl, rfl⟩
    | false =>
      rw [if_neg (by decide), if_neg (fun z => by cases z.2), if_pos ⟨rfl, fun z => absurd z.1 (by decide +kernel)⟩]
  · have e : fitM m = m := if_neg s
    rw [e, if_neg (show ¬ (m = "s" ∧ fitB "e" x = true) from fun z => s z.1)]
    cases h : fitB m x with
    | false =>
      rw [if_neg (by decide), if_pos ⟨rfl, fun z => a1 ⟨.inr z.1, z.2⟩⟩]
    | true =>
      rw [if_pos rfl, if_neg (fun z => by cases z.1)]
      refine ⟨_, rfl, ?_⟩
      rw [cnt_snoc]
      have nm : ¬ m = ")" := fun z => by
        subst z
        revert h
        unfold fitB
        rw [if_neg (by decide +kernel), if_neg (by decide +kernel), if_neg (by decide +kernel), if_pos (.inl (by decide +kernel))]
        intro h
        exact absurd h (by decide +kernel)
      rw [if_neg nm]
      rfl
/-! the first wrong word -/
abbrev sLFirst : Stmt := topS 40
theorem scLFirst : FnScope ["_law_text", "_law_words", "_law_due", "_law_deep", "_law_at", "_law_word_here", "_law_mark", "_law_slots"] ["_law_text"] (defScope sLFirst) := ⟨rfl, rfl, rfl, by decide +kernel, rfl, by decide +kernel, by decide +kernel⟩
theorem mark_at {K : PySem.W.Frag} {σ : L2.St} {H : Hp} {L : Addr} {D d0 : List Str} {m : Str} {b : Bool} {Qk : VK} (hσ : tVar 2 σ H fun x H1 => x = .ref L ∧ H1 = H) (hL : H L = some (.lst (D.map V.str))) (hc : (D = d0 ++ [m] ∧ b = true) ∨ (D = [] ∧ d0 = [] ∧ m = "no mark" ∧ b = false))
    (k : Qk (.str m) H) : if b = true then tOp (rIxL K) (tVar 2) (tUn (rU fun i => .int (-i)) (tC (.int 1))) σ H Qk else tC (.str "no mark") σ H Qk := by
  obtain ⟨x, e, rfl, _⟩ := hσ
  rcases hc with ⟨rfl, rfl⟩ | ⟨rfl, rfl, rfl, rfl⟩
  · have al : atI ((d0 ++ [m]).map V.str) (-1) = some (.str m) := by
      rw [List.map_append]
      exact atI_last _ _
    exact iteT ⟨_, e, 1, rfl, L, _, -1, .str m, rfl, rfl, SqL.of hL, al, k⟩
  · exact iteF k
theorem inV2 (m a b : Str) : inV (.str m) [.str a, .str b] = decide (m = a ∨ m = b) := by
  rw [Bool.eq_iff_iff, inVv, decide_eq_true_eq]
theorem and_in2 {K : PySem.W.Frag} {σ : L2.St} {H : Hp} {i j : Nat} {m x a1 a2 b : Str} {Qb : Bool → Hp → Prop} (h1 : σ[i]? = some (some (.str m))) (h2 : σ[j]? = some (some (.str x))) (k : ∀ H1, Same H H1 → Qb (decide ((m = a1 ∨ m = a2) ∧ x = b)) H1) :
    tAnd (tTest (tOp (rIn K false) (tVar i) (tTup (tCons (tC (.str a1)) (tCons (tC (.str a2)) tNil))))) (tTest (tOp rEq (tVar j) (tC (.str b)))) σ H Qb := by
  refine ⟨_, h1, few (by simp), fun T hT => ⟨T, _, rfl, .inr (.inl (.inl upd_same)), rfl, rfl, _, rfl, ?_⟩⟩
  have k := k _ (same_new (o := .tup [.str a1, .str a2]) hT)
  rw [inV2]
  by_cases c : m = a1 ∨ m = a2
  · refine iteT' (decide_eq_true c) ⟨_, h2, rfl, _, rfl, ?_⟩
    rw [dec_str]
    have e : decide ((m = a1 ∨ m = a2) ∧ x = b) = decide (x = b) := by
      by_cases d : x = b
      · rw [decide_eq_true d, decide_eq_true ⟨c, d⟩]
      · rw [decide_eq_false d, decide_eq_false fun z => d z.2]
    rw [e] at k
    exact k
  · rw [decide_eq_false fun z => c z.1] at k
    exact iteF' (decide_eq_false c) k
theorem or_3b {K : PySem.W.Frag} {σ : L2.St} {H : Hp} {sl x : Str} {n : Nat} {Qb : Bool → Hp → Prop} (h7 : σ[7]? = some (some (.str sl))) (h3 : σ[3]? = some (some (.int ((n : Nat) : Int)))) (h5 : σ[5]? = some (some (.str x)))
    (k : ∀ H1, Same H H1 → Qb (decide (sl = "" ∨ (n = 40 ∧ 116 ∈ sl.cps.toList) ∨ x ∈ leafHeads)) H1) :
    tOr (tTest (tOp rEq (tVar 7) (tC (.str "")))) (tOr (tAnd (tTest (tOp rEq (tVar 3) (tC (.int 40)))) (tTest (tOp (fun x y H Q => ∃ i j, x = V.str i ∧ y = V.str j ∧ Q (V.bl (!(Builtin.Str.occurrences j i 0 j.length 1).isEmpty)) H) (tC (.str "t")) (tVar 7))))
      (tTest (tOp (rIn K false) (tVar 5) (tTup (tCons (tC (.str "int")) (tCons (tC (.str "atom")) (tCons (tC (.str "name")) tNil))))))) σ H Qb := by
  refine ⟨_, h7, rfl, _, rfl, ?_⟩
  rw [dec_str]
  by_cases c1 : sl = ""
  · have k := k H (Same.refl H)
    rw [decide_eq_true (.inl c1)] at k
    exact iteT' (decide_eq_true c1) k
  refine iteF' (decide_eq_false c1) ?_
  have last : ¬ (n = 40 ∧ 116 ∈ sl.cps.toList) → tTest (tOp (rIn K false) (tVar 5) (tTup (tCons (tC (.str "int")) (tCons (tC (.str "atom")) (tCons (tC (.str "name")) tNil))))) σ H Qb := fun c2 => by
    refine ⟨_, h5, few (by simp), fun T hT => ⟨T, _, rfl, .inr (.inl (.inl upd_same)), rfl, rfl, _, rfl, ?_⟩⟩
    have k := k _ (same_new (o := .tup [.str "int", .str "atom", .str "name"]) hT)
    rw [inV3]
    have e : decide (sl = "" ∨ (n = 40 ∧ 116 ∈ sl.cps.toList) ∨ x ∈ leafHeads) = decide (x = "int" ∨ x = "atom" ∨ x = "name") := by
      by_cases c3 : x = "int" ∨ x = "atom" ∨ x = "name"
      · rw [decide_eq_true c3]
        refine decide_eq_true (.inr (.inr ?_))
        rcases c3 with z | z | z <;> rw [z] <;> decide +kernel
      · rw [decide_eq_false c3]
        refine decide_eq_false ?_
        rintro (z | z | z)
        · exact c1 z
        · exact c2 z
        · unfold leafHeads at z
          simp only [List.mem_cons, List.not_mem_nil, or_false] at z
          rcases z with z | z | z
          · exact c3 (.inl z)
          · exact c3 (.inr (.inr z))
          · exact c3 (.inr (.inl z))
    rw [e] at k
    exact k
  refine ⟨_, h3, rfl, _, rfl, ?_⟩
  have en : decide (V.int ((n : Nat) : Int) = V.int 40) = decide (n = 40) := by
    by_cases z : n = 40
    · rw [z]
      rfl
    · rw [decide_eq_false z, decide_eq_false fun y => z (by have := V.int.inj y; omega)]
  rw [en]
  by_cases cn : n = 40
  · refine iteT' (decide_eq_true cn) ⟨_, h7, _, sl, rfl, rfl, _, rfl, ?_⟩
    have e : (!(Builtin.Str.occurrences sl ("t" : Str) 0 sl.length 1).isEmpty) = decide (116 ∈ sl.cps.toList) := by
      rw [← sgm_t]
      exact PySem.StrLaws.found_one sl 116
    rw [e]
    by_cases ct : 116 ∈ sl.cps.toList
    · have k := k H (Same.refl H)
      rw [decide_eq_true (.inr (.inl ⟨cn, ct⟩))] at k
      exact iteT' (decide_eq_true ct) k
    · exact iteF' (decide_eq_false ct) (last fun z => ct z.2)
  · exact iteF' (decide_eq_false cn) (last fun z => cn z.1)
theorem not_fit2 {σ : L2.St} {H : Hp} {m x : Str} {Qb : Bool → Hp → Prop} (h6 : σ[6]? = some (some (.str m))) (h5 : σ[5]? = some (some (.str x))) (lx : x.length ≤ 16000000) (lo : Low x) (k : ∀ H1, Same H H1 → Qb (!fitB (fitM m) x) H1) :
    tNot (tB (tCall spFit [] E0 (tCons (tIf (tTest (tOp rEq (tVar 6) (tC (.str "s")))) (tC (.str "e")) (tVar 6)) (tCons (tVar 5) tNil)))) σ H Qb := by
  refine ⟨_, h6, rfl, _, rfl, ?_⟩
  rw [dec_str]
  by_cases c : m = "s"
  · have e : fitM m = "e" := if_pos c
    rw [e] at k
    exact iteT' (decide_eq_true c) ⟨_, h5, "e", x, rfl, lx, lo, fun H1 s1 => ⟨_, rfl, k H1 s1⟩⟩
  · have e : fitM m = m := if_neg c
    rw [e] at k
    exact iteF' (decide_eq_false c) ⟨_, h6, _, h5, m, x, rfl, lx, lo, fun H1 s1 => ⟨_, rfl, k H1 s1⟩⟩
theorem fit_nm (x : Str) : fitB (fitM "no mark") x = false := by
  have e : fitM "no mark" = "no mark" := by decide +kernel
  rw [e]
  unfold fitB
  rw [if_neg (by decide +kernel), if_neg (by decide +kernel), if_neg (by decide +kernel), if_pos (.inl (by decide +kernel))]
  decide +kernel
theorem step_nm0 {d' : List Str} {d0 : List Str} {m x : Str} (hd : d0 = []) (hm : m = "no mark") (h : stepY d0 m x = some d') : False := by
  subst hd hm
  rw [step_nm] at h
  cases h
section
variable {P : Program} {w : World} {K : PySem.W.Frag} {mg : Str → Option Value} {base : Heap} {f fF fT fS : Addr} {fd dF dT dS : FuncData}
theorem ok_lfirst {k : Nat} (F : Fun K "_law_first_wrong" "_law_first_wrong" sLFirst f fd) (me : mg "enumerate" = none) (mn : mg "len" = none) (GF : Dn P w K mg base 1 "_law_forms" ["_law_sort"] spForms fF dF)
    (GT : Dn P w K mg base 2 "_law_is_fit" ["_law_mark", "_law_word_here"] spFit fT dT) (GS : Dn P w K mg base 2 "_law_step" ["_law_due", "_law_word_here"] spStep fS dS) : FnOk P w K mg base CX0 (k + 3) f fd ["_law_text"] spFirst := by
  refine F.ok scLFirst (fun vs H Q E h => ?_) (fun cdv A outer s H vs Q E hr h => ?_)
  · obtain ⟨x, rfl, _⟩ := h
    rfl
  obtain ⟨x, rfl, hx, hlo, q⟩ := h
  have hr1 : Room 1 _ := hr.mono (by omega)
  have hr2 : Room 2 _ := hr.mono (by omega)
  have hu := hu_of hr
  refine ⟨_, pss_cons (ps_par3 (i := 1) (j := 2) (l := 3) rfl scLFirst.nd rfl rfl rfl (by decide) (by decide) (by decide) rfl rfl rfl (pa_cons (pe_split (pv 0) pe_str) (pa_cons (pe_lst (pa_cons pe_str pa_nil)) (pa_cons pe_int pa_nil))) (by rfl))
    (pss_cons (ps_for PassesOwn.never rfl (pi_enumL (by rfl) me (pa_cons (pv 1) pa_nil)) (pg_tup (by rfl) (pgs_cons (pg_name (i := 4) scLFirst.nd rfl (.inl rfl)) (pgs_cons (pg_name (i := 5) scLFirst.nd rfl (.inl rfl)) pgs_nil)))
      (pss_cons (ps_set (i := 6) scLFirst.nd rfl (.inl rfl) (pe_ifExp (pt_cmpR (op_neD hr.units) (pv 2) (pe_lst pa_nil) (nomark _)) (pe_ix ix_list (pv 2) (pe_un un_neg pe_int) (fun _ _ => rfl)) pe_str))
      (C8.pss_cut (ps_if (PW.pt (pw_and (pt_cmpR op_in_seq (pv 6) (pe_tup (pa_cons pe_str (pa_cons pe_str pa_nil))) rfl) (pw_and1 (pt_cmpR op_eq (pv 5) pe_str (nomark _)))))
        (pss_one (ps_set (i := 3) scLFirst.nd rfl (.inl rfl) (pe_op op_sub (pv 3) pe_int)))
      (pss_one (ps_if (PW.pt (pw_and (pt_cmpR op_in_seq (pv 6) (pe_tup (pa_cons pe_str (pa_cons pe_str (pa_cons pe_str pa_nil)))) rfl) (pw_and1 (pt_cmpR op_eq (pv 5) pe_str (nomark _)))))
        (pss_cons (ps_set (i := 3) scLFirst.nd rfl (.inl rfl) (pe_op op_add (pv 3) pe_int))
        (pss_one (ps_if (pt_cmpR op_gt (pv 3) pe_int (nomark _)) (pss_one (ps_ret (pv 4))) pss_nil)))
      (pss_one (ps_if (pt_cmpR op_eq (pe_slice sl_str (pv 6) po_none (po_some pe_int)) pe_str (nomark _))
        (pss_cons (ps_set (i := 7) scLFirst.nd rfl (.inl rfl) (pe_dget2 hu (pe_call GF.ok hr1 (by rfl) GF.mg GF.kp GF.bd .nil pass0 (pa_cons (pe_slice sl_str (pv 6) (po_some pe_int) po_none) pa_nil)) (pv 5) pe_str ⟨rfl, rfl, rfl, rfl⟩))
        (pss_one (ps_if (PW.pt (pw_or (pt_cmpR op_eq (pv 7) pe_str (nomark _)) (pw_or (PW.pt (pw_and (pt_cmpR op_eq (pv 3) pe_int (nomark _)) (pw_and1 (pt_cmpR op_in_str pe_str (pv 7) rfl)))) (pw_or1 (pt_cmpR op_in_seq (pv 5) (pe_tup (pa_cons pe_str (pa_cons pe_str (pa_cons pe_str pa_nil)))) rfl))))) (pss_one (ps_ret (pv 4))) pss_nil)))
      (pss_one (ps_if (pt_not (pt_val (pe_call GT.ok hr2 (by rfl) GT.mg GT.kp GT.bd .nil pass0 (pa_cons (pe_ifExp (pt_cmpR op_eq (pv 6) pe_str (nomark _)) pe_str (pv 6)) (pa_cons (pv 5) pa_nil)))))
        (pss_one (ps_ret (pv 4))) pss_nil)))))))
      (pss_one (ps_expr (pe_call GS.ok hr2 (by rfl) GS.mg GS.kp GS.bd .nil pass0 (pa_cons (pv 2) (pa_cons (pv 5) pa_nil))))))))
    (pss_one (ps_ret (pe_ifExp (pt_cmpR (op_eqD hr.units) (pv 2) (pe_lst pa_nil) (nomark _)) pe_non (pe_callB call_len_seq (by rfl) mn PySem.boot_len (pa_cons (pv 1) pa_nil)))))), ?_⟩
  have SP := spW x
  have hs0 : sizeLine = 16777216 := rfl
  refine ⟨_, rfl, ⟨_, rfl⟩, x, " ", rfl, rfl, by decide +kernel, by omega, fun p hp => ⟨few (by simp), fun L hL => ⟨_, _, _, rfl, ?_⟩⟩⟩
  have ews : Txt.split x " " = splitW x := rfl
  rw [ews] at hL ⊢
  have lw : (splitW x).length ≤ 4000001 := by
    have := SP.sum
    omega
  have wl1 := SP.one
  have wlo : ∀ y ∈ splitW x, Low y := fun y hy c hc => hlo c (sp_mem hy hc)
  have eR : wrongF ⟨[], none⟩ (splitW x) 0 = wrongW (splitW x) := rfl
  generalize splitW x = ws at lw wl1 wlo eR q hL
  have s1 : Same H (upd H p (.lst (ws.map V.str))) := same_new hp _
  have hp1 : (upd H p (.lst (ws.map V.str))) p = some (.lst (ws.map V.str)) := upd_same
  generalize upd H p (.lst (ws.map V.str)) = H1 at s1 hp1 hL
  have npL : p ≠ L := ne_of_none hp1 hL
  have hL0 : H L = none := s1.free hL
  have s2 : Same H1 (upd H1 L (.lst [.str "e"])) := same_new hL _
  have hL2 : (upd H1 L (.lst [.str "e"])) L = some (.lst [.str "e"]) := upd_same
  have hp2 := s2 _ _ hp1
  generalize upd H1 L (.lst [.str "e"]) = H2 at s2 hL2 hp2
  have s12 := s1.trans s2
  refine ⟨_, rfl, p, _, rfl, SqL.of hp2, for_it (walk_C (Its := fun H ys => SqL K H p ys) (xs := ws.map V.str) (k0 := 0)) (fun i σ H3 => ∃ S o4 o5 o6 o7, σ = [some (.str x), some (.ref p), some (.ref L), some (.int ((cnt (dueS S) : Nat) : Int)), o4, o5, o6, o7] ∧ H3 L = some (.lst ((dueS S).map V.str)) ∧ H3 p = some (.lst (ws.map V.str)) ∧ Went (ws.take i) S ∧ wrongF S (ws.drop i) i = wrongW ws ∧ Off [L] H2 H3)
    ⟨⟨[], none⟩, none, none, none, none, rfl, hL2, hp2, .inl ⟨rfl, .nil⟩, eR, Off.refl _ _⟩ ?_ ?_ ?_⟩
  · rintro i σ H3 hi ⟨S, o4, o5, o6, o7, rfl, g1, g2, g3, g4, g5⟩
    exact SqL.of g2
  · rintro i y σ H3 H3' hi ⟨S, o4, o5, o6, o7, rfl, g1, g2, g3, g4, g5⟩ ⟨T, z, rfl, hT, rfl, hz⟩
    rw [List.getElem?_map] at hz
    obtain ⟨xw, hw, rfl⟩ := Option.map_eq_some_iff.mp hz
    have hi2 : i < ws.length := (List.getElem?_eq_some_iff.mp hw).1
    have dr1 : ws.drop i = xw :: ws.drop (i + 1) := by
      rw [List.drop_eq_getElem_cons hi2]
      obtain ⟨_, e⟩ := List.getElem?_eq_some_iff.mp hw
      rw [e]
    have tk1 : ws.take (i + 1) = ws.take i ++ [xw] := get_take hw
    have lx1 := wl1 xw (List.mem_of_getElem? hw)
    have lox := wlo xw (List.mem_of_getElem? hw)
    have lxw : xw.length ≤ 16000000 := by omega
    obtain ⟨mkD1, lenD⟩ := g3.low
    have lowD : ∀ y ∈ dueS S, Low y := fun y hy => (mkD1 y hy).1
    rw [dr1] at g4
    unfold wrongF at g4
    have s3 : Same H3 (upd H3 T (.tup [.int (0 + (i : Nat)), .str xw])) := same_new hT _
    refine ⟨T, [.int (0 + (i : Nat)), .str xw], rfl, .inl (.inl upd_same), rfl, _, _, rfl, _, _, rfl, rfl, ?_⟩
    have g1 := s3 _ _ g1
    have g2 := s3 _ _ g2
    have g5 := g5.trans (Off.of s3)
    generalize upd H3 T (.tup [.int (0 + (i : Nat)), .str xw]) = H4 at g1 g2 g5
    refine ⟨_, rfl, by decide, fun p1 hp1' => ?_⟩
    have s4 : Same H4 (upd H4 p1 (.lst [])) := same_new hp1' _
    refine ⟨.list ((dueS S).map PyData.str), .list [], .lst (SqL.of (s4 _ _ g1)) (strs_dp _), .lst (SqL.of upd_same) .nil, shp_strs lowD, by decide +kernel, _, rfl, ?_⟩
    rw [eqv_nilL]
    have g1 := s4 _ _ g1
    have g2 := s4 _ _ g2
    have g5 := g5.trans (Off.of s4)
    generalize upd H4 p1 (.lst []) = H5 at g1 g2 g5
    obtain ⟨d0, m, eY, hc⟩ : ∃ d0 m, stepY d0 m xw = (stX S xw).map dueS ∧ ((dueS S = d0 ++ [m] ∧ (!((dueS S).map PyData.str).isEmpty) = true) ∨ (dueS S = [] ∧ d0 = [] ∧ m = "no mark" ∧ (!((dueS S).map PyData.str).isEmpty) = false)) := by
      obtain ⟨bs, tr⟩ := S
      cases tr with
      | some d => exact ⟨[], "no mark", step_nm xw, .inr ⟨rfl, rfl, rfl, rfl⟩⟩
      | none =>
        rcases g3 with ⟨_, rc⟩ | ⟨d, z, _⟩
        · obtain ⟨d0, m, e1, e2⟩ := sim rc xw
          have e1' : dueS ⟨bs, none⟩ = d0 ++ [m] := e1
          exact ⟨d0, m, e2, .inl ⟨e1', by rw [e1', List.map_append]; cases (d0.map PyData.str) <;> rfl⟩⟩
        · cases z
    have mkM : Mk1 m := by
      rcases hc with ⟨e, _⟩ | ⟨_, _, e, _⟩
      · exact mkD1 m (by rw [e]; simp)
      · rw [e]
        exact mk_lit (by decide +kernel) (by decide +kernel)
    obtain ⟨lowM, lenM⟩ := mkM
    have len0 : d0.length ≤ 250 := by
      rcases hc with ⟨e, _⟩ | ⟨_, e, _, _⟩
      · rw [e, List.length_append] at lenD
        omega
      · rw [e]
        exact Nat.zero_le _
    refine mark_at ⟨_, rfl, rfl, rfl⟩ g1 hc ?_
    have ns0 : m = "s" → d0 ≠ [] := fun e => by
      rcases hc with ⟨e1, _⟩ | ⟨_, _, e2, _⟩
      · obtain ⟨bs, tr⟩ := S
        rcases g3 with ⟨et, rc⟩ | ⟨d, z, _⟩
        · have et : tr = none := et
          subst et
          rw [e] at e1
          exact due_s rc e1
        · cases z
          have e1 : ([] : List Str) = d0 ++ [m] := e1
          exact absurd e1 (by simp)
      · rw [e2] at e
        exact absurd e (by decide +kernel)
    have dm : m ≠ "no mark" → dueS S = d0 ++ [m] := fun z => hc.elim (fun y => y.1) fun y => absurd y.2.2.1 z
    have no : ∀ H7, stepY d0 m xw = none → Same H5 H7 → Q (.int (0 + (i : Nat))) H7 := by
      intro H7 ey o7
      rw [eY] at ey
      cases es : stX S xw with
      | some S2 =>
        rw [es] at ey
        cases ey
      | none =>
        rw [es] at g4
        have g4 : some i = wrongW ws := g4
        rw [← g4] at q
        have z0 : (0 + (i : Nat) : Int) = ((i : Nat) : Int) := by omega
        rw [z0]
        refine q H7 fun b u z => o7 _ _ (g5.get (s12 _ _ z) ?_)
        simpa using ne_of_none z hL0
    refine ⟨fun σ H7 => ∃ o7 d', σ = [some (.str x), some (.ref p), some (.ref L), some (.int ((cnt d' : Nat) : Int)), some (.int (0 + (i : Nat))), some (.str xw), some (.str m), o7] ∧ stepY d0 m xw = some d' ∧ Same H5 H7, ?_, ?_⟩
    · by_cases a1 : (m = "s" ∨ m = ")") ∧ xw = ")"
      · refine and_in2 rfl rfl fun H6 s6 => ?_
        rw [decide_eq_true a1]
        have exw := a1.2
        subst exw
        obtain ⟨d', ey⟩ := step_shut (d0 := d0) a1.1
        have ec : cnt d' + 1 = cnt (dueS S) := by
          rw [eY] at ey
          obtain ⟨S2, es, e2⟩ := Option.map_eq_some_iff.mp ey
          obtain ⟨_, _, st, w2⟩ := stX_of g3 es
          rw [← e2, w2.cnt, g3.cnt]
          exact st.shut
        refine iteT ⟨_, rfl, _, _, rfl, rfl, ?_⟩
        refine ⟨o7, d', ?_, ey, s6⟩
        have e3 : ((cnt (dueS S) : Nat) : Int) - 1 = ((cnt d' : Nat) : Int) := by omega
        rw [← e3]
        rfl
      refine and_in2 rfl rfl fun H6 s6 => ?_
      rw [decide_eq_false a1]
      refine iteF ?_
      by_cases a2 : (m = "e" ∨ m = "t" ∨ m = "s") ∧ xw = "("
      · refine and_in3 rfl rfl fun H7 s7 => ?_
        rw [decide_eq_true a2]
        have so := step_open (d0 := d0) a2.1
        rw [← dm (by rcases a2.1 with z | z | z <;> rw [z] <;> decide +kernel), ← a2.2] at so
        refine iteT ⟨_, rfl, _, _, rfl, rfl, _, rfl, _, _, rfl, rfl, _, rfl, ?_⟩
        by_cases c : 40 < cnt (dueS S) + 1
        · rw [if_pos c] at so
          exact iteT' (decide_eq_true (by omega)) ⟨_, rfl, no _ so (s6.trans s7)⟩
        · rw [if_neg c] at so
          obtain ⟨d', ey, ec⟩ := so
          refine iteF' (decide_eq_false (by omega)) ⟨o7, d', ?_, ey, s6.trans s7⟩
          have e3 : ((cnt (dueS S) : Nat) : Int) + 1 = ((cnt d' : Nat) : Int) := by omega
          rw [← e3]
          rfl
      refine and_in3 rfl rfl fun H7 s7 => ?_
      rw [decide_eq_false a2]
      refine iteF ?_
      refine ⟨_, rfl, _, rfl, _, rfl, few (by omega), rfl, _, rfl, ?_⟩
      rw [dec_str]
      by_cases a3 : cutS m none (some 4) = "head"
      · refine iteT' (decide_eq_true a3) ?_
        have lsl := slotsL_len m xw
        refine ⟨_, rfl, _, rfl, _, rfl, few (by omega), _, rfl, fun pf H8 s8 hpf e8 => ⟨pf, rfl, .inl ⟨_, .inl e8⟩, _, rfl, _, DGet.k (k := (Sum.inr xw : Key)) e8, ?_⟩⟩
        rw [slots_get]
        have so := step_head (d0 := d0) (x := xw) a3
        rw [← dm (by rintro rfl; exact absurd a3 (by decide +kernel))] at so
        generalize slotsL m xw = sl at so lsl ⊢
        refine or_3b rfl rfl rfl fun H9 s9 => ?_
        have q9 := s6.trans (s7.trans (s8.trans s9))
        by_cases a6 : sl = "" ∨ (cnt (dueS S) = 40 ∧ 116 ∈ sl.cps.toList) ∨ xw ∈ leafHeads
        · rw [if_pos a6] at so
          exact iteT' (decide_eq_true a6) ⟨_, rfl, no _ so q9⟩
        · rw [if_neg a6] at so
          obtain ⟨d', ey, ec⟩ := so
          refine iteF' (decide_eq_false a6) ⟨some (.str sl), d', ?_, ey, q9⟩
          rw [ec]
          rfl
      · refine iteF' (decide_eq_false a3) ?_
        have so := step_fit (d0 := d0) a1 a2 a3
        refine not_fit2 rfl rfl lxw lox fun H9 s9 => ?_
        have q9 := s6.trans (s7.trans s9)
        cases hf : fitB (fitM m) xw with
        | false =>
          rw [hf, if_neg (by decide)] at so
          exact iteT ⟨_, rfl, no _ so q9⟩
        | true =>
          rw [hf, if_pos rfl] at so
          obtain ⟨d', ey, ec⟩ := so
          have nm : m ≠ "no mark" := fun z => by
            rcases hc with ⟨e1, e2⟩ | ⟨_, e1, e2, _⟩
            · rw [z, fit_nm] at hf
              cases hf
            · exact step_nm0 e1 e2 ey
          refine iteF ⟨o7, d', ?_, ey, q9⟩
          rw [ec, ← dm nm]
          rfl
    · rintro σ H7 ⟨o7, d', rfl, ey, s7⟩
      have eD : dueS S = d0 ++ [m] := hc.elim (fun y => y.1) fun y => absurd ey (fun z => step_nm0 y.2.1 y.2.2.1 z)
      have g1 := s7 _ _ g1
      rw [eD] at g1
      have g2 := s7 _ _ g2
      refine ⟨_, rfl, _, rfl, L, d0, m, xw, rfl, g1, len0, lenM, ns0, step_slots ey, fun H8 o8 e8 => ?_⟩
      rw [stepL_of ey] at e8
      rw [eY] at ey
      obtain ⟨S2, es, e2⟩ := Option.map_eq_some_iff.mp ey
      rw [es] at g4
      rw [← e2] at e8 ⊢
      refine ⟨S2, _, _, _, _, rfl, e8, o8.get g2 (by simpa using npL), ?_, g4, (g5.trans (Off.of s7)).trans o8⟩
      rw [tk1]
      exact (stX_of g3 es).2.2.2
  · rintro σ H3 ⟨S, o4, o5, o6, o7, rfl, g1, g2, g3, g4, g5⟩
    rw [List.length_map] at g3 g4
    rw [List.drop_length] at g4
    unfold wrongF at g4
    obtain ⟨mkD1, lenD⟩ := g3.low
    have lowD : ∀ y ∈ dueS S, Low y := fun y hy => (mkD1 y hy).1
    have sH : ∀ H4, Same H3 H4 → Same H H4 := fun H4 s b u z => s _ _ (g5.get (s12 _ _ z) (by simpa using ne_of_none z hL0))
    refine ⟨_, rfl, by decide, fun p1 hp1' => ?_⟩
    have s4 : Same H3 (upd H3 p1 (.lst [])) := same_new hp1' _
    refine ⟨.list ((dueS S).map PyData.str), .list [], .lst (SqL.of (s4 _ _ g1)) (strs_dp _), .lst (SqL.of upd_same) .nil, shp_strs lowD, by decide +kernel, _, rfl, ?_⟩
    rw [eqv_nilL]
    cases eS : S.tree with
    | some d =>
      rw [eS] at g4
      have g4 : none = wrongW ws := g4
      have eD : dueS S = [] := by
        unfold dueS
        rw [eS]
      rw [eD]
      rw [← g4] at q
      exact iteT (q _ (sH _ s4))
    | none =>
      rw [eS] at g4
      have g4 : some ws.length = wrongW ws := g4
      have eD : (dueS S).map PyData.str ≠ [] := fun z => by
        have z := List.map_eq_nil_iff.mp z
        unfold dueS at z
        rw [eS] at z
        have z : dueL S.brs = [] := z
        rcases g3 with ⟨_, rc⟩ | ⟨d, e, _⟩
        · obtain ⟨d0, m, e1, _⟩ := sim rc ""
          rw [e1] at z
          exact absurd z (by simp)
        · rw [e] at eS
          cases eS
      have eE : ((dueS S).map PyData.str).isEmpty = false := by
        cases h : (dueS S).map PyData.str with
        | nil => exact absurd h eD
        | cons a b => rfl
      rw [eE]
      refine iteF ⟨_, rfl, p, _, rfl, .inl (SqL.of (s4 _ _ g2)), ?_⟩
      rw [List.length_map]
      rw [← g4] at q
      exact q _ (sH _ s4)
end
/-! the law's own try -/
abbrev sLTold : Stmt := topS 41
abbrev sLRight : Stmt := topS 42
theorem scLTold : FnScope ["_law_text", "_law_found", "e", "_law_is_good"] ["_law_text"] (defScope sLTold) := ⟨rfl, rfl, rfl, by decide +kernel, rfl, by decide +kernel, by decide +kernel⟩
theorem scLRight : FnScope ["_law_text", "_law_wrong"] ["_law_text"] (defScope sLRight) := ⟨rfl, rfl, rfl, by decide +kernel, rfl, by decide +kernel, by decide +kernel⟩
/-- isinstance(e, c) of a caught error with attributes -/
def rIsED (K : PySem.W.Frag) (D a : Addr) (cls : Value) (d : Option Addr) : List V → Hp → VK → Prop := fun xs H Q => ∃ (dd : Addr) (fs : List (Str × V)) (b : Bool), cls = .ref D ∧ d = some dd ∧ H dd = some (.xd fs) ∧
  ((∃ (c : V) (cv : Value), xs = [.ref a, c] ∧ (∀ u, RelV c u → u = cv) ∧ PySem.W.kitOne K (.ref D) cv = some b) ∨ ∃ (tp : Addr) (cs : List Addr), xs = [.ref a, .ref tp] ∧ H tp = some (.tup (cs.map V.ref)) ∧ PySem.W.kitAny K (.ref D) (cs.map Value.ref) = some b) ∧ Q (.bl b) H
theorem call_isED {X : Cx} {a D : Addr} {oe : Obj} {cls : Value} {d : Option Addr} {pn : List (Addr × Obj)} (C : ExcC X.K D) (hz : Zc cls d oe) (hf : ∃ vs, oe.data = .fields vs) : CallR (X.suite a ((a, oe) :: pn)) (.builtin "isinstance") (rIsED X.K D a cls d) := by
  intro pins s σ H xs us Q I r h
  obtain ⟨dd, fs, b, rfl, rfl, ea, hx, q⟩ := h
  obtain ⟨ha, _⟩ := I.pin (a, oe) (List.mem_append_left _ List.mem_cons_self)
  obtain ⟨vs, hd⟩ := hf
  have hxo : ObjOk X.prog X.w H s.heap dd (.xd fs) := I.hok dd _ ea
  obtain ⟨mA, hns, hr⟩ := hxo
  obtain ⟨od, ho, hl⟩ := lookIn_ns hns
  have J : PySem.W.InstAt s.heap a oe D (some od) := ⟨ha, hz.1, by unfold PySem.W.notCls; rw [hd] <;> rfl, by rw [hz.2]; exact ho⟩
  rcases hx with ⟨c, cv, rfl, hcv, e⟩ | ⟨tp, cs, rfl, ht, e⟩
  · cases r with
    | cons rx rr =>
      cases rr with
      | cons rt rr =>
        cases rr
        cases rx
        have ec := hcv _ rt
        subst ec
        exact PySem.W.kia_one (PySem.W.kitx_exc (hasD_cls C.hd) C.hg C.hk C.hs C.ha C.hn C.ht C.hm) I.kIn J e (fun z => nomatch z) fun tk => ⟨.bl b, H, I.kept (t' := tk) fun _ _ z => z, rfl, q⟩
  · cases r with
    | cons rx rr =>
      cases rr with
      | cons rt rr =>
        cases rr
        cases rx
        cases rt
        obtain ⟨its, r2, ⟨o, ho2, hc, n, hd2⟩, hl2⟩ := I.tuple (.inl (.inl ht) : SqT X.K H tp (cs.map V.ref))
        have ei := vals_refs r2
        subst ei
        obtain ⟨oc, od0, oda, osl⟩ := o
        cases hc
        cases hd2
        exact PySem.W.kia_tup (PySem.W.kitx_exc (hasD_cls C.hd) C.hg C.hk C.hs C.ha C.hn C.ht C.hm) I.kIn J ho2 e (fun z => nomatch z) fun tk => ⟨.bl b, H, I.kept (t' := tk) fun _ _ z => z, rfl, q⟩
/-- what is known of the classes of errors -/
structure Er3 (P : Program) (w : World) (K : PySem.W.Frag) (mg : Str → Option Value) (base : Heap) (L CE CB1 CN : Addr) (fE : Addr) (dE : FuncData) : Prop where
  c : EC P w K mg base "NoText" ["at"] ["at"] CE fE dE
  mL : mg "LoreError" = some (.ref L)
  mB : mg "NoBook" = some (.ref CB1)
  mN : mg "NoNote" = some (.ref CN)
  ex : PySem.W.exmOne K (.ref CE) (.ref CE) = some true
  kL : PySem.W.kitOne K (.ref CE) (.ref L) = some true
  kA : PySem.W.kitAny K (.ref CE) [.ref CB1, .ref CN] = some false
theorem leafT_nod {d : PyData} (h : LeafT d) : nod d = 3 := by
  rcases h with ⟨i, rfl, _⟩ | ⟨x, h | h, _⟩
  · simp only [nod, nods]
  · rw [h]
    simp only [nod, nods]
  · rw [h]
    simp only [nod, nods]
theorem leafO_nod {c : Nat} {d : PyData} (h : LeafOk c d) : nod d = 1 := by
  rcases h with ⟨_, i, rfl, _⟩ | ⟨_, i, rfl, _⟩ | ⟨_, x, rfl, _⟩ | ⟨_, rfl | rfl | rfl⟩ <;> simp only [nod]
theorem leafW_len {d : PyData} (h : LeafT d) : (leafWords d).length = 1 := by
  rcases h with ⟨i, rfl, _⟩ | ⟨x, h | h, _⟩
  · rfl
  · rw [h]; rfl
  · rw [h]; rfl
theorem arg_nod {f : Nat} (ih : ∀ (s : Bool) (d : PyData), Wx f s d → nod d ≤ 3 * (wordsD f d).length) : ∀ {cs : List Nat} {ds : List PyData}, ArgOk (Wx f) cs ds → nods ds ≤ 3 * (argWords (wordsD f) cs ds).length + cs.length
  | [], [], _ => by simp only [nods]; omega
  | c :: cs, d :: ds, h => by
    have i1 := arg_nod ih h.2
    have h1 := h.1
    simp only [nods, argWords, List.length_append, List.length_cons]
    split at h1
    · rename_i z
      rw [if_pos z]
      obtain ⟨es, rfl, q⟩ := h1
      have key : ∀ es : List PyData, (∀ e ∈ es, Wx f false e) → nods es ≤ 3 * (es.flatMap (wordsD f)).length := fun es => by
        induction es with
        | nil => intro _; simp only [nods]; omega
        | cons e es ihh =>
          intro q
          have a1 := ih _ _ (q e List.mem_cons_self)
          have a2 := ihh fun x hx => q x (List.mem_cons_of_mem _ hx)
          simp only [nods, List.flatMap_cons, List.length_append]
          omega
      have := key es q
      simp only [nod, kidsT]
      omega
    · rename_i z
      rw [if_neg z]
      split at h1
      · rename_i y
        rw [if_pos (.inl y)]
        have := ih _ _ h1
        omega
      · rename_i y
        split at h1
        · rename_i u
          rw [if_pos (.inr u)]
          have := ih _ _ h1
          omega
        · rename_i u
          rw [if_neg (fun z => z.elim y u), leafO_nod h1, List.length_singleton]
          omega
  | [], _ :: _, h => h.elim
  | _ :: _, [], h => h.elim
theorem nod_words : ∀ {f : Nat} {s : Bool} {d : PyData}, Wx f s d → nod d ≤ 3 * (wordsD f d).length
  | 0, _, _, h => by rw [words_leaf h.2, leafT_nod h.2, leafW_len h.2]; omega
  | f + 1, s, d, h => by
    rcases h with h | ⟨h0, sl, args, e, m, n, a⟩
    · rw [words_leaf h.2, leafT_nod h.2, leafW_len h.2]
      omega
    · subst e
      have i1 := arg_nod (fun s d z => nod_words z) a
      have l5 := slot_len _ (tbS_all _ m)
      simp only at l5
      rw [words_node (tbS_all _ m) n]
      simp only [nod, nods, List.length_append, List.length_cons, List.length_nil]
      omega
def toldD (x : Str) : PyData := match wrongW (splitW x) with
  | none => .tuple [.str "text", .str x]
  | some i => .tuple [.str "none", .int ((i : Nat) : Int)]
def spTold (K : PySem.W.Frag) : Sp := fun vs H Q _ => ∃ x, vs = [.str x] ∧ x.length ≤ 1600000 ∧ ∀ v H', Same H H' → Dp K H' v (toldD x) → Q v H'
section
variable {P : Program} {w : World} {K : PySem.W.Frag} {mg : Str → Option Value} {base : Heap} {f fS fR fE L CE CB1 CN : Addr} {fd dS dR dE : FuncData}
theorem ok_ltold {k : Nat} (F : Fun K "_law_told" "_law_told" sLTold f fd) (ii : mg "isinstance" = none) (E3 : Er3 P w K mg base L CE CB1 CN fE dE) (GS : Dn P w K mg base 4 "show_expression" ["tree"] (spShow K) fS dS)
    (GR : FnOk P w K mg base (L2.CX P w) 5 fR dR ["text"] (spRx2 K CE)) (kR : PySem.W.keepIn K (.ref fR) = true) (bR : Binds K dR ["text"] []) (mR : mg "read_expression" = some (.ref fR)) : FnOk P w K mg base CX0 (k + 6) f fd ["_law_text"] (spTold K) := by
  refine F.ok scLTold (fun vs H Q E h => ?_) (fun cdv A outer s H vs Q E hr h => ?_)
  · obtain ⟨x, rfl, _⟩ := h
    rfl
  obtain ⟨x, rfl, hx, q⟩ := h
  have hr4 : Room 4 _ := hr.mono (by omega)
  have hr5 : Room 5 _ := hr.mono (by omega)
  have c4 := E3.c
  refine ⟨_, pss_cons (ps_set (i := 1) scLTold.nd rfl (.inl rfl) pe_non)
    (pss_cons (ps_try_as (i := 2) rfl rfl scLTold.nd rfl rfl ⟨by rfl, by decide, .inl c4.mg⟩ takes0
      (fun W pn xe tk _ => pss_one (ps_set (i := 1) scLTold.nd rfl (.inl rfl) (pe_tup (pa_cons pe_str (pa_cons (pe_call GS.ok hr4 (by rfl) GS.mg GS.kp GS.bd .nil pass0 (pa_cons (pe_callS GR hr5 (by rfl) mR kR bR (fun σ => passAt tk σ) (pa_cons (pv 0) pa_nil)) pa_nil)) pa_nil)))))
      (fun a oe cls d pn hz hf => pss_cons (ps_set (i := 3) scLTold.nd rfl (.inl rfl) (pe_and (pe_callB (call_isED c4.E hz hf) (by rfl) ii b_ii (pa_cons (pv 2) (pa_cons (pe_glob (by rfl) E3.mL (v := .ref L) rfl) pa_nil)))
          (pe_one (pe_not (pe_callB (call_isED c4.E hz hf) (by rfl) ii b_ii (pa_cons (pv 2) (pa_cons (pe_tup (pa_cons (pe_glob (by rfl) E3.mB (v := .ref CB1) rfl) (pa_cons (pe_glob (by rfl) E3.mN (v := .ref CN) rfl) pa_nil))) pa_nil)))))))
        (pss_one (ps_set (i := 1) scLTold.nd rfl (.inl rfl) (pe_ifExp (pt_val (pv 3)) (pe_tup (pa_cons pe_str (pa_cons (pe_xf c4.X (c4.no "at" (by simp)) hz hf (pv 2)) pa_nil))) (pe_tup (pa_cons pe_str pa_nil)))))))
    (pss_one (ps_ret (pv 1)))), ?_⟩
  have SP := spW x
  have hs0 : sizeLine = 16777216 := rfl
  refine ⟨_, rfl, x, rfl, by omega, ?_, ?_⟩
  · intro v d H1 ew s1 dv nv wx eww
    have lw : (splitW x).length ≤ 1600001 := by
      have := SP.sum
      omega
    have hn := nod_words wx
    rw [eww] at hn
    refine ⟨v, d, 40, rfl, dv, nv, wx, Nat.le_refl _, by omega, by rw [eww]; omega, by rw [eww]; have := SP.sum; omega, fun H2 s2 => ⟨few (by simp), fun T hT => ?_⟩⟩
    rw [eww, SP.join] at *
    have s3 := same_new (o := .tup [.str "text", .str x]) hT
    refine ⟨_, rfl, q _ _ (s1.trans (s2.trans s3)) ?_⟩
    unfold toldD
    rw [ew]
    exact .tup (.inl (.inl upd_same)) (.cons (.str _) (.cons (.str _) .nil))
  · intro i d0 H1 ew s1 hd hv
    refine ⟨true, E3.ex, fun _ a ha => ?_, fun z => nomatch z⟩
    refine ⟨_, rfl, d0, [("at", .int ((i : Nat) : Int))], true, rfl, rfl, hv, .inl ⟨.ref L, .ref L, rfl, fun u hu => hu, E3.kL⟩, _, rfl, iteT ?_⟩
    refine ⟨_, rfl, few (by simp), fun T hT => ?_⟩
    have s2 := same_new (o := .tup [.ref CB1, .ref CN]) hT
    refine ⟨d0, _, false, rfl, rfl, s2 _ _ hv, .inr ⟨T, [CB1, CN], rfl, upd_same, E3.kA⟩, _, rfl, ?_⟩
    refine ⟨_, rfl, _, rfl, iteT ⟨_, rfl, rfl, rfl, d0, _, _, rfl, s2 _ _ hv, lk1, few (by simp), fun T2 hT2 => ?_⟩⟩
    have s3 := same_new (o := .tup [.str "none", .int ((i : Nat) : Int)]) hT2
    refine ⟨_, rfl, q _ _ (s1.trans (s2.trans s3)) ?_⟩
    unfold toldD
    rw [ew]
    exact .tup (.inl (.inl upd_same)) (.cons (.str _) (.cons (.int _) .nil))
end
theorem told_prn {x : Str} (hx : x.length ≤ 1600000) (hlo : Low x) : Prn (toldD x) := by
  have hs0 : sizeLine = 16777216 := rfl
  have SP := spW x
  unfold toldD
  cases hw : wrongW (splitW x) with
  | none =>
    refine ⟨by simp only [PyData.showable, PyData.showableAll, Bool.and_self], by simp only [PyData.hasDict, PyData.hasDictAll, Bool.or_self], by simp only [PyData.depth, PyData.depthAll]; omega, ?_⟩
    simp only [PyData.shown, PyData.shownAll]
    have l := PySem.tupleText_len_le [reprText "text", reprText x]
    have l1 := PySem.StrLaws.reprText_len "text" (by decide +kernel)
    have l2 := PySem.StrLaws.reprText_len x (fun c hc => Nat.lt_trans (hlo c hc) (by decide))
    have l3 : ("text" : Str).length = 4 := by decide +kernel
    simp only [List.map_cons, List.map_nil, List.sum_cons, List.sum_nil, List.length_cons, List.length_nil] at l
    omega
  | some i =>
    refine prn_of ?_ (by simp only [nod, nods]; omega) (by simp only [PyData.depth, PyData.depthAll]; omega)
    have s1 : gd (.str "none") = true := by decide +kernel
    have li : i ≤ 1600001 := by
      have key : ∀ (ws : List Str) (S : PSt) (k j : Nat), wrongF S ws k = some j → j ≤ k + ws.length := fun ws => by
        induction ws with
        | nil =>
          intro S k j h
          unfold wrongF at h
          cases e : S.tree with
          | some d =>
            rw [e] at h
            cases h
          | none =>
            rw [e] at h
            cases h
            simp
        | cons y ws ih =>
          intro S k j h
          unfold wrongF at h
          cases e : stX S y with
          | none =>
            rw [e] at h
            cases h
            omega
          | some S2 =>
            rw [e] at h
            have := ih S2 (k + 1) j h
            rw [List.length_cons]
            omega
      have := key _ _ _ _ hw
      have := SP.sum
      omega
    have s2 : gd (.int ((i : Nat) : Int)) = true := gd_int (Nat.lt_of_lt_of_le (by omega : ((i : Nat) : Int).natAbs < 2 ^ 30) (Nat.pow_le_pow_right (by decide) (by decide)))
    simp only [gd, gds] at s1 s2 ⊢
    rw [s1, s2]
    rfl
def spLRight (K : PySem.W.Frag) : Sp := fun vs H Q _ => ∃ x, vs = [.str x] ∧ x.length ≤ 1600000 ∧ Low x ∧ ∀ H', Same H H' → Q (.bl true) H'
section
variable {P : Program} {w : World} {K : PySem.W.Frag} {mg : Str → Option Value} {base : Heap} {f fF fT : Addr} {fd dF dT : FuncData}
theorem ok_lright {k : Nat} (F : Fun K "_law_right" "_law_right" sLRight f fd) (mrp : mg "repr" = none) (GF : Dn P w K mg base 3 "_law_first_wrong" ["_law_text"] spFirst fF dF)
    (GT : Dn P w K mg base 6 "_law_told" ["_law_text"] (spTold K) fT dT) : FnG P w K mg base CX0 (k + 7) f fd ["_law_text"] (spLRight K) := by
  refine okG F scLRight (fun vs H Q E h => ?_) (fun cdv A outer s H vs Q E hgd hr h => ?_)
  · obtain ⟨x, rfl, _⟩ := h
    rfl
  obtain ⟨x, rfl, hx, hlo, q⟩ := h
  have hr3 : Room 3 _ := hr.mono (by omega)
  have hr6 : Room 6 _ := hr.mono (by omega)
  refine ⟨_, pss_cons (ps_set (i := 1) scLRight.nd rfl (.inl rfl) (pe_call GF.ok hr3 (by rfl) GF.mg GF.kp GF.bd .nil pass0 (pa_cons (pv 0) pa_nil)))
    (pss_one (ps_ret (pe_cmpR op_eq (pe_callB (call_rep hgd hr.units) (by rfl) mrp b_rep (pa_cons (pe_call GT.ok hr6 (by rfl) GT.mg GT.kp GT.bd .nil pass0 (pa_cons (pv 0) pa_nil)) pa_nil))
      (pe_callB (call_rep hgd hr.units) (by rfl) mrp b_rep (pa_cons (pe_ifExp (pt_cmp (pc_isN (pv 1))) (pe_tup (pa_cons pe_str (pa_cons (pv 0) pa_nil))) (pe_tup (pa_cons pe_str (pa_cons (pv 1) pa_nil)))) pa_nil)) (nomark _)))), ?_⟩
  have prn := told_prn hx hlo
  refine ⟨_, rfl, x, rfl, by omega, hlo, fun H1 s1 => ⟨_, rfl, x, rfl, hx, fun v H2 s2 dv => ⟨v, toldD x, rfl, dv, prn, _, rfl, _, rfl, ?_⟩⟩⟩
  unfold toldD at prn ⊢
  cases hw : wrongW (splitW x) with
  | none =>
    rw [hw] at prn
    refine iteT' (by decide) ⟨_, rfl, few (by simp), fun T hT => ?_⟩
    have s3 := same_new (o := .tup [.str "text", .str x]) hT
    refine ⟨.ref T, .tuple [.str "text", .str x], rfl, .tup (.inl (.inl upd_same)) (.cons (.str _) (.cons (.str _) .nil)), prn, rfl, ?_⟩
    rw [decide_eq_true rfl]
    exact q _ (s1.trans (s2.trans s3))
  | some i =>
    rw [hw] at prn
    refine iteF' (decide_eq_false (fun z => nomatch z)) ⟨_, rfl, few (by simp), fun T hT => ?_⟩
    have s3 := same_new (o := .tup [.str "none", .int ((i : Nat) : Int)]) hT
    refine ⟨.ref T, .tuple [.str "none", .int ((i : Nat) : Int)], rfl, .tup (.inl (.inl upd_same)) (.cons (.str _) (.cons (.int _) .nil)), prn, rfl, ?_⟩
    rw [decide_eq_true rfl]
    exact q _ (s1.trans (s2.trans s3))
end
/-! what is due behind some words -/
def runW : PSt → List Str → Option PSt
  | S, [] => some S
  | S, x :: ws => match stX S x with
    | none => none
    | some S2 => runW S2 ws
abbrev S0 : PSt := ⟨[], none⟩
theorem run_cons {S T : PSt} {x : Str} {ws : List Str} (h : runW S (x :: ws) = some T) : ∃ S2, stX S x = some S2 ∧ runW S2 ws = some T := by
  unfold runW at h
  cases e : stX S x with
  | none =>
    rw [e] at h
    cases h
  | some S2 =>
    rw [e] at h
    exact ⟨S2, rfl, h⟩
theorem run_app : ∀ {a b : List Str} {S T : PSt}, runW S a = some T → runW S (a ++ b) = runW T b
  | [], b, S, T, h => by
    rw [← Option.some.inj h]
    rfl
  | x :: a, b, S, T, h => by
    obtain ⟨S2, e, h2⟩ := run_cons h
    have z := run_app (b := b) h2
    show (match stX S x with | none => none | some S2 => runW S2 (a ++ b)) = _
    rw [e]
    exact z
theorem Went.run : ∀ {ws ws0 : List Str} {S T : PSt}, Went ws0 S → runW S ws = some T → Went (ws0 ++ ws) T
  | [], ws0, S, T, g, h => by
    rw [← Option.some.inj h, List.append_nil]
    exact g
  | x :: ws, ws0, S, T, g, h => by
    obtain ⟨S2, e, h2⟩ := run_cons h
    have z := Went.run (stX_of g e).2.2.2 h2
    simpa only [List.append_assoc, List.singleton_append] using z
theorem went0 : Went [] S0 := .inl ⟨rfl, .nil⟩
/-- a step's mark -/
theorem go_mark {ws : List Str} {S S2 : PSt} {x : Str} (g : Went ws S) (h : stX S x = some S2) : ∃ d0 m, dueS S = d0 ++ [m] ∧ stepY d0 m x = some (dueS S2) ∧ d0.length ≤ 250 ∧ m.length ≤ 10 ∧ (m = "s" → d0 ≠ []) := by
  obtain ⟨mk, len⟩ := g.low
  obtain ⟨bs, tr⟩ := S
  obtain ⟨et, rc, _, _⟩ := stX_of g h
  have et : tr = none := et
  subst et
  have rc : Rec bs ws := rc
  obtain ⟨d0, m, e1, e2⟩ := sim rc x
  have e1' : dueS ⟨bs, none⟩ = d0 ++ [m] := e1
  have h : stepX bs x = some S2 := h
  rw [h] at e2
  rw [e1', List.length_append] at len
  refine ⟨d0, m, e1', e2, by omega, (mk m (by rw [e1']; simp)).2, fun e => ?_⟩
  subst e
  exact due_s rc e1
abbrev sLDue : Stmt := topS 43
theorem scLDue : FnScope ["_law_words", "_law_due", "_law_word_here"] ["_law_words"] (defScope sLDue) := ⟨rfl, rfl, rfl, by decide +kernel, rfl, by decide +kernel, by decide +kernel⟩
def spDue : Sp := fun vs H Q _ => ∃ a ws S, vs = [.ref a] ∧ H a = some (.lst (ws.map V.str)) ∧ ws.length ≤ 1000 ∧ runW S0 ws = some S ∧ ∀ p H', Same H H' → H p = none → H' p = some (.lst ((dueS S).map V.str)) → Q (.ref p) H'
section
variable {P : Program} {w : World} {K : PySem.W.Frag} {mg : Str → Option Value} {base : Heap} {f fS : Addr} {fd dS : FuncData}
theorem ok_ldue {k : Nat} (F : Fun K "_law_due_next" "_law_due_next" sLDue f fd) (GS : Dn P w K mg base 2 "_law_step" ["_law_due", "_law_word_here"] spStep fS dS) : FnOk P w K mg base CX0 (k + 3) f fd ["_law_words"] spDue := by
  refine F.ok scLDue (fun vs H Q E h => ?_) (fun cdv A outer s H vs Q E hr h => ?_)
  · obtain ⟨a, ws, S, rfl, _⟩ := h
    rfl
  obtain ⟨a, ws, S, rfl, ha, lw, hrun, q⟩ := h
  have hr2 : Room 2 _ := hr.mono (by omega)
  refine ⟨_, pss_cons (ps_set (i := 1) scLDue.nd rfl (.inl rfl) (pe_lst (pa_cons pe_str pa_nil)))
    (pss_cons (ps_for PassesOwn.never rfl (pi_list (pv 0)) (pg_name (i := 2) scLDue.nd rfl (.inl rfl))
      (pss_one (ps_expr (pe_call GS.ok hr2 (by rfl) GS.mg GS.kp GS.bd .nil pass0 (pa_cons (pv 1) (pa_cons (pv 2) pa_nil))))))
    (pss_one (ps_ret (pv 1)))), ?_⟩
  refine ⟨few (by simp), fun L hL => ?_⟩
  have s1 : Same H (upd H L (.lst [.str "e"])) := same_new hL _
  have hL1 : (upd H L (.lst [.str "e"])) L = some (.lst [.str "e"]) := upd_same
  have ha1 := s1 _ _ ha
  have naL : a ≠ L := ne_of_none ha hL
  generalize upd H L (.lst [.str "e"]) = H1 at s1 hL1 ha1
  refine ⟨_, rfl, a, rfl, ⟨_, SqL.of ha1⟩, for_list (K := K) (a := a) (xs := ws.map V.str) (fun i σ H2 => ∃ o2 Si, σ = [some (.ref a), some (.ref L), o2] ∧ H2 L = some (.lst ((dueS Si).map V.str)) ∧ H2 a = some (.lst (ws.map V.str)) ∧ Went (ws.take i) Si ∧ runW Si (ws.drop i) = some S ∧ Off [L] H1 H2)
    ⟨none, S0, rfl, hL1, ha1, went0, hrun, Off.refl _ _⟩ ?_ ?_ ?_⟩
  · rintro i σ H2 hi ⟨o2, Si, rfl, g1, g2, g3, g4, g5⟩
    exact SqL.of g2
  · rintro i y σ H2 hy ⟨o2, Si, rfl, g1, g2, g3, g4, g5⟩
    rw [List.getElem?_map] at hy
    obtain ⟨xw, hw, rfl⟩ := Option.map_eq_some_iff.mp hy
    have hi2 : i < ws.length := (List.getElem?_eq_some_iff.mp hw).1
    have dr1 : ws.drop i = xw :: ws.drop (i + 1) := by
      rw [List.drop_eq_getElem_cons hi2]
      obtain ⟨_, e⟩ := List.getElem?_eq_some_iff.mp hw
      rw [e]
    have tk1 : ws.take (i + 1) = ws.take i ++ [xw] := get_take hw
    rw [dr1] at g4
    obtain ⟨S2, es, g6⟩ := run_cons g4
    obtain ⟨d0, m, e1, e2, l0, lm, ns⟩ := go_mark g3 es
    rw [e1] at g1
    refine ⟨_, rfl, _, rfl, L, d0, m, xw, rfl, g1, l0, lm, ns, step_slots e2, fun H8 o8 e8 => ?_⟩
    rw [stepL_of e2] at e8
    exact ⟨_, S2, rfl, e8, o8.get g2 (by simpa using naL), by rw [tk1]; exact (stX_of g3 es).2.2.2, g6, g5.trans o8⟩
  · rintro σ H2 ⟨o2, Si, rfl, g1, g2, g3, g4, g5⟩
    rw [List.length_map, List.drop_length] at g4
    rw [Option.some.inj g4] at g1
    refine ⟨_, rfl, q L H2 (fun b u z => g5.get (s1 _ _ z) (by simpa using ne_of_none z hL)) hL g1⟩
end
/-! words that end a text -/
def marksL : List Str := ["e", "t", "k", "i", "n", "w", "s", ")", "head e", "head t"]
theorem sg_mark {c : Nat} (h : c = 101 ∨ c = 116 ∨ c = 107 ∨ c = 105 ∨ c = 110 ∨ c = 119 ∨ c = 115) : sg c ∈ marksL := by
  rcases h with rfl | rfl | rfl | rfl | rfl | rfl | rfl <;> decide +kernel
theorem rest_mark {h sl : Str} (m : (h, sl) ∈ allL) (k : Nat) : ∀ y ∈ restL sl.cps.toList k, y ∈ marksL := by
  intro y hy
  unfold restL at hy
  rcases List.mem_cons.mp hy with z | z
  · rw [z]
    decide +kernel
  · obtain ⟨c, hc, rfl⟩ := List.mem_map.mp (List.mem_reverse.mp z)
    exact sg_mark (slot_codes _ m c (List.mem_of_mem_drop hc))
theorem Rec.mark1 {b0 : List Br} {b : Br} {ws : List Str} (r : Rec (b0 ++ [b]) ws) (k : Nat) : ∀ y ∈ dueB b k, y ∈ marksL := by
  obtain ⟨w0, s, r0, l, w, q⟩ := r.unsnoc
  rcases q with ⟨rfl, rfl⟩ | ⟨hh, sl, found, fs, rfl, m, n, q, t, rfl⟩
  · intro y hy
    have hy : y ∈ [(")" : Str), if s = true then "head t" else "head e"] := hy
    simp only [List.mem_cons, List.not_mem_nil, or_false] at hy
    rcases hy with z | z
    · rw [z]
      decide +kernel
    · rw [z]
      cases s <;> decide +kernel
  · exact rest_mark (tbS_all _ m) _
theorem Rec.markO {bs : List Br} {ws : List Str} (r : Rec bs ws) : ∀ y ∈ outL bs, y ∈ marksL := by
  have key : ∀ (n : Nat) (bs : List Br) (ws : List Str), bs.length = n → Rec bs ws → ∀ y ∈ outL bs, y ∈ marksL := fun n => by
    induction n with
    | zero =>
      intro bs ws h _
      rw [List.length_eq_zero_iff.mp h]
      exact fun _ z => nomatch z
    | succ n ih =>
      intro bs ws h r
      rcases List.eq_nil_or_concat bs with e | ⟨b0, b, e⟩
      · subst e
        cases h
      · rw [List.concat_eq_append] at e
        subst e
        obtain ⟨w0, s, r0, l, w, q⟩ := r.unsnoc
        rw [outL_snoc]
        exact fun y hy => (List.mem_append.mp hy).elim (ih b0 w0 (by simpa using h) r0 y) (r.mark1 1 y)
  exact key _ _ _ rfl r
theorem Went.marks {ws : List Str} {S : PSt} (g : Went ws S) : ∀ y ∈ dueS S, y ∈ marksL := by
  rcases g with ⟨e, r⟩ | ⟨d, rfl, _⟩
  · unfold dueS
    rw [e]
    simp only
    generalize S.brs = bs at r
    rcases List.eq_nil_or_concat bs with e | ⟨b0, b, e⟩
    · subst e
      intro y hy
      have hy : y ∈ [("e" : Str)] := hy
      rw [List.mem_singleton.mp hy]
      decide +kernel
    · rw [List.concat_eq_append] at e
      subst e
      obtain ⟨w0, s, r0, l, w, q⟩ := r.unsnoc
      rw [dueL_snoc]
      exact fun y hy => (List.mem_append.mp hy).elim (r0.markO y) (r.mark1 0 y)
  · exact fun _ z => nomatch z
/-- a test is due: there is room for it -/
theorem Rec.room {bs : List Br} {ws d0 : List Str} (r : Rec bs ws) (e : dueL bs = d0 ++ [("t" : Str)]) : bs.length < 40 := by
  rcases List.eq_nil_or_concat bs with h | ⟨b0, b, h⟩
  · subst h
    exact (by decide : 0 < 40)
  · rw [List.concat_eq_append] at h
    subst h
    rw [dueL_snoc] at e
    obtain ⟨w0, s, r0, l, w, q⟩ := r.unsnoc
    rcases q with ⟨rfl, rfl⟩ | ⟨hh, sl, found, fs, rfl, m, n, q, t, rfl⟩
    · have e : outL b0 ++ ([(")" : Str)] ++ [if s = true then ("head t" : Str) else "head e"]) = d0 ++ [("t" : Str)] := e
      rw [← List.append_assoc] at e
      have z := (snoc_inj e).2
      cases s
      · exact absurd z (by decide +kernel)
      · exact absurd z (by decide +kernel)
    · have e : outL b0 ++ restL sl.cps.toList found.length = d0 ++ [("t" : Str)] := e
      rw [List.length_append, List.length_singleton]
      refine t ?_
      unfold restL at e
      cases hd : sl.cps.toList.drop (cur sl.cps.toList found.length) with
      | nil =>
        rw [hd] at e
        have e : outL b0 ++ [(")" : Str)] = d0 ++ [("t" : Str)] := e
        exact absurd (snoc_inj e).2 (by decide +kernel)
      | cons c cs =>
        rw [hd, List.map_cons, List.reverse_cons, ← List.cons_append, ← List.append_assoc] at e
        have z := (snoc_inj e).2
        have ec : c = 116 := by
          rw [← sgm_t] at z
          exact (sg_one c 116).mp z
        rw [← ec]
        exact List.mem_of_mem_drop (i := cur sl.cps.toList found.length) (by rw [hd]; simp)
def shortL : List (Str × Str) := [("e", "x"), ("s", ")"), ("n", "x"), ("k", "0"), ("i", "0"), ("w", "atom"), (")", ")"), ("head e", "tuple"), ("head t", "is"), ("t", "(")]
def shortW (m : Str) : Str := ((shortL.find? fun p => decide (p.1 = m)).map Prod.snd).getD ""
def mwt (m : Str) : Nat := if m = "t" then 5 else if m = "head t" then 3 else if m = "head e" then 2 else 1
def mus (l : List Str) : Nat := (l.map mwt).sum
theorem mus_app (a b : List Str) : mus (a ++ b) = mus a + mus b := by
  unfold mus
  rw [List.map_append, List.sum_append_nat]
theorem mus_pos {l : List Str} (h : l ≠ []) : 0 < mus l := by
  cases l with
  | nil => exact absurd rfl h
  | cons a b =>
    show 0 < mwt a + _
    have : 0 < mwt a := by
      unfold mwt
      split
      · decide
      · split
        · decide
        · split <;> decide
    omega
/-- one short word further -/
theorem step_short {d0 : List Str} {m : Str} (hm : m ∈ marksL) (n0 : m = "s" → d0 ≠ []) (rm : m = "t" → cnt (d0 ++ [("t" : Str)]) < 40) : ∃ d', stepY d0 m (shortW m) = some d' ∧ mus d' < mus (d0 ++ [m]) := by
  unfold marksL at hm
  simp only [List.mem_cons, List.not_mem_nil, or_false] at hm
  have plain : ∀ (m x : Str), ¬ (m = "s" ∧ x = ")") → ¬ ((m = "e" ∨ m = "t" ∨ m = "s") ∧ x = "(") → ¬ cutS m none (some 4) = "head" → ¬ (m = "s" ∧ fitB "e" x = true) → ¬ (fitB m x = false ∧ ¬ (m = ")" ∧ x = ")")) → shortW m = x → 0 < mwt m → ∃ d', stepY d0 m (shortW m) = some d' ∧ mus d' < mus (d0 ++ [m]) := by
    intro m x a1 a2 a3 a4 a5 e p
    refine ⟨d0, ?_, ?_⟩
    · rw [e]
      unfold stepY
      rw [if_neg a1, if_neg a2, if_neg a3, if_neg a4, if_neg a5]
    · rw [mus_app]
      have : mus [m] = mwt m := by simp [mus]
      omega
  rcases hm with rfl | rfl | rfl | rfl | rfl | rfl | rfl | rfl | rfl | rfl
  · exact plain "e" "x" (by decide +kernel) (by decide +kernel) (by decide +kernel) (by decide +kernel) (by decide +kernel) (by decide +kernel) (by decide +kernel)
  · have so := step_open (d0 := d0) (m := "t") (.inr (.inl rfl))
    have lt := rm rfl
    rw [if_neg (by omega)] at so
    obtain ⟨d', ey, _⟩ := so
    have e : shortW "t" = "(" := by decide +kernel
    rw [e]
    refine ⟨d', ey, ?_⟩
    have z := stepL_of ey
    unfold stepL at z
    rw [if_neg (by decide +kernel), if_pos ⟨.inr (.inl rfl), rfl⟩] at z
    rw [← z, mus_app d0, mus_app d0]
    have : mus ((if ("t" : Str) = "s" then [("s" : Str)] else []) ++ [(")" : Str), if ("t" : Str) = "t" then "head t" else "head e"]) < mus [("t" : Str)] := by decide +kernel
    omega
  · exact plain "k" "0" (by decide +kernel) (by decide +kernel) (by decide +kernel) (by decide +kernel) (by decide +kernel) (by decide +kernel) (by decide +kernel)
  · exact plain "i" "0" (by decide +kernel) (by decide +kernel) (by decide +kernel) (by decide +kernel) (by decide +kernel) (by decide +kernel) (by decide +kernel)
  · exact plain "n" "x" (by decide +kernel) (by decide +kernel) (by decide +kernel) (by decide +kernel) (by decide +kernel) (by decide +kernel) (by decide +kernel)
  · exact plain "w" "atom" (by decide +kernel) (by decide +kernel) (by decide +kernel) (by decide +kernel) (by decide +kernel) (by decide +kernel) (by decide +kernel)
  · have e : shortW "s" = ")" := by decide +kernel
    rw [e]
    refine ⟨d0.dropLast, ?_, ?_⟩
    · unfold stepY
      rw [if_pos ⟨rfl, rfl⟩]
    · obtain ⟨d1, y1, rfl⟩ : ∃ d1 y1, d0 = d1 ++ [y1] := ⟨d0.dropLast, d0.getLast (n0 rfl), (List.dropLast_concat_getLast (n0 rfl)).symm⟩
      rw [List.dropLast_concat, mus_app, mus_app]
      have : 0 < mus [("s" : Str)] := by decide +kernel
      omega
  · exact plain ")" ")" (by decide +kernel) (by decide +kernel) (by decide +kernel) (by decide +kernel) (by decide +kernel) (by decide +kernel) (by decide +kernel)
  · have so := step_head (d0 := d0) (m := "head e") (x := "tuple") (by decide +kernel)
    have es : slotsL "head e" "tuple" = "s" := by decide +kernel
    rw [es, if_neg (by rintro (z | z | z); exact absurd z (by decide +kernel); exact absurd z.2 (by decide +kernel); exact absurd z (by decide +kernel))] at so
    obtain ⟨d', ey, _⟩ := so
    have e : shortW "head e" = "tuple" := by decide +kernel
    rw [e]
    refine ⟨d', ey, ?_⟩
    have z := stepL_of ey
    unfold stepL at z
    rw [if_neg (by decide +kernel), if_neg (by decide +kernel), if_pos (by decide +kernel), es] at z
    rw [← z, mus_app d0, mus_app d0]
    have : mus ((("s" : Str).cps.toList.map sg).reverse) < mus [("head e" : Str)] := by decide +kernel
    omega
  · have so := step_head (d0 := d0) (m := "head t") (x := "is") (by decide +kernel)
    have es : slotsL "head t" "is" = "we" := by decide +kernel
    rw [es, if_neg (by rintro (z | z | z); exact absurd z (by decide +kernel); exact absurd z.2 (by decide +kernel); exact absurd z (by decide +kernel))] at so
    obtain ⟨d', ey, _⟩ := so
    have e : shortW "head t" = "is" := by decide +kernel
    rw [e]
    refine ⟨d', ey, ?_⟩
    have z := stepL_of ey
    unfold stepL at z
    rw [if_neg (by decide +kernel), if_neg (by decide +kernel), if_pos (by decide +kernel), es] at z
    rw [← z, mus_app d0, mus_app d0]
    have : mus ((("we" : Str).cps.toList.map sg).reverse) < mus [("head t" : Str)] := by decide +kernel
    omega
theorem short_go {ws : List Str} {S : PSt} {d0 : List Str} {m : Str} (g : Went ws S) (e : dueS S = d0 ++ [m]) : ∃ S2, stX S (shortW m) = some S2 ∧ mus (dueS S2) < mus (dueS S) := by
  obtain ⟨bs, tr⟩ := S
  have gc := g.cnt
  have gm := g.marks
  rcases g with ⟨et, rc⟩ | ⟨d, z, _⟩
  · have et : tr = none := et
    subst et
    have rc : Rec bs ws := rc
    obtain ⟨d1, m1, e1, e2⟩ := sim rc (shortW m)
    have e : dueL bs = d0 ++ [m] := e
    obtain ⟨rfl, rfl⟩ := snoc_inj (e1.symm.trans e)
    have gc : cnt (dueL bs) = bs.length := gc
    obtain ⟨d', ey, lt⟩ := step_short (d0 := d1) (m := m1) (gm m1 (by show m1 ∈ dueL bs; rw [e]; simp)) (fun z => by subst z; exact due_s rc e) (fun z => by subst z; rw [← e, gc]; exact rc.room e)
    rw [ey] at e2
    obtain ⟨S2, es, e3⟩ := Option.map_eq_some_iff.mp e2.symm
    refine ⟨S2, es, ?_⟩
    have e4 : dueS ⟨bs, none⟩ = d1 ++ [m1] := e
    rw [e3, e4]
    exact lt
  · cases z
    have e : ([] : List Str) = d0 ++ [m] := e
    exact absurd e (by simp)
/-! a text gone on with to its end -/
def rUpdate : V → List V → Hp → VK → Prop := fun x xs H Q => ∃ (a b : Addr) (kvs more : List (Key × V)), x = .ref a ∧ xs = [.ref b] ∧ a ≠ b ∧ H a = some (.dK kvs) ∧ H b = some (.dK more) ∧ kvs.length + more.length ≤ 1000 ∧ Q .non (upd H a (.dK (mergeK kvs more)))
theorem mt_update {X : Cx} : MtR X "dict.update" rUpdate := by
  intro pins s σ H x xs v us Q I rx rxs h
  obtain ⟨a, b, kvs, more, rfl, rfl, ne, ha, hb, hl, q⟩ := h
  cases rx
  obtain ⟨u, rfl, ru⟩ := vals1 rxs
  cases ru
  obtain ⟨z, hd, vs0, r0, dd⟩ := dk_of I.hok ha
  obtain ⟨z2, hd2, vs2, r2, dd2⟩ := dk_of I.hok hb
  have l0 : vs0.length = kvs.length := (Paired.length r0).symm
  have l2 : vs2.length = more.length := (Paired.length r2).symm
  refine call_meetsIn PySem.F.slot_dict_update dd.typeIs PySem.F.entry_dict_update (PySem.F.args_dict_update_2 _ _) (meets_dict_update (mixKind X.prog X.w) a b ne hd2) ⟨_, _, dd, dd2, few (by omega), fun h' d1 d2 hs => ?_⟩
  have he : ∃ q, h'.get? a = some q := let ⟨q, _, _, hq, _⟩ := d1; ⟨q, hq⟩
  have lm := length_mergeK more kvs
  exact ⟨.non, _, d_write I (by rw [ha]; exact True.intro) hs he (dk_new (few (by omega)) hd (r2.merge r0) d1), rfl, q⟩
abbrev sLEnded : Stmt := topS 44
theorem scLEnded : FnScope ["_law_words", "_law_due", "_law_short"] ["_law_words"] (defScope sLEnded) := ⟨rfl, rfl, rfl, by decide +kernel, rfl, by decide +kernel, by decide +kernel⟩
def OkW (y : Str) : Prop := Low y ∧ 32 ∉ y.cps.toList ∧ y.length ≤ 8
def okwB (y : Str) : Bool := (y.cps.toList.all fun c => decide (c < 128) && decide (c ≠ 32)) && decide (y.length ≤ 8)
theorem okw_of {y : Str} (h : okwB y = true) : OkW y := by
  unfold okwB at h
  rw [Bool.and_eq_true, List.all_eq_true, decide_eq_true_eq] at h
  refine ⟨fun c hc => ?_, fun m => ?_, h.2⟩
  · have z := h.1 c hc
    rw [Bool.and_eq_true, decide_eq_true_eq] at z
    exact z.1
  · have z := h.1 32 m
    rw [Bool.and_eq_true] at z
    exact of_decide_eq_true z.2 rfl
theorem short_at : ∀ m ∈ marksL, valV (kvL shortL) (Sum.inr m : Key) = some (V.str (shortW m)) := by decide +kernel
theorem short_okw : ∀ m ∈ marksL, okwB (shortW m) = true := by decide +kernel
theorem short_merge : mergeK (kvL (shortL.take 8)) (kvL (shortL.drop 8)) = kvL shortL := by decide +kernel
theorem mus_le {l : List Str} : mus l ≤ 5 * l.length := by
  induction l with
  | nil => exact Nat.zero_le _
  | cons a b ih =>
    have e : mus (a :: b) = mwt a + mus b := rfl
    have : mwt a ≤ 5 := by
      unfold mwt
      split
      · decide
      · split
        · decide
        · split <;> decide
    rw [e, List.length_cons]
    omega
def spEnded : Sp := fun vs H Q _ => ∃ a ws S, vs = [.ref a] ∧ H a = some (.lst (ws.map V.str)) ∧ ws.length ≤ 300 ∧ (∀ y ∈ ws, OkW y) ∧ runW S0 ws = some S ∧
  ∀ W T H', runW S0 W = some T → dueS T = [] → W.length ≤ 1600 → (∀ y ∈ W, OkW y) → Same H H' → Q (.str (Txt.join " " W)) H'
section
variable {P : Program} {w : World} {K : PySem.W.Frag} {mg : Str → Option Value} {base : Heap} {f fS fD : Addr} {fd dS dD : FuncData}
theorem ok_lended {k : Nat} (F : Fun K "_law_ended" "_law_ended" sLEnded f fd) (ml : mg "list" = none) (GD : Dn P w K mg base 3 "_law_due_next" ["_law_words"] spDue fD dD) (GS : Dn P w K mg base 2 "_law_step" ["_law_due", "_law_word_here"] spStep fS dS) : FnOk P w K mg base CX0 (k + 4) f fd ["_law_words"] spEnded := by
  refine F.ok scLEnded (fun vs H Q E h => ?_) (fun cdv A outer s H vs Q E hr h => ?_)
  · obtain ⟨a, ws, S, rfl, _⟩ := h
    rfl
  obtain ⟨a, ws, S, rfl, ha, lw, okw, hrun, q⟩ := h
  have hr2 : Room 2 _ := hr.mono (by omega)
  have hr3 : Room 3 _ := hr.mono (by omega)
  have hu := hu_of hr
  refine ⟨_, pss_cons (ps_set (i := 0) scLEnded.nd rfl (.inl rfl) (pe_callTy call_list_of (by rfl) ml b_list (pa_cons (pv 0) pa_nil)))
    (pss_cons (ps_set (i := 1) scLEnded.nd rfl (.inl rfl) (pe_call GD.ok hr3 (by rfl) GD.mg GD.kp GD.bd .nil pass0 (pa_cons (pv 0) pa_nil)))
    (pss_cons (ps_set (i := 2) scLEnded.nd rfl (.inl rfl) (pe_disp (pps_cons pe_str pe_str (pps_cons pe_str pe_str (pps_cons pe_str pe_str (pps_cons pe_str pe_str (pps_cons pe_str pe_str (pps_cons pe_str pe_str (pps_cons pe_str pe_str (pps_cons pe_str pe_str pps_nil)))))))) (by rfl) (by rfl) (fun z => by cases z) (by decide)))
    (pss_cons (ps_expr (pe_bm PySem.F.plainAttrs_dict PySem.F.slot_dict_update PySem.F.type_dict_update mt_update (pv 2) (pa_cons (pe_disp (pps_cons pe_str pe_str (pps_cons pe_str pe_str pps_nil)) (by rfl) (by rfl) (fun z => by cases z) (by decide)) pa_nil)))
    (pss_cons (ps_while PassesOwn.never (pt_cmpR (op_neD hr.units) (pv 1) (pe_lst pa_nil) (nomark _))
      (pss_cons (ps_expr (pe_bm PySem.F.plainAttrs_list PySem.F.slot_list_append PySem.F.type_list_append mt_append (pv 0) (pa_cons (pe_dget hu (pv 2) (pe_ix ix_list (pv 1) (pe_un un_neg pe_int) (fun _ _ => rfl)) (fun _ _ => rfl)) pa_nil)))
      (pss_one (ps_expr (pe_call GS.ok hr2 (by rfl) GS.mg GS.kp GS.bd .nil pass0 (pa_cons (pv 1) (pa_cons (pe_ix ix_list (pv 0) (pe_un un_neg pe_int) (fun _ _ => rfl)) pa_nil)))))))
    (pss_one (ps_ret (pe_join pe_str (pv 0)))))))), ?_⟩
  refine ⟨_, rfl, a, ws.map V.str, rfl, .inl (SqL.of ha), fun L1 h1 => ?_⟩
  have s1 : Same H (upd H L1 (.lst (ws.map V.str))) := same_new h1 _
  have e1 : (upd H L1 (.lst (ws.map V.str))) L1 = some (.lst (ws.map V.str)) := upd_same
  generalize upd H L1 (.lst (ws.map V.str)) = H1 at s1 e1 ⊢
  refine ⟨_, rfl, L1, ws, S, rfl, e1, by omega, hrun, fun D H2 s2 hD e2 => ?_⟩
  have nLD : L1 ≠ D := ne_of_none e1 hD
  have e1 := s2 _ _ e1
  have hD0 : H D = none := s1.free hD
  refine fun B hB => ⟨upd_same, kvL (shortL.take 8), rfl, by decide, ?_⟩
  rw [merge_kvL (by decide +kernel)]
  have s3 : Same H2 (upd (upd H2 B (.dK [])) B (.dK (kvL (shortL.take 8)))) := fun b u z => by
    rw [upd_ne (ne_of_none z hB), upd_ne (ne_of_none z hB)]
    exact z
  have e3 : (upd (upd H2 B (.dK [])) B (.dK (kvL (shortL.take 8)))) B = some (.dK (kvL (shortL.take 8))) := upd_same
  have nLB : L1 ≠ B := ne_of_none e1 hB
  have nDB : D ≠ B := ne_of_none e2 hB
  have hB0 : H B = none := (s1.trans s2).free hB
  generalize upd (upd H2 B (.dK [])) B (.dK (kvL (shortL.take 8))) = H3 at s3 e3 ⊢
  have e1 := s3 _ _ e1
  have e2 := s3 _ _ e2
  refine ⟨_, rfl, .inr (.inr (.inl ⟨rfl, .inl ⟨_, e3⟩⟩)), fun C hC => ⟨upd_same, kvL (shortL.drop 8), rfl, by decide, ?_⟩⟩
  rw [merge_kvL (by decide +kernel)]
  have s4 : Same H3 (upd (upd H3 C (.dK [])) C (.dK (kvL (shortL.drop 8)))) := fun b u z => by
    rw [upd_ne (ne_of_none z hC), upd_ne (ne_of_none z hC)]
    exact z
  have e4 : (upd (upd H3 C (.dK [])) C (.dK (kvL (shortL.drop 8)))) C = some (.dK (kvL (shortL.drop 8))) := upd_same
  have nBC : B ≠ C := ne_of_none e3 hC
  generalize upd (upd H3 C (.dK [])) C (.dK (kvL (shortL.drop 8))) = H4 at s4 e4 ⊢
  have e1 := s4 _ _ e1
  have e2 := s4 _ _ e2
  have e3 := s4 _ _ e3
  refine ⟨B, C, _, _, rfl, rfl, nBC, e3, e4, by decide, ?_⟩
  rw [short_merge]
  have e5 : (upd H4 B (.dK (kvL shortL))) B = some (.dK (kvL shortL)) := upd_same
  have o5 : Off [L1, D, B] H (upd H4 B (.dK (kvL shortL))) := (Off.of (s1.trans (s2.trans (s3.trans s4)))).trans (Off.put (by simp))
  have e1 : (upd H4 B (.dK (kvL shortL))) L1 = some (.lst (ws.map V.str)) := by rw [upd_ne nLB]; exact e1
  have e2 : (upd H4 B (.dK (kvL shortL))) D = some (.lst ((dueS S).map V.str)) := by rw [upd_ne nDB]; exact e2
  generalize upd H4 B (.dK (kvL shortL)) = H5 at e1 e2 e5 o5 ⊢
  have mu0 : mus (dueS S) ≤ 1250 := by
    have := (went0.run hrun).low.2
    have := mus_le (l := dueS S)
    omega
  refine ⟨fun m σ H6 => ∃ W T, σ = [some (.ref L1), some (.ref D), some (.ref B)] ∧ m = mus (dueS T) ∧ runW S0 W = some T ∧ W.length + mus (dueS T) ≤ 1550 ∧ (∀ y ∈ W, OkW y) ∧ H6 L1 = some (.lst (W.map V.str)) ∧ H6 D = some (.lst ((dueS T).map V.str)) ∧ H6 B = some (.dK (kvL shortL)) ∧ Off [L1, D, B] H H6,
    ⟨_, ws, S, rfl, rfl, hrun, by omega, okw, e1, e2, e5, o5⟩, ?_⟩
  rintro m σ H6 ⟨W, T, rfl, rfl, hT, hl, okW, f1, f2, f3, f4⟩
  have gT := went0.run hT
  rw [List.nil_append] at gT
  have lowD : ∀ y ∈ dueS T, Low y := fun y hy => (gT.low.1 y hy).1
  refine ⟨_, rfl, by decide, fun t ht => ?_⟩
  have s7 : Same H6 (upd H6 t (.lst [])) := same_new ht _
  refine ⟨.list ((dueS T).map PyData.str), .list [], .lst (SqL.of (s7 _ _ f2)) (strs_dp _), .lst (SqL.of upd_same) .nil, shp_strs lowD, by decide +kernel, _, rfl, ?_⟩
  rw [eqv_nilL]
  have f1 := s7 _ _ f1
  have f2 := s7 _ _ f2
  have f3 := s7 _ _ f3
  have f4 := f4.trans (Off.of s7)
  generalize upd H6 t (.lst []) = H7 at f1 f2 f3 f4 ⊢
  rcases List.eq_nil_or_concat (dueS T) with z | ⟨d0, m, z⟩
  · rw [z]
    refine iteF ⟨⟨_, rfl⟩, _, rfl, " ", L1, W, rfl, rfl, .inl (SqL.of f1), ?_, ?_⟩
    · have z := join_len (ws := W) (m := 8) fun y hy => (okW y hy).2.2
      have e : (" " : Str).length = 1 := by decide +kernel
      rw [e]
      omega
    · exact q W T H7 hT z (by omega) okW fun b u y => f4.get y (by
        simp only [List.mem_cons, List.not_mem_nil, or_false, not_or]
        exact ⟨ne_of_none y h1, ne_of_none y hD0, ne_of_none y hB0⟩)
  · rw [List.concat_eq_append] at z
    obtain ⟨T2, es, lt⟩ := short_go gT z
    have mm : m ∈ marksL := gT.marks m (by rw [z]; simp)
    have ne : (!((dueS T).map PyData.str).isEmpty) = true := by
      rw [z, List.map_append]
      cases d0.map PyData.str <;> rfl
    rw [ne]
    refine iteT ⟨fun σ' H' => ∃ W T', σ' = [some (.ref L1), some (.ref D), some (.ref B)] ∧ mus (dueS T') < mus (dueS T) ∧ runW S0 W = some T' ∧ W.length + mus (dueS T') ≤ 1550 ∧ (∀ y ∈ W, OkW y) ∧ H' L1 = some (.lst (W.map V.str)) ∧ H' D = some (.lst ((dueS T').map V.str)) ∧ H' B = some (.dK (kvL shortL)) ∧ Off [L1, D, B] H H',
      fun σ' H' ⟨W, T', a1, a2, a3⟩ => ⟨_, a2, W, T', a1, rfl, a3⟩, ?_⟩
    have f2z := f2
    rw [z] at f2z
    have al : atI ((d0 ++ [m]).map V.str) (-1) = some (.str m) := by
      rw [List.map_append]
      exact atI_last _ _
    have dg := DGet.k (k := (Sum.inr m : Key)) f3
    rw [short_at m mm] at dg
    refine ⟨_, rfl, .inl ⟨rfl, _, SqL.of f1⟩, _, rfl, _, rfl, 1, rfl, D, _, -1, .str m, rfl, rfl, SqL.of f2z, al, B, _, rfl, dg, L1, _, .str (shortW m), rfl, rfl, f1, Nat.lt_of_lt_of_le (m := 100000) (by rw [List.length_map]; omega) (few2 (Nat.le_refl _)), ?_⟩
    have g1 : (upd H7 L1 (.lst (W.map V.str ++ [.str (shortW m)]))) L1 = some (.lst ((W ++ [shortW m]).map V.str)) := by
      rw [upd_same, List.map_append]
      rfl
    have g2 : (upd H7 L1 (.lst (W.map V.str ++ [.str (shortW m)]))) D = some (.lst ((d0 ++ [m]).map V.str)) := by
      rw [upd_ne (Ne.symm nLD)]
      exact f2z
    have g3 : (upd H7 L1 (.lst (W.map V.str ++ [.str (shortW m)]))) B = some (.dK (kvL shortL)) := by
      rw [upd_ne (Ne.symm nLB)]
      exact f3
    have g4 : Off [L1, D, B] H (upd H7 L1 (.lst (W.map V.str ++ [.str (shortW m)]))) := f4.trans (Off.put (by simp))
    generalize upd H7 L1 (.lst (W.map V.str ++ [.str (shortW m)])) = H8 at g1 g2 g3 g4 ⊢
    have al2 : atI ((W ++ [shortW m]).map V.str) (-1) = some (.str (shortW m)) := by
      rw [List.map_append]
      exact atI_last _ _
    obtain ⟨d1, m1, k1, k2, k3, k4, k5⟩ := go_mark gT es
    obtain ⟨rfl, rfl⟩ := snoc_inj (k1.symm.trans z)
    refine ⟨_, rfl, _, rfl, 1, rfl, L1, _, -1, .str (shortW m1), rfl, rfl, SqL.of g1, al2, D, d1, m1, shortW m1, rfl, g2, k3, k4, k5, step_slots k2, fun H9 o9 g9 => ?_⟩
    rw [stepL_of k2] at g9
    refine ⟨W ++ [shortW m1], T2, rfl, lt, ?_, ?_, ?_, o9.get g1 (by simpa using nLD), g9, o9.get g3 (by simpa using Ne.symm nDB), g4.trans (o9.mono (by simp))⟩
    · rw [run_app hT]
      show (match stX T (shortW m1) with | none => none | some S2 => runW S2 []) = _
      rw [es]
      rfl
    · rw [List.length_append, List.length_singleton]
      omega
    · intro y hy
      rcases List.mem_append.mp hy with h | h
      · exact okW y h
      · rw [List.mem_singleton.mp h]
        exact okw_of (short_okw m1 mm)
end
/-! a word that is drawn for a text -/
abbrev sLFor : Stmt := topS 45
theorem scLFor : FnScope ["_law_box_here", "_law_due", "_law_deep", "_law_mark", "_law_some"] ["_law_box_here", "_law_due", "_law_deep"] (defScope sLFor) := ⟨rfl, rfl, rfl, by decide +kernel, rfl, by decide +kernel, by decide +kernel⟩
def okV : V → Bool
  | .str y => okwB y
  | _ => false
theorem okV_of {x : V} (h : okV x = true) : ∃ y, x = .str y ∧ OkW y := by
  cases x with
  | str y => exact ⟨y, rfl, okw_of h⟩
  | _ => cases h
def spWordFor : Sp := fun vs H Q _ => ∃ (p g D : Addr) (due : List Str) (e : Int), vs = [.ref p, .ref D, .int e] ∧ Box H p g ∧ H D = some (.lst (due.map V.str)) ∧ D ∉ [p, g] ∧ (∀ y ∈ due, y ∈ marksL) ∧ due.length ≤ 250 ∧ ∀ y H', OkW y → Box H' p g → Off [p, g] H H' → Q (.str y) H'
theorem mark_at1 {K : PySem.W.Frag} {σ : L2.St} {H : Hp} {L : Addr} {D d0 : List Str} {m : Str} {b : Bool} {Qk : VK} (hσ : tVar 1 σ H fun x H1 => x = .ref L ∧ H1 = H) (hL : H L = some (.lst (D.map V.str))) (hc : (D = d0 ++ [m] ∧ b = true) ∨ (D = [] ∧ d0 = [] ∧ m = "no mark" ∧ b = false))
    (k : Qk (.str m) H) : if b = true then tOp (rIxL K) (tVar 1) (tUn (rU fun i => .int (-i)) (tC (.int 1))) σ H Qk else tC (.str "no mark") σ H Qk := by
  obtain ⟨x, e, rfl, _⟩ := hσ
  rcases hc with ⟨rfl, rfl⟩ | ⟨rfl, rfl, rfl, rfl⟩
  · have al : atI ((d0 ++ [m]).map V.str) (-1) = some (.str m) := by
      rw [List.map_append]
      exact atI_last _ _
    exact iteT ⟨_, e, 1, rfl, L, _, -1, .str m, rfl, rfl, SqL.of hL, al, k⟩
  · exact iteF k
theorem marks_low : ∀ y ∈ marksL, (y.cps.toList.all fun c => decide (c < 128)) = true := by decide +kernel
theorem marks_len : ∀ y ∈ marksL, y.length ≤ 10 := by decide +kernel
theorem heads_okw (m : Str) : ((kvL (if cutS m (some 5) none = "t" then teL else exL)).map fun kv => kV kv.1).all okV = true := by
  split <;> decide +kernel
theorem heads_num (m : Str) : 0 < ((kvL (if cutS m (some 5) none = "t" then teL else exL)).map fun kv => kV kv.1).length ∧ ((kvL (if cutS m (some 5) none = "t" then teL else exL)).map fun kv => kV kv.1).length ≤ 1000 := by
  split <;> decide +kernel
theorem valV_mem {kvs : List (Key × V)} {k : Key} {v : V} (h : valV kvs k = some v) : ∃ kv ∈ kvs, kv.2 = v := by
  unfold valV at h
  obtain ⟨kv, h1, h2⟩ := Option.map_eq_some_iff.mp h
  exact ⟨kv, List.mem_of_find?_eq_some h1, h2⟩
section
variable {P : Program} {w : World} {K : PySem.W.Frag} {mg : Str → Option Value} {base : Heap} {f fT fP fF : Addr} {fd dT dP dF : FuncData}
theorem ok_lfor {k : Nat} (F : Fun K "_law_word_for" "_law_word_for" sLFor f fd) (ml : mg "list" = none) (T : Tk P w K mg base fT dT) (GP : Dn P w K mg base 2 "_law_pick" ["_law_box_here", "_law_items"] spPick fP dP)
    (GF : Dn P w K mg base 1 "_law_forms" ["_law_sort"] spForms fF dF) : FnOk P w K mg base CX0 (k + 3) f fd ["_law_box_here", "_law_due", "_law_deep"] spWordFor := by
  refine F.ok scLFor (fun vs H Q E h => ?_) (fun cdv A outer s H vs Q E hr h => ?_)
  · obtain ⟨p, g, D, due, e, rfl, _⟩ := h
    rfl
  obtain ⟨p, g, D, due, e, rfl, hb, hD, nD, mks, ld, q⟩ := h
  have hr1 : Room 1 _ := hr.mono (by omega)
  have hr2 : Room 2 _ := hr.mono (by omega)
  have hu := hu_of hr
  refine ⟨_, pss_cons (ps_set (i := 3) scLFor.nd rfl (.inl rfl) (pe_ifExp (pt_cmpR (op_neD hr.units) (pv 1) (pe_lst pa_nil) (nomark _)) (pe_ix ix_list (pv 1) (pe_un un_neg pe_int) (fun _ _ => rfl)) pe_str))
    (pss_cons (ps_if (pt_cmpR op_eq (pe_call T.ok hr1 (by rfl) T.mg T.kp T.bd .nil pass0 (pa_cons (pv 0) (pa_cons pe_int pa_nil))) pe_int (nomark _))
      (pss_one (ps_ret (pe_call GP.ok hr2 (by rfl) GP.mg GP.kp GP.bd .nil pass0 (pa_cons (pv 0) (pa_cons (pe_lst (pa_cons pe_str (pa_cons pe_str (pa_cons pe_str (pa_cons pe_str (pa_cons pe_str (pa_cons pe_str (pa_cons pe_str (pa_cons pe_str (pa_cons pe_str pa_nil)))))))))) pa_nil))))) pss_nil)
    (C8.pss_cut (ps_if (PW.pt (pw_or (PW.pt (pw_and (pt_cmpR op_in_seq (pv 3) (pe_tup (pa_cons pe_str (pa_cons pe_str (pa_cons pe_str pa_nil)))) rfl) (pw_and1 (pt_cmpR op_lt (pe_call T.ok hr1 (by rfl) T.mg T.kp T.bd .nil pass0 (pa_cons (pv 0) (pa_cons pe_int pa_nil))) (pv 2) (nomark _))))) (pw_or1 (pt_cmpR op_eq (pv 3) pe_str (nomark _)))))
      (pss_one (ps_ret pe_str)) pss_nil)
    (pss_cons (ps_if (pt_cmpR op_eq (pe_slice sl_str (pv 3) po_none (po_some pe_int)) pe_str (nomark _))
      (pss_one (ps_ret (pe_call GP.ok hr2 (by rfl) GP.mg GP.kp GP.bd .nil pass0 (pa_cons (pv 0) (pa_cons (pe_callTy (call_listD rfl) (by rfl) ml b_list (pa_cons (pe_call GF.ok hr1 (by rfl) GF.mg GF.kp GF.bd .nil pass0 (pa_cons (pe_slice sl_str (pv 3) (po_some pe_int) po_none) pa_nil)) pa_nil)) pa_nil))))) pss_nil)
    (pss_cons (ps_set (i := 4) scLFor.nd rfl (.inl rfl) (pe_disp (pps_cons pe_str (pe_lst (pa_cons pe_str (pa_cons pe_str (pa_cons pe_str pa_nil)))) (pps_cons pe_str (pe_lst (pa_cons pe_str (pa_cons pe_str (pa_cons pe_str pa_nil)))) (pps_cons pe_str (pe_lst (pa_cons pe_str (pa_cons pe_str pa_nil))) (pps_cons pe_str (pe_lst (pa_cons pe_str (pa_cons pe_str pa_nil))) (pps_cons pe_str (pe_lst (pa_cons pe_str (pa_cons pe_str pa_nil))) pps_nil))))) (by rfl) (by rfl) (fun z => by cases z) (by decide)))
    (pss_one (ps_ret (pe_call GP.ok hr2 (by rfl) GP.mg GP.kp GP.bd .nil pass0 (pa_cons (pv 0) (pa_cons (pe_dget2 hu (pv 4) (pv 3) (pe_ifExp (pt_cmpR op_eq (pv 3) pe_str (nomark _)) (pe_lst (pa_cons pe_str (pa_cons pe_str (pa_cons pe_str pa_nil)))) (pe_lst (pa_cons pe_str pa_nil))) ⟨rfl, rfl, rfl, rfl⟩) pa_nil))))))))), ?_⟩
  have lowD : ∀ y ∈ due, Low y := fun y hy => low_lit (marks_low y (mks y hy))
  have pk : ∀ (xs : List V) (A0 : Addr) (Hx : Hp), xs.all okV = true → 0 < xs.length → xs.length ≤ 1000 → Box Hx p g → Off [p, g] H Hx → Hx A0 = some (.lst xs) → A0 ∉ [p, g] → spPick [.ref p, .ref A0] Hx Q E0 := fun xs A0 Hx ok l0 l1 b o hA nA =>
    ⟨p, g, A0, xs, rfl, b, hA, nA, l0, l1, fun x hx H' b' o' => by
      obtain ⟨y, rfl, oy⟩ := okV_of (List.all_eq_true.mp ok x hx)
      exact q y H' oy b' (o.trans o')⟩
  refine ⟨_, rfl, by decide, fun t ht => ?_⟩
  have s1 : Same H (upd H t (.lst [])) := same_new ht _
  refine ⟨.list (due.map PyData.str), .list [], .lst (SqL.of (s1 _ _ hD)) (strs_dp _), .lst (SqL.of upd_same) .nil, shp_strs lowD, by decide +kernel, _, rfl, ?_⟩
  rw [eqv_nilL]
  have hD1 := s1 _ _ hD
  have b1 := hb.same s1
  have o1 : Off [p, g] H (upd H t (.lst [])) := Off.of s1
  generalize upd H t (.lst []) = H1 at hD1 b1 o1 ⊢
  obtain ⟨d0, m, hm, hc⟩ : ∃ (d0 : List Str) (m : Str), m.length ≤ 10 ∧ ((due = d0 ++ [m] ∧ (!(due.map PyData.str).isEmpty) = true) ∨ (due = [] ∧ d0 = [] ∧ m = "no mark" ∧ (!(due.map PyData.str).isEmpty) = false)) := by
    rcases List.eq_nil_or_concat due with z | ⟨d0, m, z⟩
    · rw [z]
      exact ⟨[], "no mark", by decide +kernel, .inr ⟨rfl, rfl, rfl, rfl⟩⟩
    · rw [List.concat_eq_append] at z
      refine ⟨d0, m, marks_len m (mks m (by rw [z]; simp)), .inl ⟨z, ?_⟩⟩
      rw [z, List.map_append]
      cases d0.map PyData.str <;> rfl
  refine mark_at1 ⟨_, rfl, rfl, rfl⟩ hD1 hc ?_
  clear hc
  refine ⟨_, rfl, p, g, 30, rfl, b1, by decide, by decide, fun r H2 r0 r5 b2 o2 => ⟨rfl, _, rfl, ite2 (fun c => ?_) (fun c => ?_)⟩⟩
  · refine ⟨_, rfl, few (by simp), fun A0 hA => ?_⟩
    have s3 := same_new (o := .lst [.str "(", .str ")", .str "", .str "x", .str "0", .str "if", .str "not", .str "-1", .str "atom"]) hA
    exact pk _ _ _ (by decide +kernel) (by decide) (by decide) (b2.same s3) ((o1.trans o2).trans (Off.of s3)) upd_same (b2.notin hA)
  have o2 := o1.trans o2
  refine ⟨fun σ H6 => σ = [some (.ref p), some (.ref D), some (.int e), some (.str m), none] ∧ Box H6 p g ∧ Off [p, g] H H6, ?_, ?_⟩
  · have open1 : okV (.str "(") = true := by decide +kernel
    obtain ⟨y, ey, oy⟩ := okV_of open1
    cases ey
    refine ⟨_, rfl, few (by simp), fun T1 hT1 => ⟨T1, _, rfl, .inr (.inl (.inl upd_same)), rfl, rfl, _, rfl, ?_⟩⟩
    have s3 := same_new (o := .tup [.str "e", .str "s", .str "t"]) hT1
    have b3 := b2.same s3
    have o3 := o2.trans (Off.of s3)
    generalize upd H2 T1 (.tup [.str "e", .str "s", .str "t"]) = H3 at b3 o3 ⊢
    refine ite2 (fun c1 => ?_) (fun c1 => ?_)
    · refine ⟨_, rfl, p, g, 9, rfl, b3, by decide, by decide, fun r2 H4 r20 r25 b4 o4 => ⟨_, rfl, _, _, rfl, rfl, _, rfl, ite2 (fun c2 => ?_) (fun c2 => ?_)⟩⟩
      · refine iteT ?_
        exact q _ H4 oy b4 (o3.trans o4)
      · refine iteF (A := True) ?_
        exact ⟨_, rfl, rfl, _, rfl, ite2 (fun c3 => q _ H4 oy b4 (o3.trans o4)) (fun c3 => ⟨rfl, b4, o3.trans o4⟩)⟩
    · refine iteF (A := True) ?_
      exact ⟨_, rfl, rfl, _, rfl, ite2 (fun c3 => q _ H3 oy b3 o3) (fun c3 => ⟨rfl, b3, o3⟩)⟩
  · rintro σ H6 ⟨rfl, b6, o6⟩
    refine ⟨_, rfl, _, rfl, _, rfl, few (by omega), rfl, _, rfl, ite2 (fun c4 => ?_) (fun c4 => ?_)⟩
    · refine ⟨_, rfl, _, rfl, _, rfl, _, rfl, few (by omega), _, rfl, fun pf H8 s8 hpf e8 => ⟨pf, _, rfl, .inl e8, fun A0 hA => ?_⟩⟩
      have b8 := b6.same s8
      have o8 := o6.trans (Off.of s8)
      have s9 := same_new (o := .lst ((kvL (if cutS m (some 5) none = "t" then teL else exL)).map fun kv => kV kv.1)) hA
      obtain ⟨l0, l1⟩ := heads_num m
      exact pk _ _ _ (heads_okw m) l0 l1 (b8.same s9) (o8.trans (Off.of s9)) upd_same (b8.notin hA)
    refine fun B hB => ⟨few (by simp), fun a1 h1 => ⟨few (by simp), fun a2 h2 => ⟨few (by simp), fun a3 h3 => ⟨few (by simp), fun a4 h4 => ⟨few (by simp), fun a5 h5 => ?_⟩⟩⟩⟩⟩
    have hB0 : H B = none := o6.free hB (b6.notin hB)
    have r0 := same_new (o := .dK []) hB
    have v0 : (upd H6 B (.dK [])) B = some (.dK []) := upd_same
    have b7 := b6.same r0
    have nB := b6.notin hB
    have o7 := o6.trans (Off.of r0)
    generalize upd H6 B (.dK []) = G0 at *
    have r1 := same_new (o := .lst [.str "x", .str "0", .str "'a"]) h1
    have v1 : (upd G0 a1 (.lst [.str "x", .str "0", .str "'a"])) a1 = some (.lst [.str "x", .str "0", .str "'a"]) := upd_same
    have n1 := b7.notin h1
    have b7 := b7.same r1
    have v0 := r1 _ _ v0
    generalize upd G0 a1 (.lst [.str "x", .str "0", .str "'a"]) = G1 at *
    have r2 := same_new (o := .lst [.str "x", .str ")", .str ")"]) h2
    have v2 : (upd G1 a2 (.lst [.str "x", .str ")", .str ")"])) a2 = some (.lst [.str "x", .str ")", .str ")"]) := upd_same
    have n2 := b7.notin h2
    have b7 := b7.same r2
    have v0 := r2 _ _ v0
    have v1 := r2 _ _ v1
    generalize upd G1 a2 (.lst [.str "x", .str ")", .str ")"]) = G2 at *
    have r3 := same_new (o := .lst [.str "x", .str "if"]) h3
    have v3 : (upd G2 a3 (.lst [.str "x", .str "if"])) a3 = some (.lst [.str "x", .str "if"]) := upd_same
    have n3 := b7.notin h3
    have b7 := b7.same r3
    have v0 := r3 _ _ v0
    have v1 := r3 _ _ v1
    have v2 := r3 _ _ v2
    generalize upd G2 a3 (.lst [.str "x", .str "if"]) = G3 at *
    have r4 := same_new (o := .lst [.str "0", .str "-7"]) h4
    have v4 : (upd G3 a4 (.lst [.str "0", .str "-7"])) a4 = some (.lst [.str "0", .str "-7"]) := upd_same
    have n4 := b7.notin h4
    have b7 := b7.same r4
    have v0 := r4 _ _ v0
    have v1 := r4 _ _ v1
    have v2 := r4 _ _ v2
    have v3 := r4 _ _ v3
    generalize upd G3 a4 (.lst [.str "0", .str "-7"]) = G4 at *
    have r5' := same_new (o := .lst [.str "0", .str "7"]) h5
    have v5 : (upd G4 a5 (.lst [.str "0", .str "7"])) a5 = some (.lst [.str "0", .str "7"]) := upd_same
    have n5 := b7.notin h5
    have b7 := b7.same r5'
    have v0 := r5' _ _ v0
    have v1 := r5' _ _ v1
    have v2 := r5' _ _ v2
    have v3 := r5' _ _ v3
    have v4 := r5' _ _ v4
    generalize upd G4 a5 (.lst [.str "0", .str "7"]) = G5 at *
    have o7 := o7.trans (Off.of (r1.trans (r2.trans (r3.trans (r4.trans r5')))))
    have em : mergeK [] [((Sum.inr "e" : Key), V.ref a1), (Sum.inr "s", .ref a2), (Sum.inr "n", .ref a3), (Sum.inr "k", .ref a4), (Sum.inr "i", .ref a5)] = [((Sum.inr "e" : Key), V.ref a1), (Sum.inr "s", .ref a2), (Sum.inr "n", .ref a3), (Sum.inr "k", .ref a4), (Sum.inr "i", .ref a5)] :=
      mergeK_new _ _ (show ([(Sum.inr "e" : Key), Sum.inr "s", Sum.inr "n", Sum.inr "k", Sum.inr "i"]).Nodup by decide +kernel)
    refine ⟨v0, [(Sum.inr "e", .ref a1), (Sum.inr "s", .ref a2), (Sum.inr "n", .ref a3), (Sum.inr "k", .ref a4), (Sum.inr "i", .ref a5)], rfl, by simp, ?_⟩
    rw [em]
    have good : ∀ kv ∈ [((Sum.inr "e" : Key), V.ref a1), (Sum.inr "s", .ref a2), (Sum.inr "n", .ref a3), (Sum.inr "k", .ref a4), (Sum.inr "i", .ref a5)], ∃ A0 xs, kv.2 = .ref A0 ∧ xs.all okV = true ∧ 0 < xs.length ∧ xs.length ≤ 1000 ∧ G5 A0 = some (.lst xs) ∧ A0 ∉ [p, g] ∧ A0 ≠ B := by
      intro kv hkv
      have nb : ∀ {A0 xs}, G5 A0 = some (.lst xs) → A0 ≠ B := fun z1 z2 => by
        rw [z2, v0] at z1
        cases z1
      simp only [List.mem_cons, List.not_mem_nil, or_false] at hkv
      rcases hkv with rfl | rfl | rfl | rfl | rfl
      · exact ⟨a1, _, rfl, by decide +kernel, by decide, by decide, v1, n1, nb v1⟩
      · exact ⟨a2, _, rfl, by decide +kernel, by decide, by decide, v2, n2, nb v2⟩
      · exact ⟨a3, _, rfl, by decide +kernel, by decide, by decide, v3, n3, nb v3⟩
      · exact ⟨a4, _, rfl, by decide +kernel, by decide, by decide, v4, n4, nb v4⟩
      · exact ⟨a5, _, rfl, by decide +kernel, by decide, by decide, v5, n5, nb v5⟩
    generalize [((Sum.inr "e" : Key), V.ref a1), (Sum.inr "s", .ref a2), (Sum.inr "n", .ref a3), (Sum.inr "k", .ref a4), (Sum.inr "i", .ref a5)] = kvs at good ⊢
    have w0 : (upd G5 B (.dK kvs)) B = some (.dK kvs) := upd_same
    have b9 := b7.put (o := .dK kvs) nB
    have o9 : Off [p, g] H (upd G5 B (.dK kvs)) := fun b u e => by
      obtain ⟨n, e⟩ := cut_some e
      rw [cut_out n, upd_ne (ne_of_none e hB0)]
      exact o7.get e n
    have good : ∀ kv ∈ kvs, ∃ A0 xs, kv.2 = .ref A0 ∧ xs.all okV = true ∧ 0 < xs.length ∧ xs.length ≤ 1000 ∧ (upd G5 B (.dK kvs)) A0 = some (.lst xs) ∧ A0 ∉ [p, g] := fun kv hkv => by
      obtain ⟨A0, xs, x1, x2, x3, x4, x5, x6, x7⟩ := good kv hkv
      exact ⟨A0, xs, x1, x2, x3, x4, by rw [upd_ne x7]; exact x5, x6⟩
    generalize upd G5 B (.dK kvs) = G6 at w0 b9 o9 good ⊢
    have fin : ∀ (xs0 : List V) (A0 : Addr), G6 A0 = none → xs0.all okV = true → 0 < xs0.length → xs0.length ≤ 1000 → ∃ o, DGet (upd G6 A0 (.lst xs0)) B (.str m) o ∧ spPick [.ref p, o.getD (.ref A0)] (upd G6 A0 (.lst xs0)) Q E0 := fun xs0 A0 hA x1 x2 x3 => by
      have r9 := same_new (o := .lst xs0) hA
      refine ⟨_, DGet.k (k := (Sum.inr m : Key)) (r9 _ _ w0), ?_⟩
      cases hv : valV kvs (Sum.inr m : Key) with
      | none => exact pk _ _ _ x1 x2 x3 (b9.same r9) (o9.trans (Off.of r9)) upd_same (b9.notin hA)
      | some v =>
        obtain ⟨kv, hkv, rfl⟩ := valV_mem hv
        obtain ⟨A1, xs, y1, y2, y3, y4, y5, y6⟩ := good kv hkv
        show spPick [.ref p, kv.2] _ _ _
        rw [y1]
        exact pk _ _ _ y2 y3 y4 (b9.same r9) (o9.trans (Off.of r9)) (r9 _ _ y5) y6
    refine ⟨_, rfl, _, rfl, B, rfl, .inl ⟨_, .inl w0⟩, _, rfl, _, rfl, rfl, _, rfl, ite2 (fun c5 => ⟨few (by simp), fun A0 hA => ?_⟩) (fun c5 => ⟨few (by simp), fun A0 hA => ?_⟩)⟩
    · exact fin [.str "integer", .str "atom", .str "tuple"] A0 hA (by decide +kernel) (by decide) (by decide)
    · exact fin [.str ")"] A0 hA (by decide +kernel) (by decide) (by decide)
end
def tw (ws : List Str) : Nat := (ws.map (·.length)).sum + ws.length
theorem tw_app (a b : List Str) : tw (a ++ b) = tw a + tw b := by
  unfold tw
  rw [List.map_append, List.sum_append, List.length_append]
  omega
theorem tw_take (n : Nat) (ws : List Str) : tw (ws.take n) ≤ tw ws := by
  have e := tw_app (ws.take n) (ws.drop n)
  rw [List.take_append_drop] at e
  omega
theorem tw_drop (n : Nat) (ws : List Str) : tw (ws.drop n) ≤ tw ws := by
  have e := tw_app (ws.take n) (ws.drop n)
  rw [List.take_append_drop] at e
  omega
theorem tw_join (ws : List Str) : (Txt.join " " ws).length ≤ tw ws := by
  rw [join_is]
  by_cases h : ws = []
  · subst h
    exact Nat.zero_le _
  · have := join_exact ws h
    unfold tw
    omega
theorem low_join {ws : List Str} (h : ∀ y ∈ ws, Low y) : Low (Txt.join " " ws) := by
  rw [join_is]
  intro c hc
  induction ws with
  | nil =>
    have hc : c ∈ ([] : List Nat) := hc
    cases hc
  | cons a b ih =>
    cases b with
    | nil => exact h a List.mem_cons_self c hc
    | cons d e =>
      have hc : c ∈ (a ++ " " ++ Str.join " " (d :: e)).cps.toList := hc
      rw [cps_cat, cps_cat] at hc
      rcases List.mem_append.mp hc with z | z
      · rcases List.mem_append.mp z with z | z
        · exact h a List.mem_cons_self c z
        · have e1 : (" " : Str).cps.toList = [32] := by decide +kernel
          rw [e1] at z
          rw [List.mem_singleton.mp z]
          decide
      · exact ih (fun y hy => h y (List.mem_cons_of_mem _ hy)) z
/-! words that are made one by one -/
abbrev sLMade : Stmt := topS 46
theorem scLMade : FnScope ["_law_box_here", "_law_deep", "_law_words", "_law_turn", "_law_wrong"] ["_law_box_here", "_law_deep"] (defScope sLMade) := ⟨rfl, rfl, rfl, by decide +kernel, rfl, by decide +kernel, by decide +kernel⟩
def spMade : Sp := fun vs H Q _ => ∃ (p g : Addr) (e : Int), vs = [.ref p, .int e] ∧ Box H p g ∧ ∀ a W H', H' a = some (.lst (W.map V.str)) → W ≠ [] → W.length ≤ 200 → (∀ y ∈ W, OkW y) → Box H' p g → Off [p, g] H H' → a ∉ [p, g] → Q (.ref a) H'
theorem split_okw {W : List Str} (ne : W ≠ []) (h : ∀ y ∈ W, OkW y) : splitW (Txt.join " " W) = W := split_back ne fun y hy => (h y hy).2.1
theorem join_okw {W : List Str} (h : ∀ y ∈ W, OkW y) : Low (Txt.join " " W) ∧ (Txt.join " " W).length ≤ 9 * W.length ∧ (W.map (·.length)).sum + W.length ≤ 9 * W.length := by
  have z := join_len (ws := W) (m := 8) fun y hy => (h y hy).2.2
  refine ⟨low_join fun y hy => (h y hy).1, Nat.le_trans (tw_join W) ?_, by omega⟩
  unfold tw
  omega
theorem wrong_run : ∀ {ws : List Str} {S : PSt} {i j : Nat}, wrongF S ws i = some j → (i ≤ j ∧ j < i + ws.length) ∨ (j = i + ws.length ∧ ∃ T, runW S ws = some T)
  | [], S, i, j, h => by
    unfold wrongF at h
    cases e : S.tree with
    | some d =>
      rw [e] at h
      cases h
    | none =>
      rw [e] at h
      exact .inr ⟨(Option.some.inj h).symm, S, rfl⟩
  | x :: ws, S, i, j, h => by
    unfold wrongF at h
    cases e : stX S x with
    | none =>
      rw [e] at h
      have h := Option.some.inj h
      exact .inl ⟨by omega, by rw [List.length_cons]; omega⟩
    | some S2 =>
      rw [e] at h
      rcases wrong_run h with ⟨a, b⟩ | ⟨a, T, b⟩
      · exact .inl ⟨by omega, by rw [List.length_cons]; omega⟩
      · refine .inr ⟨by rw [List.length_cons]; omega, T, ?_⟩
        show (match stX S x with | none => none | some S2 => runW S2 ws) = _
        rw [e]
        exact b
section
variable {P : Program} {w : World} {K : PySem.W.Frag} {mg : Str → Option Value} {base : Heap} {f fT fD fI fW : Addr} {fd dT dD dI dW : FuncData}
theorem ok_lmade {k : Nat} (F : Fun K "_law_made" "_law_made" sLMade f fd) (mr : mg "range" = none) (mn : mg "len" = none) (T : Tk P w K mg base fT dT) (GD : Dn P w K mg base 3 "_law_due_next" ["_law_words"] spDue fD dD)
    (GI : Dn P w K mg base 3 "_law_first_wrong" ["_law_text"] spFirst fI dI) (GW : Dn P w K mg base 3 "_law_word_for" ["_law_box_here", "_law_due", "_law_deep"] spWordFor fW dW) : FnOk P w K mg base CX0 (k + 4) f fd ["_law_box_here", "_law_deep"] spMade := by
  refine F.ok scLMade (fun vs H Q E h => ?_) (fun cdv A outer s H vs Q E hr h => ?_)
  · obtain ⟨p, g, e, rfl, _⟩ := h
    rfl
  obtain ⟨p, g, e, rfl, hb, q⟩ := h
  have hr1 : Room 1 _ := hr.mono (by omega)
  have hr3 : Room 3 _ := hr.mono (by omega)
  refine ⟨_, pss_cons (ps_set (i := 2) scLMade.nd rfl (.inl rfl) (pe_lst pa_nil))
    (pss_cons (ps_for PassesOwn.never rfl (pi_range1 (by rfl) mr (pa_cons (pe_op op_add pe_int (pe_call T.ok hr1 (by rfl) T.mg T.kp T.bd .nil pass0 (pa_cons (pv 0) (pa_cons pe_int pa_nil)))) pa_nil)) (pg_name (i := 3) scLMade.nd rfl (.inl rfl))
      (C8.pss_cut (ps_set (i := 4) scLMade.nd rfl (.inl rfl) (pe_ifExp (pt_cmpR (op_neD hr.units) (pv 2) (pe_lst pa_nil) (nomark _)) (pe_call GI.ok hr3 (by rfl) GI.mg GI.kp GI.bd .nil pass0 (pa_cons (pe_join pe_str (pv 2)) pa_nil)) pe_int))
      (C8.pss_cut (ps_if (PW.pt (pw_and (pt_cmpR (op_neD hr.units) (pv 2) (pe_lst pa_nil) (nomark _)) (pw_and1 (PW.pt (pw_or (pt_cmp (pc_isN (pv 4))) (pw_or1 (pt_cmpR op_lt (pv 4) (pe_callB call_len_seq (by rfl) mn PySem.boot_len (pa_cons (pv 2) pa_nil)) (nomark _))))))))
        (pss_one (ps_ret (pv 2))) pss_nil)
      (pss_one (ps_expr (pe_bm PySem.F.plainAttrs_list PySem.F.slot_list_append PySem.F.type_list_append mt_append (pv 2) (pa_cons (pe_call GW.ok hr3 (by rfl) GW.mg GW.kp GW.bd .nil pass0 (pa_cons (pv 0) (pa_cons (pe_call GD.ok hr3 (by rfl) GD.mg GD.kp GD.bd .nil pass0 (pa_cons (pv 2) pa_nil)) (pa_cons (pe_ifExp (pt_cmpR op_lt (pv 3) pe_int (nomark _)) (pv 1) pe_int) pa_nil)))) pa_nil)))))))
    (pss_one (ps_ret (pv 2)))), ?_⟩
  refine ⟨by decide, fun L hL => ?_⟩
  have s1 : Same H (upd H L (.lst [])) := same_new hL _
  have g1 : (upd H L (.lst [])) L = some (.lst []) := upd_same
  have nL := hb.notin hL
  have b1 := hb.same s1
  generalize upd H L (.lst []) = H1 at s1 g1 b1 ⊢
  have back : ∀ {H3 : Hp}, Off [p, g, L] H1 H3 → Off [p, g] H H3 := fun o b u z => by
    obtain ⟨n, z⟩ := cut_some z
    rw [cut_out n]
    refine o.get (s1 _ _ z) ?_
    simp only [List.mem_cons, List.not_mem_nil, or_false, not_or] at n ⊢
    exact ⟨n.1, n.2, ne_of_none z hL⟩
  have up3 : ∀ {Hx Hy : Hp}, Off [p, g] Hx Hy → Off [p, g, L] Hx Hy := fun o => o.mono fun b hb => by
    simp only [List.mem_cons, List.not_mem_nil, or_false] at hb ⊢
    rcases hb with z | z
    · exact .inl z
    · exact .inr (.inl z)
  refine ⟨_, rfl, p, g, 100, rfl, b1, by decide, by decide, fun r H2 r0 r5 b2 o2 => ⟨20, r, rfl, rfl, 20 + r, rfl, by omega, by omega, for_range (n := (20 + r).toNat) (fun i σ H3 => ∃ W o3 o4, σ = [some (.ref p), some (.int e), some (.ref L), o3, o4] ∧ W.length = i ∧ (∀ y ∈ W, OkW y) ∧ H3 L = some (.lst (W.map V.str)) ∧ Box H3 p g ∧ Off [p, g, L] H1 H3)
    ⟨[], none, none, rfl, rfl, fun _ z => (nomatch z), o2.get g1 nL, b2, up3 o2⟩ ?_ ?_⟩⟩
  · rintro i σ H3 hi ⟨W, o3, o4, rfl, lW, okW, g3, b3, q3⟩
    have lowW : ∀ y ∈ W, Low y := fun y hy => (okW y hy).1
    obtain ⟨j1, j2, j3⟩ := join_okw okW
    have isn : (!(W.map PyData.str).isEmpty) = !W.isEmpty := by cases W <;> rfl
    refine ⟨fun σ' H5 => ∃ v4, σ' = [some (.ref p), some (.int e), some (.ref L), some (.int (0 + (i : Nat))), some v4] ∧ ((W = [] ∧ v4 = .int 0) ∨ (W ≠ [] ∧ v4 = oV (wrongW W))) ∧ H5 L = some (.lst (W.map V.str)) ∧ Box H5 p g ∧ Off [p, g, L] H1 H5, ?_, ?_⟩
    · refine ⟨_, rfl, by decide, fun t ht => ?_⟩
      have s4 : Same H3 (upd H3 t (.lst [])) := same_new ht _
      refine ⟨.list (W.map PyData.str), .list [], .lst (SqL.of (s4 _ _ g3)) (strs_dp _), .lst (SqL.of upd_same) .nil, shp_strs lowW, by decide +kernel, _, rfl, ?_⟩
      rw [eqv_nilL, isn]
      have g4 := s4 _ _ g3
      have b4 := b3.same s4
      have q4 := q3.trans (Off.of s4)
      generalize upd H3 t (.lst []) = H4 at g4 b4 q4 ⊢
      cases hW : W with
      | nil =>
        rw [hW] at g4
        exact iteF ⟨.int 0, rfl, .inl ⟨rfl, rfl⟩, g4, b4, q4⟩
      | cons y0 W0 =>
        rw [← hW]
        have ne : W ≠ [] := by rw [hW]; exact fun z => by cases z
        have hB : (!W.isEmpty) = true := by rw [hW]; rfl
        rw [hB]
        refine iteT ⟨⟨_, rfl⟩, _, rfl, " ", L, W, rfl, rfl, .inl (SqL.of g4), ?_, Txt.join " " W, rfl, by omega, j1, fun H5 s5 => ?_⟩
        · have e : (" " : Str).length = 1 := by decide +kernel
          rw [e]
          omega
        · rw [split_okw ne okW]
          exact ⟨_, rfl, .inr ⟨ne, rfl⟩, s5 _ _ g4, b4.same s5, q4.trans (Off.of s5)⟩
    · rintro σ' H5 ⟨v4, rfl, hv, g5, b5, q5⟩
      refine ⟨fun σ' H6 => ∃ T, σ' = [some (.ref p), some (.int e), some (.ref L), some (.int (0 + (i : Nat))), some v4] ∧ runW S0 W = some T ∧ H6 L = some (.lst (W.map V.str)) ∧ Box H6 p g ∧ Off [p, g, L] H1 H6, ?_, ?_⟩
      · refine ⟨_, rfl, by decide, fun t ht => ?_⟩
        have s4 : Same H5 (upd H5 t (.lst [])) := same_new ht _
        refine ⟨.list (W.map PyData.str), .list [], .lst (SqL.of (s4 _ _ g5)) (strs_dp _), .lst (SqL.of upd_same) .nil, shp_strs lowW, by decide +kernel, _, rfl, ?_⟩
        rw [eqv_nilL, isn]
        have g4 := s4 _ _ g5
        have b4 := b5.same s4
        have q4 := q5.trans (Off.of s4)
        generalize upd H5 t (.lst []) = H4 at g4 b4 q4 ⊢
        rcases hv with ⟨rfl, rfl⟩ | ⟨ne, rfl⟩
        · exact iteF ⟨S0, rfl, rfl, g4, b4, q4⟩
        · have hB : (!W.isEmpty) = true := by
            cases W with
            | nil => exact absurd rfl ne
            | cons _ _ => rfl
          rw [hB]
          refine iteT ⟨_, rfl, _, rfl, ?_⟩
          cases hw : wrongW W with
          | none =>
            refine iteT (B := True) ?_
            exact iteT (B := True) ⟨_, rfl, q L W H4 g4 ne (by omega) okW b4 (back q4) nL⟩
          | some j =>
            refine iteF' (by rfl) ⟨_, rfl, _, rfl, L, _, rfl, .inl (SqL.of g4), _, _, rfl, rfl, _, rfl, ?_⟩
            rw [List.length_map]
            rcases wrong_run hw with ⟨_, lt⟩ | ⟨ej, T, hT⟩
            · exact iteT' (decide_eq_true (by omega)) ⟨_, rfl, q L W H4 g4 ne (by omega) okW b4 (back q4) nL⟩
            · exact iteF' (decide_eq_false (by omega)) ⟨T, rfl, hT, g4, b4, q4⟩
      · rintro σ' H6 ⟨T, rfl, hT, g6, b6, q6⟩
        have gT := went0.run hT
        rw [List.nil_append] at gT
        have fin : ∀ (y : Str) (H8 : Hp), OkW y → H8 L = some (.lst (W.map V.str)) → Box H8 p g → Off [p, g, L] H1 H8 → (W ++ [y]).length = i + 1 ∧ (∀ z ∈ W ++ [y], OkW z) ∧ (upd H8 L (.lst (W.map V.str ++ [.str y]))) L = some (.lst ((W ++ [y]).map V.str)) ∧ Box (upd H8 L (.lst (W.map V.str ++ [.str y]))) p g ∧ Off [p, g, L] H1 (upd H8 L (.lst (W.map V.str ++ [.str y]))) := fun y H8 oy g8 b8 q8 => by
          refine ⟨by rw [List.length_append, List.length_singleton, lW], fun z hz => ?_, ?_, b8.put nL, q8.trans (Off.put (by simp))⟩
          · rcases List.mem_append.mp hz with h | h
            · exact okW z h
            · rw [List.mem_singleton.mp h]
              exact oy
          · rw [upd_same, List.map_append]
            rfl
        have l1 : (W.map V.str).length < sizeLine := by
          rw [List.length_map]
          exact small1000 (by omega)
        refine ⟨_, rfl, .inl ⟨rfl, _, SqL.of g6⟩, _, rfl, _, rfl, L, W, T, rfl, g6, by omega, hT, fun D H7 s7 hD e7 => ⟨_, rfl, _, _, rfl, rfl, _, rfl, ite2 (fun c => ?_) (fun c => ?_)⟩⟩
        · refine ⟨_, rfl, p, g, D, dueS T, e, rfl, b6.same s7, e7, b6.notin hD, gT.marks, gT.low.2, fun y H8 oy b8 o8 => ?_⟩
          have g8 := o8.get (s7 _ _ g6) nL
          obtain ⟨x1, x2, x3, x4, x5⟩ := fin y H8 oy g8 b8 ((q6.trans (Off.of s7)).trans (up3 o8))
          exact ⟨L, _, .str y, rfl, rfl, g8, l1, W ++ [y], _, _, rfl, x1, x2, x3, x4, x5⟩
        · refine ⟨p, g, D, dueS T, 1, rfl, b6.same s7, e7, b6.notin hD, gT.marks, gT.low.2, fun y H8 oy b8 o8 => ?_⟩
          have g8 := o8.get (s7 _ _ g6) nL
          obtain ⟨x1, x2, x3, x4, x5⟩ := fin y H8 oy g8 b8 ((q6.trans (Off.of s7)).trans (up3 o8))
          exact ⟨L, _, .str y, rfl, rfl, g8, l1, W ++ [y], _, _, rfl, x1, x2, x3, x4, x5⟩
  · rintro σ H3 ⟨W, o3, o4, rfl, lW, okW, g3, b3, q3⟩
    exact ⟨_, rfl, q L W H3 g3 (fun z => by rw [z] at lW; have : ([] : List Str).length = 0 := rfl; omega) (by omega) okW b3 (back q3) nL⟩
end
/-! words with many brackets -/
abbrev sLNest : Stmt := topS 47
theorem scLNest : FnScope ["_law_box_here", "_law_words", "_law_many", "_law_k", "_law_row"] ["_law_box_here"] (defScope sLNest) := ⟨rfl, rfl, rfl, by decide +kernel, rfl, by decide +kernel, by decide +kernel⟩
def spNest : Sp := fun vs H Q _ => ∃ (p g : Addr), vs = [.ref p] ∧ Box H p g ∧ ∀ a W H', H' a = some (.lst (W.map V.str)) → W ≠ [] → W.length ≤ 300 → (∀ y ∈ W, OkW y) → Box H' p g → Off [p, g] H H' → a ∉ [p, g] → Q (.ref a) H'
def rowTA : List Str → TA
  | [] => tNil
  | y :: r => tCons (tC (.str y)) (rowTA r)
def rowsTA : List (List Str) → TA
  | [] => tNil
  | r :: rs => tCons (tLst (rowTA r)) (rowsTA rs)
theorem row_te : ∀ (r : List Str) (σ : L2.St) (H : Hp) (Q : List V → Hp → Prop), Q (r.map V.str) H → rowTA r σ H Q
  | [], σ, H, Q, q => q
  | y :: r, σ, H, Q, q => row_te r σ H (fun xs H1 => Q (V.str y :: xs) H1) q
theorem rows_te : ∀ (rows : List (List Str)) (σ : L2.St) (H : Hp) (Q : List V → Hp → Prop), (∀ r ∈ rows, r.length ≤ 1000) →
    (∀ (as : List Addr) H', Same H H' → as.length = rows.length → (∀ a ∈ as, H a = none ∧ ∃ r ∈ rows, H' a = some (.lst (r.map V.str))) → Q (as.map V.ref) H') → rowsTA rows σ H Q
  | [], σ, H, Q, _, q => q [] H (Same.refl H) rfl (fun _ z => nomatch z)
  | r :: rows, σ, H, Q, l, q => by
    show tLst (rowTA r) σ H fun x H1 => rowsTA rows σ H1 fun xs H2 => Q (x :: xs) H2
    refine row_te r σ H _ ⟨few (by rw [List.length_map]; exact l r List.mem_cons_self), fun a ha => ?_⟩
    have s1 := same_new (o := .lst (r.map V.str)) ha
    have e1 : (upd H a (.lst (r.map V.str))) a = some (.lst (r.map V.str)) := upd_same
    refine rows_te rows σ _ _ (fun r' hr' => l r' (List.mem_cons_of_mem _ hr')) fun as H' s2 ln h => ?_
    refine q (a :: as) H' (s1.trans s2) (by rw [List.length_cons, List.length_cons, ln]) fun b hb => ?_
    rcases List.mem_cons.mp hb with z | z
    · rw [z]
      exact ⟨ha, r, List.mem_cons_self, s2 _ _ e1⟩
    · obtain ⟨x1, r', x2, x3⟩ := h b z
      exact ⟨s1.free x1, r', List.mem_cons_of_mem _ x2, x3⟩
def rowsA : List (List Str) := [["plus"], ["part"], ["tuple"], ["reach"], ["each", "x"], ["let", "a"]]
def rowsB : List (List Str) := [["if"], ["pick", "x", "x"], ["if", "(", "not"], ["if", "(", "is", "atom"]]
theorem rows_ok : ∀ r ∈ rowsA ++ rowsB, (r.all okwB && decide (r.length ≤ 4)) = true := by decide +kernel
/-- what a drawn row is -/
def RowAt (H : Hp) (p g L ra : Addr) : Prop := ∃ us : List Str, H ra = some (.lst (us.map V.str)) ∧ us.length ≤ 4 ∧ (∀ y ∈ us, OkW y) ∧ ra ∉ [p, g] ∧ ra ≠ L
theorem pick_rows {rows : List (List Str)} (hr : ∀ r ∈ rows, r ∈ rowsA ++ rowsB) (h0 : 0 < rows.length) (h1 : rows.length ≤ 1000) {p g L : Addr} {σ : L2.St} {H : Hp} {Q : VK} (hp : σ[0]? = some (some (.ref p))) (hb : Box H p g) {o : HO} (hL : H L = some o) (nL : L ∉ [p, g])
    (k : ∀ ra H', RowAt H' p g L ra → Box H' p g → Off [p, g] H H' → Q (.ref ra) H') : tCall spPick [] E0 (tCons (tVar 0) (tCons (tLst (rowsTA rows)) tNil)) σ H Q := by
  refine ⟨_, hp, rows_te rows σ H _ (fun r h => ?_) fun as H1 s1 ln h => ⟨few (by rw [List.length_map]; omega), fun A hA => ?_⟩⟩
  · have z := rows_ok r (hr r h)
    rw [Bool.and_eq_true, decide_eq_true_eq] at z
    omega
  have s2 := same_new (o := .lst (as.map V.ref)) hA
  have b1 := hb.same s1
  have nA := b1.notin hA
  refine ⟨p, g, A, as.map V.ref, rfl, b1.same s2, upd_same, nA, by rw [List.length_map]; omega, by rw [List.length_map]; omega, fun x hx H' b' o' => ?_⟩
  obtain ⟨a, ha, rfl⟩ := List.mem_map.mp hx
  obtain ⟨x1, r, x2, x3⟩ := h a ha
  have z := rows_ok r (hr r x2)
  rw [Bool.and_eq_true, decide_eq_true_eq] at z
  have na := hb.notin x1
  exact k a H' ⟨r, o'.get (s2 _ _ x3) na, z.2, fun y hy => okw_of (List.all_eq_true.mp z.1 y hy), na, fun e => by rw [e, hL] at x1; cases x1⟩ b' ((Off.of (s1.trans s2)).trans o')
section
variable {P : Program} {w : World} {K : PySem.W.Frag} {mg : Str → Option Value} {base : Heap} {f fT fP : Addr} {fd dT dP : FuncData}
theorem ok_lnest {k : Nat} (F : Fun K "_law_nested" "_law_nested" sLNest f fd) (mr : mg "range" = none) (mi : mg "int" = none) (T : Tk P w K mg base fT dT) (GP : Dn P w K mg base 2 "_law_pick" ["_law_box_here", "_law_items"] spPick fP dP) : FnOk P w K mg base CX0 (k + 3) f fd ["_law_box_here"] spNest := by
  refine F.ok scLNest (fun vs H Q E h => ?_) (fun cdv A outer s H vs Q E hr h => ?_)
  · obtain ⟨p, g, rfl, _⟩ := h
    rfl
  obtain ⟨p, g, rfl, hb, q⟩ := h
  have hr1 : Room 1 _ := hr.mono (by omega)
  have hr2 : Room 2 _ := hr.mono (by omega)
  refine ⟨_, pss_cons (ps_par (i := 1) (j := 2) (by rfl) scLNest.nd rfl rfl (by decide) rfl rfl (pa_cons (pe_lst pa_nil) (pa_cons (pe_op op_add pe_int (pe_call T.ok hr1 (by rfl) T.mg T.kp T.bd .nil pass0 (pa_cons (pv 0) (pa_cons pe_int pa_nil)))) pa_nil)) (by rfl))
    (pss_cons (ps_for PassesOwn.never rfl (pi_range1 (by rfl) mr (pa_cons (pv 2) pa_nil)) (pg_name (i := 3) scLNest.nd rfl (.inl rfl))
      (C8.pss_cut (ps_set (i := 4) scLNest.nd rfl (.inl rfl) (pe_call GP.ok hr2 (by rfl) GP.mg GP.kp GP.bd .nil pass0 (pa_cons (pv 0) (pa_cons (pe_lst (pa_cons (pe_lst (pa_cons pe_str pa_nil)) (pa_cons (pe_lst (pa_cons pe_str pa_nil)) (pa_cons (pe_lst (pa_cons pe_str pa_nil)) (pa_cons (pe_lst (pa_cons pe_str pa_nil)) (pa_cons (pe_lst (pa_cons pe_str (pa_cons pe_str pa_nil))) (pa_cons (pe_lst (pa_cons pe_str (pa_cons pe_str pa_nil))) pa_nil))))))) pa_nil))))
      (C8.pss_cut (ps_if (PW.pt (pw_and (pt_cmpR op_eq (pe_call T.ok hr1 (by rfl) T.mg T.kp T.bd .nil pass0 (pa_cons (pv 0) (pa_cons pe_int pa_nil))) pe_int (nomark _)) (pw_and1 (pt_cmpR op_gt (pv 3) pe_int (nomark _)))))
        (pss_one (ps_set (i := 4) scLNest.nd rfl (.inl rfl) (pe_call GP.ok hr2 (by rfl) GP.mg GP.kp GP.bd .nil pass0 (pa_cons (pv 0) (pa_cons (pe_lst (pa_cons (pe_lst (pa_cons pe_str pa_nil)) (pa_cons (pe_lst (pa_cons pe_str (pa_cons pe_str (pa_cons pe_str pa_nil)))) (pa_cons (pe_lst (pa_cons pe_str (pa_cons pe_str (pa_cons pe_str pa_nil)))) (pa_cons (pe_lst (pa_cons pe_str (pa_cons pe_str (pa_cons pe_str (pa_cons pe_str pa_nil))))) pa_nil))))) pa_nil))))) pss_nil)
      (pss_one (ps_expr (pe_bm PySem.F.plainAttrs_list PySem.F.slot_list_extend PySem.F.type_list_extend mt_extend (pv 1) (pa_cons (pe_op op_cat (pe_op op_cat (pe_lst (pa_cons pe_str pa_nil)) (pv 4)) (pe_op op_rep (pe_lst (pa_cons pe_str pa_nil)) (pe_callTy call_int1 (by rfl) mi (by decide +kernel) (pa_cons (pe_cmpR (op_eqD hr.units) (pv 4) (pe_lst (pa_cons pe_str (pa_cons pe_str pa_nil))) (nomark _)) pa_nil)))) pa_nil)))))))
    (pss_one (ps_ret (pe_op op_cat (pv 1) (pe_op op_rep (pe_lst (pa_cons pe_str pa_nil)) (pe_call T.ok hr1 (by rfl) T.mg T.kp T.bd .nil pass0 (pa_cons (pv 0) (pa_cons pe_int pa_nil)))))))), ?_⟩
  refine ⟨by decide, fun L hL => ?_⟩
  have s1 : Same H (upd H L (.lst [])) := same_new hL _
  have g1 : (upd H L (.lst [])) L = some (.lst []) := upd_same
  have nL := hb.notin hL
  have b1 := hb.same s1
  generalize upd H L (.lst []) = H1 at s1 g1 b1 ⊢
  have back : ∀ {H3 : Hp}, Off [p, g, L] H1 H3 → Off [p, g] H H3 := fun o b u z => by
    obtain ⟨n, z⟩ := cut_some z
    rw [cut_out n]
    refine o.get (s1 _ _ z) ?_
    simp only [List.mem_cons, List.not_mem_nil, or_false, not_or] at n ⊢
    exact ⟨n.1, n.2, ne_of_none z hL⟩
  have up3 : ∀ {Hx Hy : Hp}, Off [p, g] Hx Hy → Off [p, g, L] Hx Hy := fun o => o.mono fun b hb => by
    simp only [List.mem_cons, List.not_mem_nil, or_false] at hb ⊢
    rcases hb with z | z
    · exact .inl z
    · exact .inr (.inl z)
  refine ⟨_, rfl, p, g, 6, rfl, b1, by decide, by decide, fun r H2 r0 r5 b2 o2 => ⟨37, r, rfl, rfl, _, _, rfl, ?_⟩⟩
  refine ⟨_, rfl, 37 + r, rfl, by omega, by omega, for_range (n := (37 + r).toNat) (fun i σ H3 => ∃ W o3 o4, σ = [some (.ref p), some (.ref L), some (.int (37 + r)), o3, o4] ∧ i ≤ W.length ∧ W.length ≤ 6 * i ∧ (∀ y ∈ W, OkW y) ∧ H3 L = some (.lst (W.map V.str)) ∧ Box H3 p g ∧ Off [p, g, L] H1 H3)
    ⟨[], none, none, rfl, Nat.zero_le _, Nat.zero_le _, fun _ z => (nomatch z), o2.get g1 nL, b2, up3 o2⟩ ?_ ?_⟩
  · rintro i σ H3 hi ⟨W, o3, o4, rfl, lW0, lW1, okW, g3, b3, q3⟩
    refine ⟨fun σ' H5 => ∃ ra, σ' = [some (.ref p), some (.ref L), some (.int (37 + r)), some (.int (0 + (i : Nat))), some (.ref ra)] ∧ RowAt H5 p g L ra ∧ H5 L = some (.lst (W.map V.str)) ∧ Box H5 p g ∧ Off [p, g, L] H1 H5, ?_, ?_⟩
    · exact pick_rows (rows := rowsA) (L := L) (fun r h => List.mem_append_left _ h) (by decide) (by decide) rfl b3 g3 nL fun ra H5 hra b5 o5 => ⟨ra, rfl, hra, o5.get g3 nL, b5, q3.trans (up3 o5)⟩
    · rintro σ' H5 ⟨ra, rfl, hra, g5, b5, q5⟩
      refine ⟨fun σ' H5 => ∃ ra, σ' = [some (.ref p), some (.ref L), some (.int (37 + r)), some (.int (0 + (i : Nat))), some (.ref ra)] ∧ RowAt H5 p g L ra ∧ H5 L = some (.lst (W.map V.str)) ∧ Box H5 p g ∧ Off [p, g, L] H1 H5, ?_, ?_⟩
      · refine ⟨_, rfl, p, g, 3, rfl, b5, by decide, by decide, fun r2 H6 r20 r23 b6 o6 => ⟨rfl, _, rfl, ?_⟩⟩
        have hra6 : RowAt H6 p g L ra := by
          obtain ⟨us, y1, y2, y3, y4, y5⟩ := hra
          exact ⟨us, o6.get y1 y4, y2, y3, y4, y5⟩
        have g6 := o6.get g5 nL
        refine ite2 (fun c => ?_) (fun c => iteF (A := True) ⟨ra, rfl, hra6, g6, b6, q5.trans (up3 o6)⟩)
        refine ⟨_, rfl, _, _, rfl, rfl, _, rfl, ite2 (fun c => ?_) (fun c => ⟨ra, rfl, hra6, g6, b6, q5.trans (up3 o6)⟩)⟩
        exact pick_rows (rows := rowsB) (L := L) (fun r h => List.mem_append_right _ h) (by decide) (by decide) rfl b6 g6 nL fun ra H7 hra b7 o7 => ⟨ra, rfl, hra, o7.get g6 nL, b7, (q5.trans (up3 o6)).trans (up3 o7)⟩
      · rintro σ' H6 ⟨ra, rfl, ⟨us, y1, y2, y3, y4, y5⟩, g6, b6, q6⟩
        refine ⟨_, rfl, .inl ⟨rfl, _, SqL.of g6⟩, few (by simp), fun A1 hA1 => ?_⟩
        have z1 := same_new (o := .lst [.str "("]) hA1
        have v1 : (upd H6 A1 (.lst [.str "("])) A1 = some (.lst [.str "("]) := upd_same
        have nL1 : L ≠ A1 := ne_of_none g6 hA1
        generalize upd H6 A1 (.lst [.str "("]) = G1 at z1 v1 ⊢
        refine ⟨_, rfl, A1, ra, _, _, rfl, rfl, v1, z1 _ _ y1, few (by rw [List.length_map]; simp only [List.length_cons, List.length_nil]; omega), fun A2 hA2 => ⟨few (by simp), fun A3 hA3 => ⟨_, rfl, few (by simp), fun A4 hA4 => ?_⟩⟩⟩
        have z2 := same_new (o := .lst ([.str "("] ++ us.map V.str)) hA2
        have v2 : (upd G1 A2 (.lst ([.str "("] ++ us.map V.str))) A2 = some (.lst ([.str "("] ++ us.map V.str)) := upd_same
        generalize upd G1 A2 (.lst ([.str "("] ++ us.map V.str)) = G2 at z2 v2 hA3 hA4 ⊢
        have z3 := same_new (o := .lst [.str "x"]) hA3
        have v3 : (upd G2 A3 (.lst [.str "x"])) A3 = some (.lst [.str "x"]) := upd_same
        have v2 := z3 _ _ v2
        generalize upd G2 A3 (.lst [.str "x"]) = G3 at z3 v3 v2 hA4 ⊢
        have z4 := same_new (o := .lst [.str "each", .str "x"]) hA4
        have v4 : (upd G3 A4 (.lst [.str "each", .str "x"])) A4 = some (.lst [.str "each", .str "x"]) := upd_same
        have v2 := z4 _ _ v2
        have v3 := z4 _ _ v3
        generalize upd G3 A4 (.lst [.str "each", .str "x"]) = G4 at z4 v4 v3 v2 ⊢
        have zz := z1.trans (z2.trans (z3.trans z4))
        refine ⟨.list (us.map PyData.str), .list [.str "each", .str "x"], .lst (SqL.of (zz _ _ y1)) (strs_dp us), .lst (SqL.of v4) (.cons (.str _) (.cons (.str _) .nil)), shp_strs fun y hy => (y3 y hy).1, by decide +kernel, .inr ⟨_, rfl, A3, _, [.str "x"], rfl, rfl, v3, ?_, ?_, ?_, fun A5 hA5 => ?_⟩⟩
        · split <;> decide
        · split <;> decide
        · refine few ?_
          split <;> simp
        rw [rep1]
        generalize PyData.eqv (.list (us.map PyData.str)) (.list [.str "each", .str "x"]) = bq
        have eS : (if bq = true then [V.str "x"] else []) = (if bq = true then [("x" : Str)] else []).map V.str := by cases bq <;> rfl
        rw [eS]
        have okE : ∀ y ∈ (if bq = true then [("x" : Str)] else []), OkW y := by
          intro y hy
          cases bq with
          | false => cases hy
          | true =>
            rw [List.mem_singleton.mp hy]
            exact okw_of (by decide +kernel)
        have lE : (if bq = true then [("x" : Str)] else []).length ≤ 1 := by cases bq <;> simp
        generalize (if bq = true then [("x" : Str)] else []) = ex at okE lE ⊢
        have z5 := same_new (o := .lst (ex.map V.str)) hA5
        have v5 : (upd G4 A5 (.lst (ex.map V.str))) A5 = some (.lst (ex.map V.str)) := upd_same
        have v2 := z5 _ _ v2
        generalize upd G4 A5 (.lst (ex.map V.str)) = G5 at z5 v5 v2 ⊢
        refine ⟨A2, A5, _, _, rfl, rfl, v2, v5, few (by simp only [List.length_append, List.length_map, List.length_cons, List.length_nil]; omega), fun A6 hA6 => ?_⟩
        have e6 : [V.str "("] ++ us.map V.str ++ ex.map V.str = ([("(" : Str)] ++ us ++ ex).map V.str := by
          rw [List.map_append, List.map_append]
          rfl
        rw [e6]
        have z6 := same_new (o := .lst (([("(" : Str)] ++ us ++ ex).map V.str)) hA6
        have v6 : (upd G5 A6 (.lst (([("(" : Str)] ++ us ++ ex).map V.str))) A6 = some (.lst (([("(" : Str)] ++ us ++ ex).map V.str)) := upd_same
        have zf : Same H6 (upd G5 A6 (.lst (([("(" : Str)] ++ us ++ ex).map V.str))) := zz.trans (z5.trans z6)
        generalize upd G5 A6 (.lst (([("(" : Str)] ++ us ++ ex).map V.str)) = G6 at v6 zf ⊢
        have lN : ([("(" : Str)] ++ us ++ ex).length ≤ 6 ∧ 1 ≤ ([("(" : Str)] ++ us ++ ex).length := by
          simp only [List.length_append, List.length_cons, List.length_nil]
          omega
        have okN : ∀ y ∈ [("(" : Str)] ++ us ++ ex, OkW y := by
          intro y hy
          rcases List.mem_append.mp hy with h | h
          · rcases List.mem_append.mp h with h | h
            · rw [List.mem_singleton.mp h]
              exact okw_of (by decide +kernel)
            · exact y3 y h
          · exact okE y h
        generalize [("(" : Str)] ++ us ++ ex = nw at v6 lN okN ⊢
        have lI : i < 43 := by omega
        refine ⟨L, A6, _, _, rfl, rfl, zf _ _ g6, v6, few (by rw [List.length_map, List.length_map]; omega), W ++ nw, _, _, rfl, by rw [List.length_append]; omega, by rw [List.length_append]; omega, fun y hy => (List.mem_append.mp hy).elim (okW y) (okN y), ?_, (b6.same zf).put nL, (q6.trans (Off.of zf)).trans (Off.put (by simp))⟩
        rw [upd_same, List.map_append]
  · rintro σ H3 ⟨W, o3, o4, rfl, lW0, lW1, okW, g3, b3, q3⟩
    refine ⟨_, rfl, few (by simp), fun A1 hA1 => ?_⟩
    have z1 := same_new (o := .lst [.str "x"]) hA1
    have v1 : (upd H3 A1 (.lst [.str "x"])) A1 = some (.lst [.str "x"]) := upd_same
    have n1 := b3.notin hA1
    have b4 := b3.same z1
    have g4 := z1 _ _ g3
    have q4 := q3.trans (Off.of z1)
    generalize upd H3 A1 (.lst [.str "x"]) = G1 at z1 v1 b4 g4 q4 ⊢
    refine ⟨_, rfl, p, g, 2, rfl, b4, by decide, by decide, fun r2 H5 r20 r22 b5 o5 => ?_⟩
    refine ⟨A1, r2, [.str "x"], rfl, rfl, o5.get v1 n1, by omega, by omega, ?_, fun A2 hA2 => ?_⟩
    · refine few ?_
      simp only [List.length_cons, List.length_nil]
      omega
    have er : (List.replicate r2.toNat [V.str "x"]).flatten = (List.replicate r2.toNat ("x" : Str)).map V.str := by
      have : r2.toNat = 0 ∨ r2.toNat = 1 := by omega
      rcases this with z | z <;> rw [z] <;> rfl
    rw [er]
    have z2 := same_new (o := .lst ((List.replicate r2.toNat ("x" : Str)).map V.str)) hA2
    have v2 : (upd H5 A2 (.lst ((List.replicate r2.toNat ("x" : Str)).map V.str))) A2 = some (.lst ((List.replicate r2.toNat ("x" : Str)).map V.str)) := upd_same
    have g5 := o5.get g4 nL
    have b6 := b5.same z2
    have g6 := z2 _ _ g5
    have q6 := (q4.trans (up3 o5)).trans (Off.of z2)
    generalize upd H5 A2 (.lst ((List.replicate r2.toNat ("x" : Str)).map V.str)) = G2 at v2 b6 g6 q6 ⊢
    refine ⟨L, A2, _, _, rfl, rfl, g6, v2, few (by rw [List.length_map, List.length_map, List.length_replicate]; omega), fun A3 hA3 => ?_⟩
    have e3 : W.map V.str ++ (List.replicate r2.toNat ("x" : Str)).map V.str = (W ++ List.replicate r2.toNat ("x" : Str)).map V.str := by rw [List.map_append]
    rw [e3]
    have z3 := same_new (o := .lst ((W ++ List.replicate r2.toNat ("x" : Str)).map V.str)) hA3
    refine q A3 (W ++ List.replicate r2.toNat ("x" : Str)) _ upd_same (fun z => ?_) ?_ (fun y hy => (List.mem_append.mp hy).elim (okW y) fun h => by rw [List.eq_of_mem_replicate h]; exact okw_of (by decide +kernel)) (b6.same z3) (back (q6.trans (Off.of z3))) (b6.notin hA3)
    · have z := congrArg List.length z
      rw [List.length_append, List.length_nil] at z
      omega
    · rw [List.length_append, List.length_replicate]
      omega
end
/-! words that are looked at -/
abbrev sLAll : Stmt := topS 48
theorem scLAll : FnScope ["_law_words", "_law_text", "_law_wrong", "_law_far"] ["_law_words"] (defScope sLAll) := ⟨rfl, rfl, rfl, by decide +kernel, rfl, by decide +kernel, by decide +kernel⟩
def spLAll (K : PySem.W.Frag) : Sp := fun vs H Q _ => ∃ a W, vs = [.ref a] ∧ H a = some (.lst (W.map V.str)) ∧ W ≠ [] ∧ W.length ≤ 300 ∧ (∀ y ∈ W, OkW y) ∧ ∀ H', Same H H' → Q (.bl true) H'
theorem run_take : ∀ {ws : List Str} {S : PSt} {i j : Nat}, wrongF S ws i = some j → i ≤ j ∧ j ≤ i + ws.length ∧ ∃ T, runW S (ws.take (j - i)) = some T
  | [], S, i, j, h => by
    unfold wrongF at h
    cases e : S.tree with
    | some d =>
      rw [e] at h
      cases h
    | none =>
      rw [e] at h
      have h := Option.some.inj h
      exact ⟨by omega, by omega, S, by simp [runW]⟩
  | x :: ws, S, i, j, h => by
    unfold wrongF at h
    cases e : stX S x with
    | none =>
      rw [e] at h
      have h := Option.some.inj h
      subst h
      exact ⟨Nat.le_refl _, Nat.le_add_right _ _, S, by rw [Nat.sub_self, List.take_zero]; rfl⟩
    | some S2 =>
      rw [e] at h
      obtain ⟨a, b, T, c⟩ := run_take h
      refine ⟨by omega, by rw [List.length_cons]; omega, T, ?_⟩
      have e1 : j - i = (j - (i + 1)) + 1 := by omega
      rw [e1, List.take_succ_cons]
      show (match stX S x with | none => none | some S2 => runW S2 (ws.take (j - (i + 1)))) = _
      rw [e]
      exact c
theorem run_wrong : ∀ {ws : List Str} {S T : PSt} {i : Nat}, runW S ws = some T → T.tree ≠ none → wrongF S ws i = none
  | [], S, T, i, h, n => by
    rw [← Option.some.inj h] at n
    unfold wrongF
    cases e : S.tree with
    | some d => rfl
    | none => exact absurd e n
  | x :: ws, S, T, i, h, n => by
    obtain ⟨S2, e, h2⟩ := run_cons h
    unfold wrongF
    rw [e]
    exact run_wrong h2 n
theorem due_done {ws : List Str} {T : PSt} (g : Went ws T) (e : dueS T = []) : T.tree ≠ none := fun z => by
  rcases g with ⟨_, r⟩ | ⟨d, rfl, _⟩
  · unfold dueS at e
    rw [z] at e
    have e : dueL T.brs = [] := e
    obtain ⟨d0, m, e1, _⟩ := sim r ""
    rw [e1] at e
    exact absurd e (by simp)
  · cases z
theorem far_ok {W : List Str} {T : PSt} (h : runW S0 W = some T) (e : dueS T = []) (ok : ∀ y ∈ W, OkW y) : toldD (Txt.join " " W) = .tuple [.str "text", .str (Txt.join " " W)] := by
  have g := went0.run h
  rw [List.nil_append] at g
  have n := due_done g e
  have ne : W ≠ [] := fun z => by
    rw [z] at h
    have h : some S0 = some T := h
    rw [← Option.some.inj h] at n
    exact n rfl
  unfold toldD
  have w : wrongW (splitW (Txt.join " " W)) = none := by
    rw [split_okw ne ok]
    exact run_wrong h n
  rw [w]
theorem cut_take (W : List Str) {j : Nat} (h : j ≤ W.length) : cutV (W.map V.str) none (some ((j : Nat) : Int)) = (W.take j).map V.str := by
  unfold cutV
  rw [HT.sIx_none, HT.sIx_nat, List.length_map, List.drop_zero, Nat.sub_zero, Nat.min_eq_left h, List.map_take]
theorem shp_text {x : Str} (h : Low x) : SeqAt.shaped (.tuple [.str "text", .str x]) = true := by
  have ht : Low "text" := low_lit (by decide +kernel)
  have a1 := ht.ok
  have a2 := h.ok
  simp only [PyData.canLay0] at a1 a2
  unfold SeqAt.shaped
  simp only [PyData.canLay0, PyData.canLayAll0, a1, a2, PyData.depth, PyData.depthAll]
  rfl
theorem eqv_text (x : Str) : PyData.eqv (.tuple [.str "text", .str x]) (.tuple [.str "text", .str x]) = true := by
  simp only [PyData.eqv, PyData.eqvAll, Bool.and_true, beq_self_eq_true, decide_true]
section
variable {P : Program} {w : World} {K : PySem.W.Frag} {mg : Str → Option Value} {base : Heap} {f fI fR fE fT : Addr} {fd dI dR dE dT : FuncData}
theorem ok_lall {n : Nat} (F : Fun K "_law_all_right" "_law_all_right" sLAll f fd) (GI : Dn P w K mg base 3 "_law_first_wrong" ["_law_text"] spFirst fI dI) (GE : Dn P w K mg base 4 "_law_ended" ["_law_words"] spEnded fE dE)
    (GT : Dn P w K mg base 6 "_law_told" ["_law_text"] (spTold K) fT dT)
    (GR : FnG P w K mg base CX0 (n + 1) fR dR ["_law_text"] (spLRight K)) (kR : PySem.W.keepIn K (.ref fR) = true) (bR : Binds K dR ["_law_text"] []) (mR : mg "_law_right" = some (.ref fR)) (hn : 6 ≤ n) : FnG P w K mg base CX0 (n + 2) f fd ["_law_words"] (spLAll K) := by
  refine okG F scLAll (fun vs H Q E h => ?_) (fun cdv A outer s H vs Q E hgd hr h => ?_)
  · obtain ⟨a, W, rfl, _⟩ := h
    rfl
  obtain ⟨a, W, rfl, ha, ne, lW, okW, q⟩ := h
  have hr3 : Room 3 _ := hr.mono (by omega)
  have hr4 : Room 4 _ := hr.mono (by omega)
  have hr6 : Room 6 _ := hr.mono (by omega)
  refine ⟨_, pss_cons (ps_set (i := 1) scLAll.nd rfl (.inl rfl) (pe_join pe_str (pv 0)))
    (pss_cons (ps_set (i := 2) scLAll.nd rfl (.inl rfl) (pe_call GI.ok hr3 (by rfl) GI.mg GI.kp GI.bd .nil pass0 (pa_cons (pv 1) pa_nil)))
    (pss_cons (ps_if (pt_not (pt_val (pe_callG GR hgd hr (by rfl) mR kR bR .nil pass0 (pa_cons (pv 1) pa_nil)))) (pss_one (ps_ret pe_bl)) pss_nil)
    (pss_cons (ps_set (i := 3) scLAll.nd rfl (.inl rfl) (pe_ifExp (pt_cmp (pc_isN (pv 2))) (pv 1) (pe_call GE.ok hr4 (by rfl) GE.mg GE.kp GE.bd .nil pass0 (pa_cons (pe_slice sl_list (pv 0) po_none (po_some (pv 2))) pa_nil))))
    (pss_one (ps_ret (pe_or (pe_cmp (pc_isN (pv 2))) (pe_one (pe_cmpR (op_eqD hr.units) (pe_call GT.ok hr6 (by rfl) GT.mg GT.kp GT.bd .nil pass0 (pa_cons (pv 3) pa_nil)) (pe_tup (pa_cons pe_str (pa_cons (pv 3) pa_nil))) (nomark _))))))))), ?_⟩
  obtain ⟨j1, j2, j3⟩ := join_okw okW
  have e1 : (" " : Str).length = 1 := by decide +kernel
  refine ⟨⟨_, rfl⟩, _, rfl, " ", a, W, rfl, rfl, .inl (SqL.of ha), by rw [e1]; omega, ?_⟩
  refine ⟨_, rfl, Txt.join " " W, rfl, by omega, j1, fun H1 s1 => ⟨_, rfl, Txt.join " " W, rfl, by omega, j1, fun H2 s2 => ⟨_, rfl, iteF ?_⟩⟩⟩
  rw [split_okw ne okW]
  have ha2 := s2 _ _ (s1 _ _ ha)
  have s12 := s1.trans s2
  cases hw : wrongW W with
  | none => exact ⟨_, rfl, _, rfl, iteT ⟨_, rfl, _, rfl, _, rfl, iteT (q H2 s12)⟩⟩
  | some j =>
    obtain ⟨_, lj, T, hT⟩ := run_take hw
    rw [Nat.sub_zero] at hT
    rw [Nat.zero_add] at lj
    refine ⟨_, rfl, _, rfl, iteF' (decide_eq_false (fun z => nomatch z)) ⟨_, rfl, _, rfl, _, rfl, a, _, rfl, SqL.of ha2, fun A1 hA1 => ?_⟩⟩
    have ec : cutV (W.map V.str) none (some ((j : Nat) : Int)) = (W.take j).map V.str := cut_take W lj
    rw [ec]
    have s3 := same_new (o := .lst ((W.take j).map V.str)) hA1
    have e3 : (upd H2 A1 (.lst ((W.take j).map V.str))) A1 = some (.lst ((W.take j).map V.str)) := upd_same
    refine ⟨A1, W.take j, T, rfl, e3, by rw [List.length_take]; omega, fun y hy => okW y (List.mem_of_mem_take hy), hT, fun W2 T2 H3 hT2 eT2 lW2 okW2 s4 => ?_⟩
    have fo := far_ok hT2 eT2 okW2
    obtain ⟨k1, k2, k3⟩ := join_okw okW2
    generalize Txt.join " " W2 = far at fo k1 k2 ⊢
    refine ⟨_, rfl, _, rfl, iteF' (decide_eq_false (fun z => nomatch z)) ⟨_, rfl, far, rfl, by omega, fun v H4 s5 dv => ⟨_, rfl, few (by simp), fun A2 hA2 => ?_⟩⟩⟩
    have s6 := same_new (o := .tup [.str "text", .str far]) hA2
    rw [fo] at dv
    refine ⟨.tuple [.str "text", .str far], .tuple [.str "text", .str far], Dp.up s6 _ _ dv, .tup (.inl (.inl upd_same)) (.cons (.str _) (.cons (.str _) .nil)), shp_text k1, shp_text k1, ?_⟩
    rw [eqv_text]
    exact q _ (s12.trans (s3.trans (s4.trans (s5.trans s6))))
end
/-! a printed tree tells the tree -/
mutual
def plD : PyData → Bool
  | .int i => decide (i.natAbs < 10 ^ 18)
  | .str x => x.cps.toList.all lowOk
  | .tuple ds => plDs ds
  | _ => false
def plDs : List PyData → Bool
  | [] => true
  | d :: ds => plD d && plDs ds
end
mutual
def shL : PyData → List Nat
  | .int i => (txt (.int i)).cps.toList
  | .str x => 39 :: (x.cps.toList ++ [39])
  | .tuple ds => 40 :: bodyL ds
  | _ => []
def bodyL : List PyData → List Nat
  | [] => [41]
  | [d] => shL d ++ [44, 41]
  | d :: e :: ds => shL d ++ (44 :: 32 :: (shL e ++ tlL ds))
def tlL : List PyData → List Nat
  | [] => [41]
  | d :: ds => 44 :: 32 :: (shL d ++ tlL ds)
end
theorem low_print : ∀ k < 26, Unicode.isPrintable (k + 97) = true := by decide +kernel
theorem lowOk_iff {c : Nat} : lowOk c = true ↔ 97 ≤ c ∧ c < 123 := by
  unfold lowOk
  rw [Bool.and_eq_true, decide_eq_true_eq, decide_eq_true_eq]
  omega
theorem reprChar_low {c : Nat} (h : lowOk c = true) : Builtin.Str.reprChar 39 c = [c] := by
  have z := lowOk_iff.mp h
  have p := low_print (c - 97) (by omega)
  have e : c - 97 + 97 = c := by omega
  rw [e] at p
  unfold Builtin.Str.reprChar
  simp only [beq_iff_eq]
  rw [if_neg (by simp only [Bool.or_eq_true, beq_iff_eq]; omega), if_neg (by omega), if_neg (by omega), if_neg (by omega), if_pos p]
theorem fold_low : ∀ (l : List Nat) (acc : Array Nat), l.all lowOk = true → (l.foldl (fun out c => out ++ (Builtin.Str.reprChar 39 c).toArray) acc).toList = acc.toList ++ l
  | [], acc, _ => by simp
  | c :: l, acc, h => by
    rw [List.all_cons, Bool.and_eq_true] at h
    rw [List.foldl_cons, fold_low l _ h.2, reprChar_low h.1]
    simp
theorem reprText_low {x : Str} (h : x.cps.toList.all lowOk = true) : (reprText x).cps.toList = 39 :: (x.cps.toList ++ [39]) := by
  have q : reprQuote x = 39 := by
    unfold reprQuote
    have n : x.cps.contains 39 = false := by
      rw [Bool.eq_false_iff]
      intro z
      have z := Array.contains_iff_mem.mp z
      have w := lowOk_iff.mp (List.all_eq_true.mp h 39 (Array.mem_toList_iff.mpr z))
      omega
    rw [n]
    rfl
  unfold reprText
  rw [q]
  show (Array.push (x.cps.foldl (fun out c => out ++ (Builtin.Str.reprChar 39 c).toArray) #[39]) 39).toList = _
  rw [Array.toList_push, ← Array.foldl_toList, fold_low _ _ h]
  simp
theorem join_tl : ∀ (ts : List Str) (t : Str), (Str.join ", " (t :: ts)).cps.toList = t.cps.toList ++ ts.flatMap (fun y => 44 :: 32 :: y.cps.toList)
  | [], t => by
    show t.cps.toList = _
    simp
  | u :: ts, t => by
    show (t ++ ", " ++ Str.join ", " (u :: ts)).cps.toList = _
    rw [cps_cat, cps_cat, join_tl ts u]
    have e : (", " : Str).cps.toList = [44, 32] := by decide +kernel
    rw [e]
    simp
theorem tl_flat : ∀ (ds : List PyData), (∀ d ∈ ds, d.shown.cps.toList = shL d) → (PyData.shownAll ds).flatMap (fun y => 44 :: 32 :: y.cps.toList) ++ [41] = tlL ds
  | [], _ => by
    simp only [PyData.shownAll, tlL, List.flatMap_nil, List.nil_append]
  | d :: ds, h => by
    have ih := tl_flat ds fun e he => h e (List.mem_cons_of_mem _ he)
    simp only [PyData.shownAll, tlL, List.flatMap_cons, h d List.mem_cons_self, List.append_assoc, ih]
    rfl
theorem tup_many (t u : Str) (ts : List Str) : tupleText (t :: u :: ts) = ("(" : Str) ++ Str.join ", " (t :: u :: ts) ++ ((")" : String) : Str) := by
  unfold tupleText
  rw [if_neg (by simp)]
theorem tup_flat (ds : List PyData) (h : ∀ d ∈ ds, d.shown.cps.toList = shL d) : (tupleText (PyData.shownAll ds)).cps.toList = 40 :: bodyL ds := by
  have e40 : ("(" : Str).cps.toList = [40] := by decide +kernel
  have e41 : ((")" : String) : Str).cps.toList = [41] := by decide +kernel
  have e42 : ((",)" : String) : Str).cps.toList = [44, 41] := by decide +kernel
  cases ds with
  | nil =>
    simp only [PyData.shownAll, bodyL]
    decide +kernel
  | cons d ds =>
    cases ds with
    | nil =>
      simp only [PyData.shownAll, bodyL]
      unfold tupleText
      rw [cps_cat, cps_cat, join_tl, h d List.mem_cons_self, e40]
      show [40] ++ (shL d ++ []) ++ ((",)" : String) : Str).cps.toList = _
      rw [e42]
      simp
    | cons e ds =>
      have tf := tl_flat ds fun x hx => h x (List.mem_cons_of_mem _ (List.mem_cons_of_mem _ hx))
      simp only [PyData.shownAll, bodyL]
      rw [tup_many, cps_cat, cps_cat, join_tl, h d List.mem_cons_self, e40]
      show [40] ++ (shL d ++ (e.shown :: PyData.shownAll ds).flatMap _) ++ ((")" : String) : Str).cps.toList = _
      rw [e41, List.flatMap_cons, h e (List.mem_cons_of_mem _ List.mem_cons_self), ← tf]
      simp
mutual
theorem shown_sh : ∀ d : PyData, plD d = true → d.shown.cps.toList = shL d
  | .int i, _ => by
    simp only [PyData.shown, shL, txt]
  | .str x, h => by
    simp only [plD] at h
    simp only [PyData.shown, shL]
    exact reprText_low h
  | .tuple ds, h => by
    simp only [plD] at h
    simp only [PyData.shown, shL]
    exact tup_flat ds (shown_shs ds h)
  | .none, h => by simp only [plD] at h; cases h
  | .bool _, h => by simp only [plD] at h; cases h
  | .list _, h => by simp only [plD] at h; cases h
  | .dict _, h => by simp only [plD] at h; cases h
theorem shown_shs : ∀ ds : List PyData, plDs ds = true → ∀ d ∈ ds, d.shown.cps.toList = shL d
  | [], _ => fun _ z => nomatch z
  | d :: ds, h => by
    simp only [plDs, Bool.and_eq_true] at h
    intro e he
    rcases List.mem_cons.mp he with z | z
    · rw [z]
      exact shown_sh d h.1
    · exact shown_shs ds h.2 e z
end
/-- behind a printed thing stands a comma, a bracket or nothing -/
def Sep (r : List Nat) : Prop := ∀ c r', r = c :: r' → c = 44 ∨ c = 41
theorem span_eq {P : Nat → Prop} : ∀ {a b r1 r2 : List Nat}, (∀ c ∈ a, P c) → (∀ c ∈ b, P c) → (∀ c r', r1 = c :: r' → ¬ P c) → (∀ c r', r2 = c :: r' → ¬ P c) → a ++ r1 = b ++ r2 → a = b ∧ r1 = r2
  | [], [], _, _, _, _, _, _, e => ⟨rfl, e⟩
  | [], c :: b, r1, r2, _, hb, h1, _, e => absurd (hb c List.mem_cons_self) (h1 c _ e)
  | c :: a, [], r1, r2, ha, _, _, h2, e => absurd (ha c List.mem_cons_self) (h2 c _ e.symm)
  | c :: a, d :: b, r1, r2, ha, hb, h1, h2, e => by
    obtain ⟨e1, e2⟩ := List.cons.inj e
    obtain ⟨x, y⟩ := span_eq (fun z hz => ha z (List.mem_cons_of_mem _ hz)) (fun z hz => hb z (List.mem_cons_of_mem _ hz)) h1 h2 e2
    exact ⟨by rw [e1, x], y⟩
theorem sep_tl (ds : List PyData) (r : List Nat) : Sep (tlL ds ++ r) := by
  intro c r' e
  cases ds with
  | nil =>
    simp only [tlL] at e
    exact .inr (List.cons.inj e).1.symm
  | cons d ds =>
    simp only [tlL] at e
    exact .inl (List.cons.inj e).1.symm
theorem first_of : ∀ (d : PyData), plD d = true → ∃ c l, shL d = c :: l ∧ ((∃ i, d = .int i ∧ (c = 45 ∨ (48 ≤ c ∧ c ≤ 57))) ∨ (∃ x, d = .str x ∧ c = 39) ∨ (∃ ds, d = .tuple ds ∧ c = 40))
  | .int i, h => by
    simp only [plD, decide_eq_true_eq] at h
    have n := num_txt h
    simp only [shL]
    cases z : (txt (.int i)).cps.toList with
    | nil =>
      have p := n.p
      rw [len_cps, ← Array.length_toList, z] at p
      exact absurd p (by decide)
    | cons c l => exact ⟨c, l, rfl, .inl ⟨i, rfl, n.lo c (by rw [z]; exact List.mem_cons_self)⟩⟩
  | .str x, _ => ⟨39, x.cps.toList ++ [39], by simp only [shL], .inr (.inl ⟨x, rfl, rfl⟩)⟩
  | .tuple ds, _ => ⟨40, bodyL ds, by simp only [shL], .inr (.inr ⟨ds, rfl, rfl⟩)⟩
  | .none, h => by simp only [plD] at h; cases h
  | .bool _, h => by simp only [plD] at h; cases h
  | .list _, h => by simp only [plD] at h; cases h
  | .dict _, h => by simp only [plD] at h; cases h
mutual
theorem sh_inj : ∀ (d1 d2 : PyData), plD d1 = true → plD d2 = true → ∀ r1 r2, Sep r1 → Sep r2 → shL d1 ++ r1 = shL d2 ++ r2 → d1 = d2 ∧ r1 = r2
  | .int i, d2, h1, h2, r1, r2, s1, s2, e => by
    obtain ⟨c1, l1, e1, k1⟩ := first_of (.int i) h1
    obtain ⟨c2, l2, e2, k2⟩ := first_of d2 h2
    have ec : c1 = c2 := by
      rw [e1, e2] at e
      exact (List.cons.inj e).1
    rcases k1 with ⟨i', z1, q1⟩ | ⟨x, z1, _⟩ | ⟨x, z1, _⟩
    · rcases k2 with ⟨j, rfl, q2⟩ | ⟨x, _, q2⟩ | ⟨x, _, q2⟩
      · simp only [plD, decide_eq_true_eq] at h1 h2
        have n1 := num_txt h1
        have n2 := num_txt h2
        simp only [shL] at e
        have sp : ∀ r, Sep r → ∀ c r', r = c :: r' → ¬ (c = 45 ∨ (48 ≤ c ∧ c ≤ 57)) := fun r s c r' y z => by
          have := s c r' y
          omega
        obtain ⟨x1, x2⟩ := span_eq n1.lo n2.lo (sp r1 s1) (sp r2 s2) e
        have et : txt (.int i) = txt (.int j) := str_ext x1
        have r := n1.rd
        rw [et, n2.rd] at r
        exact ⟨by rw [Option.some.inj r], x2⟩
      · omega
      · omega
    · cases z1
    · cases z1
  | .str x, d2, h1, h2, r1, r2, s1, s2, e => by
    obtain ⟨c2, l2, e2, k2⟩ := first_of d2 h2
    have ec : 39 = c2 := by
      rw [e2] at e
      simp only [shL] at e
      exact (List.cons.inj e).1
    rcases k2 with ⟨j, rfl, q2⟩ | ⟨y, rfl, q2⟩ | ⟨y, _, q2⟩
    · omega
    · simp only [plD] at h1 h2
      simp only [shL, List.cons_append, List.append_assoc] at e
      have lo : ∀ z : Str, z.cps.toList.all lowOk = true → ∀ c ∈ z.cps.toList, c ≠ 39 := fun z hz c hc w => by
        have := lowOk_iff.mp (List.all_eq_true.mp hz c hc)
        omega
      obtain ⟨x1, x2⟩ := span_eq (P := fun c => c ≠ 39) (lo x h1) (lo y h2) (fun c r' z w => w (List.cons.inj z).1.symm) (fun c r' z w => w (List.cons.inj z).1.symm) (List.cons.inj e).2
      exact ⟨by rw [str_ext x1], (List.cons.inj x2).2⟩
    · omega
  | .tuple ds, d2, h1, h2, r1, r2, s1, s2, e => by
    obtain ⟨c2, l2, e2, k2⟩ := first_of d2 h2
    have ec : 40 = c2 := by
      rw [e2] at e
      simp only [shL] at e
      exact (List.cons.inj e).1
    rcases k2 with ⟨j, rfl, q2⟩ | ⟨y, rfl, q2⟩ | ⟨es, rfl, q2⟩
    · omega
    · omega
    · simp only [plD] at h1 h2
      simp only [shL, List.cons_append] at e
      obtain ⟨x1, x2⟩ := body_inj ds es h1 h2 r1 r2 (List.cons.inj e).2
      exact ⟨by rw [x1], x2⟩
  | .none, _, h, _, _, _, _, _, _ => by simp only [plD] at h; cases h
  | .bool _, _, h, _, _, _, _, _, _ => by simp only [plD] at h; cases h
  | .list _, _, h, _, _, _, _, _, _ => by simp only [plD] at h; cases h
  | .dict _, _, h, _, _, _, _, _, _ => by simp only [plD] at h; cases h
theorem body_inj : ∀ (ds es : List PyData), plDs ds = true → plDs es = true → ∀ r1 r2, bodyL ds ++ r1 = bodyL es ++ r2 → ds = es ∧ r1 = r2
  | [], es, _, h2, r1, r2, e => by
    cases es with
    | nil =>
      simp only [bodyL] at e
      exact ⟨rfl, (List.cons.inj e).2⟩
    | cons d es =>
      simp only [plDs, Bool.and_eq_true] at h2
      obtain ⟨c, l, e1, k⟩ := first_of d h2.1
      have ec : 41 = c := by
        cases es with
        | nil =>
          simp only [bodyL, e1] at e
          exact (List.cons.inj e).1
        | cons f es =>
          simp only [bodyL, e1] at e
          exact (List.cons.inj e).1
      rcases k with ⟨j, _, q2⟩ | ⟨y, _, q2⟩ | ⟨y, _, q2⟩ <;> omega
  | d :: ds, es, h1, h2, r1, r2, e => by
    simp only [plDs, Bool.and_eq_true] at h1
    cases es with
    | nil =>
      obtain ⟨c, l, e1, k⟩ := first_of d h1.1
      have ec : c = 41 := by
        cases ds with
        | nil =>
          simp only [bodyL, e1] at e
          exact (List.cons.inj e).1
        | cons f es =>
          simp only [bodyL, e1] at e
          exact (List.cons.inj e).1
      rcases k with ⟨j, _, q2⟩ | ⟨y, _, q2⟩ | ⟨y, _, q2⟩ <;> omega
    | cons d' es =>
      simp only [plDs, Bool.and_eq_true] at h2
      have sp : ∀ l r : List Nat, Sep ([44] ++ l ++ r) := fun l r c r' z => .inl (List.cons.inj z).1.symm
      cases ds with
      | nil =>
        cases es with
        | nil =>
          simp only [bodyL, List.append_assoc] at e
          obtain ⟨x1, x2⟩ := sh_inj d d' h1.1 h2.1 _ _ (sp [41] r1) (sp [41] r2) e
          exact ⟨by rw [x1], (List.cons.inj (List.cons.inj x2).2).2⟩
        | cons f es =>
          simp only [bodyL, List.append_assoc] at e
          obtain ⟨x1, x2⟩ := sh_inj d d' h1.1 h2.1 _ _ (sp [41] r1) (sp (32 :: (shL f ++ tlL es)) r2) e
          exact absurd (List.cons.inj (List.cons.inj x2).2).1 (by decide)
      | cons g ds =>
        cases es with
        | nil =>
          simp only [bodyL, List.append_assoc] at e
          obtain ⟨x1, x2⟩ := sh_inj d d' h1.1 h2.1 _ _ (sp (32 :: (shL g ++ tlL ds)) r1) (sp [41] r2) e
          exact absurd (List.cons.inj (List.cons.inj x2).2).1 (by decide)
        | cons f es =>
          simp only [bodyL, List.append_assoc] at e
          obtain ⟨x1, x2⟩ := sh_inj d d' h1.1 h2.1 _ _ (sp (32 :: (shL g ++ tlL ds)) r1) (sp (32 :: (shL f ++ tlL es)) r2) e
          have e3 : tlL (g :: ds) ++ r1 = tlL (f :: es) ++ r2 := by
            simp only [tlL]
            exact x2
          obtain ⟨y1, y2⟩ := tl_inj (g :: ds) (f :: es) h1.2 (by simpa only [plDs, Bool.and_eq_true] using h2.2) r1 r2 e3
          exact ⟨by rw [x1, y1], y2⟩
theorem tl_inj : ∀ (ds es : List PyData), plDs ds = true → plDs es = true → ∀ r1 r2, tlL ds ++ r1 = tlL es ++ r2 → ds = es ∧ r1 = r2
  | [], es, _, h2, r1, r2, e => by
    cases es with
    | nil =>
      simp only [tlL] at e
      exact ⟨rfl, (List.cons.inj e).2⟩
    | cons d es =>
      simp only [tlL] at e
      exact absurd (List.cons.inj e).1 (by decide)
  | d :: ds, es, h1, h2, r1, r2, e => by
    simp only [plDs, Bool.and_eq_true] at h1
    cases es with
    | nil =>
      simp only [tlL] at e
      exact absurd (List.cons.inj e).1 (by decide)
    | cons d' es =>
      simp only [plDs, Bool.and_eq_true] at h2
      simp only [tlL, List.cons_append, List.append_assoc] at e
      obtain ⟨x1, x2⟩ := sh_inj d d' h1.1 h2.1 _ _ (sep_tl ds r1) (sep_tl es r2) (List.cons.inj (List.cons.inj e).2).2
      obtain ⟨y1, y2⟩ := tl_inj ds es h1.2 h2.2 r1 r2 x2
      exact ⟨by rw [x1, y1], y2⟩
end
theorem shown_inj {d1 d2 : PyData} (h1 : plD d1 = true) (h2 : plD d2 = true) (e : d1.shown = d2.shown) : d1 = d2 := by
  have e : d1.shown.cps.toList = d2.shown.cps.toList := by rw [e]
  rw [shown_sh d1 h1, shown_sh d2 h2] at e
  exact (sh_inj d1 d2 h1 h2 [] [] (fun _ _ z => nomatch z) (fun _ _ z => nomatch z) (by rw [List.append_nil, List.append_nil, e])).1
theorem low_cat {x y : Str} (hx : Low x) (hy : Low y) : Low (x ++ y) := fun c hc => by
  rw [cps_cat] at hc
  exact (List.mem_append.mp hc).elim (hx c) (hy c)
/-! the law -/
theorem flat_nod {wd : PyData → List Str} : ∀ {es : List PyData}, (∀ e ∈ es, (wd e).length ≤ 2 * nod e) → (es.flatMap wd).length ≤ 2 * nods es
  | [], _ => by simp [nods]
  | e :: es, h => by
    have h1 := h e List.mem_cons_self
    have h2 := flat_nod fun x hx => h x (List.mem_cons_of_mem _ hx)
    rw [List.flatMap_cons, List.length_append]
    simp only [nods]
    omega
theorem argWords_nod {W : Bool → PyData → Prop} {wd : PyData → List Str} (ih : ∀ s d, W s d → (wd d).length ≤ 2 * nod d) : ∀ {cs : List Nat} {ds : List PyData}, ArgOk W cs ds → (argWords wd cs ds).length ≤ 2 * nods ds
  | [], [], _ => by simp [argWords]
  | c :: cs, d :: ds, h => by
    have h2 := argWords_nod ih h.2
    have h1 := h.1
    have h3 : (if c = 115 then (kidsT d).flatMap wd else if c = 101 ∨ c = 116 then wd d else [txt d]).length ≤ 2 * nod d := by
      split at h1
      · rename_i z
        rw [if_pos z]
        obtain ⟨es, rfl, q⟩ := h1
        have := flat_nod (wd := wd) fun e he => ih _ _ (q e he)
        simp only [kidsT, nod]
        omega
      · rename_i z
        rw [if_neg z]
        have := nod_pos d
        split at h1
        · rename_i y
          rw [if_pos (.inl y)]
          exact ih _ _ h1
        · rename_i y
          split at h1
          · rename_i u
            rw [if_pos (.inr u)]
            exact ih _ _ h1
          · rename_i u
            rw [if_neg (fun z => z.elim y u)]
            simp only [List.length_cons, List.length_nil]
            omega
    simp only [argWords, List.length_append, nods]
    omega
  | [], _ :: _, h => h.elim
  | _ :: _, [], h => h.elim
theorem leafWords_len {d : PyData} (h : LeafT d) : (leafWords d).length = 1 := by
  rcases h with ⟨i, rfl, _⟩ | ⟨x, h | h, _⟩
  · rfl
  · rw [h]; rfl
  · rw [h]; rfl
theorem words_nod : ∀ {f : Nat} {s : Bool} {d : PyData}, Wx f s d → (wordsD f d).length ≤ 2 * nod d
  | 0, s, d, h => by
    rw [words_leaf h.2, leafWords_len h.2]
    have := nod_pos d
    omega
  | f + 1, s, d, h => by
    rcases h with h | ⟨h0, sl, args, e, m, n, a⟩
    · rw [words_leaf h.2, leafWords_len h.2]
      have := nod_pos d
      omega
    · subst e
      rw [words_node (tbS_all _ m) n]
      have := argWords_nod (wd := wordsD f) (fun s d z => words_nod z) a
      simp only [List.length_append, List.length_cons, List.length_nil, nod, nods]
      omega
/-- words of plain signs -/
theorem heads_low : ∀ p ∈ allL, (p.1.cps.toList.all fun c => decide (c < 128)) = true := by decide +kernel
theorem LeafW.lowS {c : Nat} {x : Str} {d : PyData} (h : LeafW c x d) : Low x := by
  have num : ∀ i, NumT i x → Low x := fun i z c hc => by
    have := z.lo c hc
    omega
  have nam : ∀ y : Str, isNm y = true → Low y := fun y z c hc => by
    unfold isNm at z
    simp only [Bool.and_eq_true, decide_eq_true_eq, List.all_eq_true] at z
    have := z.2 c hc
    unfold lowOk at this
    simp only [Bool.and_eq_true, decide_eq_true_eq] at this
    omega
  rcases h.cases with ⟨_, h2⟩ | ⟨_, i, h, _⟩ | ⟨_, i, h, _, _⟩ | ⟨_, h, _⟩ | ⟨_, h, _⟩
  · clear h
    rcases h2 with ⟨i, _, h⟩ | ⟨_, h⟩ | ⟨y, _, rfl, h⟩
    · exact num i h
    · exact nam x h
    · exact low_cat (low_lit (by decide +kernel)) (nam y h)
  · exact num i h
  · exact num i h
  · exact nam x h
  · rcases h with rfl | rfl | rfl
    · exact low_lit (by decide +kernel)
    · exact low_lit (by decide +kernel)
    · exact low_lit (by decide +kernel)
theorem StepP.lowS {bs : List Br} {x : Str} {S : PSt} (h : StepP bs x S) : Low x := by
  cases h with
  | opens h1 h2 h3 => exact low_lit (by decide +kernel)
  | head h1 h2 h3 => exact low_lit (heads_low _ (tbS_all _ h1))
  | leaf h1 h2 => exact h2.lowS
  | close h1 h2 => exact low_lit (by decide +kernel)
theorem GoP.lowS {bs b2 : List Br} {ws : List Str} (g : GoP bs ws b2) : ∀ x ∈ ws, Low x := by
  induction g with
  | nil => exact fun _ z => nomatch z
  | cons s _ ih =>
    intro x hx
    rcases List.mem_cons.mp hx with z | z
    · rw [z]; exact s.lowS
    · exact ih x z
theorem StepsP.lowS {bs : List Br} {ws : List Str} {S : PSt} (h : StepsP bs ws S) : ∀ x ∈ ws, Low x := by
  obtain ⟨ws0, w, b1, rfl, g, s⟩ := h
  intro x hx
  rcases List.mem_append.mp hx with z | z
  · exact g.lowS x z
  · rw [List.mem_singleton.mp z]; exact s.lowS
/-- the text of a tree -/
theorem good_text {f : Nat} {d : PyData} (wx : Wx f false d) (hf : f ≤ 40) (hn : nod d ≤ 1923) : Low (Txt.join " " (wordsD f d)) ∧ (Txt.join " " (wordsD f d)).length ≤ 80766 ∧ wrongW (splitW (Txt.join " " (wordsD f d))) = none ∧ (wordsD f d).length ≤ 3846 ∧ tw (wordsD f d) ≤ 80766 := by
  have st := reads f [] false d wx rfl (by simpa using hf)
  obtain ⟨nws, cl⟩ := st.cln
  have wn := words_nod wx
  have jl := join_len (m := 20) fun y hy => (cl y hy).2
  have tw1 : tw (wordsD f d) ≤ 80766 := by
    unfold tw
    omega
  refine ⟨low_join st.lowS, Nat.le_trans (tw_join _) tw1, ?_, by omega, tw1⟩
  have e : splitW (Txt.join " " (wordsD f d)) = wordsD f d := split_back nws fun y hy => (cl y hy).1
  rw [e]
  exact wrong_reads wx hf
/-! the law -/
theorem heads_all_low : ∀ p ∈ allL, p.1.cps.toList.all lowOk = true := by decide +kernel
theorem nm_low {x : Str} (h : isNm x = true) : x.cps.toList.all lowOk = true := by
  unfold isNm at h
  rw [Bool.and_eq_true] at h
  exact h.2
theorem leafT_pl {d : PyData} (h : LeafT d) : plD d = true := by
  have e1 : ("int" : Str).cps.toList.all lowOk = true := by decide +kernel
  have e2 : ("name" : Str).cps.toList.all lowOk = true := by decide +kernel
  have e3 : ("atom" : Str).cps.toList.all lowOk = true := by decide +kernel
  rcases h with ⟨i, rfl, hi⟩ | ⟨x, rfl | rfl, hx⟩
  · simp only [plD, plDs, e1, decide_eq_true hi, Bool.and_self]
  · simp only [plD, plDs, e2, nm_low hx, Bool.and_self]
  · simp only [plD, plDs, e3, nm_low hx, Bool.and_self]
theorem leafO_pl {c : Nat} {d : PyData} (h : LeafOk c d) : plD d = true := by
  rcases h with ⟨_, i, rfl, hi⟩ | ⟨_, i, rfl, _, hi⟩ | ⟨_, x, rfl, hx⟩ | ⟨_, rfl | rfl | rfl⟩
  · simp only [plD, decide_eq_true hi]
  · simp only [plD, decide_eq_true hi]
  · simp only [plD, nm_low hx]
  · simp only [plD]; decide +kernel
  · simp only [plD]; decide +kernel
  · simp only [plD]; decide +kernel
theorem plDs_all : ∀ {ds : List PyData}, (∀ d ∈ ds, plD d = true) → plDs ds = true
  | [], _ => by simp only [plDs]
  | d :: ds, h => by
    simp only [plDs, h d List.mem_cons_self, plDs_all fun e he => h e (List.mem_cons_of_mem _ he), Bool.and_self]
theorem args_pl {W : Bool → PyData → Prop} (ih : ∀ s d, W s d → plD d = true) : ∀ {cs : List Nat} {ds : List PyData}, ArgOk W cs ds → plDs ds = true
  | [], [], _ => by simp only [plDs]
  | c :: cs, d :: ds, h => by
    have h2 := args_pl ih h.2
    have h1 := h.1
    have : plD d = true := by
      split at h1
      · obtain ⟨es, rfl, he⟩ := h1
        simp only [plD]
        exact plDs_all fun e z => ih _ _ (he e z)
      · split at h1
        · exact ih _ _ h1
        · split at h1
          · exact ih _ _ h1
          · exact leafO_pl h1
    simp only [plDs, this, h2, Bool.and_self]
  | [], _ :: _, h => h.elim
  | _ :: _, [], h => h.elim
theorem wx_pl : ∀ {f : Nat} {s : Bool} {d : PyData}, Wx f s d → plD d = true
  | 0, s, d, h => leafT_pl h.2
  | f + 1, s, d, h => by
    rcases h with ⟨_, h⟩ | ⟨hh, sl, args, rfl, m, _, ha⟩
    · exact leafT_pl h
    · have z := args_pl (fun s d w => wx_pl w) ha
      simp only [plD, plDs, heads_all_low _ (tbS_all _ m), z, Bool.and_self]
theorem go_run {b1 b2 : List Br} {ws : List Str} (g : GoP b1 ws b2) : runW ⟨b1, none⟩ ws = some ⟨b2, none⟩ := by
  induction g with
  | nil => rfl
  | cons s _ ih =>
    show (match stX ⟨_, none⟩ _ with | none => none | some S2 => runW S2 _) = _
    have e : stX ⟨_, none⟩ _ = some _ := of_step s
    rw [e]
    exact ih
theorem words_run {f : Nat} {d : PyData} (h : Wx f false d) (hf : f ≤ 40) : runW S0 (wordsD f d) = some ⟨[], some d⟩ := by
  obtain ⟨ws0, x, b1, e, g, s⟩ := reads f [] false d h rfl (by simpa using hf)
  rw [e, run_app (go_run g)]
  show (match stX ⟨b1, none⟩ x with | none => none | some S2 => runW S2 []) = _
  have e2 : stX ⟨b1, none⟩ x = some _ := of_step s
  rw [e2]
  rfl
theorem text_inj {f : Nat} {d1 d2 : PyData} (h1 : Wx f false d1) (h2 : Wx f false d2) (hf : f ≤ 40) (e : Txt.join " " (wordsD f d1) = Txt.join " " (wordsD f d2)) : d1 = d2 := by
  obtain ⟨n1, c1⟩ := (reads f [] false d1 h1 rfl (by simpa using hf)).cln
  obtain ⟨n2, c2⟩ := (reads f [] false d2 h2 rfl (by simpa using hf)).cln
  have w1 := split_back n1 fun y hy => (c1 y hy).1
  have w2 := split_back n2 fun y hy => (c2 y hy).1
  rw [e, w2] at w1
  have r1 := words_run h1 hf
  have r2 := words_run h2 hf
  rw [← w1, r2] at r1
  have z := Option.some.inj r1
  have z := congrArg PSt.tree z
  exact (Option.some.inj z).symm
structure TreeOk (d : PyData) : Prop where
  wx : Wx 9 false d
  gd : gd d = true
  nl : nl d = true
  nd : nod d ≤ 800
  dp : d.depth ≤ 60
theorem trees_nl : ∀ {ds : List PyData}, (∀ d ∈ ds, TreeOk d) → nls ds = true
  | [], _ => by simp only [nls]
  | d :: ds, h => by
    simp only [nls, (h d List.mem_cons_self).nl, trees_nl fun e he => h e (List.mem_cons_of_mem _ he), Bool.and_self]
theorem pair_same {d1 d2 : PyData} (h1 : TreeOk d1) (h2 : TreeOk d2) : decide (V.str (Txt.join " " (wordsD 9 d1)) = V.str (Txt.join " " (wordsD 9 d2))) = decide (V.str d1.shown = V.str d2.shown) := by
  rw [dec_str, dec_str]
  by_cases e : d1 = d2
  · rw [e, decide_eq_true rfl, decide_eq_true rfl]
  · rw [decide_eq_false fun z => e (text_inj h1.wx h2.wx (by decide) z), decide_eq_false fun z => e (shown_inj (wx_pl h1.wx) (wx_pl h2.wx) z)]
def GoodL (H : Hp) (x : V) : Prop := ∃ b W, x = .ref b ∧ H b = some (.lst (W.map V.str)) ∧ W ≠ [] ∧ W.length ≤ 300 ∧ ∀ y ∈ W, OkW y
theorem GoodL.up {H H' : Hp} {x : V} (h : GoodL H x) (s : Same H H') : GoodL H' x := by
  obtain ⟨b, W, h1, h2, h3⟩ := h
  exact ⟨b, W, h1, s _ _ h2, h3⟩
theorem DpAll.at' {K : PySem.W.Frag} {H : Hp} : ∀ {vs : List V} {ds : List PyData} {i : Nat} {v : V}, DpAll K H vs ds → vs[i]? = some v → ∃ d, d ∈ ds ∧ Dp K H v d
  | _, _, _, _, .nil, h => by simp at h
  | _, _, 0, _, .cons a _, h => ⟨_, List.mem_cons_self, by rw [← Option.some.inj h]; exact a⟩
  | _, _, i + 1, _, .cons _ t, h => by
    obtain ⟨d, m, x⟩ := DpAll.at' t (by simpa using h)
    exact ⟨d, List.mem_cons_of_mem _ m, x⟩
abbrev sLaw : Stmt := topS 49
theorem scLaw : FnScope ["_law_script", "_law_box_here", "_law_turn", "_law_words", "_law_trees", "_law_one", "_law_other", "_law_k"] ["_law_script"] (defScope sLaw) := ⟨rfl, rfl, rfl, by decide +kernel, rfl, by decide +kernel, by decide +kernel⟩
def spLaw (K : PySem.W.Frag) : Sp := fun vs H Q _ => ∃ (a : Addr) (ns : List Int), vs = [.ref a] ∧ SqL K H a (ns.map V.int) ∧ ns.length ≤ 63 ∧ ∀ H', Q (.bl true) H'
section
variable {P : Program} {w : World} {K : PySem.W.Frag} {mg : Str → Option Value} {base : Heap} {f fB fT fG fM fN fA fS : Addr} {fd dB dT dG dM dN dA dS : FuncData}
theorem ok_law {n : Nat} (F : Fun K "law" "law" sLaw f fd) (mr : mg "range" = none) (mrp : mg "repr" = none) (GB : Dn P w K mg base 1 "_law_box" ["_law_script", "_law_base"] (spBox K) fB dB) (T : Tk P w K mg base fT dT)
    (GT : Dn P w K mg base (n + 2) "_law_tree" ["_law_box_here", "_law_sort", "_law_deep", "_law_room"] (spTree K 9) fG dG) (GS : Dn P w K mg base 4 "show_expression" ["tree"] (spShow K) fS dS)
    (GM : Dn P w K mg base 4 "_law_made" ["_law_box_here", "_law_deep"] spMade fM dM) (GN : Dn P w K mg base 3 "_law_nested" ["_law_box_here"] spNest fN dN)
    (GA : FnG P w K mg base CX0 (n + 2) fA dA ["_law_words"] (spLAll K)) (kA : PySem.W.keepIn K (.ref fA) = true) (bA : Binds K dA ["_law_words"] []) (mA : mg "_law_all_right" = some (.ref fA)) (hn : 4 ≤ n) :
    FnG P w K mg base CX0 (n + 3) f fd ["_law_script"] (spLaw K) := by
  refine okG F scLaw (fun vs H Q E h => ?_) (fun cdv A outer s H vs Q E hgd hr h => ?_)
  · obtain ⟨a, ns, rfl, _⟩ := h
    rfl
  obtain ⟨a, ns, rfl, hS, hlen, q⟩ := h
  have hr1 : Room 1 _ := hr.mono (by omega)
  have hr3 : Room 3 _ := hr.mono (by omega)
  have hr4 : Room 4 _ := hr.mono (by omega)
  refine ⟨_, pss_cons (ps_set (i := 1) scLaw.nd rfl (.inr rfl) (pe_call GB.ok hr1 (by rfl) GB.mg GB.kp GB.bd .nil pass0 (pa_cons (pv 0) (pa_cons pe_int pa_nil))))
    (pss_cons (ps_for PassesOwn.never rfl (pi_range1 (by rfl) mr (pa_cons pe_int pa_nil)) (pg_name (i := 2) scLaw.nd rfl (.inl rfl))
      (pss_cons (ps_for PassesOwn.never rfl (pi_tup (pe_tup (pa_cons (pe_call GM.ok hr4 (by rfl) GM.mg GM.kp GM.bd .nil pass0 (pa_cons (pv 1) (pa_cons pe_int pa_nil))) (pa_cons (pe_call GM.ok hr4 (by rfl) GM.mg GM.kp GM.bd .nil pass0 (pa_cons (pv 1) (pa_cons pe_int pa_nil)))
          (pa_cons (pe_call GN.ok hr3 (by rfl) GN.mg GN.kp GN.bd .nil pass0 (pa_cons (pv 1) pa_nil)) (pa_cons (pe_call GN.ok hr3 (by rfl) GN.mg GN.kp GN.bd .nil pass0 (pa_cons (pv 1) pa_nil)) pa_nil)))))) (pg_name (i := 3) scLaw.nd rfl (.inl rfl))
        (pss_one (ps_if (pt_not (pt_val (pe_callG GA hgd hr (by rfl) mA kA bA .nil pass0 (pa_cons (pv 3) pa_nil)))) (pss_one (ps_ret pe_bl)) pss_nil)))
      (pss_cons (ps_setLc (i := 4) (own := [("_law_k", 7)]) (g := gName 7) (by rfl) scLaw.nd rfl rfl (sw_true rfl rfl rfl (by decide +kernel)) (pi_range1 (by rfl) mr (pa_cons pe_int pa_nil))
        (blkOk_by (own := [("_law_k", 7)]) (N := ["_law_script", "_law_box_here", "_law_turn", "_law_words", "_law_trees", "_law_one", "_law_other", "_law_k"]) (sc := defScope sLaw) (by decide +kernel))
        (fun _ _ _ _ _ => pg_name (i := 7) scLaw.nd rfl (Or.inl rfl)) (fun _ _ _ _ _ => pts_nil)
        (fun _ _ _ _ _ => pe_call GT.ok hr (by rfl) GT.mg GT.kp GT.bd .nil pass0 (pa_cons (pv 1) (pa_cons pe_str (pa_cons (pe_op op_add pe_int (pe_call T.ok hr1 (by rfl) T.mg T.kp T.bd .nil pass0 (pa_cons (pv 1) (pa_cons pe_int pa_nil)))) (pa_cons (pe_lst (pa_cons pe_int pa_nil)) pa_nil))))))
      (pss_one (ps_for PassesOwn.never rfl (pi_list (pv 4)) (pg_name (i := 5) scLaw.nd rfl (.inl rfl))
        (pss_one (ps_for PassesOwn.never rfl (pi_list (pv 4)) (pg_name (i := 6) scLaw.nd rfl (.inl rfl))
          (pss_one (ps_if (pt_cmpR op_ne (pe_cmpR op_eq (pe_call GS.ok hr4 (by rfl) GS.mg GS.kp GS.bd .nil pass0 (pa_cons (pv 5) pa_nil)) (pe_call GS.ok hr4 (by rfl) GS.mg GS.kp GS.bd .nil pass0 (pa_cons (pv 6) pa_nil)) (nomark _))
            (pe_cmpR op_eq (pe_callB (call_rep hgd hr.units) (by rfl) mrp b_rep (pa_cons (pv 5) pa_nil)) (pe_callB (call_rep hgd hr.units) (by rfl) mrp b_rep (pa_cons (pv 6) pa_nil)) (nomark _)) (nomark _)) (pss_one (ps_ret pe_bl)) pss_nil)))))))))
    (pss_one (ps_ret pe_bl))), ?_⟩
  refine ⟨_, rfl, a, ns, 0, rfl, hS, hlen, Int.le_refl _, by decide, fun p g H1 b1 s1 np ng => ?_⟩
  refine ⟨3, rfl, by decide, by decide, for_range (n := 3) (fun i σ H2 => ∃ o2 o3 o4 o5 o6, σ = [some (.ref a), some (.ref p), o2, o3, o4, o5, o6, none] ∧ Box H2 p g) ⟨none, none, none, none, none, rfl, b1⟩ ?_ ?_⟩
  · rintro i σ H2 hi ⟨o2, o3, o4, o5, o6, rfl, b2⟩
    have gl : ∀ {Hx Hy : Hp} {b : Addr} {W : List Str}, Hx b = some (.lst (W.map V.str)) → b ∉ [p, g] → Off [p, g] Hx Hy → Hy b = some (.lst (W.map V.str)) := fun h n o => o.get h n
    refine ⟨_, rfl, p, g, 6, rfl, b2, fun a1 W1 G1 x1 n1 l1 k1 c1 o1 m1 => ⟨_, rfl, p, g, 9, rfl, c1, fun a2 W2 G2 x2 n2 l2 k2 c2 o2 m2 => ⟨_, rfl, p, g, rfl, c2, fun a3 W3 G3 x3 n3 l3 k3 c3 o3 m3 => ⟨_, rfl, p, g, rfl, c3, fun a4 W4 G4 x4 n4 l4 k4 c4 o4 m4 => ⟨few (by simp), fun T0 hT0 => ?_⟩⟩⟩⟩⟩
    have z := same_new (o := .tup [.ref a1, .ref a2, .ref a3, .ref a4]) hT0
    have vT : (upd G4 T0 (.tup [.ref a1, .ref a2, .ref a3, .ref a4])) T0 = some (.tup [.ref a1, .ref a2, .ref a3, .ref a4]) := upd_same
    have good : ∀ y ∈ [V.ref a1, V.ref a2, V.ref a3, V.ref a4], GoodL (upd G4 T0 (.tup [.ref a1, .ref a2, .ref a3, .ref a4])) y := by
      intro y hy
      simp only [List.mem_cons, List.not_mem_nil, or_false] at hy
      rcases hy with rfl | rfl | rfl | rfl
      · exact ⟨a1, W1, rfl, z _ _ (gl (gl (gl x1 m1 o2) m1 o3) m1 o4), n1, by omega, k1⟩
      · exact ⟨a2, W2, rfl, z _ _ (gl (gl x2 m2 o3) m2 o4), n2, by omega, k2⟩
      · exact ⟨a3, W3, rfl, z _ _ (gl x3 m3 o4), n3, by omega, k3⟩
      · exact ⟨a4, W4, rfl, z _ _ x4, n4, by omega, k4⟩
    have c5 := c4.same z
    generalize upd G4 T0 (.tup [.ref a1, .ref a2, .ref a3, .ref a4]) = G5 at vT good c5 ⊢
    refine ⟨T0, rfl, ⟨_, .inl (.inl vT)⟩, for_it (walk_tup (K := K) (a := T0) (xs := [V.ref a1, V.ref a2, V.ref a3, V.ref a4])) (fun j σ H3 => ∃ q3 q4 q5 q6, σ = [some (.ref a), some (.ref p), some (.int (0 + (i : Nat))), q3, q4, q5, q6, none] ∧ Same G5 H3) ⟨_, _, _, _, rfl, Same.refl _⟩ ?_ ?_ ?_⟩
    · rintro j σ H3 hj ⟨q3, q4, q5, q6, rfl, s3⟩
      exact .inl (.inl (s3 _ _ vT))
    · rintro j y σ H3 H3' hj ⟨q3, q4, q5, q6, rfl, s3⟩ ⟨rfl, hy⟩
      obtain ⟨b, W, rfl, w1, w2, w3, w4⟩ := (good y (List.mem_of_getElem? hy)).up s3
      exact ⟨_, rfl, b, W, rfl, w1, w2, w3, w4, fun H4 s4 => ⟨_, rfl, iteF ⟨_, _, _, _, rfl, s3.trans s4⟩⟩⟩
    · rintro σ H3 ⟨q3, q4, q5, q6, rfl, s3⟩
      have b3 := c5.same s3
      refine ⟨4, rfl, by decide, by decide, fun D hD => ?_⟩
      have nD := b3.notin hD
      refine lc_range (lo := 0) (n := 4) (fun j H4 => ∃ (vs : List V) (ds : List PyData), vs.length = j ∧ H4 D = some (.lst vs) ∧ DpAll K H4 vs ds ∧ (∀ d ∈ ds, TreeOk d) ∧ Box H4 p g)
        ⟨[], [], rfl, upd_same, .nil, (fun _ z => nomatch z), b3.put nD⟩ ?_ ?_
      · rintro j H4 hj ⟨vs, ds, lv, h1, h2, h3, b4⟩
        refine ⟨rfl, _, rfl, _, rfl, p, g, 3, rfl, b4, by decide, by decide, fun r H5 r0 r3 b5 o5 => ⟨2, r, rfl, rfl, few (by simp), fun wd hwd => ?_⟩⟩
        have h1 := o5.get h1 nD
        have h2 := DpAll.off h2 b4.nt (trees_nl h3) o5
        have r1 : Same H5 (upd H5 wd (.lst [.int 9])) := same_new hwd _
        have w2 : (upd H5 wd (.lst [.int 9])) wd = some (.lst [.int 9]) := upd_same
        have nwd := b5.notin hwd
        have nDw : D ≠ wd := ne_of_none h1 hwd
        have b6 := b5.same r1
        generalize upd H5 wd (.lst [.int 9]) = H6 at r1 w2 b6
        refine ⟨p, g, wd, 2 + r, 9, "e", rfl, b6, w2, nwd, .inl ⟨rfl, by omega⟩, by omega, fun v d H7 w1 k1 k2 k3 k4 k5 k6 k7 k8 k9 k10 => ?_⟩
        have nD3 : D ∉ [p, g, wd] := by
          simp only [List.mem_cons, List.not_mem_nil, or_false, not_or] at nD ⊢
          exact ⟨nD.1, nD.2, nDw⟩
        have h6 := k3.get (r1 _ _ h1) nD3
        have nt5 : NT [p, g, wd] H6 := by
          have z := b6.nt
          exact .cons (z p (by simp)) (.cons (z g (by simp)) (.cons (nt_lst w2) .nil))
        have nt6 : NT [D] H7 := .cons (nt_lst h6) .nil
        have p6 : Off [D] H7 (upd H7 D (.lst (vs ++ [v]))) := Off.put (by simp)
        have l3 : limS "e" = 3 := by decide +kernel
        have ph : phi 9 = 9 := by decide
        have est : decide (("e" : Str) = "t") = false := by decide +kernel
        rw [est] at k5
        have gd6 : TreeOk d := ⟨k5, k6, k7, by omega, by omega⟩
        have ng := trees_nl h3
        refine ⟨vs, h6, few (by omega), vs ++ [v], ds ++ [d], by rw [List.length_append, lv]; rfl, upd_same, DpAll.app (DpAll.off (DpAll.off (Dp.ups r1 _ _ h2) nt5 ng k3) nt6 ng p6) (.cons (Dp.off k4 nt6 k7 p6) .nil), fun x hx => ?_, k1.put nD⟩
        rcases List.mem_append.mp hx with z | z
        · exact h3 x z
        · rw [List.mem_singleton.mp z]
          exact gd6
      · rintro H4 ⟨vs, ds, lv, h1, h2, h3, b4⟩
        refine ⟨_, rfl, D, rfl, ⟨_, SqL.of h1⟩, for_list (K := K) (a := D) (xs := vs) (fun j σ H5 => ∃ q3 q5 q6, σ = [some (.ref a), some (.ref p), some (.int (0 + (i : Nat))), q3, some (.ref D), q5, q6, none] ∧ Same H4 H5) ⟨_, _, _, rfl, Same.refl _⟩ ?_ ?_ ?_⟩
        · rintro j σ H5 hj ⟨q3, q5, q6, rfl, s5⟩
          exact SqL.of (s5 _ _ h1)
        · rintro j v1 σ H5 hv1 ⟨q3, q5, q6, rfl, s5⟩
          obtain ⟨d1, e1, p1⟩ := DpAll.at' h2 hv1
          have t1 := h3 d1 e1
          refine ⟨_, rfl, D, rfl, ⟨_, SqL.of (s5 _ _ h1)⟩, for_list (K := K) (a := D) (xs := vs) (fun j σ H6 => ∃ q6, σ = [some (.ref a), some (.ref p), some (.int (0 + (i : Nat))), q3, some (.ref D), some v1, q6, none] ∧ Same H4 H6) ⟨_, rfl, s5⟩ ?_ ?_ ?_⟩
          · rintro l σ H6 hl ⟨q6, rfl, s6⟩
            exact SqL.of (s6 _ _ h1)
          · rintro l v2 σ H6 hv2 ⟨q6, rfl, s6⟩
            obtain ⟨d2, e2, p2⟩ := DpAll.at' h2 hv2
            have t2 := h3 d2 e2
            obtain ⟨_, _, _, u1, u2⟩ := good_text t1.wx (by decide) (by have := t1.nd; omega)
            obtain ⟨_, _, _, u3, u4⟩ := good_text t2.wx (by decide) (by have := t2.nd; omega)
            have hs0 : sizeLine = 16777216 := rfl
            unfold tw at u2 u4
            have m1 := t1.nd
            have m2 := t2.nd
            refine ⟨_, rfl, v1, d1, 9, rfl, Dp.up s6 _ _ p1, t1.nl, t1.wx, by decide, by omega, by omega, by omega, fun H7 s7 => ⟨_, rfl, v2, d2, 9, rfl, Dp.up (s6.trans s7) _ _ p2, t2.nl, t2.wx, by decide, by omega, by omega, by omega, fun H8 s8 => ⟨rfl, _, rfl, v1, d1, rfl, Dp.up (s6.trans (s7.trans s8)) _ _ p1, prn_of t1.gd (by omega) t1.dp, _, rfl, v2, d2, rfl, Dp.up (s6.trans (s7.trans s8)) _ _ p2, prn_of t2.gd (by omega) t2.dp, rfl, rfl, _, rfl, ?_⟩⟩⟩
            rw [pair_same t1 t2]
            exact iteF' (by rw [decide_eq_true rfl]; rfl) ⟨_, rfl, s6.trans (s7.trans s8)⟩
          · rintro σ H6 ⟨q6, rfl, s6⟩
            exact ⟨_, _, _, rfl, s6⟩
        · rintro σ H5 ⟨q3, q5, q6, rfl, s5⟩
          exact ⟨_, _, _, _, _, rfl, b4.same s5⟩
  · rintro σ H2 ⟨o2, o3, o4, o5, o6, rfl, b4⟩
    exact q H2
end
theorem all_mk {l : PySem.W.OpenLaw} {w : World} {K : PySem.W.Frag} {h : Heap} {mg : Str → Option Value} {fa f1 f2 f3 f4 f5 f6 f7 f8 f9 f10 f11 f12 f13 f14 f15 f16 f17 f18 f19 f20 f21 f22 f23 f24 f25 f26 f27 f28 f29 f30 f31 f32 f33 f34 f35 : Addr} (X : K.In h) (G : h.Ns mainGlobals mg) (hfa : mg "law" = some (.ref fa))
    {aE aT : Addr} {esE esT : Array DictEntry} {nE nT : Nat} {uE0 uE1 uE2 uE3 uE4 uE5 uE6 uE7 uE8 uE9 uE10 uE11 uE12 uE13 uE14 uE15 uT0 uT1 uT2 uT3 uT4 uT5 uT6 : Addr} {vE0 vE1 vE2 vE3 vE4 vE5 vE6 vE7 vE8 vE9 vE10 vE11 vE12 vE13 vE14 vE15 vT0 vT1 vT2 vT3 vT4 vT5 vT6 : Option Addr} {sE0 sE1 sE2 sE3 sE4 sE5 sE6 sE7 sE8 sE9 sE10 sE11 sE12 sE13 sE14 sE15 sT0 sT1 sT2 sT3 sT4 sT5 sT6 : Array (Option Value)} {nE0 nE1 nE2 nE3 nE4 nE5 nE6 nE7 nE8 nE9 nE10 nE11 nE12 nE13 nE14 nE15 nT0 nT1 nT2 nT3 nT4 nT5 nT6 : Nat} {tE0_0 tE1_0 tE2_0 tE3_0 tE3_1 tE4_0 tE5_0 tE5_1 tE6_0 tE6_1 tE7_0 tE8_0 tE9_0 tE9_1 tE10_0 tE10_1 tE10_2 tE11_0 tE11_1 tE11_2 tE12_0 tE12_1 tE12_2 tE13_0 tE13_1 tE13_2 tE14_0 tE14_1 tE14_2 tE14_3 tE14_4 tE15_0 tT0_0 tT0_1 tT1_0 tT1_1 tT2_0 tT2_1 tT2_2 tT3_0 tT3_1 tT4_0 tT5_0 tT5_1 tT6_0 tT6_1 : Tok}
    {CB1 CR1 gB gR : Addr} {tkB tkD : Tok}
    {odB odR anB anR : Option Addr} {slB slR : Array (Option Value)} {ouB kVB dcB pmB cdB ctB ouR kVR dcR pmR cdR ctR : Value}
    {LL LE LB LN : Addr} {gE : Addr}
    {xqL xqE xqB xqN : Str} {xNL xNE xNB xNN : Addr} {xbL xbE xbB xbN : List Value} {xsL xsE xsB xsN : List Str} {xuL xuE xuB xuN : List Value} {xaL xaE xaB xaN : Bool} {xcL xcE xcB xcN : Option Bool} {xdL xdE xdB xdN : Option Addr}
    {xkL_0 xkL_1 xkL_2 xkL_3 xkL_5 xkE_0 xkE_1 xkE_2 xkE_3 xkE_5 xkB_0 xkB_1 xkB_2 xkB_3 xkB_5 xkN_0 xkN_1 xkN_2 xkN_3 xkN_5 : Option Value}
    {odE' anE' : Option Addr} {slE' : Array (Option Value)} {ouE' kVE' dcE' pmE' cdE' ctE' : Value}
    {od1 an1 od2 an2 od3 an3 od4 an4 od5 an5 od6 an6 od7 an7 od8 an8 od9 an9 od10 an10 od11 an11 od12 an12 od13 an13 od14 an14 od15 an15 od16 an16 od17 an17 od18 an18 od19 an19 od20 an20 od21 an21 od22 an22 od23 an23 od24 an24 od25 an25 od26 an26 od27 an27 od28 an28 od29 an29 od30 an30 od31 an31 od32 an32 od33 an33 od34 an34 od35 an35 : Option Addr} {sl1 sl2 sl3 sl4 sl5 sl6 sl7 sl8 sl9 sl10 sl11 sl12 sl13 sl14 sl15 sl16 sl17 sl18 sl19 sl20 sl21 sl22 sl23 sl24 sl25 sl26 sl27 sl28 sl29 sl30 sl31 sl32 sl33 sl34 sl35 : Array (Option Value)} {oc1 kV1 dc1 pm1 cd1 ct1 oc2 kV2 dc2 pm2 cd2 ct2 oc3 kV3 dc3 pm3 cd3 ct3 oc4 kV4 dc4 pm4 cd4 ct4 oc5 kV5 dc5 pm5 cd5 ct5 oc6 kV6 dc6 pm6 cd6 ct6 oc7 kV7 dc7 pm7 cd7 ct7 oc8 kV8 dc8 pm8 cd8 ct8 oc9 kV9 dc9 pm9 cd9 ct9 oc10 kV10 dc10 pm10 cd10 ct10 oc11 kV11 dc11 pm11 cd11 ct11 oc12 kV12 dc12 pm12 cd12 ct12 oc13 kV13 dc13 pm13 cd13 ct13 oc14 kV14 dc14 pm14 cd14 ct14 oc15 kV15 dc15 pm15 cd15 ct15 oc16 kV16 dc16 pm16 cd16 ct16 oc17 kV17 dc17 pm17 cd17 ct17 oc18 kV18 dc18 pm18 cd18 ct18 oc19 kV19 dc19 pm19 cd19 ct19 oc20 kV20 dc20 pm20 cd20 ct20 oc21 kV21 dc21 pm21 cd21 ct21 oc22 kV22 dc22 pm22 cd22 ct22 oc23 kV23 dc23 pm23 cd23 ct23 oc24 kV24 dc24 pm24 cd24 ct24 oc25 kV25 dc25 pm25 cd25 ct25 oc26 kV26 dc26 pm26 cd26 ct26 oc27 kV27 dc27 pm27 cd27 ct27 oc28 kV28 dc28 pm28 cd28 ct28 oc29 kV29 dc29 pm29 cd29 ct29 oc30 kV30 dc30 pm30 cd30 ct30 oc31 kV31 dc31 pm31 cd31 ct31 oc32 kV32 dc32 pm32 cd32 ct32 oc33 kV33 dc33 pm33 cd33 ct33 oc34 kV34 dc34 pm34 cd34 ct34 oc35 kV35 dc35 pm35 cd35 ct35 : Value}
    (aaE : PySem.W.nsIn K mainGlobals "EXPRESSIONS" = some (some (.ref aE)))
    (llE : K.lookup aE = some ⟨.type "dict", none, .dict esE nE, #[]⟩)
    (kkE : PySem.W.KeysLit w.params esE.toList)
    (ooE : (aE == sysModules) = false)
    (aaT : PySem.W.nsIn K mainGlobals "TESTS" = some (some (.ref aT)))
    (llT : K.lookup aT = some ⟨.type "dict", none, .dict esT nT, #[]⟩)
    (kkT : PySem.W.KeysLit w.params esT.toList)
    (ooT : (aT == sysModules) = false)
    (gE0 : PySem.W.nsIn K aE "int" = some (some (.ref uE0)))
    (hE0 : K.lookup uE0 = some ⟨.type "tuple", vE0, .seq #[.str "integer" tE0_0] nE0, sE0⟩)
    (gE1 : PySem.W.nsIn K aE "atom" = some (some (.ref uE1)))
    (hE1 : K.lookup uE1 = some ⟨.type "tuple", vE1, .seq #[.str "name" tE1_0] nE1, sE1⟩)
    (gE2 : PySem.W.nsIn K aE "name" = some (some (.ref uE2)))
    (hE2 : K.lookup uE2 = some ⟨.type "tuple", vE2, .seq #[.str "name" tE2_0] nE2, sE2⟩)
    (gE3 : PySem.W.nsIn K aE "plus" = some (some (.ref uE3)))
    (hE3 : K.lookup uE3 = some ⟨.type "tuple", vE3, .seq #[.str "expression" tE3_0, .str "integer" tE3_1] nE3, sE3⟩)
    (gE4 : PySem.W.nsIn K aE "tuple" = some (some (.ref uE4)))
    (hE4 : K.lookup uE4 = some ⟨.type "tuple", vE4, .seq #[.str "expressions" tE4_0] nE4, sE4⟩)
    (gE5 : PySem.W.nsIn K aE "part" = some (some (.ref uE5)))
    (hE5 : K.lookup uE5 = some ⟨.type "tuple", vE5, .seq #[.str "expression" tE5_0, .str "index" tE5_1] nE5, sE5⟩)
    (gE6 : PySem.W.nsIn K aE "join" = some (some (.ref uE6)))
    (hE6 : K.lookup uE6 = some ⟨.type "tuple", vE6, .seq #[.str "expression" tE6_0, .str "expression" tE6_1] nE6, sE6⟩)
    (gE7 : PySem.W.nsIn K aE "read" = some (some (.ref uE7)))
    (hE7 : K.lookup uE7 = some ⟨.type "tuple", vE7, .seq #[.str "name" tE7_0] nE7, sE7⟩)
    (gE8 : PySem.W.nsIn K aE "reach" = some (some (.ref uE8)))
    (hE8 : K.lookup uE8 = some ⟨.type "tuple", vE8, .seq #[.str "expression" tE8_0] nE8, sE8⟩)
    (gE9 : PySem.W.nsIn K aE "call" = some (some (.ref uE9)))
    (hE9 : K.lookup uE9 = some ⟨.type "tuple", vE9, .seq #[.str "name" tE9_0, .str "expressions" tE9_1] nE9, sE9⟩)
    (gE10 : PySem.W.nsIn K aE "let" = some (some (.ref uE10)))
    (hE10 : K.lookup uE10 = some ⟨.type "tuple", vE10, .seq #[.str "name" tE10_0, .str "expression" tE10_1, .str "expression" tE10_2] nE10, sE10⟩)
    (gE11 : PySem.W.nsIn K aE "if" = some (some (.ref uE11)))
    (hE11 : K.lookup uE11 = some ⟨.type "tuple", vE11, .seq #[.str "test" tE11_0, .str "expression" tE11_1, .str "expression" tE11_2] nE11, sE11⟩)
    (gE12 : PySem.W.nsIn K aE "each" = some (some (.ref uE12)))
    (hE12 : K.lookup uE12 = some ⟨.type "tuple", vE12, .seq #[.str "name" tE12_0, .str "expression" tE12_1, .str "expression" tE12_2] nE12, sE12⟩)
    (gE13 : PySem.W.nsIn K aE "pick" = some (some (.ref uE13)))
    (hE13 : K.lookup uE13 = some ⟨.type "tuple", vE13, .seq #[.str "name" tE13_0, .str "expression" tE13_1, .str "test" tE13_2] nE13, sE13⟩)
    (gE14 : PySem.W.nsIn K aE "fold" = some (some (.ref uE14)))
    (hE14 : K.lookup uE14 = some ⟨.type "tuple", vE14, .seq #[.str "name" tE14_0, .str "expression" tE14_1, .str "name" tE14_2, .str "expression" tE14_3, .str "expression" tE14_4] nE14, sE14⟩)
    (gE15 : PySem.W.nsIn K aE "fail" = some (some (.ref uE15)))
    (hE15 : K.lookup uE15 = some ⟨.type "tuple", vE15, .seq #[.str "name" tE15_0] nE15, sE15⟩)
    (gT0 : PySem.W.nsIn K aT "is" = some (some (.ref uT0)))
    (hT0 : K.lookup uT0 = some ⟨.type "tuple", vT0, .seq #[.str "kind" tT0_0, .str "expression" tT0_1] nT0, sT0⟩)
    (gT1 : PySem.W.nsIn K aT "sized" = some (some (.ref uT1)))
    (hT1 : K.lookup uT1 = some ⟨.type "tuple", vT1, .seq #[.str "expression" tT1_0, .str "index" tT1_1] nT1, sT1⟩)
    (gT2 : PySem.W.nsIn K aT "most" = some (some (.ref uT2)))
    (hT2 : K.lookup uT2 = some ⟨.type "tuple", vT2, .seq #[.str "expression" tT2_0, .str "integer" tT2_1, .str "expression" tT2_2] nT2, sT2⟩)
    (gT3 : PySem.W.nsIn K aT "alike" = some (some (.ref uT3)))
    (hT3 : K.lookup uT3 = some ⟨.type "tuple", vT3, .seq #[.str "expression" tT3_0, .str "expression" tT3_1] nT3, sT3⟩)
    (gT4 : PySem.W.nsIn K aT "not" = some (some (.ref uT4)))
    (hT4 : K.lookup uT4 = some ⟨.type "tuple", vT4, .seq #[.str "test" tT4_0] nT4, sT4⟩)
    (gT5 : PySem.W.nsIn K aT "both" = some (some (.ref uT5)))
    (hT5 : K.lookup uT5 = some ⟨.type "tuple", vT5, .seq #[.str "test" tT5_0, .str "test" tT5_1] nT5, sT5⟩)
    (gT6 : PySem.W.nsIn K aT "either" = some (some (.ref uT6)))
    (hT6 : K.lookup uT6 = some ⟨.type "tuple", vT6, .seq #[.str "test" tT6_0, .str "test" tT6_1] nT6, sT6⟩)
    (w0 : PySem.W.nsIn K aT "int" = some none)
    (w1 : PySem.W.nsIn K aT "atom" = some none)
    (w2 : PySem.W.nsIn K aT "name" = some none)
    (w3 : PySem.W.nsIn K aT "plus" = some none)
    (w4 : PySem.W.nsIn K aT "tuple" = some none)
    (w5 : PySem.W.nsIn K aT "part" = some none)
    (w6 : PySem.W.nsIn K aT "join" = some none)
    (w7 : PySem.W.nsIn K aT "read" = some none)
    (w8 : PySem.W.nsIn K aT "reach" = some none)
    (w9 : PySem.W.nsIn K aT "call" = some none)
    (w10 : PySem.W.nsIn K aT "let" = some none)
    (w11 : PySem.W.nsIn K aT "if" = some none)
    (w12 : PySem.W.nsIn K aT "each" = some none)
    (w13 : PySem.W.nsIn K aT "pick" = some none)
    (w14 : PySem.W.nsIn K aT "fold" = some none)
    (w15 : PySem.W.nsIn K aT "fail" = some none)
    (aB : PySem.W.nsIn K mainGlobals "Bracket" = some (some (.ref CB1)))
    (aR : PySem.W.nsIn K mainGlobals "Reader" = some (some (.ref CR1)))
    (aMB : PySem.W.nsIn K mainGlobals "MOST_BRACKETS" = some (some (.int 40 tkB)))
    (aMD : PySem.W.nsIn K mainGlobals "MOST_DIGITS" = some (some (.int 18 tkD)))
    (pgB : PySem.W.plainGet K CB1 Str.empty = true)
    (hdB : PySem.W.hasDictIn K CB1 = true)
    (poB : PySem.W.plainOver K CB1 = true)
    (saB : PySem.W.findIn K (.ref CB1) "__setattr__" = some (some (.builtin "object.__setattr__")))
    (mkB : PySem.W.makesIn K CB1 = true)
    (kcB : PySem.W.keepIn K (.ref CB1) = true)
    (noB_wanted : PySem.W.findIn K (.ref CB1) "wanted" = some none)
    (noB_head : PySem.W.findIn K (.ref CB1) "head" = some none)
    (noB_sorts : PySem.W.findIn K (.ref CB1) "sorts" = some none)
    (noB_found : PySem.W.findIn K (.ref CB1) "found" = some none)
    (amB : PySem.W.findIn K (.ref CB1) "__init__" = some (some (.ref gB)))
    (imB : PySem.W.isFn K (.ref gB) = true)
    (lmB : K.lookup gB = some ⟨ouB, odB, .func (PySem.W.fnOf "__init__" "Bracket.__init__" (defArgs sBIni) (defBody sBIni) (defScope sBIni) .none kVB dcB pmB anB cdB ctB), slB⟩)
    (cmB : PySem.W.codeIn K cdB "Bracket.__init__" = true)
    (kmB : PySem.W.keepIn K (.ref gB) = true)
    (pgR : PySem.W.plainGet K CR1 Str.empty = true)
    (hdR : PySem.W.hasDictIn K CR1 = true)
    (poR : PySem.W.plainOver K CR1 = true)
    (saR : PySem.W.findIn K (.ref CR1) "__setattr__" = some (some (.builtin "object.__setattr__")))
    (mkR : PySem.W.makesIn K CR1 = true)
    (kcR : PySem.W.keepIn K (.ref CR1) = true)
    (noR_brackets : PySem.W.findIn K (.ref CR1) "brackets" = some none)
    (noR_tree : PySem.W.findIn K (.ref CR1) "tree" = some none)
    (amR : PySem.W.findIn K (.ref CR1) "__init__" = some (some (.ref gR)))
    (imR : PySem.W.isFn K (.ref gR) = true)
    (lmR : K.lookup gR = some ⟨ouR, odR, .func (PySem.W.fnOf "__init__" "Reader.__init__" (defArgs sRIni) (defBody sRIni) (defScope sRIni) .none kVR dcR pmR anR cdR ctR), slR⟩)
    (cmR : PySem.W.codeIn K cdR "Reader.__init__" = true)
    (kmR : PySem.W.keepIn K (.ref gR) = true)
    (aXL : PySem.W.nsIn K mainGlobals "LoreError" = some (some (.ref LL)))
    (lXL : K.lookup LL = some (excClassObj "LoreError" xqL LL xNL xbL veT true xsL xuL xaL xcL xdL xkL_0 xkL_1 xkL_2 xkL_3 xkL_5 "ValueError.__new__"))
    (aXE : PySem.W.nsIn K mainGlobals "NoText" = some (some (.ref LE)))
    (lXE : K.lookup LE = some (excClassObj "NoText" xqE LE xNE xbE (.ref LL :: veT) true xsE xuE xaE xcE xdE xkE_0 xkE_1 xkE_2 xkE_3 xkE_5 "ValueError.__new__"))
    (aXB : PySem.W.nsIn K mainGlobals "NoBook" = some (some (.ref LB)))
    (lXB : K.lookup LB = some (excClassObj "NoBook" xqB LB xNB xbB (.ref LL :: veT) true xsB xuB xaB xcB xdB xkB_0 xkB_1 xkB_2 xkB_3 xkB_5 "ValueError.__new__"))
    (aXN : PySem.W.nsIn K mainGlobals "NoNote" = some (some (.ref LN)))
    (lXN : K.lookup LN = some (excClassObj "NoNote" xqN LN xNN xbN (.ref LL :: veT) true xsN xuN xaN xcN xdN xkN_0 xkN_1 xkN_2 xkN_3 xkN_5 "ValueError.__new__"))
    (gaE : PySem.W.findIn K (.ref LE) "__getattribute__" = some (some (.builtin "BaseException.__getattribute__")))
    (ggE : PySem.W.findIn K (.ref LE) "__getattr__" = some none)
    (haE : PySem.W.findIn K (.ref LE) "__class__" = some (some (.builtin "object.__class__")))
    (saE : PySem.W.findIn K (.ref LE) "__setattr__" = some (some (.builtin "object.__setattr__")))
    (kcE : PySem.W.keepIn K (.ref LE) = true)
    (amE : PySem.W.findIn K (.ref LE) "__init__" = some (some (.ref gE)))
    (imE : PySem.W.typeIn K (.ref gE) = some (.type "function"))
    (lmE : K.lookup gE = some ⟨ouE', odE', .func (PySem.W.fnOf "__init__" "NoText.__init__" (defArgs sI2) (defBody sI2) (defScope sI2) .none kVE' dcE' pmE' anE' cdE' ctE'), slE'⟩)
    (cmE : PySem.W.codeIn K cdE' "NoText.__init__" = true)
    (kmE : PySem.W.keepIn K (.ref gE) = true)
    (noE : PySem.W.findIn K (.ref LE) "at" = some none)
    (hnE : PySem.W.specialIn K (.builtin "object.__class__") "__get__" = some (some (.builtin "getset_descriptor.__get__")))
    (htE : PySem.W.takesIn K (.builtin "object.__class__") = some true)
    (ksE : esE.toList.map (fun e => keyS e.key) = (exL.map Prod.fst).map some)
    (ksT : esT.toList.map (fun e => keyS e.key) = (teL.map Prod.fst).map some)
    (a1 : PySem.W.nsIn K mainGlobals "is_name" = some (some (.ref f1)))
    (l1 : K.lookup f1 = some ⟨oc1, od1, .func (PySem.W.fnOf "is_name" "is_name" (defArgs sName) (defBody sName) (defScope sName) .none kV1 dc1 pm1 an1 cd1 ct1), sl1⟩)
    (c1 : PySem.W.codeIn K cd1 "is_name" = true) (k1 : PySem.W.keepIn K (.ref f1) = true)
    (a2 : PySem.W.nsIn K mainGlobals "sorts_behind" = some (some (.ref f2)))
    (l2 : K.lookup f2 = some ⟨oc2, od2, .func (PySem.W.fnOf "sorts_behind" "sorts_behind" (defArgs sSorts) (defBody sSorts) (defScope sSorts) .none kV2 dc2 pm2 an2 cd2 ct2), sl2⟩)
    (c2 : PySem.W.codeIn K cd2 "sorts_behind" = true) (k2 : PySem.W.keepIn K (.ref f2) = true)
    (a3 : PySem.W.nsIn K mainGlobals "sorted_items" = some (some (.ref f3)))
    (l3 : K.lookup f3 = some ⟨oc3, od3, .func (PySem.W.fnOf "sorted_items" "sorted_items" (defArgs sItems) (defBody sItems) (defScope sItems) .none kV3 dc3 pm3 an3 cd3 ct3), sl3⟩)
    (c3 : PySem.W.codeIn K cd3 "sorted_items" = true) (k3 : PySem.W.keepIn K (.ref f3) = true)
    (a4 : PySem.W.nsIn K mainGlobals "show_expression" = some (some (.ref f4)))
    (l4 : K.lookup f4 = some ⟨oc4, od4, .func (PySem.W.fnOf "show_expression" "show_expression" (defArgs sShow) (defBody sShow) (defScope sShow) .none kV4 dc4 pm4 an4 cd4 ct4), sl4⟩)
    (c4 : PySem.W.codeIn K cd4 "show_expression" = true) (k4 : PySem.W.keepIn K (.ref f4) = true)
    (a5 : PySem.W.nsIn K mainGlobals "further_things" = some (some (.ref f5)))
    (l5 : K.lookup f5 = some ⟨oc5, od5, .func (PySem.W.fnOf "further_things" "further_things" (defArgs sFur) (defBody sFur) (defScope sFur) .none kV5 dc5 pm5 an5 cd5 ct5), sl5⟩)
    (c5 : PySem.W.codeIn K cd5 "further_things" = true) (k5 : PySem.W.keepIn K (.ref f5) = true)
    (a6 : PySem.W.nsIn K mainGlobals "read_expression" = some (some (.ref f6)))
    (l6 : K.lookup f6 = some ⟨oc6, od6, .func (PySem.W.fnOf "read_expression" "read_expression" (defArgs sRx) (defBody sRx) (defScope sRx) .none kV6 dc6 pm6 an6 cd6 ct6), sl6⟩)
    (c6 : PySem.W.codeIn K cd6 "read_expression" = true) (k6 : PySem.W.keepIn K (.ref f6) = true)
    (a7 : PySem.W.nsIn K mainGlobals "read_word" = some (some (.ref f7)))
    (l7 : K.lookup f7 = some ⟨oc7, od7, .func (PySem.W.fnOf "read_word" "read_word" (defArgs sRead) (defBody sRead) (defScope sRead) .none kV7 dc7 pm7 an7 cd7 ct7), sl7⟩)
    (c7 : PySem.W.codeIn K cd7 "read_word" = true) (k7 : PySem.W.keepIn K (.ref f7) = true)
    (a8 : PySem.W.nsIn K mainGlobals "read_head" = some (some (.ref f8)))
    (l8 : K.lookup f8 = some ⟨oc8, od8, .func (PySem.W.fnOf "read_head" "read_head" (defArgs sHead) (defBody sHead) (defScope sHead) .none kV8 dc8 pm8 an8 cd8 ct8), sl8⟩)
    (c8 : PySem.W.codeIn K cd8 "read_head" = true) (k8 : PySem.W.keepIn K (.ref f8) = true)
    (a9 : PySem.W.nsIn K mainGlobals "close_bracket" = some (some (.ref f9)))
    (l9 : K.lookup f9 = some ⟨oc9, od9, .func (PySem.W.fnOf "close_bracket" "close_bracket" (defArgs sClose) (defBody sClose) (defScope sClose) .none kV9 dc9 pm9 an9 cd9 ct9), sl9⟩)
    (c9 : PySem.W.codeIn K cd9 "close_bracket" = true) (k9 : PySem.W.keepIn K (.ref f9) = true)
    (a10 : PySem.W.nsIn K mainGlobals "keep" = some (some (.ref f10)))
    (l10 : K.lookup f10 = some ⟨oc10, od10, .func (PySem.W.fnOf "keep" "keep" (defArgs sKeep) (defBody sKeep) (defScope sKeep) .none kV10 dc10 pm10 an10 cd10 ct10), sl10⟩)
    (c10 : PySem.W.codeIn K cd10 "keep" = true) (k10 : PySem.W.keepIn K (.ref f10) = true)
    (a11 : PySem.W.nsIn K mainGlobals "read_item" = some (some (.ref f11)))
    (l11 : K.lookup f11 = some ⟨oc11, od11, .func (PySem.W.fnOf "read_item" "read_item" (defArgs sItem) (defBody sItem) (defScope sItem) .none kV11 dc11 pm11 an11 cd11 ct11), sl11⟩)
    (c11 : PySem.W.codeIn K cd11 "read_item" = true) (k11 : PySem.W.keepIn K (.ref f11) = true)
    (a12 : PySem.W.nsIn K mainGlobals "can_be" = some (some (.ref f12)))
    (l12 : K.lookup f12 = some ⟨oc12, od12, .func (PySem.W.fnOf "can_be" "can_be" (defArgs sCan) (defBody sCan) (defScope sCan) .none kV12 dc12 pm12 an12 cd12 ct12), sl12⟩)
    (c12 : PySem.W.codeIn K cd12 "can_be" = true) (k12 : PySem.W.keepIn K (.ref f12) = true)
    (a13 : PySem.W.nsIn K mainGlobals "is_number" = some (some (.ref f13)))
    (l13 : K.lookup f13 = some ⟨oc13, od13, .func (PySem.W.fnOf "is_number" "is_number" (defArgs sNum) (defBody sNum) (defScope sNum) .none kV13 dc13 pm13 an13 cd13 ct13), sl13⟩)
    (c13 : PySem.W.codeIn K cd13 "is_number" = true) (k13 : PySem.W.keepIn K (.ref f13) = true)
    (a14 : PySem.W.nsIn K mainGlobals "leaf_of" = some (some (.ref f14)))
    (l14 : K.lookup f14 = some ⟨oc14, od14, .func (PySem.W.fnOf "leaf_of" "leaf_of" (defArgs sLeaf) (defBody sLeaf) (defScope sLeaf) .none kV14 dc14 pm14 an14 cd14 ct14), sl14⟩)
    (c14 : PySem.W.codeIn K cd14 "leaf_of" = true) (k14 : PySem.W.keepIn K (.ref f14) = true)
    (a15 : PySem.W.nsIn K mainGlobals "_law_box" = some (some (.ref f15)))
    (l15 : K.lookup f15 = some ⟨oc15, od15, .func (PySem.W.fnOf "_law_box" "_law_box" (defArgs sBox) (defBody sBox) (defScope sBox) .none kV15 dc15 pm15 an15 cd15 ct15), sl15⟩)
    (c15 : PySem.W.codeIn K cd15 "_law_box" = true) (k15 : PySem.W.keepIn K (.ref f15) = true)
    (a16 : PySem.W.nsIn K mainGlobals "_law_take" = some (some (.ref f16)))
    (l16 : K.lookup f16 = some ⟨oc16, od16, .func (PySem.W.fnOf "_law_take" "_law_take" (defArgs sTake) (defBody sTake) (defScope sTake) .none kV16 dc16 pm16 an16 cd16 ct16), sl16⟩)
    (c16 : PySem.W.codeIn K cd16 "_law_take" = true) (k16 : PySem.W.keepIn K (.ref f16) = true)
    (a17 : PySem.W.nsIn K mainGlobals "_law_pick" = some (some (.ref f17)))
    (l17 : K.lookup f17 = some ⟨oc17, od17, .func (PySem.W.fnOf "_law_pick" "_law_pick" (defArgs sPick) (defBody sPick) (defScope sPick) .none kV17 dc17 pm17 an17 cd17 ct17), sl17⟩)
    (c17 : PySem.W.codeIn K cd17 "_law_pick" = true) (k17 : PySem.W.keepIn K (.ref f17) = true)
    (a18 : PySem.W.nsIn K mainGlobals "_law_forms" = some (some (.ref f18)))
    (l18 : K.lookup f18 = some ⟨oc18, od18, .func (PySem.W.fnOf "_law_forms" "_law_forms" (defArgs sForms) (defBody sForms) (defScope sForms) .none kV18 dc18 pm18 an18 cd18 ct18), sl18⟩)
    (c18 : PySem.W.codeIn K cd18 "_law_forms" = true) (k18 : PySem.W.keepIn K (.ref f18) = true)
    (a19 : PySem.W.nsIn K mainGlobals "_law_word" = some (some (.ref f19)))
    (l19 : K.lookup f19 = some ⟨oc19, od19, .func (PySem.W.fnOf "_law_word" "_law_word" (defArgs sWord) (defBody sWord) (defScope sWord) .none kV19 dc19 pm19 an19 cd19 ct19), sl19⟩)
    (c19 : PySem.W.codeIn K cd19 "_law_word" = true) (k19 : PySem.W.keepIn K (.ref f19) = true)
    (a20 : PySem.W.nsIn K mainGlobals "_law_thing" = some (some (.ref f20)))
    (l20 : K.lookup f20 = some ⟨oc20, od20, .func (PySem.W.fnOf "_law_thing" "_law_thing" (defArgs sThing) (defBody sThing) (defScope sThing) .none kV20 dc20 pm20 an20 cd20 ct20), sl20⟩)
    (c20 : PySem.W.codeIn K cd20 "_law_thing" = true) (k20 : PySem.W.keepIn K (.ref f20) = true)
    (a21 : PySem.W.nsIn K mainGlobals "_law_tree" = some (some (.ref f21)))
    (l21 : K.lookup f21 = some ⟨oc21, od21, .func (PySem.W.fnOf "_law_tree" "_law_tree" (defArgs sTree) (defBody sTree) (defScope sTree) .none kV21 dc21 pm21 an21 cd21 ct21), sl21⟩)
    (c21 : PySem.W.codeIn K cd21 "_law_tree" = true) (k21 : PySem.W.keepIn K (.ref f21) = true)
    (a22 : PySem.W.nsIn K mainGlobals "_law_is_name" = some (some (.ref f22)))
    (l22 : K.lookup f22 = some ⟨oc22, od22, .func (PySem.W.fnOf "_law_is_name" "_law_is_name" (defArgs sLName) (defBody sLName) (defScope sLName) .none kV22 dc22 pm22 an22 cd22 ct22), sl22⟩)
    (c22 : PySem.W.codeIn K cd22 "_law_is_name" = true) (k22 : PySem.W.keepIn K (.ref f22) = true)
    (a23 : PySem.W.nsIn K mainGlobals "_law_is_integer" = some (some (.ref f23)))
    (l23 : K.lookup f23 = some ⟨oc23, od23, .func (PySem.W.fnOf "_law_is_integer" "_law_is_integer" (defArgs sLInt) (defBody sLInt) (defScope sLInt) .none kV23 dc23 pm23 an23 cd23 ct23), sl23⟩)
    (c23 : PySem.W.codeIn K cd23 "_law_is_integer" = true) (k23 : PySem.W.keepIn K (.ref f23) = true)
    (a24 : PySem.W.nsIn K mainGlobals "_law_is_fit" = some (some (.ref f24)))
    (l24 : K.lookup f24 = some ⟨oc24, od24, .func (PySem.W.fnOf "_law_is_fit" "_law_is_fit" (defArgs sLFit) (defBody sLFit) (defScope sLFit) .none kV24 dc24 pm24 an24 cd24 ct24), sl24⟩)
    (c24 : PySem.W.codeIn K cd24 "_law_is_fit" = true) (k24 : PySem.W.keepIn K (.ref f24) = true)
    (a25 : PySem.W.nsIn K mainGlobals "_law_step" = some (some (.ref f25)))
    (l25 : K.lookup f25 = some ⟨oc25, od25, .func (PySem.W.fnOf "_law_step" "_law_step" (defArgs sLStep) (defBody sLStep) (defScope sLStep) .none kV25 dc25 pm25 an25 cd25 ct25), sl25⟩)
    (c25 : PySem.W.codeIn K cd25 "_law_step" = true) (k25 : PySem.W.keepIn K (.ref f25) = true)
    (a26 : PySem.W.nsIn K mainGlobals "_law_first_wrong" = some (some (.ref f26)))
    (l26 : K.lookup f26 = some ⟨oc26, od26, .func (PySem.W.fnOf "_law_first_wrong" "_law_first_wrong" (defArgs sLFirst) (defBody sLFirst) (defScope sLFirst) .none kV26 dc26 pm26 an26 cd26 ct26), sl26⟩)
    (c26 : PySem.W.codeIn K cd26 "_law_first_wrong" = true) (k26 : PySem.W.keepIn K (.ref f26) = true)
    (a27 : PySem.W.nsIn K mainGlobals "_law_told" = some (some (.ref f27)))
    (l27 : K.lookup f27 = some ⟨oc27, od27, .func (PySem.W.fnOf "_law_told" "_law_told" (defArgs sLTold) (defBody sLTold) (defScope sLTold) .none kV27 dc27 pm27 an27 cd27 ct27), sl27⟩)
    (c27 : PySem.W.codeIn K cd27 "_law_told" = true) (k27 : PySem.W.keepIn K (.ref f27) = true)
    (a28 : PySem.W.nsIn K mainGlobals "_law_right" = some (some (.ref f28)))
    (l28 : K.lookup f28 = some ⟨oc28, od28, .func (PySem.W.fnOf "_law_right" "_law_right" (defArgs sLRight) (defBody sLRight) (defScope sLRight) .none kV28 dc28 pm28 an28 cd28 ct28), sl28⟩)
    (c28 : PySem.W.codeIn K cd28 "_law_right" = true) (k28 : PySem.W.keepIn K (.ref f28) = true)
    (a29 : PySem.W.nsIn K mainGlobals "_law_due_next" = some (some (.ref f29)))
    (l29 : K.lookup f29 = some ⟨oc29, od29, .func (PySem.W.fnOf "_law_due_next" "_law_due_next" (defArgs sLDue) (defBody sLDue) (defScope sLDue) .none kV29 dc29 pm29 an29 cd29 ct29), sl29⟩)
    (c29 : PySem.W.codeIn K cd29 "_law_due_next" = true) (k29 : PySem.W.keepIn K (.ref f29) = true)
    (a30 : PySem.W.nsIn K mainGlobals "_law_ended" = some (some (.ref f30)))
    (l30 : K.lookup f30 = some ⟨oc30, od30, .func (PySem.W.fnOf "_law_ended" "_law_ended" (defArgs sLEnded) (defBody sLEnded) (defScope sLEnded) .none kV30 dc30 pm30 an30 cd30 ct30), sl30⟩)
    (c30 : PySem.W.codeIn K cd30 "_law_ended" = true) (k30 : PySem.W.keepIn K (.ref f30) = true)
    (a31 : PySem.W.nsIn K mainGlobals "_law_word_for" = some (some (.ref f31)))
    (l31 : K.lookup f31 = some ⟨oc31, od31, .func (PySem.W.fnOf "_law_word_for" "_law_word_for" (defArgs sLFor) (defBody sLFor) (defScope sLFor) .none kV31 dc31 pm31 an31 cd31 ct31), sl31⟩)
    (c31 : PySem.W.codeIn K cd31 "_law_word_for" = true) (k31 : PySem.W.keepIn K (.ref f31) = true)
    (a32 : PySem.W.nsIn K mainGlobals "_law_made" = some (some (.ref f32)))
    (l32 : K.lookup f32 = some ⟨oc32, od32, .func (PySem.W.fnOf "_law_made" "_law_made" (defArgs sLMade) (defBody sLMade) (defScope sLMade) .none kV32 dc32 pm32 an32 cd32 ct32), sl32⟩)
    (c32 : PySem.W.codeIn K cd32 "_law_made" = true) (k32 : PySem.W.keepIn K (.ref f32) = true)
    (a33 : PySem.W.nsIn K mainGlobals "_law_nested" = some (some (.ref f33)))
    (l33 : K.lookup f33 = some ⟨oc33, od33, .func (PySem.W.fnOf "_law_nested" "_law_nested" (defArgs sLNest) (defBody sLNest) (defScope sLNest) .none kV33 dc33 pm33 an33 cd33 ct33), sl33⟩)
    (c33 : PySem.W.codeIn K cd33 "_law_nested" = true) (k33 : PySem.W.keepIn K (.ref f33) = true)
    (a34 : PySem.W.nsIn K mainGlobals "_law_all_right" = some (some (.ref f34)))
    (l34 : K.lookup f34 = some ⟨oc34, od34, .func (PySem.W.fnOf "_law_all_right" "_law_all_right" (defArgs sLAll) (defBody sLAll) (defScope sLAll) .none kV34 dc34 pm34 an34 cd34 ct34), sl34⟩)
    (c34 : PySem.W.codeIn K cd34 "_law_all_right" = true) (k34 : PySem.W.keepIn K (.ref f34) = true)
    (a35 : PySem.W.nsIn K mainGlobals "law" = some (some (.ref f35)))
    (l35 : K.lookup f35 = some ⟨oc35, od35, .func (PySem.W.fnOf "law" "law" (defArgs sLaw) (defBody sLaw) (defScope sLaw) .none kV35 dc35 pm35 an35 cd35 ct35), sl35⟩)
    (c35 : PySem.W.codeIn K cd35 "law" = true) (k35 : PySem.W.keepIn K (.ref f35) = true)
    (z1 : PySem.W.nsIn K mainGlobals "list" = some none)
    (z2 : PySem.W.nsIn K mainGlobals "zip" = some none)
    (z3 : PySem.W.nsIn K mainGlobals "enumerate" = some none)
    (z4 : PySem.W.nsIn K mainGlobals "tuple" = some none)
    (z5 : PySem.W.nsIn K mainGlobals "len" = some none)
    (z6 : PySem.W.nsIn K mainGlobals "abs" = some none)
    (z7 : PySem.W.nsIn K mainGlobals "dict" = some none)
    (z8 : PySem.W.nsIn K mainGlobals "range" = some none)
    (z9 : PySem.W.nsIn K mainGlobals "repr" = some none)
    (z10 : PySem.W.nsIn K mainGlobals "all" = some none)
    (z11 : PySem.W.nsIn K mainGlobals "isinstance" = some none)
    (z12 : PySem.W.nsIn K mainGlobals "str" = some none)
    (z13 : PySem.W.nsIn K mainGlobals "int" = some none)
    : ∃ fd : FuncData, (∀ (s : Shared) (v : Value), BindsTo s fd ⟨[v], []⟩ [("_law_script", v)]) ∧ ∀ base : Heap, K.In base → base.Ns mainGlobals mg → FnG l.prog w K mg base CX0 14 fa fd ["_law_script"] (spLaw K) := by
  have e := hfa.symm.trans (PySem.W.mg_of X G a35)
  cases e
  have F1 := fun_mk (st := sName) l1 c1 k1
  have b1 := F1.binds (ps := ["thing"]) fun _ _ _ _ _ _ us hl => match us, hl with | [_], _ => rfl
  have m1 := PySem.W.mg_of X G a1
  have F2 := fun_mk (st := sSorts) l2 c2 k2
  have b2 := F2.binds (ps := ["word", "wanted"]) fun _ _ _ _ _ _ us hl => match us, hl with | [_, _], _ => rfl
  have m2 := PySem.W.mg_of X G a2
  have F3 := fun_mk (st := sItems) l3 c3 k3
  have b3 := F3.binds (ps := ["tree"]) fun _ _ _ _ _ _ us hl => match us, hl with | [_], _ => rfl
  have m3 := PySem.W.mg_of X G a3
  have F4 := fun_mk (st := sShow) l4 c4 k4
  have b4 := F4.binds (ps := ["tree"]) fun _ _ _ _ _ _ us hl => match us, hl with | [_], _ => rfl
  have m4 := PySem.W.mg_of X G a4
  have F5 := fun_mk (st := sFur) l5 c5 k5
  have b5 := F5.binds (ps := ["tree"]) fun _ _ _ _ _ _ us hl => match us, hl with | [_], _ => rfl
  have m5 := PySem.W.mg_of X G a5
  have F6 := fun_mk (st := sRx) l6 c6 k6
  have b6 := F6.binds (ps := ["text"]) fun _ _ _ _ _ _ us hl => match us, hl with | [_], _ => rfl
  have m6 := PySem.W.mg_of X G a6
  have F7 := fun_mk (st := sRead) l7 c7 k7
  have b7 := F7.binds (ps := ["reader", "word"]) fun _ _ _ _ _ _ us hl => match us, hl with | [_, _], _ => rfl
  have m7 := PySem.W.mg_of X G a7
  have F8 := fun_mk (st := sHead) l8 c8 k8
  have b8 := F8.binds (ps := ["reader", "word"]) fun _ _ _ _ _ _ us hl => match us, hl with | [_, _], _ => rfl
  have m8 := PySem.W.mg_of X G a8
  have F9 := fun_mk (st := sClose) l9 c9 k9
  have b9 := F9.binds (ps := ["reader"]) fun _ _ _ _ _ _ us hl => match us, hl with | [_], _ => rfl
  have m9 := PySem.W.mg_of X G a9
  have F10 := fun_mk (st := sKeep) l10 c10 k10
  have b10 := F10.binds (ps := ["reader", "thing"]) fun _ _ _ _ _ _ us hl => match us, hl with | [_, _], _ => rfl
  have m10 := PySem.W.mg_of X G a10
  have F11 := fun_mk (st := sItem) l11 c11 k11
  have b11 := F11.binds (ps := ["reader", "word", "sort"]) fun _ _ _ _ _ _ us hl => match us, hl with | [_, _, _], _ => rfl
  have m11 := PySem.W.mg_of X G a11
  have F12 := fun_mk (st := sCan) l12 c12 k12
  have b12 := F12.binds (ps := ["word", "sort"]) fun _ _ _ _ _ _ us hl => match us, hl with | [_, _], _ => rfl
  have m12 := PySem.W.mg_of X G a12
  have F13 := fun_mk (st := sNum) l13 c13 k13
  have b13 := F13.binds (ps := ["word"]) fun _ _ _ _ _ _ us hl => match us, hl with | [_], _ => rfl
  have m13 := PySem.W.mg_of X G a13
  have F14 := fun_mk (st := sLeaf) l14 c14 k14
  have b14 := F14.binds (ps := ["word"]) fun _ _ _ _ _ _ us hl => match us, hl with | [_], _ => rfl
  have m14 := PySem.W.mg_of X G a14
  have F15 := fun_mk (st := sBox) l15 c15 k15
  have b15 := F15.binds (ps := ["_law_script", "_law_base"]) fun _ _ _ _ _ _ us hl => match us, hl with | [_, _], _ => rfl
  have m15 := PySem.W.mg_of X G a15
  have F16 := fun_mk (st := sTake) l16 c16 k16
  have b16 := F16.binds (ps := ["_law_box_here", "_law_many"]) fun _ _ _ _ _ _ us hl => match us, hl with | [_, _], _ => rfl
  have m16 := PySem.W.mg_of X G a16
  have F17 := fun_mk (st := sPick) l17 c17 k17
  have b17 := F17.binds (ps := ["_law_box_here", "_law_items"]) fun _ _ _ _ _ _ us hl => match us, hl with | [_, _], _ => rfl
  have m17 := PySem.W.mg_of X G a17
  have F18 := fun_mk (st := sForms) l18 c18 k18
  have b18 := F18.binds (ps := ["_law_sort"]) fun _ _ _ _ _ _ us hl => match us, hl with | [_], _ => rfl
  have m18 := PySem.W.mg_of X G a18
  have F19 := fun_mk (st := sWord) l19 c19 k19
  have b19 := F19.binds (ps := ["_law_box_here"]) fun _ _ _ _ _ _ us hl => match us, hl with | [_], _ => rfl
  have m19 := PySem.W.mg_of X G a19
  have F20 := fun_mk (st := sThing) l20 c20 k20
  have b20 := F20.binds (ps := ["_law_box_here", "_law_slot"]) fun _ _ _ _ _ _ us hl => match us, hl with | [_, _], _ => rfl
  have m20 := PySem.W.mg_of X G a20
  have F21 := fun_mk (st := sTree) l21 c21 k21
  have b21 := F21.binds (ps := ["_law_box_here", "_law_sort", "_law_deep", "_law_room"]) fun _ _ _ _ _ _ us hl => match us, hl with | [_, _, _, _], _ => rfl
  have m21 := PySem.W.mg_of X G a21
  have F22 := fun_mk (st := sLName) l22 c22 k22
  have b22 := F22.binds (ps := ["_law_word_here"]) fun _ _ _ _ _ _ us hl => match us, hl with | [_], _ => rfl
  have m22 := PySem.W.mg_of X G a22
  have F23 := fun_mk (st := sLInt) l23 c23 k23
  have b23 := F23.binds (ps := ["_law_word_here"]) fun _ _ _ _ _ _ us hl => match us, hl with | [_], _ => rfl
  have m23 := PySem.W.mg_of X G a23
  have F24 := fun_mk (st := sLFit) l24 c24 k24
  have b24 := F24.binds (ps := ["_law_mark", "_law_word_here"]) fun _ _ _ _ _ _ us hl => match us, hl with | [_, _], _ => rfl
  have m24 := PySem.W.mg_of X G a24
  have F25 := fun_mk (st := sLStep) l25 c25 k25
  have b25 := F25.binds (ps := ["_law_due", "_law_word_here"]) fun _ _ _ _ _ _ us hl => match us, hl with | [_, _], _ => rfl
  have m25 := PySem.W.mg_of X G a25
  have F26 := fun_mk (st := sLFirst) l26 c26 k26
  have b26 := F26.binds (ps := ["_law_text"]) fun _ _ _ _ _ _ us hl => match us, hl with | [_], _ => rfl
  have m26 := PySem.W.mg_of X G a26
  have F27 := fun_mk (st := sLTold) l27 c27 k27
  have b27 := F27.binds (ps := ["_law_text"]) fun _ _ _ _ _ _ us hl => match us, hl with | [_], _ => rfl
  have m27 := PySem.W.mg_of X G a27
  have F28 := fun_mk (st := sLRight) l28 c28 k28
  have b28 := F28.binds (ps := ["_law_text"]) fun _ _ _ _ _ _ us hl => match us, hl with | [_], _ => rfl
  have m28 := PySem.W.mg_of X G a28
  have F29 := fun_mk (st := sLDue) l29 c29 k29
  have b29 := F29.binds (ps := ["_law_words"]) fun _ _ _ _ _ _ us hl => match us, hl with | [_], _ => rfl
  have m29 := PySem.W.mg_of X G a29
  have F30 := fun_mk (st := sLEnded) l30 c30 k30
  have b30 := F30.binds (ps := ["_law_words"]) fun _ _ _ _ _ _ us hl => match us, hl with | [_], _ => rfl
  have m30 := PySem.W.mg_of X G a30
  have F31 := fun_mk (st := sLFor) l31 c31 k31
  have b31 := F31.binds (ps := ["_law_box_here", "_law_due", "_law_deep"]) fun _ _ _ _ _ _ us hl => match us, hl with | [_, _, _], _ => rfl
  have m31 := PySem.W.mg_of X G a31
  have F32 := fun_mk (st := sLMade) l32 c32 k32
  have b32 := F32.binds (ps := ["_law_box_here", "_law_deep"]) fun _ _ _ _ _ _ us hl => match us, hl with | [_, _], _ => rfl
  have m32 := PySem.W.mg_of X G a32
  have F33 := fun_mk (st := sLNest) l33 c33 k33
  have b33 := F33.binds (ps := ["_law_box_here"]) fun _ _ _ _ _ _ us hl => match us, hl with | [_], _ => rfl
  have m33 := PySem.W.mg_of X G a33
  have F34 := fun_mk (st := sLAll) l34 c34 k34
  have b34 := F34.binds (ps := ["_law_words"]) fun _ _ _ _ _ _ us hl => match us, hl with | [_], _ => rfl
  have m34 := PySem.W.mg_of X G a34
  have F35 := fun_mk (st := sLaw) l35 c35 k35
  have n_list := PySem.W.mg_none_of X G z1
  have n_zip := PySem.W.mg_none_of X G z2
  have n_enumerate := PySem.W.mg_none_of X G z3
  have n_tuple := PySem.W.mg_none_of X G z4
  have n_len := PySem.W.mg_none_of X G z5
  have n_abs := PySem.W.mg_none_of X G z6
  have n_dict := PySem.W.mg_none_of X G z7
  have n_range := PySem.W.mg_none_of X G z8
  have n_repr := PySem.W.mg_none_of X G z9
  have n_all := PySem.W.mg_none_of X G z10
  have n_isinstance := PySem.W.mg_none_of X G z11
  have n_str := PySem.W.mg_none_of X G z12
  have n_int := PySem.W.mg_none_of X G z13
  refine ⟨PySem.W.fnOf "law" "law" (defArgs sLaw) (defBody sLaw) (defScope sLaw) .none kV35 dc35 pm35 an35 cd35 ct35, fun s v => .of_eq rfl, fun base _ _ => ?_⟩
  have TB : Tab K w mg aE esE nE aT esT nT := by
    refine ⟨PySem.W.mg_of X G aaE, PySem.W.mg_of X G aaT, ⟨llE, kkE, ooE⟩, ⟨llT, kkT, ooT⟩, ?e1, ?t1, ?e0⟩
    case e1 =>
      intro p hp
      simp only [exL, List.mem_cons, List.not_mem_nil, or_false] at hp
      rcases hp with rfl | rfl | rfl | rfl | rfl | rfl | rfl | rfl | rfl | rfl | rfl | rfl | rfl | rfl | rfl | rfl
      · exact ⟨uE0, gE0, fun H => by
            have e : sortsV "k" = [.str "integer"] := by decide +kernel
            rw [e]
            exact .inr ⟨_, _, _, hE0, rfl, rfl, (by show 1 ≤ sizeLine; decide), .cons ⟨_, rfl⟩ (.nil)⟩⟩
      · exact ⟨uE1, gE1, fun H => by
            have e : sortsV "n" = [.str "name"] := by decide +kernel
            rw [e]
            exact .inr ⟨_, _, _, hE1, rfl, rfl, (by show 1 ≤ sizeLine; decide), .cons ⟨_, rfl⟩ (.nil)⟩⟩
      · exact ⟨uE2, gE2, fun H => by
            have e : sortsV "n" = [.str "name"] := by decide +kernel
            rw [e]
            exact .inr ⟨_, _, _, hE2, rfl, rfl, (by show 1 ≤ sizeLine; decide), .cons ⟨_, rfl⟩ (.nil)⟩⟩
      · exact ⟨uE3, gE3, fun H => by
            have e : sortsV "ek" = [.str "expression", .str "integer"] := by decide +kernel
            rw [e]
            exact .inr ⟨_, _, _, hE3, rfl, rfl, (by show 2 ≤ sizeLine; decide), .cons ⟨_, rfl⟩ (.cons ⟨_, rfl⟩ (.nil))⟩⟩
      · exact ⟨uE4, gE4, fun H => by
            have e : sortsV "s" = [.str "expressions"] := by decide +kernel
            rw [e]
            exact .inr ⟨_, _, _, hE4, rfl, rfl, (by show 1 ≤ sizeLine; decide), .cons ⟨_, rfl⟩ (.nil)⟩⟩
      · exact ⟨uE5, gE5, fun H => by
            have e : sortsV "ei" = [.str "expression", .str "index"] := by decide +kernel
            rw [e]
            exact .inr ⟨_, _, _, hE5, rfl, rfl, (by show 2 ≤ sizeLine; decide), .cons ⟨_, rfl⟩ (.cons ⟨_, rfl⟩ (.nil))⟩⟩
      · exact ⟨uE6, gE6, fun H => by
            have e : sortsV "ee" = [.str "expression", .str "expression"] := by decide +kernel
            rw [e]
            exact .inr ⟨_, _, _, hE6, rfl, rfl, (by show 2 ≤ sizeLine; decide), .cons ⟨_, rfl⟩ (.cons ⟨_, rfl⟩ (.nil))⟩⟩
      · exact ⟨uE7, gE7, fun H => by
            have e : sortsV "n" = [.str "name"] := by decide +kernel
            rw [e]
            exact .inr ⟨_, _, _, hE7, rfl, rfl, (by show 1 ≤ sizeLine; decide), .cons ⟨_, rfl⟩ (.nil)⟩⟩
      · exact ⟨uE8, gE8, fun H => by
            have e : sortsV "e" = [.str "expression"] := by decide +kernel
            rw [e]
            exact .inr ⟨_, _, _, hE8, rfl, rfl, (by show 1 ≤ sizeLine; decide), .cons ⟨_, rfl⟩ (.nil)⟩⟩
      · exact ⟨uE9, gE9, fun H => by
            have e : sortsV "ns" = [.str "name", .str "expressions"] := by decide +kernel
            rw [e]
            exact .inr ⟨_, _, _, hE9, rfl, rfl, (by show 2 ≤ sizeLine; decide), .cons ⟨_, rfl⟩ (.cons ⟨_, rfl⟩ (.nil))⟩⟩
      · exact ⟨uE10, gE10, fun H => by
            have e : sortsV "nee" = [.str "name", .str "expression", .str "expression"] := by decide +kernel
            rw [e]
            exact .inr ⟨_, _, _, hE10, rfl, rfl, (by show 3 ≤ sizeLine; decide), .cons ⟨_, rfl⟩ (.cons ⟨_, rfl⟩ (.cons ⟨_, rfl⟩ (.nil)))⟩⟩
      · exact ⟨uE11, gE11, fun H => by
            have e : sortsV "tee" = [.str "test", .str "expression", .str "expression"] := by decide +kernel
            rw [e]
            exact .inr ⟨_, _, _, hE11, rfl, rfl, (by show 3 ≤ sizeLine; decide), .cons ⟨_, rfl⟩ (.cons ⟨_, rfl⟩ (.cons ⟨_, rfl⟩ (.nil)))⟩⟩
      · exact ⟨uE12, gE12, fun H => by
            have e : sortsV "nee" = [.str "name", .str "expression", .str "expression"] := by decide +kernel
            rw [e]
            exact .inr ⟨_, _, _, hE12, rfl, rfl, (by show 3 ≤ sizeLine; decide), .cons ⟨_, rfl⟩ (.cons ⟨_, rfl⟩ (.cons ⟨_, rfl⟩ (.nil)))⟩⟩
      · exact ⟨uE13, gE13, fun H => by
            have e : sortsV "net" = [.str "name", .str "expression", .str "test"] := by decide +kernel
            rw [e]
            exact .inr ⟨_, _, _, hE13, rfl, rfl, (by show 3 ≤ sizeLine; decide), .cons ⟨_, rfl⟩ (.cons ⟨_, rfl⟩ (.cons ⟨_, rfl⟩ (.nil)))⟩⟩
      · exact ⟨uE14, gE14, fun H => by
            have e : sortsV "nenee" = [.str "name", .str "expression", .str "name", .str "expression", .str "expression"] := by decide +kernel
            rw [e]
            exact .inr ⟨_, _, _, hE14, rfl, rfl, (by show 5 ≤ sizeLine; decide), .cons ⟨_, rfl⟩ (.cons ⟨_, rfl⟩ (.cons ⟨_, rfl⟩ (.cons ⟨_, rfl⟩ (.cons ⟨_, rfl⟩ (.nil)))))⟩⟩
      · exact ⟨uE15, gE15, fun H => by
            have e : sortsV "n" = [.str "name"] := by decide +kernel
            rw [e]
            exact .inr ⟨_, _, _, hE15, rfl, rfl, (by show 1 ≤ sizeLine; decide), .cons ⟨_, rfl⟩ (.nil)⟩⟩
    case t1 =>
      intro p hp
      simp only [teL, List.mem_cons, List.not_mem_nil, or_false] at hp
      rcases hp with rfl | rfl | rfl | rfl | rfl | rfl | rfl
      · exact ⟨uT0, gT0, fun H => by
            have e : sortsV "we" = [.str "kind", .str "expression"] := by decide +kernel
            rw [e]
            exact .inr ⟨_, _, _, hT0, rfl, rfl, (by show 2 ≤ sizeLine; decide), .cons ⟨_, rfl⟩ (.cons ⟨_, rfl⟩ (.nil))⟩⟩
      · exact ⟨uT1, gT1, fun H => by
            have e : sortsV "ei" = [.str "expression", .str "index"] := by decide +kernel
            rw [e]
            exact .inr ⟨_, _, _, hT1, rfl, rfl, (by show 2 ≤ sizeLine; decide), .cons ⟨_, rfl⟩ (.cons ⟨_, rfl⟩ (.nil))⟩⟩
      · exact ⟨uT2, gT2, fun H => by
            have e : sortsV "eke" = [.str "expression", .str "integer", .str "expression"] := by decide +kernel
            rw [e]
            exact .inr ⟨_, _, _, hT2, rfl, rfl, (by show 3 ≤ sizeLine; decide), .cons ⟨_, rfl⟩ (.cons ⟨_, rfl⟩ (.cons ⟨_, rfl⟩ (.nil)))⟩⟩
      · exact ⟨uT3, gT3, fun H => by
            have e : sortsV "ee" = [.str "expression", .str "expression"] := by decide +kernel
            rw [e]
            exact .inr ⟨_, _, _, hT3, rfl, rfl, (by show 2 ≤ sizeLine; decide), .cons ⟨_, rfl⟩ (.cons ⟨_, rfl⟩ (.nil))⟩⟩
      · exact ⟨uT4, gT4, fun H => by
            have e : sortsV "t" = [.str "test"] := by decide +kernel
            rw [e]
            exact .inr ⟨_, _, _, hT4, rfl, rfl, (by show 1 ≤ sizeLine; decide), .cons ⟨_, rfl⟩ (.nil)⟩⟩
      · exact ⟨uT5, gT5, fun H => by
            have e : sortsV "tt" = [.str "test", .str "test"] := by decide +kernel
            rw [e]
            exact .inr ⟨_, _, _, hT5, rfl, rfl, (by show 2 ≤ sizeLine; decide), .cons ⟨_, rfl⟩ (.cons ⟨_, rfl⟩ (.nil))⟩⟩
      · exact ⟨uT6, gT6, fun H => by
            have e : sortsV "tt" = [.str "test", .str "test"] := by decide +kernel
            rw [e]
            exact .inr ⟨_, _, _, hT6, rfl, rfl, (by show 2 ≤ sizeLine; decide), .cons ⟨_, rfl⟩ (.cons ⟨_, rfl⟩ (.nil))⟩⟩
    case e0 =>
      intro p hp
      simp only [exL, List.mem_cons, List.not_mem_nil, or_false] at hp
      rcases hp with rfl | rfl | rfl | rfl | rfl | rfl | rfl | rfl | rfl | rfl | rfl | rfl | rfl | rfl | rfl | rfl
      · exact w0
      · exact w1
      · exact w2
      · exact w3
      · exact w4
      · exact w5
      · exact w6
      · exact w7
      · exact w8
      · exact w9
      · exact w10
      · exact w11
      · exact w12
      · exact w13
      · exact w14
      · exact w15
  have Tt : Tk l.prog w K mg base f16 _ := ⟨ok_take (k := 0) F16 n_len, k16, b16, m16⟩
  have TCB : CB K mg CB1 := ⟨⟨pgB, hdB, poB, saB⟩, noB_wanted, noB_head, noB_sorts, noB_found, PySem.W.mg_of X G aB⟩
  have TCR : CR K mg CR1 := ⟨⟨pgR, hdR, poR, saR⟩, noR_brackets, noR_tree, PySem.W.mg_of X G aR⟩
  have EB := fun_mk (st := sBIni) lmB cmB kmB
  have ER := fun_mk (st := sRIni) lmR cmR kmR
  have dB := EB.binds (ps := ["self", "wanted"]) fun _ _ _ _ _ _ us hl => match us, hl with | [_, _], _ => rfl
  have dR := ER.binds (ps := ["self"]) fun _ _ _ _ _ _ us hl => match us, hl with | [_], _ => rfl
  have mMB := PySem.W.mg_of X G aMB
  have mMD := PySem.W.mg_of X G aMD
  have IB : FnOk l.prog w K mg base CX0 1 gB _ ["self", "wanted"] (spBIni CB1) := ok_bini (k := 0) EB TCB
  have IR : FnOk l.prog w K mg base CX0 1 gR _ ["self"] (spRIni CR1) := ok_rini (k := 0) ER TCR
  have KB : Mk K CB1 gB := ⟨mkB, amB, imB, kcB⟩
  have KR : Mk K CR1 gR := ⟨mkR, amR, imR, kcR⟩
  have G1 : Dn l.prog w K mg base 1 "is_name" ["thing"] spName f1 _ := ⟨ok_name (k := 0) F1 n_isinstance n_str n_len n_all, k1, b1, m1⟩
  have T0 : Tab0 K aE aT := ⟨fun x hx => ns_absent llE ksE hx, fun x hx => ns_absent llT ksT hx⟩
  have G2 : Dn l.prog w K mg base 1 "sorts_behind" ["word", "wanted"] (spSorts K) f2 _ := ⟨ok_sorts (k := 0) F2 TB, k2, b2, m2⟩
  have G2o : Dn l.prog w K mg base 1 "sorts_behind" ["word", "wanted"] (spOr (spSorts K) spSorts0) f2 _ := ⟨fn_or (ok_sorts (k := 0) F2 TB) (ok_sorts0 (k := 0) F2 TB T0), k2, b2, m2⟩
  have G3 : Dn l.prog w K mg base 2 "sorted_items" ["tree"] (spItems K) f3 _ := ⟨ok_items (k := 0) F3 TB n_list n_zip G2, k3, b3, m3⟩
  have G5 : Dn l.prog w K mg base 3 "further_things" ["tree"] (spFur K) f5 _ := ⟨ok_fur (k := 0) F5 n_str G3, k5, b5, m5⟩
  have G4 : Dn l.prog w K mg base 4 "show_expression" ["tree"] (spShow K) f4 _ := ⟨ok_show (k := 0) F4 n_isinstance n_str G5, k4, b4, m4⟩
  have G10 : Dn l.prog w K mg base 1 "keep" ["reader", "thing"] (spKeep K CR1 CB1) f10 _ := ⟨ok_keep (k := 0) F10 TCR TCB, k10, b10, m10⟩
  have G9 : Dn l.prog w K mg base 2 "close_bracket" ["reader"] (spClose K CR1 CB1) f9 _ := ⟨ok_close (k := 0) F9 TCR TCB n_len n_tuple G10, k9, b9, m9⟩
  have G8 : Dn l.prog w K mg base 2 "read_head" ["reader", "word"] (spHead K CR1 CB1) f8 _ := ⟨ok_head (k := 0) F8 TCR TCB n_len mMB G2, k8, b8, m8⟩
  have G8o : Dn l.prog w K mg base 2 "read_head" ["reader", "word"] (spHead0 K CR1 CB1) f8 _ := ⟨ok_head0 (k := 0) F8 TCR TCB n_len mMB G2o, k8, b8, m8⟩
  have G13 : Dn l.prog w K mg base 1 "is_number" ["word"] spNum f13 _ := ⟨ok_num (k := 0) F13 n_len n_all mMD, k13, b13, m13⟩
  have G12 : Dn l.prog w K mg base 2 "can_be" ["word", "sort"] spCan f12 _ := ⟨ok_can (k := 0) F12 G13 G1, k12, b12, m12⟩
  have G12o : Dn l.prog w K mg base 2 "can_be" ["word", "sort"] spCan0 f12 _ := ⟨ok_can0 (k := 0) F12 G13 G1, k12, b12, m12⟩
  have G14 : Dn l.prog w K mg base 2 "leaf_of" ["word"] (spLeaf K) f14 _ := ⟨ok_leaf (k := 0) F14 n_int G1, k14, b14, m14⟩
  have G11 : Dn l.prog w K mg base 3 "read_item" ["reader", "word", "sort"] (spItem K CR1 CB1) f11 _ := ⟨ok_item (k := 0) F11 TCR TCB n_len n_int mMB KB IB dB G10 G12 G14, k11, b11, m11⟩
  have G11o : Dn l.prog w K mg base 3 "read_item" ["reader", "word", "sort"] (spItem0 K CR1 CB1) f11 _ := ⟨ok_item0 (k := 0) F11 TCR TCB n_len n_int mMB KB IB dB G10 G12o G14, k11, b11, m11⟩
  have G7 : Dn l.prog w K mg base 4 "read_word" ["reader", "word"] (spOr (spRead K CR1 CB1) (spRead0 K CR1 CB1)) f7 _ := ⟨fn_or (ok_read (k := 0) F7 TCR TCB n_len G11 G8 G9) (ok_read0 (k := 0) F7 TCR TCB n_len G11o G8o G9), k7, b7, m7⟩
  have HN : Hn K := ⟨hnE, htE⟩
  have eL : EL K LL "LoreError" veT "ValueError.__new__" := ⟨⟨_, _, _, _, _, _, _, _, _, _, _, _, _, lXL⟩⟩
  have eE : EL K LE "NoText" (.ref LL :: veT) "ValueError.__new__" := ⟨⟨_, _, _, _, _, _, _, _, _, _, _, _, _, lXE⟩⟩
  have eB : EL K LB "NoBook" (.ref LL :: veT) "ValueError.__new__" := ⟨⟨_, _, _, _, _, _, _, _, _, _, _, _, _, lXB⟩⟩
  have eN : EL K LN "NoNote" (.ref LL :: veT) "ValueError.__new__" := ⟨⟨_, _, _, _, _, _, _, _, _, _, _, _, _, lXN⟩⟩
  have fE' : EF K LE := ⟨gaE, ggE, haE, saE, kcE⟩
  have TE : ExK K LE := eE.exk fE' eb_ve rfl rfl
  have IE := fun_mk (st := sI2) lmE cmE kmE
  have cE : EC l.prog w K mg base "NoText" ["at"] ["at"] LE gE _ := ⟨TE, eE.xf fE' rfl, eE.exc fE' HN rfl rfl, amE, imE, ok_I2 (k := 0) IE TE noE, IE.binds (ps := ["self", "at"]) fun _ _ _ _ _ _ us hl => (match us, hl with | [_, _], _ => rfl), PySem.W.mg_of X G aXE, fun f hf => by
    simp only [List.mem_cons, List.not_mem_nil, or_false] at hf
    subst hf
    exact noE⟩
  have kno : ∀ {C : Addr} {nm : Str}, EL K C nm (.ref LL :: veT) "ValueError.__new__" → ("NoText" : Str) ≠ nm → ("LoreError" : Str) ≠ nm → PySem.W.kitOne K (.ref LE) (.ref C) = some false := fun {C nm} e h1 h2 => by
    rw [eE.isK e]
    have n1 : (Value.ref C == Value.ref LE) = false := beq_eq_false_iff_ne.mpr fun z => eE.ne e h1 (Value.ref.inj z).symm
    have n2 : (Value.ref C == Value.ref LL) = false := beq_eq_false_iff_ne.mpr fun z => eL.ne e h2 (Value.ref.inj z).symm
    rw [List.contains_cons, List.contains_cons, n1, n2]
    rfl
  have E3 : Er3 l.prog w K mg base LL LE LB LN gE _ := ⟨cE, PySem.W.mg_of X G aXL, PySem.W.mg_of X G aXB, PySem.W.mg_of X G aXN, cE.exm eE, by
      rw [eE.isK eL, List.contains_cons, List.contains_cons, beq_self_eq_true, Bool.true_or, Bool.or_true], by
      unfold PySem.W.kitAny
      rw [kno eB (by decide +kernel) (by decide +kernel)]
      show PySem.W.kitAny K (.ref LE) [.ref LN] = _
      unfold PySem.W.kitAny
      rw [kno eN (by decide +kernel) (by decide +kernel)]
      rfl⟩
  have R6 : FnOk l.prog w K mg base (L2.CX l.prog w) 5 f6 _ ["text"] (spRx2 K LE) := ok_rx2 (k := 0) F6 TCR n_enumerate n_len KR IR dR G7 cE
  have G17 : Dn l.prog w K mg base 2 "_law_pick" ["_law_box_here", "_law_items"] spPick f17 _ := ⟨ok_pick (k := 0) F17 n_len Tt, k17, b17, m17⟩
  have G18 : Dn l.prog w K mg base 1 "_law_forms" ["_law_sort"] spForms f18 _ := ⟨ok_forms (k := 0) F18 n_dict n_list, k18, b18, m18⟩
  have G19 : Dn l.prog w K mg base 3 "_law_word" ["_law_box_here"] spWord f19 _ := ⟨ok_word (k := 0) F19 n_range Tt G17, k19, b19, m19⟩
  have G20 : Dn l.prog w K mg base 4 "_law_thing" ["_law_box_here", "_law_slot"] spThing f20 _ := ⟨ok_thing (k := 0) F20 Tt G17 G19, k20, b20, m20⟩
  have V : ∀ n : Nat, FnOk l.prog w K mg base CX0 (n + 4) f21 _ ["_law_box_here", "_law_sort", "_law_deep", "_law_room"] (spTree K n) := fun n => by
    induction n with
    | zero =>
      have no : ∀ vs H Q E, ¬ spTree K 0 vs H Q E := fun vs H Q E h => by
        obtain ⟨p, g, wd, e, w0, s, _, _, _, _, h1, h2, _⟩ := h
        omega
      exact ⟨fun vs H Q E h => absurd h (no vs H Q E), fun A outer s H args us vs Q E _ _ _ _ h => absurd h (no vs H Q E)⟩
    | succ n ih => exact ok_tree (k := n) F21 n_list n_tuple n_range Tt G18 G17 G20 ih b21 m21
  have G21 : Dn l.prog w K mg base 13 "_law_tree" ["_law_box_here", "_law_sort", "_law_deep", "_law_room"] (spTree K 9) f21 _ := ⟨V 9, k21, b21, m21⟩
  have G22 : Dn l.prog w K mg base 1 "_law_is_name" ["_law_word_here"] spNameL f22 _ := ⟨ok_lname (k := 0) F22 n_len, k22, b22, m22⟩
  have G23 : Dn l.prog w K mg base 1 "_law_is_integer" ["_law_word_here"] spNumL f23 _ := ⟨ok_lint (k := 0) F23 n_len, k23, b23, m23⟩
  have G24 : Dn l.prog w K mg base 2 "_law_is_fit" ["_law_mark", "_law_word_here"] spFit f24 _ := ⟨ok_lfit (k := 0) F24 G22 G23, k24, b24, m24⟩
  have G25 : Dn l.prog w K mg base 2 "_law_step" ["_law_due", "_law_word_here"] spStep f25 _ := ⟨ok_lstep (k := 0) F25 n_int n_list G18, k25, b25, m25⟩
  have G26 : Dn l.prog w K mg base 3 "_law_first_wrong" ["_law_text"] spFirst f26 _ := ⟨ok_lfirst (k := 0) F26 n_enumerate n_len G18 G24 G25, k26, b26, m26⟩
  have G27 : Dn l.prog w K mg base 6 "_law_told" ["_law_text"] (spTold K) f27 _ := ⟨ok_ltold (k := 0) F27 n_isinstance E3 G4 R6 k6 b6 m6, k27, b27, m27⟩
  have G29 : Dn l.prog w K mg base 3 "_law_due_next" ["_law_words"] spDue f29 _ := ⟨ok_ldue (k := 0) F29 G25, k29, b29, m29⟩
  have G30 : Dn l.prog w K mg base 4 "_law_ended" ["_law_words"] spEnded f30 _ := ⟨ok_lended (k := 0) F30 n_list G29 G25, k30, b30, m30⟩
  have G31 : Dn l.prog w K mg base 3 "_law_word_for" ["_law_box_here", "_law_due", "_law_deep"] spWordFor f31 _ := ⟨ok_lfor (k := 0) F31 n_list Tt G17 G18, k31, b31, m31⟩
  have G32 : Dn l.prog w K mg base 4 "_law_made" ["_law_box_here", "_law_deep"] spMade f32 _ := ⟨ok_lmade (k := 0) F32 n_range n_len Tt G29 G26 G31, k32, b32, m32⟩
  have G33 : Dn l.prog w K mg base 3 "_law_nested" ["_law_box_here"] spNest f33 _ := ⟨ok_lnest (k := 0) F33 n_range n_int Tt G17, k33, b33, m33⟩
  have GR := ok_lright (P := l.prog) (w := w) (base := base) (k := 5) F28 n_repr G26 G27
  have GA := ok_lall (n := 11) F34 G26 G30 G27 GR k28 b28 m28 (by decide)
  exact ok_law (n := 11) F35 n_range n_repr ⟨ok_box (k := 0) F15 n_abs, k15, b15, m15⟩ Tt G21 G4 G32 G33 GA k34 b34 m34 (by decide)
end Rl
open PySem PySem.W PyProof.Rows in
set_option maxRecDepth 100000 in
set_option maxHeartbeats 0 in
theorem PySem.Challenge.cw_runlore_k14_whole_one_text_for_each_expr_holds : PySem.Challenge.rw_runlore_k14_whole_one_text_for_each_expr.Holds := by
  w_on; o_law; k_head; (case hw => w_witness2)
  k_fill
  refine Rl.walkG (l := PySem.Challenge.rw_runlore_k14_whole_one_text_for_each_expr) (n := 63) (k := 14) (x := "_law_script") (sp := Rl.spLaw) rfl (by decide) rfl ⟨rfl, by decide, by decide⟩ (fun w h Y => PySem.W.kIn_of Y) ?F (fun K H a ns hl _ hS => ⟨a, ns, rfl, hS, hl, fun _ => rfl⟩)
  case F =>
    intro w mg fa h KX G hmg
    refine' Rl.all_mk KX G hmg ?aaE ?llE ?kkE ?ooE ?aaT ?llT ?kkT ?ooT ?gE0 ?hE0 ?gE1 ?hE1 ?gE2 ?hE2 ?gE3 ?hE3 ?gE4 ?hE4 ?gE5 ?hE5 ?gE6 ?hE6 ?gE7 ?hE7 ?gE8 ?hE8 ?gE9 ?hE9 ?gE10 ?hE10 ?gE11 ?hE11 ?gE12 ?hE12 ?gE13 ?hE13 ?gE14 ?hE14 ?gE15 ?hE15 ?gT0 ?hT0 ?gT1 ?hT1 ?gT2 ?hT2 ?gT3 ?hT3 ?gT4 ?hT4 ?gT5 ?hT5 ?gT6 ?hT6 ?w0 ?w1 ?w2 ?w3 ?w4 ?w5 ?w6 ?w7 ?w8 ?w9 ?w10 ?w11 ?w12 ?w13 ?w14 ?w15 ?aB ?aR ?aMB ?aMD ?pgB ?hdB ?poB ?saB ?mkB ?kcB ?noB_wanted ?noB_head ?noB_sorts ?noB_found ?amB ?imB ?lmB ?cmB ?kmB ?pgR ?hdR ?poR ?saR ?mkR ?kcR ?noR_brackets ?noR_tree ?amR ?imR ?lmR ?cmR ?kmR ?aXL ?lXL ?aXE ?lXE ?aXB ?lXB ?aXN ?lXN ?gaE ?ggE ?haE ?saE ?kcE ?amE ?imE ?lmE ?cmE ?kmE ?noE ?hnE ?htE ?ksE ?ksT ?a1 ?l1 ?c1 ?k1 ?a2 ?l2 ?c2 ?k2 ?a3 ?l3 ?c3 ?k3 ?a4 ?l4 ?c4 ?k4 ?a5 ?l5 ?c5 ?k5 ?a6 ?l6 ?c6 ?k6 ?a7 ?l7 ?c7 ?k7 ?a8 ?l8 ?c8 ?k8 ?a9 ?l9 ?c9 ?k9 ?a10 ?l10 ?c10 ?k10 ?a11 ?l11 ?c11 ?k11 ?a12 ?l12 ?c12 ?k12 ?a13 ?l13 ?c13 ?k13 ?a14 ?l14 ?c14 ?k14 ?a15 ?l15 ?c15 ?k15 ?a16 ?l16 ?c16 ?k16 ?a17 ?l17 ?c17 ?k17 ?a18 ?l18 ?c18 ?k18 ?a19 ?l19 ?c19 ?k19 ?a20 ?l20 ?c20 ?k20 ?a21 ?l21 ?c21 ?k21 ?a22 ?l22 ?c22 ?k22 ?a23 ?l23 ?c23 ?k23 ?a24 ?l24 ?c24 ?k24 ?a25 ?l25 ?c25 ?k25 ?a26 ?l26 ?c26 ?k26 ?a27 ?l27 ?c27 ?k27 ?a28 ?l28 ?c28 ?k28 ?a29 ?l29 ?c29 ?k29 ?a30 ?l30 ?c30 ?k30 ?a31 ?l31 ?c31 ?k31 ?a32 ?l32 ?c32 ?k32 ?a33 ?l33 ?c33 ?k33 ?a34 ?l34 ?c34 ?k34 ?a35 ?l35 ?c35 ?k35 ?z1 ?z2 ?z3 ?z4 ?z5 ?z6 ?z7 ?z8 ?z9 ?z10 ?z11 ?z12 ?z13
    (case aaE => k_is)
    (case llE => k_is)
    (case kkE => k_keys)
    (case ooE => decide)
    (case aaT => k_is)
    (case llT => k_is)
    (case kkT => k_keys)
    (case ooT => decide)
    (case gE0 => k_is)
    (case hE0 => k_is)
    (case gE1 => k_is)
    (case hE1 => k_is)
    (case gE2 => k_is)
    (case hE2 => k_is)
    (case gE3 => k_is)
    (case hE3 => k_is)
    (case gE4 => k_is)
    (case hE4 => k_is)
    (case gE5 => k_is)
    (case hE5 => k_is)
    (case gE6 => k_is)
    (case hE6 => k_is)
    (case gE7 => k_is)
    (case hE7 => k_is)
    (case gE8 => k_is)
    (case hE8 => k_is)
    (case gE9 => k_is)
    (case hE9 => k_is)
    (case gE10 => k_is)
    (case hE10 => k_is)
    (case gE11 => k_is)
    (case hE11 => k_is)
    (case gE12 => k_is)
    (case hE12 => k_is)
    (case gE13 => k_is)
    (case hE13 => k_is)
    (case gE14 => k_is)
    (case hE14 => k_is)
    (case gE15 => k_is)
    (case hE15 => k_is)
    (case gT0 => k_is)
    (case hT0 => k_is)
    (case gT1 => k_is)
    (case hT1 => k_is)
    (case gT2 => k_is)
    (case hT2 => k_is)
    (case gT3 => k_is)
    (case hT3 => k_is)
    (case gT4 => k_is)
    (case hT4 => k_is)
    (case gT5 => k_is)
    (case hT5 => k_is)
    (case gT6 => k_is)
    (case hT6 => k_is)
    (case w0 => k_is)
    (case w1 => k_is)
    (case w2 => k_is)
    (case w3 => k_is)
    (case w4 => k_is)
    (case w5 => k_is)
    (case w6 => k_is)
    (case w7 => k_is)
    (case w8 => k_is)
    (case w9 => k_is)
    (case w10 => k_is)
    (case w11 => k_is)
    (case w12 => k_is)
    (case w13 => k_is)
    (case w14 => k_is)
    (case w15 => k_is)
    (case aB => k_is)
    (case aR => k_is)
    (case aMB => k_is)
    (case aMD => k_is)
    (case pgB => k_is)
    (case hdB => k_is)
    (case poB => k_is)
    (case saB => k_is)
    (case mkB => k_is)
    (case kcB => k_is)
    (case noB_wanted => k_is)
    (case noB_head => k_is)
    (case noB_sorts => k_is)
    (case noB_found => k_is)
    (case amB => k_is)
    (case imB => k_is)
    (case lmB => k_is)
    (case cmB => k_is)
    (case kmB => k_is)
    (case pgR => k_is)
    (case hdR => k_is)
    (case poR => k_is)
    (case saR => k_is)
    (case mkR => k_is)
    (case kcR => k_is)
    (case noR_brackets => k_is)
    (case noR_tree => k_is)
    (case amR => k_is)
    (case imR => k_is)
    (case lmR => k_is)
    (case cmR => k_is)
    (case kmR => k_is)
    (case aXL => k_is)
    (case lXL => k_is)
    (case aXE => k_is)
    (case lXE => k_is)
    (case aXB => k_is)
    (case lXB => k_is)
    (case aXN => k_is)
    (case lXN => k_is)
    (case gaE => k_is)
    (case ggE => k_is)
    (case haE => k_is)
    (case saE => k_is)
    (case kcE => k_is)
    (case amE => k_is)
    (case imE => k_is)
    (case lmE => k_is)
    (case cmE => k_is)
    (case kmE => k_is)
    (case noE => k_is)
    (case hnE => k_is)
    (case htE => k_is)
    (case ksE => rfl)
    (case ksT => rfl)
    (case a1 => k_is)
    (case l1 => k_is)
    (case c1 => k_is)
    (case k1 => k_is)
    (case a2 => k_is)
    (case l2 => k_is)
    (case c2 => k_is)
    (case k2 => k_is)
    (case a3 => k_is)
    (case l3 => k_is)
    (case c3 => k_is)
    (case k3 => k_is)
    (case a4 => k_is)
    (case l4 => k_is)
    (case c4 => k_is)
    (case k4 => k_is)
    (case a5 => k_is)
    (case l5 => k_is)
    (case c5 => k_is)
    (case k5 => k_is)
    (case a6 => k_is)
    (case l6 => k_is)
    (case c6 => k_is)
    (case k6 => k_is)
    (case a7 => k_is)
    (case l7 => k_is)
    (case c7 => k_is)
    (case k7 => k_is)
    (case a8 => k_is)
    (case l8 => k_is)
    (case c8 => k_is)
    (case k8 => k_is)
    (case a9 => k_is)
    (case l9 => k_is)
    (case c9 => k_is)
    (case k9 => k_is)
    (case a10 => k_is)
    (case l10 => k_is)
    (case c10 => k_is)
    (case k10 => k_is)
    (case a11 => k_is)
    (case l11 => k_is)
    (case c11 => k_is)
    (case k11 => k_is)
    (case a12 => k_is)
    (case l12 => k_is)
    (case c12 => k_is)
    (case k12 => k_is)
    (case a13 => k_is)
    (case l13 => k_is)
    (case c13 => k_is)
    (case k13 => k_is)
    (case a14 => k_is)
    (case l14 => k_is)
    (case c14 => k_is)
    (case k14 => k_is)
    (case a15 => k_is)
    (case l15 => k_is)
    (case c15 => k_is)
    (case k15 => k_is)
    (case a16 => k_is)
    (case l16 => k_is)
    (case c16 => k_is)
    (case k16 => k_is)
    (case a17 => k_is)
    (case l17 => k_is)
    (case c17 => k_is)
    (case k17 => k_is)
    (case a18 => k_is)
    (case l18 => k_is)
    (case c18 => k_is)
    (case k18 => k_is)
    (case a19 => k_is)
    (case l19 => k_is)
    (case c19 => k_is)
    (case k19 => k_is)
    (case a20 => k_is)
    (case l20 => k_is)
    (case c20 => k_is)
    (case k20 => k_is)
    (case a21 => k_is)
    (case l21 => k_is)
    (case c21 => k_is)
    (case k21 => k_is)
    (case a22 => k_is)
    (case l22 => k_is)
    (case c22 => k_is)
    (case k22 => k_is)
    (case a23 => k_is)
    (case l23 => k_is)
    (case c23 => k_is)
    (case k23 => k_is)
    (case a24 => k_is)
    (case l24 => k_is)
    (case c24 => k_is)
    (case k24 => k_is)
    (case a25 => k_is)
    (case l25 => k_is)
    (case c25 => k_is)
    (case k25 => k_is)
    (case a26 => k_is)
    (case l26 => k_is)
    (case c26 => k_is)
    (case k26 => k_is)
    (case a27 => k_is)
    (case l27 => k_is)
    (case c27 => k_is)
    (case k27 => k_is)
    (case a28 => k_is)
    (case l28 => k_is)
    (case c28 => k_is)
    (case k28 => k_is)
    (case a29 => k_is)
    (case l29 => k_is)
    (case c29 => k_is)
    (case k29 => k_is)
    (case a30 => k_is)
    (case l30 => k_is)
    (case c30 => k_is)
    (case k30 => k_is)
    (case a31 => k_is)
    (case l31 => k_is)
    (case c31 => k_is)
    (case k31 => k_is)
    (case a32 => k_is)
    (case l32 => k_is)
    (case c32 => k_is)
    (case k32 => k_is)
    (case a33 => k_is)
    (case l33 => k_is)
    (case c33 => k_is)
    (case k33 => k_is)
    (case a34 => k_is)
    (case l34 => k_is)
    (case c34 => k_is)
    (case k34 => k_is)
    (case a35 => k_is)
    (case l35 => k_is)
    (case c35 => k_is)
    (case k35 => k_is)
    (case z1 => k_is)
    (case z2 => k_is)
    (case z3 => k_is)
    (case z4 => k_is)
    (case z5 => k_is)
    (case z6 => k_is)
    (case z7 => k_is)
    (case z8 => k_is)
    (case z9 => k_is)
    (case z10 => k_is)
    (case z11 => k_is)
    (case z12 => k_is)
    (case z13 => k_is)

import PyProof.Rows.All
import Wide.All
import OpenK.AllK
import Wide.FinOn
import KE.KExcSuper
import HandS.ForExc
import HandS.ExcInit
import HandS.ExcSuper
import HandS.Exc
import HandS.ExcField
import HandS.IsInst
import HandS.ExcValue
import KE.KExcIs
import HandS.Comp
import HandS.Iter
import HandS.Lambda
import HandS.EndTab
import PyProof.P3Eq
import PySem.Challenge.RW_stoppoints_k30_errors_told
set_option Elab.async false
set_option linter.all false
set_option maxRecDepth 100000
set_option maxHeartbeats 4000000
/-! An own error below an own error below ValueError, whose __init__ says super().__init__(a text) and keeps its one argument. -/
namespace SupE
open PySem PySem.W PySem.Calls PyProof.Rows PySem.HandSPX
/-! ### its text -/
def args (pn : Str) (p1 p2 : Pos) : Arguments :=
  { posonlyargs := [], args := [{ arg := "self", annotation := none, pos := p1 }, { arg := pn, annotation := none, pos := p2 }], vararg := none, kwonlyargs := [], kw_defaults := [], kwarg := none, defaults := [] }
def body (pn msg : Str) (q1 q2 q3 q4 q5 q6 r1 r2 r3 r4 : Pos) : List Stmt :=
  [.Expr (.Call (.Attribute (.Call (.Name "super" q1) [] [] q2) "__init__" q3) [.Constant (.str msg) 0 q4] [] q5) q6, .Assign [.Attribute (.Name "self" r1) pn r2] (.Name pn r3) r4]
def scope (pn : Str) : Scope :=
  { kind := .function, names := [("self", .local), (pn, .local), ("__class__", .free), ("super", .globalImplicit)], isGenerator := false, isCoroutine := false, more := [] }
/-- what the written part tells of the class at C and of its __init__ at fI -/
structure Txt (P : Program) (K : Frag) (mg : Str → Option Value) (cn pn : Str) (C fI : Addr) : Prop where
  top : (P.main.scope.names.lookup ("super" : Str)).isSome = false
  gC : mg cn = some (.ref C)
  gS : mg "super" = none
  cls : ∃ nm q N bs bm sn sub ab col dd k0 k1 k2 k3 k5, K.lookup C = some (excClassObj nm q C N bs bm true sn sub ab col dd k0 k1 k2 k3 k5 "ValueError.__new__") ∧ refsVE bm = true
  sa : findIn K (.ref C) "__setattr__" = some (some (.builtin "object.__setattr__"))
  ga : findIn K (.ref C) "__getattribute__" = some (some (.builtin "BaseException.__getattribute__"))
  gg : findIn K (.ref C) "__getattr__" = some none
  noN : findIn K (.ref C) pn = some none
  iC : findIn K (.ref C) "__init__" = some (some (.ref fI))
  tC : typeIn K (.ref fI) = some (.type "function")
  kC : keepIn K (.ref C) = true
  exC : subIn K (.ref C) (.type "BaseException") = some true
  veC : subIn K (.ref C) (.type "ValueError") = some true
  tyC : typeIn K (.ref C) = some (.type "type")
  hdC : hasDictIn K C = true
  te : exmOne K (.ref C) (.ref C) = some true
  tp : nsIn K cStatics "thirdparty.any" = some none
  sup : ks_superIn K C C "__init__" = some (some (.builtin "ValueError.__init__"))
  slf : mroIn K C (.ref C) = some true
  fn : ∃ (oc : Value) (od : Option Addr) (doc pm : Value) (an : Option Addr) (cda cc : Addr) (ct : Value) (osl : Array (Option Value)) (msg qn : Str) (p1 p2 q1 q2 q3 q4 q5 q6 r1 r2 r3 r4 : Pos),
    K.lookup fI = some ⟨oc, od, .func (fnX "__init__" qn (args pn p1 p2) (body pn msg q1 q2 q3 q4 q5 q6 r1 r2 r3 r4) (scope pn) [("__class__", cc)] .none .none doc pm an (.ref cda) ct), osl⟩ ∧ codeIn K (.ref cda) qn = true ∧
    (∃ cl cld csl, K.lookup cc = some ⟨cl, cld, .cell (some (.ref C)), csl⟩) ∧
    ∃ (ccl : Value) (cdd : Option Addr) (vs : Array Value) (ccs : Array (Option Value)) (file : Str) (tf : Tok), K.lookup cda = some ⟨ccl, cdd, .fields vs, ccs⟩ ∧ vs[2]? = some (.str file tf) ∧ (P.main.file == file) = true ∧ (q3.endLine == q5.line) = true
/-- what __init__ leaves of a fresh error at x -/
structure Told (h h' : Heap) (x C dx : Addr) (pn : Str) (v : Value) : Prop where
  keep : ∀ b o, b ≠ x → h.get? b = some o → h'.get? b = some o
  obj : ∃ t1, h'.get? x = some { cls := .ref C, dict := some dx, data := .fields #[.ref t1, .none, .none, .none, .bool false, .none] }
  dbig : h.objs.size ≤ dx
  dne : dx ≠ x
  ns : h'.Ns1 dx (fun y => if y = pn then some v else none)
section
variable {prog : Program} {w : World} {A : Around} {E : Value → Shared → Prop} {h : Heap} {g : Array GenState} {d : Drawn} {t : Nat} {os : OsState}
variable {nm q : Str} {C N : Addr} {bs bm : List Value} {hdct : Bool} {sn : List Str} {sub : List Value} {ab : Bool} {col : Option Bool} {dd : Option Addr} {k0 k1 k2 k3 k5 : Option Value}
/-- ValueError.__init__, bound to the error at e, called -/
theorem bound_init {u e t0 : Addr} {rest : List Value} {Q : Value → Shared → Prop}
    (hC : h.get? C = some (excClassObj nm q C N bs bm hdct sn sub ab col dd k0 k1 k2 k3 k5 "ValueError.__new__")) (he : h.get? e = some (excO C t0)) (hu : h.get? u = some (kxs_mw "ValueError.__init__" e)) (hz : rest.length ≤ sizeLine)
    (hq : ∀ h' t1, (∀ b o, b ≠ e → h.get? b = some o → h'.get? b = some o) → h'.get? e = some (excO C t1) → Q .none ⟨h', g, d, t, os⟩) :
    wpAny (model prog w) A (call (.ref u) rest) Q E ⟨h, g, d, t, os⟩ := by
  refine wpAny_call (codeAny_of_tree ?_)
  show wpAny _ A.in1 (callAny (.ref u) ⟨rest, []⟩) _ _ _
  simp only [callAny]
  refine wpAny_bind (wpAny_load hu ?_)
  simp only [kxs_mw, show (Value.type "method-wrapper" == Value.type "method" || Value.type "method-wrapper" == Value.type "builtin_function_or_method" || Value.type "method-wrapper" == Value.type "method-wrapper") = true by decide, if_true]
  refine KFB.if_so (by decide) ?_
  refine wpAny_bind (ESX.check_bound F.excBase_ValueError hC he rfl ?_)
  refine wpAny_bind (wpAny_pure (wpAny_pure ?_))
  refine ⟨Code.quiet_builtin _ (by decide +kernel), codeAny_builtin F.excBase_ValueError.initEntry ?_⟩
  rw [Around.under_plainId F.excBase_ValueError.init.plain _]
  wp_walk
  refine hq _ h.objs.size (fun b o hb ho => ?_) ?_
  · rw [Heap.get?_update_other _ _ (Ne.symm hb)]; exact Heap.get?_push_of_some _ ho
  · rw [Heap.get?_update_self _ (Heap.get?_push_of_some _ he) rfl]; rfl
end
end SupE

set_option maxHeartbeats 4000000
namespace SupE
open PySem PySem.W PySem.Calls PyProof.Rows PySem.HandSPX
section
variable {prog : Program} {w : World} {A : Around} {R : Result → Shared → Prop} {s : Shared} {K : Frag} {mg mb : Str → Option Value} {cn : Str} {C fI : Addr}

theorem init_run (T : Txt prog K mg cn "value" C fI) {x t0 : Addr} {v : Value} (X : K.In s.heap) (hg : s.heap.Ns mainGlobals mg) (hb : s.heap.Ns builtinsNs mb) (hbb : mb "super" = some (.type "super"))
    (hlim : s.heap.NoLimit) (hx : s.heap.get? x = some (excO C t0)) (hnx : K.lookup x = none) (hroom : A.depth < recursionLimit)
    (hq : ∀ h' tk dx, Told s.heap h' x C dx "value" v → R (.ok (.ret .none)) { s with heap := h', toks := tk }) :
    codeAny (model prog w) A (.call (.ref fI) ⟨[.ref x, v], []⟩) R s := by
  obtain ⟨oc, od, doc, pm, an, cda, cc, ct, osl, msg, qn, p1, p2, q1, q2, q3, q4, q5, q6, r1, r2, r3, r4, ho, hcd, ⟨cl, cld, csl, hcell⟩, ccl, cdd, vs, ccs, file, tf, hcode, hvs, hfile, hL⟩ := T.fn
  obtain ⟨nm, qq, N, bs, bm, sn, sub, ab, col, dd, k0, k1, k2, k3, k5, hC, hbm⟩ := T.cls
  have hcl : clsIn K C = some { name := nm, bases := bs, mro := .ref C :: bm, ns := N, qualname := qq, hasDict := true, slotNames := sn, subclasses := sub, abstract := ab, collection := col, hasDel := false } := by unfold clsIn; rw [hC] <;> rfl
  refine ks_codeAny_call_defAt (fd := fnX "__init__" qn (args "value" p1 p2) (body "value" msg q1 q2 q3 q4 q5 q6 r1 r2 r3 r4) (scope "value") [("__class__", cc)] .none .none doc pm an (.ref cda) ct) (body := body "value" msg q1 q2 q3 q4 q5 q6 r1 r2 r3 r4) (binds := [("self", .ref x), ("value", v)])
    hroom (X _ _ ho) rfl hlim (codeRec_of X hcd) rfl (BindsTo.of_eq (by first | rfl | with_unfolding_all rfl)) (show ∀ x ∈ (scope "value").names, x.2 ≠ .cell by decide) (by first | decide | (intro y hy; simp at hy; rcases hy with rfl | rfl <;> rfl)) (fun h₁ hn k => ?_) rfl rfl rfl
  have X1 : K.In h₁ := X.keeps k
  have hg1 : h₁.Ns mainGlobals mg := hg.keeps k
  have hb1 : h₁.Ns builtinsNs mb := hb.keeps k
  have hx1 := k _ _ hx
  have hxL : s.heap.objs.size ≠ x := Nat.ne_of_gt (Heap.lt_size hx)
  -- super().__init__(msg)
  show _root_.PySem.wpAt _ _ _ (execs (body "value" msg q1 q2 q3 q4 q5 q6 r1 r2 r3 r4) _) _ _ _
  generalize henv : callEnv (fnX "__init__" qn (args "value" p1 p2) (body "value" msg q1 q2 q3 q4 q5 q6 r1 r2 r3 r4) (scope "value") [("__class__", cc)] .none .none doc pm an (.ref cda) ct) s.heap.objs.size fI = env
  have he : eval (.Call (.Attribute (.Call (.Name "super" q1) [] [] q2) "__init__" q3) [.Constant (.str msg) 0 q4] [] q5) env = (do
      let ov ← attributeBase (.Call (.Name "super" q1) [] [] q2) "__init__" env (eval (.Call (.Name "super" q1) [] [] q2) env)
      standAt q3.atName
      let (f, first) ← holding [ov] (getMethod ov "__init__" (do return (← importBound (.Call (.Name "super" q1) [] [] q2) env).getD true))
      callWith q5 f first (backTo q5 (starEach [.Constant (.str msg) 0 q4] env)) []) := by
    show (attributeBase _ _ _ _ >>= fun ov => standAt _ >>= fun _ => methodCall _ _ _ _ _ ov _ _ _) = _
    unfold methodCall methodCallPos
    simp only [hL, Bool.or_true, if_true, pure_bind]
    rfl
  refine ks_wpAt_execs_cons (ks_wpAt_Expr_any (ks_wpAt_MethodCall (pl := _) ?_ he) ?_ ?_)
  · subst henv
    refine ks_wpAt_super_base rfl rfl rfl rfl (k _ _ (X _ _ ho)) rfl rfl rfl (k _ _ (X _ _ hcode)) rfl hvs hfile T.top ?_
    refine ks_loadName_global rfl rfl (loadGlobal_builtin (mg := mg) (mb := mb) hg1 T.gS hb1 hbb ⟨rfl, ?_⟩)
    refine wpAny_loadName_free (v := .ref C) rfl rfl rfl ⟨_, X1 _ _ hcell, rfl⟩ ?_
    refine wpAny_loadName_local (v := .ref x) rfl rfl hn rfl ?_
    obtain ⟨hp0, g0, d0, t0', os0⟩ := s
    refine ks_wpAny_isType_cls (X1 _ _ hC) rfl ⟨rfl, ?_⟩
    refine ks_wpAny_call_super (X1 _ _ hC) rfl hx1 rfl (fun c e => by cases e) (looks_mroIn X1 T.slf) (fun h2 e2 k2 => ?_)
    have X2 : K.In h2 := X1.keeps k2
    have hx2 := k2 _ _ hx1
    have hI2 : InstAt h2 x (excO C t0) C none := ⟨hx2, rfl, rfl, trivial⟩
    have hso := T.sup
    unfold ks_superIn at hso
    rw [hcl, Option.bind_some] at hso
    refine kxs_getMethod (D := C) (l := (((Value.ref C :: bm).dropWhile (· != .ref C)).drop 1)) kxs_ValueError e2 (looks_opaque X2 T.tp) (l₀ := .ref C :: bm) ((looks_clsIn X2 hcl).andThen .now) rfl X2 hso (hI2.type.andThen (looks_subIn X2 T.veC)) (ks_ne X2 hI2 hcl) rfl ?_
    refine kxs_callWith (i := "ValueError.__init__") (x := x) rfl ?_
    refine evalArgs_plain (spliced_cons (wpAny_Constant_str (k := 0) (pos := q4) (spliced_nil ⟨Heap.get?_push_size _ rfl, ?_⟩)))
    refine bound_init (Heap.get?_push_of_some _ (X2 _ _ hC)) (Heap.get?_push_of_some _ hx2) (Heap.get?_push_size _ rfl) (by simp [sizeLine_eq]) (fun h3 t3 k3 hx3 => ?_)
    -- self.value = value
    have X3 : K.In h3 := fun b o e => k3 b o (fun z => by rw [z, hnx] at e; cases e) (Heap.get?_push_of_some _ (X2 _ _ e))
    have hn3 : h3.Ns hp0.objs.size (fun y => ([("self", .ref x), ("value", v)] : List (Str × Value)).reverse.lookup y) := by
      obtain ⟨oL, es, ep, hL, r⟩ := hn
      exact ⟨oL, es, ep, k3 _ _ hxL (Heap.get?_push_of_some _ (k2 _ _ hL)), r⟩
    show _root_.PySem.wpAt _ _ _ (execs [.Assign [.Attribute (.Name "self" r1) "value" r2] (.Name "value" r3) r4] _) _ _ _
    refine ks_wpAt_execs_cons (ks_wpAt_Assign_Attr (wpAt_of_wpAny (wpAny_Name (wpAny_loadName_local (v := v) rfl rfl hn3 rfl (wpAny_Name (wpAny_loadName_local (v := .ref x) rfl rfl hn3 rfl ?_) rfl)) rfl)) rfl)
    refine set_plain X3 (ox := excO C t3) (od := none) ⟨hx3, rfl, rfl, trivial⟩ T.sa ?_
    refine exc_osa X3 hx3 hcl (show refsVE (.ref C :: bm) = true from hbm) rfl T.noN (fun h4 tk4 dx k4 dn dne hx4 hn4 => ?_)
    refine wpAt_of_wpAny (wpAny_execs_nil ?_)
    refine hq h4 tk4 dx ⟨fun b o hb e => ?_, ⟨_, hx4⟩, ?_, dne, hn4⟩
    · exact k4 b o hb (k3 b o hb (Heap.get?_push_of_some _ (k2 _ _ (k _ _ e))))
    · obtain ⟨oL, es, ep, hL, r⟩ := hn3
      exact Nat.le_of_lt (Nat.lt_of_lt_of_le (Heap.lt_size hL) dn)
  · subst henv; rfl
  · subst henv; rfl
end
end SupE

set_option maxHeartbeats 4000000
namespace SupE
open PySem PySem.W PySem.Calls PyProof.Rows PySem.HandSPX
/-- a made error -/
structure Made (h h' : Heap) (e C d : Addr) (pn : Str) (v : Value) : Prop where
  keep : ∀ b o, h.get? b = some o → h'.get? b = some o
  new : h.objs.size ≤ e
  obj : ∃ oe vs, h'.get? e = some oe ∧ oe.cls = .ref C ∧ oe.dict = some d ∧ oe.data = .fields vs ∧ vs[1]? = some .none
  dbig : h.objs.size ≤ d
  dne : d ≠ e
  ns : h'.Ns1 d (fun y => if y = pn then some v else none)
section
variable {prog : Program} {w : World} {A : Around} {R : Result → Shared → Prop} {s : Shared} {K : Frag} {mg mb : Str → Option Value} {cn : Str} {C fI : Addr}
theorem single (v : Value) : [v].length ≤ sizeLine := by rw [sizeLine_eq]; exact (by decide : 1 ≤ 16777216)
theorem made (T : Txt prog K mg cn "value" C fI) {v : Value} (X : K.In s.heap) (hg : s.heap.Ns mainGlobals mg) (hb : s.heap.Ns builtinsNs mb) (hbb : mb "super" = some (.type "super")) (hlim : s.heap.NoLimit) (hroom : A.depth + 1 < recursionLimit)
    (hq : ∀ h' tk e d, Made s.heap h' e C d "value" v → R (.ok (.ret (.ref e))) { s with heap := h', toks := tk }) :
    codeAny (model prog w) A (.call (.ref C) ⟨[v], []⟩) R s := by
  obtain ⟨nm, q, N, bs, bm, sn, sub, ab, col, dd, k0, k1, k2, k3, k5, hC, hbm⟩ := T.cls
  obtain ⟨hp, g, dr, tk, os⟩ := s
  have k : ∀ b o, hp.get? b = some o → ((hp.push (kdv_tup [v])).push (excO C hp.objs.size)).get? b = some o := fun b o e => Heap.get?_push_of_some _ (Heap.get?_push_of_some _ e)
  have hget : ((hp.push (kdv_tup [v])).push (excO C hp.objs.size)).get? (hp.objs.size + 1) = some (excO C hp.objs.size) := by heap_get
  have hnx : K.lookup (hp.objs.size + 1) = none := by
    cases e : K.lookup (hp.objs.size + 1) with
    | none => rfl
    | some o => exact absurd (Nat.lt_of_succ_lt (Heap.lt_size (X _ _ e))) (Nat.lt_irrefl _)
  refine call_own F.excBase_ValueError (fun X => refsVE_contains X bm hbm) (X _ _ hC) (looks_findIn X T.iC) (fun self => bind_fn X self T.tC) (single v) ?_
  refine init_run (s := ⟨(hp.push (kdv_tup [v])).push (excO C hp.objs.size), g, dr, tk, os⟩) T (X.keeps k) (hg.keeps k) (hb.keeps k) hbb (hlim.keeps k) hget hnx hroom fun h' tk' dx ⟨k', ⟨t1, hx⟩, dn, dne, hns⟩ => ?_
  have old : ∀ b o, hp.get? b = some o → h'.get? b = some o := fun b o e => k' b o (Nat.ne_of_lt (Nat.lt_succ_of_lt (Heap.lt_size e))) (k b o e)
  have z : hp.objs.size + 1 + 1 ≤ dx := by
    have q := dn
    first | (simpa only [Heap.size_push] using q) | exact q | (rw [Heap.size_push, Heap.size_push] at q; exact q)
  exact ⟨rfl, hq h' tk' (hp.objs.size + 1) dx ⟨old, Nat.le_succ _, ⟨_, _, hx, rfl, rfl, rfl, rfl⟩, Nat.le_trans (Nat.le_trans (Nat.le_succ _) (Nat.le_succ _)) z, dne, hns⟩⟩
end
end SupE

set_option maxHeartbeats 4000000
namespace SupE
open PySem PySem.Spec PyProof.Rows L2
theorem relO_own {pn : Str} {v : V} {v' : Value} (r : RelV v v') (f : Str) : RelO (List.lookup f [(pn, v)]) (if f = pn then some v' else none) := by
  by_cases hw : f = pn
  · subst hw
    rw [if_pos rfl, show List.lookup f [(f, v)] = some v by simp [List.lookup]]
    exact r
  · have q : (f == pn) = false := by simpa using hw
    rw [if_neg hw, show List.lookup f [(pn, v)] = none by simp [List.lookup, q]]
    trivial
section
variable {X : Cx} {C fI : Addr} {cn : Str}
/-- X(e) -/
def tMk (C : Addr) (pn : Str) (ta : TA) : L2.St → Hp → XK → Prop := fun σ H Q => ta σ H fun vs H1 => ∃ v, vs = [v] ∧ ∀ d, H1 d = none → Q (.ref C) (some d) (upd H1 d (.xd [(pn, v)]))
theorem pmk_own {a : Expr} {ta : TA} {p pos : Pos} {k : Nat} (T : Txt X.prog X.K X.mg cn "value" C fI) (hr : Room k X.A) (ha : PA X [a] ta) (hg : Gl X cn := by rfl) (hdb : (cn == ("__debug__" : Str)) = false := by decide)
    (he : starEach (a :: []) X.env = (false, eval a X.env) :: starEach [] X.env := by rfl) (hpl : (backTo pos (starEach [] X.env)).any (·.1) = false := by rfl) :
    PMk X (.Call (.Name cn p) [a] [] pos) (tMk C "value" ta) := by
  intro pins s σ H Q I h
  refine wpAny_Call_Name_kw (ld_glob I hg T.gC ?_ hdb)
  refine PySem.W.callWith_K (h₀ := X.base) I.ok.mod.kin T.kC (thn (ha.run pos pins s σ H _ I h) fun us s1 hh => ?_) he hpl
  obtain ⟨vs, H1, I1, r1, v, ev, q1⟩ := hh
  subst ev
  refine ⟨I1.kIn, ?_⟩
  cases r1 with
  | cons rv rn =>
    rename_i v' us'
    cases rn
    show wpAny _ _ (call (.ref C) [v']) _ _ _
    have hlim := I1.nolimit
    have hgl := I1.mod.glob.keeps I1.bk
    obtain ⟨mb, hb1, hb2⟩ := I1.mod.blt
    have hbl := hb1.keeps I1.bk
    have hsup : mb "super" = some (.type "super") := (hb2 _ (by decide +kernel)).trans (by decide +kernel)
    obtain ⟨hp, g, dr, tk, os⟩ := s1
    refine wpAny_call (made T I1.kIn hgl hbl hsup hlim (by have := hr.dp; omega) fun h' tk' e d M => ?_)
    show MkP X pins σ Q (.ref e) ⟨h', g, dr, tk', os⟩
    obtain ⟨oe, fv, hoe, hc, hd, hdat, h1⟩ := M.obj
    have hns := M.ns
    obtain ⟨G', g1, g2⟩ := restrict h' fun b => decide (b ≠ e)
    have gk : ∀ b, b ≠ e → G'.get? b = h'.get? b := fun b hb => g1 b (decide_eq_true hb)
    have ge : G'.get? e = none := g2 e (by simp)
    have old : ∀ b o, hp.get? b = some o → G'.get? b = some o := fun b o q => (gk b (Nat.ne_of_lt (Nat.lt_of_lt_of_le (Heap.lt_size q) M.new))).trans (M.keep b o q)
    have ob : ObjOk X.prog X.w (upd H1 d (.xd [("value", v)])) G' d (.xd [("value", v)]) := ⟨_, hns.at (fun o q => (gk d M.dne).trans q), fun f => relO_own rv f⟩
    have J : Inv X pins σ (upd H1 d (.xd [("value", v)])) ⟨G', g, dr, tk', os⟩ := I1.laid (t' := tk') old M.dbig ob
    refine ⟨e, oe, fv, ⟨G', g, dr, tk', os⟩, _, .ref C, some d, rfl, J, fun b o q => ?_, ge, hoe, ⟨hc, hd⟩, hdat, h1, ?_, rfl, I1.bare, raises_own T.exC T.tyC, q1 d (I1.hok.fresh M.dbig)⟩
    · by_cases hb : b = e
      · have q' : G'.get? b = some o := q
        rw [hb, ge] at q'; cases q'
      · exact (gk b hb).symm.trans q
    · rw [upd_ne (Ne.symm M.dne)]
      exact I1.hok.fresh M.new
/-- raise X(e) -/
def tRaise (C : Addr) (pn : Str) (W : WX) (ta : TA) : TS := fun _ σ H => tMk C pn ta σ H fun cls d H' => W cls d σ H'
theorem ps_raiseOwn {a : Expr} {ta : TA} {W : WX} {p pos pos2 : Pos} {k : Nat} (hc : X.calm = true) (T : Txt X.prog X.K X.mg cn "value" C fI) (hr : Room k X.A) (tk : Takes X W) (ha : PA X [a] ta) (hg : Gl X cn := by rfl) (hdb : (cn == ("__debug__" : Str)) = false := by decide)
    (he : starEach (a :: []) X.env = (false, eval a X.env) :: starEach [] X.env := by rfl) (hpl : (backTo pos (starEach [] X.env)).any (·.1) = false := by rfl) :
    PS X (.Raise (some (.Call (.Name cn p) [a] [] pos)) none pos2) (tRaise C "value" W ta) := ps_raise hc tk (pmk_own T hr ha hg hdb he hpl)
/-- e.value, e the error that the suite holds (at a; its class cls, its dict d) -/
def tBy (C : Addr) (a : Addr) (cls : Value) (d : Option Addr) (pn : Str) (te : TE) : TE := fun σ H Q => te σ H fun x H1 => x = .ref a ∧ cls = .ref C ∧ ∃ (dd : Addr) (v : V), d = some dd ∧ H1 dd = some (.xd [(pn, v)]) ∧ Q v H1
theorem pe_byOwn {a : Addr} {oe : Obj} {cls : Value} {d : Option Addr} {pn : List (Addr × Obj)} {e : Expr} {te : TE} {pos : Pos} (T : Txt X.prog X.K X.mg cn "value" C fI) (hz : Zc cls d oe) (hf : ∃ vs, oe.data = .fields vs) (he : PE (X.suite a ((a, oe) :: pn)) e te)
    (hb : attributeBase e "value" X.env (eval e X.env) = eval e X.env := by rfl) :
    PE (X.suite a ((a, oe) :: pn)) (.Attribute e "value" pos) (tBy C a cls d "value" te) := by
  refine ⟨fun pins s σ H Q I h => ?_⟩
  refine attr_of hb (thn (he.run pins s σ H _ I h) fun u s1 hh => ?_)
  obtain ⟨x, H1, I1, rx, ex, ec, dd, v, ed, ea, q⟩ := hh
  subst ex
  obtain rfl : u = Value.ref a := rx
  subst ec
  subst ed
  obtain ⟨ha, _⟩ := I1.pin (a, oe) (List.mem_append_left _ List.mem_cons_self)
  obtain ⟨vs, hd⟩ := hf
  have hx : ObjOk X.prog X.w H1 s1.heap dd (.xd [("value", v)]) := I1.hok dd _ ea
  obtain ⟨mA, hns, hr⟩ := hx
  obtain ⟨od, ho, hl⟩ := lookIn_ns hns
  obtain ⟨u, hu, ru⟩ := RelO.some_of (v := v) (o := mA "value") (by rw [← show List.lookup ("value" : Str) [(("value" : Str), v)] = some v by simp [List.lookup]]; exact hr "value")
  have J : PySem.W.InstAt s1.heap a oe C (some od) := ⟨ha, hz.1, by unfold PySem.W.notCls; rw [hd] <;> rfl, by rw [hz.2]; exact ho⟩
  exact HandSPX.exc_get I1.kIn J T.ga T.gg T.exC (PySem.W.findObj_own T.hdC T.noN rfl (by rw [hl, hu])) (handed_of ru) ⟨v, H1, I1.tok _, ru, q⟩
end
end SupE

set_option maxHeartbeats 4000000
namespace SupE
open PySem PySem.W PySem.Calls PyProof.Rows PySem.HandSPX
section
variable {prog : Program} {w : World} {A : Around} {R : Result → Shared → Prop} {s : Shared} {K : Frag} {mg mb : Str → Option Value} {cn : Str} {C fI : Addr}

theorem init_run_text (T : Txt prog K mg cn "text" C fI) {x t0 : Addr} {v : Value} (X : K.In s.heap) (hg : s.heap.Ns mainGlobals mg) (hb : s.heap.Ns builtinsNs mb) (hbb : mb "super" = some (.type "super"))
    (hlim : s.heap.NoLimit) (hx : s.heap.get? x = some (excO C t0)) (hnx : K.lookup x = none) (hroom : A.depth < recursionLimit)
    (hq : ∀ h' tk dx, Told s.heap h' x C dx "text" v → R (.ok (.ret .none)) { s with heap := h', toks := tk }) :
    codeAny (model prog w) A (.call (.ref fI) ⟨[.ref x, v], []⟩) R s := by
  obtain ⟨oc, od, doc, pm, an, cda, cc, ct, osl, msg, qn, p1, p2, q1, q2, q3, q4, q5, q6, r1, r2, r3, r4, ho, hcd, ⟨cl, cld, csl, hcell⟩, ccl, cdd, vs, ccs, file, tf, hcode, hvs, hfile, hL⟩ := T.fn
  obtain ⟨nm, qq, N, bs, bm, sn, sub, ab, col, dd, k0, k1, k2, k3, k5, hC, hbm⟩ := T.cls
  have hcl : clsIn K C = some { name := nm, bases := bs, mro := .ref C :: bm, ns := N, qualname := qq, hasDict := true, slotNames := sn, subclasses := sub, abstract := ab, collection := col, hasDel := false } := by unfold clsIn; rw [hC] <;> rfl
  refine ks_codeAny_call_defAt (fd := fnX "__init__" qn (args "text" p1 p2) (body "text" msg q1 q2 q3 q4 q5 q6 r1 r2 r3 r4) (scope "text") [("__class__", cc)] .none .none doc pm an (.ref cda) ct) (body := body "text" msg q1 q2 q3 q4 q5 q6 r1 r2 r3 r4) (binds := [("self", .ref x), ("text", v)])
    hroom (X _ _ ho) rfl hlim (codeRec_of X hcd) rfl (BindsTo.of_eq (by first | rfl | with_unfolding_all rfl)) (show ∀ x ∈ (scope "text").names, x.2 ≠ .cell by decide) (by first | decide | (intro y hy; simp at hy; rcases hy with rfl | rfl <;> rfl)) (fun h₁ hn k => ?_) rfl rfl rfl
  have X1 : K.In h₁ := X.keeps k
  have hg1 : h₁.Ns mainGlobals mg := hg.keeps k
  have hb1 : h₁.Ns builtinsNs mb := hb.keeps k
  have hx1 := k _ _ hx
  have hxL : s.heap.objs.size ≠ x := Nat.ne_of_gt (Heap.lt_size hx)
  -- super().__init__(msg)
  show _root_.PySem.wpAt _ _ _ (execs (body "text" msg q1 q2 q3 q4 q5 q6 r1 r2 r3 r4) _) _ _ _
  generalize henv : callEnv (fnX "__init__" qn (args "text" p1 p2) (body "text" msg q1 q2 q3 q4 q5 q6 r1 r2 r3 r4) (scope "text") [("__class__", cc)] .none .none doc pm an (.ref cda) ct) s.heap.objs.size fI = env
  have he : eval (.Call (.Attribute (.Call (.Name "super" q1) [] [] q2) "__init__" q3) [.Constant (.str msg) 0 q4] [] q5) env = (do
      let ov ← attributeBase (.Call (.Name "super" q1) [] [] q2) "__init__" env (eval (.Call (.Name "super" q1) [] [] q2) env)
      standAt q3.atName
      let (f, first) ← holding [ov] (getMethod ov "__init__" (do return (← importBound (.Call (.Name "super" q1) [] [] q2) env).getD true))
      callWith q5 f first (backTo q5 (starEach [.Constant (.str msg) 0 q4] env)) []) := by
    show (attributeBase _ _ _ _ >>= fun ov => standAt _ >>= fun _ => methodCall _ _ _ _ _ ov _ _ _) = _
    unfold methodCall methodCallPos
    simp only [hL, Bool.or_true, if_true, pure_bind]
    rfl
  refine ks_wpAt_execs_cons (ks_wpAt_Expr_any (ks_wpAt_MethodCall (pl := _) ?_ he) ?_ ?_)
  · subst henv
    refine ks_wpAt_super_base rfl rfl rfl rfl (k _ _ (X _ _ ho)) rfl rfl rfl (k _ _ (X _ _ hcode)) rfl hvs hfile T.top ?_
    refine ks_loadName_global rfl rfl (loadGlobal_builtin (mg := mg) (mb := mb) hg1 T.gS hb1 hbb ⟨rfl, ?_⟩)
    refine wpAny_loadName_free (v := .ref C) rfl rfl rfl ⟨_, X1 _ _ hcell, rfl⟩ ?_
    refine wpAny_loadName_local (v := .ref x) rfl rfl hn rfl ?_
    obtain ⟨hp0, g0, d0, t0', os0⟩ := s
    refine ks_wpAny_isType_cls (X1 _ _ hC) rfl ⟨rfl, ?_⟩
    refine ks_wpAny_call_super (X1 _ _ hC) rfl hx1 rfl (fun c e => by cases e) (looks_mroIn X1 T.slf) (fun h2 e2 k2 => ?_)
    have X2 : K.In h2 := X1.keeps k2
    have hx2 := k2 _ _ hx1
    have hI2 : InstAt h2 x (excO C t0) C none := ⟨hx2, rfl, rfl, trivial⟩
    have hso := T.sup
    unfold ks_superIn at hso
    rw [hcl, Option.bind_some] at hso
    refine kxs_getMethod (D := C) (l := (((Value.ref C :: bm).dropWhile (· != .ref C)).drop 1)) kxs_ValueError e2 (looks_opaque X2 T.tp) (l₀ := .ref C :: bm) ((looks_clsIn X2 hcl).andThen .now) rfl X2 hso (hI2.type.andThen (looks_subIn X2 T.veC)) (ks_ne X2 hI2 hcl) rfl ?_
    refine kxs_callWith (i := "ValueError.__init__") (x := x) rfl ?_
    refine evalArgs_plain (spliced_cons (wpAny_Constant_str (k := 0) (pos := q4) (spliced_nil ⟨Heap.get?_push_size _ rfl, ?_⟩)))
    refine bound_init (Heap.get?_push_of_some _ (X2 _ _ hC)) (Heap.get?_push_of_some _ hx2) (Heap.get?_push_size _ rfl) (by simp [sizeLine_eq]) (fun h3 t3 k3 hx3 => ?_)
    -- self.value = value
    have X3 : K.In h3 := fun b o e => k3 b o (fun z => by rw [z, hnx] at e; cases e) (Heap.get?_push_of_some _ (X2 _ _ e))
    have hn3 : h3.Ns hp0.objs.size (fun y => ([("self", .ref x), ("text", v)] : List (Str × Value)).reverse.lookup y) := by
      obtain ⟨oL, es, ep, hL, r⟩ := hn
      exact ⟨oL, es, ep, k3 _ _ hxL (Heap.get?_push_of_some _ (k2 _ _ hL)), r⟩
    show _root_.PySem.wpAt _ _ _ (execs [.Assign [.Attribute (.Name "self" r1) "text" r2] (.Name "text" r3) r4] _) _ _ _
    refine ks_wpAt_execs_cons (ks_wpAt_Assign_Attr (wpAt_of_wpAny (wpAny_Name (wpAny_loadName_local (v := v) rfl rfl hn3 rfl (wpAny_Name (wpAny_loadName_local (v := .ref x) rfl rfl hn3 rfl ?_) rfl)) rfl)) rfl)
    refine set_plain X3 (ox := excO C t3) (od := none) ⟨hx3, rfl, rfl, trivial⟩ T.sa ?_
    refine exc_osa X3 hx3 hcl (show refsVE (.ref C :: bm) = true from hbm) rfl T.noN (fun h4 tk4 dx k4 dn dne hx4 hn4 => ?_)
    refine wpAt_of_wpAny (wpAny_execs_nil ?_)
    refine hq h4 tk4 dx ⟨fun b o hb e => ?_, ⟨_, hx4⟩, ?_, dne, hn4⟩
    · exact k4 b o hb (k3 b o hb (Heap.get?_push_of_some _ (k2 _ _ (k _ _ e))))
    · obtain ⟨oL, es, ep, hL, r⟩ := hn3
      exact Nat.le_of_lt (Nat.lt_of_lt_of_le (Heap.lt_size hL) dn)
  · subst henv; rfl
  · subst henv; rfl
theorem init_run_name (T : Txt prog K mg cn "name" C fI) {x t0 : Addr} {v : Value} (X : K.In s.heap) (hg : s.heap.Ns mainGlobals mg) (hb : s.heap.Ns builtinsNs mb) (hbb : mb "super" = some (.type "super"))
    (hlim : s.heap.NoLimit) (hx : s.heap.get? x = some (excO C t0)) (hnx : K.lookup x = none) (hroom : A.depth < recursionLimit)
    (hq : ∀ h' tk dx, Told s.heap h' x C dx "name" v → R (.ok (.ret .none)) { s with heap := h', toks := tk }) :
    codeAny (model prog w) A (.call (.ref fI) ⟨[.ref x, v], []⟩) R s := by
  obtain ⟨oc, od, doc, pm, an, cda, cc, ct, osl, msg, qn, p1, p2, q1, q2, q3, q4, q5, q6, r1, r2, r3, r4, ho, hcd, ⟨cl, cld, csl, hcell⟩, ccl, cdd, vs, ccs, file, tf, hcode, hvs, hfile, hL⟩ := T.fn
  obtain ⟨nm, qq, N, bs, bm, sn, sub, ab, col, dd, k0, k1, k2, k3, k5, hC, hbm⟩ := T.cls
  have hcl : clsIn K C = some { name := nm, bases := bs, mro := .ref C :: bm, ns := N, qualname := qq, hasDict := true, slotNames := sn, subclasses := sub, abstract := ab, collection := col, hasDel := false } := by unfold clsIn; rw [hC] <;> rfl
  refine ks_codeAny_call_defAt (fd := fnX "__init__" qn (args "name" p1 p2) (body "name" msg q1 q2 q3 q4 q5 q6 r1 r2 r3 r4) (scope "name") [("__class__", cc)] .none .none doc pm an (.ref cda) ct) (body := body "name" msg q1 q2 q3 q4 q5 q6 r1 r2 r3 r4) (binds := [("self", .ref x), ("name", v)])
    hroom (X _ _ ho) rfl hlim (codeRec_of X hcd) rfl (BindsTo.of_eq (by first | rfl | with_unfolding_all rfl)) (show ∀ x ∈ (scope "name").names, x.2 ≠ .cell by decide) (by first | decide | (intro y hy; simp at hy; rcases hy with rfl | rfl <;> rfl)) (fun h₁ hn k => ?_) rfl rfl rfl
  have X1 : K.In h₁ := X.keeps k
  have hg1 : h₁.Ns mainGlobals mg := hg.keeps k
  have hb1 : h₁.Ns builtinsNs mb := hb.keeps k
  have hx1 := k _ _ hx
  have hxL : s.heap.objs.size ≠ x := Nat.ne_of_gt (Heap.lt_size hx)
  -- super().__init__(msg)
  show _root_.PySem.wpAt _ _ _ (execs (body "name" msg q1 q2 q3 q4 q5 q6 r1 r2 r3 r4) _) _ _ _
  generalize henv : callEnv (fnX "__init__" qn (args "name" p1 p2) (body "name" msg q1 q2 q3 q4 q5 q6 r1 r2 r3 r4) (scope "name") [("__class__", cc)] .none .none doc pm an (.ref cda) ct) s.heap.objs.size fI = env
  have he : eval (.Call (.Attribute (.Call (.Name "super" q1) [] [] q2) "__init__" q3) [.Constant (.str msg) 0 q4] [] q5) env = (do
      let ov ← attributeBase (.Call (.Name "super" q1) [] [] q2) "__init__" env (eval (.Call (.Name "super" q1) [] [] q2) env)
      standAt q3.atName
      let (f, first) ← holding [ov] (getMethod ov "__init__" (do return (← importBound (.Call (.Name "super" q1) [] [] q2) env).getD true))
      callWith q5 f first (backTo q5 (starEach [.Constant (.str msg) 0 q4] env)) []) := by
    show (attributeBase _ _ _ _ >>= fun ov => standAt _ >>= fun _ => methodCall _ _ _ _ _ ov _ _ _) = _
    unfold methodCall methodCallPos
    simp only [hL, Bool.or_true, if_true, pure_bind]
    rfl
  refine ks_wpAt_execs_cons (ks_wpAt_Expr_any (ks_wpAt_MethodCall (pl := _) ?_ he) ?_ ?_)
  · subst henv
    refine ks_wpAt_super_base rfl rfl rfl rfl (k _ _ (X _ _ ho)) rfl rfl rfl (k _ _ (X _ _ hcode)) rfl hvs hfile T.top ?_
    refine ks_loadName_global rfl rfl (loadGlobal_builtin (mg := mg) (mb := mb) hg1 T.gS hb1 hbb ⟨rfl, ?_⟩)
    refine wpAny_loadName_free (v := .ref C) rfl rfl rfl ⟨_, X1 _ _ hcell, rfl⟩ ?_
    refine wpAny_loadName_local (v := .ref x) rfl rfl hn rfl ?_
    obtain ⟨hp0, g0, d0, t0', os0⟩ := s
    refine ks_wpAny_isType_cls (X1 _ _ hC) rfl ⟨rfl, ?_⟩
    refine ks_wpAny_call_super (X1 _ _ hC) rfl hx1 rfl (fun c e => by cases e) (looks_mroIn X1 T.slf) (fun h2 e2 k2 => ?_)
    have X2 : K.In h2 := X1.keeps k2
    have hx2 := k2 _ _ hx1
    have hI2 : InstAt h2 x (excO C t0) C none := ⟨hx2, rfl, rfl, trivial⟩
    have hso := T.sup
    unfold ks_superIn at hso
    rw [hcl, Option.bind_some] at hso
    refine kxs_getMethod (D := C) (l := (((Value.ref C :: bm).dropWhile (· != .ref C)).drop 1)) kxs_ValueError e2 (looks_opaque X2 T.tp) (l₀ := .ref C :: bm) ((looks_clsIn X2 hcl).andThen .now) rfl X2 hso (hI2.type.andThen (looks_subIn X2 T.veC)) (ks_ne X2 hI2 hcl) rfl ?_
    refine kxs_callWith (i := "ValueError.__init__") (x := x) rfl ?_
    refine evalArgs_plain (spliced_cons (wpAny_Constant_str (k := 0) (pos := q4) (spliced_nil ⟨Heap.get?_push_size _ rfl, ?_⟩)))
    refine bound_init (Heap.get?_push_of_some _ (X2 _ _ hC)) (Heap.get?_push_of_some _ hx2) (Heap.get?_push_size _ rfl) (by simp [sizeLine_eq]) (fun h3 t3 k3 hx3 => ?_)
    -- self.value = value
    have X3 : K.In h3 := fun b o e => k3 b o (fun z => by rw [z, hnx] at e; cases e) (Heap.get?_push_of_some _ (X2 _ _ e))
    have hn3 : h3.Ns hp0.objs.size (fun y => ([("self", .ref x), ("name", v)] : List (Str × Value)).reverse.lookup y) := by
      obtain ⟨oL, es, ep, hL, r⟩ := hn
      exact ⟨oL, es, ep, k3 _ _ hxL (Heap.get?_push_of_some _ (k2 _ _ hL)), r⟩
    show _root_.PySem.wpAt _ _ _ (execs [.Assign [.Attribute (.Name "self" r1) "name" r2] (.Name "name" r3) r4] _) _ _ _
    refine ks_wpAt_execs_cons (ks_wpAt_Assign_Attr (wpAt_of_wpAny (wpAny_Name (wpAny_loadName_local (v := v) rfl rfl hn3 rfl (wpAny_Name (wpAny_loadName_local (v := .ref x) rfl rfl hn3 rfl ?_) rfl)) rfl)) rfl)
    refine set_plain X3 (ox := excO C t3) (od := none) ⟨hx3, rfl, rfl, trivial⟩ T.sa ?_
    refine exc_osa X3 hx3 hcl (show refsVE (.ref C :: bm) = true from hbm) rfl T.noN (fun h4 tk4 dx k4 dn dne hx4 hn4 => ?_)
    refine wpAt_of_wpAny (wpAny_execs_nil ?_)
    refine hq h4 tk4 dx ⟨fun b o hb e => ?_, ⟨_, hx4⟩, ?_, dne, hn4⟩
    · exact k4 b o hb (k3 b o hb (Heap.get?_push_of_some _ (k2 _ _ (k _ _ e))))
    · obtain ⟨oL, es, ep, hL, r⟩ := hn3
      exact Nat.le_of_lt (Nat.lt_of_lt_of_le (Heap.lt_size hL) dn)
  · subst henv; rfl
  · subst henv; rfl
theorem init_run_index (T : Txt prog K mg cn "index" C fI) {x t0 : Addr} {v : Value} (X : K.In s.heap) (hg : s.heap.Ns mainGlobals mg) (hb : s.heap.Ns builtinsNs mb) (hbb : mb "super" = some (.type "super"))
    (hlim : s.heap.NoLimit) (hx : s.heap.get? x = some (excO C t0)) (hnx : K.lookup x = none) (hroom : A.depth < recursionLimit)
    (hq : ∀ h' tk dx, Told s.heap h' x C dx "index" v → R (.ok (.ret .none)) { s with heap := h', toks := tk }) :
    codeAny (model prog w) A (.call (.ref fI) ⟨[.ref x, v], []⟩) R s := by
  obtain ⟨oc, od, doc, pm, an, cda, cc, ct, osl, msg, qn, p1, p2, q1, q2, q3, q4, q5, q6, r1, r2, r3, r4, ho, hcd, ⟨cl, cld, csl, hcell⟩, ccl, cdd, vs, ccs, file, tf, hcode, hvs, hfile, hL⟩ := T.fn
  obtain ⟨nm, qq, N, bs, bm, sn, sub, ab, col, dd, k0, k1, k2, k3, k5, hC, hbm⟩ := T.cls
  have hcl : clsIn K C = some { name := nm, bases := bs, mro := .ref C :: bm, ns := N, qualname := qq, hasDict := true, slotNames := sn, subclasses := sub, abstract := ab, collection := col, hasDel := false } := by unfold clsIn; rw [hC] <;> rfl
  refine ks_codeAny_call_defAt (fd := fnX "__init__" qn (args "index" p1 p2) (body "index" msg q1 q2 q3 q4 q5 q6 r1 r2 r3 r4) (scope "index") [("__class__", cc)] .none .none doc pm an (.ref cda) ct) (body := body "index" msg q1 q2 q3 q4 q5 q6 r1 r2 r3 r4) (binds := [("self", .ref x), ("index", v)])
    hroom (X _ _ ho) rfl hlim (codeRec_of X hcd) rfl (BindsTo.of_eq (by first | rfl | with_unfolding_all rfl)) (show ∀ x ∈ (scope "index").names, x.2 ≠ .cell by decide) (by first | decide | (intro y hy; simp at hy; rcases hy with rfl | rfl <;> rfl)) (fun h₁ hn k => ?_) rfl rfl rfl
  have X1 : K.In h₁ := X.keeps k
  have hg1 : h₁.Ns mainGlobals mg := hg.keeps k
  have hb1 : h₁.Ns builtinsNs mb := hb.keeps k
  have hx1 := k _ _ hx
  have hxL : s.heap.objs.size ≠ x := Nat.ne_of_gt (Heap.lt_size hx)
  -- super().__init__(msg)
  show _root_.PySem.wpAt _ _ _ (execs (body "index" msg q1 q2 q3 q4 q5 q6 r1 r2 r3 r4) _) _ _ _
  generalize henv : callEnv (fnX "__init__" qn (args "index" p1 p2) (body "index" msg q1 q2 q3 q4 q5 q6 r1 r2 r3 r4) (scope "index") [("__class__", cc)] .none .none doc pm an (.ref cda) ct) s.heap.objs.size fI = env
  have he : eval (.Call (.Attribute (.Call (.Name "super" q1) [] [] q2) "__init__" q3) [.Constant (.str msg) 0 q4] [] q5) env = (do
      let ov ← attributeBase (.Call (.Name "super" q1) [] [] q2) "__init__" env (eval (.Call (.Name "super" q1) [] [] q2) env)
      standAt q3.atName
      let (f, first) ← holding [ov] (getMethod ov "__init__" (do return (← importBound (.Call (.Name "super" q1) [] [] q2) env).getD true))
      callWith q5 f first (backTo q5 (starEach [.Constant (.str msg) 0 q4] env)) []) := by
    show (attributeBase _ _ _ _ >>= fun ov => standAt _ >>= fun _ => methodCall _ _ _ _ _ ov _ _ _) = _
    unfold methodCall methodCallPos
    simp only [hL, Bool.or_true, if_true, pure_bind]
    rfl
  refine ks_wpAt_execs_cons (ks_wpAt_Expr_any (ks_wpAt_MethodCall (pl := _) ?_ he) ?_ ?_)
  · subst henv
    refine ks_wpAt_super_base rfl rfl rfl rfl (k _ _ (X _ _ ho)) rfl rfl rfl (k _ _ (X _ _ hcode)) rfl hvs hfile T.top ?_
    refine ks_loadName_global rfl rfl (loadGlobal_builtin (mg := mg) (mb := mb) hg1 T.gS hb1 hbb ⟨rfl, ?_⟩)
    refine wpAny_loadName_free (v := .ref C) rfl rfl rfl ⟨_, X1 _ _ hcell, rfl⟩ ?_
    refine wpAny_loadName_local (v := .ref x) rfl rfl hn rfl ?_
    obtain ⟨hp0, g0, d0, t0', os0⟩ := s
    refine ks_wpAny_isType_cls (X1 _ _ hC) rfl ⟨rfl, ?_⟩
    refine ks_wpAny_call_super (X1 _ _ hC) rfl hx1 rfl (fun c e => by cases e) (looks_mroIn X1 T.slf) (fun h2 e2 k2 => ?_)
    have X2 : K.In h2 := X1.keeps k2
    have hx2 := k2 _ _ hx1
    have hI2 : InstAt h2 x (excO C t0) C none := ⟨hx2, rfl, rfl, trivial⟩
    have hso := T.sup
    unfold ks_superIn at hso
    rw [hcl, Option.bind_some] at hso
    refine kxs_getMethod (D := C) (l := (((Value.ref C :: bm).dropWhile (· != .ref C)).drop 1)) kxs_ValueError e2 (looks_opaque X2 T.tp) (l₀ := .ref C :: bm) ((looks_clsIn X2 hcl).andThen .now) rfl X2 hso (hI2.type.andThen (looks_subIn X2 T.veC)) (ks_ne X2 hI2 hcl) rfl ?_
    refine kxs_callWith (i := "ValueError.__init__") (x := x) rfl ?_
    refine evalArgs_plain (spliced_cons (wpAny_Constant_str (k := 0) (pos := q4) (spliced_nil ⟨Heap.get?_push_size _ rfl, ?_⟩)))
    refine bound_init (Heap.get?_push_of_some _ (X2 _ _ hC)) (Heap.get?_push_of_some _ hx2) (Heap.get?_push_size _ rfl) (by simp [sizeLine_eq]) (fun h3 t3 k3 hx3 => ?_)
    -- self.value = value
    have X3 : K.In h3 := fun b o e => k3 b o (fun z => by rw [z, hnx] at e; cases e) (Heap.get?_push_of_some _ (X2 _ _ e))
    have hn3 : h3.Ns hp0.objs.size (fun y => ([("self", .ref x), ("index", v)] : List (Str × Value)).reverse.lookup y) := by
      obtain ⟨oL, es, ep, hL, r⟩ := hn
      exact ⟨oL, es, ep, k3 _ _ hxL (Heap.get?_push_of_some _ (k2 _ _ hL)), r⟩
    show _root_.PySem.wpAt _ _ _ (execs [.Assign [.Attribute (.Name "self" r1) "index" r2] (.Name "index" r3) r4] _) _ _ _
    refine ks_wpAt_execs_cons (ks_wpAt_Assign_Attr (wpAt_of_wpAny (wpAny_Name (wpAny_loadName_local (v := v) rfl rfl hn3 rfl (wpAny_Name (wpAny_loadName_local (v := .ref x) rfl rfl hn3 rfl ?_) rfl)) rfl)) rfl)
    refine set_plain X3 (ox := excO C t3) (od := none) ⟨hx3, rfl, rfl, trivial⟩ T.sa ?_
    refine exc_osa X3 hx3 hcl (show refsVE (.ref C :: bm) = true from hbm) rfl T.noN (fun h4 tk4 dx k4 dn dne hx4 hn4 => ?_)
    refine wpAt_of_wpAny (wpAny_execs_nil ?_)
    refine hq h4 tk4 dx ⟨fun b o hb e => ?_, ⟨_, hx4⟩, ?_, dne, hn4⟩
    · exact k4 b o hb (k3 b o hb (Heap.get?_push_of_some _ (k2 _ _ (k _ _ e))))
    · obtain ⟨oL, es, ep, hL, r⟩ := hn3
      exact Nat.le_of_lt (Nat.lt_of_lt_of_le (Heap.lt_size hL) dn)
  · subst henv; rfl
  · subst henv; rfl
theorem init_run_limit (T : Txt prog K mg cn "limit" C fI) {x t0 : Addr} {v : Value} (X : K.In s.heap) (hg : s.heap.Ns mainGlobals mg) (hb : s.heap.Ns builtinsNs mb) (hbb : mb "super" = some (.type "super"))
    (hlim : s.heap.NoLimit) (hx : s.heap.get? x = some (excO C t0)) (hnx : K.lookup x = none) (hroom : A.depth < recursionLimit)
    (hq : ∀ h' tk dx, Told s.heap h' x C dx "limit" v → R (.ok (.ret .none)) { s with heap := h', toks := tk }) :
    codeAny (model prog w) A (.call (.ref fI) ⟨[.ref x, v], []⟩) R s := by
  obtain ⟨oc, od, doc, pm, an, cda, cc, ct, osl, msg, qn, p1, p2, q1, q2, q3, q4, q5, q6, r1, r2, r3, r4, ho, hcd, ⟨cl, cld, csl, hcell⟩, ccl, cdd, vs, ccs, file, tf, hcode, hvs, hfile, hL⟩ := T.fn
  obtain ⟨nm, qq, N, bs, bm, sn, sub, ab, col, dd, k0, k1, k2, k3, k5, hC, hbm⟩ := T.cls
  have hcl : clsIn K C = some { name := nm, bases := bs, mro := .ref C :: bm, ns := N, qualname := qq, hasDict := true, slotNames := sn, subclasses := sub, abstract := ab, collection := col, hasDel := false } := by unfold clsIn; rw [hC] <;> rfl
  refine ks_codeAny_call_defAt (fd := fnX "__init__" qn (args "limit" p1 p2) (body "limit" msg q1 q2 q3 q4 q5 q6 r1 r2 r3 r4) (scope "limit") [("__class__", cc)] .none .none doc pm an (.ref cda) ct) (body := body "limit" msg q1 q2 q3 q4 q5 q6 r1 r2 r3 r4) (binds := [("self", .ref x), ("limit", v)])
    hroom (X _ _ ho) rfl hlim (codeRec_of X hcd) rfl (BindsTo.of_eq (by first | rfl | with_unfolding_all rfl)) (show ∀ x ∈ (scope "limit").names, x.2 ≠ .cell by decide) (by first | decide | (intro y hy; simp at hy; rcases hy with rfl | rfl <;> rfl)) (fun h₁ hn k => ?_) rfl rfl rfl
  have X1 : K.In h₁ := X.keeps k
  have hg1 : h₁.Ns mainGlobals mg := hg.keeps k
  have hb1 : h₁.Ns builtinsNs mb := hb.keeps k
  have hx1 := k _ _ hx
  have hxL : s.heap.objs.size ≠ x := Nat.ne_of_gt (Heap.lt_size hx)
  -- super().__init__(msg)
  show _root_.PySem.wpAt _ _ _ (execs (body "limit" msg q1 q2 q3 q4 q5 q6 r1 r2 r3 r4) _) _ _ _
  generalize henv : callEnv (fnX "__init__" qn (args "limit" p1 p2) (body "limit" msg q1 q2 q3 q4 q5 q6 r1 r2 r3 r4) (scope "limit") [("__class__", cc)] .none .none doc pm an (.ref cda) ct) s.heap.objs.size fI = env
  have he : eval (.Call (.Attribute (.Call (.Name "super" q1) [] [] q2) "__init__" q3) [.Constant (.str msg) 0 q4] [] q5) env = (do
      let ov ← attributeBase (.Call (.Name "super" q1) [] [] q2) "__init__" env (eval (.Call (.Name "super" q1) [] [] q2) env)
      standAt q3.atName
      let (f, first) ← holding [ov] (getMethod ov "__init__" (do return (← importBound (.Call (.Name "super" q1) [] [] q2) env).getD true))
      callWith q5 f first (backTo q5 (starEach [.Constant (.str msg) 0 q4] env)) []) := by
    show (attributeBase _ _ _ _ >>= fun ov => standAt _ >>= fun _ => methodCall _ _ _ _ _ ov _ _ _) = _
    unfold methodCall methodCallPos
    simp only [hL, Bool.or_true, if_true, pure_bind]
    rfl
  refine ks_wpAt_execs_cons (ks_wpAt_Expr_any (ks_wpAt_MethodCall (pl := _) ?_ he) ?_ ?_)
  · subst henv
    refine ks_wpAt_super_base rfl rfl rfl rfl (k _ _ (X _ _ ho)) rfl rfl rfl (k _ _ (X _ _ hcode)) rfl hvs hfile T.top ?_
    refine ks_loadName_global rfl rfl (loadGlobal_builtin (mg := mg) (mb := mb) hg1 T.gS hb1 hbb ⟨rfl, ?_⟩)
    refine wpAny_loadName_free (v := .ref C) rfl rfl rfl ⟨_, X1 _ _ hcell, rfl⟩ ?_
    refine wpAny_loadName_local (v := .ref x) rfl rfl hn rfl ?_
    obtain ⟨hp0, g0, d0, t0', os0⟩ := s
    refine ks_wpAny_isType_cls (X1 _ _ hC) rfl ⟨rfl, ?_⟩
    refine ks_wpAny_call_super (X1 _ _ hC) rfl hx1 rfl (fun c e => by cases e) (looks_mroIn X1 T.slf) (fun h2 e2 k2 => ?_)
    have X2 : K.In h2 := X1.keeps k2
    have hx2 := k2 _ _ hx1
    have hI2 : InstAt h2 x (excO C t0) C none := ⟨hx2, rfl, rfl, trivial⟩
    have hso := T.sup
    unfold ks_superIn at hso
    rw [hcl, Option.bind_some] at hso
    refine kxs_getMethod (D := C) (l := (((Value.ref C :: bm).dropWhile (· != .ref C)).drop 1)) kxs_ValueError e2 (looks_opaque X2 T.tp) (l₀ := .ref C :: bm) ((looks_clsIn X2 hcl).andThen .now) rfl X2 hso (hI2.type.andThen (looks_subIn X2 T.veC)) (ks_ne X2 hI2 hcl) rfl ?_
    refine kxs_callWith (i := "ValueError.__init__") (x := x) rfl ?_
    refine evalArgs_plain (spliced_cons (wpAny_Constant_str (k := 0) (pos := q4) (spliced_nil ⟨Heap.get?_push_size _ rfl, ?_⟩)))
    refine bound_init (Heap.get?_push_of_some _ (X2 _ _ hC)) (Heap.get?_push_of_some _ hx2) (Heap.get?_push_size _ rfl) (by simp [sizeLine_eq]) (fun h3 t3 k3 hx3 => ?_)
    -- self.value = value
    have X3 : K.In h3 := fun b o e => k3 b o (fun z => by rw [z, hnx] at e; cases e) (Heap.get?_push_of_some _ (X2 _ _ e))
    have hn3 : h3.Ns hp0.objs.size (fun y => ([("self", .ref x), ("limit", v)] : List (Str × Value)).reverse.lookup y) := by
      obtain ⟨oL, es, ep, hL, r⟩ := hn
      exact ⟨oL, es, ep, k3 _ _ hxL (Heap.get?_push_of_some _ (k2 _ _ hL)), r⟩
    show _root_.PySem.wpAt _ _ _ (execs [.Assign [.Attribute (.Name "self" r1) "limit" r2] (.Name "limit" r3) r4] _) _ _ _
    refine ks_wpAt_execs_cons (ks_wpAt_Assign_Attr (wpAt_of_wpAny (wpAny_Name (wpAny_loadName_local (v := v) rfl rfl hn3 rfl (wpAny_Name (wpAny_loadName_local (v := .ref x) rfl rfl hn3 rfl ?_) rfl)) rfl)) rfl)
    refine set_plain X3 (ox := excO C t3) (od := none) ⟨hx3, rfl, rfl, trivial⟩ T.sa ?_
    refine exc_osa X3 hx3 hcl (show refsVE (.ref C :: bm) = true from hbm) rfl T.noN (fun h4 tk4 dx k4 dn dne hx4 hn4 => ?_)
    refine wpAt_of_wpAny (wpAny_execs_nil ?_)
    refine hq h4 tk4 dx ⟨fun b o hb e => ?_, ⟨_, hx4⟩, ?_, dne, hn4⟩
    · exact k4 b o hb (k3 b o hb (Heap.get?_push_of_some _ (k2 _ _ (k _ _ e))))
    · obtain ⟨oL, es, ep, hL, r⟩ := hn3
      exact Nat.le_of_lt (Nat.lt_of_lt_of_le (Heap.lt_size hL) dn)
  · subst henv; rfl
  · subst henv; rfl
theorem init_run_command (T : Txt prog K mg cn "command" C fI) {x t0 : Addr} {v : Value} (X : K.In s.heap) (hg : s.heap.Ns mainGlobals mg) (hb : s.heap.Ns builtinsNs mb) (hbb : mb "super" = some (.type "super"))
    (hlim : s.heap.NoLimit) (hx : s.heap.get? x = some (excO C t0)) (hnx : K.lookup x = none) (hroom : A.depth < recursionLimit)
    (hq : ∀ h' tk dx, Told s.heap h' x C dx "command" v → R (.ok (.ret .none)) { s with heap := h', toks := tk }) :
    codeAny (model prog w) A (.call (.ref fI) ⟨[.ref x, v], []⟩) R s := by
  obtain ⟨oc, od, doc, pm, an, cda, cc, ct, osl, msg, qn, p1, p2, q1, q2, q3, q4, q5, q6, r1, r2, r3, r4, ho, hcd, ⟨cl, cld, csl, hcell⟩, ccl, cdd, vs, ccs, file, tf, hcode, hvs, hfile, hL⟩ := T.fn
  obtain ⟨nm, qq, N, bs, bm, sn, sub, ab, col, dd, k0, k1, k2, k3, k5, hC, hbm⟩ := T.cls
  have hcl : clsIn K C = some { name := nm, bases := bs, mro := .ref C :: bm, ns := N, qualname := qq, hasDict := true, slotNames := sn, subclasses := sub, abstract := ab, collection := col, hasDel := false } := by unfold clsIn; rw [hC] <;> rfl
  refine ks_codeAny_call_defAt (fd := fnX "__init__" qn (args "command" p1 p2) (body "command" msg q1 q2 q3 q4 q5 q6 r1 r2 r3 r4) (scope "command") [("__class__", cc)] .none .none doc pm an (.ref cda) ct) (body := body "command" msg q1 q2 q3 q4 q5 q6 r1 r2 r3 r4) (binds := [("self", .ref x), ("command", v)])
    hroom (X _ _ ho) rfl hlim (codeRec_of X hcd) rfl (BindsTo.of_eq (by first | rfl | with_unfolding_all rfl)) (show ∀ x ∈ (scope "command").names, x.2 ≠ .cell by decide) (by first | decide | (intro y hy; simp at hy; rcases hy with rfl | rfl <;> rfl)) (fun h₁ hn k => ?_) rfl rfl rfl
  have X1 : K.In h₁ := X.keeps k
  have hg1 : h₁.Ns mainGlobals mg := hg.keeps k
  have hb1 : h₁.Ns builtinsNs mb := hb.keeps k
  have hx1 := k _ _ hx
  have hxL : s.heap.objs.size ≠ x := Nat.ne_of_gt (Heap.lt_size hx)
  -- super().__init__(msg)
  show _root_.PySem.wpAt _ _ _ (execs (body "command" msg q1 q2 q3 q4 q5 q6 r1 r2 r3 r4) _) _ _ _
  generalize henv : callEnv (fnX "__init__" qn (args "command" p1 p2) (body "command" msg q1 q2 q3 q4 q5 q6 r1 r2 r3 r4) (scope "command") [("__class__", cc)] .none .none doc pm an (.ref cda) ct) s.heap.objs.size fI = env
  have he : eval (.Call (.Attribute (.Call (.Name "super" q1) [] [] q2) "__init__" q3) [.Constant (.str msg) 0 q4] [] q5) env = (do
      let ov ← attributeBase (.Call (.Name "super" q1) [] [] q2) "__init__" env (eval (.Call (.Name "super" q1) [] [] q2) env)
      standAt q3.atName
      let (f, first) ← holding [ov] (getMethod ov "__init__" (do return (← importBound (.Call (.Name "super" q1) [] [] q2) env).getD true))
      callWith q5 f first (backTo q5 (starEach [.Constant (.str msg) 0 q4] env)) []) := by
    show (attributeBase _ _ _ _ >>= fun ov => standAt _ >>= fun _ => methodCall _ _ _ _ _ ov _ _ _) = _
    unfold methodCall methodCallPos
    simp only [hL, Bool.or_true, if_true, pure_bind]
    rfl
  refine ks_wpAt_execs_cons (ks_wpAt_Expr_any (ks_wpAt_MethodCall (pl := _) ?_ he) ?_ ?_)
  · subst henv
    refine ks_wpAt_super_base rfl rfl rfl rfl (k _ _ (X _ _ ho)) rfl rfl rfl (k _ _ (X _ _ hcode)) rfl hvs hfile T.top ?_
    refine ks_loadName_global rfl rfl (loadGlobal_builtin (mg := mg) (mb := mb) hg1 T.gS hb1 hbb ⟨rfl, ?_⟩)
    refine wpAny_loadName_free (v := .ref C) rfl rfl rfl ⟨_, X1 _ _ hcell, rfl⟩ ?_
    refine wpAny_loadName_local (v := .ref x) rfl rfl hn rfl ?_
    obtain ⟨hp0, g0, d0, t0', os0⟩ := s
    refine ks_wpAny_isType_cls (X1 _ _ hC) rfl ⟨rfl, ?_⟩
    refine ks_wpAny_call_super (X1 _ _ hC) rfl hx1 rfl (fun c e => by cases e) (looks_mroIn X1 T.slf) (fun h2 e2 k2 => ?_)
    have X2 : K.In h2 := X1.keeps k2
    have hx2 := k2 _ _ hx1
    have hI2 : InstAt h2 x (excO C t0) C none := ⟨hx2, rfl, rfl, trivial⟩
    have hso := T.sup
    unfold ks_superIn at hso
    rw [hcl, Option.bind_some] at hso
    refine kxs_getMethod (D := C) (l := (((Value.ref C :: bm).dropWhile (· != .ref C)).drop 1)) kxs_ValueError e2 (looks_opaque X2 T.tp) (l₀ := .ref C :: bm) ((looks_clsIn X2 hcl).andThen .now) rfl X2 hso (hI2.type.andThen (looks_subIn X2 T.veC)) (ks_ne X2 hI2 hcl) rfl ?_
    refine kxs_callWith (i := "ValueError.__init__") (x := x) rfl ?_
    refine evalArgs_plain (spliced_cons (wpAny_Constant_str (k := 0) (pos := q4) (spliced_nil ⟨Heap.get?_push_size _ rfl, ?_⟩)))
    refine bound_init (Heap.get?_push_of_some _ (X2 _ _ hC)) (Heap.get?_push_of_some _ hx2) (Heap.get?_push_size _ rfl) (by simp [sizeLine_eq]) (fun h3 t3 k3 hx3 => ?_)
    -- self.value = value
    have X3 : K.In h3 := fun b o e => k3 b o (fun z => by rw [z, hnx] at e; cases e) (Heap.get?_push_of_some _ (X2 _ _ e))
    have hn3 : h3.Ns hp0.objs.size (fun y => ([("self", .ref x), ("command", v)] : List (Str × Value)).reverse.lookup y) := by
      obtain ⟨oL, es, ep, hL, r⟩ := hn
      exact ⟨oL, es, ep, k3 _ _ hxL (Heap.get?_push_of_some _ (k2 _ _ hL)), r⟩
    show _root_.PySem.wpAt _ _ _ (execs [.Assign [.Attribute (.Name "self" r1) "command" r2] (.Name "command" r3) r4] _) _ _ _
    refine ks_wpAt_execs_cons (ks_wpAt_Assign_Attr (wpAt_of_wpAny (wpAny_Name (wpAny_loadName_local (v := v) rfl rfl hn3 rfl (wpAny_Name (wpAny_loadName_local (v := .ref x) rfl rfl hn3 rfl ?_) rfl)) rfl)) rfl)
    refine set_plain X3 (ox := excO C t3) (od := none) ⟨hx3, rfl, rfl, trivial⟩ T.sa ?_
    refine exc_osa X3 hx3 hcl (show refsVE (.ref C :: bm) = true from hbm) rfl T.noN (fun h4 tk4 dx k4 dn dne hx4 hn4 => ?_)
    refine wpAt_of_wpAny (wpAny_execs_nil ?_)
    refine hq h4 tk4 dx ⟨fun b o hb e => ?_, ⟨_, hx4⟩, ?_, dne, hn4⟩
    · exact k4 b o hb (k3 b o hb (Heap.get?_push_of_some _ (k2 _ _ (k _ _ e))))
    · obtain ⟨oL, es, ep, hL, r⟩ := hn3
      exact Nat.le_of_lt (Nat.lt_of_lt_of_le (Heap.lt_size hL) dn)
  · subst henv; rfl
  · subst henv; rfl
end
end SupE

set_option maxHeartbeats 4000000
namespace SupE
open PySem PySem.W PySem.Calls PyProof.Rows PySem.HandSPX
section
variable {prog : Program} {w : World} {A : Around} {R : Result → Shared → Prop} {s : Shared} {K : Frag} {mg mb : Str → Option Value} {cn : Str} {C fI : Addr}
theorem made_text (T : Txt prog K mg cn "text" C fI) {v : Value} (X : K.In s.heap) (hg : s.heap.Ns mainGlobals mg) (hb : s.heap.Ns builtinsNs mb) (hbb : mb "super" = some (.type "super")) (hlim : s.heap.NoLimit) (hroom : A.depth + 1 < recursionLimit)
    (hq : ∀ h' tk e d, Made s.heap h' e C d "text" v → R (.ok (.ret (.ref e))) { s with heap := h', toks := tk }) :
    codeAny (model prog w) A (.call (.ref C) ⟨[v], []⟩) R s := by
  obtain ⟨nm, q, N, bs, bm, sn, sub, ab, col, dd, k0, k1, k2, k3, k5, hC, hbm⟩ := T.cls
  obtain ⟨hp, g, dr, tk, os⟩ := s
  have k : ∀ b o, hp.get? b = some o → ((hp.push (kdv_tup [v])).push (excO C hp.objs.size)).get? b = some o := fun b o e => Heap.get?_push_of_some _ (Heap.get?_push_of_some _ e)
  have hget : ((hp.push (kdv_tup [v])).push (excO C hp.objs.size)).get? (hp.objs.size + 1) = some (excO C hp.objs.size) := by heap_get
  have hnx : K.lookup (hp.objs.size + 1) = none := by
    cases e : K.lookup (hp.objs.size + 1) with
    | none => rfl
    | some o => exact absurd (Nat.lt_of_succ_lt (Heap.lt_size (X _ _ e))) (Nat.lt_irrefl _)
  refine call_own F.excBase_ValueError (fun X => refsVE_contains X bm hbm) (X _ _ hC) (looks_findIn X T.iC) (fun self => bind_fn X self T.tC) (single v) ?_
  refine init_run_text (s := ⟨(hp.push (kdv_tup [v])).push (excO C hp.objs.size), g, dr, tk, os⟩) T (X.keeps k) (hg.keeps k) (hb.keeps k) hbb (hlim.keeps k) hget hnx hroom fun h' tk' dx ⟨k', ⟨t1, hx⟩, dn, dne, hns⟩ => ?_
  have old : ∀ b o, hp.get? b = some o → h'.get? b = some o := fun b o e => k' b o (Nat.ne_of_lt (Nat.lt_succ_of_lt (Heap.lt_size e))) (k b o e)
  have z : hp.objs.size + 1 + 1 ≤ dx := by
    have q := dn
    first | (simpa only [Heap.size_push] using q) | exact q | (rw [Heap.size_push, Heap.size_push] at q; exact q)
  exact ⟨rfl, hq h' tk' (hp.objs.size + 1) dx ⟨old, Nat.le_succ _, ⟨_, _, hx, rfl, rfl, rfl, rfl⟩, Nat.le_trans (Nat.le_trans (Nat.le_succ _) (Nat.le_succ _)) z, dne, hns⟩⟩
theorem made_name (T : Txt prog K mg cn "name" C fI) {v : Value} (X : K.In s.heap) (hg : s.heap.Ns mainGlobals mg) (hb : s.heap.Ns builtinsNs mb) (hbb : mb "super" = some (.type "super")) (hlim : s.heap.NoLimit) (hroom : A.depth + 1 < recursionLimit)
    (hq : ∀ h' tk e d, Made s.heap h' e C d "name" v → R (.ok (.ret (.ref e))) { s with heap := h', toks := tk }) :
    codeAny (model prog w) A (.call (.ref C) ⟨[v], []⟩) R s := by
  obtain ⟨nm, q, N, bs, bm, sn, sub, ab, col, dd, k0, k1, k2, k3, k5, hC, hbm⟩ := T.cls
  obtain ⟨hp, g, dr, tk, os⟩ := s
  have k : ∀ b o, hp.get? b = some o → ((hp.push (kdv_tup [v])).push (excO C hp.objs.size)).get? b = some o := fun b o e => Heap.get?_push_of_some _ (Heap.get?_push_of_some _ e)
  have hget : ((hp.push (kdv_tup [v])).push (excO C hp.objs.size)).get? (hp.objs.size + 1) = some (excO C hp.objs.size) := by heap_get
  have hnx : K.lookup (hp.objs.size + 1) = none := by
    cases e : K.lookup (hp.objs.size + 1) with
    | none => rfl
    | some o => exact absurd (Nat.lt_of_succ_lt (Heap.lt_size (X _ _ e))) (Nat.lt_irrefl _)
  refine call_own F.excBase_ValueError (fun X => refsVE_contains X bm hbm) (X _ _ hC) (looks_findIn X T.iC) (fun self => bind_fn X self T.tC) (single v) ?_
  refine init_run_name (s := ⟨(hp.push (kdv_tup [v])).push (excO C hp.objs.size), g, dr, tk, os⟩) T (X.keeps k) (hg.keeps k) (hb.keeps k) hbb (hlim.keeps k) hget hnx hroom fun h' tk' dx ⟨k', ⟨t1, hx⟩, dn, dne, hns⟩ => ?_
  have old : ∀ b o, hp.get? b = some o → h'.get? b = some o := fun b o e => k' b o (Nat.ne_of_lt (Nat.lt_succ_of_lt (Heap.lt_size e))) (k b o e)
  have z : hp.objs.size + 1 + 1 ≤ dx := by
    have q := dn
    first | (simpa only [Heap.size_push] using q) | exact q | (rw [Heap.size_push, Heap.size_push] at q; exact q)
  exact ⟨rfl, hq h' tk' (hp.objs.size + 1) dx ⟨old, Nat.le_succ _, ⟨_, _, hx, rfl, rfl, rfl, rfl⟩, Nat.le_trans (Nat.le_trans (Nat.le_succ _) (Nat.le_succ _)) z, dne, hns⟩⟩
theorem made_index (T : Txt prog K mg cn "index" C fI) {v : Value} (X : K.In s.heap) (hg : s.heap.Ns mainGlobals mg) (hb : s.heap.Ns builtinsNs mb) (hbb : mb "super" = some (.type "super")) (hlim : s.heap.NoLimit) (hroom : A.depth + 1 < recursionLimit)
    (hq : ∀ h' tk e d, Made s.heap h' e C d "index" v → R (.ok (.ret (.ref e))) { s with heap := h', toks := tk }) :
    codeAny (model prog w) A (.call (.ref C) ⟨[v], []⟩) R s := by
  obtain ⟨nm, q, N, bs, bm, sn, sub, ab, col, dd, k0, k1, k2, k3, k5, hC, hbm⟩ := T.cls
  obtain ⟨hp, g, dr, tk, os⟩ := s
  have k : ∀ b o, hp.get? b = some o → ((hp.push (kdv_tup [v])).push (excO C hp.objs.size)).get? b = some o := fun b o e => Heap.get?_push_of_some _ (Heap.get?_push_of_some _ e)
  have hget : ((hp.push (kdv_tup [v])).push (excO C hp.objs.size)).get? (hp.objs.size + 1) = some (excO C hp.objs.size) := by heap_get
  have hnx : K.lookup (hp.objs.size + 1) = none := by
    cases e : K.lookup (hp.objs.size + 1) with
    | none => rfl
    | some o => exact absurd (Nat.lt_of_succ_lt (Heap.lt_size (X _ _ e))) (Nat.lt_irrefl _)
  refine call_own F.excBase_ValueError (fun X => refsVE_contains X bm hbm) (X _ _ hC) (looks_findIn X T.iC) (fun self => bind_fn X self T.tC) (single v) ?_
  refine init_run_index (s := ⟨(hp.push (kdv_tup [v])).push (excO C hp.objs.size), g, dr, tk, os⟩) T (X.keeps k) (hg.keeps k) (hb.keeps k) hbb (hlim.keeps k) hget hnx hroom fun h' tk' dx ⟨k', ⟨t1, hx⟩, dn, dne, hns⟩ => ?_
  have old : ∀ b o, hp.get? b = some o → h'.get? b = some o := fun b o e => k' b o (Nat.ne_of_lt (Nat.lt_succ_of_lt (Heap.lt_size e))) (k b o e)
  have z : hp.objs.size + 1 + 1 ≤ dx := by
    have q := dn
    first | (simpa only [Heap.size_push] using q) | exact q | (rw [Heap.size_push, Heap.size_push] at q; exact q)
  exact ⟨rfl, hq h' tk' (hp.objs.size + 1) dx ⟨old, Nat.le_succ _, ⟨_, _, hx, rfl, rfl, rfl, rfl⟩, Nat.le_trans (Nat.le_trans (Nat.le_succ _) (Nat.le_succ _)) z, dne, hns⟩⟩
theorem made_limit (T : Txt prog K mg cn "limit" C fI) {v : Value} (X : K.In s.heap) (hg : s.heap.Ns mainGlobals mg) (hb : s.heap.Ns builtinsNs mb) (hbb : mb "super" = some (.type "super")) (hlim : s.heap.NoLimit) (hroom : A.depth + 1 < recursionLimit)
    (hq : ∀ h' tk e d, Made s.heap h' e C d "limit" v → R (.ok (.ret (.ref e))) { s with heap := h', toks := tk }) :
    codeAny (model prog w) A (.call (.ref C) ⟨[v], []⟩) R s := by
  obtain ⟨nm, q, N, bs, bm, sn, sub, ab, col, dd, k0, k1, k2, k3, k5, hC, hbm⟩ := T.cls
  obtain ⟨hp, g, dr, tk, os⟩ := s
  have k : ∀ b o, hp.get? b = some o → ((hp.push (kdv_tup [v])).push (excO C hp.objs.size)).get? b = some o := fun b o e => Heap.get?_push_of_some _ (Heap.get?_push_of_some _ e)
  have hget : ((hp.push (kdv_tup [v])).push (excO C hp.objs.size)).get? (hp.objs.size + 1) = some (excO C hp.objs.size) := by heap_get
  have hnx : K.lookup (hp.objs.size + 1) = none := by
    cases e : K.lookup (hp.objs.size + 1) with
    | none => rfl
    | some o => exact absurd (Nat.lt_of_succ_lt (Heap.lt_size (X _ _ e))) (Nat.lt_irrefl _)
  refine call_own F.excBase_ValueError (fun X => refsVE_contains X bm hbm) (X _ _ hC) (looks_findIn X T.iC) (fun self => bind_fn X self T.tC) (single v) ?_
  refine init_run_limit (s := ⟨(hp.push (kdv_tup [v])).push (excO C hp.objs.size), g, dr, tk, os⟩) T (X.keeps k) (hg.keeps k) (hb.keeps k) hbb (hlim.keeps k) hget hnx hroom fun h' tk' dx ⟨k', ⟨t1, hx⟩, dn, dne, hns⟩ => ?_
  have old : ∀ b o, hp.get? b = some o → h'.get? b = some o := fun b o e => k' b o (Nat.ne_of_lt (Nat.lt_succ_of_lt (Heap.lt_size e))) (k b o e)
  have z : hp.objs.size + 1 + 1 ≤ dx := by
    have q := dn
    first | (simpa only [Heap.size_push] using q) | exact q | (rw [Heap.size_push, Heap.size_push] at q; exact q)
  exact ⟨rfl, hq h' tk' (hp.objs.size + 1) dx ⟨old, Nat.le_succ _, ⟨_, _, hx, rfl, rfl, rfl, rfl⟩, Nat.le_trans (Nat.le_trans (Nat.le_succ _) (Nat.le_succ _)) z, dne, hns⟩⟩
theorem made_command (T : Txt prog K mg cn "command" C fI) {v : Value} (X : K.In s.heap) (hg : s.heap.Ns mainGlobals mg) (hb : s.heap.Ns builtinsNs mb) (hbb : mb "super" = some (.type "super")) (hlim : s.heap.NoLimit) (hroom : A.depth + 1 < recursionLimit)
    (hq : ∀ h' tk e d, Made s.heap h' e C d "command" v → R (.ok (.ret (.ref e))) { s with heap := h', toks := tk }) :
    codeAny (model prog w) A (.call (.ref C) ⟨[v], []⟩) R s := by
  obtain ⟨nm, q, N, bs, bm, sn, sub, ab, col, dd, k0, k1, k2, k3, k5, hC, hbm⟩ := T.cls
  obtain ⟨hp, g, dr, tk, os⟩ := s
  have k : ∀ b o, hp.get? b = some o → ((hp.push (kdv_tup [v])).push (excO C hp.objs.size)).get? b = some o := fun b o e => Heap.get?_push_of_some _ (Heap.get?_push_of_some _ e)
  have hget : ((hp.push (kdv_tup [v])).push (excO C hp.objs.size)).get? (hp.objs.size + 1) = some (excO C hp.objs.size) := by heap_get
  have hnx : K.lookup (hp.objs.size + 1) = none := by
    cases e : K.lookup (hp.objs.size + 1) with
    | none => rfl
    | some o => exact absurd (Nat.lt_of_succ_lt (Heap.lt_size (X _ _ e))) (Nat.lt_irrefl _)
  refine call_own F.excBase_ValueError (fun X => refsVE_contains X bm hbm) (X _ _ hC) (looks_findIn X T.iC) (fun self => bind_fn X self T.tC) (single v) ?_
  refine init_run_command (s := ⟨(hp.push (kdv_tup [v])).push (excO C hp.objs.size), g, dr, tk, os⟩) T (X.keeps k) (hg.keeps k) (hb.keeps k) hbb (hlim.keeps k) hget hnx hroom fun h' tk' dx ⟨k', ⟨t1, hx⟩, dn, dne, hns⟩ => ?_
  have old : ∀ b o, hp.get? b = some o → h'.get? b = some o := fun b o e => k' b o (Nat.ne_of_lt (Nat.lt_succ_of_lt (Heap.lt_size e))) (k b o e)
  have z : hp.objs.size + 1 + 1 ≤ dx := by
    have q := dn
    first | (simpa only [Heap.size_push] using q) | exact q | (rw [Heap.size_push, Heap.size_push] at q; exact q)
  exact ⟨rfl, hq h' tk' (hp.objs.size + 1) dx ⟨old, Nat.le_succ _, ⟨_, _, hx, rfl, rfl, rfl, rfl⟩, Nat.le_trans (Nat.le_trans (Nat.le_succ _) (Nat.le_succ _)) z, dne, hns⟩⟩
end
end SupE

set_option maxHeartbeats 4000000
namespace SupE
open PySem PySem.W PySem.Calls PyProof.Rows PySem.HandSPX
def args0 (p1 : Pos) : Arguments :=
  { posonlyargs := [], args := [{ arg := "self", annotation := none, pos := p1 }], vararg := none, kwonlyargs := [], kw_defaults := [], kwarg := none, defaults := [] }
def body0 (msg : Str) (q1 q2 q3 q4 q5 q6 : Pos) : List Stmt := [.Expr (.Call (.Attribute (.Call (.Name "super" q1) [] [] q2) "__init__" q3) [.Constant (.str msg) 0 q4] [] q5) q6]
def scope0 : Scope := { kind := .function, names := [("self", .local), ("__class__", .free), ("super", .globalImplicit)], isGenerator := false, isCoroutine := false, more := [] }
structure Txt0 (P : Program) (K : Frag) (mg : Str → Option Value) (cn : Str) (C fI : Addr) : Prop where
  top : (P.main.scope.names.lookup ("super" : Str)).isSome = false
  gC : mg cn = some (.ref C)
  gS : mg "super" = none
  cls : ∃ nm q N bs bm sn sub ab col dd k0 k1 k2 k3 k5, K.lookup C = some (excClassObj nm q C N bs bm true sn sub ab col dd k0 k1 k2 k3 k5 "ValueError.__new__") ∧ refsVE bm = true
  sa : findIn K (.ref C) "__setattr__" = some (some (.builtin "object.__setattr__"))
  ga : findIn K (.ref C) "__getattribute__" = some (some (.builtin "BaseException.__getattribute__"))
  gg : findIn K (.ref C) "__getattr__" = some none
  iC : findIn K (.ref C) "__init__" = some (some (.ref fI))
  tC : typeIn K (.ref fI) = some (.type "function")
  kC : keepIn K (.ref C) = true
  exC : subIn K (.ref C) (.type "BaseException") = some true
  veC : subIn K (.ref C) (.type "ValueError") = some true
  tyC : typeIn K (.ref C) = some (.type "type")
  hdC : hasDictIn K C = true
  te : exmOne K (.ref C) (.ref C) = some true
  tp : nsIn K cStatics "thirdparty.any" = some none
  sup : ks_superIn K C C "__init__" = some (some (.builtin "ValueError.__init__"))
  slf : mroIn K C (.ref C) = some true
  fn : ∃ (oc : Value) (od : Option Addr) (doc pm : Value) (an : Option Addr) (cda cc : Addr) (ct : Value) (osl : Array (Option Value)) (msg qn : Str) (p1 q1 q2 q3 q4 q5 q6 : Pos),
    K.lookup fI = some ⟨oc, od, .func (fnX "__init__" qn (args0 p1) (body0 msg q1 q2 q3 q4 q5 q6) scope0 [("__class__", cc)] .none .none doc pm an (.ref cda) ct), osl⟩ ∧ codeIn K (.ref cda) qn = true ∧
    (∃ cl cld csl, K.lookup cc = some ⟨cl, cld, .cell (some (.ref C)), csl⟩) ∧
    ∃ (ccl : Value) (cdd : Option Addr) (vs : Array Value) (ccs : Array (Option Value)) (file : Str) (tf : Tok), K.lookup cda = some ⟨ccl, cdd, .fields vs, ccs⟩ ∧ vs[2]? = some (.str file tf) ∧ (P.main.file == file) = true ∧ (q3.endLine == q5.line) = true
structure Told0 (h h' : Heap) (x C : Addr) : Prop where
  keep : ∀ b o, b ≠ x → h.get? b = some o → h'.get? b = some o
  obj : ∃ t1, h'.get? x = some (excO C t1)
section
variable {prog : Program} {w : World} {A : Around} {R : Result → Shared → Prop} {s : Shared} {K : Frag} {mg mb : Str → Option Value} {cn : Str} {C fI : Addr}
theorem init_run0 (T : Txt0 prog K mg cn C fI) {x t0 : Addr} (X : K.In s.heap) (hg : s.heap.Ns mainGlobals mg) (hb : s.heap.Ns builtinsNs mb) (hbb : mb "super" = some (.type "super"))
    (hlim : s.heap.NoLimit) (hx : s.heap.get? x = some (excO C t0)) (hnx : K.lookup x = none) (hroom : A.depth < recursionLimit)
    (hq : ∀ h' tk, Told0 s.heap h' x C → R (.ok (.ret .none)) { s with heap := h', toks := tk }) :
    codeAny (model prog w) A (.call (.ref fI) ⟨[.ref x], []⟩) R s := by
  obtain ⟨oc, od, doc, pm, an, cda, cc, ct, osl, msg, qn, p1, q1, q2, q3, q4, q5, q6, ho, hcd, ⟨cl, cld, csl, hcell⟩, ccl, cdd, vs, ccs, file, tf, hcode, hvs, hfile, hL⟩ := T.fn
  obtain ⟨nm, qq, N, bs, bm, sn, sub, ab, col, dd, k0, k1, k2, k3, k5, hC, hbm⟩ := T.cls
  have hcl : clsIn K C = some { name := nm, bases := bs, mro := .ref C :: bm, ns := N, qualname := qq, hasDict := true, slotNames := sn, subclasses := sub, abstract := ab, collection := col, hasDel := false } := by unfold clsIn; rw [hC] <;> rfl
  refine ks_codeAny_call_defAt (fd := fnX "__init__" qn (args0 p1) (body0 msg q1 q2 q3 q4 q5 q6) scope0 [("__class__", cc)] .none .none doc pm an (.ref cda) ct) (body := body0 msg q1 q2 q3 q4 q5 q6) (binds := [("self", .ref x)])
    hroom (X _ _ ho) rfl hlim (codeRec_of X hcd) rfl (BindsTo.of_eq (by first | rfl | with_unfolding_all rfl)) (show ∀ x ∈ scope0.names, x.2 ≠ .cell by decide) (by first | decide | (intro y hy; simp at hy; rcases hy with rfl <;> rfl)) (fun h₁ hn k => ?_) rfl rfl rfl
  have X1 : K.In h₁ := X.keeps k
  have hg1 : h₁.Ns mainGlobals mg := hg.keeps k
  have hb1 : h₁.Ns builtinsNs mb := hb.keeps k
  have hx1 := k _ _ hx
  have hxL : s.heap.objs.size ≠ x := Nat.ne_of_gt (Heap.lt_size hx)
  -- super().__init__(msg)
  show _root_.PySem.wpAt _ _ _ (execs (body0 msg q1 q2 q3 q4 q5 q6) _) _ _ _
  generalize henv : callEnv (fnX "__init__" qn (args0 p1) (body0 msg q1 q2 q3 q4 q5 q6) scope0 [("__class__", cc)] .none .none doc pm an (.ref cda) ct) s.heap.objs.size fI = env
  have he : eval (.Call (.Attribute (.Call (.Name "super" q1) [] [] q2) "__init__" q3) [.Constant (.str msg) 0 q4] [] q5) env = (do
      let ov ← attributeBase (.Call (.Name "super" q1) [] [] q2) "__init__" env (eval (.Call (.Name "super" q1) [] [] q2) env)
      standAt q3.atName
      let (f, first) ← holding [ov] (getMethod ov "__init__" (do return (← importBound (.Call (.Name "super" q1) [] [] q2) env).getD true))
      callWith q5 f first (backTo q5 (starEach [.Constant (.str msg) 0 q4] env)) []) := by
    show (attributeBase _ _ _ _ >>= fun ov => standAt _ >>= fun _ => methodCall _ _ _ _ _ ov _ _ _) = _
    unfold methodCall methodCallPos
    simp only [hL, Bool.or_true, if_true, pure_bind]
    rfl
  refine ks_wpAt_execs_cons (ks_wpAt_Expr_any (ks_wpAt_MethodCall (pl := _) ?_ he) ?_ ?_)
  · subst henv
    refine ks_wpAt_super_base rfl rfl rfl rfl (k _ _ (X _ _ ho)) rfl rfl rfl (k _ _ (X _ _ hcode)) rfl hvs hfile T.top ?_
    refine ks_loadName_global rfl rfl (loadGlobal_builtin (mg := mg) (mb := mb) hg1 T.gS hb1 hbb ⟨rfl, ?_⟩)
    refine wpAny_loadName_free (v := .ref C) rfl rfl rfl ⟨_, X1 _ _ hcell, rfl⟩ ?_
    refine wpAny_loadName_local (v := .ref x) rfl rfl hn rfl ?_
    obtain ⟨hp0, g0, d0, t0', os0⟩ := s
    refine ks_wpAny_isType_cls (X1 _ _ hC) rfl ⟨rfl, ?_⟩
    refine ks_wpAny_call_super (X1 _ _ hC) rfl hx1 rfl (fun c e => by cases e) (looks_mroIn X1 T.slf) (fun h2 e2 k2 => ?_)
    have X2 : K.In h2 := X1.keeps k2
    have hx2 := k2 _ _ hx1
    have hI2 : InstAt h2 x (excO C t0) C none := ⟨hx2, rfl, rfl, trivial⟩
    have hso := T.sup
    unfold ks_superIn at hso
    rw [hcl, Option.bind_some] at hso
    refine kxs_getMethod (D := C) (l := (((Value.ref C :: bm).dropWhile (· != .ref C)).drop 1)) kxs_ValueError e2 (looks_opaque X2 T.tp) (l₀ := .ref C :: bm) ((looks_clsIn X2 hcl).andThen .now) rfl X2 hso (hI2.type.andThen (looks_subIn X2 T.veC)) (ks_ne X2 hI2 hcl) rfl ?_
    refine kxs_callWith (i := "ValueError.__init__") (x := x) rfl ?_
    refine evalArgs_plain (spliced_cons (wpAny_Constant_str (k := 0) (pos := q4) (spliced_nil ⟨Heap.get?_push_size _ rfl, ?_⟩)))
    refine bound_init (Heap.get?_push_of_some _ (X2 _ _ hC)) (Heap.get?_push_of_some _ hx2) (Heap.get?_push_size _ rfl) (by simp [sizeLine_eq]) (fun h3 t3 k3 hx3 => ?_)
    show _root_.PySem.wpAt _ _ _ (execs [] _) _ _ _
    refine wpAt_of_wpAny (wpAny_execs_nil ?_)
    exact hq h3 _ ⟨fun b o hb e => k3 b o hb (Heap.get?_push_of_some _ (k2 _ _ (k _ _ e))), ⟨_, hx3⟩⟩
  · subst henv; rfl
  · subst henv; rfl
end
end SupE

set_option maxHeartbeats 4000000
namespace SupE
open PySem PySem.W PySem.Calls PyProof.Rows PySem.HandSPX
def args2 (p1 p2 p3 : Pos) : Arguments :=
  { posonlyargs := [], args := [{ arg := "self", annotation := none, pos := p1 }, { arg := "name", annotation := none, pos := p2 }, { arg := "needed", annotation := none, pos := p3 }], vararg := none, kwonlyargs := [], kw_defaults := [], kwarg := none, defaults := [] }
def body2 (msg : Str) (q1 q2 q3 q4 q5 q6 r1 r2 r3 r4 s1 s2 s3 s4 : Pos) : List Stmt := [.Expr (.Call (.Attribute (.Call (.Name "super" q1) [] [] q2) "__init__" q3) [.Constant (.str msg) 0 q4] [] q5) q6, .Assign [.Attribute (.Name "self" r1) "name" r2] (.Name "name" r3) r4, .Assign [.Attribute (.Name "self" s1) "needed" s2] (.Name "needed" s3) s4]
def scope2 : Scope := { kind := .function, names := [("self", .local), ("name", .local), ("needed", .local), ("__class__", .free), ("super", .globalImplicit)], isGenerator := false, isCoroutine := false, more := [] }
structure Txt2 (P : Program) (K : Frag) (mg : Str → Option Value) (cn : Str) (C fI : Addr) : Prop where
  top : (P.main.scope.names.lookup ("super" : Str)).isSome = false
  gC : mg cn = some (.ref C)
  gS : mg "super" = none
  cls : ∃ nm q N bs bm sn sub ab col dd k0 k1 k2 k3 k5, K.lookup C = some (excClassObj nm q C N bs bm true sn sub ab col dd k0 k1 k2 k3 k5 "ValueError.__new__") ∧ refsVE bm = true
  sa : findIn K (.ref C) "__setattr__" = some (some (.builtin "object.__setattr__"))
  ga : findIn K (.ref C) "__getattribute__" = some (some (.builtin "BaseException.__getattribute__"))
  gg : findIn K (.ref C) "__getattr__" = some none
  noN : findIn K (.ref C) "name" = some none
  noM : findIn K (.ref C) "needed" = some none
  iC : findIn K (.ref C) "__init__" = some (some (.ref fI))
  tC : typeIn K (.ref fI) = some (.type "function")
  kC : keepIn K (.ref C) = true
  exC : subIn K (.ref C) (.type "BaseException") = some true
  veC : subIn K (.ref C) (.type "ValueError") = some true
  tyC : typeIn K (.ref C) = some (.type "type")
  hdC : hasDictIn K C = true
  te : exmOne K (.ref C) (.ref C) = some true
  tp : nsIn K cStatics "thirdparty.any" = some none
  sup : ks_superIn K C C "__init__" = some (some (.builtin "ValueError.__init__"))
  slf : mroIn K C (.ref C) = some true
  fn : ∃ (oc : Value) (od : Option Addr) (doc pm : Value) (an : Option Addr) (cda cc : Addr) (ct : Value) (osl : Array (Option Value)) (msg qn : Str) (p1 p2 p3 q1 q2 q3 q4 q5 q6 r1 r2 r3 r4 s1 s2 s3 s4 : Pos),
    K.lookup fI = some ⟨oc, od, .func (fnX "__init__" qn (args2 p1 p2 p3) (body2 msg q1 q2 q3 q4 q5 q6 r1 r2 r3 r4 s1 s2 s3 s4) scope2 [("__class__", cc)] .none .none doc pm an (.ref cda) ct), osl⟩ ∧ codeIn K (.ref cda) qn = true ∧
    (∃ cl cld csl, K.lookup cc = some ⟨cl, cld, .cell (some (.ref C)), csl⟩) ∧
    ∃ (ccl : Value) (cdd : Option Addr) (vs : Array Value) (ccs : Array (Option Value)) (file : Str) (tf : Tok), K.lookup cda = some ⟨ccl, cdd, .fields vs, ccs⟩ ∧ vs[2]? = some (.str file tf) ∧ (P.main.file == file) = true ∧ (q3.endLine == q5.line) = true
def at2 (v u : Value) : Str → Option Value := fun y => if y = "needed" then some u else if y = "name" then some v else none
structure Told2 (h h' : Heap) (x C dx : Addr) (v u : Value) : Prop where
  keep : ∀ b o, b ≠ x → h.get? b = some o → h'.get? b = some o
  obj : ∃ t1, h'.get? x = some { cls := .ref C, dict := some dx, data := .fields #[.ref t1, .none, .none, .none, .bool false, .none] }
  dbig : h.objs.size ≤ dx
  dne : dx ≠ x
  ns : h'.Ns1 dx (at2 v u)
section
variable {prog : Program} {w : World} {A : Around} {R : Result → Shared → Prop} {s : Shared} {K : Frag} {mg mb : Str → Option Value} {cn : Str} {C fI : Addr}
theorem init_run2 (T : Txt2 prog K mg cn C fI) {x t0 : Addr} {v u : Value} (X : K.In s.heap) (hg : s.heap.Ns mainGlobals mg) (hb : s.heap.Ns builtinsNs mb) (hbb : mb "super" = some (.type "super"))
    (hlim : s.heap.NoLimit) (hx : s.heap.get? x = some (excO C t0)) (hnx : K.lookup x = none) (hroom : A.depth < recursionLimit)
    (hq : ∀ h' tk dx, Told2 s.heap h' x C dx v u → R (.ok (.ret .none)) { s with heap := h', toks := tk }) :
    codeAny (model prog w) A (.call (.ref fI) ⟨[.ref x, v, u], []⟩) R s := by
  obtain ⟨oc, od, doc, pm, an, cda, cc, ct, osl, msg, qn, p1, p2, p3, q1, q2, q3, q4, q5, q6, r1, r2, r3, r4, s1, s2, s3, s4, ho, hcd, ⟨cl, cld, csl, hcell⟩, ccl, cdd, vs, ccs, file, tf, hcode, hvs, hfile, hL⟩ := T.fn
  obtain ⟨nm, qq, N, bs, bm, sn, sub, ab, col, dd, k0, k1, k2, k3, k5, hC, hbm⟩ := T.cls
  have hcl : clsIn K C = some { name := nm, bases := bs, mro := .ref C :: bm, ns := N, qualname := qq, hasDict := true, slotNames := sn, subclasses := sub, abstract := ab, collection := col, hasDel := false } := by unfold clsIn; rw [hC] <;> rfl
  refine ks_codeAny_call_defAt (fd := fnX "__init__" qn (args2 p1 p2 p3) (body2 msg q1 q2 q3 q4 q5 q6 r1 r2 r3 r4 s1 s2 s3 s4) scope2 [("__class__", cc)] .none .none doc pm an (.ref cda) ct) (body := body2 msg q1 q2 q3 q4 q5 q6 r1 r2 r3 r4 s1 s2 s3 s4) (binds := [("self", .ref x), ("name", v), ("needed", u)])
    hroom (X _ _ ho) rfl hlim (codeRec_of X hcd) rfl (BindsTo.of_eq (by first | rfl | with_unfolding_all rfl)) (show ∀ x ∈ scope2.names, x.2 ≠ .cell by decide) (by first | decide | (intro y hy; simp at hy; rcases hy with rfl | rfl | rfl <;> rfl)) (fun h₁ hn k => ?_) rfl rfl rfl
  have X1 : K.In h₁ := X.keeps k
  have hg1 : h₁.Ns mainGlobals mg := hg.keeps k
  have hb1 : h₁.Ns builtinsNs mb := hb.keeps k
  have hx1 := k _ _ hx
  have hxL : s.heap.objs.size ≠ x := Nat.ne_of_gt (Heap.lt_size hx)
  -- super().__init__(msg)
  show _root_.PySem.wpAt _ _ _ (execs (body2 msg q1 q2 q3 q4 q5 q6 r1 r2 r3 r4 s1 s2 s3 s4) _) _ _ _
  generalize henv : callEnv (fnX "__init__" qn (args2 p1 p2 p3) (body2 msg q1 q2 q3 q4 q5 q6 r1 r2 r3 r4 s1 s2 s3 s4) scope2 [("__class__", cc)] .none .none doc pm an (.ref cda) ct) s.heap.objs.size fI = env
  have he : eval (.Call (.Attribute (.Call (.Name "super" q1) [] [] q2) "__init__" q3) [.Constant (.str msg) 0 q4] [] q5) env = (do
      let ov ← attributeBase (.Call (.Name "super" q1) [] [] q2) "__init__" env (eval (.Call (.Name "super" q1) [] [] q2) env)
      standAt q3.atName
      let (f, first) ← holding [ov] (getMethod ov "__init__" (do return (← importBound (.Call (.Name "super" q1) [] [] q2) env).getD true))
      callWith q5 f first (backTo q5 (starEach [.Constant (.str msg) 0 q4] env)) []) := by
    show (attributeBase _ _ _ _ >>= fun ov => standAt _ >>= fun _ => methodCall _ _ _ _ _ ov _ _ _) = _
    unfold methodCall methodCallPos
    simp only [hL, Bool.or_true, if_true, pure_bind]
    rfl
  refine ks_wpAt_execs_cons (ks_wpAt_Expr_any (ks_wpAt_MethodCall (pl := _) ?_ he) ?_ ?_)
  · subst henv
    refine ks_wpAt_super_base rfl rfl rfl rfl (k _ _ (X _ _ ho)) rfl rfl rfl (k _ _ (X _ _ hcode)) rfl hvs hfile T.top ?_
    refine ks_loadName_global rfl rfl (loadGlobal_builtin (mg := mg) (mb := mb) hg1 T.gS hb1 hbb ⟨rfl, ?_⟩)
    refine wpAny_loadName_free (v := .ref C) rfl rfl rfl ⟨_, X1 _ _ hcell, rfl⟩ ?_
    refine wpAny_loadName_local (v := .ref x) rfl rfl hn rfl ?_
    obtain ⟨hp0, g0, d0, t0', os0⟩ := s
    refine ks_wpAny_isType_cls (X1 _ _ hC) rfl ⟨rfl, ?_⟩
    refine ks_wpAny_call_super (X1 _ _ hC) rfl hx1 rfl (fun c e => by cases e) (looks_mroIn X1 T.slf) (fun h2 e2 k2 => ?_)
    have X2 : K.In h2 := X1.keeps k2
    have hx2 := k2 _ _ hx1
    have hI2 : InstAt h2 x (excO C t0) C none := ⟨hx2, rfl, rfl, trivial⟩
    have hso := T.sup
    unfold ks_superIn at hso
    rw [hcl, Option.bind_some] at hso
    refine kxs_getMethod (D := C) (l := (((Value.ref C :: bm).dropWhile (· != .ref C)).drop 1)) kxs_ValueError e2 (looks_opaque X2 T.tp) (l₀ := .ref C :: bm) ((looks_clsIn X2 hcl).andThen .now) rfl X2 hso (hI2.type.andThen (looks_subIn X2 T.veC)) (ks_ne X2 hI2 hcl) rfl ?_
    refine kxs_callWith (i := "ValueError.__init__") (x := x) rfl ?_
    refine evalArgs_plain (spliced_cons (wpAny_Constant_str (k := 0) (pos := q4) (spliced_nil ⟨Heap.get?_push_size _ rfl, ?_⟩)))
    refine bound_init (Heap.get?_push_of_some _ (X2 _ _ hC)) (Heap.get?_push_of_some _ hx2) (Heap.get?_push_size _ rfl) (by simp [sizeLine_eq]) (fun h3 t3 k3 hx3 => ?_)
    -- self.value = value
    have X3 : K.In h3 := fun b o e => k3 b o (fun z => by rw [z, hnx] at e; cases e) (Heap.get?_push_of_some _ (X2 _ _ e))
    have hn3 : h3.Ns hp0.objs.size (fun y => ([("self", .ref x), ("name", v), ("needed", u)] : List (Str × Value)).reverse.lookup y) := by
      obtain ⟨oL, es, ep, hL, r⟩ := hn
      exact ⟨oL, es, ep, k3 _ _ hxL (Heap.get?_push_of_some _ (k2 _ _ hL)), r⟩
    show _root_.PySem.wpAt _ _ _ (execs [.Assign [.Attribute (.Name "self" r1) "name" r2] (.Name "name" r3) r4, .Assign [.Attribute (.Name "self" s1) "needed" s2] (.Name "needed" s3) s4] _) _ _ _
    refine ks_wpAt_execs_cons (ks_wpAt_Assign_Attr (wpAt_of_wpAny (wpAny_Name (wpAny_loadName_local (v := v) rfl rfl hn3 rfl (wpAny_Name (wpAny_loadName_local (v := .ref x) rfl rfl hn3 rfl ?_) rfl)) rfl)) rfl)
    refine set_plain X3 (ox := excO C t3) (od := none) ⟨hx3, rfl, rfl, trivial⟩ T.sa ?_
    refine exc_osa X3 hx3 hcl (show refsVE (.ref C :: bm) = true from hbm) rfl T.noN (fun h4 tk4 dx k4 dn dne hx4 hn4 => ?_)
    -- self.needed = needed
    have X4 : K.In h4 := fun b o e => k4 b o (fun z => by rw [z, hnx] at e; cases e) (X3 _ _ e)
    have hxL3 : hp0.objs.size ≠ x := hxL
    have hn4' : h4.Ns hp0.objs.size (fun y => ([("self", .ref x), ("name", v), ("needed", u)] : List (Str × Value)).reverse.lookup y) := by
      obtain ⟨oL, es, ep, hL, r⟩ := hn3
      exact ⟨oL, es, ep, k4 _ _ hxL3 hL, r⟩
    show _root_.PySem.wpAt _ _ _ (execs [.Assign [.Attribute (.Name "self" s1) "needed" s2] (.Name "needed" s3) s4] _) _ _ _
    refine ks_wpAt_execs_cons (ks_wpAt_Assign_Attr (wpAt_of_wpAny (wpAny_Name (wpAny_loadName_local (v := u) rfl rfl hn4' rfl (wpAny_Name (wpAny_loadName_local (v := .ref x) rfl rfl hn4' rfl ?_) rfl)) rfl)) rfl)
    have hwi : Within (fun y => if y = "name" then some v else none) (["name"] : List Str) := by
      intro y hy
      by_cases hyn : y = "name"
      · rw [hyn]; simp
      · simp [hyn] at hy
    obtain ⟨oD, esD, epD, hoD, hdD, _⟩ := hn4.count hwi
    refine set_plain X4 (ox := { cls := .ref C, dict := some dx, data := .fields #[.ref t3, .none, .none, .none, .bool false, .none] }) (od := some oD) ⟨hx4, rfl, rfl, hoD⟩ T.sa ?_
    refine OEX.osa_old X4 hx4 hn4 hwi (by decide) hcl (show refsVE (.ref C :: bm) = true from hbm) rfl T.noM (fun h5 tk5 k5 hn5 => ?_)
    refine wpAt_of_wpAny (wpAny_execs_nil ?_)
    obtain ⟨oL, es, ep, hLL, r⟩ := hn3
    have dxb : hp0.objs.size ≤ dx := Nat.le_of_lt (Nat.lt_of_lt_of_le (Heap.lt_size hLL) dn)
    refine hq h5 tk5 dx ⟨fun b o hb e => ?_, ⟨_, k5 x _ (Ne.symm dne) hx4⟩, dxb, dne, hn5⟩
    have eb : b ≠ dx := fun z => by
      rw [z] at e
      exact absurd (Heap.lt_size e) (Nat.not_lt.mpr dxb)
    exact k5 b o eb (k4 b o hb (k3 b o hb (Heap.get?_push_of_some _ (k2 _ _ (k _ _ e)))))
  · subst henv; rfl
  · subst henv; rfl
end
end SupE

set_option maxHeartbeats 4000000
namespace SupE
open PySem PySem.W PySem.Calls PyProof.Rows PySem.HandSPX
structure Made0 (h h' : Heap) (e C : Addr) : Prop where
  keep : ∀ b o, h.get? b = some o → h'.get? b = some o
  new : h.objs.size ≤ e
  obj : ∃ oe vs, h'.get? e = some oe ∧ oe.cls = .ref C ∧ oe.dict = none ∧ oe.data = .fields vs
structure Made2 (h h' : Heap) (e C d : Addr) (v u : Value) : Prop where
  keep : ∀ b o, h.get? b = some o → h'.get? b = some o
  new : h.objs.size ≤ e
  obj : ∃ oe vs, h'.get? e = some oe ∧ oe.cls = .ref C ∧ oe.dict = some d ∧ oe.data = .fields vs ∧ vs[1]? = some .none
  dbig : h.objs.size ≤ d
  dne : d ≠ e
  ns : h'.Ns1 d (at2 v u)
section
variable {prog : Program} {w : World} {A : Around} {R : Result → Shared → Prop} {s : Shared} {K : Frag} {mg mb : Str → Option Value} {cn : Str} {C fI : Addr}
theorem made0 (T : Txt0 prog K mg cn C fI) (X : K.In s.heap) (hg : s.heap.Ns mainGlobals mg) (hb : s.heap.Ns builtinsNs mb) (hbb : mb "super" = some (.type "super")) (hlim : s.heap.NoLimit) (hroom : A.depth + 1 < recursionLimit)
    (hq : ∀ h' tk e, Made0 s.heap h' e C → R (.ok (.ret (.ref e))) { s with heap := h', toks := tk }) :
    codeAny (model prog w) A (.call (.ref C) ⟨[], []⟩) R s := by
  obtain ⟨nm, q, N, bs, bm, sn, sub, ab, col, dd, k0, k1, k2, k3, k5, hC, hbm⟩ := T.cls
  obtain ⟨hp, g, dr, tk, os⟩ := s
  have k : ∀ b o, hp.get? b = some o → ((hp.push (kdv_tup [])).push (excO C hp.objs.size)).get? b = some o := fun b o e => Heap.get?_push_of_some _ (Heap.get?_push_of_some _ e)
  have hget : ((hp.push (kdv_tup [])).push (excO C hp.objs.size)).get? (hp.objs.size + 1) = some (excO C hp.objs.size) := by heap_get
  have hnx : K.lookup (hp.objs.size + 1) = none := by
    cases e : K.lookup (hp.objs.size + 1) with
    | none => rfl
    | some o => exact absurd (Nat.lt_of_succ_lt (Heap.lt_size (X _ _ e))) (Nat.lt_irrefl _)
  refine call_own F.excBase_ValueError (fun X => refsVE_contains X bm hbm) (X _ _ hC) (looks_findIn X T.iC) (fun self => bind_fn X self T.tC) (by rw [sizeLine_eq]; exact (by decide : 0 ≤ 16777216)) ?_
  refine init_run0 (s := ⟨(hp.push (kdv_tup [])).push (excO C hp.objs.size), g, dr, tk, os⟩) T (X.keeps k) (hg.keeps k) (hb.keeps k) hbb (hlim.keeps k) hget hnx hroom fun h' tk' ⟨k', ⟨t1, hx⟩⟩ => ?_
  have old : ∀ b o, hp.get? b = some o → h'.get? b = some o := fun b o e => k' b o (Nat.ne_of_lt (Nat.lt_succ_of_lt (Heap.lt_size e))) (k b o e)
  exact ⟨rfl, hq h' tk' (hp.objs.size + 1) ⟨old, Nat.le_succ _, ⟨_, _, hx, rfl, rfl, rfl⟩⟩⟩
theorem made2 (T : Txt2 prog K mg cn C fI) {v u : Value} (X : K.In s.heap) (hg : s.heap.Ns mainGlobals mg) (hb : s.heap.Ns builtinsNs mb) (hbb : mb "super" = some (.type "super")) (hlim : s.heap.NoLimit) (hroom : A.depth + 1 < recursionLimit)
    (hq : ∀ h' tk e d, Made2 s.heap h' e C d v u → R (.ok (.ret (.ref e))) { s with heap := h', toks := tk }) :
    codeAny (model prog w) A (.call (.ref C) ⟨[v, u], []⟩) R s := by
  obtain ⟨nm, q, N, bs, bm, sn, sub, ab, col, dd, k0, k1, k2, k3, k5, hC, hbm⟩ := T.cls
  obtain ⟨hp, g, dr, tk, os⟩ := s
  have k : ∀ b o, hp.get? b = some o → ((hp.push (kdv_tup [v, u])).push (excO C hp.objs.size)).get? b = some o := fun b o e => Heap.get?_push_of_some _ (Heap.get?_push_of_some _ e)
  have hget : ((hp.push (kdv_tup [v, u])).push (excO C hp.objs.size)).get? (hp.objs.size + 1) = some (excO C hp.objs.size) := by heap_get
  have hnx : K.lookup (hp.objs.size + 1) = none := by
    cases e : K.lookup (hp.objs.size + 1) with
    | none => rfl
    | some o => exact absurd (Nat.lt_of_succ_lt (Heap.lt_size (X _ _ e))) (Nat.lt_irrefl _)
  refine call_own F.excBase_ValueError (fun X => refsVE_contains X bm hbm) (X _ _ hC) (looks_findIn X T.iC) (fun self => bind_fn X self T.tC) (by rw [sizeLine_eq]; exact (by decide : 2 ≤ 16777216)) ?_
  refine init_run2 (s := ⟨(hp.push (kdv_tup [v, u])).push (excO C hp.objs.size), g, dr, tk, os⟩) T (X.keeps k) (hg.keeps k) (hb.keeps k) hbb (hlim.keeps k) hget hnx hroom fun h' tk' dx ⟨k', ⟨t1, hx⟩, dn, dne, hns⟩ => ?_
  have old : ∀ b o, hp.get? b = some o → h'.get? b = some o := fun b o e => k' b o (Nat.ne_of_lt (Nat.lt_succ_of_lt (Heap.lt_size e))) (k b o e)
  have z : hp.objs.size + 1 + 1 ≤ dx := by
    have q := dn
    first | (simpa only [Heap.size_push] using q) | exact q | (rw [Heap.size_push, Heap.size_push] at q; exact q)
  exact ⟨rfl, hq h' tk' (hp.objs.size + 1) dx ⟨old, Nat.le_succ _, ⟨_, _, hx, rfl, rfl, rfl, rfl⟩, Nat.le_trans (Nat.le_trans (Nat.le_succ _) (Nat.le_succ _)) z, dne, hns⟩⟩
/-- the class at C makes its errors so -/
def Makes1 (prog : Program) (w : World) (K : Frag) (mg : Str → Option Value) (C : Addr) (pn : Str) : Prop := ∀ {A : Around} {R : Result → Shared → Prop} {s : Shared} {mb : Str → Option Value} {v : Value}, K.In s.heap → s.heap.Ns mainGlobals mg → s.heap.Ns builtinsNs mb → mb "super" = some (.type "super") → s.heap.NoLimit → A.depth + 1 < recursionLimit →
    (∀ h' tk e d, Made s.heap h' e C d pn v → R (.ok (.ret (.ref e))) { s with heap := h', toks := tk }) → codeAny (model prog w) A (.call (.ref C) ⟨[v], []⟩) R s
theorem makes_value (T : Txt prog K mg cn "value" C fI) : Makes1 prog w K mg C "value" := fun X g b bb l r q => made T X g b bb l r q
theorem makes_text (T : Txt prog K mg cn "text" C fI) : Makes1 prog w K mg C "text" := fun X g b bb l r q => made_text T X g b bb l r q
theorem makes_name (T : Txt prog K mg cn "name" C fI) : Makes1 prog w K mg C "name" := fun X g b bb l r q => made_name T X g b bb l r q
theorem makes_index (T : Txt prog K mg cn "index" C fI) : Makes1 prog w K mg C "index" := fun X g b bb l r q => made_index T X g b bb l r q
theorem makes_limit (T : Txt prog K mg cn "limit" C fI) : Makes1 prog w K mg C "limit" := fun X g b bb l r q => made_limit T X g b bb l r q
theorem makes_command (T : Txt prog K mg cn "command" C fI) : Makes1 prog w K mg C "command" := fun X g b bb l r q => made_command T X g b bb l r q
end
end SupE

set_option maxHeartbeats 4000000
namespace SupE
open PySem PySem.Spec PyProof.Rows L2
/-- what of the text an error class must have, its errors held as values -/
structure EK (K : PySem.W.Frag) (C : Addr) : Prop where
  kC : PySem.W.keepIn K (.ref C) = true
  hcl : PySem.W.isClsIn K C = true
  ga : PySem.W.findIn K (.ref C) "__getattribute__" = some (some (.builtin "BaseException.__getattribute__"))
  gg : PySem.W.findIn K (.ref C) "__getattr__" = some none
  exC : PySem.W.subIn K (.ref C) (.type "BaseException") = some true
  ca : PySem.W.findIn K (.ref C) "__class__" = some (some (.builtin "object.__class__"))
  cn : PySem.W.specialIn K (.builtin "object.__class__") "__get__" = some (some (.builtin "getset_descriptor.__get__"))
  ct : PySem.W.takesIn K (.builtin "object.__class__") = some true
  cm : PySem.W.mroIn K C (.type "object") = some true
  hdC : PySem.W.hasDictIn K C = true
/-- at e: an error of the class at C, its dict at d (or none) -/
def EO (e C : Addr) (d : Option Addr) : HO := .ext fun h => ∃ (oe : Obj) (vs : Array Value), h.get? e = some oe ∧ oe.cls = .ref C ∧ oe.dict = d ∧ oe.data = .fields vs
theorem eo_ok {P : Program} {w : World} {H : Hp} {h : Heap} {e C : Addr} {d : Option Addr} {oe : Obj} {vs : Array Value} (h1 : h.get? e = some oe) (h2 : oe.cls = .ref C) (h3 : oe.dict = d) (h4 : oe.data = .fields vs) : ObjOk P w H h e (EO e C d) :=
  ⟨⟨oe, vs, h1, h2, h3, h4⟩, ⟨oe, h1⟩, fun _ _ ⟨o, v, q, r⟩ k => ⟨o, v, k o q, r⟩⟩
section
variable {X : Cx} {C : Addr} {cn pn : Str}
theorem call_own_env {pins : List (Addr × Obj)} {σ : L2.St} {H : Hp} {s : Shared} (I : Inv X pins σ H s) : ∃ mb, s.heap.Ns builtinsNs mb ∧ mb "super" = some (.type "super") := by
  obtain ⟨mb, hb1, hb2⟩ := I.mod.blt
  exact ⟨mb, hb1.keeps I.bk, (hb2 _ (by decide +kernel)).trans (by decide +kernel)⟩
/-- X(v) as a value -/
def tE1 (C : Addr) (pn : Str) (ta : TA) : TE := fun σ H Q => ta σ H fun vs H1 => ∃ v, vs = [v] ∧ ∀ e d, H1 e = none → H1 d = none → d ≠ e → Q (.ref e) (upd (upd H1 d (.xd [(pn, v)])) e (EO e C (some d)))
theorem pe_e1 {a : Expr} {ta : TA} {p pos : Pos} {k : Nat} (gC : X.mg cn = some (.ref C)) (B : EK X.K C) (T : Makes1 X.prog X.w X.K X.mg C pn) (hr : Room k X.A) (ha : PA X [a] ta) (hg : Gl X cn := by rfl) (hdb : (cn == ("__debug__" : Str)) = false := by decide)
    (he : starEach (a :: []) X.env = (false, eval a X.env) :: starEach [] X.env := by rfl) (hpl : (backTo pos (starEach [] X.env)).any (·.1) = false := by rfl) :
    PE X (.Call (.Name cn p) [a] [] pos) (tE1 C pn ta) := by
  refine ⟨fun pins s σ H Q I h => ?_⟩
  refine wpAny_Call_Name_kw (ld_glob I hg gC ?_ hdb)
  refine PySem.W.callWith_K (h₀ := X.base) I.ok.mod.kin B.kC (thn (ha.run pos pins s σ H _ I h) fun us s1 hh => ?_) he hpl
  obtain ⟨vs, H1, I1, r1, v, ev, q1⟩ := hh
  subst ev
  refine ⟨I1.kIn, ?_⟩
  cases r1 with
  | cons rv rn =>
    rename_i v' us'
    cases rn
    show wpAny _ _ (call (.ref C) [v']) _ _ _
    obtain ⟨mb, hbl, hsup⟩ := call_own_env I1
    have hlim := I1.nolimit
    have hgl := I1.mod.glob.keeps I1.bk
    obtain ⟨hp, g, dr, tk, os⟩ := s1
    refine wpAny_call (T I1.kIn hgl hbl hsup hlim (by have := hr.dp; show X.A.depth + 1 < recursionLimit; omega) fun h' tk' e d M => ?_)
    obtain ⟨oe, fv, hoe, hc, hd, hdat, h1⟩ := M.obj
    obtain ⟨G', g1, g2⟩ := restrict h' fun b => decide (b ≠ e)
    have gk : ∀ b, b ≠ e → G'.get? b = h'.get? b := fun b hb => g1 b (decide_eq_true hb)
    have ge : G'.get? e = none := g2 e (by simp)
    have old : ∀ b o, hp.get? b = some o → G'.get? b = some o := fun b o q => (gk b (Nat.ne_of_lt (Nat.lt_of_lt_of_le (Heap.lt_size q) M.new))).trans (M.keep b o q)
    have ob : ObjOk X.prog X.w (upd H1 d (.xd [(pn, v)])) G' d (.xd [(pn, v)]) := ⟨_, M.ns.at (fun o q => (gk d M.dne).trans q), fun f => relO_own rv f⟩
    have J : Inv X pins σ (upd H1 d (.xd [(pn, v)])) ⟨G', g, dr, tk', os⟩ := I1.laid (t' := tk') old M.dbig ob
    have ne : H1 e = none := I1.hok.fresh M.new
    have nd : H1 d = none := I1.hok.fresh M.dbig
    have up : ∀ b u, G'.get? b = some u → h'.get? b = some u := fun b u q => by
      by_cases hb : b = e
      · rw [hb, ge] at q; cases q
      · exact (gk b hb).symm.trans q
    have ne2 : upd H1 d (.xd [(pn, v)]) e = none := by rw [upd_ne (Ne.symm M.dne)]; exact ne
    have J2 : Inv X pins σ (upd (upd H1 d (.xd [(pn, v)])) e (EO e C (some d))) ⟨h', g, dr, tk', os⟩ := J.laidN (t' := tk') up ge ne2 (eo_ok hoe hc hd hdat)
    exact ⟨.ref e, _, J2, rfl, q1 e d ne nd M.dne⟩
/-- isinstance(e, D) -/
def rIsE (K : PySem.W.Frag) : List V → Hp → VK → Prop := fun xs H Q => ∃ (a C : Addr) (d : Option Addr) (c : V) (u : Value) (b : Bool), xs = [.ref a, c] ∧ H a = some (EO a C d) ∧ (∀ dd, d = some dd → ∃ fs, H dd = some (.xd fs)) ∧ EK K C ∧ ClsV c u ∧ PySem.W.kitOne K (.ref C) u = some b ∧ Q (.bl b) H
theorem err_at {pins : List (Addr × Obj)} {σ : L2.St} {H : Hp} {s : Shared} {a C : Addr} {d : Option Addr} (I : Inv X pins σ H s) (ha : H a = some (EO a C d)) (hd : ∀ dd, d = some dd → ∃ fs, H dd = some (.xd fs)) : ∃ oe od, PySem.W.InstAt s.heap a oe C od := by
  obtain ⟨⟨oe, vs, h1, h2, h3, h4⟩, _, _⟩ := (show ObjOk X.prog X.w H s.heap a (EO a C d) from I.hok a _ ha)
  have nc : PySem.W.notCls oe = true := by unfold PySem.W.notCls; rw [h4] <;> rfl
  cases d with
  | none => exact ⟨oe, none, h1, h2, nc, by rw [h3]; trivial⟩
  | some dd =>
    obtain ⟨fs, hf⟩ := hd dd rfl
    obtain ⟨mA, hns, hr⟩ := (show ObjOk X.prog X.w H s.heap dd (.xd fs) from I.hok dd _ hf)
    obtain ⟨od, ho, hl⟩ := lookIn_ns hns
    exact ⟨oe, some od, h1, h2, nc, by rw [h3]; exact ho⟩
theorem call_isE : CallR X (.builtin "isinstance") (rIsE X.K) := by
  intro pins s σ H xs us Q I r h
  obtain ⟨a, C, d, c, u, b, rfl, ha, hd, B, k, e, q⟩ := h
  obtain ⟨u1, u2, rfl, r1, r2⟩ := vals2 r
  have e2 := k.eq r2
  subst e2
  obtain rfl : u1 = Value.ref a := r1
  obtain ⟨oe, od, J⟩ := err_at I ha hd
  exact PySem.W.kia_one (PySem.W.kitx_exc B.hcl B.ga B.gg B.exC B.ca B.cn B.ct B.cm) I.kIn J e (fun z => nomatch z) fun tk => ⟨.bl b, H, I.tok tk, rfl, q⟩
/-- e.name -/
def tEA (K : PySem.W.Frag) (te : TE) (f : Str) : TE := fun σ H Q => te σ H fun x H1 => ∃ a C dd fs v, x = .ref a ∧ H1 a = some (EO a C (some dd)) ∧ H1 dd = some (.xd fs) ∧ EK K C ∧ PySem.W.findIn K (.ref C) f = some none ∧ List.lookup f fs = some v ∧ Q v H1
theorem pe_ea {e : Expr} {te : TE} {f : Str} {pos : Pos} (he : PE X e te) (hb : attributeBase e f X.env (eval e X.env) = eval e X.env := by rfl) : PE X (.Attribute e f pos) (tEA X.K te f) := by
  refine ⟨fun pins s σ H Q I h => ?_⟩
  refine attr_of hb (thn (he.run pins s σ H _ I h) fun u s1 hh => ?_)
  obtain ⟨x, H1, I1, rx, a, C, dd, fs, v, ex, ha, hd, B, nf, hl, q⟩ := hh
  subst ex
  obtain rfl : u = Value.ref a := rx
  obtain ⟨⟨oe, vs, h1, h2, h3, h4⟩, _, _⟩ := (show ObjOk X.prog X.w H1 s1.heap a (EO a C (some dd)) from I1.hok a _ ha)
  obtain ⟨mA, hns, hr⟩ := (show ObjOk X.prog X.w H1 s1.heap dd (.xd fs) from I1.hok dd _ hd)
  obtain ⟨od, ho, hll⟩ := lookIn_ns hns
  obtain ⟨u, hu, ru⟩ := RelO.some_of (v := v) (o := mA f) (by rw [← hl]; exact hr f)
  have J : PySem.W.InstAt s1.heap a oe C (some od) := ⟨h1, h2, by unfold PySem.W.notCls; rw [h4] <;> rfl, by rw [h3]; exact ho⟩
  exact HandSPX.exc_get I1.kIn J B.ga B.gg B.exC (PySem.W.findObj_own B.hdC nf rfl (by rw [hll, hu])) (handed_of ru) ⟨v, H1, I1.tok _, ru, q⟩
end
end SupE

set_option maxHeartbeats 4000000
namespace SupE
open PySem PySem.Spec PyProof.Rows L2
section
variable {X : Cx} {C fI : Addr} {cn : Str}
/-- X() as a value -/
def tE0 (C : Addr) : TE := fun σ H Q => ∀ e, H e = none → Q (.ref e) (upd H e (EO e C none))
theorem pe_e0 {p pos : Pos} {k : Nat} (gC : X.mg cn = some (.ref C)) (B : EK X.K C) (T : Txt0 X.prog X.K X.mg cn C fI) (hr : Room k X.A) (hg : Gl X cn := by rfl) (hdb : (cn == ("__debug__" : Str)) = false := by decide) : PE X (.Call (.Name cn p) [] [] pos) (tE0 C) := by
  refine ⟨fun pins s σ H Q I h => ?_⟩
  refine wpAny_Call_Name_kw (ld_glob I hg gC ?_ hdb)
  refine PySem.W.callWith_K0 I.kIn B.kC ?_
  show wpAny _ _ (call (.ref C) []) _ _ _
  obtain ⟨mb, hbl, hsup⟩ := call_own_env I
  have hlim := I.nolimit
  have hgl := I.mod.glob.keeps I.bk
  obtain ⟨hp, g, dr, tk, os⟩ := s
  refine wpAny_call (made0 T I.kIn hgl hbl hsup hlim (by have := hr.dp; show X.A.depth + 1 < recursionLimit; omega) fun h' tk' e M => ?_)
  obtain ⟨oe, fv, hoe, hc, hd, hdat⟩ := M.obj
  have J : Inv X pins σ (upd H e (EO e C none)) ⟨h', g, dr, tk', os⟩ := I.laid (t' := tk') M.keep M.new (eo_ok hoe hc hd hdat)
  exact ⟨.ref e, _, J, rfl, h e (I.hok.fresh M.new)⟩
/-- X(v, u) as a value -/
def tE2 (C : Addr) (ta : TA) : TE := fun σ H Q => ta σ H fun vs H1 => ∃ v u, vs = [v, u] ∧ ∀ e d, H1 e = none → H1 d = none → d ≠ e → Q (.ref e) (upd (upd H1 d (.xd [("name", v), ("needed", u)])) e (EO e C (some d)))
theorem relO_two {v u : V} {v' u' : Value} (r : RelV v v') (r2 : RelV u u') (f : Str) : RelO (List.lookup f [("name", v), ("needed", u)]) (at2 v' u' f) := by
  unfold at2
  have nn : (("needed" : Str) == ("name" : Str)) = false := by decide +kernel
  by_cases hw : f = "needed"
  · subst hw
    rw [if_pos rfl, show List.lookup ("needed" : Str) [(("name" : Str), v), (("needed" : Str), u)] = some u by simp [List.lookup, nn]]
    exact r2
  · rw [if_neg hw]
    have q : (f == ("needed" : Str)) = false := by simpa using hw
    by_cases hz : f = "name"
    · subst hz
      rw [if_pos rfl, show List.lookup ("name" : Str) [(("name" : Str), v), (("needed" : Str), u)] = some v by simp [List.lookup]]
      exact r
    · have q2 : (f == ("name" : Str)) = false := by simpa using hz
      rw [if_neg hz, show List.lookup f [(("name" : Str), v), (("needed" : Str), u)] = none by simp [List.lookup, q, q2]]
      trivial
theorem pe_e2 {a b : Expr} {ta : TA} {p pos : Pos} {k : Nat} (gC : X.mg cn = some (.ref C)) (B : EK X.K C) (T : Txt2 X.prog X.K X.mg cn C fI) (hr : Room k X.A) (ha : PA X [a, b] ta) (hg : Gl X cn := by rfl) (hdb : (cn == ("__debug__" : Str)) = false := by decide)
    (he : starEach (a :: [b]) X.env = (false, eval a X.env) :: starEach [b] X.env := by rfl) (hpl : (backTo pos (starEach [b] X.env)).any (·.1) = false := by rfl) :
    PE X (.Call (.Name cn p) [a, b] [] pos) (tE2 C ta) := by
  refine ⟨fun pins s σ H Q I h => ?_⟩
  refine wpAny_Call_Name_kw (ld_glob I hg gC ?_ hdb)
  refine PySem.W.callWith_K (h₀ := X.base) I.ok.mod.kin B.kC (thn (ha.run pos pins s σ H _ I h) fun us s1 hh => ?_) he hpl
  obtain ⟨vs, H1, I1, r1, v, u, ev, q1⟩ := hh
  subst ev
  refine ⟨I1.kIn, ?_⟩
  cases r1 with
  | cons rv r2 =>
    rename_i v' us'
    cases r2 with
    | cons ru rn =>
      rename_i u' us''
      cases rn
      show wpAny _ _ (call (.ref C) [v', u']) _ _ _
      obtain ⟨mb, hbl, hsup⟩ := call_own_env I1
      have hlim := I1.nolimit
      have hgl := I1.mod.glob.keeps I1.bk
      obtain ⟨hp, g, dr, tk, os⟩ := s1
      refine wpAny_call (made2 T I1.kIn hgl hbl hsup hlim (by have := hr.dp; show X.A.depth + 1 < recursionLimit; omega) fun h' tk' e d M => ?_)
      obtain ⟨oe, fv, hoe, hc, hd, hdat, h1⟩ := M.obj
      obtain ⟨G', g1, g2⟩ := restrict h' fun b => decide (b ≠ e)
      have gk : ∀ b, b ≠ e → G'.get? b = h'.get? b := fun b hb => g1 b (decide_eq_true hb)
      have ge : G'.get? e = none := g2 e (by simp)
      have old : ∀ b o, hp.get? b = some o → G'.get? b = some o := fun b o q => (gk b (Nat.ne_of_lt (Nat.lt_of_lt_of_le (Heap.lt_size q) M.new))).trans (M.keep b o q)
      have ob : ObjOk X.prog X.w (upd H1 d (.xd [("name", v), ("needed", u)])) G' d (.xd [("name", v), ("needed", u)]) := ⟨_, M.ns.at (fun o q => (gk d M.dne).trans q), fun f => relO_two rv ru f⟩
      have J : Inv X pins σ (upd H1 d (.xd [("name", v), ("needed", u)])) ⟨G', g, dr, tk', os⟩ := I1.laid (t' := tk') old M.dbig ob
      have ne : H1 e = none := I1.hok.fresh M.new
      have nd : H1 d = none := I1.hok.fresh M.dbig
      have up : ∀ b u, G'.get? b = some u → h'.get? b = some u := fun b u q => by
        by_cases hb : b = e
        · rw [hb, ge] at q; cases q
        · exact (gk b hb).symm.trans q
      have ne2 : upd H1 d (.xd [("name", v), ("needed", u)]) e = none := by rw [upd_ne (Ne.symm M.dne)]; exact ne
      have J2 : Inv X pins σ (upd (upd H1 d (.xd [("name", v), ("needed", u)])) e (EO e C (some d))) ⟨h', g, dr, tk', os⟩ := J.laidN (t' := tk') up ge ne2 (eo_ok hoe hc hd hdat)
      exact ⟨.ref e, _, J2, rfl, q1 e d ne nd M.dne⟩
end
end SupE

set_option maxHeartbeats 4000000
namespace SupE
open PySem PySem.Spec PyProof.Rows L2
/-- at e: an error of the class at C with these fields -/
def ErrX (H : Hp) (e C : Addr) (fs : Option (List (Str × V))) : Prop := match fs with
  | none => H e = some (EO e C none)
  | some l => ∃ d, H e = some (EO e C (some d)) ∧ H d = some (.xd l)
theorem ErrX.same {H H' : Hp} {e C : Addr} {fs : Option (List (Str × V))} (h : ErrX H e C fs) (s : Same H H') : ErrX H' e C fs := by
  cases fs with
  | none => exact s _ _ h
  | some l => obtain ⟨d, h1, h2⟩ := h; exact ⟨d, s _ _ h1, s _ _ h2⟩
theorem errx_new {H : Hp} {e d C : Addr} {l : List (Str × V)} (ne : H e = none) (nd : H d = none) (n : d ≠ e) : Same H (upd (upd H d (.xd l)) e (EO e C (some d))) ∧ ErrX (upd (upd H d (.xd l)) e (EO e C (some d))) e C (some l) :=
  ⟨fun b o q => by rw [upd_ne (ne_of_none q ne), upd_ne (ne_of_none q nd)]; exact q, d, upd_same, by rw [upd_ne n]; exact upd_same⟩
section
variable {X : Cx} {C fI : Addr} {cn pn : Str}
def tM1 (C : Addr) (pn : Str) (ta : TA) : TE := fun σ H Q => ta σ H fun vs H1 => ∃ v, vs = [v] ∧ ∀ e H', Same H1 H' → H1 e = none → ErrX H' e C (some [(pn, v)]) → Q (.ref e) H'
theorem pa_weak {es : List Expr} {t : TA} {t2 : TA} (h : PA X es t) (i : ∀ σ H Q, t2 σ H Q → t σ H Q) : PA X es t2 := ⟨fun pos pins s σ H Q I q => h.run pos pins s σ H Q I (i _ _ _ q)⟩
theorem pe_weak {e : Expr} {t t2 : TE} (h : PE X e t) (i : ∀ σ H Q, t2 σ H Q → t σ H Q) : PE X e t2 := ⟨fun pins s σ H Q I q => h.run pins s σ H Q I (i _ _ _ q)⟩
theorem pe_m1 {i : Nat} {y : Str} {py p pos : Pos} {k : Nat} (gC : X.mg cn = some (.ref C)) (B : EK X.K C) (T : Makes1 X.prog X.w X.K X.mg C pn) (hr : Room k X.A) (ha : PE X (.Name y py) (tVar i)) (hg : Gl X cn := by rfl) (hdb : (cn == ("__debug__" : Str)) = false := by decide) :
    PE X (.Call (.Name cn p) [.Name y py] [] pos) (tM1 C pn (tCons (tVar i) tNil)) :=
  pe_weak (pe_e1 gC B T hr (pa_cons ha pa_nil) hg hdb) fun σ H Q ⟨v, hv, v2, ev, q⟩ => ⟨v, hv, v2, ev, fun e d ne nd n => let ⟨s, x⟩ := errx_new ne nd n; q e _ s ne x⟩
def tM0 (C : Addr) : TE := fun σ H Q => ∀ e H', Same H H' → H e = none → ErrX H' e C none → Q (.ref e) H'
theorem pe_m0 {p pos : Pos} {k : Nat} (gC : X.mg cn = some (.ref C)) (B : EK X.K C) (T : Txt0 X.prog X.K X.mg cn C fI) (hr : Room k X.A) (hg : Gl X cn := by rfl) (hdb : (cn == ("__debug__" : Str)) = false := by decide) : PE X (.Call (.Name cn p) [] [] pos) (tM0 C) :=
  pe_weak (pe_e0 gC B T hr hg hdb) fun σ H Q q e ne => q e _ (fun b o z => by rw [upd_ne (ne_of_none z ne)]; exact z) ne upd_same
def tM2 (C : Addr) (v : V) (i : Nat) : TE := fun σ H Q => ∃ u, σ[i]? = some (some u) ∧ ∀ e H', Same H H' → H e = none → ErrX H' e C (some [("name", v), ("needed", u)]) → Q (.ref e) H'
theorem pe_m2 {i : Nat} {y x : Str} {py p pos ps : Pos} {j : Nat} {k : Nat} (gC : X.mg cn = some (.ref C)) (B : EK X.K C) (T : Txt2 X.prog X.K X.mg cn C fI) (hr : Room k X.A) (ha : PE X (.Name y py) (tVar i)) (hs : PE X (.Constant (.str x) j ps) (tC (.str x))) (hg : Gl X cn := by rfl) (hdb : (cn == ("__debug__" : Str)) = false := by decide) :
    PE X (.Call (.Name cn p) [.Constant (.str x) j ps, .Name y py] [] pos) (tM2 C (.str x) i) :=
  pe_weak (pe_e2 gC B T hr (pa_cons hs (pa_cons ha pa_nil)) hg hdb) fun σ H Q ⟨u, hu, q⟩ => ⟨u, hu, .str x, u, rfl, fun e d ne nd n => let ⟨s, x⟩ := errx_new ne nd n; q e _ s ne x⟩
def rIsX (K : PySem.W.Frag) : List V → Hp → VK → Prop := fun xs H Q => ∃ (a C : Addr) (fs : Option (List (Str × V))) (c : V) (u : Value) (b : Bool), xs = [.ref a, c] ∧ ErrX H a C fs ∧ EK K C ∧ ClsV c u ∧ PySem.W.kitOne K (.ref C) u = some b ∧ Q (.bl b) H
theorem call_isX : CallR X (.builtin "isinstance") (rIsX X.K) := by
  intro pins s σ H xs us Q I r h
  obtain ⟨a, C, fs, c, u, b, rfl, ha, B, k, e, q⟩ := h
  cases fs with
  | none => exact call_isE pins s σ H _ us Q I r ⟨a, C, none, c, u, b, rfl, ha, fun _ z => (nomatch z), B, k, e, q⟩
  | some l =>
    obtain ⟨d, h1, h2⟩ := ha
    exact call_isE pins s σ H _ us Q I r ⟨a, C, some d, c, u, b, rfl, h1, fun dd z => by cases z; exact ⟨l, h2⟩, B, k, e, q⟩
def tXA (K : PySem.W.Frag) (te : TE) (f : Str) : TE := fun σ H Q => te σ H fun x H1 => ∃ a C fs v, x = .ref a ∧ ErrX H1 a C (some fs) ∧ EK K C ∧ PySem.W.findIn K (.ref C) f = some none ∧ List.lookup f fs = some v ∧ Q v H1
end
end SupE
namespace SupE
open PySem PySem.Spec PyProof.Rows L2
theorem pe_xa {X : Cx} {e : Expr} {te : TE} {f : Str} {pos : Pos} (he : PE X e te) (hb : attributeBase e f X.env (eval e X.env) = eval e X.env := by rfl) : PE X (.Attribute e f pos) (tXA X.K te f) := by
  refine ⟨fun pins s σ H Q I h => ?_⟩
  refine attr_of hb (thn (he.run pins s σ H _ I h) fun u s1 hh => ?_)
  obtain ⟨x, H1, I1, rx, a, C, fs, v, ex, ⟨dd, ha, hd⟩, B, nf, hl, q⟩ := hh
  subst ex
  obtain rfl : u = Value.ref a := rx
  obtain ⟨⟨oe, vs, h1, h2, h3, h4⟩, _, _⟩ := (show ObjOk X.prog X.w H1 s1.heap a (EO a C (some dd)) from I1.hok a _ ha)
  obtain ⟨mA, hns, hr⟩ := (show ObjOk X.prog X.w H1 s1.heap dd (.xd fs) from I1.hok dd _ hd)
  obtain ⟨od, ho, hll⟩ := lookIn_ns hns
  obtain ⟨u, hu, ru⟩ := RelO.some_of (v := v) (o := mA f) (by rw [← hl]; exact hr f)
  have J : PySem.W.InstAt s1.heap a oe C (some od) := ⟨h1, h2, by unfold PySem.W.notCls; rw [h4] <;> rfl, by rw [h3]; exact ho⟩
  exact HandSPX.exc_get I1.kIn J B.ga B.gg B.exC (PySem.W.findObj_own B.hdC nf rfl (by rw [hll, hu])) (handed_of ru) ⟨v, H1, I1.tok _, ru, q⟩
end SupE

set_option maxHeartbeats 4000000
namespace K30
open PySem PySem.Spec PyProof.Rows L2 SupE
def top (i : Nat) : Stmt := PySem.Challenge.pw_stoppoints_k30_errors_told.main.body.getD i (.Pass ⟨0, 0, 0, 0⟩)
abbrev sPool : Stmt := top 26
abbrev sDraw : Stmt := top 27
abbrev sChoose : Stmt := top 28
abbrev sKinds : Stmt := top 29
abbrev sLaw : Stmt := top 30
theorem ifn {c : Bool} {A B : Prop} (hc : c = false) (h : B) : if c = true then A else B := by rw [hc, if_neg Bool.false_ne_true]; exact h
theorem ift {c : Bool} {A B : Prop} (hc : c = true) (h : A) : if c = true then A else B := by rw [if_pos hc]; exact h
/-- a def of the module's top; a method of the class at C -/
structure Df (K : PySem.W.Frag) (mg : Str → Option Value) (x : Str) (st : Stmt) (ps : List Str) (f : Addr) (fd : FuncData) : Prop where
  fn : Fun K x x st f fd
  gl : mg x = some (.ref f)
  bd : Binds K fd ps []
/-- a pool at p -/
def PoolAt (H : Hp) (p : Addr) : Prop := ∃ c s : Int, H p = some (.lst [.int c, .int s])
def spPool (K : PySem.W.Frag) : Sp := fun vs H Q _ => ∃ (a : Addr) (ns : List Int) (k : Nat), vs = [.ref a, .int k] ∧ SqL K H a (ns.map V.int) ∧ k ≤ 5 ∧ ∀ p H', Same H H' → H p = none → PoolAt H' p → Q (.ref p) H'
/-- but for the pool at p all stands -/
def But (p : Addr) (H H' : Hp) : Prop := (∀ b o, b ≠ p → H b = some o → H' b = some o) ∧ PoolAt H' p
def spDraw : Sp := fun vs H Q _ => ∃ (p : Addr) (m : Int), vs = [.ref p, .int m] ∧ PoolAt H p ∧ 0 < m ∧ m < 1073741824 ∧ ∀ d H', 0 ≤ d → d < m → But p H H' → Q (.int d) H'
def spChoose : Sp := fun vs H Q _ => ∃ (p l : Addr) (xs : List V), vs = [.ref p, .ref l] ∧ PoolAt H p ∧ H l = some (.lst xs) ∧ l ≠ p ∧ 0 < xs.length ∧ xs.length ≤ 100 ∧ ∀ v ∈ xs, ∀ H', But p H H' → Q v H'
structure LTxt (mg : Str → Option Value) : Prop where
  len : mg "len" = none
  int : mg "int" = none
section
variable {P : Program} {w : World} {K : PySem.W.Frag} {mg : Str → Option Value} {base : Heap} {CS CE fE : Addr}
theorem scPool : FnScope ["script", "k", "cell", "seed"] ["script", "k"] (defScope sPool) := ⟨rfl, rfl, rfl, by decide +kernel, rfl, by decide +kernel, by decide +kernel⟩
theorem ok_pool {f : Addr} {fd : FuncData} (F : Fun K "_law_pool" "_law_pool" sPool f fd) (T : LTxt mg) : FnOk P w K mg base CX0 1 f fd ["script", "k"] (spPool K) := by
  refine F.ok scPool (fun vs H Q E h => ?_) (fun cdv A outer s H vs Q E hr h => ?_)
  · obtain ⟨a, ns, k, rfl, _⟩ := h; rfl
  · obtain ⟨a, ns, k, rfl, hl, hk, q⟩ := h
    refine ⟨_, pss_cons (ps_set (i := 2) scPool.nd rfl (Or.inl rfl) pe_int)
      (pss_cons (ps_if (pt_cmpR op_lt (pv 1) (pe_callB call_len_seq (by rfl) T.len PySem.boot_len (pa_cons (pv 0) pa_nil)) (nomark _)) (pss_one (ps_set (i := 2) scPool.nd rfl (Or.inl rfl) (pe_ix ix_list (pv 0) (pv 1) (fun _ _ => rfl)))) pss_nil)
      (pss_cons (ps_set (i := 3) scPool.nd rfl (Or.inl rfl) (pe_op op_mod (pe_op op_pow (pe_op op_add (pe_op op_add (pe_op op_mod (pe_callTy call_int1 (by rfl) T.int (by decide +kernel) (pa_cons (pv 2) pa_nil)) pe_int) (pe_op op_mul (pe_op op_mul pe_int (pv 1)) (pv 1))) pe_int) pe_int) pe_int))
      (pss_cons (ps_if (pt_cmpR op_lt (pv 2) (pe_op op_pow pe_int pe_int) (nomark _)) (pss_one (ps_set (i := 2) scPool.nd rfl (Or.inl rfl) pe_int)) pss_nil)
      (pss_one (ps_ret (pe_lst (pa_cons (pv 2) (pa_cons (pv 3) pa_nil)))))))), ?_⟩
    have small : ∀ c : Int, CPow (c % 2147483629 + 7919 * (k : Int) * (k : Int) + 31) 3 := fun c => by
      have h1 := Int.emod_nonneg c (show (2147483629 : Int) ≠ 0 by decide)
      have h2 := Int.emod_lt_of_pos c (show (0 : Int) < 2147483629 by decide)
      generalize c % 2147483629 = r at *
      refine ⟨by decide, by decide, ?_⟩
      rcases (by omega : k = 0 ∨ k = 1 ∨ k = 2 ∨ k = 3 ∨ k = 4 ∨ k = 5) with rfl | rfl | rfl | rfl | rfl | rfl <;> omega
    refine ⟨_, rfl, _, rfl, a, _, rfl, .inl hl, _, _, rfl, rfl, _, rfl, ?_⟩
    by_cases hlt : (k : Int) < ((ns.map V.int).length : Int)
    · obtain ⟨c, hc⟩ : ∃ c, (ns.map V.int)[k]? = some (V.int c) := by
        rw [List.length_map] at hlt
        have hk' : k < ns.length := by omega
        exact ⟨ns[k], by rw [List.getElem?_map, List.getElem?_eq_getElem hk']; rfl⟩
      refine ift (decide_eq_true hlt) ⟨_, rfl, _, rfl, a, _, _, _, rfl, rfl, hl, atI_nat hc, ?_⟩
      refine ⟨_, rfl, .inl ⟨_, rfl, _, _, rfl, rfl, (by decide : (0 : Int) < 2147483629), _, rfl, _, _, rfl, rfl, .inl (by decide), _, rfl, _, _, rfl, rfl, .inr (by omega), _, _, rfl, rfl, _, _, rfl, rfl, _, _, rfl, rfl, small c, _, _, rfl, rfl, (by decide : (0 : Int) < 2147483647), ?_⟩⟩
      refine ⟨_, rfl, _, _, rfl, rfl, ⟨by decide, by decide, by decide⟩, _, _, rfl, rfl, _, rfl, ite2 (fun _ => ?_) (fun _ => ?_)⟩
      · exact ⟨_, rfl, _, rfl, (by show 2 ≤ sizeLine; decide), fun p hp => q p _ (fun b o e => by rw [upd_ne (ne_of_none e hp)]; exact e) hp ⟨_, _, upd_same⟩⟩
      · exact ⟨_, rfl, _, rfl, (by show 2 ≤ sizeLine; decide), fun p hp => q p _ (fun b o e => by rw [upd_ne (ne_of_none e hp)]; exact e) hp ⟨_, _, upd_same⟩⟩
    · refine ifn (decide_eq_false hlt) ?_
      refine ⟨_, rfl, .inl ⟨_, rfl, _, _, rfl, rfl, (by decide : (0 : Int) < 2147483629), _, rfl, _, _, rfl, rfl, .inl (by decide), _, rfl, _, _, rfl, rfl, .inr (by omega), _, _, rfl, rfl, _, _, rfl, rfl, _, _, rfl, rfl, small 0, _, _, rfl, rfl, (by decide : (0 : Int) < 2147483647), ?_⟩⟩
      refine ⟨_, rfl, _, _, rfl, rfl, ⟨by decide, by decide, by decide⟩, _, _, rfl, rfl, _, rfl, ite2 (fun _ => ?_) (fun _ => ?_)⟩
      · exact ⟨_, rfl, _, rfl, (by show 2 ≤ sizeLine; decide), fun p hp => q p _ (fun b o e => by rw [upd_ne (ne_of_none e hp)]; exact e) hp ⟨_, _, upd_same⟩⟩
      · exact ⟨_, rfl, _, rfl, (by show 2 ≤ sizeLine; decide), fun p hp => q p _ (fun b o e => by rw [upd_ne (ne_of_none e hp)]; exact e) hp ⟨_, _, upd_same⟩⟩
theorem scDraw : FnScope ["pool", "many", "digit"] ["pool", "many"] (defScope sDraw) := ⟨rfl, rfl, rfl, by decide +kernel, rfl, by decide +kernel, by decide +kernel⟩
theorem ok_draw {f : Addr} {fd : FuncData} (F : Fun K "_law_draw" "_law_draw" sDraw f fd) (T : LTxt mg) : FnOk P w K mg base CX0 1 f fd ["pool", "many"] spDraw := by
  refine F.ok scDraw (fun vs H Q E h => ?_) (fun cdv A outer s H vs Q E hr h => ?_)
  · obtain ⟨p, m, rfl, _⟩ := h; rfl
  · obtain ⟨p, m, rfl, ⟨c, s, hp⟩, hm, hm2, q⟩ := h
    refine ⟨_, pss_cons (ps_if (pt_cmpR op_gt (pe_ix ix_list (pv 0) pe_int (fun _ _ => rfl)) pe_int (nomark _))
        (pss_cons (ps_set (i := 2) scDraw.nd rfl (Or.inl rfl) (pe_op op_mod (pe_callTy call_int1 (by rfl) T.int (by decide +kernel) (pa_cons (pe_ix ix_list (pv 0) pe_int (fun _ _ => rfl)) pa_nil)) (pv 1)))
        (pss_cons (ps_asg (pe_op op_fdiv (pe_ix ix_list (pv 0) pe_int (fun _ _ => rfl)) (pv 1)) (pg_sub (pv 0) pe_int set_list)) (pss_one (ps_ret (pv 2))))) pss_nil)
      (pss_cons (ps_asg (pe_op op_mod (pe_callTy call_int1 (by rfl) T.int (by decide +kernel) (pa_cons (pe_op op_add (pe_op op_mul (pe_ix ix_list (pv 0) pe_int (fun _ _ => rfl)) pe_int) pe_int) pa_nil)) pe_int) (pg_sub (pv 0) pe_int set_list))
      (pss_one (ps_ret (pe_op op_mod (pe_op op_fdiv (pe_op op_mod (pe_callTy call_int1 (by rfl) T.int (by decide +kernel) (pa_cons (pe_op op_mul (pe_ix ix_list (pv 0) pe_int (fun _ _ => rfl)) (pe_ix ix_list (pv 0) pe_int (fun _ _ => rfl))) pa_nil)) pe_int) pe_int) (pv 1))))), ?_⟩
    have at0 : ∀ {x y : V}, atI [x, y] (0 : Int) = some x := fun {x y} => atI_nat (j := 0) rfl
    have at1 : ∀ {x y : V}, atI [x, y] (1 : Int) = some y := fun {x y} => atI_nat (j := 1) rfl
    refine ⟨_, rfl, p, _, _, _, rfl, rfl, SqL.of hp, at0, _, _, rfl, rfl, _, rfl, ite2 (fun _ => ?_) (fun _ => ?_)⟩
    · refine ⟨_, rfl, p, _, _, _, rfl, rfl, SqL.of hp, at0, .inl ⟨_, rfl, _, rfl, _, _, rfl, rfl, hm, ?_⟩⟩
      refine ⟨_, rfl, p, _, _, _, rfl, rfl, SqL.of hp, at0, _, rfl, _, _, rfl, rfl, ⟨hm, hm2⟩, _, rfl, p, _, _, 0, rfl, rfl, hp, rfl, ?_⟩
      exact ⟨_, rfl, q _ _ (Int.emod_nonneg _ (by omega)) (Int.emod_lt_of_pos _ hm) ⟨fun b o hb e => by rw [upd_ne hb]; exact e, ⟨_, _, upd_same⟩⟩⟩
    · refine ⟨_, rfl, p, _, _, _, rfl, rfl, SqL.of hp, at1, _, _, rfl, rfl, .inr (by decide), _, _, rfl, rfl, .inl ⟨_, rfl, _, _, rfl, rfl, (by decide : (0 : Int) < 2147483647), ?_⟩⟩
      refine ⟨_, rfl, p, _, _, 1, rfl, rfl, hp, rfl, ?_⟩
      have h1 := Int.emod_nonneg (s * 48271 + 11) (show (2147483647 : Int) ≠ 0 by decide)
      have h2 := Int.emod_lt_of_pos (s * 48271 + 11) (show (0 : Int) < 2147483647 by decide)
      refine ⟨_, rfl, p, _, _, _, rfl, rfl, SqL.of upd_same, at1, _, rfl, p, _, _, _, rfl, rfl, SqL.of upd_same, at1, _, _, rfl, rfl, .inl ⟨by omega, by omega⟩, .inl ⟨_, rfl, _, _, rfl, rfl, (by decide : (0 : Int) < 2147483629), _, _, rfl, rfl, ⟨by decide, by decide⟩, _, rfl, _, _, rfl, rfl, hm, ?_⟩⟩
      exact q _ _ (Int.emod_nonneg _ (by omega)) (Int.emod_lt_of_pos _ hm) ⟨fun b o hb e => by rw [upd_ne hb]; exact e, ⟨_, _, upd_same⟩⟩
theorem scChoose : FnScope ["pool", "items"] ["pool", "items"] (defScope sChoose) := ⟨rfl, rfl, rfl, by decide +kernel, rfl, by decide +kernel, by decide +kernel⟩
theorem ok_choose {f g : Addr} {fd fdG : FuncData} (F : Fun K "_law_choose" "_law_choose" sChoose f fd) (T : LTxt mg) (D : Df K mg "_law_draw" sDraw ["pool", "many"] g fdG) : FnOk P w K mg base CX0 2 f fd ["pool", "items"] spChoose := by
  have GD : FnOk P w K mg base CX0 1 g fdG ["pool", "many"] spDraw := ok_draw D.fn T
  refine F.ok scChoose (fun vs H Q E h => ?_) (fun cdv A outer s H vs Q E hr h => ?_)
  · obtain ⟨p, l, xs, rfl, _⟩ := h; rfl
  · obtain ⟨p, l, xs, rfl, hp, hl, hlp, h0, h1, q⟩ := h
    refine ⟨_, pss_one (ps_ret (pe_ix ix_list (pv 1) (pe_call GD hr (by rfl) D.gl D.fn.kp D.bd .nil pass0 (pa_cons (pv 0) (pa_cons (pe_callB call_len_seq (by rfl) T.len PySem.boot_len (pa_cons (pv 1) pa_nil)) pa_nil))) (fun _ _ => rfl))), ?_⟩
    refine ⟨_, rfl, _, rfl, _, rfl, l, _, rfl, .inl (SqL.of hl), p, _, rfl, hp, by omega, by omega, fun d H' d0 d1 bt => ?_⟩
    have hd : d.toNat < xs.length := by omega
    have e : xs[d.toNat]? = some xs[d.toNat] := List.getElem?_eq_getElem hd
    have ea : atI xs d = some xs[d.toNat] := by
      have z := atI_nat e
      rwa [Int.toNat_of_nonneg d0] at z
    exact ⟨l, xs, d, _, rfl, rfl, SqL.of (bt.1 l _ hlp hl), ea, q _ (List.getElem_mem hd) H' bt⟩
end
end K30

set_option maxHeartbeats 16000000
namespace K30
open PySem PySem.Spec PyProof.Rows L2 SupE
abbrev cl : List Addr := [46, 67, 88, 109, 130, 151, 172, 193, 214, 235, 256, 277, 298, 319, 340, 361, 382, 403, 424, 445, 466, 487, 508]
abbrev cA (i : Nat) : Addr := cl.getD i 0
/-- what the law asks of the text -/
structure Tx (P : Program) (w : World) (K : PySem.W.Frag) (mg : Str → Option Value) : Prop where
  isi : mg "isinstance" = none
  len : mg "len" = none
  range : mg "range" = none
  enum : mg "enumerate" = none
  ve : mg "ValueError" = none
  gS : mg "StopError" = some (.ref 24)
  ek : ∀ i, i < 23 → EK K (cA i)
  kit : ∀ i, i < 23 → ∀ j, j < 23 → PySem.W.kitOne K (.ref (cA i)) (.ref (cA j)) = some (decide (i = j))
  kitS : ∀ i, i < 23 → PySem.W.kitOne K (.ref (cA i)) (.ref 24) = some true
  kitV : ∀ i, i < 23 → PySem.W.kitOne K (.ref (cA i)) (.type "ValueError") = some true
  g0 : mg "InvalidTime" = some (.ref 46)
  g1 : mg "InvalidName" = some (.ref 67)
  g2 : mg "InvalidTurns" = some (.ref 88)
  g3 : mg "InvalidCode" = some (.ref 109)
  g4 : mg "InvalidText" = some (.ref 130)
  g5 : mg "InvalidFunctions" = some (.ref 151)
  g6 : mg "UnknownName" = some (.ref 172)
  g7 : mg "InvalidChoice" = some (.ref 193)
  g8 : mg "LimitExceeded" = some (.ref 214)
  g9 : mg "InvalidNumber" = some (.ref 235)
  g10 : mg "InvalidTrail" = some (.ref 256)
  g11 : mg "InvalidPlace" = some (.ref 277)
  g12 : mg "InvalidRule" = some (.ref 298)
  g13 : mg "InvalidLimit" = some (.ref 319)
  g14 : mg "InvalidCosts" = some (.ref 340)
  g15 : mg "InvalidLoop" = some (.ref 361)
  g16 : mg "CannotInline" = some (.ref 382)
  g17 : mg "OverLimit" = some (.ref 403)
  g18 : mg "NothingToUndo" = some (.ref 424)
  g19 : mg "NothingToRedo" = some (.ref 445)
  g20 : mg "InvalidLine" = some (.ref 466)
  g21 : mg "InvalidCommand" = some (.ref 487)
  g22 : mg "InvalidProgram" = some (.ref 508)
  m0 : Makes1 P w K mg 46 "value"
  n0 : PySem.W.findIn K (.ref 46) "value" = some none
  m1 : Makes1 P w K mg 67 "value"
  n1 : PySem.W.findIn K (.ref 67) "value" = some none
  m2 : Makes1 P w K mg 88 "value"
  n2 : PySem.W.findIn K (.ref 88) "value" = some none
  m3 : Makes1 P w K mg 109 "value"
  n3 : PySem.W.findIn K (.ref 109) "value" = some none
  m4 : Makes1 P w K mg 130 "text"
  n4 : PySem.W.findIn K (.ref 130) "text" = some none
  m5 : Makes1 P w K mg 151 "name"
  n5 : PySem.W.findIn K (.ref 151) "name" = some none
  m6 : Makes1 P w K mg 172 "name"
  n6 : PySem.W.findIn K (.ref 172) "name" = some none
  m7 : Makes1 P w K mg 193 "index"
  n7 : PySem.W.findIn K (.ref 193) "index" = some none
  m8 : Makes1 P w K mg 214 "limit"
  n8 : PySem.W.findIn K (.ref 214) "limit" = some none
  m9 : Makes1 P w K mg 235 "value"
  n9 : PySem.W.findIn K (.ref 235) "value" = some none
  m10 : Makes1 P w K mg 256 "index"
  n10 : PySem.W.findIn K (.ref 256) "index" = some none
  m11 : Makes1 P w K mg 277 "value"
  n11 : PySem.W.findIn K (.ref 277) "value" = some none
  m12 : Makes1 P w K mg 298 "value"
  n12 : PySem.W.findIn K (.ref 298) "value" = some none
  m13 : Makes1 P w K mg 319 "value"
  n13 : PySem.W.findIn K (.ref 319) "value" = some none
  m14 : Makes1 P w K mg 340 "value"
  n14 : PySem.W.findIn K (.ref 340) "value" = some none
  m15 : Makes1 P w K mg 361 "value"
  n15 : PySem.W.findIn K (.ref 361) "value" = some none
  m16 : Makes1 P w K mg 382 "name"
  n16 : PySem.W.findIn K (.ref 382) "name" = some none
  m20 : Makes1 P w K mg 466 "index"
  n20 : PySem.W.findIn K (.ref 466) "index" = some none
  m21 : Makes1 P w K mg 487 "command"
  n21 : PySem.W.findIn K (.ref 487) "command" = some none
  m22 : Makes1 P w K mg 508 "value"
  n22 : PySem.W.findIn K (.ref 508) "value" = some none
  m17 : ∃ f, Txt2 P K mg "OverLimit" 403 f
  n17a : PySem.W.findIn K (.ref 403) "name" = some none
  n17b : PySem.W.findIn K (.ref 403) "needed" = some none
  m18 : ∃ f, Txt0 P K mg "NothingToUndo" 424 f
  m19 : ∃ f, Txt0 P K mg "NothingToRedo" 445 f
def kinds (i : Nat) : List V := (List.range 23).map fun j => V.bl (decide (i = j))
def spKinds : Sp := fun vs H Q _ => ∃ (a : Addr) (i : Nat) (fs : Option (List (Str × V))), vs = [.ref a] ∧ i < 23 ∧ ErrX H a (cA i) fs ∧ ∀ l H', Same H H' → H' l = some (.lst (kinds i)) → Q (.ref l) H'
theorem same_new {H : Hp} {l : Addr} {o : HO} (h : H l = none) : Same H (upd H l o) := fun b u e => by rw [upd_ne (ne_of_none e h)]; exact e
theorem grow {H Hk : Hp} {p : Addr} {o : HO} (x : Same H Hk) (h : Hk p = none) : Same H (upd Hk p o) ∧ (upd Hk p o) p = some o := ⟨x.trans (same_new h), upd_same⟩
section
variable {P : Program} {w : World} {K : PySem.W.Frag} {mg : Str → Option Value} {base : Heap}
theorem scKinds : FnScope ["e", "kinds"] ["e"] (defScope sKinds) := ⟨rfl, rfl, rfl, by decide +kernel, rfl, by decide +kernel, by decide +kernel⟩
theorem ok_kinds {f : Addr} {fd : FuncData} (F : Fun K "_law_kinds" "_law_kinds" sKinds f fd) (T : Tx P w K mg) : FnOk P w K mg base CX0 1 f fd ["e"] spKinds := by
  refine F.ok scKinds (fun vs H Q E h => ?_) (fun cdv A outer s H vs Q E hr h => ?_)
  · obtain ⟨a, i, fs, rfl, _⟩ := h; rfl
  · obtain ⟨a, i, fs, rfl, hi, hE, q⟩ := h
    have B := T.ek i hi
    have nd := scKinds.nd
    refine ⟨_, (pss_cons (ps_set (i := 1) nd rfl (Or.inl rfl) (pe_lst (pa_cons (pe_callB call_isX (by rfl) T.isi (by decide +kernel) (pa_cons (pv 0) (pa_cons (pe_glob (v := .ref 46) (by rfl) T.g0 rfl) pa_nil))) (pa_cons (pe_callB call_isX (by rfl) T.isi (by decide +kernel) (pa_cons (pv 0) (pa_cons (pe_glob (v := .ref 67) (by rfl) T.g1 rfl) pa_nil))) (pa_cons (pe_callB call_isX (by rfl) T.isi (by decide +kernel) (pa_cons (pv 0) (pa_cons (pe_glob (v := .ref 88) (by rfl) T.g2 rfl) pa_nil))) pa_nil)))))
      (pss_cons (ps_set (i := 1) nd rfl (Or.inl rfl) (pe_op op_cat (pv 1) (pe_lst (pa_cons (pe_callB call_isX (by rfl) T.isi (by decide +kernel) (pa_cons (pv 0) (pa_cons (pe_glob (v := .ref 109) (by rfl) T.g3 rfl) pa_nil))) (pa_cons (pe_callB call_isX (by rfl) T.isi (by decide +kernel) (pa_cons (pv 0) (pa_cons (pe_glob (v := .ref 130) (by rfl) T.g4 rfl) pa_nil))) (pa_cons (pe_callB call_isX (by rfl) T.isi (by decide +kernel) (pa_cons (pv 0) (pa_cons (pe_glob (v := .ref 151) (by rfl) T.g5 rfl) pa_nil))) pa_nil))))))
      (pss_cons (ps_set (i := 1) nd rfl (Or.inl rfl) (pe_op op_cat (pv 1) (pe_lst (pa_cons (pe_callB call_isX (by rfl) T.isi (by decide +kernel) (pa_cons (pv 0) (pa_cons (pe_glob (v := .ref 172) (by rfl) T.g6 rfl) pa_nil))) (pa_cons (pe_callB call_isX (by rfl) T.isi (by decide +kernel) (pa_cons (pv 0) (pa_cons (pe_glob (v := .ref 193) (by rfl) T.g7 rfl) pa_nil))) (pa_cons (pe_callB call_isX (by rfl) T.isi (by decide +kernel) (pa_cons (pv 0) (pa_cons (pe_glob (v := .ref 214) (by rfl) T.g8 rfl) pa_nil))) pa_nil))))))
      (pss_cons (ps_set (i := 1) nd rfl (Or.inl rfl) (pe_op op_cat (pv 1) (pe_lst (pa_cons (pe_callB call_isX (by rfl) T.isi (by decide +kernel) (pa_cons (pv 0) (pa_cons (pe_glob (v := .ref 235) (by rfl) T.g9 rfl) pa_nil))) (pa_cons (pe_callB call_isX (by rfl) T.isi (by decide +kernel) (pa_cons (pv 0) (pa_cons (pe_glob (v := .ref 256) (by rfl) T.g10 rfl) pa_nil))) (pa_cons (pe_callB call_isX (by rfl) T.isi (by decide +kernel) (pa_cons (pv 0) (pa_cons (pe_glob (v := .ref 277) (by rfl) T.g11 rfl) pa_nil))) pa_nil))))))
      (pss_cons (ps_set (i := 1) nd rfl (Or.inl rfl) (pe_op op_cat (pv 1) (pe_lst (pa_cons (pe_callB call_isX (by rfl) T.isi (by decide +kernel) (pa_cons (pv 0) (pa_cons (pe_glob (v := .ref 298) (by rfl) T.g12 rfl) pa_nil))) (pa_cons (pe_callB call_isX (by rfl) T.isi (by decide +kernel) (pa_cons (pv 0) (pa_cons (pe_glob (v := .ref 319) (by rfl) T.g13 rfl) pa_nil))) (pa_cons (pe_callB call_isX (by rfl) T.isi (by decide +kernel) (pa_cons (pv 0) (pa_cons (pe_glob (v := .ref 340) (by rfl) T.g14 rfl) pa_nil))) pa_nil))))))
      (pss_cons (ps_set (i := 1) nd rfl (Or.inl rfl) (pe_op op_cat (pv 1) (pe_lst (pa_cons (pe_callB call_isX (by rfl) T.isi (by decide +kernel) (pa_cons (pv 0) (pa_cons (pe_glob (v := .ref 361) (by rfl) T.g15 rfl) pa_nil))) (pa_cons (pe_callB call_isX (by rfl) T.isi (by decide +kernel) (pa_cons (pv 0) (pa_cons (pe_glob (v := .ref 382) (by rfl) T.g16 rfl) pa_nil))) (pa_cons (pe_callB call_isX (by rfl) T.isi (by decide +kernel) (pa_cons (pv 0) (pa_cons (pe_glob (v := .ref 403) (by rfl) T.g17 rfl) pa_nil))) pa_nil))))))
      (pss_cons (ps_set (i := 1) nd rfl (Or.inl rfl) (pe_op op_cat (pv 1) (pe_lst (pa_cons (pe_callB call_isX (by rfl) T.isi (by decide +kernel) (pa_cons (pv 0) (pa_cons (pe_glob (v := .ref 424) (by rfl) T.g18 rfl) pa_nil))) (pa_cons (pe_callB call_isX (by rfl) T.isi (by decide +kernel) (pa_cons (pv 0) (pa_cons (pe_glob (v := .ref 445) (by rfl) T.g19 rfl) pa_nil))) (pa_cons (pe_callB call_isX (by rfl) T.isi (by decide +kernel) (pa_cons (pv 0) (pa_cons (pe_glob (v := .ref 466) (by rfl) T.g20 rfl) pa_nil))) pa_nil))))))
      (pss_one (ps_ret (pe_op op_cat (pv 1) (pe_lst (pa_cons (pe_callB call_isX (by rfl) T.isi (by decide +kernel) (pa_cons (pv 0) (pa_cons (pe_glob (v := .ref 487) (by rfl) T.g21 rfl) pa_nil))) (pa_cons (pe_callB call_isX (by rfl) T.isi (by decide +kernel) (pa_cons (pv 0) (pa_cons (pe_glob (v := .ref 508) (by rfl) T.g22 rfl) pa_nil))) pa_nil))))))))))))), ?_⟩
    refine ⟨_, rfl, a, cA i, fs, .ref 46, .ref 46, _, rfl, hE, B, .own _, T.kit i hi 0 (by decide), _, rfl, a, cA i, fs, .ref 67, .ref 67, _, rfl, hE, B, .own _, T.kit i hi 1 (by decide), _, rfl, a, cA i, fs, .ref 88, .ref 88, _, rfl, hE, B, .own _, T.kit i hi 2 (by decide), (by show 3 ≤ sizeLine; decide), fun l0 h0 => ?_⟩
    have x1 : Same H _ := same_new (o := .lst [.bl (decide (i = 0)), .bl (decide (i = 1)), .bl (decide (i = 2))]) h0
    have z1 : (upd H l0 (.lst [.bl (decide (i = 0)), .bl (decide (i = 1)), .bl (decide (i = 2))])) l0 = some (.lst [.bl (decide (i = 0)), .bl (decide (i = 1)), .bl (decide (i = 2))]) := upd_same
    refine ⟨_, rfl, _, rfl, a, cA i, fs, .ref 109, .ref 109, _, rfl, (hE.same x1), B, .own _, T.kit i hi 3 (by decide), _, rfl, a, cA i, fs, .ref 130, .ref 130, _, rfl, (hE.same x1), B, .own _, T.kit i hi 4 (by decide), _, rfl, a, cA i, fs, .ref 151, .ref 151, _, rfl, (hE.same x1), B, .own _, T.kit i hi 5 (by decide), (by show 3 ≤ sizeLine; decide), fun l1 h1 => ?_⟩
    have y1 := x1.trans (same_new (o := .lst [.bl (decide (i = 3)), .bl (decide (i = 4)), .bl (decide (i = 5))]) h1)
    refine ⟨l0, l1, _, _, rfl, rfl, (upd_ne (ne_of_none z1 h1)).trans z1, upd_same, (by show 3 + 3 ≤ sizeLine; decide), fun p1 k1 => ?_⟩
    obtain ⟨x2, z2⟩ := grow (o := .lst ([V.bl (decide (i = 0)), V.bl (decide (i = 1)), V.bl (decide (i = 2))] ++ [V.bl (decide (i = 3)), V.bl (decide (i = 4)), V.bl (decide (i = 5))])) y1 k1
    refine ⟨_, rfl, _, rfl, a, cA i, fs, .ref 172, .ref 172, _, rfl, (hE.same x2), B, .own _, T.kit i hi 6 (by decide), _, rfl, a, cA i, fs, .ref 193, .ref 193, _, rfl, (hE.same x2), B, .own _, T.kit i hi 7 (by decide), _, rfl, a, cA i, fs, .ref 214, .ref 214, _, rfl, (hE.same x2), B, .own _, T.kit i hi 8 (by decide), (by show 3 ≤ sizeLine; decide), fun l2 h2 => ?_⟩
    have y2 := x2.trans (same_new (o := .lst [.bl (decide (i = 6)), .bl (decide (i = 7)), .bl (decide (i = 8))]) h2)
    refine ⟨p1, l2, _, _, rfl, rfl, (upd_ne (ne_of_none z2 h2)).trans z2, upd_same, (by show 6 + 3 ≤ sizeLine; decide), fun p2 k2 => ?_⟩
    obtain ⟨x3, z3⟩ := grow (o := .lst ([V.bl (decide (i = 0)), V.bl (decide (i = 1)), V.bl (decide (i = 2))] ++ [V.bl (decide (i = 3)), V.bl (decide (i = 4)), V.bl (decide (i = 5))] ++ [V.bl (decide (i = 6)), V.bl (decide (i = 7)), V.bl (decide (i = 8))])) y2 k2
    refine ⟨_, rfl, _, rfl, a, cA i, fs, .ref 235, .ref 235, _, rfl, (hE.same x3), B, .own _, T.kit i hi 9 (by decide), _, rfl, a, cA i, fs, .ref 256, .ref 256, _, rfl, (hE.same x3), B, .own _, T.kit i hi 10 (by decide), _, rfl, a, cA i, fs, .ref 277, .ref 277, _, rfl, (hE.same x3), B, .own _, T.kit i hi 11 (by decide), (by show 3 ≤ sizeLine; decide), fun l3 h3 => ?_⟩
    have y3 := x3.trans (same_new (o := .lst [.bl (decide (i = 9)), .bl (decide (i = 10)), .bl (decide (i = 11))]) h3)
    refine ⟨p2, l3, _, _, rfl, rfl, (upd_ne (ne_of_none z3 h3)).trans z3, upd_same, (by show 9 + 3 ≤ sizeLine; decide), fun p3 k3 => ?_⟩
    obtain ⟨x4, z4⟩ := grow (o := .lst ([V.bl (decide (i = 0)), V.bl (decide (i = 1)), V.bl (decide (i = 2))] ++ [V.bl (decide (i = 3)), V.bl (decide (i = 4)), V.bl (decide (i = 5))] ++ [V.bl (decide (i = 6)), V.bl (decide (i = 7)), V.bl (decide (i = 8))] ++ [V.bl (decide (i = 9)), V.bl (decide (i = 10)), V.bl (decide (i = 11))])) y3 k3
    refine ⟨_, rfl, _, rfl, a, cA i, fs, .ref 298, .ref 298, _, rfl, (hE.same x4), B, .own _, T.kit i hi 12 (by decide), _, rfl, a, cA i, fs, .ref 319, .ref 319, _, rfl, (hE.same x4), B, .own _, T.kit i hi 13 (by decide), _, rfl, a, cA i, fs, .ref 340, .ref 340, _, rfl, (hE.same x4), B, .own _, T.kit i hi 14 (by decide), (by show 3 ≤ sizeLine; decide), fun l4 h4 => ?_⟩
    have y4 := x4.trans (same_new (o := .lst [.bl (decide (i = 12)), .bl (decide (i = 13)), .bl (decide (i = 14))]) h4)
    refine ⟨p3, l4, _, _, rfl, rfl, (upd_ne (ne_of_none z4 h4)).trans z4, upd_same, (by show 12 + 3 ≤ sizeLine; decide), fun p4 k4 => ?_⟩
    obtain ⟨x5, z5⟩ := grow (o := .lst ([V.bl (decide (i = 0)), V.bl (decide (i = 1)), V.bl (decide (i = 2))] ++ [V.bl (decide (i = 3)), V.bl (decide (i = 4)), V.bl (decide (i = 5))] ++ [V.bl (decide (i = 6)), V.bl (decide (i = 7)), V.bl (decide (i = 8))] ++ [V.bl (decide (i = 9)), V.bl (decide (i = 10)), V.bl (decide (i = 11))] ++ [V.bl (decide (i = 12)), V.bl (decide (i = 13)), V.bl (decide (i = 14))])) y4 k4
    refine ⟨_, rfl, _, rfl, a, cA i, fs, .ref 361, .ref 361, _, rfl, (hE.same x5), B, .own _, T.kit i hi 15 (by decide), _, rfl, a, cA i, fs, .ref 382, .ref 382, _, rfl, (hE.same x5), B, .own _, T.kit i hi 16 (by decide), _, rfl, a, cA i, fs, .ref 403, .ref 403, _, rfl, (hE.same x5), B, .own _, T.kit i hi 17 (by decide), (by show 3 ≤ sizeLine; decide), fun l5 h5 => ?_⟩
    have y5 := x5.trans (same_new (o := .lst [.bl (decide (i = 15)), .bl (decide (i = 16)), .bl (decide (i = 17))]) h5)
    refine ⟨p4, l5, _, _, rfl, rfl, (upd_ne (ne_of_none z5 h5)).trans z5, upd_same, (by show 15 + 3 ≤ sizeLine; decide), fun p5 k5 => ?_⟩
    obtain ⟨x6, z6⟩ := grow (o := .lst ([V.bl (decide (i = 0)), V.bl (decide (i = 1)), V.bl (decide (i = 2))] ++ [V.bl (decide (i = 3)), V.bl (decide (i = 4)), V.bl (decide (i = 5))] ++ [V.bl (decide (i = 6)), V.bl (decide (i = 7)), V.bl (decide (i = 8))] ++ [V.bl (decide (i = 9)), V.bl (decide (i = 10)), V.bl (decide (i = 11))] ++ [V.bl (decide (i = 12)), V.bl (decide (i = 13)), V.bl (decide (i = 14))] ++ [V.bl (decide (i = 15)), V.bl (decide (i = 16)), V.bl (decide (i = 17))])) y5 k5
    refine ⟨_, rfl, _, rfl, a, cA i, fs, .ref 424, .ref 424, _, rfl, (hE.same x6), B, .own _, T.kit i hi 18 (by decide), _, rfl, a, cA i, fs, .ref 445, .ref 445, _, rfl, (hE.same x6), B, .own _, T.kit i hi 19 (by decide), _, rfl, a, cA i, fs, .ref 466, .ref 466, _, rfl, (hE.same x6), B, .own _, T.kit i hi 20 (by decide), (by show 3 ≤ sizeLine; decide), fun l6 h6 => ?_⟩
    have y6 := x6.trans (same_new (o := .lst [.bl (decide (i = 18)), .bl (decide (i = 19)), .bl (decide (i = 20))]) h6)
    refine ⟨p5, l6, _, _, rfl, rfl, (upd_ne (ne_of_none z6 h6)).trans z6, upd_same, (by show 18 + 3 ≤ sizeLine; decide), fun p6 k6 => ?_⟩
    obtain ⟨x7, z7⟩ := grow (o := .lst ([V.bl (decide (i = 0)), V.bl (decide (i = 1)), V.bl (decide (i = 2))] ++ [V.bl (decide (i = 3)), V.bl (decide (i = 4)), V.bl (decide (i = 5))] ++ [V.bl (decide (i = 6)), V.bl (decide (i = 7)), V.bl (decide (i = 8))] ++ [V.bl (decide (i = 9)), V.bl (decide (i = 10)), V.bl (decide (i = 11))] ++ [V.bl (decide (i = 12)), V.bl (decide (i = 13)), V.bl (decide (i = 14))] ++ [V.bl (decide (i = 15)), V.bl (decide (i = 16)), V.bl (decide (i = 17))] ++ [V.bl (decide (i = 18)), V.bl (decide (i = 19)), V.bl (decide (i = 20))])) y6 k6
    refine ⟨_, rfl, _, rfl, a, cA i, fs, .ref 487, .ref 487, _, rfl, (hE.same x7), B, .own _, T.kit i hi 21 (by decide), _, rfl, a, cA i, fs, .ref 508, .ref 508, _, rfl, (hE.same x7), B, .own _, T.kit i hi 22 (by decide), (by show 2 ≤ sizeLine; decide), fun l7 h7 => ?_⟩
    have y7 := x7.trans (same_new (o := .lst [.bl (decide (i = 21)), .bl (decide (i = 22))]) h7)
    refine ⟨p6, l7, _, _, rfl, rfl, (upd_ne (ne_of_none z7 h7)).trans z7, upd_same, (by show 21 + 2 ≤ sizeLine; decide), fun p7 k7 => ?_⟩
    exact q p7 _ (y7.trans (same_new k7)) upd_same
end
end K30
set_option maxHeartbeats 16000000
namespace K30
open PySem PySem.Spec PyProof.Rows L2 SupE
/-- over enumerate of a list that the block leaves as it is -/
theorem lc_enum {K : PySem.W.Frag} {a : Addr} {xs : List V} {g : TG} {tt : TT} {te : TE} {vs : List Nat} {σ : L2.St} {H1 : Hp} {D : Addr} {Qd : Hp → Prop} (Pv : Nat → Hp → Prop) (h0 : Pv 0 (upd H1 D (.lst []))) (hl : ∀ i H, i ≤ xs.length → Pv i H → SqL K H a xs)
    (hs : ∀ i x TT H, xs[i]? = some x → Pv i H → H TT = none → g (.ref TT) (wipe σ vs) (upd H TT (.tup [.int (i : Nat), x])) fun σ2 H2 => wipe σ2 vs = wipe σ vs ∧ tt σ2 H2 fun b H3 =>
      if b = true then te σ2 H3 fun y H4 => ∃ acc, H4 D = some (.lst acc) ∧ acc.length < sizeLine ∧ Pv (i + 1) (upd H4 D (.lst (acc ++ [y]))) else Pv (i + 1) H3) (hd : ∀ H, Pv xs.length H → Qd H) :
    ∃ W : Nat → Nat → Hp → Prop, (∃ m, W 0 m (upd H1 D (.lst []))) ∧ ∀ i m H, W i m H →
      ((Ite K a).stop i H ∧ Qd H) ∨ ((Ite K a).go i H ∧ ∃ Nx : Hp → Prop, (∀ H', Nx H' → ∃ m', m' < m ∧ W (i + 1) m' H') ∧ ∀ x H', (Ite K a).yld i H x H' → g x (wipe σ vs) H' fun σ2 H2 => wipe σ2 vs = wipe σ vs ∧ tt σ2 H2 fun b H3 =>
        if b = true then te σ2 H3 fun y H4 => ∃ acc, H4 D = some (.lst acc) ∧ acc.length < sizeLine ∧ Nx (upd H4 D (.lst (acc ++ [y]))) else Nx H3) := by
  refine ⟨fun i m H => m = xs.length - i ∧ i ≤ xs.length ∧ Pv i H, ⟨xs.length, by simp, Nat.zero_le _, h0⟩, ?_⟩
  rintro i m H ⟨rfl, hi, p⟩
  have q := hl i H hi p
  by_cases hlt : i < xs.length
  · refine .inr ⟨⟨xs, xs[i], q, by simp [hlt]⟩, Pv (i + 1), fun H' p' => ⟨xs.length - (i + 1), by omega, rfl, hlt, p'⟩, fun v H' y => ?_⟩
    obtain ⟨T, x, rfl, hT, rfl, hx⟩ := y
    exact hs i x T _ (hx xs q) p hT
  · have e : i = xs.length := by omega
    subst e
    exact .inl ⟨⟨xs, q, Nat.le_refl _⟩, hd H p⟩
/-- what v may be, and what it is as data -/
inductive Vk (H : Hp) : V → PyData → Prop where
  | int (i : Int) : Vk H (.int i) (.int i)
  | non : Vk H .non .none
  | a : Vk H (.str "a") (.str "a")
  | t {T : Addr} (h : H T = some (.tup [.str "b", .int 1])) : Vk H (.ref T) (.tuple [.str "b", .int 1])
theorem Vk.same {H H' : Hp} {v : V} {d : PyData} (k : Vk H v d) (s : Same H H') : Vk H' v d := by
  cases k with
  | int i => exact .int i
  | non => exact .non
  | a => exact .a
  | t h => exact .t (s _ _ h)
theorem Vk.dp {K : PySem.W.Frag} {H : Hp} {v : V} {d : PyData} (k : Vk H v d) : Dp K H v d := by
  cases k with
  | int i => exact .int i
  | non => exact .non
  | a => exact .str _
  | t h => exact .tup (SqT.of h) (.cons (.str _) (.cons (.int _) .nil))
theorem dp_all {K : PySem.W.Frag} {H : Hp} {v : V} {d : PyData} (k : Vk H v d) : ∀ n, DpAll K H (List.replicate n v) (List.replicate n d)
  | 0 => .nil
  | n + 1 => .cons k.dp (dp_all k n)
theorem vk_lay {H : Hp} {v : V} {d : PyData} (k : Vk H v d) : (PyData.list (List.replicate 21 d)).canLay0 = true ∧ SeqAt.shaped (.list (List.replicate 21 d)) = true := by
  cases k <;> exact ⟨by first | rfl | decide +kernel, by first | rfl | decide +kernel⟩
/-- the field that the law asks of the i-th -/
def pnOf (i : Nat) : Str := ["value", "value", "value", "value", "text", "name", "name", "index", "limit", "value", "index", "value", "value", "value", "value", "value", "name", "", "", "", "index", "command", "value"].getD i ""
def fsOf (v : V) (i : Nat) : Option (List (Str × V)) := if i = 18 ∨ i = 19 then none else if i = 17 then some [("name", .str "f"), ("needed", v)] else some [(pnOf i, v)]
/-- the errors made -/
def Errs (H : Hp) (v : V) (es : List Addr) : Prop := ∀ i e, es[i]? = some e → ErrX H e (cA i) (fsOf v i)
theorem Errs.same {H H' : Hp} {v : V} {es : List Addr} (h : Errs H v es) (s : Same H H') : Errs H' v es := fun i e q => (h i e q).same s
abbrev NL : List Str := ["script", "pool", "v", "made", "at", "e", "told", "place", "fits"]
theorem scLaw : FnScope NL ["script"] (defScope sLaw) := ⟨rfl, rfl, rfl, by decide +kernel, rfl, by decide +kernel, by decide +kernel⟩
def forBody (s : Stmt) : List Stmt := match s with
  | .For _ _ b _ _ => b
  | _ => []
abbrev bFor : List Stmt := forBody ((defBody sLaw).getD 7 (.Pass ⟨0, 0, 0, 0⟩))
def preFor : TS := fun D σ H => ∃ (c0 c1 c2 c5 c6 c7 c8 : Option V) (lm : Addr) (v : V) (es : List Addr) (i : Nat), σ = [c0, c1, c2, some (.ref lm), some (.int i), c5, c6, c7, c8] ∧ i < 23 ∧ es.length = 23 ∧ H lm = some (.lst (es.map V.ref)) ∧ Errs H v es ∧
  ∀ c5 H', Same H H' → D.nx [c0, c1, c2, some (.ref lm), some (.int i), c5, c6, c7, c8] H'
theorem pss_pre {X : Cx} {st : List Stmt} {t p : TS} (h : PSs X st t) (i : ∀ D σ H, p D σ H → t D σ H) : PSs X st p := ⟨fun pins s σ H D I hp => h.run pins s σ H D I (i _ _ _ hp)⟩
theorem kinds_at {i j : Nat} {x : V} (h : (kinds i)[j]? = some x) : x = .bl (decide (i = j)) ∧ j < 23 := by
  unfold kinds at h
  rw [List.getElem?_map] at h
  by_cases hj : j < 23
  · rw [List.getElem?_range hj] at h
    exact ⟨(Option.some.inj h).symm, hj⟩
  · rw [List.getElem?_eq_none (by rw [List.length_range]; omega)] at h; cases h
section
variable {P : Program} {w : World} {K : PySem.W.Frag} {mg : Str → Option Value} {base : Heap}
theorem blk_for {f fK : Addr} {cdv : Value} {fdK : FuncData} {A : Around} {outer : List Env} {s : Shared} {H0 : Hp} {E : XK} (T : Tx P w K mg) (DK : Df K mg "_law_kinds" sKinds ["e"] fK fdK)
    (hr : Room 5 (A.deeper (envOfC "law" (defScope sLaw) s.heap.objs.size f cdv))) : PSs (cxOf CX0 P w K mg base NL "law" (defScope sLaw) f cdv A outer s H0 E) bFor preFor := by
  have nd := scLaw.nd
  have GK : FnOk P w K mg base CX0 1 fK fdK ["e"] spKinds := ok_kinds DK.fn T
  refine pss_pre (pss_cons (ps_set (i := 5) nd rfl (Or.inl rfl) (pe_ix ix_list (pv 3) (pv 4) (fun _ _ => rfl)))
    (pss_cons (ps_if (PW.pt (pw_or (pt_not (pt_val (pe_callB call_isX (by rfl) T.isi (by decide +kernel) (pa_cons (pv 5) (pa_cons (pe_glob (v := .ref 24) (by rfl) T.gS rfl) pa_nil)))))
        (pw_or1 (pt_not (pt_val (pe_callB call_isX (by rfl) T.isi (by decide +kernel) (pa_cons (pv 5) (pa_cons (pe_bltn (v := .ty "ValueError") (by rfl) T.ve (by decide +kernel) rfl) pa_nil)))))))) (pss_one (ps_ret pe_bl)) pss_nil)
    (pss_one (ps_if (pt_cmpR (op_neD hr.units) (pe_lc (own := [("place", 7), ("fits", 8)]) (g := gTup K 2 (gCons (gName 7) (gCons (gName 8) gNil))) rfl nd (pi_enum (by rfl) T.enum (pa_cons (pe_call GK (hr.mono (by decide)) (by rfl) DK.gl DK.fn.kp DK.bd .nil pass0 (pa_cons (pv 5) pa_nil)) pa_nil)) (blkOk_by (N := NL) (sc := defScope sLaw) (by decide +kernel))
          (fun s2 H2 C cl fp => pg_tup rfl (pgs_cons (pg_name (i := 7) nd rfl (Or.inl rfl)) (pgs_cons (pg_name (i := 8) nd rfl (Or.inl rfl)) pgs_nil))) (fun s2 H2 C cl fp => pts_one (pt_val (pv 8))) (fun s2 H2 C cl fp => pv 7))
        (pe_lst (pa_cons (pv 4) pa_nil)) (nomark _)) (pss_one (ps_ret pe_bl)) pss_nil)))) ?_
  rintro D σ H ⟨c0, c1, c2, c5, c6, c7, c8, lm, v, es, i, rfl, hi, hl, hm, hE, k⟩
  have hi' : i < es.length := by omega
  have he : es[i]? = some es[i] := List.getElem?_eq_getElem hi'
  have hEi := hE i _ he
  generalize es[i] = e at he hEi
  refine ⟨_, rfl, _, rfl, lm, _, _, _, rfl, rfl, SqL.of hm, atI_nat (j := i) (by rw [List.getElem?_map, he]; rfl), ?_⟩
  refine ⟨_, rfl, e, cA i, _, .ref 24, .ref 24, true, rfl, hEi, T.ek i hi, .own 24, T.kitS i hi, true, rfl, ifn rfl ?_⟩
  refine ⟨_, rfl, e, cA i, _, .ty "ValueError", .type "ValueError", true, rfl, hEi, T.ek i hi, .ty _, T.kitV i hi, true, rfl, ifn rfl ?_⟩
  refine ⟨_, rfl, e, i, _, rfl, hi, hEi, fun l H1 s1 h1 => ⟨l, _, rfl, SqL.of h1, fun Dl hD => ?_⟩⟩
  have nl : l ≠ Dl := ne_of_none h1 hD
  refine lc_enum (K := K) (a := l) (xs := kinds i) (fun j H' => Same H1 H' ∧ H' Dl = some (.lst (if i < j then [.int i] else []))) ⟨same_new hD, by rw [if_neg (Nat.not_lt_zero i)]; exact upd_same⟩ (fun j H' _ ⟨s, _⟩ => SqL.of (s _ _ h1)) ?_ ?_
  · rintro j x TT H' hx ⟨s2, eD⟩ hT
    obtain ⟨rfl, hj⟩ := kinds_at hx
    have sT : Same H' (upd H' TT (.tup [.int (j : Nat), .bl (decide (i = j))])) := same_new hT
    refine ⟨TT, _, rfl, SqT.of upd_same, rfl, _, _, rfl, _, _, rfl, rfl, rfl, ?_⟩
    refine ⟨_, rfl, _, rfl, ?_⟩
    have fresh : ∀ o, Same H1 (upd (upd H' TT (.tup [.int (j : Nat), .bl (decide (i = j))])) Dl o) := fun o b u q => by
      rw [upd_ne (ne_of_none q hD)]; exact sT _ _ (s2 _ _ q)
    by_cases h : i = j
    · subst h
      rw [if_neg (Nat.lt_irrefl i)] at eD
      refine ift (decide_eq_true rfl) ?_
      refine ⟨_, rfl, _, sT _ _ eD, (by show 0 < sizeLine; decide), fresh _, ?_⟩
      rw [if_pos (Nat.lt_succ_self i)]
      exact upd_same
    · refine ifn (decide_eq_false h) ?_
      refine ⟨s2.trans sT, ?_⟩
      have e1 : (i < j + 1) = (i < j) := by rw [eq_iff_iff]; omega
      have q := sT _ _ eD
      simp only [e1]
      exact q
  · rintro H' ⟨s2, eD⟩
    have kl : (kinds i).length = 23 := by unfold kinds; rw [List.length_map, List.length_range]
    rw [kl, if_pos hi] at eD
    refine ⟨_, rfl, (by show 1 ≤ sizeLine; decide), fun l2 h2 => ?_⟩
    have n2 : Dl ≠ l2 := ne_of_none eD h2
    refine ⟨.list [.int i], .list [.int i], .lst (SqL.of ((upd_ne n2).trans eD)) (.cons (.int _) .nil), .lst (SqL.of upd_same) (.cons (.int _) .nil), (by rfl), (by rfl), _, rfl, ifn (by rw [SeqAt.eqv_refl _ (by rfl)]; rfl) ?_⟩
    exact k _ _ ((s1.trans s2).trans (same_new h2))
end
end K30
set_option maxHeartbeats 64000000
namespace K30
open PySem PySem.Spec PyProof.Rows L2 SupE
theorem lkN {x v : V} : List.lookup ("needed" : Str) [(("name" : Str), x), (("needed" : Str), v)] = some v := by
  have nn : (("needed" : Str) == ("name" : Str)) = false := by decide +kernel
  simp [List.lookup, nn]
theorem errs_nil {H : Hp} {v : V} : Errs H v [] := fun i e h => by cases h
theorem Errs.snoc {H H' : Hp} {v : V} {es : List Addr} {e : Addr} (h : Errs H v es) (s : Same H H') (x : ErrX H' e (cA es.length) (fsOf v es.length)) : Errs H' v (es ++ [e]) := fun i u q => by
  by_cases hi : i < es.length
  · rw [List.getElem?_append_left hi] at q
    exact (h i u q).same s
  · have hi2 : i = es.length := by
      have z := (List.getElem?_eq_some_iff.mp q).1
      rw [List.length_append, List.length_singleton] at z
      omega
    subst hi2
    rw [List.getElem?_append_right (Nat.le_refl _), Nat.sub_self] at q
    cases q
    exact x
theorem errx_upd {H : Hp} {e C l : Addr} {fs : Option (List (Str × V))} {xs ys : List V} (h : ErrX H e C fs) (hl : H l = some (.lst xs)) : ErrX (upd H l (.lst ys)) e C fs := by
  have ne : ∀ {a : Addr} {o : HO}, H a = some o → (∀ z, o ≠ .lst z) → a ≠ l := fun {a o} q n z => by rw [z, hl] at q; exact n _ (Option.some.inj q).symm
  cases fs with
  | none => exact (upd_ne (ne h (fun z q => by cases q))).trans h
  | some f =>
    obtain ⟨d, h1, h2⟩ := h
    exact ⟨d, (upd_ne (ne h1 (fun z q => by cases q))).trans h1, (upd_ne (ne h2 (fun z q => by cases q))).trans h2⟩
theorem Vk.upd {H : Hp} {l : Addr} {v : V} {d : PyData} {xs ys : List V} (k : Vk H v d) (hl : H l = some (.lst xs)) : Vk (upd H l (.lst ys)) v d := by
  cases k with
  | int i => exact .int i
  | non => exact .non
  | a => exact .a
  | @t T h => exact .t ((upd_ne (fun z => by rw [z, hl] at h; cases h)).trans h)
def spLaw (K : PySem.W.Frag) : Sp := fun vs H Q _ => ∃ (a : Addr) (ns : List Int), vs = [.ref a] ∧ SqL K H a (ns.map V.int) ∧ ∀ H', Q (.bl true) H'
section
variable {P : Program} {w : World} {K : PySem.W.Frag} {mg : Str → Option Value} {base : Heap}
theorem ok_law {f fP fC fD fK : Addr} {fd fdP fdC fdD fdK : FuncData} (F : Fun K "law" "law" sLaw f fd) (T : Tx P w K mg) (TL : LTxt mg) (DP : Df K mg "_law_pool" sPool ["script", "k"] fP fdP) (DC : Df K mg "_law_choose" sChoose ["pool", "items"] fC fdC) (DD : Df K mg "_law_draw" sDraw ["pool", "many"] fD fdD)
    (DK : Df K mg "_law_kinds" sKinds ["e"] fK fdK) : FnOk P w K mg base CX0 6 f fd ["script"] (spLaw K) := by
  have GP : FnOk P w K mg base CX0 1 fP fdP ["script", "k"] (spPool K) := ok_pool DP.fn TL
  have GC : FnOk P w K mg base CX0 2 fC fdC ["pool", "items"] spChoose := ok_choose DC.fn TL DD
  have GD : FnOk P w K mg base CX0 1 fD fdD ["pool", "many"] spDraw := ok_draw DD.fn TL
  obtain ⟨_, M17⟩ := T.m17
  obtain ⟨_, M18⟩ := T.m18
  obtain ⟨_, M19⟩ := T.m19
  obtain ⟨oc, od, kV, doc, pm, an, cdv, ct, osl, rfl, lk, hcd⟩ := F.ex
  refine fn_of lk hcd scLaw (fun vs H Q E h => ?_) (fun A outer s H vs Q E hr h => ?_)
  · obtain ⟨a, ns, rfl, _⟩ := h; rfl
  · obtain ⟨a, ns, rfl, hS, q⟩ := h
    have nd := scLaw.nd
    have r2 := hr.mono (show 2 ≤ 5 by decide)
    have r1 := hr.mono (show 1 ≤ 5 by decide)
    refine ⟨_, (pss_cons (ps_set (i := 1) nd rfl (Or.inl rfl) (pe_call GP r1 (by rfl) DP.gl DP.fn.kp DP.bd .nil pass0 (pa_cons (pv 0) (pa_cons pe_int pa_nil))))
      (pss_cons (ps_set (i := 2) nd rfl (Or.inl rfl) (pe_call GC r2 (by rfl) DC.gl DC.fn.kp DC.bd .nil pass0 (pa_cons (pv 1) (pa_cons (pe_lst (pa_cons (pe_call GD r1 (by rfl) DD.gl DD.fn.kp DD.bd .nil pass0 (pa_cons (pv 1) (pa_cons pe_int pa_nil))) (pa_cons pe_non (pa_cons pe_str (pa_cons (pe_tup (pa_cons pe_str (pa_cons pe_int pa_nil))) pa_nil))))) pa_nil))))
      (pss_cons (ps_set (i := 3) nd rfl (Or.inr rfl) (pe_lst (pa_cons (pe_m1 T.g0 (T.ek 0 (by decide)) T.m0 hr (pv 2)) (pa_cons (pe_m1 T.g1 (T.ek 1 (by decide)) T.m1 hr (pv 2)) (pa_cons (pe_m1 T.g2 (T.ek 2 (by decide)) T.m2 hr (pv 2)) (pa_cons (pe_m1 T.g3 (T.ek 3 (by decide)) T.m3 hr (pv 2)) (pa_cons (pe_m1 T.g4 (T.ek 4 (by decide)) T.m4 hr (pv 2)) (pa_cons (pe_m1 T.g5 (T.ek 5 (by decide)) T.m5 hr (pv 2)) pa_nil))))))))
      (pss_cons (ps_set (i := 3) nd rfl (Or.inr rfl) (pe_op op_cat (pv 3) (pe_lst (pa_cons (pe_m1 T.g6 (T.ek 6 (by decide)) T.m6 hr (pv 2)) (pa_cons (pe_m1 T.g7 (T.ek 7 (by decide)) T.m7 hr (pv 2)) (pa_cons (pe_m1 T.g8 (T.ek 8 (by decide)) T.m8 hr (pv 2)) (pa_cons (pe_m1 T.g9 (T.ek 9 (by decide)) T.m9 hr (pv 2)) (pa_cons (pe_m1 T.g10 (T.ek 10 (by decide)) T.m10 hr (pv 2)) pa_nil))))))))
      (pss_cons (ps_set (i := 3) nd rfl (Or.inr rfl) (pe_op op_cat (pv 3) (pe_lst (pa_cons (pe_m1 T.g11 (T.ek 11 (by decide)) T.m11 hr (pv 2)) (pa_cons (pe_m1 T.g12 (T.ek 12 (by decide)) T.m12 hr (pv 2)) (pa_cons (pe_m1 T.g13 (T.ek 13 (by decide)) T.m13 hr (pv 2)) (pa_cons (pe_m1 T.g14 (T.ek 14 (by decide)) T.m14 hr (pv 2)) (pa_cons (pe_m1 T.g15 (T.ek 15 (by decide)) T.m15 hr (pv 2)) (pa_cons (pe_m1 T.g16 (T.ek 16 (by decide)) T.m16 hr (pv 2)) pa_nil)))))))))
      (pss_cons (ps_set (i := 3) nd rfl (Or.inr rfl) (pe_op op_cat (pv 3) (pe_lst (pa_cons (pe_m2 T.g17 (T.ek 17 (by decide)) M17 hr (pv 2) pe_str) (pa_cons (pe_m0 T.g18 (T.ek 18 (by decide)) M18 hr) (pa_cons (pe_m0 T.g19 (T.ek 19 (by decide)) M19 hr) (pa_cons (pe_m1 T.g20 (T.ek 20 (by decide)) T.m20 hr (pv 2)) (pa_cons (pe_m1 T.g21 (T.ek 21 (by decide)) T.m21 hr (pv 2)) pa_nil))))))))
      (pss_cons (ps_expr (pe_bm PySem.F.plainAttrs_list PySem.F.slot_list_append PySem.F.type_list_append mt_append (pv 3) (pa_cons (pe_m1 T.g22 (T.ek 22 (by decide)) T.m22 hr (pv 2)) pa_nil)))
      (pss_cons (ps_for (passes_of rfl) rfl (pi_range1 (by rfl) T.range (pa_cons (pe_callB call_len_seq (by rfl) T.len PySem.boot_len (pa_cons (pv 3) pa_nil)) pa_nil)) (pg_name (i := 4) nd rfl (Or.inl rfl)) (show PSs _ bFor _ from blk_for T DK hr))
      (pss_cons (ps_setLc (i := 6) (own := [("at", 4)]) (g := gName 4) (tt := tYes) (te := tXA K (tOp (rIxL K) (tVar 3) (tVar 4)) "value") rfl nd rfl rfl (sw_true rfl rfl rfl (by decide +kernel)) (pi_tup (pe_tup (pa_cons pe_int (pa_cons pe_int (pa_cons pe_int (pa_cons pe_int (pa_cons pe_int (pa_cons pe_int (pa_cons pe_int (pa_cons pe_int (pa_cons pe_int (pa_cons pe_int (pa_cons pe_int pa_nil))))))))))))) (blkOk_by (N := NL) (sc := defScope sLaw) (by decide +kernel)) (fun s2 H2 C cl fp => pg_name (i := 4) nd rfl (Or.inl rfl)) (fun s2 H2 C cl fp => pts_nil) (fun s2 H2 C cl fp => pe_xa (pe_ix ix_list (pv 3) (pv 4) (fun _ _ => rfl))))
      (pss_cons (ps_set (i := 6) nd rfl (Or.inl rfl) (pe_op op_cat (pv 6) (pe_lst (pa_cons (pe_xa (pe_ix ix_list (pv 3) pe_int (fun _ _ => rfl))) (pa_cons (pe_xa (pe_ix ix_list (pv 3) pe_int (fun _ _ => rfl))) (pa_cons (pe_xa (pe_ix ix_list (pv 3) pe_int (fun _ _ => rfl))) (pa_cons (pe_xa (pe_ix ix_list (pv 3) pe_int (fun _ _ => rfl))) (pa_cons (pe_xa (pe_ix ix_list (pv 3) pe_int (fun _ _ => rfl))) (pa_cons (pe_xa (pe_ix ix_list (pv 3) pe_int (fun _ _ => rfl))) pa_nil)))))))))
      (pss_cons (ps_set (i := 6) nd rfl (Or.inl rfl) (pe_op op_cat (pv 6) (pe_lst (pa_cons (pe_xa (pe_ix ix_list (pv 3) pe_int (fun _ _ => rfl))) (pa_cons (pe_xa (pe_ix ix_list (pv 3) pe_int (fun _ _ => rfl))) (pa_cons (pe_xa (pe_ix ix_list (pv 3) pe_int (fun _ _ => rfl))) (pa_cons (pe_xa (pe_ix ix_list (pv 3) pe_int (fun _ _ => rfl))) pa_nil)))))))
      (pss_one (ps_ret (pe_and (pe_cmpR (op_eqD hr.units) (pv 6) (pe_op op_rep (pe_lst (pa_cons (pv 2) pa_nil)) (pe_callB call_len_seq (by rfl) T.len PySem.boot_len (pa_cons (pv 6) pa_nil))) (nomark _)) (pe_one (pe_cmpR op_eq (pe_xa (pe_ix ix_list (pv 3) pe_int (fun _ _ => rfl))) pe_str (nomark _))))))))))))))))), ?_⟩
    refine ⟨_, rfl, a, ns, 0, rfl, hS, by decide, fun p H1 s1 np hp => ?_⟩
    refine ⟨_, rfl, _, rfl, p, _, rfl, hp, (by decide), (by decide), fun d H2 d0 d1 b1 => ?_⟩
    refine ⟨(by show 2 ≤ sizeLine; decide), fun t ht => ?_⟩
    refine ⟨(by show 4 ≤ sizeLine; decide), fun l hl => ?_⟩
    obtain ⟨c2, s2, e2⟩ := b1.2
    have tp : t ≠ p := fun z => by rw [z, e2] at ht; cases ht
    have tl : t ≠ l := ne_of_none upd_same hl
    have e3 : (upd H2 t (.tup [.str "b", .int 1])) p = some (.lst [.int c2, .int s2]) := (upd_ne (Ne.symm tp)).trans e2
    have lp : l ≠ p := fun z => by rw [z, e3] at hl; cases hl
    refine ⟨p, l, _, rfl, ⟨c2, s2, (upd_ne (Ne.symm lp)).trans e3⟩, upd_same, lp, (by show 0 < 4; decide), (by show 4 ≤ 100; decide), fun v hv H3 b3 => ?_⟩
    have ht3 : H3 t = some (.tup [.str "b", .int 1]) := b3.1 t _ tp ((upd_ne tl).trans upd_same)
    obtain ⟨dv, kv⟩ : ∃ dv, Vk H3 v dv := by
      simp only [List.mem_cons, List.not_mem_nil, or_false] at hv
      rcases hv with rfl | rfl | rfl | rfl
      · exact ⟨_, .int _⟩
      · exact ⟨_, .non⟩
      · exact ⟨_, .a⟩
      · exact ⟨_, .t ht3⟩
    clear b3
    have ac : Errs H3 v [] := errs_nil
    refine ⟨_, rfl, v, rfl, fun e0 G0 t0 n0 x0 => ?_⟩
    replace kv := kv.same t0
    replace ac : Errs G0 v [e0] := ac.snoc t0 x0
    refine ⟨_, rfl, v, rfl, fun e1 G1 t1 n1 x1 => ?_⟩
    replace kv := kv.same t1
    replace ac : Errs G1 v [e0, e1] := ac.snoc t1 x1
    refine ⟨_, rfl, v, rfl, fun e2 G2 t2 n2 x2 => ?_⟩
    replace kv := kv.same t2
    replace ac : Errs G2 v [e0, e1, e2] := ac.snoc t2 x2
    refine ⟨_, rfl, v, rfl, fun e3 G3 t3 n3 x3 => ?_⟩
    replace kv := kv.same t3
    replace ac : Errs G3 v [e0, e1, e2, e3] := ac.snoc t3 x3
    refine ⟨_, rfl, v, rfl, fun e4 G4 t4 n4 x4 => ?_⟩
    replace kv := kv.same t4
    replace ac : Errs G4 v [e0, e1, e2, e3, e4] := ac.snoc t4 x4
    refine ⟨_, rfl, v, rfl, fun e5 G5 t5 n5 x5 => ?_⟩
    replace kv := kv.same t5
    replace ac : Errs G5 v [e0, e1, e2, e3, e4, e5] := ac.snoc t5 x5
    refine ⟨(by show 6 ≤ sizeLine; decide), fun l0 k0 => ?_⟩
    replace kv := kv.same (same_new (o := .lst [.ref e0, .ref e1, .ref e2, .ref e3, .ref e4, .ref e5]) k0)
    replace ac := ac.same (same_new (o := .lst [.ref e0, .ref e1, .ref e2, .ref e3, .ref e4, .ref e5]) k0)
    have zm : (upd G5 l0 (.lst [.ref e0, .ref e1, .ref e2, .ref e3, .ref e4, .ref e5])) l0 = some (.lst [.ref e0, .ref e1, .ref e2, .ref e3, .ref e4, .ref e5]) := upd_same
    refine ⟨_, rfl, _, rfl, v, rfl, fun e6 G6 t6 n6 x6 => ?_⟩
    replace kv := kv.same t6
    replace zm := t6 _ _ zm
    replace ac : Errs G6 v [e0, e1, e2, e3, e4, e5, e6] := ac.snoc t6 x6
    refine ⟨_, rfl, v, rfl, fun e7 G7 t7 n7 x7 => ?_⟩
    replace kv := kv.same t7
    replace zm := t7 _ _ zm
    replace ac : Errs G7 v [e0, e1, e2, e3, e4, e5, e6, e7] := ac.snoc t7 x7
    refine ⟨_, rfl, v, rfl, fun e8 G8 t8 n8 x8 => ?_⟩
    replace kv := kv.same t8
    replace zm := t8 _ _ zm
    replace ac : Errs G8 v [e0, e1, e2, e3, e4, e5, e6, e7, e8] := ac.snoc t8 x8
    refine ⟨_, rfl, v, rfl, fun e9 G9 t9 n9 x9 => ?_⟩
    replace kv := kv.same t9
    replace zm := t9 _ _ zm
    replace ac : Errs G9 v [e0, e1, e2, e3, e4, e5, e6, e7, e8, e9] := ac.snoc t9 x9
    refine ⟨_, rfl, v, rfl, fun e10 G10 t10 n10 x10 => ?_⟩
    replace kv := kv.same t10
    replace zm := t10 _ _ zm
    replace ac : Errs G10 v [e0, e1, e2, e3, e4, e5, e6, e7, e8, e9, e10] := ac.snoc t10 x10
    refine ⟨(by show 5 ≤ sizeLine; decide), fun l1 k1 => ?_⟩
    replace kv := kv.same (same_new (o := .lst [.ref e6, .ref e7, .ref e8, .ref e9, .ref e10]) k1)
    replace ac := ac.same (same_new (o := .lst [.ref e6, .ref e7, .ref e8, .ref e9, .ref e10]) k1)
    replace zm := same_new (o := .lst [.ref e6, .ref e7, .ref e8, .ref e9, .ref e10]) k1 _ _ zm
    refine ⟨l0, l1, _, _, rfl, rfl, zm, upd_same, (by show 11 ≤ sizeLine; decide), fun p1 y1 => ?_⟩
    replace kv := kv.same (same_new (o := .lst [.ref e0, .ref e1, .ref e2, .ref e3, .ref e4, .ref e5, .ref e6, .ref e7, .ref e8, .ref e9, .ref e10]) y1)
    replace ac := ac.same (same_new (o := .lst [.ref e0, .ref e1, .ref e2, .ref e3, .ref e4, .ref e5, .ref e6, .ref e7, .ref e8, .ref e9, .ref e10]) y1)
    replace zm : (upd _ p1 (.lst [.ref e0, .ref e1, .ref e2, .ref e3, .ref e4, .ref e5, .ref e6, .ref e7, .ref e8, .ref e9, .ref e10])) p1 = some (.lst [.ref e0, .ref e1, .ref e2, .ref e3, .ref e4, .ref e5, .ref e6, .ref e7, .ref e8, .ref e9, .ref e10]) := upd_same (H := upd G10 l1 (.lst [.ref e6, .ref e7, .ref e8, .ref e9, .ref e10]))
    refine ⟨_, rfl, _, rfl, v, rfl, fun e11 G11 t11 n11 x11 => ?_⟩
    replace kv := kv.same t11
    replace zm := t11 _ _ zm
    replace ac : Errs G11 v [e0, e1, e2, e3, e4, e5, e6, e7, e8, e9, e10, e11] := ac.snoc t11 x11
    refine ⟨_, rfl, v, rfl, fun e12 G12 t12 n12 x12 => ?_⟩
    replace kv := kv.same t12
    replace zm := t12 _ _ zm
    replace ac : Errs G12 v [e0, e1, e2, e3, e4, e5, e6, e7, e8, e9, e10, e11, e12] := ac.snoc t12 x12
    refine ⟨_, rfl, v, rfl, fun e13 G13 t13 n13 x13 => ?_⟩
    replace kv := kv.same t13
    replace zm := t13 _ _ zm
    replace ac : Errs G13 v [e0, e1, e2, e3, e4, e5, e6, e7, e8, e9, e10, e11, e12, e13] := ac.snoc t13 x13
    refine ⟨_, rfl, v, rfl, fun e14 G14 t14 n14 x14 => ?_⟩
    replace kv := kv.same t14
    replace zm := t14 _ _ zm
    replace ac : Errs G14 v [e0, e1, e2, e3, e4, e5, e6, e7, e8, e9, e10, e11, e12, e13, e14] := ac.snoc t14 x14
    refine ⟨_, rfl, v, rfl, fun e15 G15 t15 n15 x15 => ?_⟩
    replace kv := kv.same t15
    replace zm := t15 _ _ zm
    replace ac : Errs G15 v [e0, e1, e2, e3, e4, e5, e6, e7, e8, e9, e10, e11, e12, e13, e14, e15] := ac.snoc t15 x15
    refine ⟨_, rfl, v, rfl, fun e16 G16 t16 n16 x16 => ?_⟩
    replace kv := kv.same t16
    replace zm := t16 _ _ zm
    replace ac : Errs G16 v [e0, e1, e2, e3, e4, e5, e6, e7, e8, e9, e10, e11, e12, e13, e14, e15, e16] := ac.snoc t16 x16
    refine ⟨(by show 6 ≤ sizeLine; decide), fun l2 k2 => ?_⟩
    replace kv := kv.same (same_new (o := .lst [.ref e11, .ref e12, .ref e13, .ref e14, .ref e15, .ref e16]) k2)
    replace ac := ac.same (same_new (o := .lst [.ref e11, .ref e12, .ref e13, .ref e14, .ref e15, .ref e16]) k2)
    replace zm := same_new (o := .lst [.ref e11, .ref e12, .ref e13, .ref e14, .ref e15, .ref e16]) k2 _ _ zm
    refine ⟨p1, l2, _, _, rfl, rfl, zm, upd_same, (by show 17 ≤ sizeLine; decide), fun p2 y2 => ?_⟩
    replace kv := kv.same (same_new (o := .lst [.ref e0, .ref e1, .ref e2, .ref e3, .ref e4, .ref e5, .ref e6, .ref e7, .ref e8, .ref e9, .ref e10, .ref e11, .ref e12, .ref e13, .ref e14, .ref e15, .ref e16]) y2)
    replace ac := ac.same (same_new (o := .lst [.ref e0, .ref e1, .ref e2, .ref e3, .ref e4, .ref e5, .ref e6, .ref e7, .ref e8, .ref e9, .ref e10, .ref e11, .ref e12, .ref e13, .ref e14, .ref e15, .ref e16]) y2)
    replace zm : (upd _ p2 (.lst [.ref e0, .ref e1, .ref e2, .ref e3, .ref e4, .ref e5, .ref e6, .ref e7, .ref e8, .ref e9, .ref e10, .ref e11, .ref e12, .ref e13, .ref e14, .ref e15, .ref e16])) p2 = some (.lst [.ref e0, .ref e1, .ref e2, .ref e3, .ref e4, .ref e5, .ref e6, .ref e7, .ref e8, .ref e9, .ref e10, .ref e11, .ref e12, .ref e13, .ref e14, .ref e15, .ref e16]) := upd_same (H := upd G16 l2 (.lst [.ref e11, .ref e12, .ref e13, .ref e14, .ref e15, .ref e16]))
    refine ⟨_, rfl, _, rfl, fun e17 G17 t17 n17 x17 => ?_⟩
    replace kv := kv.same t17
    replace zm := t17 _ _ zm
    replace ac : Errs G17 v [e0, e1, e2, e3, e4, e5, e6, e7, e8, e9, e10, e11, e12, e13, e14, e15, e16, e17] := ac.snoc t17 x17
    refine fun e18 G18 t18 n18 x18 => ?_
    replace kv := kv.same t18
    replace zm := t18 _ _ zm
    replace ac : Errs G18 v [e0, e1, e2, e3, e4, e5, e6, e7, e8, e9, e10, e11, e12, e13, e14, e15, e16, e17, e18] := ac.snoc t18 x18
    refine fun e19 G19 t19 n19 x19 => ?_
    replace kv := kv.same t19
    replace zm := t19 _ _ zm
    replace ac : Errs G19 v [e0, e1, e2, e3, e4, e5, e6, e7, e8, e9, e10, e11, e12, e13, e14, e15, e16, e17, e18, e19] := ac.snoc t19 x19
    refine ⟨_, rfl, v, rfl, fun e20 G20 t20 n20 x20 => ?_⟩
    replace kv := kv.same t20
    replace zm := t20 _ _ zm
    replace ac : Errs G20 v [e0, e1, e2, e3, e4, e5, e6, e7, e8, e9, e10, e11, e12, e13, e14, e15, e16, e17, e18, e19, e20] := ac.snoc t20 x20
    refine ⟨_, rfl, v, rfl, fun e21 G21 t21 n21 x21 => ?_⟩
    replace kv := kv.same t21
    replace zm := t21 _ _ zm
    replace ac : Errs G21 v [e0, e1, e2, e3, e4, e5, e6, e7, e8, e9, e10, e11, e12, e13, e14, e15, e16, e17, e18, e19, e20, e21] := ac.snoc t21 x21
    refine ⟨(by show 5 ≤ sizeLine; decide), fun l3 k3 => ?_⟩
    replace kv := kv.same (same_new (o := .lst [.ref e17, .ref e18, .ref e19, .ref e20, .ref e21]) k3)
    replace ac := ac.same (same_new (o := .lst [.ref e17, .ref e18, .ref e19, .ref e20, .ref e21]) k3)
    replace zm := same_new (o := .lst [.ref e17, .ref e18, .ref e19, .ref e20, .ref e21]) k3 _ _ zm
    refine ⟨p2, l3, _, _, rfl, rfl, zm, upd_same, (by show 22 ≤ sizeLine; decide), fun p3 y3 => ?_⟩
    replace kv := kv.same (same_new (o := .lst [.ref e0, .ref e1, .ref e2, .ref e3, .ref e4, .ref e5, .ref e6, .ref e7, .ref e8, .ref e9, .ref e10, .ref e11, .ref e12, .ref e13, .ref e14, .ref e15, .ref e16, .ref e17, .ref e18, .ref e19, .ref e20, .ref e21]) y3)
    replace ac := ac.same (same_new (o := .lst [.ref e0, .ref e1, .ref e2, .ref e3, .ref e4, .ref e5, .ref e6, .ref e7, .ref e8, .ref e9, .ref e10, .ref e11, .ref e12, .ref e13, .ref e14, .ref e15, .ref e16, .ref e17, .ref e18, .ref e19, .ref e20, .ref e21]) y3)
    replace zm : (upd _ p3 (.lst [.ref e0, .ref e1, .ref e2, .ref e3, .ref e4, .ref e5, .ref e6, .ref e7, .ref e8, .ref e9, .ref e10, .ref e11, .ref e12, .ref e13, .ref e14, .ref e15, .ref e16, .ref e17, .ref e18, .ref e19, .ref e20, .ref e21])) p3 = some (.lst [.ref e0, .ref e1, .ref e2, .ref e3, .ref e4, .ref e5, .ref e6, .ref e7, .ref e8, .ref e9, .ref e10, .ref e11, .ref e12, .ref e13, .ref e14, .ref e15, .ref e16, .ref e17, .ref e18, .ref e19, .ref e20, .ref e21]) := upd_same (H := upd G21 l3 (.lst [.ref e17, .ref e18, .ref e19, .ref e20, .ref e21]))
    refine ⟨_, rfl, .inl ⟨rfl, _, SqL.of zm⟩, _, rfl, v, rfl, fun e22 G22 t22 n22 x22 => ?_⟩
    replace kv := kv.same t22
    replace zm := t22 _ _ zm
    replace ac : Errs G22 v [e0, e1, e2, e3, e4, e5, e6, e7, e8, e9, e10, e11, e12, e13, e14, e15, e16, e17, e18, e19, e20, e21, e22] := ac.snoc t22 x22
    refine ⟨p3, _, _, rfl, rfl, zm, (by show 22 < sizeLine; decide), ?_⟩
    replace kv := kv.upd (ys := [.ref e0, .ref e1, .ref e2, .ref e3, .ref e4, .ref e5, .ref e6, .ref e7, .ref e8, .ref e9, .ref e10, .ref e11, .ref e12, .ref e13, .ref e14, .ref e15, .ref e16, .ref e17, .ref e18, .ref e19, .ref e20, .ref e21, .ref e22]) zm
    replace ac : Errs (upd G22 p3 (.lst [.ref e0, .ref e1, .ref e2, .ref e3, .ref e4, .ref e5, .ref e6, .ref e7, .ref e8, .ref e9, .ref e10, .ref e11, .ref e12, .ref e13, .ref e14, .ref e15, .ref e16, .ref e17, .ref e18, .ref e19, .ref e20, .ref e21, .ref e22])) v [e0, e1, e2, e3, e4, e5, e6, e7, e8, e9, e10, e11, e12, e13, e14, e15, e16, e17, e18, e19, e20, e21, e22] := fun i e h => errx_upd (ac i e h) zm
    replace zm : (upd G22 p3 (.lst [.ref e0, .ref e1, .ref e2, .ref e3, .ref e4, .ref e5, .ref e6, .ref e7, .ref e8, .ref e9, .ref e10, .ref e11, .ref e12, .ref e13, .ref e14, .ref e15, .ref e16, .ref e17, .ref e18, .ref e19, .ref e20, .ref e21, .ref e22])) p3 = some (.lst [.ref e0, .ref e1, .ref e2, .ref e3, .ref e4, .ref e5, .ref e6, .ref e7, .ref e8, .ref e9, .ref e10, .ref e11, .ref e12, .ref e13, .ref e14, .ref e15, .ref e16, .ref e17, .ref e18, .ref e19, .ref e20, .ref e21, .ref e22]) := upd_same
    generalize hes : ([e0, e1, e2, e3, e4, e5, e6, e7, e8, e9, e10, e11, e12, e13, e14, e15, e16, e17, e18, e19, e20, e21, e22] : List Addr) = es at ac
    have el : es.length = 23 := by rw [← hes]; rfl
    have er : [.ref e0, .ref e1, .ref e2, .ref e3, .ref e4, .ref e5, .ref e6, .ref e7, .ref e8, .ref e9, .ref e10, .ref e11, .ref e12, .ref e13, .ref e14, .ref e15, .ref e16, .ref e17, .ref e18, .ref e19, .ref e20, .ref e21, .ref e22] = es.map V.ref := by rw [← hes]; rfl
    refine ⟨_, rfl, p3, _, rfl, .inl (SqL.of zm), ?_⟩
    refine ⟨_, rfl, (by show -(2 ^ 62) ≤ (23 : Int); decide), (by show (23 : Int) < 2 ^ 62; decide), ?_⟩
    refine for_range (lo := 0) (n := 23) (fun i σ H' => (∃ c4 c5, σ = [some (.ref a), some (.ref p), some v, some (.ref p3), c4, c5, none, none, none]) ∧ Same (upd G22 p3 (.lst [.ref e0, .ref e1, .ref e2, .ref e3, .ref e4, .ref e5, .ref e6, .ref e7, .ref e8, .ref e9, .ref e10, .ref e11, .ref e12, .ref e13, .ref e14, .ref e15, .ref e16, .ref e17, .ref e18, .ref e19, .ref e20, .ref e21, .ref e22])) H') ⟨⟨_, _, rfl⟩, Same.refl _⟩ ?_ ?_
    · rintro i σ H' hi ⟨⟨c4, c5, rfl⟩, s⟩
      have e0 : (0 : Int) + (i : Nat) = ((i : Nat) : Int) := by omega
      rw [e0]
      exact ⟨_, _, _, _, _, _, _, p3, v, es, i, rfl, hi, el, (by rw [← er]; exact s _ _ zm), ac.same s, fun c5 H2 s2 => ⟨⟨_, _, rfl⟩, s.trans s2⟩⟩
    rintro σ Ha ⟨⟨c4, c5, rfl⟩, s⟩
    replace zm := s _ _ zm
    rw [er] at zm
    replace kv := kv.same s
    replace ac := ac.same s
    clear s
    refine ⟨(by show 11 ≤ sizeLine; decide), fun tp htp => ?_⟩
    have st : Same Ha (upd Ha tp (.tup [.int 0, .int 1, .int 2, .int 3, .int 9, .int 11, .int 12, .int 13, .int 14, .int 15, .int 22])) := same_new htp
    refine ⟨tp, rfl, ⟨_, SqT.of upd_same⟩, fun Dl hD => ?_⟩
    have nt : tp ≠ Dl := ne_of_none upd_same hD
    have big : 30 < sizeLine := by decide
    refine lc_tup (K := K) (a := tp) (xs := [.int 0, .int 1, .int 2, .int 3, .int 9, .int 11, .int 12, .int 13, .int 14, .int 15, .int 22]) (fun j H' => Same (upd Ha tp (.tup [.int 0, .int 1, .int 2, .int 3, .int 9, .int 11, .int 12, .int 13, .int 14, .int 15, .int 22])) H' ∧ H' Dl = some (.lst (List.replicate j v))) ⟨same_new hD, upd_same⟩ (fun j H' _ ⟨s, _⟩ => SqT.of (s _ _ upd_same)) ?_ ?_
    · rintro j x H' hx ⟨s, eD⟩
      have hj : j < 11 := by
        have := (List.getElem?_eq_some_iff.mp hx).1
        exact this
      obtain ⟨n, rfl, hn, hf, nf⟩ : ∃ n : Nat, x = .int n ∧ n < 23 ∧ fsOf v n = some [(("value" : Str), v)] ∧ PySem.W.findIn K (.ref (cA n)) "value" = some none := by
        rcases j with _ | _ | _ | _ | _ | _ | _ | _ | _ | _ | _ | j
        · cases hx; exact ⟨0, rfl, by decide, rfl, T.n0⟩
        · cases hx; exact ⟨1, rfl, by decide, rfl, T.n1⟩
        · cases hx; exact ⟨2, rfl, by decide, rfl, T.n2⟩
        · cases hx; exact ⟨3, rfl, by decide, rfl, T.n3⟩
        · cases hx; exact ⟨9, rfl, by decide, rfl, T.n9⟩
        · cases hx; exact ⟨11, rfl, by decide, rfl, T.n11⟩
        · cases hx; exact ⟨12, rfl, by decide, rfl, T.n12⟩
        · cases hx; exact ⟨13, rfl, by decide, rfl, T.n13⟩
        · cases hx; exact ⟨14, rfl, by decide, rfl, T.n14⟩
        · cases hx; exact ⟨15, rfl, by decide, rfl, T.n15⟩
        · cases hx; exact ⟨22, rfl, by decide, rfl, T.n22⟩
        · exact absurd hx (by simp)
      obtain ⟨e, he⟩ : ∃ e, es[n]? = some e := ⟨_, List.getElem?_eq_getElem (by omega)⟩
      have hE := ((ac n e he).same st).same s
      rw [hf] at hE
      have zm' := s _ _ (st _ _ zm)
      refine ⟨rfl, ?_⟩
      refine ⟨_, rfl, _, rfl, p3, _, _, _, rfl, rfl, SqL.of zm', atI_nat (j := n) (by rw [List.getElem?_map, he]; rfl), e, cA n, _, v, rfl, hE, T.ek n hn, nf, by simp [List.lookup], ?_⟩
      refine ⟨_, eD, by rw [List.length_replicate]; omega, fun b u q => ?_, ?_⟩
      · rw [upd_ne (ne_of_none q hD)]; exact s _ _ q
      · rw [upd_same, List.replicate_succ']
    rintro Hb ⟨s, eD⟩
    replace zm := s _ _ (st _ _ zm)
    replace kv := (kv.same st).same s
    replace ac := (ac.same st).same s
    clear s st
    have he4 : es[4]? = some e4 := by rw [← hes]; rfl
    have he5 : es[5]? = some e5 := by rw [← hes]; rfl
    have he6 : es[6]? = some e6 := by rw [← hes]; rfl
    have he7 : es[7]? = some e7 := by rw [← hes]; rfl
    have he8 : es[8]? = some e8 := by rw [← hes]; rfl
    have he10 : es[10]? = some e10 := by rw [← hes]; rfl
    have he16 : es[16]? = some e16 := by rw [← hes]; rfl
    have he17 : es[17]? = some e17 := by rw [← hes]; rfl
    have he20 : es[20]? = some e20 := by rw [← hes]; rfl
    have he21 : es[21]? = some e21 := by rw [← hes]; rfl
    have hE17 : ErrX Hb e17 403 (some [("name", .str "f"), ("needed", v)]) := ac 17 e17 he17
    have hE4 : ErrX Hb e4 130 (some [("text", v)]) := ac 4 e4 he4
    have hE5 : ErrX Hb e5 151 (some [("name", v)]) := ac 5 e5 he5
    have hE6 : ErrX Hb e6 172 (some [("name", v)]) := ac 6 e6 he6
    have hE7 : ErrX Hb e7 193 (some [("index", v)]) := ac 7 e7 he7
    have hE8 : ErrX Hb e8 214 (some [("limit", v)]) := ac 8 e8 he8
    have hE10 : ErrX Hb e10 256 (some [("index", v)]) := ac 10 e10 he10
    have hE16 : ErrX Hb e16 382 (some [("name", v)]) := ac 16 e16 he16
    have hE20 : ErrX Hb e20 466 (some [("index", v)]) := ac 20 e20 he20
    have hE21 : ErrX Hb e21 487 (some [("command", v)]) := ac 21 e21 he21
    refine ⟨_, rfl, _, rfl, p3, _, _, _, rfl, rfl, SqL.of zm, atI_nat (j := 4) (by rw [List.getElem?_map, he4]; rfl), e4, cA 4, _, v, rfl, hE4, T.ek 4 (by decide), T.n4, by simp [List.lookup], _, rfl, p3, _, _, _, rfl, rfl, SqL.of zm, atI_nat (j := 5) (by rw [List.getElem?_map, he5]; rfl), e5, cA 5, _, v, rfl, hE5, T.ek 5 (by decide), T.n5, by simp [List.lookup], _, rfl, p3, _, _, _, rfl, rfl, SqL.of zm, atI_nat (j := 6) (by rw [List.getElem?_map, he6]; rfl), e6, cA 6, _, v, rfl, hE6, T.ek 6 (by decide), T.n6, by simp [List.lookup], _, rfl, p3, _, _, _, rfl, rfl, SqL.of zm, atI_nat (j := 7) (by rw [List.getElem?_map, he7]; rfl), e7, cA 7, _, v, rfl, hE7, T.ek 7 (by decide), T.n7, by simp [List.lookup], _, rfl, p3, _, _, _, rfl, rfl, SqL.of zm, atI_nat (j := 8) (by rw [List.getElem?_map, he8]; rfl), e8, cA 8, _, v, rfl, hE8, T.ek 8 (by decide), T.n8, by simp [List.lookup], _, rfl, p3, _, _, _, rfl, rfl, SqL.of zm, atI_nat (j := 10) (by rw [List.getElem?_map, he10]; rfl), e10, cA 10, _, v, rfl, hE10, T.ek 10 (by decide), T.n10, by simp [List.lookup], (by show 6 ≤ sizeLine; decide), fun q0 w0 => ?_⟩
    have u0 : Same _ (upd _ q0 (.lst [v, v, v, v, v, v])) := same_new w0
    refine ⟨Dl, q0, _, _, rfl, rfl, u0 _ _ eD, upd_same, (by show 17 ≤ sizeLine; decide), fun a0 b0 => ?_⟩
    obtain ⟨f0, z0⟩ := grow (o := .lst (List.replicate 11 v ++ [v, v, v, v, v, v])) u0 b0
    replace zm := f0 _ _ zm
    replace kv := kv.same f0
    replace hE16 := hE16.same f0
    replace hE17 := hE17.same f0
    replace hE20 := hE20.same f0
    replace hE21 := hE21.same f0
    have zz0 : _ = some (HO.lst (List.replicate 17 v)) := z0
    refine ⟨_, rfl, _, rfl, p3, _, _, _, rfl, rfl, SqL.of zm, atI_nat (j := 16) (by rw [List.getElem?_map, he16]; rfl), e16, cA 16, _, v, rfl, hE16, T.ek 16 (by decide), T.n16, by simp [List.lookup], _, rfl, p3, _, _, _, rfl, rfl, SqL.of zm, atI_nat (j := 17) (by rw [List.getElem?_map, he17]; rfl), e17, cA 17, _, v, rfl, hE17, T.ek 17 (by decide), T.n17b, lkN, _, rfl, p3, _, _, _, rfl, rfl, SqL.of zm, atI_nat (j := 20) (by rw [List.getElem?_map, he20]; rfl), e20, cA 20, _, v, rfl, hE20, T.ek 20 (by decide), T.n20, by simp [List.lookup], _, rfl, p3, _, _, _, rfl, rfl, SqL.of zm, atI_nat (j := 21) (by rw [List.getElem?_map, he21]; rfl), e21, cA 21, _, v, rfl, hE21, T.ek 21 (by decide), T.n21, by simp [List.lookup], (by show 4 ≤ sizeLine; decide), fun q1 w1 => ?_⟩
    have u1 : Same _ (upd _ q1 (.lst [v, v, v, v])) := same_new w1
    refine ⟨a0, q1, _, _, rfl, rfl, u1 _ _ zz0, upd_same, (by show 21 ≤ sizeLine; decide), fun a1 b1 => ?_⟩
    obtain ⟨f1, z1⟩ := grow (o := .lst ((List.replicate 17 v) ++ [v, v, v, v])) u1 b1
    replace zm := f1 _ _ zm
    replace kv := kv.same f1
    replace hE17 := hE17.same f1
    have zz1 : _ = some (HO.lst (List.replicate 21 v)) := z1
    -- the end
    refine ⟨_, rfl, _, rfl, (by show 1 ≤ sizeLine; decide), fun l9 h9 => ?_⟩
    have s9 : Same _ (upd _ l9 (.lst [v])) := same_new h9
    refine ⟨_, rfl, a1, _, rfl, .inl (SqL.of (s9 _ _ zz1)), l9, _, _, rfl, rfl, upd_same, (by show -(2 ^ 63) ≤ (21 : Int); decide), (by show (21 : Int) < 2 ^ 63; decide), (by show 21 ≤ sizeLine; decide), fun l10 h10 => ?_⟩
    have s10 := s9.trans (same_new (o := .lst (List.replicate 21 v)) h10)
    have k10 := kv.same s10
    obtain ⟨y1, y2⟩ := vk_lay k10
    refine ⟨.list (List.replicate 21 dv), .list (List.replicate 21 dv), .lst (SqL.of (s10 _ _ zz1)) (dp_all k10 21), .lst (SqL.of upd_same) (dp_all k10 21), y2, y2, ?_⟩
    refine ⟨_, rfl, ift (SeqAt.eqv_refl _ y1) ?_⟩
    refine ⟨_, rfl, p3, _, _, _, rfl, rfl, SqL.of (s10 _ _ zm), atI_nat (j := 17) (by rw [List.getElem?_map, he17]; rfl), e17, 403, _, .str "f", rfl, hE17.same s10, T.ek 17 (by decide), T.n17a, by simp [List.lookup], rfl, ?_⟩
    exact q _
end
end K30
open PySem PySem.W PyProof.Rows in
set_option maxHeartbeats 0 in
open_top hd for PySem.Challenge.rw_stoppoints_k30_errors_told
set_option maxHeartbeats 16000000
namespace K30
open PySem PySem.Spec PyProof.Rows L2 SupE
section
variable {K : PySem.W.Frag} {h : Heap} {mg : Str → Option Value}
theorem df_ex {x : Str} {st : Stmt} {ps : List Str} {f : Addr} {oc : Value} {od an : Option Addr} {osl : Array (Option Value)} {kV doc pm cdv ct : Value} (X : K.In h) (G : h.Ns mainGlobals mg) (a : PySem.W.nsIn K mainGlobals x = some (some (.ref f)))
    (l : K.lookup f = some ⟨oc, od, .func (PySem.W.fnOf x x (defArgs st) (defBody st) (defScope st) .none kV doc pm an cdv ct), osl⟩) (c : PySem.W.codeIn K cdv x = true) (k : PySem.W.keepIn K (.ref f) = true)
    (hb : ∀ (kV doc pm : Value) (an : Option Addr) (cdv ct : Value) (us : List Value), us.length = ps.length → bindArgs (PySem.W.fnOf x x (defArgs st) (defBody st) (defScope st) .none kV doc pm an cdv ct) ⟨us, []⟩ = pure (ps.zip us)) : ∃ f fd, Df K mg x st ps f fd :=
  ⟨f, _, fun_mk l c k, PySem.W.mg_of X G a, (fun_mk l c k).binds hb⟩

end
theorem fill : (PySem.Challenge.rw_stoppoints_k30_errors_told = PySem.Challenge.rw_stoppoints_k30_errors_told) ∧ (hd.heap_39 = hd.heap_39) := by
  k_fill
  exact ⟨rfl, rfl⟩
theorem exm_own {K : PySem.W.Frag} {S : Addr} (h1 : PySem.W.subIn K (.ref S) (.type "BaseException") = some true) (h2 : PySem.W.isClsIn K S = true) (h3 : PySem.W.typeIn K (.ref S) = some (.type "type")) (h4 : PySem.W.subIn K (.ref S) (.ref S) = some true) :
    PySem.W.exmOne K (.ref S) (.ref S) = some true := by
  have e1 : (PySem.W.subIn K (.ref S) (.type "BaseException") == some true) = true := by rw [h1] <;> rfl
  have e2 : ((PySem.W.clsIn K S).isSome && PySem.W.typeIn K (.ref S) == some (.type "type")) = true := by
    have z : (PySem.W.clsIn K S).isSome = true := h2
    rw [z, h3] <;> rfl
  unfold PySem.W.exmOne
  exact (if_pos e1).trans ((if_pos e2).trans h4)

theorem err_ex {P : Program} {K : PySem.W.Frag} {h : Heap} {mg : Str → Option Value} {nm q : Str} {N : Addr} {bs bm : List Value} {sn : List Str} {sub : List Value} {ab : Bool} {col : Option Bool} {dd : Option Addr} {k0 k1 k2 k3 k5 : Option Value} {fI C : Addr} {cn pn : Str}
    {oc : Value} {od : Option Addr} {doc pm : Value} {an : Option Addr} {cda cc : Addr} {ct : Value} {osl : Array (Option Value)} {msg qn : Str} {p1 p2 q1 q2 q3 q4 q5 q6 r1 r2 r3 r4 : Pos} {cl : Value} {cld : Option Addr} {csl : Array (Option Value)}
    {ccl : Value} {cdd : Option Addr} {vs : Array Value} {ccs : Array (Option Value)} {file : Str} {tf : Tok}
    (X : K.In h) (G : h.Ns mainGlobals mg) (top : (P.main.scope.names.lookup ("super" : Str)).isSome = false) (gC : PySem.W.nsIn K mainGlobals cn = some (some (.ref C))) (gS : PySem.W.nsIn K mainGlobals "super" = some none)
    (xL : K.lookup C = some (PySem.excClassObj nm q C N bs bm true sn sub ab col dd k0 k1 k2 k3 k5 "ValueError.__new__")) (rf : PySem.HandSPX.refsVE bm = true)
    (sa : PySem.W.findIn K (.ref C) "__setattr__" = some (some (.builtin "object.__setattr__"))) (ga : PySem.W.findIn K (.ref C) "__getattribute__" = some (some (.builtin "BaseException.__getattribute__"))) (gg : PySem.W.findIn K (.ref C) "__getattr__" = some none) (nb : PySem.W.findIn K (.ref C) pn = some none)
    (iC : PySem.W.findIn K (.ref C) "__init__" = some (some (.ref fI))) (tC : PySem.W.typeIn K (.ref fI) = some (.type "function")) (kC : PySem.W.keepIn K (.ref C) = true) (eC : PySem.W.subIn K (.ref C) (.type "BaseException") = some true) (vC : PySem.W.subIn K (.ref C) (.type "ValueError") = some true) (yC : PySem.W.typeIn K (.ref C) = some (.type "type"))
    (hC : PySem.W.hasDictIn K C = true) (cC : PySem.W.isClsIn K C = true) (sC : PySem.W.subIn K (.ref C) (.ref C) = some true) (tp : PySem.W.nsIn K cStatics "thirdparty.any" = some none) (sup : PySem.W.ks_superIn K C C "__init__" = some (some (.builtin "ValueError.__init__"))) (slf : PySem.W.mroIn K C (.ref C) = some true)
    (l : K.lookup fI = some ⟨oc, od, .func (PySem.W.fnX "__init__" qn (SupE.args pn p1 p2) (SupE.body pn msg q1 q2 q3 q4 q5 q6 r1 r2 r3 r4) (SupE.scope pn) [("__class__", cc)] .none .none doc pm an (.ref cda) ct), osl⟩) (c : PySem.W.codeIn K (.ref cda) qn = true)
    (lc : K.lookup cc = some ⟨cl, cld, .cell (some (.ref C)), csl⟩) (ld : K.lookup cda = some ⟨ccl, cdd, .fields vs, ccs⟩) (v2 : vs[2]? = some (.str file tf)) (pf : (P.main.file == file) = true) (ql : (q3.endLine == q5.line) = true) : ∃ fE, SupE.Txt P K mg cn pn C fE :=
  ⟨fI, top, PySem.W.mg_of X G gC, PySem.W.mg_none_of X G gS, ⟨nm, q, N, bs, bm, sn, sub, ab, col, dd, k0, k1, k2, k3, k5, xL, rf⟩, sa, ga, gg, nb, iC, tC, kC, eC, vC, yC, hC, exm_own eC cC yC sC, tp, sup, slf,
    ⟨oc, od, doc, pm, an, cda, cc, ct, osl, msg, qn, p1, p2, q1, q2, q3, q4, q5, q6, r1, r2, r3, r4, l, c, ⟨cl, cld, csl, lc⟩, ccl, cdd, vs, ccs, file, tf, ld, v2, pf, ql⟩⟩

theorem err0_ex {P : Program} {K : PySem.W.Frag} {h : Heap} {mg : Str → Option Value} {nm q : Str} {N : Addr} {bs bm : List Value} {sn : List Str} {sub : List Value} {ab : Bool} {col : Option Bool} {dd : Option Addr} {k0 k1 k2 k3 k5 : Option Value} {fI C : Addr} {cn : Str}
    {oc : Value} {od : Option Addr} {doc pm : Value} {an : Option Addr} {cda cc : Addr} {ct : Value} {osl : Array (Option Value)} {msg qn : Str} {p1 q1 q2 q3 q4 q5 q6 : Pos} {cl : Value} {cld : Option Addr} {csl : Array (Option Value)}
    {ccl : Value} {cdd : Option Addr} {vs : Array Value} {ccs : Array (Option Value)} {file : Str} {tf : Tok}
    (X : K.In h) (G : h.Ns mainGlobals mg) (top : (P.main.scope.names.lookup ("super" : Str)).isSome = false) (gC : PySem.W.nsIn K mainGlobals cn = some (some (.ref C))) (gS : PySem.W.nsIn K mainGlobals "super" = some none)
    (xL : K.lookup C = some (PySem.excClassObj nm q C N bs bm true sn sub ab col dd k0 k1 k2 k3 k5 "ValueError.__new__")) (rf : PySem.HandSPX.refsVE bm = true)
    (sa : PySem.W.findIn K (.ref C) "__setattr__" = some (some (.builtin "object.__setattr__"))) (ga : PySem.W.findIn K (.ref C) "__getattribute__" = some (some (.builtin "BaseException.__getattribute__"))) (gg : PySem.W.findIn K (.ref C) "__getattr__" = some none)
    (iC : PySem.W.findIn K (.ref C) "__init__" = some (some (.ref fI))) (tC : PySem.W.typeIn K (.ref fI) = some (.type "function")) (kC : PySem.W.keepIn K (.ref C) = true) (eC : PySem.W.subIn K (.ref C) (.type "BaseException") = some true) (vC : PySem.W.subIn K (.ref C) (.type "ValueError") = some true) (yC : PySem.W.typeIn K (.ref C) = some (.type "type"))
    (hC : PySem.W.hasDictIn K C = true) (cC : PySem.W.isClsIn K C = true) (sC : PySem.W.subIn K (.ref C) (.ref C) = some true) (tp : PySem.W.nsIn K cStatics "thirdparty.any" = some none) (sup : PySem.W.ks_superIn K C C "__init__" = some (some (.builtin "ValueError.__init__"))) (slf : PySem.W.mroIn K C (.ref C) = some true)
    (l : K.lookup fI = some ⟨oc, od, .func (PySem.W.fnX "__init__" qn (SupE.args0 p1) (SupE.body0 msg q1 q2 q3 q4 q5 q6) (SupE.scope0) [("__class__", cc)] .none .none doc pm an (.ref cda) ct), osl⟩) (c : PySem.W.codeIn K (.ref cda) qn = true)
    (lc : K.lookup cc = some ⟨cl, cld, .cell (some (.ref C)), csl⟩) (ld : K.lookup cda = some ⟨ccl, cdd, .fields vs, ccs⟩) (v2 : vs[2]? = some (.str file tf)) (pf : (P.main.file == file) = true) (ql : (q3.endLine == q5.line) = true) : ∃ fE, SupE.Txt0 P K mg cn C fE :=
  ⟨fI, top, PySem.W.mg_of X G gC, PySem.W.mg_none_of X G gS, ⟨nm, q, N, bs, bm, sn, sub, ab, col, dd, k0, k1, k2, k3, k5, xL, rf⟩, sa, ga, gg, iC, tC, kC, eC, vC, yC, hC, exm_own eC cC yC sC, tp, sup, slf,
    ⟨oc, od, doc, pm, an, cda, cc, ct, osl, msg, qn, p1, q1, q2, q3, q4, q5, q6, l, c, ⟨cl, cld, csl, lc⟩, ccl, cdd, vs, ccs, file, tf, ld, v2, pf, ql⟩⟩

theorem err2_ex {P : Program} {K : PySem.W.Frag} {h : Heap} {mg : Str → Option Value} {nm q : Str} {N : Addr} {bs bm : List Value} {sn : List Str} {sub : List Value} {ab : Bool} {col : Option Bool} {dd : Option Addr} {k0 k1 k2 k3 k5 : Option Value} {fI C : Addr} {cn : Str}
    {oc : Value} {od : Option Addr} {doc pm : Value} {an : Option Addr} {cda cc : Addr} {ct : Value} {osl : Array (Option Value)} {msg qn : Str} {p1 p2 p3 q1 q2 q3 q4 q5 q6 r1 r2 r3 r4 s1 s2 s3 s4 : Pos} {cl : Value} {cld : Option Addr} {csl : Array (Option Value)}
    {ccl : Value} {cdd : Option Addr} {vs : Array Value} {ccs : Array (Option Value)} {file : Str} {tf : Tok}
    (X : K.In h) (G : h.Ns mainGlobals mg) (top : (P.main.scope.names.lookup ("super" : Str)).isSome = false) (gC : PySem.W.nsIn K mainGlobals cn = some (some (.ref C))) (gS : PySem.W.nsIn K mainGlobals "super" = some none)
    (xL : K.lookup C = some (PySem.excClassObj nm q C N bs bm true sn sub ab col dd k0 k1 k2 k3 k5 "ValueError.__new__")) (rf : PySem.HandSPX.refsVE bm = true)
    (sa : PySem.W.findIn K (.ref C) "__setattr__" = some (some (.builtin "object.__setattr__"))) (ga : PySem.W.findIn K (.ref C) "__getattribute__" = some (some (.builtin "BaseException.__getattribute__"))) (gg : PySem.W.findIn K (.ref C) "__getattr__" = some none) (nb : PySem.W.findIn K (.ref C) "name" = some none) (nb2 : PySem.W.findIn K (.ref C) "needed" = some none)
    (iC : PySem.W.findIn K (.ref C) "__init__" = some (some (.ref fI))) (tC : PySem.W.typeIn K (.ref fI) = some (.type "function")) (kC : PySem.W.keepIn K (.ref C) = true) (eC : PySem.W.subIn K (.ref C) (.type "BaseException") = some true) (vC : PySem.W.subIn K (.ref C) (.type "ValueError") = some true) (yC : PySem.W.typeIn K (.ref C) = some (.type "type"))
    (hC : PySem.W.hasDictIn K C = true) (cC : PySem.W.isClsIn K C = true) (sC : PySem.W.subIn K (.ref C) (.ref C) = some true) (tp : PySem.W.nsIn K cStatics "thirdparty.any" = some none) (sup : PySem.W.ks_superIn K C C "__init__" = some (some (.builtin "ValueError.__init__"))) (slf : PySem.W.mroIn K C (.ref C) = some true)
    (l : K.lookup fI = some ⟨oc, od, .func (PySem.W.fnX "__init__" qn (SupE.args2 p1 p2 p3) (SupE.body2 msg q1 q2 q3 q4 q5 q6 r1 r2 r3 r4 s1 s2 s3 s4) (SupE.scope2) [("__class__", cc)] .none .none doc pm an (.ref cda) ct), osl⟩) (c : PySem.W.codeIn K (.ref cda) qn = true)
    (lc : K.lookup cc = some ⟨cl, cld, .cell (some (.ref C)), csl⟩) (ld : K.lookup cda = some ⟨ccl, cdd, .fields vs, ccs⟩) (v2 : vs[2]? = some (.str file tf)) (pf : (P.main.file == file) = true) (ql : (q3.endLine == q5.line) = true) : ∃ fE, SupE.Txt2 P K mg cn C fE :=
  ⟨fI, top, PySem.W.mg_of X G gC, PySem.W.mg_none_of X G gS, ⟨nm, q, N, bs, bm, sn, sub, ab, col, dd, k0, k1, k2, k3, k5, xL, rf⟩, sa, ga, gg, nb, nb2, iC, tC, kC, eC, vC, yC, hC, exm_own eC cC yC sC, tp, sup, slf,
    ⟨oc, od, doc, pm, an, cda, cc, ct, osl, msg, qn, p1, p2, p3, q1, q2, q3, q4, q5, q6, r1, r2, r3, r4, s1, s2, s3, s4, l, c, ⟨cl, cld, csl, lc⟩, ccl, cdd, vs, ccs, file, tf, ld, v2, pf, ql⟩⟩

theorem t_0 {w : World} {h : Heap} {mg : Str → Option Value} (X : (hd.heap_39 w.params).In h) (G : h.Ns mainGlobals mg) : ∃ fE, SupE.Txt PySem.Challenge.rw_stoppoints_k30_errors_told.prog (hd.heap_39 w.params) mg "InvalidTime" "value" 46 fE := by
  refine' err_ex X G ?top ?gC ?gS ?xL ?rf ?sa ?ga ?gg ?nb ?iC ?tC ?kC ?eC ?vC ?yC ?hC ?cC ?sC ?tp ?sup ?slf ?l ?c ?lc ?ld ?v2 ?pf ?ql
  (case top => decide +kernel)
  (case gC => k_is); (case gS => k_is); (case xL => k_is); (case rf => decide +kernel); (case sa => k_is); (case ga => k_is); (case gg => k_is); (case nb => k_is); (case iC => k_is); (case tC => k_is); (case kC => k_is); (case eC => k_is); (case vC => k_is); (case yC => k_is)
  (case hC => k_is); (case cC => k_is); (case sC => first | rfl | k_is); (case tp => k_is); (case sup => kernel_rfl); (case slf => k_is); (case l => k_is); (case c => k_is); (case lc => k_is); (case ld => k_is); (case v2 => rfl); (case pf => decide +kernel); (case ql => decide +kernel)
theorem ek_0 {w : World} : EK (hd.heap_39 w.params) 46 := by
  refine ⟨?a, ?b, ?c, ?d, ?e, ?f, ?g, ?h, ?i, ?j⟩
  (case a => k_is); (case b => k_is); (case c => k_is); (case d => k_is); (case e => k_is); (case f => k_is); (case g => k_is); (case h => k_is); (case i => k_is); (case j => k_is)
theorem t_1 {w : World} {h : Heap} {mg : Str → Option Value} (X : (hd.heap_39 w.params).In h) (G : h.Ns mainGlobals mg) : ∃ fE, SupE.Txt PySem.Challenge.rw_stoppoints_k30_errors_told.prog (hd.heap_39 w.params) mg "InvalidName" "value" 67 fE := by
  refine' err_ex X G ?top ?gC ?gS ?xL ?rf ?sa ?ga ?gg ?nb ?iC ?tC ?kC ?eC ?vC ?yC ?hC ?cC ?sC ?tp ?sup ?slf ?l ?c ?lc ?ld ?v2 ?pf ?ql
  (case top => decide +kernel)
  (case gC => k_is); (case gS => k_is); (case xL => k_is); (case rf => decide +kernel); (case sa => k_is); (case ga => k_is); (case gg => k_is); (case nb => k_is); (case iC => k_is); (case tC => k_is); (case kC => k_is); (case eC => k_is); (case vC => k_is); (case yC => k_is)
  (case hC => k_is); (case cC => k_is); (case sC => first | rfl | k_is); (case tp => k_is); (case sup => kernel_rfl); (case slf => k_is); (case l => k_is); (case c => k_is); (case lc => k_is); (case ld => k_is); (case v2 => rfl); (case pf => decide +kernel); (case ql => decide +kernel)
theorem ek_1 {w : World} : EK (hd.heap_39 w.params) 67 := by
  refine ⟨?a, ?b, ?c, ?d, ?e, ?f, ?g, ?h, ?i, ?j⟩
  (case a => k_is); (case b => k_is); (case c => k_is); (case d => k_is); (case e => k_is); (case f => k_is); (case g => k_is); (case h => k_is); (case i => k_is); (case j => k_is)
theorem t_2 {w : World} {h : Heap} {mg : Str → Option Value} (X : (hd.heap_39 w.params).In h) (G : h.Ns mainGlobals mg) : ∃ fE, SupE.Txt PySem.Challenge.rw_stoppoints_k30_errors_told.prog (hd.heap_39 w.params) mg "InvalidTurns" "value" 88 fE := by
  refine' err_ex X G ?top ?gC ?gS ?xL ?rf ?sa ?ga ?gg ?nb ?iC ?tC ?kC ?eC ?vC ?yC ?hC ?cC ?sC ?tp ?sup ?slf ?l ?c ?lc ?ld ?v2 ?pf ?ql
  (case top => decide +kernel)
  (case gC => k_is); (case gS => k_is); (case xL => k_is); (case rf => decide +kernel); (case sa => k_is); (case ga => k_is); (case gg => k_is); (case nb => k_is); (case iC => k_is); (case tC => k_is); (case kC => k_is); (case eC => k_is); (case vC => k_is); (case yC => k_is)
  (case hC => k_is); (case cC => k_is); (case sC => first | rfl | k_is); (case tp => k_is); (case sup => kernel_rfl); (case slf => k_is); (case l => k_is); (case c => k_is); (case lc => k_is); (case ld => k_is); (case v2 => rfl); (case pf => decide +kernel); (case ql => decide +kernel)
theorem ek_2 {w : World} : EK (hd.heap_39 w.params) 88 := by
  refine ⟨?a, ?b, ?c, ?d, ?e, ?f, ?g, ?h, ?i, ?j⟩
  (case a => k_is); (case b => k_is); (case c => k_is); (case d => k_is); (case e => k_is); (case f => k_is); (case g => k_is); (case h => k_is); (case i => k_is); (case j => k_is)
theorem t_3 {w : World} {h : Heap} {mg : Str → Option Value} (X : (hd.heap_39 w.params).In h) (G : h.Ns mainGlobals mg) : ∃ fE, SupE.Txt PySem.Challenge.rw_stoppoints_k30_errors_told.prog (hd.heap_39 w.params) mg "InvalidCode" "value" 109 fE := by
  refine' err_ex X G ?top ?gC ?gS ?xL ?rf ?sa ?ga ?gg ?nb ?iC ?tC ?kC ?eC ?vC ?yC ?hC ?cC ?sC ?tp ?sup ?slf ?l ?c ?lc ?ld ?v2 ?pf ?ql
  (case top => decide +kernel)
  (case gC => k_is); (case gS => k_is); (case xL => k_is); (case rf => decide +kernel); (case sa => k_is); (case ga => k_is); (case gg => k_is); (case nb => k_is); (case iC => k_is); (case tC => k_is); (case kC => k_is); (case eC => k_is); (case vC => k_is); (case yC => k_is)
  (case hC => k_is); (case cC => k_is); (case sC => first | rfl | k_is); (case tp => k_is); (case sup => kernel_rfl); (case slf => k_is); (case l => k_is); (case c => k_is); (case lc => k_is); (case ld => k_is); (case v2 => rfl); (case pf => decide +kernel); (case ql => decide +kernel)
theorem ek_3 {w : World} : EK (hd.heap_39 w.params) 109 := by
  refine ⟨?a, ?b, ?c, ?d, ?e, ?f, ?g, ?h, ?i, ?j⟩
  (case a => k_is); (case b => k_is); (case c => k_is); (case d => k_is); (case e => k_is); (case f => k_is); (case g => k_is); (case h => k_is); (case i => k_is); (case j => k_is)
theorem t_4 {w : World} {h : Heap} {mg : Str → Option Value} (X : (hd.heap_39 w.params).In h) (G : h.Ns mainGlobals mg) : ∃ fE, SupE.Txt PySem.Challenge.rw_stoppoints_k30_errors_told.prog (hd.heap_39 w.params) mg "InvalidText" "text" 130 fE := by
  refine' err_ex X G ?top ?gC ?gS ?xL ?rf ?sa ?ga ?gg ?nb ?iC ?tC ?kC ?eC ?vC ?yC ?hC ?cC ?sC ?tp ?sup ?slf ?l ?c ?lc ?ld ?v2 ?pf ?ql
  (case top => decide +kernel)
  (case gC => k_is); (case gS => k_is); (case xL => k_is); (case rf => decide +kernel); (case sa => k_is); (case ga => k_is); (case gg => k_is); (case nb => k_is); (case iC => k_is); (case tC => k_is); (case kC => k_is); (case eC => k_is); (case vC => k_is); (case yC => k_is)
  (case hC => k_is); (case cC => k_is); (case sC => first | rfl | k_is); (case tp => k_is); (case sup => kernel_rfl); (case slf => k_is); (case l => k_is); (case c => k_is); (case lc => k_is); (case ld => k_is); (case v2 => rfl); (case pf => decide +kernel); (case ql => decide +kernel)
theorem ek_4 {w : World} : EK (hd.heap_39 w.params) 130 := by
  refine ⟨?a, ?b, ?c, ?d, ?e, ?f, ?g, ?h, ?i, ?j⟩
  (case a => k_is); (case b => k_is); (case c => k_is); (case d => k_is); (case e => k_is); (case f => k_is); (case g => k_is); (case h => k_is); (case i => k_is); (case j => k_is)
theorem t_5 {w : World} {h : Heap} {mg : Str → Option Value} (X : (hd.heap_39 w.params).In h) (G : h.Ns mainGlobals mg) : ∃ fE, SupE.Txt PySem.Challenge.rw_stoppoints_k30_errors_told.prog (hd.heap_39 w.params) mg "InvalidFunctions" "name" 151 fE := by
  refine' err_ex X G ?top ?gC ?gS ?xL ?rf ?sa ?ga ?gg ?nb ?iC ?tC ?kC ?eC ?vC ?yC ?hC ?cC ?sC ?tp ?sup ?slf ?l ?c ?lc ?ld ?v2 ?pf ?ql
  (case top => decide +kernel)
  (case gC => k_is); (case gS => k_is); (case xL => k_is); (case rf => decide +kernel); (case sa => k_is); (case ga => k_is); (case gg => k_is); (case nb => k_is); (case iC => k_is); (case tC => k_is); (case kC => k_is); (case eC => k_is); (case vC => k_is); (case yC => k_is)
  (case hC => k_is); (case cC => k_is); (case sC => first | rfl | k_is); (case tp => k_is); (case sup => kernel_rfl); (case slf => k_is); (case l => k_is); (case c => k_is); (case lc => k_is); (case ld => k_is); (case v2 => rfl); (case pf => decide +kernel); (case ql => decide +kernel)
theorem ek_5 {w : World} : EK (hd.heap_39 w.params) 151 := by
  refine ⟨?a, ?b, ?c, ?d, ?e, ?f, ?g, ?h, ?i, ?j⟩
  (case a => k_is); (case b => k_is); (case c => k_is); (case d => k_is); (case e => k_is); (case f => k_is); (case g => k_is); (case h => k_is); (case i => k_is); (case j => k_is)
theorem t_6 {w : World} {h : Heap} {mg : Str → Option Value} (X : (hd.heap_39 w.params).In h) (G : h.Ns mainGlobals mg) : ∃ fE, SupE.Txt PySem.Challenge.rw_stoppoints_k30_errors_told.prog (hd.heap_39 w.params) mg "UnknownName" "name" 172 fE := by
  refine' err_ex X G ?top ?gC ?gS ?xL ?rf ?sa ?ga ?gg ?nb ?iC ?tC ?kC ?eC ?vC ?yC ?hC ?cC ?sC ?tp ?sup ?slf ?l ?c ?lc ?ld ?v2 ?pf ?ql
  (case top => decide +kernel)
  (case gC => k_is); (case gS => k_is); (case xL => k_is); (case rf => decide +kernel); (case sa => k_is); (case ga => k_is); (case gg => k_is); (case nb => k_is); (case iC => k_is); (case tC => k_is); (case kC => k_is); (case eC => k_is); (case vC => k_is); (case yC => k_is)
  (case hC => k_is); (case cC => k_is); (case sC => first | rfl | k_is); (case tp => k_is); (case sup => kernel_rfl); (case slf => k_is); (case l => k_is); (case c => k_is); (case lc => k_is); (case ld => k_is); (case v2 => rfl); (case pf => decide +kernel); (case ql => decide +kernel)
theorem ek_6 {w : World} : EK (hd.heap_39 w.params) 172 := by
  refine ⟨?a, ?b, ?c, ?d, ?e, ?f, ?g, ?h, ?i, ?j⟩
  (case a => k_is); (case b => k_is); (case c => k_is); (case d => k_is); (case e => k_is); (case f => k_is); (case g => k_is); (case h => k_is); (case i => k_is); (case j => k_is)
theorem t_7 {w : World} {h : Heap} {mg : Str → Option Value} (X : (hd.heap_39 w.params).In h) (G : h.Ns mainGlobals mg) : ∃ fE, SupE.Txt PySem.Challenge.rw_stoppoints_k30_errors_told.prog (hd.heap_39 w.params) mg "InvalidChoice" "index" 193 fE := by
  refine' err_ex X G ?top ?gC ?gS ?xL ?rf ?sa ?ga ?gg ?nb ?iC ?tC ?kC ?eC ?vC ?yC ?hC ?cC ?sC ?tp ?sup ?slf ?l ?c ?lc ?ld ?v2 ?pf ?ql
  (case top => decide +kernel)
  (case gC => k_is); (case gS => k_is); (case xL => k_is); (case rf => decide +kernel); (case sa => k_is); (case ga => k_is); (case gg => k_is); (case nb => k_is); (case iC => k_is); (case tC => k_is); (case kC => k_is); (case eC => k_is); (case vC => k_is); (case yC => k_is)
  (case hC => k_is); (case cC => k_is); (case sC => first | rfl | k_is); (case tp => k_is); (case sup => kernel_rfl); (case slf => k_is); (case l => k_is); (case c => k_is); (case lc => k_is); (case ld => k_is); (case v2 => rfl); (case pf => decide +kernel); (case ql => decide +kernel)
theorem ek_7 {w : World} : EK (hd.heap_39 w.params) 193 := by
  refine ⟨?a, ?b, ?c, ?d, ?e, ?f, ?g, ?h, ?i, ?j⟩
  (case a => k_is); (case b => k_is); (case c => k_is); (case d => k_is); (case e => k_is); (case f => k_is); (case g => k_is); (case h => k_is); (case i => k_is); (case j => k_is)
theorem t_8 {w : World} {h : Heap} {mg : Str → Option Value} (X : (hd.heap_39 w.params).In h) (G : h.Ns mainGlobals mg) : ∃ fE, SupE.Txt PySem.Challenge.rw_stoppoints_k30_errors_told.prog (hd.heap_39 w.params) mg "LimitExceeded" "limit" 214 fE := by
  refine' err_ex X G ?top ?gC ?gS ?xL ?rf ?sa ?ga ?gg ?nb ?iC ?tC ?kC ?eC ?vC ?yC ?hC ?cC ?sC ?tp ?sup ?slf ?l ?c ?lc ?ld ?v2 ?pf ?ql
  (case top => decide +kernel)
  (case gC => k_is); (case gS => k_is); (case xL => k_is); (case rf => decide +kernel); (case sa => k_is); (case ga => k_is); (case gg => k_is); (case nb => k_is); (case iC => k_is); (case tC => k_is); (case kC => k_is); (case eC => k_is); (case vC => k_is); (case yC => k_is)
  (case hC => k_is); (case cC => k_is); (case sC => first | rfl | k_is); (case tp => k_is); (case sup => kernel_rfl); (case slf => k_is); (case l => k_is); (case c => k_is); (case lc => k_is); (case ld => k_is); (case v2 => rfl); (case pf => decide +kernel); (case ql => decide +kernel)
theorem ek_8 {w : World} : EK (hd.heap_39 w.params) 214 := by
  refine ⟨?a, ?b, ?c, ?d, ?e, ?f, ?g, ?h, ?i, ?j⟩
  (case a => k_is); (case b => k_is); (case c => k_is); (case d => k_is); (case e => k_is); (case f => k_is); (case g => k_is); (case h => k_is); (case i => k_is); (case j => k_is)
theorem t_9 {w : World} {h : Heap} {mg : Str → Option Value} (X : (hd.heap_39 w.params).In h) (G : h.Ns mainGlobals mg) : ∃ fE, SupE.Txt PySem.Challenge.rw_stoppoints_k30_errors_told.prog (hd.heap_39 w.params) mg "InvalidNumber" "value" 235 fE := by
  refine' err_ex X G ?top ?gC ?gS ?xL ?rf ?sa ?ga ?gg ?nb ?iC ?tC ?kC ?eC ?vC ?yC ?hC ?cC ?sC ?tp ?sup ?slf ?l ?c ?lc ?ld ?v2 ?pf ?ql
  (case top => decide +kernel)
  (case gC => k_is); (case gS => k_is); (case xL => k_is); (case rf => decide +kernel); (case sa => k_is); (case ga => k_is); (case gg => k_is); (case nb => k_is); (case iC => k_is); (case tC => k_is); (case kC => k_is); (case eC => k_is); (case vC => k_is); (case yC => k_is)
  (case hC => k_is); (case cC => k_is); (case sC => first | rfl | k_is); (case tp => k_is); (case sup => kernel_rfl); (case slf => k_is); (case l => k_is); (case c => k_is); (case lc => k_is); (case ld => k_is); (case v2 => rfl); (case pf => decide +kernel); (case ql => decide +kernel)
theorem ek_9 {w : World} : EK (hd.heap_39 w.params) 235 := by
  refine ⟨?a, ?b, ?c, ?d, ?e, ?f, ?g, ?h, ?i, ?j⟩
  (case a => k_is); (case b => k_is); (case c => k_is); (case d => k_is); (case e => k_is); (case f => k_is); (case g => k_is); (case h => k_is); (case i => k_is); (case j => k_is)
theorem t_10 {w : World} {h : Heap} {mg : Str → Option Value} (X : (hd.heap_39 w.params).In h) (G : h.Ns mainGlobals mg) : ∃ fE, SupE.Txt PySem.Challenge.rw_stoppoints_k30_errors_told.prog (hd.heap_39 w.params) mg "InvalidTrail" "index" 256 fE := by
  refine' err_ex X G ?top ?gC ?gS ?xL ?rf ?sa ?ga ?gg ?nb ?iC ?tC ?kC ?eC ?vC ?yC ?hC ?cC ?sC ?tp ?sup ?slf ?l ?c ?lc ?ld ?v2 ?pf ?ql
  (case top => decide +kernel)
  (case gC => k_is); (case gS => k_is); (case xL => k_is); (case rf => decide +kernel); (case sa => k_is); (case ga => k_is); (case gg => k_is); (case nb => k_is); (case iC => k_is); (case tC => k_is); (case kC => k_is); (case eC => k_is); (case vC => k_is); (case yC => k_is)
  (case hC => k_is); (case cC => k_is); (case sC => first | rfl | k_is); (case tp => k_is); (case sup => kernel_rfl); (case slf => k_is); (case l => k_is); (case c => k_is); (case lc => k_is); (case ld => k_is); (case v2 => rfl); (case pf => decide +kernel); (case ql => decide +kernel)
theorem ek_10 {w : World} : EK (hd.heap_39 w.params) 256 := by
  refine ⟨?a, ?b, ?c, ?d, ?e, ?f, ?g, ?h, ?i, ?j⟩
  (case a => k_is); (case b => k_is); (case c => k_is); (case d => k_is); (case e => k_is); (case f => k_is); (case g => k_is); (case h => k_is); (case i => k_is); (case j => k_is)
theorem t_11 {w : World} {h : Heap} {mg : Str → Option Value} (X : (hd.heap_39 w.params).In h) (G : h.Ns mainGlobals mg) : ∃ fE, SupE.Txt PySem.Challenge.rw_stoppoints_k30_errors_told.prog (hd.heap_39 w.params) mg "InvalidPlace" "value" 277 fE := by
  refine' err_ex X G ?top ?gC ?gS ?xL ?rf ?sa ?ga ?gg ?nb ?iC ?tC ?kC ?eC ?vC ?yC ?hC ?cC ?sC ?tp ?sup ?slf ?l ?c ?lc ?ld ?v2 ?pf ?ql
  (case top => decide +kernel)
  (case gC => k_is); (case gS => k_is); (case xL => k_is); (case rf => decide +kernel); (case sa => k_is); (case ga => k_is); (case gg => k_is); (case nb => k_is); (case iC => k_is); (case tC => k_is); (case kC => k_is); (case eC => k_is); (case vC => k_is); (case yC => k_is)
  (case hC => k_is); (case cC => k_is); (case sC => first | rfl | k_is); (case tp => k_is); (case sup => kernel_rfl); (case slf => k_is); (case l => k_is); (case c => k_is); (case lc => k_is); (case ld => k_is); (case v2 => rfl); (case pf => decide +kernel); (case ql => decide +kernel)
theorem ek_11 {w : World} : EK (hd.heap_39 w.params) 277 := by
  refine ⟨?a, ?b, ?c, ?d, ?e, ?f, ?g, ?h, ?i, ?j⟩
  (case a => k_is); (case b => k_is); (case c => k_is); (case d => k_is); (case e => k_is); (case f => k_is); (case g => k_is); (case h => k_is); (case i => k_is); (case j => k_is)
theorem t_12 {w : World} {h : Heap} {mg : Str → Option Value} (X : (hd.heap_39 w.params).In h) (G : h.Ns mainGlobals mg) : ∃ fE, SupE.Txt PySem.Challenge.rw_stoppoints_k30_errors_told.prog (hd.heap_39 w.params) mg "InvalidRule" "value" 298 fE := by
  refine' err_ex X G ?top ?gC ?gS ?xL ?rf ?sa ?ga ?gg ?nb ?iC ?tC ?kC ?eC ?vC ?yC ?hC ?cC ?sC ?tp ?sup ?slf ?l ?c ?lc ?ld ?v2 ?pf ?ql
  (case top => decide +kernel)
  (case gC => k_is); (case gS => k_is); (case xL => k_is); (case rf => decide +kernel); (case sa => k_is); (case ga => k_is); (case gg => k_is); (case nb => k_is); (case iC => k_is); (case tC => k_is); (case kC => k_is); (case eC => k_is); (case vC => k_is); (case yC => k_is)
  (case hC => k_is); (case cC => k_is); (case sC => first | rfl | k_is); (case tp => k_is); (case sup => kernel_rfl); (case slf => k_is); (case l => k_is); (case c => k_is); (case lc => k_is); (case ld => k_is); (case v2 => rfl); (case pf => decide +kernel); (case ql => decide +kernel)
theorem ek_12 {w : World} : EK (hd.heap_39 w.params) 298 := by
  refine ⟨?a, ?b, ?c, ?d, ?e, ?f, ?g, ?h, ?i, ?j⟩
  (case a => k_is); (case b => k_is); (case c => k_is); (case d => k_is); (case e => k_is); (case f => k_is); (case g => k_is); (case h => k_is); (case i => k_is); (case j => k_is)
theorem t_13 {w : World} {h : Heap} {mg : Str → Option Value} (X : (hd.heap_39 w.params).In h) (G : h.Ns mainGlobals mg) : ∃ fE, SupE.Txt PySem.Challenge.rw_stoppoints_k30_errors_told.prog (hd.heap_39 w.params) mg "InvalidLimit" "value" 319 fE := by
  refine' err_ex X G ?top ?gC ?gS ?xL ?rf ?sa ?ga ?gg ?nb ?iC ?tC ?kC ?eC ?vC ?yC ?hC ?cC ?sC ?tp ?sup ?slf ?l ?c ?lc ?ld ?v2 ?pf ?ql
  (case top => decide +kernel)
  (case gC => k_is); (case gS => k_is); (case xL => k_is); (case rf => decide +kernel); (case sa => k_is); (case ga => k_is); (case gg => k_is); (case nb => k_is); (case iC => k_is); (case tC => k_is); (case kC => k_is); (case eC => k_is); (case vC => k_is); (case yC => k_is)
  (case hC => k_is); (case cC => k_is); (case sC => first | rfl | k_is); (case tp => k_is); (case sup => kernel_rfl); (case slf => k_is); (case l => k_is); (case c => k_is); (case lc => k_is); (case ld => k_is); (case v2 => rfl); (case pf => decide +kernel); (case ql => decide +kernel)
theorem ek_13 {w : World} : EK (hd.heap_39 w.params) 319 := by
  refine ⟨?a, ?b, ?c, ?d, ?e, ?f, ?g, ?h, ?i, ?j⟩
  (case a => k_is); (case b => k_is); (case c => k_is); (case d => k_is); (case e => k_is); (case f => k_is); (case g => k_is); (case h => k_is); (case i => k_is); (case j => k_is)
theorem t_14 {w : World} {h : Heap} {mg : Str → Option Value} (X : (hd.heap_39 w.params).In h) (G : h.Ns mainGlobals mg) : ∃ fE, SupE.Txt PySem.Challenge.rw_stoppoints_k30_errors_told.prog (hd.heap_39 w.params) mg "InvalidCosts" "value" 340 fE := by
  refine' err_ex X G ?top ?gC ?gS ?xL ?rf ?sa ?ga ?gg ?nb ?iC ?tC ?kC ?eC ?vC ?yC ?hC ?cC ?sC ?tp ?sup ?slf ?l ?c ?lc ?ld ?v2 ?pf ?ql
  (case top => decide +kernel)
  (case gC => k_is); (case gS => k_is); (case xL => k_is); (case rf => decide +kernel); (case sa => k_is); (case ga => k_is); (case gg => k_is); (case nb => k_is); (case iC => k_is); (case tC => k_is); (case kC => k_is); (case eC => k_is); (case vC => k_is); (case yC => k_is)
  (case hC => k_is); (case cC => k_is); (case sC => first | rfl | k_is); (case tp => k_is); (case sup => kernel_rfl); (case slf => k_is); (case l => k_is); (case c => k_is); (case lc => k_is); (case ld => k_is); (case v2 => rfl); (case pf => decide +kernel); (case ql => decide +kernel)
theorem ek_14 {w : World} : EK (hd.heap_39 w.params) 340 := by
  refine ⟨?a, ?b, ?c, ?d, ?e, ?f, ?g, ?h, ?i, ?j⟩
  (case a => k_is); (case b => k_is); (case c => k_is); (case d => k_is); (case e => k_is); (case f => k_is); (case g => k_is); (case h => k_is); (case i => k_is); (case j => k_is)
theorem t_15 {w : World} {h : Heap} {mg : Str → Option Value} (X : (hd.heap_39 w.params).In h) (G : h.Ns mainGlobals mg) : ∃ fE, SupE.Txt PySem.Challenge.rw_stoppoints_k30_errors_told.prog (hd.heap_39 w.params) mg "InvalidLoop" "value" 361 fE := by
  refine' err_ex X G ?top ?gC ?gS ?xL ?rf ?sa ?ga ?gg ?nb ?iC ?tC ?kC ?eC ?vC ?yC ?hC ?cC ?sC ?tp ?sup ?slf ?l ?c ?lc ?ld ?v2 ?pf ?ql
  (case top => decide +kernel)
  (case gC => k_is); (case gS => k_is); (case xL => k_is); (case rf => decide +kernel); (case sa => k_is); (case ga => k_is); (case gg => k_is); (case nb => k_is); (case iC => k_is); (case tC => k_is); (case kC => k_is); (case eC => k_is); (case vC => k_is); (case yC => k_is)
  (case hC => k_is); (case cC => k_is); (case sC => first | rfl | k_is); (case tp => k_is); (case sup => kernel_rfl); (case slf => k_is); (case l => k_is); (case c => k_is); (case lc => k_is); (case ld => k_is); (case v2 => rfl); (case pf => decide +kernel); (case ql => decide +kernel)
theorem ek_15 {w : World} : EK (hd.heap_39 w.params) 361 := by
  refine ⟨?a, ?b, ?c, ?d, ?e, ?f, ?g, ?h, ?i, ?j⟩
  (case a => k_is); (case b => k_is); (case c => k_is); (case d => k_is); (case e => k_is); (case f => k_is); (case g => k_is); (case h => k_is); (case i => k_is); (case j => k_is)
theorem t_16 {w : World} {h : Heap} {mg : Str → Option Value} (X : (hd.heap_39 w.params).In h) (G : h.Ns mainGlobals mg) : ∃ fE, SupE.Txt PySem.Challenge.rw_stoppoints_k30_errors_told.prog (hd.heap_39 w.params) mg "CannotInline" "name" 382 fE := by
  refine' err_ex X G ?top ?gC ?gS ?xL ?rf ?sa ?ga ?gg ?nb ?iC ?tC ?kC ?eC ?vC ?yC ?hC ?cC ?sC ?tp ?sup ?slf ?l ?c ?lc ?ld ?v2 ?pf ?ql
  (case top => decide +kernel)
  (case gC => k_is); (case gS => k_is); (case xL => k_is); (case rf => decide +kernel); (case sa => k_is); (case ga => k_is); (case gg => k_is); (case nb => k_is); (case iC => k_is); (case tC => k_is); (case kC => k_is); (case eC => k_is); (case vC => k_is); (case yC => k_is)
  (case hC => k_is); (case cC => k_is); (case sC => first | rfl | k_is); (case tp => k_is); (case sup => kernel_rfl); (case slf => k_is); (case l => k_is); (case c => k_is); (case lc => k_is); (case ld => k_is); (case v2 => rfl); (case pf => decide +kernel); (case ql => decide +kernel)
theorem ek_16 {w : World} : EK (hd.heap_39 w.params) 382 := by
  refine ⟨?a, ?b, ?c, ?d, ?e, ?f, ?g, ?h, ?i, ?j⟩
  (case a => k_is); (case b => k_is); (case c => k_is); (case d => k_is); (case e => k_is); (case f => k_is); (case g => k_is); (case h => k_is); (case i => k_is); (case j => k_is)
theorem t_17 {w : World} {h : Heap} {mg : Str → Option Value} (X : (hd.heap_39 w.params).In h) (G : h.Ns mainGlobals mg) : ∃ fE, SupE.Txt2 PySem.Challenge.rw_stoppoints_k30_errors_told.prog (hd.heap_39 w.params) mg "OverLimit" 403 fE := by
  refine' err2_ex X G ?top ?gC ?gS ?xL ?rf ?sa ?ga ?gg ?nb ?nb2 ?iC ?tC ?kC ?eC ?vC ?yC ?hC ?cC ?sC ?tp ?sup ?slf ?l ?c ?lc ?ld ?v2 ?pf ?ql
  (case top => decide +kernel)
  (case gC => k_is); (case gS => k_is); (case xL => k_is); (case rf => decide +kernel); (case sa => k_is); (case ga => k_is); (case gg => k_is); (case nb => k_is); (case nb2 => k_is); (case iC => k_is); (case tC => k_is); (case kC => k_is); (case eC => k_is); (case vC => k_is); (case yC => k_is)
  (case hC => k_is); (case cC => k_is); (case sC => first | rfl | k_is); (case tp => k_is); (case sup => kernel_rfl); (case slf => k_is); (case l => k_is); (case c => k_is); (case lc => k_is); (case ld => k_is); (case v2 => rfl); (case pf => decide +kernel); (case ql => decide +kernel)
theorem ek_17 {w : World} : EK (hd.heap_39 w.params) 403 := by
  refine ⟨?a, ?b, ?c, ?d, ?e, ?f, ?g, ?h, ?i, ?j⟩
  (case a => k_is); (case b => k_is); (case c => k_is); (case d => k_is); (case e => k_is); (case f => k_is); (case g => k_is); (case h => k_is); (case i => k_is); (case j => k_is)
theorem t_18 {w : World} {h : Heap} {mg : Str → Option Value} (X : (hd.heap_39 w.params).In h) (G : h.Ns mainGlobals mg) : ∃ fE, SupE.Txt0 PySem.Challenge.rw_stoppoints_k30_errors_told.prog (hd.heap_39 w.params) mg "NothingToUndo" 424 fE := by
  refine' err0_ex X G ?top ?gC ?gS ?xL ?rf ?sa ?ga ?gg ?iC ?tC ?kC ?eC ?vC ?yC ?hC ?cC ?sC ?tp ?sup ?slf ?l ?c ?lc ?ld ?v2 ?pf ?ql
  (case top => decide +kernel)
  (case gC => k_is); (case gS => k_is); (case xL => k_is); (case rf => decide +kernel); (case sa => k_is); (case ga => k_is); (case gg => k_is); (case iC => k_is); (case tC => k_is); (case kC => k_is); (case eC => k_is); (case vC => k_is); (case yC => k_is)
  (case hC => k_is); (case cC => k_is); (case sC => first | rfl | k_is); (case tp => k_is); (case sup => kernel_rfl); (case slf => k_is); (case l => k_is); (case c => k_is); (case lc => k_is); (case ld => k_is); (case v2 => rfl); (case pf => decide +kernel); (case ql => decide +kernel)
theorem ek_18 {w : World} : EK (hd.heap_39 w.params) 424 := by
  refine ⟨?a, ?b, ?c, ?d, ?e, ?f, ?g, ?h, ?i, ?j⟩
  (case a => k_is); (case b => k_is); (case c => k_is); (case d => k_is); (case e => k_is); (case f => k_is); (case g => k_is); (case h => k_is); (case i => k_is); (case j => k_is)
theorem t_19 {w : World} {h : Heap} {mg : Str → Option Value} (X : (hd.heap_39 w.params).In h) (G : h.Ns mainGlobals mg) : ∃ fE, SupE.Txt0 PySem.Challenge.rw_stoppoints_k30_errors_told.prog (hd.heap_39 w.params) mg "NothingToRedo" 445 fE := by
  refine' err0_ex X G ?top ?gC ?gS ?xL ?rf ?sa ?ga ?gg ?iC ?tC ?kC ?eC ?vC ?yC ?hC ?cC ?sC ?tp ?sup ?slf ?l ?c ?lc ?ld ?v2 ?pf ?ql
  (case top => decide +kernel)
  (case gC => k_is); (case gS => k_is); (case xL => k_is); (case rf => decide +kernel); (case sa => k_is); (case ga => k_is); (case gg => k_is); (case iC => k_is); (case tC => k_is); (case kC => k_is); (case eC => k_is); (case vC => k_is); (case yC => k_is)
  (case hC => k_is); (case cC => k_is); (case sC => first | rfl | k_is); (case tp => k_is); (case sup => kernel_rfl); (case slf => k_is); (case l => k_is); (case c => k_is); (case lc => k_is); (case ld => k_is); (case v2 => rfl); (case pf => decide +kernel); (case ql => decide +kernel)
theorem ek_19 {w : World} : EK (hd.heap_39 w.params) 445 := by
  refine ⟨?a, ?b, ?c, ?d, ?e, ?f, ?g, ?h, ?i, ?j⟩
  (case a => k_is); (case b => k_is); (case c => k_is); (case d => k_is); (case e => k_is); (case f => k_is); (case g => k_is); (case h => k_is); (case i => k_is); (case j => k_is)
theorem t_20 {w : World} {h : Heap} {mg : Str → Option Value} (X : (hd.heap_39 w.params).In h) (G : h.Ns mainGlobals mg) : ∃ fE, SupE.Txt PySem.Challenge.rw_stoppoints_k30_errors_told.prog (hd.heap_39 w.params) mg "InvalidLine" "index" 466 fE := by
  refine' err_ex X G ?top ?gC ?gS ?xL ?rf ?sa ?ga ?gg ?nb ?iC ?tC ?kC ?eC ?vC ?yC ?hC ?cC ?sC ?tp ?sup ?slf ?l ?c ?lc ?ld ?v2 ?pf ?ql
  (case top => decide +kernel)
  (case gC => k_is); (case gS => k_is); (case xL => k_is); (case rf => decide +kernel); (case sa => k_is); (case ga => k_is); (case gg => k_is); (case nb => k_is); (case iC => k_is); (case tC => k_is); (case kC => k_is); (case eC => k_is); (case vC => k_is); (case yC => k_is)
  (case hC => k_is); (case cC => k_is); (case sC => first | rfl | k_is); (case tp => k_is); (case sup => kernel_rfl); (case slf => k_is); (case l => k_is); (case c => k_is); (case lc => k_is); (case ld => k_is); (case v2 => rfl); (case pf => decide +kernel); (case ql => decide +kernel)
theorem ek_20 {w : World} : EK (hd.heap_39 w.params) 466 := by
  refine ⟨?a, ?b, ?c, ?d, ?e, ?f, ?g, ?h, ?i, ?j⟩
  (case a => k_is); (case b => k_is); (case c => k_is); (case d => k_is); (case e => k_is); (case f => k_is); (case g => k_is); (case h => k_is); (case i => k_is); (case j => k_is)
theorem t_21 {w : World} {h : Heap} {mg : Str → Option Value} (X : (hd.heap_39 w.params).In h) (G : h.Ns mainGlobals mg) : ∃ fE, SupE.Txt PySem.Challenge.rw_stoppoints_k30_errors_told.prog (hd.heap_39 w.params) mg "InvalidCommand" "command" 487 fE := by
  refine' err_ex X G ?top ?gC ?gS ?xL ?rf ?sa ?ga ?gg ?nb ?iC ?tC ?kC ?eC ?vC ?yC ?hC ?cC ?sC ?tp ?sup ?slf ?l ?c ?lc ?ld ?v2 ?pf ?ql
  (case top => decide +kernel)
  (case gC => k_is); (case gS => k_is); (case xL => k_is); (case rf => decide +kernel); (case sa => k_is); (case ga => k_is); (case gg => k_is); (case nb => k_is); (case iC => k_is); (case tC => k_is); (case kC => k_is); (case eC => k_is); (case vC => k_is); (case yC => k_is)
  (case hC => k_is); (case cC => k_is); (case sC => first | rfl | k_is); (case tp => k_is); (case sup => kernel_rfl); (case slf => k_is); (case l => k_is); (case c => k_is); (case lc => k_is); (case ld => k_is); (case v2 => rfl); (case pf => decide +kernel); (case ql => decide +kernel)
theorem ek_21 {w : World} : EK (hd.heap_39 w.params) 487 := by
  refine ⟨?a, ?b, ?c, ?d, ?e, ?f, ?g, ?h, ?i, ?j⟩
  (case a => k_is); (case b => k_is); (case c => k_is); (case d => k_is); (case e => k_is); (case f => k_is); (case g => k_is); (case h => k_is); (case i => k_is); (case j => k_is)
theorem t_22 {w : World} {h : Heap} {mg : Str → Option Value} (X : (hd.heap_39 w.params).In h) (G : h.Ns mainGlobals mg) : ∃ fE, SupE.Txt PySem.Challenge.rw_stoppoints_k30_errors_told.prog (hd.heap_39 w.params) mg "InvalidProgram" "value" 508 fE := by
  refine' err_ex X G ?top ?gC ?gS ?xL ?rf ?sa ?ga ?gg ?nb ?iC ?tC ?kC ?eC ?vC ?yC ?hC ?cC ?sC ?tp ?sup ?slf ?l ?c ?lc ?ld ?v2 ?pf ?ql
  (case top => decide +kernel)
  (case gC => k_is); (case gS => k_is); (case xL => k_is); (case rf => decide +kernel); (case sa => k_is); (case ga => k_is); (case gg => k_is); (case nb => k_is); (case iC => k_is); (case tC => k_is); (case kC => k_is); (case eC => k_is); (case vC => k_is); (case yC => k_is)
  (case hC => k_is); (case cC => k_is); (case sC => first | rfl | k_is); (case tp => k_is); (case sup => kernel_rfl); (case slf => k_is); (case l => k_is); (case c => k_is); (case lc => k_is); (case ld => k_is); (case v2 => rfl); (case pf => decide +kernel); (case ql => decide +kernel)
theorem ek_22 {w : World} : EK (hd.heap_39 w.params) 508 := by
  refine ⟨?a, ?b, ?c, ?d, ?e, ?f, ?g, ?h, ?i, ?j⟩
  (case a => k_is); (case b => k_is); (case c => k_is); (case d => k_is); (case e => k_is); (case f => k_is); (case g => k_is); (case h => k_is); (case i => k_is); (case j => k_is)
theorem f__law_pool {w : World} {h : Heap} {mg : Str → Option Value} (X : (hd.heap_39 w.params).In h) (G : h.Ns mainGlobals mg) : ∃ f fd, Df (hd.heap_39 w.params) mg "_law_pool" sPool ["script", "k"] f fd := by
  refine' df_ex X G ?a ?l ?c ?k (fun _ _ _ _ _ _ us hl => match us, hl with | [_, _], _ => rfl)
  (case a => k_is); (case l => k_is); (case c => k_is); (case k => k_is)
theorem f__law_draw {w : World} {h : Heap} {mg : Str → Option Value} (X : (hd.heap_39 w.params).In h) (G : h.Ns mainGlobals mg) : ∃ f fd, Df (hd.heap_39 w.params) mg "_law_draw" sDraw ["pool", "many"] f fd := by
  refine' df_ex X G ?a ?l ?c ?k (fun _ _ _ _ _ _ us hl => match us, hl with | [_, _], _ => rfl)
  (case a => k_is); (case l => k_is); (case c => k_is); (case k => k_is)
theorem f__law_choose {w : World} {h : Heap} {mg : Str → Option Value} (X : (hd.heap_39 w.params).In h) (G : h.Ns mainGlobals mg) : ∃ f fd, Df (hd.heap_39 w.params) mg "_law_choose" sChoose ["pool", "items"] f fd := by
  refine' df_ex X G ?a ?l ?c ?k (fun _ _ _ _ _ _ us hl => match us, hl with | [_, _], _ => rfl)
  (case a => k_is); (case l => k_is); (case c => k_is); (case k => k_is)
theorem f__law_kinds {w : World} {h : Heap} {mg : Str → Option Value} (X : (hd.heap_39 w.params).In h) (G : h.Ns mainGlobals mg) : ∃ f fd, Df (hd.heap_39 w.params) mg "_law_kinds" sKinds ["e"] f fd := by
  refine' df_ex X G ?a ?l ?c ?k (fun _ _ _ _ _ _ us hl => match us, hl with | [_], _ => rfl)
  (case a => k_is); (case l => k_is); (case c => k_is); (case k => k_is)
theorem f_law {w : World} {h : Heap} {mg : Str → Option Value} (X : (hd.heap_39 w.params).In h) (G : h.Ns mainGlobals mg) : ∃ f fd, Df (hd.heap_39 w.params) mg "law" sLaw ["script"] f fd := by
  refine' df_ex X G ?a ?l ?c ?k (fun _ _ _ _ _ _ us hl => match us, hl with | [_], _ => rfl)
  (case a => k_is); (case l => k_is); (case c => k_is); (case k => k_is)
theorem kit_all {w : World} : ((List.range 23).all fun i => (List.range 23).all fun j => PySem.W.kitOne (hd.heap_39 w.params) (.ref (cA i)) (.ref (cA j)) == some (decide (i = j))) = true := by kernel_rfl
theorem kitS_all {w : World} : ((List.range 23).all fun i => PySem.W.kitOne (hd.heap_39 w.params) (.ref (cA i)) (.ref 24) == some true) = true := by kernel_rfl
theorem kitV_all {w : World} : ((List.range 23).all fun i => PySem.W.kitOne (hd.heap_39 w.params) (.ref (cA i)) (.type "ValueError") == some true) = true := by kernel_rfl
theorem all_at {p : Nat → Bool} (h : ((List.range 23).all p) = true) (i : Nat) (hi : i < 23) : p i = true := List.all_eq_true.mp h i (List.mem_range.mpr hi)
theorem n_0 {w : World} : PySem.W.findIn (hd.heap_39 w.params) (.ref 46) "value" = some none := by k_is
theorem g_0 {w : World} {h : Heap} {mg : Str → Option Value} (X : (hd.heap_39 w.params).In h) (G : h.Ns mainGlobals mg) : mg "InvalidTime" = some (.ref 46) := by
  refine PySem.W.mg_of X G ?a
  (case a => k_is)
theorem n_1 {w : World} : PySem.W.findIn (hd.heap_39 w.params) (.ref 67) "value" = some none := by k_is
theorem g_1 {w : World} {h : Heap} {mg : Str → Option Value} (X : (hd.heap_39 w.params).In h) (G : h.Ns mainGlobals mg) : mg "InvalidName" = some (.ref 67) := by
  refine PySem.W.mg_of X G ?a
  (case a => k_is)
theorem n_2 {w : World} : PySem.W.findIn (hd.heap_39 w.params) (.ref 88) "value" = some none := by k_is
theorem g_2 {w : World} {h : Heap} {mg : Str → Option Value} (X : (hd.heap_39 w.params).In h) (G : h.Ns mainGlobals mg) : mg "InvalidTurns" = some (.ref 88) := by
  refine PySem.W.mg_of X G ?a
  (case a => k_is)
theorem n_3 {w : World} : PySem.W.findIn (hd.heap_39 w.params) (.ref 109) "value" = some none := by k_is
theorem g_3 {w : World} {h : Heap} {mg : Str → Option Value} (X : (hd.heap_39 w.params).In h) (G : h.Ns mainGlobals mg) : mg "InvalidCode" = some (.ref 109) := by
  refine PySem.W.mg_of X G ?a
  (case a => k_is)
theorem n_4 {w : World} : PySem.W.findIn (hd.heap_39 w.params) (.ref 130) "text" = some none := by k_is
theorem g_4 {w : World} {h : Heap} {mg : Str → Option Value} (X : (hd.heap_39 w.params).In h) (G : h.Ns mainGlobals mg) : mg "InvalidText" = some (.ref 130) := by
  refine PySem.W.mg_of X G ?a
  (case a => k_is)
theorem n_5 {w : World} : PySem.W.findIn (hd.heap_39 w.params) (.ref 151) "name" = some none := by k_is
theorem g_5 {w : World} {h : Heap} {mg : Str → Option Value} (X : (hd.heap_39 w.params).In h) (G : h.Ns mainGlobals mg) : mg "InvalidFunctions" = some (.ref 151) := by
  refine PySem.W.mg_of X G ?a
  (case a => k_is)
theorem n_6 {w : World} : PySem.W.findIn (hd.heap_39 w.params) (.ref 172) "name" = some none := by k_is
theorem g_6 {w : World} {h : Heap} {mg : Str → Option Value} (X : (hd.heap_39 w.params).In h) (G : h.Ns mainGlobals mg) : mg "UnknownName" = some (.ref 172) := by
  refine PySem.W.mg_of X G ?a
  (case a => k_is)
theorem n_7 {w : World} : PySem.W.findIn (hd.heap_39 w.params) (.ref 193) "index" = some none := by k_is
theorem g_7 {w : World} {h : Heap} {mg : Str → Option Value} (X : (hd.heap_39 w.params).In h) (G : h.Ns mainGlobals mg) : mg "InvalidChoice" = some (.ref 193) := by
  refine PySem.W.mg_of X G ?a
  (case a => k_is)
theorem n_8 {w : World} : PySem.W.findIn (hd.heap_39 w.params) (.ref 214) "limit" = some none := by k_is
theorem g_8 {w : World} {h : Heap} {mg : Str → Option Value} (X : (hd.heap_39 w.params).In h) (G : h.Ns mainGlobals mg) : mg "LimitExceeded" = some (.ref 214) := by
  refine PySem.W.mg_of X G ?a
  (case a => k_is)
theorem n_9 {w : World} : PySem.W.findIn (hd.heap_39 w.params) (.ref 235) "value" = some none := by k_is
theorem g_9 {w : World} {h : Heap} {mg : Str → Option Value} (X : (hd.heap_39 w.params).In h) (G : h.Ns mainGlobals mg) : mg "InvalidNumber" = some (.ref 235) := by
  refine PySem.W.mg_of X G ?a
  (case a => k_is)
theorem n_10 {w : World} : PySem.W.findIn (hd.heap_39 w.params) (.ref 256) "index" = some none := by k_is
theorem g_10 {w : World} {h : Heap} {mg : Str → Option Value} (X : (hd.heap_39 w.params).In h) (G : h.Ns mainGlobals mg) : mg "InvalidTrail" = some (.ref 256) := by
  refine PySem.W.mg_of X G ?a
  (case a => k_is)
theorem n_11 {w : World} : PySem.W.findIn (hd.heap_39 w.params) (.ref 277) "value" = some none := by k_is
theorem g_11 {w : World} {h : Heap} {mg : Str → Option Value} (X : (hd.heap_39 w.params).In h) (G : h.Ns mainGlobals mg) : mg "InvalidPlace" = some (.ref 277) := by
  refine PySem.W.mg_of X G ?a
  (case a => k_is)
theorem n_12 {w : World} : PySem.W.findIn (hd.heap_39 w.params) (.ref 298) "value" = some none := by k_is
theorem g_12 {w : World} {h : Heap} {mg : Str → Option Value} (X : (hd.heap_39 w.params).In h) (G : h.Ns mainGlobals mg) : mg "InvalidRule" = some (.ref 298) := by
  refine PySem.W.mg_of X G ?a
  (case a => k_is)
theorem n_13 {w : World} : PySem.W.findIn (hd.heap_39 w.params) (.ref 319) "value" = some none := by k_is
theorem g_13 {w : World} {h : Heap} {mg : Str → Option Value} (X : (hd.heap_39 w.params).In h) (G : h.Ns mainGlobals mg) : mg "InvalidLimit" = some (.ref 319) := by
  refine PySem.W.mg_of X G ?a
  (case a => k_is)
theorem n_14 {w : World} : PySem.W.findIn (hd.heap_39 w.params) (.ref 340) "value" = some none := by k_is
theorem g_14 {w : World} {h : Heap} {mg : Str → Option Value} (X : (hd.heap_39 w.params).In h) (G : h.Ns mainGlobals mg) : mg "InvalidCosts" = some (.ref 340) := by
  refine PySem.W.mg_of X G ?a
  (case a => k_is)
theorem n_15 {w : World} : PySem.W.findIn (hd.heap_39 w.params) (.ref 361) "value" = some none := by k_is
theorem g_15 {w : World} {h : Heap} {mg : Str → Option Value} (X : (hd.heap_39 w.params).In h) (G : h.Ns mainGlobals mg) : mg "InvalidLoop" = some (.ref 361) := by
  refine PySem.W.mg_of X G ?a
  (case a => k_is)
theorem n_16 {w : World} : PySem.W.findIn (hd.heap_39 w.params) (.ref 382) "name" = some none := by k_is
theorem g_16 {w : World} {h : Heap} {mg : Str → Option Value} (X : (hd.heap_39 w.params).In h) (G : h.Ns mainGlobals mg) : mg "CannotInline" = some (.ref 382) := by
  refine PySem.W.mg_of X G ?a
  (case a => k_is)
theorem g_17 {w : World} {h : Heap} {mg : Str → Option Value} (X : (hd.heap_39 w.params).In h) (G : h.Ns mainGlobals mg) : mg "OverLimit" = some (.ref 403) := by
  refine PySem.W.mg_of X G ?a
  (case a => k_is)
theorem g_18 {w : World} {h : Heap} {mg : Str → Option Value} (X : (hd.heap_39 w.params).In h) (G : h.Ns mainGlobals mg) : mg "NothingToUndo" = some (.ref 424) := by
  refine PySem.W.mg_of X G ?a
  (case a => k_is)
theorem g_19 {w : World} {h : Heap} {mg : Str → Option Value} (X : (hd.heap_39 w.params).In h) (G : h.Ns mainGlobals mg) : mg "NothingToRedo" = some (.ref 445) := by
  refine PySem.W.mg_of X G ?a
  (case a => k_is)
theorem n_20 {w : World} : PySem.W.findIn (hd.heap_39 w.params) (.ref 466) "index" = some none := by k_is
theorem g_20 {w : World} {h : Heap} {mg : Str → Option Value} (X : (hd.heap_39 w.params).In h) (G : h.Ns mainGlobals mg) : mg "InvalidLine" = some (.ref 466) := by
  refine PySem.W.mg_of X G ?a
  (case a => k_is)
theorem n_21 {w : World} : PySem.W.findIn (hd.heap_39 w.params) (.ref 487) "command" = some none := by k_is
theorem g_21 {w : World} {h : Heap} {mg : Str → Option Value} (X : (hd.heap_39 w.params).In h) (G : h.Ns mainGlobals mg) : mg "InvalidCommand" = some (.ref 487) := by
  refine PySem.W.mg_of X G ?a
  (case a => k_is)
theorem n_22 {w : World} : PySem.W.findIn (hd.heap_39 w.params) (.ref 508) "value" = some none := by k_is
theorem g_22 {w : World} {h : Heap} {mg : Str → Option Value} (X : (hd.heap_39 w.params).In h) (G : h.Ns mainGlobals mg) : mg "InvalidProgram" = some (.ref 508) := by
  refine PySem.W.mg_of X G ?a
  (case a => k_is)
theorem z_isinstance {w : World} {h : Heap} {mg : Str → Option Value} (X : (hd.heap_39 w.params).In h) (G : h.Ns mainGlobals mg) : mg "isinstance" = none := by
  refine PySem.W.mg_none_of X G ?a
  (case a => k_is)
theorem z_len {w : World} {h : Heap} {mg : Str → Option Value} (X : (hd.heap_39 w.params).In h) (G : h.Ns mainGlobals mg) : mg "len" = none := by
  refine PySem.W.mg_none_of X G ?a
  (case a => k_is)
theorem z_range {w : World} {h : Heap} {mg : Str → Option Value} (X : (hd.heap_39 w.params).In h) (G : h.Ns mainGlobals mg) : mg "range" = none := by
  refine PySem.W.mg_none_of X G ?a
  (case a => k_is)
theorem z_enumerate {w : World} {h : Heap} {mg : Str → Option Value} (X : (hd.heap_39 w.params).In h) (G : h.Ns mainGlobals mg) : mg "enumerate" = none := by
  refine PySem.W.mg_none_of X G ?a
  (case a => k_is)
theorem z_ValueError {w : World} {h : Heap} {mg : Str → Option Value} (X : (hd.heap_39 w.params).In h) (G : h.Ns mainGlobals mg) : mg "ValueError" = none := by
  refine PySem.W.mg_none_of X G ?a
  (case a => k_is)
theorem z_int {w : World} {h : Heap} {mg : Str → Option Value} (X : (hd.heap_39 w.params).In h) (G : h.Ns mainGlobals mg) : mg "int" = none := by
  refine PySem.W.mg_none_of X G ?a
  (case a => k_is)
theorem g_S {w : World} {h : Heap} {mg : Str → Option Value} (X : (hd.heap_39 w.params).In h) (G : h.Ns mainGlobals mg) : mg "StopError" = some (.ref 24) := by
  refine PySem.W.mg_of X G ?a
  (case a => k_is)
theorem n17a {w : World} : PySem.W.findIn (hd.heap_39 w.params) (.ref 403) "name" = some none := by k_is
theorem n17b {w : World} : PySem.W.findIn (hd.heap_39 w.params) (.ref 403) "needed" = some none := by k_is
theorem ek_all {w : World} : ∀ i, i < 23 → EK (hd.heap_39 w.params) (cA i) := fun i hi => by
  rcases i with _ | _ | _ | _ | _ | _ | _ | _ | _ | _ | _ | _ | _ | _ | _ | _ | _ | _ | _ | _ | _ | _ | _ | i
  · exact ek_0
  · exact ek_1
  · exact ek_2
  · exact ek_3
  · exact ek_4
  · exact ek_5
  · exact ek_6
  · exact ek_7
  · exact ek_8
  · exact ek_9
  · exact ek_10
  · exact ek_11
  · exact ek_12
  · exact ek_13
  · exact ek_14
  · exact ek_15
  · exact ek_16
  · exact ek_17
  · exact ek_18
  · exact ek_19
  · exact ek_20
  · exact ek_21
  · exact ek_22
  · omega
theorem tx {w : World} {h : Heap} {mg : Str → Option Value} (X : (hd.heap_39 w.params).In h) (G : h.Ns mainGlobals mg) : Tx PySem.Challenge.rw_stoppoints_k30_errors_told.prog w (hd.heap_39 w.params) mg :=
  { isi := z_isinstance X G,
    len := z_len X G,
    range := z_range X G,
    enum := z_enumerate X G,
    ve := z_ValueError X G,
    gS := g_S X G,
    ek := ek_all,
    kit := fun i hi j hj => beq_iff_eq.mp (all_at (all_at kit_all i hi) j hj),
    kitS := fun i hi => beq_iff_eq.mp (all_at kitS_all i hi),
    kitV := fun i hi => beq_iff_eq.mp (all_at kitV_all i hi),
    g0 := g_0 X G,
    g1 := g_1 X G,
    g2 := g_2 X G,
    g3 := g_3 X G,
    g4 := g_4 X G,
    g5 := g_5 X G,
    g6 := g_6 X G,
    g7 := g_7 X G,
    g8 := g_8 X G,
    g9 := g_9 X G,
    g10 := g_10 X G,
    g11 := g_11 X G,
    g12 := g_12 X G,
    g13 := g_13 X G,
    g14 := g_14 X G,
    g15 := g_15 X G,
    g16 := g_16 X G,
    g17 := g_17 X G,
    g18 := g_18 X G,
    g19 := g_19 X G,
    g20 := g_20 X G,
    g21 := g_21 X G,
    g22 := g_22 X G,
    m0 := (let ⟨_, t⟩ := t_0 X G; makes_value t),
    n0 := n_0,
    m1 := (let ⟨_, t⟩ := t_1 X G; makes_value t),
    n1 := n_1,
    m2 := (let ⟨_, t⟩ := t_2 X G; makes_value t),
    n2 := n_2,
    m3 := (let ⟨_, t⟩ := t_3 X G; makes_value t),
    n3 := n_3,
    m4 := (let ⟨_, t⟩ := t_4 X G; makes_text t),
    n4 := n_4,
    m5 := (let ⟨_, t⟩ := t_5 X G; makes_name t),
    n5 := n_5,
    m6 := (let ⟨_, t⟩ := t_6 X G; makes_name t),
    n6 := n_6,
    m7 := (let ⟨_, t⟩ := t_7 X G; makes_index t),
    n7 := n_7,
    m8 := (let ⟨_, t⟩ := t_8 X G; makes_limit t),
    n8 := n_8,
    m9 := (let ⟨_, t⟩ := t_9 X G; makes_value t),
    n9 := n_9,
    m10 := (let ⟨_, t⟩ := t_10 X G; makes_index t),
    n10 := n_10,
    m11 := (let ⟨_, t⟩ := t_11 X G; makes_value t),
    n11 := n_11,
    m12 := (let ⟨_, t⟩ := t_12 X G; makes_value t),
    n12 := n_12,
    m13 := (let ⟨_, t⟩ := t_13 X G; makes_value t),
    n13 := n_13,
    m14 := (let ⟨_, t⟩ := t_14 X G; makes_value t),
    n14 := n_14,
    m15 := (let ⟨_, t⟩ := t_15 X G; makes_value t),
    n15 := n_15,
    m16 := (let ⟨_, t⟩ := t_16 X G; makes_name t),
    n16 := n_16,
    m20 := (let ⟨_, t⟩ := t_20 X G; makes_index t),
    n20 := n_20,
    m21 := (let ⟨_, t⟩ := t_21 X G; makes_command t),
    n21 := n_21,
    m22 := (let ⟨_, t⟩ := t_22 X G; makes_value t),
    n22 := n_22,
    m17 := t_17 X G,
    n17a := n17a,
    n17b := n17b,
    m18 := t_18 X G,
    m19 := t_19 X G }
theorem facts {w : World} {h : Heap} {mg : Str → Option Value} {fa : Addr} (X : (hd.heap_39 w.params).In h) (G : h.Ns mainGlobals mg) (hfa : mg "law" = some (.ref fa)) :
    ∃ fd : FuncData, (∀ (s : Shared) (v : Value), BindsTo s fd ⟨[v], []⟩ [("script", v)]) ∧ ∀ base : Heap, (hd.heap_39 w.params).In base → base.Ns mainGlobals mg → FnOk PySem.Challenge.rw_stoppoints_k30_errors_told.prog w (hd.heap_39 w.params) mg base CX0 6 fa fd ["script"] (spLaw (hd.heap_39 w.params)) := by
  obtain ⟨_, _, DP⟩ := f__law_pool X G
  obtain ⟨_, _, DD⟩ := f__law_draw X G
  obtain ⟨_, _, DC⟩ := f__law_choose X G
  obtain ⟨_, _, DK⟩ := f__law_kinds X G
  obtain ⟨fl, fd, DL⟩ := f_law X G
  have e := hfa.symm.trans DL.gl
  cases e
  have F := DL.fn
  obtain ⟨oc, od, kV, doc, pm, an, cdv, ct, osl, rfl, lk, hcd⟩ := DL.fn.ex
  exact ⟨_, fun s v => .of_eq rfl, fun base _ _ => ok_law F (tx X G) ⟨z_len X G, z_int X G⟩ DP DC DD DK⟩
end K30
open PySem PySem.W PyProof.Rows in
theorem PySem.Challenge.cw_stoppoints_k30_errors_told_holds : PySem.Challenge.rw_stoppoints_k30_errors_told.Holds := by
  refine hd ?_
  refine L2.walk_of (l := PySem.Challenge.rw_stoppoints_k30_errors_told) (n := 63) (k := 6) (x := "script") (CX := fun _ => L2.CX0) (K := hd.heap_39) (sp := fun w => K30.spLaw (hd.heap_39 w.params)) rfl (by decide) rfl ⟨rfl, by decide, by decide⟩ (fun w h Y => kIn_of Y) ?F (fun _ _ a ns _ _ hS => ⟨a, ns, rfl, hS, fun _ => rfl⟩) (fun _ _ _ _ _ z => z)
  intro w mg fa h X G hmg
  exact K30.facts X G hmg
#print axioms PySem.Challenge.cw_stoppoints_k30_errors_told_holds

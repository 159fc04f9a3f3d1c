import PyProof.Rows.All
import Wide.All
import OpenK.AllK
import Wide.FinOn
import KE.KExcSuper
import HandS.ForExc
import HandS.ExcInit
import HandS.IsInst
import HandS.SlotsOwn
import HandS.OwnEq
import HandS.ClsMeth
import HandS.Lambda
import HandS.ExcSuper
import HandS.Exc
import HandS.ExcField
import HandS.Comp
import HandS.Iter
import HandS.Zip
import HandS.EndTab
import PySem.Challenge.RW_stoppoints_k01_spans
set_option Elab.async false
set_option linter.all false
set_option maxRecDepth 100000
set_option maxHeartbeats 2000000
/-! Own operators over the hand layer: instances with fields, a partner of the same class or a plain value. -/
namespace OwnO
open PySem PySem.Spec PyProof.Rows L2
open PySem.W (Looks findIn isFn subIn selfFirst InstAt)

section
variable {X : Cx} {CX : CXT} {pins : List (Addr × Obj)} {σ : L2.St} {H : Hp} {s : Shared} {a b C dx dy f g : Addr} {fs gs : List (Str × V)} {n : Nat} {sp : Sp} {E : XK}

/-- an instance of the abstract heap, as the library's own rules ask for it -/
theorem inst_of (I : Inv X pins σ H s) (h : H a = some (.ins C dx fs)) : ∃ od, InstAt s.heap a (PySem.W.instObj C dx) C (some od) := by
  obtain ⟨mA, O, _, _, _, _⟩ := ins_get I.hok h
  obtain ⟨od, J, _⟩ := O.look
  exact ⟨od, J⟩

/-- what stands on the right: the type of a value that is no object -/
def kindOf : V → Option String
  | .non => some "NoneType"
  | .bl _ => some "bool"
  | .int _ => some "int"
  | .str _ => some "str"
  | _ => none
theorem kind_type {y : V} {u : Value} {T : String} (r : RelV y u) (h : kindOf y = some T) : typeOf u = pure (.type T) := by
  cases y with
  | non => cases h; cases (show u = Value.none from r); rfl
  | bl b => cases h; cases (show u = Value.bool b from r); rfl
  | int i => cases h; obtain ⟨t, e⟩ := (show ∃ t, u = Value.int i t from r); cases e; rfl
  | str x => cases h; obtain ⟨t, e⟩ := (show ∃ t, u = Value.str x t from r); cases e; rfl
  | byt b => cases h
  | flt b => cases h
  | ref a => cases h
  | ty n => cases h

/-- x op y: both of the class at C, whose def for op is at f -/
def rSame (C : Addr) (sp : Sp) (E : XK) : R2 := fun x y H Q => ∃ a dx fs b dy gs, x = .ref a ∧ y = .ref b ∧ H a = some (.ins C dx fs) ∧ H b = some (.ins C dy gs) ∧ sp [.ref a, .ref b] H Q E
theorem or_same {op : Operator} (hc : selfFirst X.K C = true) (hs : findIn X.K (.ref C) (PySem.dunder op.info.2) = some (some (.ref f))) (hf : isFn X.K (.ref f) = true)
    (F : FnR X.prog X.w X.K X.mg X.base CX n f sp) (hr : Room n X.A) (hx : Passes CX X E) : OpR X (binaryOp op) (rSame C sp E) := by
  intro pins s σ H x y v u Q I rx ry h
  obtain ⟨a, dx, fs, b, dy, gs, rfl, rfl, ha, hb, q⟩ := h
  cases (show v = Value.ref a from rx)
  cases (show u = Value.ref b from ry)
  obtain ⟨od, J⟩ := inst_of I ha
  obtain ⟨od', J'⟩ := inst_of I hb
  obtain ⟨m, hF⟩ := I.fr
  refine PySem.W.binop_K hF I.ok.mod.kin J J'.type hc hs hf ?_
  refine wpAny_mono (wpAny_call (run_fnR (us := [.ref a, .ref b]) (vs := [.ref a, .ref b]) F hr hx I (.cons rfl (.cons rfl .nil)) q)) (fun w s' z => ?_) fun _ _ x => x
  obtain ⟨z', H', I', rz, qz⟩ := z
  exact SlX.cmpback rz ⟨z', H', I', rz, qz⟩

/-- x op y: x of the class at C, y a plain value of the type T -/
def rRight (C : Addr) (T : String) (sp : Sp) (E : XK) : R2 := fun x y H Q => ∃ a dx fs, x = .ref a ∧ kindOf y = some T ∧ H a = some (.ins C dx fs) ∧ sp [.ref a, y] H Q E
theorem or_right {op : Operator} {T : String} {fo ro rc : Option Value} (hc : selfFirst X.K C = true) (hs : findIn X.K (.ref C) (PySem.dunder op.info.2) = some (some (.ref f))) (hf : isFn X.K (.ref f) = true)
    (hr' : findIn X.K (.ref C) (PySem.dunderR op.info.2) = some rc) (hp : rc = none ∨ ∃ g : Addr, rc = some (.ref g))
    (h1 : findIn X.K (.type T) (PySem.dunder op.info.2) = some fo) (h2 : findIn X.K (.type T) (PySem.dunderR op.info.2) = some ro) (hsub : subIn X.K (.type T) (.ref C) = some false)
    (F : FnR X.prog X.w X.K X.mg X.base CX n f sp) (hr : Room n X.A) (hx : Passes CX X E) : OpR X (binaryOp op) (rRight C T sp E) := by
  intro pins s σ H x y v u Q I rx ry h
  obtain ⟨a, dx, fs, rfl, hk, ha, q⟩ := h
  cases (show v = Value.ref a from rx)
  obtain ⟨od, J⟩ := inst_of I ha
  obtain ⟨m, hF⟩ := I.fr
  refine PySem.W.ksp_binT hF I.ok.mod.kin J (kind_type ry hk) hc hs hf hr' hp h1 h2 hsub ?_
  refine wpAny_mono (wpAny_call (run_fnR (us := [.ref a, u]) (vs := [.ref a, y]) F hr hx I (.cons rfl (.cons ry .nil)) q)) (fun w s' z => ?_) fun _ _ x => x
  obtain ⟨z', H', I', rz, qz⟩ := z
  exact SlX.cmpback rz ⟨z', H', I', rz, qz⟩
end
end OwnO

set_option maxHeartbeats 2000000
namespace OwnO
open PySem PySem.Spec PyProof.Rows L2
open PySem.W (Looks findIn isFn subIn selfFirst InstAt)
section
variable {prog : Program} {w : World} {A : Around} {E : Value → Shared → Prop} {s : Shared} {K : PySem.W.Frag} {a C f g : Addr} {od : Obj} {dx : Addr}
/-- int.__add__ and its kin decline an instance -/
theorem declines {T id nm : String} {v : Value} {i : Int} {fn : Int → Int → Sem Fin} {Q : Option Value → Shared → Prop} (J : InstAt s.heap a (PySem.W.instObj C dx) C (some od)) (hT : s.TypeIs v T) (hS : Slot T (dunder nm) id)
    (he : entryFor table id = some (Builtin.Int.intBinary ("__" ++ nm ++ "__") fn)) (ha : argsOk id ⟨[v, .ref a], []⟩) (hi : asInt? v = pure (some i)) (hq : Q none s) :
    wpAny (model prog w) A (tryMethod v (dunder nm) (.ref a)) Q E s := by
  refine wpAny_tryMethod_declines hT hS (wpAny_call_entry hS hT he ?_ ha)
  unfold Builtin.Int.intBinary Builtin.Int.intOfSelf
  refine wpAny_bind (wpAny_of_eq (a := (v, [Value.ref a])) rfl ?_)
  dsimp only
  rw [hi]
  refine wpAny_bind (wpAny_bind (wpAny_pure (wpAny_pure ?_)))
  have ho : s.heap.get? a = some (PySem.W.instObj C dx) := J.at_
  refine wpAny_bind ?_
  show wpAny _ _ (do match (← load a).data with | .prim (.int i _) => pure (some i) | _ => pure none) _ _ _
  refine wpAny_bind (wpAny_load ho (wpAny_pure ?_))
  refine wpAny_bind (wpAny_rule ?_)
  exact wpAny_pure ⟨_, rfl, rfl, hq⟩
/-- v op x, v a plain value whose type declines, x of the class at C with a reflected def -/
theorem bin_left {T nm sym : String} {left : Bool} {op : Operator} {v : Value} {Q : Value → Shared → Prop} (hi : op.info = (sym, nm)) (X : K.In s.heap) (J : InstAt s.heap a (PySem.W.instObj C dx) C (some od)) (hv : typeOf v = pure (.type T))
    (hc : selfFirst K C = true) (hs : findIn K (.ref C) (PySem.dunder nm) = some (some (.ref g))) (hsr : findIn K (.ref C) (dunderR nm) = some (some (.ref f))) (hf : isFn K (.ref f) = true)
    (hT : fillsNumberSlot (.type T) nm = pure left) (hsub : subIn K (.ref C) (.type T) = some false)
    (hd : left = true → ∀ Q' : Option Value → Shared → Prop, Q' none s → wpAny (model prog w) A (tryMethod v (PySem.dunder nm) (.ref a)) Q' E s)
    (h : wpAny (model prog w) A (call (.ref f) [.ref a, v]) (PySem.W.CmpBack Q) E s) : wpAny (model prog w) A (binaryOp op v (.ref a)) Q E s := by
  obtain ⟨cd, rest, hcd, hm⟩ := PySem.W.ksp_first hc
  have one := PySem.W.ksp_try X J hsr hf h
  obtain ⟨hh, gg, d, tt, os⟩ := s
  have L1 : Looks (model prog w) hh (typeOf (.ref a)) (.ref C) := J.type
  have L3 : Looks (model prog w) hh (fillsNumberSlot (.ref C) nm) true := PySem.W.fills_K X hcd hm hs
  have L5 : Looks (model prog w) hh (isSubtype (.ref C) (.type T)) false := PySem.W.looks_subIn X hsub
  have hne : (Value.type T == Value.ref C) = false := Bool.eq_false_iff.mpr fun q => by cases beq_iff_eq.mp q
  simp only [binaryOp, hi]
  refine wpAny_holding (wpAny_bind ?_)
  unfold binaryOp1
  refine wpAny_bind (wpAny_of_eq hv (wpAny_bind (L1.at (wpAny_bind (wpAny_of_eq hT ?_)))))
  simp only [hne, Bool.false_eq_true, if_false]
  refine wpAny_bind (L3.at ?_)
  have hpy : numberSlotInPython (.type T) nm = pure false := rfl
  cases left with
  | false =>
    simp only [Bool.false_and, Bool.and_false, Bool.false_eq_true, if_false, pure_bind, Bool.not_false, Bool.true_and, if_true]
    refine wpAny_bind (wpAny_mono one (fun r s' hr' => ?_) fun _ _ e => e)
    obtain ⟨v', rfl, hq⟩ := hr'
    exact wpAny_bind (wpAny_rule (wpAny_pure (wpAny_pure hq)))
  | true =>
    simp only [Bool.and_self, if_true]
    refine wpAny_bind (L5.at ?_)
    simp only [Bool.false_eq_true, if_false, pure_bind, Bool.not_false, Bool.and_self, Bool.true_and, if_true, hpy]
    refine wpAny_bind (hd rfl _ ?_)
    refine wpAny_bind (wpAny_mono one (fun r s' hr' => ?_) fun _ _ e => e)
    obtain ⟨v', rfl, hq⟩ := hr'
    exact wpAny_bind (wpAny_rule (wpAny_pure (wpAny_pure hq)))
end
end OwnO

set_option maxHeartbeats 2000000
namespace OwnO
open PySem PySem.Spec PyProof.Rows L2
open PySem.W (Looks findIn isFn subIn selfFirst InstAt notFirst)
section
variable {X : Cx} {CX : CXT} {pins : List (Addr × Obj)} {σ : L2.St} {H : Hp} {s : Shared} {a b C dx dy f g : Addr} {fs gs : List (Str × V)} {n : Nat} {sp : Sp} {E : XK}
/-- v op x: v plain, x of the class at C, whose reflected def is at f -/
def rLeft (C : Addr) (T : String) (sp : Sp) (E : XK) : R2 := fun x y H Q => ∃ b dy gs, y = .ref b ∧ kindOf x = some T ∧ H b = some (.ins C dy gs) ∧ sp [.ref b, x] H Q E
/-- .. where the plain value's type has no number slot -/
theorem or_left0 {op : Operator} {T nm sym : String} (hi : op.info = (sym, nm)) (hc : selfFirst X.K C = true) (hs : findIn X.K (.ref C) (PySem.dunder nm) = some (some (.ref g))) (hsr : findIn X.K (.ref C) (dunderR nm) = some (some (.ref f)))
    (hf : isFn X.K (.ref f) = true) (hT : fillsNumberSlot (.type T) nm = pure false) (hsub : subIn X.K (.ref C) (.type T) = some false)
    (F : FnR X.prog X.w X.K X.mg X.base CX n f sp) (hr : Room n X.A) (hx : Passes CX X E) : OpR X (binaryOp op) (rLeft C T sp E) := by
  intro pins s σ H x y v u Q I rx ry h
  obtain ⟨b, dy, gs, rfl, hk, hb, q⟩ := h
  cases (show u = Value.ref b from ry)
  obtain ⟨od, J⟩ := inst_of I hb
  refine bin_left hi I.kIn J (kind_type rx hk) hc hs hsr hf hT hsub (fun z => by cases z) ?_
  refine wpAny_mono (wpAny_call (run_fnR (us := [.ref b, v]) (vs := [.ref b, x]) F hr hx I (.cons rfl (.cons rx .nil)) q)) (fun w s' z => ?_) fun _ _ x => x
  obtain ⟨z', H', I', rz, qz⟩ := z
  exact SlX.cmpback rz ⟨z', H', I', rz, qz⟩
/-- .. where it is an int or a bool: int's own def declines first -/
theorem or_leftI {op : Operator} {T nm sym id : String} {fn : Int → Int → Sem Fin} (hi : op.info = (sym, nm)) (hT2 : T = "int" ∨ T = "bool") (hc : selfFirst X.K C = true) (hs : findIn X.K (.ref C) (PySem.dunder nm) = some (some (.ref g)))
    (hsr : findIn X.K (.ref C) (dunderR nm) = some (some (.ref f))) (hf : isFn X.K (.ref f) = true) (hT : fillsNumberSlot (.type T) nm = pure true) (hsub : subIn X.K (.ref C) (.type T) = some false)
    (hS : Slot T (dunder nm) id) (he : entryFor table id = some (Builtin.Int.intBinary ("__" ++ nm ++ "__") fn)) (hargs : ∀ v b, argsOk id ⟨[v, b], []⟩)
    (F : FnR X.prog X.w X.K X.mg X.base CX n f sp) (hr : Room n X.A) (hx : Passes CX X E) : OpR X (binaryOp op) (rLeft C T sp E) := by
  intro pins s σ H x y v u Q I rx ry h
  obtain ⟨b, dy, gs, rfl, hk, hb, q⟩ := h
  cases (show u = Value.ref b from ry)
  obtain ⟨od, J⟩ := inst_of I hb
  have hi2 : ∃ i, asInt? v = pure (some i) ∧ s.TypeIs v T := by
    cases x with
    | int i => obtain ⟨t, e⟩ := (show ∃ t, v = Value.int i t from rx); cases e; cases hk; exact ⟨i, rfl, rfl⟩
    | bl c => cases (show v = Value.bool c from rx); cases hk; exact ⟨_, rfl, rfl⟩
    | non => cases hk; rcases hT2 with z | z <;> exact absurd z (by decide)
    | str z => cases hk; rcases hT2 with z | z <;> exact absurd z (by decide)
    | byt z => cases hk
    | flt z => cases hk
    | ref z => cases hk
    | ty z => cases hk
  obtain ⟨i, hi2, hTI⟩ := hi2
  have hv := kind_type rx hk
  refine bin_left hi I.kIn J hv hc hs hsr hf hT hsub (fun _ Q' hq => declines J hTI hS he (hargs _ _) hi2 hq) ?_
  refine wpAny_mono (wpAny_call (run_fnR (us := [.ref b, v]) (vs := [.ref b, x]) F hr hx I (.cons rfl (.cons rx .nil)) q)) (fun w s' z => ?_) fun _ _ x => x
  obtain ⟨z', H', I', rz, qz⟩ := z
  exact SlX.cmpback rz ⟨z', H', I', rz, qz⟩

/-- x op y by an own def: y of the same class -/
theorem oc_same {op : CmpOp} (hop : ∀ a b, compareOp op a b = richCompare op a b) (hs : findIn X.K (.ref C) (cmpInfo op).2.1 = some (some (.ref f))) (hf : isFn X.K (.ref f) = true) (hn : notFirst X.K C (.ref C) = true)
    (F : FnR X.prog X.w X.K X.mg X.base CX n f sp) (hr : Room n X.A) (hx : Passes CX X E) : OpR X (compareOp op) (rSame C sp E) := by
  intro pins s σ H x y v u Q I rx ry h
  obtain ⟨a, dx, fs, b, dy, gs, rfl, rfl, ha, hb, q⟩ := h
  cases (show v = Value.ref a from rx)
  cases (show u = Value.ref b from ry)
  obtain ⟨od, J⟩ := inst_of I ha
  obtain ⟨od', J'⟩ := inst_of I hb
  obtain ⟨m, hF⟩ := I.fr
  rw [hop]
  refine PySem.W.cmp_K (op := op) (tb := .ref C) hr.units0 hF I.ok.mod.kin J J'.type hn hs hf ?_
  refine wpAny_mono (wpAny_call (run_fnR (us := [.ref a, .ref b]) (vs := [.ref a, .ref b]) F hr hx I (.cons rfl (.cons rfl .nil)) q)) (fun w s' z => ?_) fun _ _ x => x
  obtain ⟨z', H', I', rz, qz⟩ := z
  exact SlX.cmpback rz ⟨z', H', I', rz, qz⟩
/-- .. y a plain value -/
theorem oc_right {op : CmpOp} {T : String} (hop : ∀ a b, compareOp op a b = richCompare op a b) (hs : findIn X.K (.ref C) (cmpInfo op).2.1 = some (some (.ref f))) (hf : isFn X.K (.ref f) = true) (hn : notFirst X.K C (.type T) = true)
    (F : FnR X.prog X.w X.K X.mg X.base CX n f sp) (hr : Room n X.A) (hx : Passes CX X E) : OpR X (compareOp op) (rRight C T sp E) := by
  intro pins s σ H x y v u Q I rx ry h
  obtain ⟨a, dx, fs, rfl, hk, ha, q⟩ := h
  cases (show v = Value.ref a from rx)
  obtain ⟨od, J⟩ := inst_of I ha
  obtain ⟨m, hF⟩ := I.fr
  rw [hop]
  refine PySem.W.cmp_K (op := op) (tb := .type T) hr.units0 hF I.ok.mod.kin J (Looks.of_pure (kind_type ry hk)) hn hs hf ?_
  refine wpAny_mono (wpAny_call (run_fnR (us := [.ref a, u]) (vs := [.ref a, y]) F hr hx I (.cons rfl (.cons ry .nil)) q)) (fun w s' z => ?_) fun _ _ x => x
  obtain ⟨z', H', I', rz, qz⟩ := z
  exact SlX.cmpback rz ⟨z', H', I', rz, qz⟩
end
section
variable {prog : Program} {w : World} {A : Around} {E : Value → Shared → Prop} {s : Shared} {K : PySem.W.Frag} {x C f : Addr} {ox od : Obj} {b : Value}
theorem ne_entry {Q : Fin → Shared → Prop} (hu : A.units < cLine) (X : K.In s.heap) (I : InstAt s.heap x ox C (some od)) (hs : findIn K (.ref C) "__eq__" = some (some (.ref f))) (hf : isFn K (.ref f) = true)
    (h : wpAny (model prog w) A (call (.ref f) [.ref x, b]) (fun v s' => ∃ c, v = .bool c ∧ Q (.done (.ret (.bool (!c)))) s') E s) : wpAny (model prog w) A (Builtin.«object.__ne__» ⟨[.ref x, b], []⟩) Q E s := by
  unfold Builtin.«object.__ne__»
  refine wpAny_bind (wpAny_of_eq (a := (Value.ref x, [b])) rfl ?_)
  refine wpAny_bind (wpAny_cRoomFor hu ?_)
  refine wpAny_bind (PySem.W.ifBound_K X I hs hf (wpAny_mono h (fun v s' hv => ?_) fun _ _ e => e))
  obtain ⟨c, rfl, hq⟩ := hv
  exact wpAny_bind (wpAny_truthy_bool (wpAny_pure hq))
theorem ifBound_ne {args : List Value} {Q : Option Value → Shared → Prop} (X : K.In s.heap) (I : InstAt s.heap x ox C (some od)) (hs : findIn K (.ref C) "__ne__" = some (some (.builtin "object.__ne__")))
    (h : wpAny (model prog w) A (call (.builtin "object.__ne__") (.ref x :: args)) (fun v => Q (some v)) E s) : wpAny (model prog w) A (callSpecialIfBound? (.ref x) "__ne__" args) Q E s := by
  simp only [callSpecialIfBound?, bindSpecialIfBound?]
  refine wpAny_holding (wpAny_bind (wpAny_bind (wpAny_bind (I.type.here ((PySem.W.looks_findIn X hs).here ?_)))))
  refine wpAny_bind (wpAny_askSetting (wpAny_ite ?_))
  have done : wpAny (model prog w) A (call (.builtin "object.__ne__") ([.ref x] ++ args) >>= fun v => pure (some v)) Q E s := wpAny_bind (wpAny_mono h (fun v s' h' => wpAny_pure h') fun _ _ h' => h')
  split
  · exact wpAny_bind (wpAny_of_eq (F.cmp_object.ne.bind _) (wpAny_pure (by exact done)))
  · exact wpAny_tryCatch (wpAny_bind (wpAny_of_eq (F.cmp_object.ne.bind _) (wpAny_pure (by exact done))))
/-- x != y by an own == -/
theorem ne_own {tb : Value} {Q : Value → Shared → Prop} (hu : A.units + 1 < cLine) (X : K.In s.heap) (I : InstAt s.heap x ox C (some od)) (hb : Looks (model prog w) s.heap (typeOf b) tb) (hn : notFirst K C tb = true)
    (ho : PySem.W.mroIn K C (.type "object") = some true) (hne : findIn K (.ref C) "__ne__" = some (some (.builtin "object.__ne__"))) (hs : findIn K (.ref C) "__eq__" = some (some (.ref f))) (hf : isFn K (.ref f) = true)
    (h : wpAny (model prog w) A.in1 (call (.ref f) [.ref x, b]) (fun v s' => ∃ c, v = .bool c ∧ Q (.bool (!c)) s') E s) : wpAny (model prog w) A (compareOp .NotEq (.ref x) b) Q E s := by
  have one : wpAny (model prog w) A (tryCompare (.ref x) "__ne__" b) (fun r s' => ∃ c, r = some (.bool c) ∧ Q (.bool c) s') E s := by
    unfold tryCompare
    refine wpAny_bind (ifBound_ne X I hne ?_)
    refine wpAny_call (codeAny_call_builtin F.cmp_object.ne.plain F.cmpEntry_ne (PySem.W.check_slot F.cmpKind_ne F.cmpSplit_ne (I.type.andThen (PySem.W.looks_mroIn X ho)) (F.cmpArgs_ne _ _)
      (ne_entry (A := A.in1) (by exact hu) X I hs hf (wpAny_mono h (fun v s' hv => ?_) fun _ _ e => e))))
    obtain ⟨c, rfl, hq⟩ := hv
    exact ⟨c, rfl, wpAny_pure ⟨_, rfl, hq⟩⟩
  show wpAny _ _ (richCompare .NotEq (.ref x) b) _ _ _
  unfold richCompare
  simp only [oneThing_ref]
  refine wpAny_holding (wpAny_bind (wpAny_cRoomFor (Nat.lt_of_succ_lt hu) ?_))
  refine wpAny_bind (I.type.here (wpAny_bind (hb.here ?_)))
  split
  · rename_i q
    have e : subIn K tb (.ref C) = some false := by
      rcases Bool.or_eq_true_iff.mp hn with e | e
      · rw [beq_iff_eq.mp e] at q; simp at q
      · exact beq_iff_eq.mp e
    refine wpAny_bind ((PySem.W.looks_subIn X e).here ?_)
    simp only [Bool.false_eq_true, if_false]
    refine wpAny_bind (wpAny_mono one (fun r s' z => ?_) fun _ _ e => e)
    obtain ⟨v, rfl, hq⟩ := z
    exact wpAny_pure hq
  · refine wpAny_bind (wpAny_pure ?_)
    simp only [Bool.false_eq_true, if_false]
    refine wpAny_bind (wpAny_mono one (fun r s' z => ?_) fun _ _ e => e)
    obtain ⟨v, rfl, hq⟩ := z
    exact wpAny_pure hq
end
end OwnO

set_option maxHeartbeats 2000000
namespace OwnO
open PySem PySem.Spec PyProof.Rows L2
open PySem.W (Looks findIn isFn subIn selfFirst InstAt notFirst)
section
variable {X : Cx} {CX : CXT} {pins : List (Addr × Obj)} {σ : L2.St} {H : Hp} {s : Shared} {a b C p f g : Addr} {n : Nat} {sp : Sp} {E : XK}
/-- x != y, both of the class at C, by its == -/
def rNeSame (C : Addr) (sp : Sp) (E : XK) : R2 := fun x y H Q => ∃ a dx fs b dy gs, x = .ref a ∧ y = .ref b ∧ H a = some (.ins C dx fs) ∧ H b = some (.ins C dy gs) ∧ sp [.ref a, .ref b] H (fun z H' => ∃ c, z = .bl c ∧ Q (.bl (!c)) H') E
theorem oc_ne (hs : findIn X.K (.ref C) "__eq__" = some (some (.ref f))) (hf : isFn X.K (.ref f) = true) (hn : notFirst X.K C (.ref C) = true) (ho : PySem.W.mroIn X.K C (.type "object") = some true)
    (hne : findIn X.K (.ref C) "__ne__" = some (some (.builtin "object.__ne__"))) (F : FnR X.prog X.w X.K X.mg X.base CX n f sp) (hr : Room (n + 1) X.A) (hx : Passes CX X E) : OpR X (compareOp .NotEq) (rNeSame C sp E) := by
  intro pins s σ H x y v u Q I rx ry h
  obtain ⟨a, dx, fs, b, dy, gs, rfl, rfl, ha, hb, q⟩ := h
  cases (show v = Value.ref a from rx)
  cases (show u = Value.ref b from ry)
  obtain ⟨od, J⟩ := inst_of I ha
  obtain ⟨od', J'⟩ := inst_of I hb
  have hr2 : Room n X.A.in1 := Room.in1 hr
  refine ne_own (hu_of hr) I.kIn J J'.type hn ho hne hs hf ?_
  refine wpAny_mono (wpAny_call (SlX.run_at (us := [.ref a, .ref b]) (ws := [.ref a, .ref b]) F hr2 I.env0.in1 hx I (.cons rfl (.cons rfl .nil)) q)) (fun w s' z => ?_) fun _ _ x => x
  obtain ⟨z', H', I', rz, c, ez, qz⟩ := z
  subst ez
  exact ⟨c, rz, .bl (!c), H', I', rfl, qz⟩
/-- what the written part tells of a static method m (at p, its def at g) of the class at C -/
structure SMet (K : PySem.W.Frag) (C : Addr) (mc : Value) (m : Str) (p g : Addr) : Prop where
  ga : PySem.W.specialIn K (.ref C) "__getattribute__" = some (some (.builtin "type.__getattribute__"))
  rd : PySem.W.readsIn K C mc = true
  at_ : PySem.W.findCls K (.ref C) mc m = some (.get (.builtin "staticmethod.__get__") (.ref p) .none (.ref C))
  rc : ∃ rest, PySem.W.recIn K p "staticmethod" = some (.ref g :: rest)
  hv : PySem.W.handedIn (.ref g) = true
  ty : PySem.W.typeIn K (.ref C) = some mc
  kp : PySem.W.keepIn K (.ref g) = true
/-- C.m(), m static -/
def tStat (sp : Sp) (E : XK) : TE := fun _ H Q => sp [] H Q E
theorem pe_stat0 {x m : Str} {mc : Value} {p0 apos pos : Pos} {pl : Sem Bool} (M : SMet X.K C mc m p g) (hg : Gl X x) (hm : X.mg x = some (.ref C)) (F : FnR X.prog X.w X.K X.mg X.base CX n g sp) (hr : Room n X.A) (hx : Passes CX X E) (hdb : (x == ("__debug__" : Str)) = false := by decide)
    (hc : eval (.Call (.Attribute (.Name x p0) m apos) [] [] pos) X.env = (do
      let ov ← eval (.Name x p0) X.env
      standAt apos.atName
      let (f, first) ← holding [ov] (getMethod ov m pl)
      callWith pos f first (backTo pos (starEach [] X.env)) (backToKw pos (keywordEach [] X.env))) := by rfl) :
    PE X (.Call (.Attribute (.Name x p0) m apos) [] [] pos) (tStat sp E) := by
  refine ⟨fun pins s σ H Q I h => ?_⟩
  refine PySem.W.methodCall_KW (ld_glob I hg hm ?_ hdb) hc
  obtain ⟨mm, fr⟩ := I.fr
  obtain ⟨rest, hrec⟩ := M.rc
  refine PySem.W.method_cls I.kIn M.ga ?_
  refine PySem.W.cls_sm fr I.ok.mod.kin M.ty M.rd M.at_ hrec M.hv ?_
  show wpAny _ _ (callWith pos (Value.ref g) [] (backTo pos (starEach [] X.env)) []) _ _ _
  refine PySem.W.callWith_K0 I.kIn M.kp (wpAny_call (run_fnR (us := []) (vs := []) F hr hx (I.tok _) .nil h))
end
end OwnO

set_option maxHeartbeats 4000000
/-! An own error below an own error below ValueError, whose __init__ says super().__init__(a text) and keeps its one argument. -/
namespace SupE
open PySem PySem.W PySem.Calls PyProof.Rows PySem.HandSPX
/-! ### its text -/
def args (pn : Str) (p1 p2 : Pos) : Arguments :=
  { posonlyargs := [], args := [{ arg := "self", annotation := none, pos := p1 }, { arg := pn, annotation := none, pos := p2 }], vararg := none, kwonlyargs := [], kw_defaults := [], kwarg := none, defaults := [] }
def body (pn msg : Str) (q1 q2 q3 q4 q5 q6 r1 r2 r3 r4 : Pos) : List Stmt :=
  [.Expr (.Call (.Attribute (.Call (.Name "super" q1) [] [] q2) "__init__" q3) [.Constant (.str msg) 0 q4] [] q5) q6, .Assign [.Attribute (.Name "self" r1) pn r2] (.Name pn r3) r4]
def scope (pn : Str) : Scope :=
  { kind := .function, names := [("self", .local), (pn, .local), ("__class__", .free), ("super", .globalImplicit)], isGenerator := false, isCoroutine := false, more := [] }
/-- what the written part tells of the class at C and of its __init__ at fI -/
structure Txt (P : Program) (K : Frag) (mg : Str → Option Value) (cn pn : Str) (C fI : Addr) : Prop where
  top : (P.main.scope.names.lookup ("super" : Str)).isSome = false
  gC : mg cn = some (.ref C)
  gS : mg "super" = none
  cls : ∃ nm q N bs bm sn sub ab col dd k0 k1 k2 k3 k5, K.lookup C = some (excClassObj nm q C N bs bm true sn sub ab col dd k0 k1 k2 k3 k5 "ValueError.__new__") ∧ refsVE bm = true
  sa : findIn K (.ref C) "__setattr__" = some (some (.builtin "object.__setattr__"))
  ga : findIn K (.ref C) "__getattribute__" = some (some (.builtin "BaseException.__getattribute__"))
  gg : findIn K (.ref C) "__getattr__" = some none
  noN : findIn K (.ref C) pn = some none
  iC : findIn K (.ref C) "__init__" = some (some (.ref fI))
  tC : typeIn K (.ref fI) = some (.type "function")
  kC : keepIn K (.ref C) = true
  exC : subIn K (.ref C) (.type "BaseException") = some true
  veC : subIn K (.ref C) (.type "ValueError") = some true
  tyC : typeIn K (.ref C) = some (.type "type")
  hdC : hasDictIn K C = true
  te : exmOne K (.ref C) (.ref C) = some true
  tp : nsIn K cStatics "thirdparty.any" = some none
  sup : ks_superIn K C C "__init__" = some (some (.builtin "ValueError.__init__"))
  slf : mroIn K C (.ref C) = some true
  fn : ∃ (oc : Value) (od : Option Addr) (doc pm : Value) (an : Option Addr) (cda cc : Addr) (ct : Value) (osl : Array (Option Value)) (msg qn : Str) (p1 p2 q1 q2 q3 q4 q5 q6 r1 r2 r3 r4 : Pos),
    K.lookup fI = some ⟨oc, od, .func (fnX "__init__" qn (args pn p1 p2) (body pn msg q1 q2 q3 q4 q5 q6 r1 r2 r3 r4) (scope pn) [("__class__", cc)] .none .none doc pm an (.ref cda) ct), osl⟩ ∧ codeIn K (.ref cda) qn = true ∧
    (∃ cl cld csl, K.lookup cc = some ⟨cl, cld, .cell (some (.ref C)), csl⟩) ∧
    ∃ (ccl : Value) (cdd : Option Addr) (vs : Array Value) (ccs : Array (Option Value)) (file : Str) (tf : Tok), K.lookup cda = some ⟨ccl, cdd, .fields vs, ccs⟩ ∧ vs[2]? = some (.str file tf) ∧ (P.main.file == file) = true ∧ (q3.endLine == q5.line) = true
/-- what __init__ leaves of a fresh error at x -/
structure Told (h h' : Heap) (x C dx : Addr) (pn : Str) (v : Value) : Prop where
  keep : ∀ b o, b ≠ x → h.get? b = some o → h'.get? b = some o
  obj : ∃ t1, h'.get? x = some { cls := .ref C, dict := some dx, data := .fields #[.ref t1, .none, .none, .none, .bool false, .none] }
  dbig : h.objs.size ≤ dx
  dne : dx ≠ x
  ns : h'.Ns1 dx (fun y => if y = pn then some v else none)
section
variable {prog : Program} {w : World} {A : Around} {E : Value → Shared → Prop} {h : Heap} {g : Array GenState} {d : Drawn} {t : Nat} {os : OsState}
variable {nm q : Str} {C N : Addr} {bs bm : List Value} {hdct : Bool} {sn : List Str} {sub : List Value} {ab : Bool} {col : Option Bool} {dd : Option Addr} {k0 k1 k2 k3 k5 : Option Value}
/-- ValueError.__init__, bound to the error at e, called -/
theorem bound_init {u e t0 : Addr} {rest : List Value} {Q : Value → Shared → Prop}
    (hC : h.get? C = some (excClassObj nm q C N bs bm hdct sn sub ab col dd k0 k1 k2 k3 k5 "ValueError.__new__")) (he : h.get? e = some (excO C t0)) (hu : h.get? u = some (kxs_mw "ValueError.__init__" e)) (hz : rest.length ≤ sizeLine)
    (hq : ∀ h' t1, (∀ b o, b ≠ e → h.get? b = some o → h'.get? b = some o) → h'.get? e = some (excO C t1) → Q .none ⟨h', g, d, t, os⟩) :
    wpAny (model prog w) A (call (.ref u) rest) Q E ⟨h, g, d, t, os⟩ := by
  refine wpAny_call (codeAny_of_tree ?_)
  show wpAny _ A.in1 (callAny (.ref u) ⟨rest, []⟩) _ _ _
  simp only [callAny]
  refine wpAny_bind (wpAny_load hu ?_)
  simp only [kxs_mw, show (Value.type "method-wrapper" == Value.type "method" || Value.type "method-wrapper" == Value.type "builtin_function_or_method" || Value.type "method-wrapper" == Value.type "method-wrapper") = true by decide, if_true]
  refine KFB.if_so (by decide) ?_
  refine wpAny_bind (ESX.check_bound F.excBase_ValueError hC he rfl ?_)
  refine wpAny_bind (wpAny_pure (wpAny_pure ?_))
  refine ⟨Code.quiet_builtin _ (by decide +kernel), codeAny_builtin F.excBase_ValueError.initEntry ?_⟩
  rw [Around.under_plainId F.excBase_ValueError.init.plain _]
  wp_walk
  refine hq _ h.objs.size (fun b o hb ho => ?_) ?_
  · rw [Heap.get?_update_other _ _ (Ne.symm hb)]; exact Heap.get?_push_of_some _ ho
  · rw [Heap.get?_update_self _ (Heap.get?_push_of_some _ he) rfl]; rfl
end
end SupE

set_option maxHeartbeats 4000000
namespace SupE
open PySem PySem.W PySem.Calls PyProof.Rows PySem.HandSPX
section
variable {prog : Program} {w : World} {A : Around} {R : Result → Shared → Prop} {s : Shared} {K : Frag} {mg mb : Str → Option Value} {cn : Str} {C fI : Addr}

theorem init_run (T : Txt prog K mg cn "value" C fI) {x t0 : Addr} {v : Value} (X : K.In s.heap) (hg : s.heap.Ns mainGlobals mg) (hb : s.heap.Ns builtinsNs mb) (hbb : mb "super" = some (.type "super"))
    (hlim : s.heap.NoLimit) (hx : s.heap.get? x = some (excO C t0)) (hnx : K.lookup x = none) (hroom : A.depth < recursionLimit)
    (hq : ∀ h' tk dx, Told s.heap h' x C dx "value" v → R (.ok (.ret .none)) { s with heap := h', toks := tk }) :
    codeAny (model prog w) A (.call (.ref fI) ⟨[.ref x, v], []⟩) R s := by
  obtain ⟨oc, od, doc, pm, an, cda, cc, ct, osl, msg, qn, p1, p2, q1, q2, q3, q4, q5, q6, r1, r2, r3, r4, ho, hcd, ⟨cl, cld, csl, hcell⟩, ccl, cdd, vs, ccs, file, tf, hcode, hvs, hfile, hL⟩ := T.fn
  obtain ⟨nm, qq, N, bs, bm, sn, sub, ab, col, dd, k0, k1, k2, k3, k5, hC, hbm⟩ := T.cls
  have hcl : clsIn K C = some { name := nm, bases := bs, mro := .ref C :: bm, ns := N, qualname := qq, hasDict := true, slotNames := sn, subclasses := sub, abstract := ab, collection := col, hasDel := false } := by unfold clsIn; rw [hC] <;> rfl
  refine ks_codeAny_call_defAt (fd := fnX "__init__" qn (args "value" p1 p2) (body "value" msg q1 q2 q3 q4 q5 q6 r1 r2 r3 r4) (scope "value") [("__class__", cc)] .none .none doc pm an (.ref cda) ct) (body := body "value" msg q1 q2 q3 q4 q5 q6 r1 r2 r3 r4) (binds := [("self", .ref x), ("value", v)])
    hroom (X _ _ ho) rfl hlim (codeRec_of X hcd) rfl (BindsTo.of_eq (by first | rfl | with_unfolding_all rfl)) (show ∀ x ∈ (scope "value").names, x.2 ≠ .cell by decide) (by first | decide | (intro y hy; simp at hy; rcases hy with rfl | rfl <;> rfl)) (fun h₁ hn k => ?_) rfl rfl rfl
  have X1 : K.In h₁ := X.keeps k
  have hg1 : h₁.Ns mainGlobals mg := hg.keeps k
  have hb1 : h₁.Ns builtinsNs mb := hb.keeps k
  have hx1 := k _ _ hx
  have hxL : s.heap.objs.size ≠ x := Nat.ne_of_gt (Heap.lt_size hx)
  -- super().__init__(msg)
  show _root_.PySem.wpAt _ _ _ (execs (body "value" msg q1 q2 q3 q4 q5 q6 r1 r2 r3 r4) _) _ _ _
  generalize henv : callEnv (fnX "__init__" qn (args "value" p1 p2) (body "value" msg q1 q2 q3 q4 q5 q6 r1 r2 r3 r4) (scope "value") [("__class__", cc)] .none .none doc pm an (.ref cda) ct) s.heap.objs.size fI = env
  have he : eval (.Call (.Attribute (.Call (.Name "super" q1) [] [] q2) "__init__" q3) [.Constant (.str msg) 0 q4] [] q5) env = (do
      let ov ← attributeBase (.Call (.Name "super" q1) [] [] q2) "__init__" env (eval (.Call (.Name "super" q1) [] [] q2) env)
      standAt q3.atName
      let (f, first) ← holding [ov] (getMethod ov "__init__" (do return (← importBound (.Call (.Name "super" q1) [] [] q2) env).getD true))
      callWith q5 f first (backTo q5 (starEach [.Constant (.str msg) 0 q4] env)) []) := by
    show (attributeBase _ _ _ _ >>= fun ov => standAt _ >>= fun _ => methodCall _ _ _ _ _ ov _ _ _) = _
    unfold methodCall methodCallPos
    simp only [hL, Bool.or_true, if_true, pure_bind]
    rfl
  refine ks_wpAt_execs_cons (ks_wpAt_Expr_any (ks_wpAt_MethodCall (pl := _) ?_ he) ?_ ?_)
  · subst henv
    refine ks_wpAt_super_base rfl rfl rfl rfl (k _ _ (X _ _ ho)) rfl rfl rfl (k _ _ (X _ _ hcode)) rfl hvs hfile T.top ?_
    refine ks_loadName_global rfl rfl (loadGlobal_builtin (mg := mg) (mb := mb) hg1 T.gS hb1 hbb ⟨rfl, ?_⟩)
    refine wpAny_loadName_free (v := .ref C) rfl rfl rfl ⟨_, X1 _ _ hcell, rfl⟩ ?_
    refine wpAny_loadName_local (v := .ref x) rfl rfl hn rfl ?_
    obtain ⟨hp0, g0, d0, t0', os0⟩ := s
    refine ks_wpAny_isType_cls (X1 _ _ hC) rfl ⟨rfl, ?_⟩
    refine ks_wpAny_call_super (X1 _ _ hC) rfl hx1 rfl (fun c e => by cases e) (looks_mroIn X1 T.slf) (fun h2 e2 k2 => ?_)
    have X2 : K.In h2 := X1.keeps k2
    have hx2 := k2 _ _ hx1
    have hI2 : InstAt h2 x (excO C t0) C none := ⟨hx2, rfl, rfl, trivial⟩
    have hso := T.sup
    unfold ks_superIn at hso
    rw [hcl, Option.bind_some] at hso
    refine kxs_getMethod (D := C) (l := (((Value.ref C :: bm).dropWhile (· != .ref C)).drop 1)) kxs_ValueError e2 (looks_opaque X2 T.tp) (l₀ := .ref C :: bm) ((looks_clsIn X2 hcl).andThen .now) rfl X2 hso (hI2.type.andThen (looks_subIn X2 T.veC)) (ks_ne X2 hI2 hcl) rfl ?_
    refine kxs_callWith (i := "ValueError.__init__") (x := x) rfl ?_
    refine evalArgs_plain (spliced_cons (wpAny_Constant_str (k := 0) (pos := q4) (spliced_nil ⟨Heap.get?_push_size _ rfl, ?_⟩)))
    refine bound_init (Heap.get?_push_of_some _ (X2 _ _ hC)) (Heap.get?_push_of_some _ hx2) (Heap.get?_push_size _ rfl) (by simp [sizeLine_eq]) (fun h3 t3 k3 hx3 => ?_)
    -- self.value = value
    have X3 : K.In h3 := fun b o e => k3 b o (fun z => by rw [z, hnx] at e; cases e) (Heap.get?_push_of_some _ (X2 _ _ e))
    have hn3 : h3.Ns hp0.objs.size (fun y => ([("self", .ref x), ("value", v)] : List (Str × Value)).reverse.lookup y) := by
      obtain ⟨oL, es, ep, hL, r⟩ := hn
      exact ⟨oL, es, ep, k3 _ _ hxL (Heap.get?_push_of_some _ (k2 _ _ hL)), r⟩
    show _root_.PySem.wpAt _ _ _ (execs [.Assign [.Attribute (.Name "self" r1) "value" r2] (.Name "value" r3) r4] _) _ _ _
    refine ks_wpAt_execs_cons (ks_wpAt_Assign_Attr (wpAt_of_wpAny (wpAny_Name (wpAny_loadName_local (v := v) rfl rfl hn3 rfl (wpAny_Name (wpAny_loadName_local (v := .ref x) rfl rfl hn3 rfl ?_) rfl)) rfl)) rfl)
    refine set_plain X3 (ox := excO C t3) (od := none) ⟨hx3, rfl, rfl, trivial⟩ T.sa ?_
    refine exc_osa X3 hx3 hcl (show refsVE (.ref C :: bm) = true from hbm) rfl T.noN (fun h4 tk4 dx k4 dn dne hx4 hn4 => ?_)
    refine wpAt_of_wpAny (wpAny_execs_nil ?_)
    refine hq h4 tk4 dx ⟨fun b o hb e => ?_, ⟨_, hx4⟩, ?_, dne, hn4⟩
    · exact k4 b o hb (k3 b o hb (Heap.get?_push_of_some _ (k2 _ _ (k _ _ e))))
    · obtain ⟨oL, es, ep, hL, r⟩ := hn3
      exact Nat.le_of_lt (Nat.lt_of_lt_of_le (Heap.lt_size hL) dn)
  · subst henv; rfl
  · subst henv; rfl
end
end SupE

set_option maxHeartbeats 4000000
namespace SupE
open PySem PySem.W PySem.Calls PyProof.Rows PySem.HandSPX
/-- a made error -/
structure Made (h h' : Heap) (e C d : Addr) (pn : Str) (v : Value) : Prop where
  keep : ∀ b o, h.get? b = some o → h'.get? b = some o
  new : h.objs.size ≤ e
  obj : ∃ oe vs, h'.get? e = some oe ∧ oe.cls = .ref C ∧ oe.dict = some d ∧ oe.data = .fields vs ∧ vs[1]? = some .none
  dbig : h.objs.size ≤ d
  dne : d ≠ e
  ns : h'.Ns1 d (fun y => if y = pn then some v else none)
section
variable {prog : Program} {w : World} {A : Around} {R : Result → Shared → Prop} {s : Shared} {K : Frag} {mg mb : Str → Option Value} {cn : Str} {C fI : Addr}
theorem single (v : Value) : [v].length ≤ sizeLine := by rw [sizeLine_eq]; exact (by decide : 1 ≤ 16777216)
theorem made (T : Txt prog K mg cn "value" C fI) {v : Value} (X : K.In s.heap) (hg : s.heap.Ns mainGlobals mg) (hb : s.heap.Ns builtinsNs mb) (hbb : mb "super" = some (.type "super")) (hlim : s.heap.NoLimit) (hroom : A.depth + 1 < recursionLimit)
    (hq : ∀ h' tk e d, Made s.heap h' e C d "value" v → R (.ok (.ret (.ref e))) { s with heap := h', toks := tk }) :
    codeAny (model prog w) A (.call (.ref C) ⟨[v], []⟩) R s := by
  obtain ⟨nm, q, N, bs, bm, sn, sub, ab, col, dd, k0, k1, k2, k3, k5, hC, hbm⟩ := T.cls
  obtain ⟨hp, g, dr, tk, os⟩ := s
  have k : ∀ b o, hp.get? b = some o → ((hp.push (kdv_tup [v])).push (excO C hp.objs.size)).get? b = some o := fun b o e => Heap.get?_push_of_some _ (Heap.get?_push_of_some _ e)
  have hget : ((hp.push (kdv_tup [v])).push (excO C hp.objs.size)).get? (hp.objs.size + 1) = some (excO C hp.objs.size) := by heap_get
  have hnx : K.lookup (hp.objs.size + 1) = none := by
    cases e : K.lookup (hp.objs.size + 1) with
    | none => rfl
    | some o => exact absurd (Nat.lt_of_succ_lt (Heap.lt_size (X _ _ e))) (Nat.lt_irrefl _)
  refine call_own F.excBase_ValueError (fun X => refsVE_contains X bm hbm) (X _ _ hC) (looks_findIn X T.iC) (fun self => bind_fn X self T.tC) (single v) ?_
  refine init_run (s := ⟨(hp.push (kdv_tup [v])).push (excO C hp.objs.size), g, dr, tk, os⟩) T (X.keeps k) (hg.keeps k) (hb.keeps k) hbb (hlim.keeps k) hget hnx hroom fun h' tk' dx ⟨k', ⟨t1, hx⟩, dn, dne, hns⟩ => ?_
  have old : ∀ b o, hp.get? b = some o → h'.get? b = some o := fun b o e => k' b o (Nat.ne_of_lt (Nat.lt_succ_of_lt (Heap.lt_size e))) (k b o e)
  have z : hp.objs.size + 1 + 1 ≤ dx := by
    have q := dn
    first | (simpa only [Heap.size_push] using q) | exact q | (rw [Heap.size_push, Heap.size_push] at q; exact q)
  exact ⟨rfl, hq h' tk' (hp.objs.size + 1) dx ⟨old, Nat.le_succ _, ⟨_, _, hx, rfl, rfl, rfl, rfl⟩, Nat.le_trans (Nat.le_trans (Nat.le_succ _) (Nat.le_succ _)) z, dne, hns⟩⟩
end
end SupE

set_option maxHeartbeats 4000000
namespace SupE
open PySem PySem.Spec PyProof.Rows L2
theorem relO_own {pn : Str} {v : V} {v' : Value} (r : RelV v v') (f : Str) : RelO (List.lookup f [(pn, v)]) (if f = pn then some v' else none) := by
  by_cases hw : f = pn
  · subst hw
    rw [if_pos rfl, show List.lookup f [(f, v)] = some v by simp [List.lookup]]
    exact r
  · have q : (f == pn) = false := by simpa using hw
    rw [if_neg hw, show List.lookup f [(pn, v)] = none by simp [List.lookup, q]]
    trivial
section
variable {X : Cx} {C fI : Addr} {cn : Str}
/-- X(e) -/
def tMk (C : Addr) (pn : Str) (ta : TA) : L2.St → Hp → XK → Prop := fun σ H Q => ta σ H fun vs H1 => ∃ v, vs = [v] ∧ ∀ d, H1 d = none → Q (.ref C) (some d) (upd H1 d (.xd [(pn, v)]))
theorem pmk_own {a : Expr} {ta : TA} {p pos : Pos} {k : Nat} (T : Txt X.prog X.K X.mg cn "value" C fI) (hr : Room k X.A) (ha : PA X [a] ta) (hg : Gl X cn := by rfl) (hdb : (cn == ("__debug__" : Str)) = false := by decide)
    (he : starEach (a :: []) X.env = (false, eval a X.env) :: starEach [] X.env := by rfl) (hpl : (backTo pos (starEach [] X.env)).any (·.1) = false := by rfl) :
    PMk X (.Call (.Name cn p) [a] [] pos) (tMk C "value" ta) := by
  intro pins s σ H Q I h
  refine wpAny_Call_Name_kw (ld_glob I hg T.gC ?_ hdb)
  refine PySem.W.callWith_K (h₀ := X.base) I.ok.mod.kin T.kC (thn (ha.run pos pins s σ H _ I h) fun us s1 hh => ?_) he hpl
  obtain ⟨vs, H1, I1, r1, v, ev, q1⟩ := hh
  subst ev
  refine ⟨I1.kIn, ?_⟩
  cases r1 with
  | cons rv rn =>
    rename_i v' us'
    cases rn
    show wpAny _ _ (call (.ref C) [v']) _ _ _
    have hlim := I1.nolimit
    have hgl := I1.mod.glob.keeps I1.bk
    obtain ⟨mb, hb1, hb2⟩ := I1.mod.blt
    have hbl := hb1.keeps I1.bk
    have hsup : mb "super" = some (.type "super") := (hb2 _ (by decide +kernel)).trans (by decide +kernel)
    obtain ⟨hp, g, dr, tk, os⟩ := s1
    refine wpAny_call (made T I1.kIn hgl hbl hsup hlim (by have := hr.dp; omega) fun h' tk' e d M => ?_)
    show MkP X pins σ Q (.ref e) ⟨h', g, dr, tk', os⟩
    obtain ⟨oe, fv, hoe, hc, hd, hdat, h1⟩ := M.obj
    have hns := M.ns
    obtain ⟨G', g1, g2⟩ := restrict h' fun b => decide (b ≠ e)
    have gk : ∀ b, b ≠ e → G'.get? b = h'.get? b := fun b hb => g1 b (decide_eq_true hb)
    have ge : G'.get? e = none := g2 e (by simp)
    have old : ∀ b o, hp.get? b = some o → G'.get? b = some o := fun b o q => (gk b (Nat.ne_of_lt (Nat.lt_of_lt_of_le (Heap.lt_size q) M.new))).trans (M.keep b o q)
    have ob : ObjOk X.prog X.w (upd H1 d (.xd [("value", v)])) G' d (.xd [("value", v)]) := ⟨_, hns.at (fun o q => (gk d M.dne).trans q), fun f => relO_own rv f⟩
    have J : Inv X pins σ (upd H1 d (.xd [("value", v)])) ⟨G', g, dr, tk', os⟩ := I1.laid (t' := tk') old M.dbig ob
    refine ⟨e, oe, fv, ⟨G', g, dr, tk', os⟩, _, .ref C, some d, rfl, J, fun b o q => ?_, ge, hoe, ⟨hc, hd⟩, hdat, h1, ?_, rfl, I1.bare, raises_own T.exC T.tyC, q1 d (I1.hok.fresh M.dbig)⟩
    · by_cases hb : b = e
      · have q' : G'.get? b = some o := q
        rw [hb, ge] at q'; cases q'
      · exact (gk b hb).symm.trans q
    · rw [upd_ne (Ne.symm M.dne)]
      exact I1.hok.fresh M.new
/-- raise X(e) -/
def tRaise (C : Addr) (pn : Str) (W : WX) (ta : TA) : TS := fun _ σ H => tMk C pn ta σ H fun cls d H' => W cls d σ H'
theorem ps_raiseOwn {a : Expr} {ta : TA} {W : WX} {p pos pos2 : Pos} {k : Nat} (hc : X.calm = true) (T : Txt X.prog X.K X.mg cn "value" C fI) (hr : Room k X.A) (tk : Takes X W) (ha : PA X [a] ta) (hg : Gl X cn := by rfl) (hdb : (cn == ("__debug__" : Str)) = false := by decide)
    (he : starEach (a :: []) X.env = (false, eval a X.env) :: starEach [] X.env := by rfl) (hpl : (backTo pos (starEach [] X.env)).any (·.1) = false := by rfl) :
    PS X (.Raise (some (.Call (.Name cn p) [a] [] pos)) none pos2) (tRaise C "value" W ta) := ps_raise hc tk (pmk_own T hr ha hg hdb he hpl)
/-- e.value, e the error that the suite holds (at a; its class cls, its dict d) -/
def tBy (C : Addr) (a : Addr) (cls : Value) (d : Option Addr) (pn : Str) (te : TE) : TE := fun σ H Q => te σ H fun x H1 => x = .ref a ∧ cls = .ref C ∧ ∃ (dd : Addr) (v : V), d = some dd ∧ H1 dd = some (.xd [(pn, v)]) ∧ Q v H1
theorem pe_byOwn {a : Addr} {oe : Obj} {cls : Value} {d : Option Addr} {pn : List (Addr × Obj)} {e : Expr} {te : TE} {pos : Pos} (T : Txt X.prog X.K X.mg cn "value" C fI) (hz : Zc cls d oe) (hf : ∃ vs, oe.data = .fields vs) (he : PE (X.suite a ((a, oe) :: pn)) e te)
    (hb : attributeBase e "value" X.env (eval e X.env) = eval e X.env := by rfl) :
    PE (X.suite a ((a, oe) :: pn)) (.Attribute e "value" pos) (tBy C a cls d "value" te) := by
  refine ⟨fun pins s σ H Q I h => ?_⟩
  refine attr_of hb (thn (he.run pins s σ H _ I h) fun u s1 hh => ?_)
  obtain ⟨x, H1, I1, rx, ex, ec, dd, v, ed, ea, q⟩ := hh
  subst ex
  obtain rfl : u = Value.ref a := rx
  subst ec
  subst ed
  obtain ⟨ha, _⟩ := I1.pin (a, oe) (List.mem_append_left _ List.mem_cons_self)
  obtain ⟨vs, hd⟩ := hf
  have hx : ObjOk X.prog X.w H1 s1.heap dd (.xd [("value", v)]) := I1.hok dd _ ea
  obtain ⟨mA, hns, hr⟩ := hx
  obtain ⟨od, ho, hl⟩ := lookIn_ns hns
  obtain ⟨u, hu, ru⟩ := RelO.some_of (v := v) (o := mA "value") (by rw [← show List.lookup ("value" : Str) [(("value" : Str), v)] = some v by simp [List.lookup]]; exact hr "value")
  have J : PySem.W.InstAt s1.heap a oe C (some od) := ⟨ha, hz.1, by unfold PySem.W.notCls; rw [hd] <;> rfl, by rw [hz.2]; exact ho⟩
  exact HandSPX.exc_get I1.kIn J T.ga T.gg T.exC (PySem.W.findObj_own T.hdC T.noN rfl (by rw [hl, hu])) (handed_of ru) ⟨v, H1, I1.tok _, ru, q⟩
end
end SupE

set_option maxHeartbeats 4000000
namespace K1
open PySem PySem.Spec PyProof.Rows L2 OwnO
/-! ### the text by places -/
def top (i : Nat) : Stmt := PySem.Challenge.pw_stoppoints_k01_spans.main.body.getD i (.Pass ⟨0, 0, 0, 0⟩)
abbrev sWhole : Stmt := top 4
abbrev sSInit : Stmt := inClass (top 6) 0
abbrev sEndless : Stmt := inClass (top 6) 1
abbrev sIsEnd : Stmt := inClass (top 6) 2
abbrev sAdd : Stmt := inClass (top 6) 3
abbrev sRadd : Stmt := inClass (top 6) 4
abbrev sMul : Stmt := inClass (top 6) 5
abbrev sRmul : Stmt := inClass (top 6) 6
abbrev sLt : Stmt := inClass (top 6) 7
abbrev sLe : Stmt := inClass (top 6) 8
abbrev sGt : Stmt := inClass (top 6) 9
abbrev sGe : Stmt := inClass (top 6) 10
abbrev sEq : Stmt := inClass (top 6) 11
abbrev sSize : Stmt := top 7
abbrev sTog : Stmt := top 8
abbrev sRep : Stmt := top 9
abbrev sChk : Stmt := top 10
abbrev sBelow : Stmt := top 11
abbrev sGreat : Stmt := top 12
/-! ### the data -/
def tv : Option Int → V | none => .non | some i => .int i
def NN (t : Option Int) : Prop := ∀ i, t = some i → 0 ≤ i
/-- at a: a span of this time -/
def SpAt (C : Addr) (H : Hp) (a : Addr) (t : Option Int) : Prop := NN t ∧ ∃ dx, H a = some (.ins C dx [("time", tv t)])
theorem SpAt.same {C : Addr} {H H' : Hp} {a : Addr} {t : Option Int} (h : SpAt C H a t) (s : Same H H') : SpAt C H' a t := let ⟨n, dx, e⟩ := h; ⟨n, dx, s _ _ e⟩
def isI : V → Bool | .int _ => true | _ => false
def sz : V → Bool | .int i => decide (0 ≤ i) | _ => false
/-- what is wanted of a new span -/
def New (C : Addr) (H : Hp) (t : Option Int) (Q : VK) : Prop := ∀ a H', Same H H' → H a = none → SpAt C H' a t → Q (.ref a) H'
def Bad (CE : Addr) (H : Hp) (v : V) (E : XK) : Prop := ∀ d H', Same H H' → H' d = some (.xd [("value", v)]) → E (.ref CE) (some d) H'
def addO : Option Int → Option Int → Option Int | some i, some j => some (i + j) | _, _ => none
def mulO (s : Option Int) (n : Int) : Option Int := if n = 0 then some 0 else s.map (· * n)
def ltO : Option Int → Option Int → Bool | none, _ => false | some _, none => true | some i, some j => decide (i < j)
/-! ### the promises -/
def spWhole : Sp := fun vs H Q _ => ∃ v, vs = [v] ∧ (kindOf v).isSome = true ∧ Q (.bl (isI v)) H
def spSize : Sp := fun vs H Q _ => ∃ v, vs = [v] ∧ (kindOf v).isSome = true ∧ Q (.bl (sz v)) H
def spSInit (CS CE : Addr) : Sp := fun vs H Q E => ∃ a dx v, vs = [.ref a, v] ∧ H a = some (.ins CS dx []) ∧ (kindOf v).isSome = true ∧
  (((v = .non ∨ sz v = true) ∧ Q .non (upd H a (.ins CS dx [("time", v)]))) ∨ (v ≠ .non ∧ sz v = false ∧ Bad CE H v E))
/-- what of the text the defs below ask -/
structure Txt (P : Program) (K : PySem.W.Frag) (mg : Str → Option Value) (CS CE fE : Addr) : Prop where
  cl : Cls K CS
  nT : NoAttr K CS "time"
  ca : PySem.W.findIn K (.ref CS) "__class__" = some (some (.builtin "object.__class__"))
  cn : PySem.W.specialIn K (.builtin "object.__class__") "__get__" = some (some (.builtin "getset_descriptor.__get__"))
  ct : PySem.W.takesIn K (.builtin "object.__class__") = some true
  cm : PySem.W.mroIn K CS (.type "object") = some true
  kS : PySem.W.kitOne K (.ref CS) (.ref CS) = some true
  kI : PySem.W.kitOne K (.type "int") (.ref CS) = some false
  kB : PySem.W.kitOne K (.type "bool") (.ref CS) = some false
  kN : PySem.W.kitOne K (.type "NoneType") (.ref CS) = some false
  kT : PySem.W.kitOne K (.type "str") (.ref CS) = some false
  er : SupE.Txt P K mg "InvalidTime" "value" CE fE
  gS : mg "Span" = some (.ref CS)
  isi : mg "isinstance" = none
  int : mg "int" = none
  bool : mg "bool" = none
theorem ifn {c : Bool} {A B : Prop} (hc : c = false) (h : B) : if c = true then A else B := by rw [hc, if_neg Bool.false_ne_true]; exact h
theorem ift {c : Bool} {A B : Prop} (hc : c = true) (h : A) : if c = true then A else B := by rw [if_pos hc]; exact h
/-- a def of the module's top; a method of the class at C -/
structure Df (K : PySem.W.Frag) (mg : Str → Option Value) (x : Str) (st : Stmt) (ps : List Str) (f : Addr) (fd : FuncData) : Prop where
  fn : Fun K x x st f fd
  gl : mg x = some (.ref f)
  bd : Binds K fd ps []
structure Me (K : PySem.W.Frag) (C : Addr) (x qual : Str) (st : Stmt) (ps : List Str) (f : Addr) (fd : FuncData) : Prop where
  fn : Fun K x qual st f fd
  at_ : PySem.W.findIn K (.ref C) x = some (some (.ref f))
  isf : PySem.W.isFn K (.ref f) = true
  bd : Binds K fd ps []
section
variable {P : Program} {w : World} {K : PySem.W.Frag} {mg : Str → Option Value} {base : Heap} {CS CE fE : Addr}
theorem plain_ty {K : PySem.W.Frag} {H : Hp} {v : V} {T : String} (h : kindOf v = some T) : TyX K H v (.type T) := by
  cases v with
  | non => cases h; exact .base .non
  | bl b => cases h; exact .base (.bl b)
  | int i => cases h; exact .base (.int i)
  | str x => cases h; exact .base (.str x)
  | byt b => cases h
  | flt b => cases h
  | ref a => cases h
  | ty n => cases h
theorem scWhole : FnScope ["value"] ["value"] (defScope sWhole) := ⟨rfl, rfl, rfl, by decide +kernel, rfl, by decide +kernel, by decide +kernel⟩
theorem ok_whole {f : Addr} {fd : FuncData} (F : Fun K "is_whole" "is_whole" sWhole f fd) (T : Txt P K mg CS CE fE) : FnOk P w K mg base CX0 1 f fd ["value"] spWhole := by
  refine F.ok scWhole (fun vs H Q E h => ?_) (fun cdv A outer s H vs Q E hr h => ?_)
  · obtain ⟨v, rfl, _⟩ := h; rfl
  · obtain ⟨v, rfl, hk, q⟩ := h
    obtain ⟨T1, hT⟩ := Option.isSome_iff_exists.mp hk
    refine ⟨_, pss_one (ps_ret (pe_and (pe_callB call_isi (by rfl) T.isi (by decide +kernel) (pa_cons (pv 0) (pa_cons (pe_bltn (v := .ty "int") (by rfl) T.int (by decide +kernel) rfl) pa_nil)))
      (pe_one (pe_not (pe_callB call_isi (by rfl) T.isi (by decide +kernel) (pa_cons (pv 0) (pa_cons (pe_bltn (v := .ty "bool") (by rfl) T.bool (by decide +kernel) rfl) pa_nil))))))), ?_⟩
    cases v with
    | non => exact ⟨_, rfl, _, _, _, _, false, rfl, .ty "int", plain_ty hT, by cases hT; exact kit_ty (by decide +kernel), false, rfl, q⟩
    | str x => exact ⟨_, rfl, _, _, _, _, false, rfl, .ty "int", plain_ty hT, by cases hT; exact kit_ty (by decide +kernel), false, rfl, q⟩
    | bl b => exact ⟨_, rfl, _, _, _, _, true, rfl, .ty "int", plain_ty hT, by cases hT; exact kit_ty (by decide +kernel), true, rfl, _, rfl, _, _, _, _, true, rfl, .ty "bool", plain_ty hT, by cases hT; exact kit_ty (by decide +kernel), true, rfl, q⟩
    | int i => exact ⟨_, rfl, _, _, _, _, true, rfl, .ty "int", plain_ty hT, by cases hT; exact kit_ty (by decide +kernel), true, rfl, _, rfl, _, _, _, _, false, rfl, .ty "bool", plain_ty hT, by cases hT; exact kit_ty (by decide +kernel), false, rfl, q⟩
    | byt b => cases hk
    | flt b => cases hk
    | ref a => cases hk
    | ty n => cases hk
theorem scSize : FnScope ["value"] ["value"] (defScope sSize) := ⟨rfl, rfl, rfl, by decide +kernel, rfl, by decide +kernel, by decide +kernel⟩
theorem ok_size {f fW : Addr} {fd fdW : FuncData} (F : Fun K "is_size" "is_size" sSize f fd) (T : Txt P K mg CS CE fE) (W : Df K mg "is_whole" sWhole ["value"] fW fdW) : FnOk P w K mg base CX0 2 f fd ["value"] spSize := by
  have GW : FnOk P w K mg base CX0 1 fW fdW ["value"] spWhole := ok_whole W.fn T
  refine F.ok scSize (fun vs H Q E h => ?_) (fun cdv A outer s H vs Q E hr h => ?_)
  · obtain ⟨v, rfl, _⟩ := h; rfl
  · obtain ⟨v, rfl, hk, q⟩ := h
    refine ⟨_, pss_one (ps_ret (pe_and (pe_call GW hr (by rfl) W.gl W.fn.kp W.bd .nil pass0 (pa_cons (pv 0) pa_nil)) (pe_one (pe_cmpR op_ge (pv 0) pe_int (nomark _))))), ?_⟩
    refine ⟨_, rfl, v, rfl, hk, ?_⟩
    cases v with
    | int i => exact ⟨true, rfl, _, rfl, _, _, rfl, rfl, q⟩
    | non => exact ⟨false, rfl, q⟩
    | str x => exact ⟨false, rfl, q⟩
    | bl b => exact ⟨false, rfl, q⟩
    | byt b => cases hk
    | flt b => cases hk
    | ref a => cases hk
    | ty n => cases hk
theorem scSInit : FnScope ["self", "time"] ["self", "time"] (defScope sSInit) := ⟨rfl, rfl, rfl, by decide +kernel, rfl, by decide +kernel, by decide +kernel⟩
theorem ok_sinit {f fW fZ : Addr} {fd fdW fdZ : FuncData} (F : Fun K "__init__" "Span.__init__" sSInit f fd) (T : Txt P K mg CS CE fE) (W : Df K mg "is_whole" sWhole ["value"] fW fdW) (Z : Df K mg "is_size" sSize ["value"] fZ fdZ) :
    FnOk P w K mg base (L2.CX P w) 3 f fd ["self", "time"] (spSInit CS CE) := by
  have GZ : FnOk P w K mg base CX0 2 fZ fdZ ["value"] spSize := ok_size Z.fn T W
  refine F.okX scSInit (fun vs H Q E h => ?_) (fun cdv A outer s H vs Q E hr h => ?_)
  · obtain ⟨a, dx, v, rfl, _⟩ := h; rfl
  · obtain ⟨a, dx, v, rfl, ha, hk, q⟩ := h
    refine ⟨_, pss_cons (ps_if (PW.pt (pw_and (pt_cmpR op_notN (pv 1) pe_non (nomark _)) (pw_and1 (pt_not (pt_val (pe_call GZ hr (by rfl) Z.gl Z.fn.kp Z.bd .nil pass0 (pa_cons (pv 1) pa_nil)))))))
      (pss_one (SupE.ps_raiseOwn rfl T.er hr (takes_of rfl rfl rfl rfl) (pa_cons (pv 1) pa_nil))) pss_nil) (pss_one (ps_fld (pv 0) (pv 1) rfl)), ?_⟩
    have tail : (v = .non ∨ sz v = true) → Q .non (upd H a (.ins CS dx [("time", v)])) → _ := fun _ q => (⟨_, rfl, _, rfl, a, CS, dx, [], rfl, ha, T.cl, T.nT, (by decide), q⟩ : sFld K (tVar 0) (tVar 1) "time" { nx := fun _ H' => Q .non H', rt := Q } (L2.start ["self", "time"] [.ref a, v]) H)
    by_cases hv : v = .non
    · subst hv
      rcases q with ⟨g, q⟩ | ⟨z, _⟩
      · exact ⟨_, rfl, rfl, _, rfl, ifn (by simp) (ifn rfl (tail g q))⟩
      · exact absurd rfl z
    · refine ⟨_, rfl, rfl, _, rfl, ift (by simp [hv]) ?_⟩
      refine ⟨_, rfl, v, rfl, hk, _, rfl, ?_⟩
      rcases q with ⟨g, q⟩ | ⟨z, hz, q⟩
      · rcases g with g | g
        · exact absurd g hv
        · exact ifn (by rw [g]; rfl) (tail (.inr g) q)
      · exact ift (by rw [hz]; rfl) ⟨_, rfl, _, rfl, fun d hd => q d _ (fun b o e => by rw [upd_ne (ne_of_none e hd)]; exact e) upd_same⟩
end
end K1

set_option maxHeartbeats 4000000
namespace K1
open PySem PySem.Spec PyProof.Rows L2 OwnO
/-! ### the promises -/
def spEndless (CS : Addr) : Sp := fun vs H Q _ => vs = [] ∧ New CS H none Q
def spIsEnd (CS : Addr) : Sp := fun vs H Q _ => ∃ a t, vs = [.ref a] ∧ SpAt CS H a t ∧ Q (.bl (decide (t = none))) H
/-- a partner in a sum: a span, or a plain value; its time, none where it is refused -/
inductive Par (CS : Addr) (H : Hp) : V → Option (Option Int) → Prop where
  | span {b : Addr} {t : Option Int} (h : SpAt CS H b t) : Par CS H (.ref b) (some t)
  | int {i : Int} (h : 0 ≤ i) : Par CS H (.int i) (some (some i))
  | bad {v : V} (k : (kindOf v).isSome = true) (h : sz v = false) : Par CS H v none
/-- span + value -/
def spSum (CS CE : Addr) : Sp := fun vs H Q E => ∃ a s v r, vs = [.ref a, v] ∧ SpAt CS H a s ∧ Par CS H v r ∧ (∀ t, r = some t → New CS H (addO s t) Q) ∧ (r = none → Bad CE H v E)
/-- span * value -/
def spProd (CS CE : Addr) : Sp := fun vs H Q E => ∃ a s v, vs = [.ref a, v] ∧ SpAt CS H a s ∧ (kindOf v).isSome = true ∧ (∀ n : Int, v = .int n → 0 ≤ n → n < 2 ^ 64 ∧ New CS H (mulO s n) Q) ∧ (sz v = false → Bad CE H v E)
section
variable {P : Program} {w : World} {K : PySem.W.Frag} {mg : Str → Option Value} {base : Heap} {CS CE fE : Addr}
theorem new_of {C : Addr} {H : Hp} {x dx : Addr} {t : Option Int} {Q : VK} (nx : H x = none) (nd : H dx = none) (hn : NN t) (k : New C H t Q) : Q (.ref x) (upd (upd (upd H dx (.own x)) x (.ins C dx [])) x (.ins C dx [("time", tv t)])) :=
  k x _ (fun b o e => by rw [upd_ne (ne_of_none e nx), upd_ne (ne_of_none e nx), upd_ne (ne_of_none e nd)]; exact e) nx ⟨hn, dx, upd_same⟩
/-- Span(v): what its __init__ asks, v a time -/
theorem mk_good {H : Hp} {t : Option Int} {Q : VK} {E : XK} (hn : NN t) (k : New CS H t Q) (x dx : Addr) (nx : H x = none) (nd : H dx = none) (_ : dx ≠ x) :
    spSInit CS CE (.ref x :: ([tv t] ++ [])) (upd (upd H dx (.own x)) x (.ins CS dx [])) (fun v H2 => v = .non ∧ Q (.ref x) H2) E := by
  refine ⟨x, dx, tv t, rfl, upd_same, by cases t <;> rfl, .inl ⟨?_, rfl, new_of nx nd hn k⟩⟩
  cases t with
  | none => exact .inl rfl
  | some i => exact .inr (decide_eq_true (hn i rfl))
theorem mk_bad {H : Hp} {v : V} {Q : VK} {E : XK} (hk : (kindOf v).isSome = true) (h0 : v ≠ .non) (hz : sz v = false) (k : Bad CE H v E) (x dx : Addr) (nx : H x = none) (nd : H dx = none) (_ : dx ≠ x) :
    spSInit CS CE (.ref x :: ([v] ++ [])) (upd (upd H dx (.own x)) x (.ins CS dx [])) (fun v H2 => v = .non ∧ Q (.ref x) H2) E :=
  ⟨x, dx, v, rfl, upd_same, hk, .inr ⟨h0, hz, fun d H' s e => k d H' (fun b o q => s _ _ (by rw [upd_ne (ne_of_none q nx), upd_ne (ne_of_none q nd)]; exact q)) e⟩⟩
theorem scEndless : FnScope [] [] (defScope sEndless) := ⟨rfl, rfl, rfl, by decide +kernel, rfl, by decide +kernel, by decide +kernel⟩
theorem ok_endless {f fI : Addr} {fd fdI : FuncData} (F : Fun K "endless" "Span.endless" sEndless f fd) (T : Txt P K mg CS CE fE) (M : Mk K CS fI) (bI : Binds K fdI ["self", "time"] [])
    (GI : FnOk P w K mg base (L2.CX P w) 3 fI fdI ["self", "time"] (spSInit CS CE)) : FnOk P w K mg base CX0 5 f fd [] (spEndless CS) := by
  refine F.ok scEndless (fun vs H Q E h => ?_) (fun cdv A outer s H vs Q E hr h => ?_)
  · obtain ⟨rfl, _⟩ := h; rfl
  · obtain ⟨rfl, q⟩ := h
    refine ⟨_, pss_one (ps_ret (pe_make M GI hr (by rfl) T.gS bI .nil passL (pa_cons pe_non pa_nil))), ?_⟩
    exact fun x dx nx nd ne => mk_good (t := none) (fun i e => by cases e) q x dx nx nd ne
theorem scIsEnd : FnScope ["self"] ["self"] (defScope sIsEnd) := ⟨rfl, rfl, rfl, by decide +kernel, rfl, by decide +kernel, by decide +kernel⟩
theorem fld_ok {H : Hp} {a : Addr} {t : Option Int} (h : SpAt CS H a t) : ∃ dx fs, H a = some (.ins CS dx fs) ∧ List.lookup ("time" : Str) fs = some (tv t) := by
  obtain ⟨_, dx, e⟩ := h
  exact ⟨dx, _, e, by simp [List.lookup]⟩
theorem tv_none (t : Option Int) : decide (tv t = V.non) = decide (t = none) := by cases t <;> rfl
theorem ok_isEnd {f : Addr} {fd : FuncData} (F : Fun K "is_endless" "Span.is_endless" sIsEnd f fd) (T : Txt P K mg CS CE fE) : FnOk P w K mg base CX0 1 f fd ["self"] (spIsEnd CS) := by
  refine F.ok scIsEnd (fun vs H Q E h => ?_) (fun cdv A outer s H vs Q E hr h => ?_)
  · obtain ⟨a, t, rfl, _⟩ := h; rfl
  · obtain ⟨a, t, rfl, ha, q⟩ := h
    obtain ⟨dx, fs, e, l⟩ := fld_ok ha
    refine ⟨_, pss_one (ps_ret (pe_cmpR op_isN (pe_fld (pv 0) rfl) pe_non (nomark _))), ?_⟩
    refine ⟨_, rfl, a, CS, dx, fs, _, rfl, e, T.cl, T.nT, l, rfl, ?_⟩
    rw [tv_none]; exact q
theorem span_ty (T : Txt P K mg CS CE fE) {H : Hp} {a : Addr} {t : Option Int} (h : SpAt CS H a t) : TyX K H (.ref a) (.ref CS) := by
  obtain ⟨_, dx, e⟩ := h
  exact .base (.ins e T.cl T.ca T.cn T.ct T.cm)
theorem plain_kit (T : Txt P K mg CS CE fE) {v : V} {U : String} (h : kindOf v = some U) : PySem.W.kitOne K (.type U) (.ref CS) = some false := by
  cases v with
  | non => cases h; exact T.kN
  | bl b => cases h; exact T.kB
  | int i => cases h; exact T.kI
  | str x => cases h; exact T.kT
  | byt b => cases h
  | flt b => cases h
  | ref a => cases h
  | ty n => cases h
theorem scTog : FnScope ["span", "other", "time"] ["span", "other"] (defScope sTog) := ⟨rfl, rfl, rfl, by decide +kernel, rfl, by decide +kernel, by decide +kernel⟩
theorem ok_tog {f fW fZ fI fN p : Addr} {mc : Value} {fd fdW fdZ fdI fdN : FuncData} (F : Fun K "together" "together" sTog f fd) (T : Txt P K mg CS CE fE) (W : Df K mg "is_whole" sWhole ["value"] fW fdW) (Z : Df K mg "is_size" sSize ["value"] fZ fdZ)
    (M : Mk K CS fI) (bI : Binds K fdI ["self", "time"] []) (GI : FnOk P w K mg base (L2.CX P w) 3 fI fdI ["self", "time"] (spSInit CS CE)) (S : SMet K CS mc "endless" p fN) (bN : Binds K fdN [] []) (GN : FnOk P w K mg base CX0 5 fN fdN [] (spEndless CS)) :
    FnOk P w K mg base (L2.CX P w) 6 f fd ["span", "other"] (spSum CS CE) := by
  have GZ : FnOk P w K mg base CX0 2 fZ fdZ ["value"] spSize := ok_size Z.fn T W
  have RN : FnR P w K mg base CX0 5 fN (spEndless CS) := (GN.raw bN .nil).imp fun vs H Q E h => by rw [List.append_nil]; exact h
  refine F.okX scTog (fun vs H Q E h => ?_) (fun cdv A outer s H vs Q E hr h => ?_)
  · obtain ⟨a, t, v, r, rfl, _⟩ := h; rfl
  · obtain ⟨a, t, v, r, rfl, ha, hp, good, bad⟩ := h
    obtain ⟨dx, fs, e, l⟩ := fld_ok ha
    refine ⟨_, pss_cons (ps_if (pt_val (pe_callB call_isi (by rfl) T.isi (by decide +kernel) (pa_cons (pv 1) (pa_cons (pe_glob (v := .ref CS) (by rfl) T.gS rfl) pa_nil))))
        (pss_one (ps_set (i := 2) scTog.nd rfl (Or.inl rfl) (pe_fld (pv 1) rfl)))
        (pss_one (ps_if (pt_val (pe_call GZ (hr.mono (by decide)) (by rfl) Z.gl Z.fn.kp Z.bd .nil pass0 (pa_cons (pv 1) pa_nil)))
          (pss_one (ps_set (i := 2) scTog.nd rfl (Or.inl rfl) (pv 1)))
          (pss_one (SupE.ps_raiseOwn rfl T.er hr (takes_of rfl rfl rfl rfl) (pa_cons (pv 1) pa_nil))))))
      (pss_cons (ps_if (PW.pt (pw_or (pt_cmpR op_isN (pe_fld (pv 0) rfl) pe_non (nomark _)) (pw_or1 (pt_cmpR op_isN (pv 2) pe_non (nomark _)))))
        (pss_one (ps_ret (pe_stat0 S (by rfl) T.gS RN hr pass0))) pss_nil)
      (pss_one (ps_ret (pe_make M GI (hr.mono (by decide)) (by rfl) T.gS bI .nil passL (pa_cons (pe_op op_add (pe_fld (pv 0) rfl) (pv 2)) pa_nil))))), ?_⟩

    have fin : ∀ t2 : Option Int, NN t2 → New CS H (addO t t2) Q → tSeq (tIfS (tOr (tTest (tOp (fun x y H Q => y = V.non ∧ Q (.bl (decide (x = .non))) H) (tFld K (tVar 0) "time") (tC .non))) (tTest (tOp (fun x y H Q => y = V.non ∧ Q (.bl (decide (x = .non))) H) (tVar 2) (tC .non)))) (tRet (tStat (spEndless CS) E0)) tNext)
          (tRet (tMake CS (spSInit CS CE) [] E0 (tCons (tOp (rI0 fun i j => .int (i + j)) (tFld K (tVar 0) "time") (tVar 2)) tNil))) { nx := fun _ H' => Q .non H', rt := Q } [some (.ref a), some v, some (tv t2)] H := fun t2 n2 k => by
        refine ⟨_, rfl, a, CS, dx, fs, _, rfl, e, T.cl, T.nT, l, rfl, _, rfl, ?_⟩
        cases t with
        | none => exact ift rfl (ift rfl ⟨rfl, k⟩)
        | some i =>
          refine ifn (by simp [tv]) ?_
          refine ⟨_, rfl, rfl, _, rfl, ?_⟩
          cases t2 with
          | none => exact ift rfl ⟨rfl, k⟩
          | some j =>
            refine ifn (by simp [tv]) ?_
            refine ⟨_, rfl, a, CS, dx, fs, _, rfl, e, T.cl, T.nT, l, _, rfl, i, j, rfl, rfl, fun x dx nx nd ne => ?_⟩
            exact mk_good (t := some (i + j)) (fun n en => by cases en; have h1 := ha.1 i rfl; have h2 := n2 j rfl; omega) k x dx nx nd ne
    cases hp with
    | @span b t2 hb =>
        obtain ⟨dy, gs, e2, l2⟩ := fld_ok hb
        refine ⟨_, rfl, _, _, _, _, true, rfl, .own CS, span_ty T hb, T.kS, true, rfl, ift rfl ?_⟩
        refine ⟨_, rfl, b, CS, dy, gs, _, rfl, e2, T.cl, T.nT, l2, ?_⟩
        exact fin t2 hb.1 (good _ rfl)
    | @int i h0 =>
        refine ⟨_, rfl, _, _, _, _, false, rfl, .own CS, plain_ty rfl, T.kI, false, rfl, ifn rfl ?_⟩
        refine ⟨_, rfl, _, rfl, rfl, _, rfl, ift (decide_eq_true h0) ?_⟩
        exact ⟨_, rfl, fin (some i) (fun n en => by cases en; exact h0) (good _ rfl)⟩
    | bad k hz =>
        obtain ⟨U, hU⟩ := Option.isSome_iff_exists.mp k
        refine ⟨_, rfl, _, _, _, _, false, rfl, .own CS, plain_ty hU, plain_kit T hU, false, rfl, ifn rfl ?_⟩
        refine ⟨_, rfl, _, rfl, k, _, rfl, ifn hz ?_⟩
        exact ⟨_, rfl, _, rfl, fun d hd => bad rfl d _ (fun b o q => by rw [upd_ne (ne_of_none q hd)]; exact q) upd_same⟩
end
end K1

set_option maxHeartbeats 4000000
namespace K1
open PySem PySem.Spec PyProof.Rows L2 OwnO
def spChk (CS : Addr) : Sp := fun vs H Q _ => ∃ b t, vs = [.ref b] ∧ SpAt CS H b t ∧ Q .non H
/-- two spans compared -/
def spCmp (CS : Addr) (g : Option Int → Option Int → Bool) : Sp := fun vs H Q _ => ∃ a b s t, vs = [.ref a, .ref b] ∧ SpAt CS H a s ∧ SpAt CS H b t ∧ Q (.bl (g s t)) H
/-- == : a span, or a plain value -/
def spEq (CS : Addr) : Sp := fun vs H Q _ => ∃ a s v, vs = [.ref a, v] ∧ SpAt CS H a s ∧ ((∃ b t, v = .ref b ∧ SpAt CS H b t ∧ Q (.bl (decide (s = t))) H) ∨ ((kindOf v).isSome = true ∧ Q (.bl false) H))
section
variable {P : Program} {w : World} {K : PySem.W.Frag} {mg : Str → Option Value} {base : Heap} {CS CE fE : Addr}
/-- a statement that is not come to -/
theorem psF {X : Cx} {st : Stmt} : PS X st (fun _ _ _ => False) := ⟨fun _ _ _ _ _ _ h => h.elim⟩
theorem scRep : FnScope ["span", "count"] ["span", "count"] (defScope sRep) := ⟨rfl, rfl, rfl, by decide +kernel, rfl, by decide +kernel, by decide +kernel⟩
theorem ok_rep {f fW fZ fI fN p : Addr} {mc : Value} {fd fdW fdZ fdI fdN : FuncData} (F : Fun K "repeated" "repeated" sRep f fd) (T : Txt P K mg CS CE fE) (W : Df K mg "is_whole" sWhole ["value"] fW fdW) (Z : Df K mg "is_size" sSize ["value"] fZ fdZ)
    (M : Mk K CS fI) (bI : Binds K fdI ["self", "time"] []) (GI : FnOk P w K mg base (L2.CX P w) 3 fI fdI ["self", "time"] (spSInit CS CE)) (S : SMet K CS mc "endless" p fN) (bN : Binds K fdN [] []) (GN : FnOk P w K mg base CX0 5 fN fdN [] (spEndless CS)) :
    FnOk P w K mg base (L2.CX P w) 6 f fd ["span", "count"] (spProd CS CE) := by
  have GZ : FnOk P w K mg base CX0 2 fZ fdZ ["value"] spSize := ok_size Z.fn T W
  have RN : FnR P w K mg base CX0 5 fN (spEndless CS) := (GN.raw bN .nil).imp fun vs H Q E h => by rw [List.append_nil]; exact h
  refine F.okX scRep (fun vs H Q E h => ?_) (fun cdv A outer s H vs Q E hr h => ?_)
  · obtain ⟨a, t, v, rfl, _⟩ := h; rfl
  · obtain ⟨a, t, v, rfl, ha, hk, good, bad⟩ := h
    obtain ⟨dx, fs, e, l⟩ := fld_ok ha
    refine ⟨_, pss_cons (ps_if (pt_not (pt_val (pe_call GZ (hr.mono (by decide)) (by rfl) Z.gl Z.fn.kp Z.bd .nil pass0 (pa_cons (pv 1) pa_nil))))
        (pss_one (SupE.ps_raiseOwn rfl T.er hr (takes_of rfl rfl rfl rfl) (pa_cons (pv 1) pa_nil))) pss_nil)
      (pss_cons (ps_if (pt_cmpR op_eq (pv 1) pe_int (nomark _)) (pss_one (ps_ret (pe_make M GI (hr.mono (by decide)) (by rfl) T.gS bI .nil passL (pa_cons pe_int pa_nil)))) pss_nil)
      (pss_cons (ps_if (pt_cmpR op_isN (pe_fld (pv 0) rfl) pe_non (nomark _)) (pss_one (ps_ret (pe_stat0 S (by rfl) T.gS RN hr pass0))) pss_nil)
      (pss_one (ps_ret (pe_make M GI (hr.mono (by decide)) (by rfl) T.gS bI .nil passL (pa_cons (pe_op op_mul (pe_fld (pv 0) rfl) (pv 1)) pa_nil)))))), ?_⟩
    refine ⟨_, rfl, v, rfl, hk, _, rfl, ?_⟩
    cases hz : sz v with
    | false => exact ift rfl ⟨_, rfl, _, rfl, fun d hd => bad hz d _ (fun b o q => by rw [upd_ne (ne_of_none q hd)]; exact q) upd_same⟩
    | true =>
      refine ifn rfl ?_
      obtain ⟨n, rfl⟩ : ∃ n, v = .int n := by cases v <;> first | exact ⟨_, rfl⟩ | cases hz
      have h0 : 0 ≤ n := of_decide_eq_true hz
      obtain ⟨hn, k⟩ := good n rfl h0
      refine ⟨_, rfl, rfl, _, rfl, ?_⟩
      by_cases hn0 : n = 0
      · subst hn0
        refine ift (by simp) (fun x dx nx nd ne => ?_)
        exact mk_good (t := some 0) (fun i ei => by cases ei; decide) (by have k' := k; unfold mulO at k'; rw [if_pos rfl] at k'; exact k') x dx nx nd ne
      · refine ifn (by simp [hn0]) ?_
        refine ⟨_, rfl, a, CS, dx, fs, _, rfl, e, T.cl, T.nT, l, rfl, _, rfl, ?_⟩
        have k' := k
        unfold mulO at k'
        rw [if_neg hn0] at k'
        cases t with
        | none => exact ift rfl ⟨rfl, k'⟩
        | some i =>
          refine ifn (by simp [tv]) ?_
          refine ⟨_, rfl, a, CS, dx, fs, _, rfl, e, T.cl, T.nT, l, _, rfl, i, n, rfl, rfl, .inr ⟨by omega, by omega⟩, fun x dx nx nd ne => ?_⟩
          exact mk_good (t := some (i * n)) (fun j ej => by cases ej; exact Int.mul_nonneg (ha.1 i rfl) h0) k' x dx nx nd ne
/-! ### the methods -/
theorem scTwo (st : Stmt) (h : FnScope ["self", "other"] ["self", "other"] (defScope st)) : FnScope ["self", "other"] ["self", "other"] (defScope st) := h
theorem scAdd : FnScope ["self", "other"] ["self", "other"] (defScope sAdd) := ⟨rfl, rfl, rfl, by decide +kernel, rfl, by decide +kernel, by decide +kernel⟩
theorem scRadd : FnScope ["self", "other"] ["self", "other"] (defScope sRadd) := ⟨rfl, rfl, rfl, by decide +kernel, rfl, by decide +kernel, by decide +kernel⟩
theorem scMul : FnScope ["self", "other"] ["self", "other"] (defScope sMul) := ⟨rfl, rfl, rfl, by decide +kernel, rfl, by decide +kernel, by decide +kernel⟩
theorem scRmul : FnScope ["self", "other"] ["self", "other"] (defScope sRmul) := ⟨rfl, rfl, rfl, by decide +kernel, rfl, by decide +kernel, by decide +kernel⟩
theorem ok_add {f g : Addr} {fd fdG : FuncData} (F : Fun K "__add__" "Span.__add__" sAdd f fd) (G : Df K mg "together" sTog ["span", "other"] g fdG) (GG : FnOk P w K mg base (L2.CX P w) 6 g fdG ["span", "other"] (spSum CS CE)) :
    FnOk P w K mg base (L2.CX P w) 7 f fd ["self", "other"] (spSum CS CE) := by
  refine F.okX scAdd (fun vs H Q E h => ?_) (fun cdv A outer s H vs Q E hr h => ?_)
  · obtain ⟨a, t, v, r, rfl, _⟩ := h; rfl
  · obtain ⟨a, t, v, r, rfl, hh⟩ := h
    exact ⟨_, pss_one (ps_ret (pe_call GG hr (by rfl) G.gl G.fn.kp G.bd .nil (fun pins σ H s e s' I h => passes_call (takes_of rfl rfl rfl rfl) (fun _ _ _ _ h => h) pins σ H s e s' I h) (pa_cons (pv 0) (pa_cons (pv 1) pa_nil)))), ⟨_, rfl, _, rfl, a, t, v, r, rfl, hh⟩⟩
theorem ok_radd {f g : Addr} {fd fdG : FuncData} (F : Fun K "__radd__" "Span.__radd__" sRadd f fd) (G : Df K mg "together" sTog ["span", "other"] g fdG) (GG : FnOk P w K mg base (L2.CX P w) 6 g fdG ["span", "other"] (spSum CS CE)) :
    FnOk P w K mg base (L2.CX P w) 7 f fd ["self", "other"] (spSum CS CE) := by
  refine F.okX scRadd (fun vs H Q E h => ?_) (fun cdv A outer s H vs Q E hr h => ?_)
  · obtain ⟨a, t, v, r, rfl, _⟩ := h; rfl
  · obtain ⟨a, t, v, r, rfl, hh⟩ := h
    exact ⟨_, pss_one (ps_ret (pe_call GG hr (by rfl) G.gl G.fn.kp G.bd .nil (fun pins σ H s e s' I h => passes_call (takes_of rfl rfl rfl rfl) (fun _ _ _ _ h => h) pins σ H s e s' I h) (pa_cons (pv 0) (pa_cons (pv 1) pa_nil)))), ⟨_, rfl, _, rfl, a, t, v, r, rfl, hh⟩⟩
theorem ok_mul {f g : Addr} {fd fdG : FuncData} (F : Fun K "__mul__" "Span.__mul__" sMul f fd) (G : Df K mg "repeated" sRep ["span", "count"] g fdG) (GG : FnOk P w K mg base (L2.CX P w) 6 g fdG ["span", "count"] (spProd CS CE)) :
    FnOk P w K mg base (L2.CX P w) 7 f fd ["self", "other"] (spProd CS CE) := by
  refine F.okX scMul (fun vs H Q E h => ?_) (fun cdv A outer s H vs Q E hr h => ?_)
  · obtain ⟨a, t, v, rfl, _⟩ := h; rfl
  · obtain ⟨a, t, v, rfl, hh⟩ := h
    exact ⟨_, pss_one (ps_ret (pe_call GG hr (by rfl) G.gl G.fn.kp G.bd .nil (fun pins σ H s e s' I h => passes_call (takes_of rfl rfl rfl rfl) (fun _ _ _ _ h => h) pins σ H s e s' I h) (pa_cons (pv 0) (pa_cons (pv 1) pa_nil)))), ⟨_, rfl, _, rfl, a, t, v, rfl, hh⟩⟩
theorem ok_rmul {f g : Addr} {fd fdG : FuncData} (F : Fun K "__rmul__" "Span.__rmul__" sRmul f fd) (G : Df K mg "repeated" sRep ["span", "count"] g fdG) (GG : FnOk P w K mg base (L2.CX P w) 6 g fdG ["span", "count"] (spProd CS CE)) :
    FnOk P w K mg base (L2.CX P w) 7 f fd ["self", "other"] (spProd CS CE) := by
  refine F.okX scRmul (fun vs H Q E h => ?_) (fun cdv A outer s H vs Q E hr h => ?_)
  · obtain ⟨a, t, v, rfl, _⟩ := h; rfl
  · obtain ⟨a, t, v, rfl, hh⟩ := h
    exact ⟨_, pss_one (ps_ret (pe_call GG hr (by rfl) G.gl G.fn.kp G.bd .nil (fun pins σ H s e s' I h => passes_call (takes_of rfl rfl rfl rfl) (fun _ _ _ _ h => h) pins σ H s e s' I h) (pa_cons (pv 0) (pa_cons (pv 1) pa_nil)))), ⟨_, rfl, _, rfl, a, t, v, rfl, hh⟩⟩
theorem scChk : FnScope ["other"] ["other"] (defScope sChk) := ⟨rfl, rfl, rfl, by decide +kernel, rfl, by decide +kernel, by decide +kernel⟩
theorem ok_chk {f : Addr} {fd : FuncData} (F : Fun K "check_span" "check_span" sChk f fd) (T : Txt P K mg CS CE fE) : FnOk P w K mg base CX0 1 f fd ["other"] (spChk CS) := by
  refine F.ok scChk (fun vs H Q E h => ?_) (fun cdv A outer s H vs Q E hr h => ?_)
  · obtain ⟨b, t, rfl, _⟩ := h; rfl
  · obtain ⟨b, t, rfl, hb, q⟩ := h
    refine ⟨_, pss_one (ps_if (pt_not (pt_val (pe_callB call_isi (by rfl) T.isi (by decide +kernel) (pa_cons (pv 0) (pa_cons (pe_glob (v := .ref CS) (by rfl) T.gS rfl) pa_nil))))) (pss_one psF) pss_nil), ?_⟩
    exact ⟨_, rfl, _, _, _, _, true, rfl, .own CS, span_ty T hb, T.kS, true, rfl, ifn rfl q⟩
theorem scBelow : FnScope ["span", "other"] ["span", "other"] (defScope sBelow) := ⟨rfl, rfl, rfl, by decide +kernel, rfl, by decide +kernel, by decide +kernel⟩
theorem ok_below {f : Addr} {fd : FuncData} (F : Fun K "is_below" "is_below" sBelow f fd) (T : Txt P K mg CS CE fE) : FnOk P w K mg base CX0 1 f fd ["span", "other"] (spCmp CS ltO) := by
  refine F.ok scBelow (fun vs H Q E h => ?_) (fun cdv A outer s H vs Q E hr h => ?_)
  · obtain ⟨a, b, s, t, rfl, _⟩ := h; rfl
  · obtain ⟨a, b, s, t, rfl, ha, hb, q⟩ := h
    obtain ⟨dx, fs, e, l⟩ := fld_ok ha
    obtain ⟨dy, gs, e2, l2⟩ := fld_ok hb
    refine ⟨_, pss_cons (ps_if (pt_cmpR op_isN (pe_fld (pv 0) rfl) pe_non (nomark _)) (pss_one (ps_ret pe_bl)) pss_nil)
      (pss_one (ps_ret (pe_or (pe_cmpR op_isN (pe_fld (pv 1) rfl) pe_non (nomark _)) (pe_one (pe_cmpR op_lt (pe_fld (pv 0) rfl) (pe_fld (pv 1) rfl) (nomark _)))))), ?_⟩
    refine ⟨_, rfl, a, CS, dx, fs, _, rfl, e, T.cl, T.nT, l, rfl, _, rfl, ?_⟩
    cases s with
    | none => exact ift rfl q
    | some i =>
      refine ifn (by simp [tv]) ?_
      refine ⟨_, rfl, b, CS, dy, gs, _, rfl, e2, T.cl, T.nT, l2, rfl, _, rfl, ?_⟩
      cases t with
      | none => exact ift rfl q
      | some j => exact ifn (by simp [tv]) ⟨_, rfl, a, CS, dx, fs, _, rfl, e, T.cl, T.nT, l, _, rfl, b, CS, dy, gs, _, rfl, e2, T.cl, T.nT, l2, i, j, rfl, rfl, q⟩
end
end K1

set_option maxHeartbeats 4000000
namespace K1
open PySem PySem.Spec PyProof.Rows L2 OwnO
section
variable {P : Program} {w : World} {K : PySem.W.Frag} {mg : Str → Option Value} {base : Heap} {CS CE fE : Addr}
theorem sc_lt : FnScope ["self", "other"] ["self", "other"] (defScope sLt) := ⟨rfl, rfl, rfl, by decide +kernel, rfl, by decide +kernel, by decide +kernel⟩
theorem ok_lt {f fC fB : Addr} {fd fdC fdB : FuncData} (F : Fun K "__lt__" "Span.__lt__" sLt f fd) (C : Df K mg "check_span" sChk ["other"] fC fdC) (B : Df K mg "is_below" sBelow ["span", "other"] fB fdB) (T : Txt P K mg CS CE fE) :
    FnOk P w K mg base CX0 2 f fd ["self", "other"] (spCmp CS fun s t => ltO s t) := by
  have GC : FnOk P w K mg base CX0 1 fC fdC ["other"] (spChk CS) := ok_chk C.fn T
  have GB : FnOk P w K mg base CX0 1 fB fdB ["span", "other"] (spCmp CS ltO) := ok_below B.fn T
  refine F.ok sc_lt (fun vs H Q E h => ?_) (fun cdv A outer s H vs Q E hr h => ?_)
  · obtain ⟨a, b, s, t, rfl, _⟩ := h; rfl
  · obtain ⟨a, b, s, t, rfl, ha, hb, q⟩ := h
    exact ⟨_, pss_cons (ps_expr (pe_call GC hr (by rfl) C.gl C.fn.kp C.bd .nil pass0 (pa_cons (pv 1) pa_nil))) (pss_one (ps_ret (pe_call GB hr (by rfl) B.gl B.fn.kp B.bd .nil pass0 (pa_cons (pv 0) (pa_cons (pv 1) pa_nil))))),
      ⟨_, rfl, b, t, rfl, hb, _, rfl, _, rfl, a, b, s, t, rfl, ha, hb, q⟩⟩
theorem sc_le : FnScope ["self", "other"] ["self", "other"] (defScope sLe) := ⟨rfl, rfl, rfl, by decide +kernel, rfl, by decide +kernel, by decide +kernel⟩
theorem ok_le {f fC fB : Addr} {fd fdC fdB : FuncData} (F : Fun K "__le__" "Span.__le__" sLe f fd) (C : Df K mg "check_span" sChk ["other"] fC fdC) (B : Df K mg "is_below" sBelow ["span", "other"] fB fdB) (T : Txt P K mg CS CE fE) :
    FnOk P w K mg base CX0 2 f fd ["self", "other"] (spCmp CS fun s t => !ltO t s) := by
  have GC : FnOk P w K mg base CX0 1 fC fdC ["other"] (spChk CS) := ok_chk C.fn T
  have GB : FnOk P w K mg base CX0 1 fB fdB ["span", "other"] (spCmp CS ltO) := ok_below B.fn T
  refine F.ok sc_le (fun vs H Q E h => ?_) (fun cdv A outer s H vs Q E hr h => ?_)
  · obtain ⟨a, b, s, t, rfl, _⟩ := h; rfl
  · obtain ⟨a, b, s, t, rfl, ha, hb, q⟩ := h
    exact ⟨_, pss_cons (ps_expr (pe_call GC hr (by rfl) C.gl C.fn.kp C.bd .nil pass0 (pa_cons (pv 1) pa_nil))) (pss_one (ps_ret (pe_not (pe_call GB hr (by rfl) B.gl B.fn.kp B.bd .nil pass0 (pa_cons (pv 1) (pa_cons (pv 0) pa_nil)))))),
      ⟨_, rfl, b, t, rfl, hb, _, rfl, _, rfl, b, a, t, s, rfl, hb, ha, _, rfl, q⟩⟩
theorem sc_gt : FnScope ["self", "other"] ["self", "other"] (defScope sGt) := ⟨rfl, rfl, rfl, by decide +kernel, rfl, by decide +kernel, by decide +kernel⟩
theorem ok_gt {f fC fB : Addr} {fd fdC fdB : FuncData} (F : Fun K "__gt__" "Span.__gt__" sGt f fd) (C : Df K mg "check_span" sChk ["other"] fC fdC) (B : Df K mg "is_below" sBelow ["span", "other"] fB fdB) (T : Txt P K mg CS CE fE) :
    FnOk P w K mg base CX0 2 f fd ["self", "other"] (spCmp CS fun s t => ltO t s) := by
  have GC : FnOk P w K mg base CX0 1 fC fdC ["other"] (spChk CS) := ok_chk C.fn T
  have GB : FnOk P w K mg base CX0 1 fB fdB ["span", "other"] (spCmp CS ltO) := ok_below B.fn T
  refine F.ok sc_gt (fun vs H Q E h => ?_) (fun cdv A outer s H vs Q E hr h => ?_)
  · obtain ⟨a, b, s, t, rfl, _⟩ := h; rfl
  · obtain ⟨a, b, s, t, rfl, ha, hb, q⟩ := h
    exact ⟨_, pss_cons (ps_expr (pe_call GC hr (by rfl) C.gl C.fn.kp C.bd .nil pass0 (pa_cons (pv 1) pa_nil))) (pss_one (ps_ret (pe_call GB hr (by rfl) B.gl B.fn.kp B.bd .nil pass0 (pa_cons (pv 1) (pa_cons (pv 0) pa_nil))))),
      ⟨_, rfl, b, t, rfl, hb, _, rfl, _, rfl, b, a, t, s, rfl, hb, ha, q⟩⟩
theorem sc_ge : FnScope ["self", "other"] ["self", "other"] (defScope sGe) := ⟨rfl, rfl, rfl, by decide +kernel, rfl, by decide +kernel, by decide +kernel⟩
theorem ok_ge {f fC fB : Addr} {fd fdC fdB : FuncData} (F : Fun K "__ge__" "Span.__ge__" sGe f fd) (C : Df K mg "check_span" sChk ["other"] fC fdC) (B : Df K mg "is_below" sBelow ["span", "other"] fB fdB) (T : Txt P K mg CS CE fE) :
    FnOk P w K mg base CX0 2 f fd ["self", "other"] (spCmp CS fun s t => !ltO s t) := by
  have GC : FnOk P w K mg base CX0 1 fC fdC ["other"] (spChk CS) := ok_chk C.fn T
  have GB : FnOk P w K mg base CX0 1 fB fdB ["span", "other"] (spCmp CS ltO) := ok_below B.fn T
  refine F.ok sc_ge (fun vs H Q E h => ?_) (fun cdv A outer s H vs Q E hr h => ?_)
  · obtain ⟨a, b, s, t, rfl, _⟩ := h; rfl
  · obtain ⟨a, b, s, t, rfl, ha, hb, q⟩ := h
    exact ⟨_, pss_cons (ps_expr (pe_call GC hr (by rfl) C.gl C.fn.kp C.bd .nil pass0 (pa_cons (pv 1) pa_nil))) (pss_one (ps_ret (pe_not (pe_call GB hr (by rfl) B.gl B.fn.kp B.bd .nil pass0 (pa_cons (pv 0) (pa_cons (pv 1) pa_nil)))))),
      ⟨_, rfl, b, t, rfl, hb, _, rfl, _, rfl, a, b, s, t, rfl, ha, hb, _, rfl, q⟩⟩
theorem scEq : FnScope ["self", "other"] ["self", "other"] (defScope sEq) := ⟨rfl, rfl, rfl, by decide +kernel, rfl, by decide +kernel, by decide +kernel⟩
theorem tv_eq (s t : Option Int) : scal (tv s) (tv t) = true ∧ decide (tv s = tv t) = decide (s = t) := by
  cases s <;> cases t <;> simp [tv, scal]
theorem ok_eq {f : Addr} {fd : FuncData} (F : Fun K "__eq__" "Span.__eq__" sEq f fd) (T : Txt P K mg CS CE fE) : FnOk P w K mg base CX0 1 f fd ["self", "other"] (spEq CS) := by
  refine F.ok scEq (fun vs H Q E h => ?_) (fun cdv A outer s H vs Q E hr h => ?_)
  · obtain ⟨a, s, v, rfl, _⟩ := h; rfl
  · obtain ⟨a, s, v, rfl, ha, q⟩ := h
    obtain ⟨dx, fs, e, l⟩ := fld_ok ha
    refine ⟨_, pss_one (ps_ret (pe_and (pe_callB call_isi (by rfl) T.isi (by decide +kernel) (pa_cons (pv 1) (pa_cons (pe_glob (v := .ref CS) (by rfl) T.gS rfl) pa_nil)))
      (pe_one (pe_cmpR op_eq (pe_fld (pv 0) rfl) (pe_fld (pv 1) rfl) (nomark _))))), ?_⟩
    rcases q with ⟨b, t, rfl, hb, q⟩ | ⟨k, q⟩
    · obtain ⟨dy, gs, e2, l2⟩ := fld_ok hb
      refine ⟨_, rfl, _, _, _, _, true, rfl, .own CS, span_ty T hb, T.kS, true, rfl, ift rfl ?_⟩
      refine ⟨_, rfl, a, CS, dx, fs, _, rfl, e, T.cl, T.nT, l, _, rfl, b, CS, dy, gs, _, rfl, e2, T.cl, T.nT, l2, (tv_eq s t).1, ?_⟩
      rw [(tv_eq s t).2]; exact q
    · obtain ⟨U, hU⟩ := Option.isSome_iff_exists.mp k
      exact ⟨_, rfl, _, _, _, _, false, rfl, .own CS, plain_ty hU, plain_kit T hU, false, rfl, ifn rfl q⟩
/-! ### greatest -/
/-- a span that is there, or None -/
abbrev Y := Option (Addr × Option Int)
def yv : Y → V | none => .non | some (a, _) => .ref a
def YOk (CS : Addr) (H : Hp) (y : Y) : Prop := ∀ a t, y = some (a, t) → SpAt CS H a t
def better (best y : Y) : Y := match best, y with
  | none, y => y
  | some b, none => some b
  | some (b, s), some (a, t) => if ltO s t = true then some (a, t) else some (b, s)
def spGreat (K : PySem.W.Frag) (CS : Addr) : Sp := fun vs H Q _ => ∃ (l : Addr) (ys : List Y), vs = [.ref l] ∧ SqL K H l (ys.map yv) ∧ (∀ y ∈ ys, YOk CS H y) ∧ ∀ H', Same H H' → Q (yv (ys.foldl better none)) H'
theorem scGreat : FnScope ["spans", "best", "span"] ["spans"] (defScope sGreat) := ⟨rfl, rfl, rfl, by decide +kernel, rfl, by decide +kernel, by decide +kernel⟩
theorem better_ok {CS : Addr} {H : Hp} {b y : Y} (hb : YOk CS H b) (hy : YOk CS H y) : YOk CS H (better b y) := by
  unfold better
  split
  · exact hy
  · exact hb
  · split
    · exact hy
    · exact hb
/-- what the operators of Span ask of the text -/
structure Ops (K : PySem.W.Frag) (CS : Addr) : Prop where
  sf : PySem.W.selfFirst K CS = true
  nf : PySem.W.notFirst K CS (.ref CS) = true
  ne : PySem.W.findIn K (.ref CS) "__ne__" = some (some (.builtin "object.__ne__"))
  ob : PySem.W.mroIn K CS (.type "object") = some true
theorem ok_great {f fL fC fB : Addr} {fd fdL fdC fdB : FuncData} (F : Fun K "greatest" "greatest" sGreat f fd) (T : Txt P K mg CS CE fE) (O : Ops K CS) (C : Df K mg "check_span" sChk ["other"] fC fdC) (B : Df K mg "is_below" sBelow ["span", "other"] fB fdB)
    (L : Me K CS "__lt__" "Span.__lt__" sLt ["self", "other"] fL fdL) : FnOk P w K mg base CX0 3 f fd ["spans"] (spGreat K CS) := by
  have GL : FnR P w K mg base CX0 2 fL (spCmp CS fun s t => ltO s t) := ((ok_lt L.fn C B T).raw L.bd .nil).imp fun vs H Q E h => by rw [List.append_nil]; exact h
  refine F.ok scGreat (fun vs H Q E h => ?_) (fun cdv A outer s H vs Q E hr h => ?_)
  · obtain ⟨l, ys, rfl, _⟩ := h; rfl
  · obtain ⟨l, ys, rfl, hl, hy, q⟩ := h
    refine ⟨_, pss_cons (ps_set (i := 1) scGreat.nd rfl (Or.inl rfl) pe_non) (pss_cons (ps_for PassesOwn.never rfl (pi_list (pv 0)) (pg_name (i := 2) scGreat.nd rfl (Or.inl rfl))
      (pss_one (ps_if (PW.pt (pw_or (pt_cmpR op_isN (pv 1) pe_non (nomark _)) (pw_or1 (PW.pt (pw_and (pt_cmpR op_notN (pv 2) pe_non (nomark _))
        (pw_and1 (pt_cmpR (oc_same (op := .Lt) (fun _ _ => rfl) L.at_ L.isf O.nf GL hr pass0) (pv 1) (pv 2) (nomark _)))))))) (pss_one (ps_set (i := 1) scGreat.nd rfl (Or.inl rfl) (pv 2))) pss_nil)))
      (pss_one (ps_ret (pv 1)))), ?_⟩
    refine ⟨_, rfl, l, rfl, ⟨_, hl⟩, for_list (K := K) (a := l) (xs := ys.map yv) (fun i σ H' => Same H H' ∧ YOk CS H ((ys.take i).foldl better none) ∧ ∃ v : Option V, σ = [some (.ref l), some (yv ((ys.take i).foldl better none)), v])
      ⟨Same.refl H, (fun a t e => by cases e), none, rfl⟩ (fun i σ H' _ ⟨s0, _⟩ => s0.seq hl) ?_ ?_⟩
    · rintro i y σ H' hi ⟨s0, hb, v, rfl⟩
      obtain ⟨z, hz, rfl⟩ : ∃ z, ys[i]? = some z ∧ y = yv z := by
        rw [List.getElem?_map] at hi
        cases e : ys[i]? with
        | none => rw [e] at hi; cases hi
        | some z => rw [e] at hi; exact ⟨z, rfl, (Option.some.inj hi).symm⟩
      have hzm : z ∈ ys := List.mem_of_getElem? hz
      have hyz := hy z hzm
      have step : (ys.take (i + 1)).foldl better none = better ((ys.take i).foldl better none) z := by
        rw [List.take_add_one, hz, List.foldl_append]; rfl
      have hnext := better_ok hb hyz
      rw [← step] at hnext
      generalize hbe : (ys.take i).foldl better none = best at *
      rw [step] at hnext ⊢
      have keep : ∀ u : V, u = yv (better best z) → _ := fun u hu => (⟨s0, hnext, some (yv z), by rw [hu]⟩ : Same H H' ∧ YOk CS H (better best z) ∧ ∃ v : Option V, [some (V.ref l), some u, some (yv z)] = [some (.ref l), some (yv (better best z)), v])
      refine ⟨_, rfl, rfl, _, rfl, ?_⟩
      cases best with
      | none => exact ift rfl (ift rfl ⟨_, rfl, keep _ rfl⟩)
      | some bs =>
        obtain ⟨b, s1⟩ := bs
        refine ifn (by simp [yv]) ?_
        refine ⟨_, rfl, rfl, _, rfl, ?_⟩
        cases z with
        | none => exact ifn (by simp [yv]) (ifn rfl (keep _ rfl))
        | some at_ =>
          obtain ⟨a, t⟩ := at_
          refine ift (by simp [yv]) ?_
          have ha := (hyz a t rfl).same s0
          have hb' := (hb b s1 rfl).same s0
          obtain ⟨_, dx, e1⟩ := id ha
          obtain ⟨_, dy, e2⟩ := id hb'
          refine ⟨_, rfl, _, rfl, b, dy, _, a, dx, _, rfl, rfl, e2, e1, b, a, s1, t, rfl, hb', ha, _, rfl, ?_⟩
          cases hlt : ltO s1 t with
          | true => exact ift hlt ⟨_, rfl, keep _ (by unfold better; simp [hlt, yv])⟩
          | false => exact ifn hlt (keep _ (by unfold better; simp [hlt, yv]))
    · rintro σ H' ⟨s0, hb, v, rfl⟩
      rw [List.length_map, List.take_length]
      exact ⟨_, rfl, q H' s0⟩
end
end K1

set_option maxHeartbeats 4000000
namespace K1
open PySem PySem.Spec PyProof.Rows L2 OwnO
abbrev sPool : Stmt := top 14
abbrev sDraw : Stmt := top 15
abbrev sChoose : Stmt := top 16
abbrev sLSpan : Stmt := top 17
abbrev sSum : Stmt := top 18
abbrev sTimes : Stmt := top 19
abbrev sLess : Stmt := top 20
abbrev sIs : Stmt := top 21
abbrev sRef : Stmt := top 22
abbrev sOrd : Stmt := top 23
abbrev sLGreat : Stmt := top 24
abbrev sLaw : Stmt := top 25
/-- a pool at p -/
def PoolAt (H : Hp) (p : Addr) : Prop := ∃ c s : Int, H p = some (.lst [.int c, .int s])
def spPool (K : PySem.W.Frag) : Sp := fun vs H Q _ => ∃ (a : Addr) (ns : List Int) (k : Nat), vs = [.ref a, .int k] ∧ SqL K H a (ns.map V.int) ∧ k ≤ 5 ∧ ∀ p H', Same H H' → H p = none → PoolAt H' p → Q (.ref p) H'
/-- but for the pool at p all stands -/
def But (p : Addr) (H H' : Hp) : Prop := (∀ b o, b ≠ p → H b = some o → H' b = some o) ∧ PoolAt H' p
def spDraw : Sp := fun vs H Q _ => ∃ (p : Addr) (m : Int), vs = [.ref p, .int m] ∧ PoolAt H p ∧ 0 < m ∧ m < 1073741824 ∧ ∀ d H', 0 ≤ d → d < m → But p H H' → Q (.int d) H'
def spChoose : Sp := fun vs H Q _ => ∃ (p l : Addr) (xs : List V), vs = [.ref p, .ref l] ∧ PoolAt H p ∧ H l = some (.lst xs) ∧ l ≠ p ∧ 0 < xs.length ∧ xs.length ≤ 100 ∧ ∀ v ∈ xs, ∀ H', But p H H' → Q v H'
structure LTxt (mg : Str → Option Value) : Prop where
  len : mg "len" = none
  int : mg "int" = none
section
variable {P : Program} {w : World} {K : PySem.W.Frag} {mg : Str → Option Value} {base : Heap} {CS CE fE : Addr}
theorem scPool : FnScope ["script", "k", "cell", "seed"] ["script", "k"] (defScope sPool) := ⟨rfl, rfl, rfl, by decide +kernel, rfl, by decide +kernel, by decide +kernel⟩
theorem ok_pool {f : Addr} {fd : FuncData} (F : Fun K "_law_pool" "_law_pool" sPool f fd) (T : LTxt mg) : FnOk P w K mg base CX0 1 f fd ["script", "k"] (spPool K) := by
  refine F.ok scPool (fun vs H Q E h => ?_) (fun cdv A outer s H vs Q E hr h => ?_)
  · obtain ⟨a, ns, k, rfl, _⟩ := h; rfl
  · obtain ⟨a, ns, k, rfl, hl, hk, q⟩ := h
    refine ⟨_, pss_cons (ps_set (i := 2) scPool.nd rfl (Or.inl rfl) pe_int)
      (pss_cons (ps_if (pt_cmpR op_lt (pv 1) (pe_callB call_len_seq (by rfl) T.len PySem.boot_len (pa_cons (pv 0) pa_nil)) (nomark _)) (pss_one (ps_set (i := 2) scPool.nd rfl (Or.inl rfl) (pe_ix ix_list (pv 0) (pv 1) (fun _ _ => rfl)))) pss_nil)
      (pss_cons (ps_set (i := 3) scPool.nd rfl (Or.inl rfl) (pe_op op_mod (pe_op op_pow (pe_op op_add (pe_op op_add (pe_op op_mod (pe_callTy call_int1 (by rfl) T.int (by decide +kernel) (pa_cons (pv 2) pa_nil)) pe_int) (pe_op op_mul (pe_op op_mul pe_int (pv 1)) (pv 1))) pe_int) pe_int) pe_int))
      (pss_cons (ps_if (pt_cmpR op_lt (pv 2) (pe_op op_pow pe_int pe_int) (nomark _)) (pss_one (ps_set (i := 2) scPool.nd rfl (Or.inl rfl) pe_int)) pss_nil)
      (pss_one (ps_ret (pe_lst (pa_cons (pv 2) (pa_cons (pv 3) pa_nil)))))))), ?_⟩
    have small : ∀ c : Int, CPow (c % 2147483629 + 7919 * (k : Int) * (k : Int) + 31) 3 := fun c => by
      have h1 := Int.emod_nonneg c (show (2147483629 : Int) ≠ 0 by decide)
      have h2 := Int.emod_lt_of_pos c (show (0 : Int) < 2147483629 by decide)
      generalize c % 2147483629 = r at *
      refine ⟨by decide, by decide, ?_⟩
      rcases (by omega : k = 0 ∨ k = 1 ∨ k = 2 ∨ k = 3 ∨ k = 4 ∨ k = 5) with rfl | rfl | rfl | rfl | rfl | rfl <;> omega
    refine ⟨_, rfl, _, rfl, a, _, rfl, .inl hl, _, _, rfl, rfl, _, rfl, ?_⟩
    by_cases hlt : (k : Int) < ((ns.map V.int).length : Int)
    · obtain ⟨c, hc⟩ : ∃ c, (ns.map V.int)[k]? = some (V.int c) := by
        rw [List.length_map] at hlt
        have hk' : k < ns.length := by omega
        exact ⟨ns[k], by rw [List.getElem?_map, List.getElem?_eq_getElem hk']; rfl⟩
      refine ift (decide_eq_true hlt) ⟨_, rfl, _, rfl, a, _, _, _, rfl, rfl, hl, atI_nat hc, ?_⟩
      refine ⟨_, rfl, .inl ⟨_, rfl, _, _, rfl, rfl, (by decide : (0 : Int) < 2147483629), _, rfl, _, _, rfl, rfl, .inl (by decide), _, rfl, _, _, rfl, rfl, .inr (by omega), _, _, rfl, rfl, _, _, rfl, rfl, _, _, rfl, rfl, small c, _, _, rfl, rfl, (by decide : (0 : Int) < 2147483647), ?_⟩⟩
      refine ⟨_, rfl, _, _, rfl, rfl, ⟨by decide, by decide, by decide⟩, _, _, rfl, rfl, _, rfl, ite2 (fun _ => ?_) (fun _ => ?_)⟩
      · exact ⟨_, rfl, _, rfl, (by show 2 ≤ sizeLine; decide), fun p hp => q p _ (fun b o e => by rw [upd_ne (ne_of_none e hp)]; exact e) hp ⟨_, _, upd_same⟩⟩
      · exact ⟨_, rfl, _, rfl, (by show 2 ≤ sizeLine; decide), fun p hp => q p _ (fun b o e => by rw [upd_ne (ne_of_none e hp)]; exact e) hp ⟨_, _, upd_same⟩⟩
    · refine ifn (decide_eq_false hlt) ?_
      refine ⟨_, rfl, .inl ⟨_, rfl, _, _, rfl, rfl, (by decide : (0 : Int) < 2147483629), _, rfl, _, _, rfl, rfl, .inl (by decide), _, rfl, _, _, rfl, rfl, .inr (by omega), _, _, rfl, rfl, _, _, rfl, rfl, _, _, rfl, rfl, small 0, _, _, rfl, rfl, (by decide : (0 : Int) < 2147483647), ?_⟩⟩
      refine ⟨_, rfl, _, _, rfl, rfl, ⟨by decide, by decide, by decide⟩, _, _, rfl, rfl, _, rfl, ite2 (fun _ => ?_) (fun _ => ?_)⟩
      · exact ⟨_, rfl, _, rfl, (by show 2 ≤ sizeLine; decide), fun p hp => q p _ (fun b o e => by rw [upd_ne (ne_of_none e hp)]; exact e) hp ⟨_, _, upd_same⟩⟩
      · exact ⟨_, rfl, _, rfl, (by show 2 ≤ sizeLine; decide), fun p hp => q p _ (fun b o e => by rw [upd_ne (ne_of_none e hp)]; exact e) hp ⟨_, _, upd_same⟩⟩
theorem scDraw : FnScope ["pool", "many", "digit"] ["pool", "many"] (defScope sDraw) := ⟨rfl, rfl, rfl, by decide +kernel, rfl, by decide +kernel, by decide +kernel⟩
theorem ok_draw {f : Addr} {fd : FuncData} (F : Fun K "_law_draw" "_law_draw" sDraw f fd) (T : LTxt mg) : FnOk P w K mg base CX0 1 f fd ["pool", "many"] spDraw := by
  refine F.ok scDraw (fun vs H Q E h => ?_) (fun cdv A outer s H vs Q E hr h => ?_)
  · obtain ⟨p, m, rfl, _⟩ := h; rfl
  · obtain ⟨p, m, rfl, ⟨c, s, hp⟩, hm, hm2, q⟩ := h
    refine ⟨_, pss_cons (ps_if (pt_cmpR op_gt (pe_ix ix_list (pv 0) pe_int (fun _ _ => rfl)) pe_int (nomark _))
        (pss_cons (ps_set (i := 2) scDraw.nd rfl (Or.inl rfl) (pe_op op_mod (pe_callTy call_int1 (by rfl) T.int (by decide +kernel) (pa_cons (pe_ix ix_list (pv 0) pe_int (fun _ _ => rfl)) pa_nil)) (pv 1)))
        (pss_cons (ps_asg (pe_op op_fdiv (pe_ix ix_list (pv 0) pe_int (fun _ _ => rfl)) (pv 1)) (pg_sub (pv 0) pe_int set_list)) (pss_one (ps_ret (pv 2))))) pss_nil)
      (pss_cons (ps_asg (pe_op op_mod (pe_callTy call_int1 (by rfl) T.int (by decide +kernel) (pa_cons (pe_op op_add (pe_op op_mul (pe_ix ix_list (pv 0) pe_int (fun _ _ => rfl)) pe_int) pe_int) pa_nil)) pe_int) (pg_sub (pv 0) pe_int set_list))
      (pss_one (ps_ret (pe_op op_mod (pe_op op_fdiv (pe_op op_mod (pe_callTy call_int1 (by rfl) T.int (by decide +kernel) (pa_cons (pe_op op_mul (pe_ix ix_list (pv 0) pe_int (fun _ _ => rfl)) (pe_ix ix_list (pv 0) pe_int (fun _ _ => rfl))) pa_nil)) pe_int) pe_int) (pv 1))))), ?_⟩
    have at0 : ∀ {x y : V}, atI [x, y] (0 : Int) = some x := fun {x y} => atI_nat (j := 0) rfl
    have at1 : ∀ {x y : V}, atI [x, y] (1 : Int) = some y := fun {x y} => atI_nat (j := 1) rfl
    refine ⟨_, rfl, p, _, _, _, rfl, rfl, SqL.of hp, at0, _, _, rfl, rfl, _, rfl, ite2 (fun _ => ?_) (fun _ => ?_)⟩
    · refine ⟨_, rfl, p, _, _, _, rfl, rfl, SqL.of hp, at0, .inl ⟨_, rfl, _, rfl, _, _, rfl, rfl, hm, ?_⟩⟩
      refine ⟨_, rfl, p, _, _, _, rfl, rfl, SqL.of hp, at0, _, rfl, _, _, rfl, rfl, ⟨hm, hm2⟩, _, rfl, p, _, _, 0, rfl, rfl, hp, rfl, ?_⟩
      exact ⟨_, rfl, q _ _ (Int.emod_nonneg _ (by omega)) (Int.emod_lt_of_pos _ hm) ⟨fun b o hb e => by rw [upd_ne hb]; exact e, ⟨_, _, upd_same⟩⟩⟩
    · refine ⟨_, rfl, p, _, _, _, rfl, rfl, SqL.of hp, at1, _, _, rfl, rfl, .inr (by decide), _, _, rfl, rfl, .inl ⟨_, rfl, _, _, rfl, rfl, (by decide : (0 : Int) < 2147483647), ?_⟩⟩
      refine ⟨_, rfl, p, _, _, 1, rfl, rfl, hp, rfl, ?_⟩
      have h1 := Int.emod_nonneg (s * 48271 + 11) (show (2147483647 : Int) ≠ 0 by decide)
      have h2 := Int.emod_lt_of_pos (s * 48271 + 11) (show (0 : Int) < 2147483647 by decide)
      refine ⟨_, rfl, p, _, _, _, rfl, rfl, SqL.of upd_same, at1, _, rfl, p, _, _, _, rfl, rfl, SqL.of upd_same, at1, _, _, rfl, rfl, .inl ⟨by omega, by omega⟩, .inl ⟨_, rfl, _, _, rfl, rfl, (by decide : (0 : Int) < 2147483629), _, _, rfl, rfl, ⟨by decide, by decide⟩, _, rfl, _, _, rfl, rfl, hm, ?_⟩⟩
      exact q _ _ (Int.emod_nonneg _ (by omega)) (Int.emod_lt_of_pos _ hm) ⟨fun b o hb e => by rw [upd_ne hb]; exact e, ⟨_, _, upd_same⟩⟩
end
end K1

set_option maxHeartbeats 4000000
namespace K1
open PySem PySem.Spec PyProof.Rows L2 OwnO
def spLSpan (CS : Addr) : Sp := fun vs H Q _ => ∃ t, vs = [tv t] ∧ NN t ∧ New CS H t Q
def spSumT : Sp := fun vs H Q _ => ∃ s t, vs = [tv s, tv t] ∧ Q (tv (addO s t)) H
def spTimes : Sp := fun vs H Q _ => ∃ s n, vs = [tv s, .int n] ∧ 0 ≤ n ∧ n < 2 ^ 64 ∧ Q (tv (mulO s n)) H
def spLess : Sp := fun vs H Q _ => ∃ s t, vs = [tv s, tv t] ∧ Q (.bl (ltO s t)) H
def spIs (CS : Addr) : Sp := fun vs H Q _ => ∃ a t, vs = [.ref a, tv t] ∧ SpAt CS H a t ∧ Q (.bl true) H
def bt : Option (Option Int) → Option Int → Option (Option Int)
  | none, t => some t
  | some b, t => if ltO b t = true then some t else some b
theorem bt_t {b t : Option Int} (h : ltO b t = true) : bt (some b) t = some t := if_pos h
theorem bt_f {b t : Option Int} (h : ltO b t = false) : bt (some b) t = some b := if_neg (by rw [h]; exact Bool.false_ne_true)
def spLGreat (K : PySem.W.Frag) : Sp := fun vs H Q _ => ∃ (l : Addr) (ts : List (Option Int)), vs = [.ref l] ∧ SqL K H l (ts.map tv) ∧ ts ≠ [] ∧ ∀ b p H', ts.foldl bt none = some b → Same H H' → H' p = some (.lst [tv b]) → Q (.ref p) H'
section
variable {P : Program} {w : World} {K : PySem.W.Frag} {mg : Str → Option Value} {base : Heap} {CS CE fE : Addr}
theorem scChoose : FnScope ["pool", "items"] ["pool", "items"] (defScope sChoose) := ⟨rfl, rfl, rfl, by decide +kernel, rfl, by decide +kernel, by decide +kernel⟩
theorem ok_choose {f g : Addr} {fd fdG : FuncData} (F : Fun K "_law_choose" "_law_choose" sChoose f fd) (T : LTxt mg) (D : Df K mg "_law_draw" sDraw ["pool", "many"] g fdG) : FnOk P w K mg base CX0 2 f fd ["pool", "items"] spChoose := by
  have GD : FnOk P w K mg base CX0 1 g fdG ["pool", "many"] spDraw := ok_draw D.fn T
  refine F.ok scChoose (fun vs H Q E h => ?_) (fun cdv A outer s H vs Q E hr h => ?_)
  · obtain ⟨p, l, xs, rfl, _⟩ := h; rfl
  · obtain ⟨p, l, xs, rfl, hp, hl, hlp, h0, h1, q⟩ := h
    refine ⟨_, pss_one (ps_ret (pe_ix ix_list (pv 1) (pe_call GD hr (by rfl) D.gl D.fn.kp D.bd .nil pass0 (pa_cons (pv 0) (pa_cons (pe_callB call_len_seq (by rfl) T.len PySem.boot_len (pa_cons (pv 1) pa_nil)) pa_nil))) (fun _ _ => rfl))), ?_⟩
    refine ⟨_, rfl, _, rfl, _, rfl, l, _, rfl, .inl (SqL.of hl), p, _, rfl, hp, by omega, by omega, fun d H' d0 d1 bt => ?_⟩
    have hd : d.toNat < xs.length := by omega
    have e : xs[d.toNat]? = some xs[d.toNat] := List.getElem?_eq_getElem hd
    have ea : atI xs d = some xs[d.toNat] := by
      have z := atI_nat e
      rwa [Int.toNat_of_nonneg d0] at z
    exact ⟨l, xs, d, _, rfl, rfl, SqL.of (bt.1 l _ hlp hl), ea, q _ (List.getElem_mem hd) H' bt⟩
theorem scLSpan : FnScope ["time"] ["time"] (defScope sLSpan) := ⟨rfl, rfl, rfl, by decide +kernel, rfl, by decide +kernel, by decide +kernel⟩
theorem ok_lspan {f fI fN p : Addr} {mc : Value} {fd fdI fdN : FuncData} (F : Fun K "_law_span" "_law_span" sLSpan f fd) (T : Txt P K mg CS CE fE)
    (M : Mk K CS fI) (bI : Binds K fdI ["self", "time"] []) (GI : FnOk P w K mg base (L2.CX P w) 3 fI fdI ["self", "time"] (spSInit CS CE)) (S : SMet K CS mc "endless" p fN) (bN : Binds K fdN [] []) (GN : FnOk P w K mg base CX0 5 fN fdN [] (spEndless CS)) :
    FnOk P w K mg base CX0 6 f fd ["time"] (spLSpan CS) := by
  have RN : FnR P w K mg base CX0 5 fN (spEndless CS) := (GN.raw bN .nil).imp fun vs H Q E h => by rw [List.append_nil]; exact h
  refine F.ok scLSpan (fun vs H Q E h => ?_) (fun cdv A outer s H vs Q E hr h => ?_)
  · obtain ⟨t, rfl, _⟩ := h; rfl
  · obtain ⟨t, rfl, hn, k⟩ := h
    refine ⟨_, pss_cons (ps_if (pt_cmpR op_isN (pv 0) pe_non (nomark _)) (pss_one (ps_ret (pe_stat0 S (by rfl) T.gS RN hr pass0))) pss_nil) (pss_one (ps_ret (pe_make M GI (hr.mono (by decide)) (by rfl) T.gS bI .nil passL (pa_cons (pv 0) pa_nil)))), ?_⟩
    refine ⟨_, rfl, rfl, _, rfl, ?_⟩
    cases t with
    | none => exact ift rfl ⟨rfl, k⟩
    | some i => exact ifn (by simp [tv]) ⟨_, rfl, fun x dx nx nd ne => mk_good (t := some i) hn k x dx nx nd ne⟩
theorem scSum : FnScope ["one", "other"] ["one", "other"] (defScope sSum) := ⟨rfl, rfl, rfl, by decide +kernel, rfl, by decide +kernel, by decide +kernel⟩
theorem ok_sum {f : Addr} {fd : FuncData} (F : Fun K "_law_sum" "_law_sum" sSum f fd) : FnOk P w K mg base CX0 1 f fd ["one", "other"] spSumT := by
  refine F.ok scSum (fun vs H Q E h => ?_) (fun cdv A outer s H vs Q E hr h => ?_)
  · obtain ⟨a, b, rfl, _⟩ := h; rfl
  · obtain ⟨a, b, rfl, q⟩ := h
    refine ⟨_, pss_cons (ps_if (PW.pt (pw_or (pt_cmpR op_isN (pv 0) pe_non (nomark _)) (pw_or1 (pt_cmpR op_isN (pv 1) pe_non (nomark _))))) (pss_one (ps_ret pe_non)) pss_nil) (pss_one (ps_ret (pe_op op_add (pv 0) (pv 1)))), ?_⟩
    refine ⟨_, rfl, rfl, _, rfl, ?_⟩
    cases a with
    | none => exact ift rfl (ift rfl q)
    | some i =>
      refine ifn (by simp [tv]) ⟨_, rfl, rfl, _, rfl, ?_⟩
      cases b with
      | none => exact ift rfl q
      | some j => exact ifn (by simp [tv]) ⟨_, rfl, _, rfl, i, j, rfl, rfl, q⟩
theorem scTimes : FnScope ["one", "n"] ["one", "n"] (defScope sTimes) := ⟨rfl, rfl, rfl, by decide +kernel, rfl, by decide +kernel, by decide +kernel⟩
theorem ok_times {f : Addr} {fd : FuncData} (F : Fun K "_law_times" "_law_times" sTimes f fd) : FnOk P w K mg base CX0 1 f fd ["one", "n"] spTimes := by
  refine F.ok scTimes (fun vs H Q E h => ?_) (fun cdv A outer s H vs Q E hr h => ?_)
  · obtain ⟨a, n, rfl, _⟩ := h; rfl
  · obtain ⟨a, n, rfl, n0, n1, q⟩ := h
    refine ⟨_, pss_cons (ps_if (pt_cmpR op_eq (pv 1) pe_int (nomark _)) (pss_one (ps_ret pe_int)) pss_nil) (pss_one (ps_ret (pe_ifExp (pt_cmpR op_isN (pv 0) pe_non (nomark _)) pe_non (pe_op op_mul (pv 0) (pv 1))))), ?_⟩
    refine ⟨_, rfl, rfl, _, rfl, ?_⟩
    unfold mulO at q
    by_cases h0 : n = 0
    · subst h0
      rw [if_pos rfl] at q
      exact ift (by simp) q
    · rw [if_neg h0] at q
      refine ifn (by simp [h0]) ⟨_, rfl, rfl, _, rfl, ?_⟩
      cases a with
      | none => exact ift rfl q
      | some i => exact ifn (by simp [tv]) ⟨_, rfl, _, rfl, i, n, rfl, rfl, .inr ⟨by omega, by omega⟩, q⟩
theorem scLess : FnScope ["one", "other"] ["one", "other"] (defScope sLess) := ⟨rfl, rfl, rfl, by decide +kernel, rfl, by decide +kernel, by decide +kernel⟩
theorem ok_less {f : Addr} {fd : FuncData} (F : Fun K "_law_less" "_law_less" sLess f fd) : FnOk P w K mg base CX0 1 f fd ["one", "other"] spLess := by
  refine F.ok scLess (fun vs H Q E h => ?_) (fun cdv A outer s H vs Q E hr h => ?_)
  · obtain ⟨a, b, rfl, _⟩ := h; rfl
  · obtain ⟨a, b, rfl, q⟩ := h
    refine ⟨_, pss_one (ps_ret (pe_and (pe_cmpR op_notN (pv 0) pe_non (nomark _)) (pe_one (pe_or (pe_cmpR op_isN (pv 1) pe_non (nomark _)) (pe_one (pe_cmpR op_lt (pv 0) (pv 1) (nomark _))))))), ?_⟩
    refine ⟨_, rfl, rfl, _, rfl, ?_⟩
    cases a with
    | none => exact ifn (by simp [tv]) q
    | some i =>
      refine ift (by simp [tv]) ⟨_, rfl, rfl, _, rfl, ?_⟩
      cases b with
      | none => exact ift rfl q
      | some j => exact ifn (by simp [tv]) ⟨_, rfl, _, rfl, i, j, rfl, rfl, q⟩
theorem scIs : FnScope ["span", "time"] ["span", "time"] (defScope sIs) := ⟨rfl, rfl, rfl, by decide +kernel, rfl, by decide +kernel, by decide +kernel⟩
theorem ok_is {f g : Addr} {fd fdG : FuncData} (F : Fun K "_law_is" "_law_is" sIs f fd) (T : Txt P K mg CS CE fE) (Z : Me K CS "is_endless" "Span.is_endless" sIsEnd ["self"] g fdG) : FnOk P w K mg base CX0 2 f fd ["span", "time"] (spIs CS) := by
  have GZ : FnOk P w K mg base CX0 1 g fdG ["self"] (spIsEnd CS) := ok_isEnd Z.fn T
  refine F.ok scIs (fun vs H Q E h => ?_) (fun cdv A outer s H vs Q E hr h => ?_)
  · obtain ⟨a, t, rfl, _⟩ := h; rfl
  · obtain ⟨a, t, rfl, ha, q⟩ := h
    obtain ⟨_, dx, e⟩ := id ha
    have l : List.lookup ("time" : Str) [(("time" : Str), tv t)] = some (tv t) := by simp [List.lookup]
    have nm : List.lookup ("is_endless" : Str) [(("time" : Str), tv t)] = none := by
      have z : (("is_endless" : Str) == ("time" : Str)) = false := by decide +kernel
      simp [List.lookup, z]
    refine ⟨_, pss_one (ps_ret (pe_and (pe_callB call_isi (by rfl) T.isi (by decide +kernel) (pa_cons (pv 0) (pa_cons (pe_glob (v := .ref CS) (by rfl) T.gS rfl) pa_nil)))
      (pe_and (pe_cmpR op_eq (pe_fld (pv 0) rfl) (pv 1) (nomark _)) (pe_one (pe_cmpR op_eq (pe_meth0 (pv 0) T.cl ⟨Z.at_, Z.isf, Z.fn.kp⟩ GZ hr Z.bd .nil pass0) (pe_cmpR op_isN (pv 1) pe_non (nomark _)) (nomark _)))))), ?_⟩
    refine ⟨_, rfl, _, _, _, _, true, rfl, .own CS, span_ty T ha, T.kS, true, rfl, ift rfl ?_⟩
    refine ⟨_, rfl, a, CS, dx, _, _, rfl, e, T.cl, T.nT, l, _, rfl, (tv_eq t t).1, _, rfl, ift (by simp) ?_⟩
    refine ⟨_, rfl, a, dx, _, rfl, e, nm, a, t, rfl, ha, _, rfl, rfl, rfl, ?_⟩
    have z : decide (V.bl (decide (t = none)) = V.bl (decide (tv t = V.non))) = true := by rw [tv_none]; simp
    rw [z]; exact q
theorem scLGreat : FnScope ["times", "best", "time"] ["times"] (defScope sLGreat) := ⟨rfl, rfl, rfl, by decide +kernel, rfl, by decide +kernel, by decide +kernel⟩
theorem ok_lgreat {f g : Addr} {fd fdG : FuncData} (F : Fun K "_law_greatest" "_law_greatest" sLGreat f fd) (D : Df K mg "_law_less" sLess ["one", "other"] g fdG) : FnOk P w K mg base CX0 2 f fd ["times"] (spLGreat K) := by
  have GD : FnOk P w K mg base CX0 1 g fdG ["one", "other"] spLess := ok_less D.fn
  refine F.ok scLGreat (fun vs H Q E h => ?_) (fun cdv A outer s H vs Q E hr h => ?_)
  · obtain ⟨l, ts, rfl, _⟩ := h; rfl
  · obtain ⟨l, ts, rfl, hl, hne, q⟩ := h
    refine ⟨_, pss_cons (ps_set (i := 1) scLGreat.nd rfl (Or.inl rfl) pe_non) (pss_cons (ps_for PassesOwn.never rfl (pi_list (pv 0)) (pg_name (i := 2) scLGreat.nd rfl (Or.inl rfl))
      (pss_one (ps_if (PW.pt (pw_or (pt_cmpR op_isN (pv 1) pe_non (nomark _)) (pw_or1 (pt_val (pe_call GD hr (by rfl) D.gl D.fn.kp D.bd .nil pass0 (pa_cons (pe_ix ix_list (pv 1) pe_int (fun _ _ => rfl)) (pa_cons (pv 2) pa_nil)))))))
        (pss_one (ps_set (i := 1) scLGreat.nd rfl (Or.inl rfl) (pe_lst (pa_cons (pv 2) pa_nil)))) pss_nil)))
      (pss_one (ps_ret (pv 1)))), ?_⟩
    refine ⟨_, rfl, l, rfl, ⟨_, hl⟩, for_list (K := K) (a := l) (xs := ts.map tv) (fun i σ H' => Same H H' ∧ ∃ u v, σ = [some (.ref l), some u, v] ∧ (match (ts.take i).foldl bt none with | none => u = .non | some b => ∃ p, u = .ref p ∧ H' p = some (.lst [tv b])))
      ⟨Same.refl H, .non, none, rfl, rfl⟩ (fun i σ H' _ ⟨s0, _⟩ => s0.seq hl) ?_ ?_⟩
    · rintro i y σ H' hi ⟨s0, u, v, rfl, hu⟩
      obtain ⟨t, ht, rfl⟩ : ∃ t, ts[i]? = some t ∧ y = tv t := by
        rw [List.getElem?_map] at hi
        cases e : ts[i]? with
        | none => rw [e] at hi; cases hi
        | some z => rw [e] at hi; exact ⟨z, rfl, (Option.some.inj hi).symm⟩
      have step : (ts.take (i + 1)).foldl bt none = bt ((ts.take i).foldl bt none) t := by
        rw [List.take_add_one, ht, List.foldl_append]; rfl
      rw [step]
      generalize (ts.take i).foldl bt none = best at *
      have fresh : ∀ p, H' p = none → Same H (upd H' p (.lst [tv t])) := fun p hp b o e => by rw [upd_ne (ne_of_none (s0 b o e) hp)]; exact s0 b o e
      refine ⟨_, rfl, rfl, _, rfl, ?_⟩
      cases best with
      | none =>
        subst hu
        exact ift rfl (ift rfl ⟨_, rfl, (by show 1 ≤ sizeLine; decide), fun p hp => ⟨fresh p hp, _, _, rfl, p, rfl, upd_same⟩⟩)
      | some b =>
        obtain ⟨p, rfl, hp⟩ := hu
        refine ifn (by simp) ⟨_, rfl, p, _, _, _, rfl, rfl, SqL.of hp, atI_nat (j := 0) rfl, _, rfl, b, t, rfl, _, rfl, ?_⟩
        cases hlt : ltO b t with
        | true => exact ift rfl ⟨_, rfl, (by show 1 ≤ sizeLine; decide), fun p hp => ⟨fresh p hp, _, _, rfl, (by rw [bt_t hlt]; exact ⟨p, rfl, upd_same⟩)⟩⟩
        | false => exact ifn rfl ⟨s0, _, _, rfl, (by rw [bt_f hlt]; exact ⟨p, rfl, hp⟩)⟩
    · rintro σ H' ⟨s0, u, v, rfl, hu⟩
      rw [List.length_map, List.take_length] at hu
      cases hb : ts.foldl bt none with
      | none =>
        exfalso
        cases ts with
        | nil => exact hne rfl
        | cons t r =>
          have some_of : ∀ (r : List (Option Int)) (b : Option Int), ∃ c, r.foldl bt (some b) = some c := by
            intro r
            induction r with
            | nil => exact fun b => ⟨b, rfl⟩
            | cons x r ih =>
              intro b
              show ∃ c, r.foldl bt (bt (some b) x) = some c
              cases h : ltO b x with
              | true => rw [bt_t h]; exact ih x
              | false => rw [bt_f h]; exact ih b
          obtain ⟨c, hc⟩ := some_of r t
          have z : (t :: r).foldl bt none = r.foldl bt (some t) := rfl
          rw [z, hc] at hb; cases hb
      | some b =>
        rw [hb] at hu
        obtain ⟨p, rfl, hp⟩ := hu
        exact ⟨_, rfl, q b p H' hb s0 hp⟩
end
end K1

set_option maxHeartbeats 4000000
namespace K1
open PySem PySem.Spec PyProof.Rows L2 OwnO LamX
/-- what repr gives of it -/
inductive Rep : V → Str → Prop where
  | int {i : Int} (h : i.natAbs.log2 < 1920) : Rep (.int i) (toString i : String)
  | bl (b : Bool) : Rep (.bl b) (if b then "True" else "False")
  | non : Rep .non "None"
  | str {x : Str} (h : (reprText x).length ≤ sizeLine) : Rep (.str x) (reprText x)
section
variable {X : Cx}
theorem call_repr : CallR X (.builtin "repr") (fun xs H Q => ∃ v x, xs = [v] ∧ Rep v x ∧ Q (.str x) H) := by
  intro pins s σ H xs us Q I r h
  obtain ⟨v, x, rfl, hr, q⟩ := h
  obtain ⟨u, rfl, ru⟩ := r.one
  cases hr with
  | @int i hz => obtain ⟨t, e⟩ := (show ∃ t, u = Value.int i t from ru); cases e; exact PySem.P.repr_of_int hz ⟨.str _, H, I.tok _, ⟨_, rfl⟩, q⟩
  | bl b => cases (show u = Value.bool b from ru); exact PySem.P.repr_of_bool ⟨.str _, H, I.tok _, ⟨_, rfl⟩, q⟩
  | non => cases (show u = Value.none from ru); exact PySem.P.repr_of_none ⟨.str _, H, I.tok _, ⟨_, rfl⟩, q⟩
  | @str y hz => obtain ⟨t, e⟩ := (show ∃ t, u = Value.str y t from ru); cases e; exact PySem.P.repr_of_str ⟨.str _, H, I.tok _, ⟨_, rfl⟩, q⟩ hz
theorem takes_len {W : WX} (tk : Takes X W) : Takes X (fun cls d σ H => σ.length = X.N.length → W cls d σ H) := fun u s' ⟨a, B, sI, pins, σ, H, cls, d, e, I, nb, up, sky, na, os, ag, w⟩ =>
  tk u s' ⟨a, B, sI, pins, σ, H, cls, d, e, I, nb, up, sky, na, os, ag, w I.len⟩
/-- told: the call raises the error with a value; what repr gives of that is handed back -/
def TRef (CE : Addr) : (XK → Hp → VK → Prop) → Hp → VK → Prop := fun tl H Q =>
  tl (fun cls d H' => cls = .ref CE ∧ ∃ dd v x, d = some dd ∧ H' dd = some (.xd [("value", v)]) ∧ Rep v x ∧ Q (.str x) H') H (fun _ H' => Q (.str "none") H')
theorem scRef : FnScope ["call", "e"] ["call"] (defScope sRef) := ⟨rfl, rfl, rfl, by decide +kernel, rfl, by decide +kernel, by decide +kernel⟩
theorem refused_gives {CS CE fE g : Addr} {cdg : Value} {q : Str} (T : Txt X.prog X.K X.mg CS CE fE) (hrp : X.mg "repr" = none) : GivesTo X ["call", "e"] "_law_refused" (defScope sRef) g cdg (defBody sRef) "call" q (TRef CE) := by
  intro f c' s H Q tl act hc h
  refine ⟨_, pss_cons (ps_try_as (X := (cxOf C8.CX0 X.prog X.w X.K X.mg X.base ["call", "e"] "_law_refused" (defScope sRef) g cdg X.A X.stack s H C8.E0).nox) (i := 1) (c := .ref CE)
      (tb := fun W D σ H => ∃ Ech : XK, (∀ cls d σ' H', Ech cls d H' → σ'.length = 2 → W cls d σ' H') ∧ σ[0]? = some (some (.ref f)) ∧ H c' = some (CodeO c' q) ∧ tl Ech H (fun _ H' => D.nx σ H'))
      (ts := fun a cls d => tRet (tCB (fun xs H Q => ∃ v x, xs = [v] ∧ Rep v x ∧ Q (.str x) H) (tCons (SupE.tBy CE a cls d "value" (tVar 1)) tNil))) (Wout := fun _ _ _ _ => False) rfl rfl scRef.nd rfl rfl ⟨by rfl, by decide, .inl T.er.gC⟩ L2.takes0
      (fun W pn xe tk _ => ?_) (fun a oe cls d pn hz hf => pss_one (ps_ret (pe_callB call_repr (by rfl) hrp (by decide +kernel) (pa_cons (SupE.pe_byOwn T.er hz hf (pv 1)) pa_nil))))) (pss_one (ps_ret pe_str)), ?_⟩
  · refine ⟨fun pins s' σ H' D I h' => ?_⟩
    obtain ⟨Ech, hW, h1, h2, h3⟩ := h'
    exact (pss_one (ps_expr (act _ pn xe Ech _ _ (takes_len tk) hW))).run pins s' σ H' D I ⟨h1, h2, h3⟩
  · refine ⟨fun cls d H' => cls = .ref CE ∧ ∃ dd v x, d = some dd ∧ H' dd = some (.xd [("value", v)]) ∧ Rep v x ∧ Q (.str x) H', fun cls d σ' H' e hlen => ?_, rfl, hc, h⟩
    obtain ⟨rfl, dd, v, x, rfl, eH, rp, qq⟩ := e
    refine ⟨true, T.er.te, fun _ a _ => ?_, fun z => Bool.noConfusion z⟩
    have hs : (σ'.set 1 (some (V.ref a)))[1]? = some (some (V.ref a)) := by
      rw [List.getElem?_set_self (by omega)]
    exact ⟨.ref a, hs, rfl, rfl, dd, v, rfl, eH, v, x, rfl, rp, qq⟩
end
end K1

set_option maxHeartbeats 4000000
namespace K1
open PySem PySem.Spec PyProof.Rows L2 OwnO
theorem nb (x : Bool) : decide (V.bl (!x) = V.bl x) = false := by cases x <;> simp
def spOrd : Sp := fun vs H Q _ => ∃ s t, vs = [tv s, tv t] ∧ NN s ∧ NN t ∧ ∀ H', Same H H' → Q (.bl true) H'
section
variable {P : Program} {w : World} {K : PySem.W.Frag} {mg : Str → Option Value} {base : Heap} {CS CE fE : Addr}
/-- the comparisons of Span as they stand -/
structure Cmps (P : Program) (w : World) (K : PySem.W.Frag) (base : Heap) (mg : Str → Option Value) (CS : Addr) : Prop where
  lt : ∃ f, PySem.W.findIn K (.ref CS) "__lt__" = some (some (.ref f)) ∧ PySem.W.isFn K (.ref f) = true ∧ FnR P w K mg base CX0 2 f (spCmp CS fun s t => ltO s t)
  le : ∃ f, PySem.W.findIn K (.ref CS) "__le__" = some (some (.ref f)) ∧ PySem.W.isFn K (.ref f) = true ∧ FnR P w K mg base CX0 2 f (spCmp CS fun s t => !ltO t s)
  gt : ∃ f, PySem.W.findIn K (.ref CS) "__gt__" = some (some (.ref f)) ∧ PySem.W.isFn K (.ref f) = true ∧ FnR P w K mg base CX0 2 f (spCmp CS fun s t => ltO t s)
  ge : ∃ f, PySem.W.findIn K (.ref CS) "__ge__" = some (some (.ref f)) ∧ PySem.W.isFn K (.ref f) = true ∧ FnR P w K mg base CX0 2 f (spCmp CS fun s t => !ltO s t)
  eq : ∃ f, PySem.W.findIn K (.ref CS) "__eq__" = some (some (.ref f)) ∧ PySem.W.isFn K (.ref f) = true ∧ FnR P w K mg base CX0 1 f (spEq CS)
theorem scOrd : FnScope ["one", "other", "a", "b"] ["one", "other"] (defScope sOrd) := ⟨rfl, rfl, rfl, by decide +kernel, rfl, by decide +kernel, by decide +kernel⟩
theorem ok_ord {f fS fL : Addr} {fd fdS fdL : FuncData} (F : Fun K "_law_ordered" "_law_ordered" sOrd f fd) (O : Ops K CS) (C : Cmps P w K base mg CS) (S : Df K mg "_law_span" sLSpan ["time"] fS fdS) (GS : FnOk P w K mg base CX0 6 fS fdS ["time"] (spLSpan CS))
    (L : Df K mg "_law_less" sLess ["one", "other"] fL fdL) : FnOk P w K mg base CX0 7 f fd ["one", "other"] spOrd := by
  have GL : FnOk P w K mg base CX0 1 fL fdL ["one", "other"] spLess := ok_less L.fn
  obtain ⟨f1, a1, i1, G1⟩ := C.lt
  obtain ⟨f2, a2, i2, G2⟩ := C.le
  obtain ⟨f3, a3, i3, G3⟩ := C.gt
  obtain ⟨f4, a4, i4, G4⟩ := C.ge
  obtain ⟨f5, a5, i5, G5⟩ := C.eq
  refine F.ok scOrd (fun vs H Q E h => ?_) (fun cdv A outer s H vs Q E hr h => ?_)
  · obtain ⟨s, t, rfl, _⟩ := h; rfl
  · obtain ⟨s, t, rfl, hs, ht, q⟩ := h
    have r2 := hr.mono (show 2 ≤ 6 by decide)
    have r1 := hr.mono (show 1 ≤ 6 by decide)
    refine ⟨_, pss_cons (ps_par (i := 2) (j := 3) (by rfl) scOrd.nd rfl rfl (by decide) rfl rfl (pa_cons (pe_call GS hr (by rfl) S.gl S.fn.kp S.bd .nil pass0 (pa_cons (pv 0) pa_nil)) (pa_cons (pe_call GS hr (by rfl) S.gl S.fn.kp S.bd .nil pass0 (pa_cons (pv 1) pa_nil)) pa_nil)) (by rfl))
      (pss_cons (ps_if (PW.pt (pw_or (pt_cmpR op_ne (pe_cmpR (oc_same (op := .Lt) (fun _ _ => rfl) a1 i1 O.nf G1 r2 pass0) (pv 2) (pv 3) (nomark _)) (pe_call GL r1 (by rfl) L.gl L.fn.kp L.bd .nil pass0 (pa_cons (pv 0) (pa_cons (pv 1) pa_nil))) (nomark _))
          (pw_or1 (pt_cmpR op_ne (pe_cmpR (oc_same (op := .Gt) (fun _ _ => rfl) a3 i3 O.nf G3 r2 pass0) (pv 2) (pv 3) (nomark _)) (pe_call GL r1 (by rfl) L.gl L.fn.kp L.bd .nil pass0 (pa_cons (pv 1) (pa_cons (pv 0) pa_nil))) (nomark _))))) (pss_one (ps_ret pe_bl)) pss_nil)
      (pss_cons (ps_if (PW.pt (pw_or (pt_cmpR op_eq (pe_cmpR (oc_same (op := .LtE) (fun _ _ => rfl) a2 i2 O.nf G2 r2 pass0) (pv 2) (pv 3) (nomark _)) (pe_call GL r1 (by rfl) L.gl L.fn.kp L.bd .nil pass0 (pa_cons (pv 1) (pa_cons (pv 0) pa_nil))) (nomark _))
          (pw_or1 (pt_cmpR op_eq (pe_cmpR (oc_same (op := .GtE) (fun _ _ => rfl) a4 i4 O.nf G4 r2 pass0) (pv 2) (pv 3) (nomark _)) (pe_call GL r1 (by rfl) L.gl L.fn.kp L.bd .nil pass0 (pa_cons (pv 0) (pa_cons (pv 1) pa_nil))) (nomark _))))) (pss_one (ps_ret pe_bl)) pss_nil)
      (pss_one (ps_ret (pe_and (pe_cmpR op_eq (pe_cmpR (oc_same (op := .Eq) (fun _ _ => rfl) a5 i5 O.nf G5 r1 pass0) (pv 2) (pv 3) (nomark _)) (pe_cmpR op_eq (pv 0) (pv 1) (nomark _)) (nomark _))
          (pe_one (pe_cmpR op_eq (pe_cmpR (oc_ne a5 i5 O.nf O.ob O.ne G5 r2 pass0) (pv 2) (pv 3) (nomark _)) (pe_cmpR op_ne (pv 0) (pv 1) (nomark _)) (nomark _)))))))), ?_⟩
    refine ⟨_, rfl, s, rfl, hs, fun a H1 s1 n1 ha => ⟨_, rfl, t, rfl, ht, fun b H2 s2 n2 hb => ⟨_, _, rfl, ?_⟩⟩⟩
    have ha2 := ha.same s2
    obtain ⟨_, dx, e1⟩ := id ha2
    obtain ⟨_, dy, e2⟩ := id hb
    have q2 := q H2 (s1.trans s2)
    refine ⟨_, rfl, _, rfl, a, dx, _, b, dy, _, rfl, rfl, e1, e2, a, b, s, t, rfl, ha2, hb, _, rfl, _, rfl, s, t, rfl, rfl, _, rfl, ifn (by simp) ?_⟩
    refine ⟨_, rfl, _, rfl, a, dx, _, b, dy, _, rfl, rfl, e1, e2, a, b, s, t, rfl, ha2, hb, _, rfl, _, rfl, t, s, rfl, rfl, _, rfl, ifn (by simp) ?_⟩
    refine ⟨_, rfl, _, rfl, a, dx, _, b, dy, _, rfl, rfl, e1, e2, a, b, s, t, rfl, ha2, hb, _, rfl, _, rfl, t, s, rfl, rfl, _, rfl, ifn (nb (ltO t s)) ?_⟩
    refine ⟨_, rfl, _, rfl, a, dx, _, b, dy, _, rfl, rfl, e1, e2, a, b, s, t, rfl, ha2, hb, _, rfl, _, rfl, s, t, rfl, rfl, _, rfl, ifn (nb (ltO s t)) ?_⟩
    refine ⟨_, rfl, _, rfl, a, dx, _, b, dy, _, rfl, rfl, e1, e2, a, s, .ref b, rfl, ha2, .inl ⟨b, t, rfl, hb, _, rfl, _, rfl, (tv_eq s t).1, rfl, ?_⟩⟩
    rw [(tv_eq s t).2]
    refine ⟨_, rfl, ift (by simp) ?_⟩
    refine ⟨_, rfl, _, rfl, a, dx, _, b, dy, _, rfl, rfl, e1, e2, a, s, .ref b, rfl, ha2, .inl ⟨b, t, rfl, hb, _, rfl, _, rfl, _, rfl, (tv_eq s t).1, rfl, ?_⟩⟩
    rw [(tv_eq s t).2]
    have z : decide (V.bl (!decide (s = t)) = V.bl (!decide (s = t))) = true := by simp
    rw [z]
    exact q2
end
end K1

set_option maxHeartbeats 4000000
namespace K1
open PySem PySem.Spec PyProof.Rows L2 OwnO LamX
/-! ### how the heap goes on: the pool at p turns, the tables grow, all else stays -/
def Kp (p : Addr) (H H' : Hp) : Prop := ∀ b o, b ≠ p → (∀ ps, o ≠ .tbl ps) → H b = some o → H' b = some o
structure Mv (T : List (Addr × Str)) (p : Addr) (H H' : Hp) : Prop where
  kp : Kp p H H'
  po : PoolAt H' p
  tb : Tabs T H'
theorem Kp.trans {p : Addr} {H H1 H2 : Hp} (a : Kp p H H1) (b : Kp p H1 H2) : Kp p H H2 := fun x o n t e => b x o n t (a x o n t e)
theorem Mv.trans {T : List (Addr × Str)} {p : Addr} {H H1 H2 : Hp} (a : Mv T p H H1) (b : Mv T p H1 H2) : Mv T p H H2 := ⟨a.kp.trans b.kp, b.po, b.tb⟩
theorem pool_same {p : Addr} {H H' : Hp} (h : PoolAt H p) (s : Same H H') : PoolAt H' p := let ⟨c, d, e⟩ := h; ⟨c, d, s _ _ e⟩
theorem mv_same {T : List (Addr × Str)} {p : Addr} {H H' : Hp} (hp : PoolAt H p) (ht : Tabs T H) (s : Same H H') : Mv T p H H' := ⟨fun b o _ _ e => s b o e, pool_same hp s, ht.ext s⟩
theorem tabs_but {T : List (Addr × Str)} {p : Addr} {H H' : Hp} (hp : PoolAt H p) (ht : Tabs T H) (b : But p H H') : Tabs T H' := fun x hx => by
  obtain ⟨c0, s0, e0⟩ := hp
  obtain ⟨ps, h1, h2, h3⟩ := ht x hx
  have ne : ∀ {a : Addr} {o : HO}, H a = some o → (∀ xs, o ≠ .lst xs) → a ≠ p := fun {a o} e n z => by rw [z, e0] at e; exact n _ (Option.some.inj e).symm
  refine ⟨ps, b.1 _ _ (ne h1 (fun xs z => by cases z)) h1, h2, fun pos cv hc => ?_⟩
  obtain ⟨c, e1, e2⟩ := h3 pos cv hc
  exact ⟨c, e1, b.1 _ _ (ne e2 (fun xs z => by unfold CodeO at z; cases z)) e2⟩
theorem mv_but {T : List (Addr × Str)} {p : Addr} {H H' : Hp} (hp : PoolAt H p) (ht : Tabs T H) (b : But p H H') : Mv T p H H' := ⟨fun x o n _ e => b.1 x o n e, b.2, tabs_but hp ht b⟩
theorem mv_ext {T : List (Addr × Str)} {p : Addr} {H H' : Hp} (hp : PoolAt H p) (e : ExtN H H') (ht : Tabs T H') : Mv T p H H' := ⟨fun b o _ n q => e b o q n, let ⟨c, s, q⟩ := hp; ⟨c, s, e _ _ q (fun ps z => by cases z)⟩, ht⟩
theorem Mv.lst {T : List (Addr × Str)} {p l : Addr} {H H' : Hp} {xs : List V} (m : Mv T p H H') (n : l ≠ p) (h : H l = some (.lst xs)) : H' l = some (.lst xs) := m.kp _ _ n (fun ps z => by cases z) h
theorem Mv.span {T : List (Addr × Str)} {p a : Addr} {H H' : Hp} {CS : Addr} {t : Option Int} (m : Mv T p H H') (hp : PoolAt H p) (h : SpAt CS H a t) : SpAt CS H' a t := by
  obtain ⟨n, dx, e⟩ := h
  obtain ⟨c, s, e0⟩ := hp
  exact ⟨n, dx, m.kp _ _ (fun z => by rw [z, e0] at e; cases e) (fun ps z => by cases z) e⟩
theorem Mv.seq {T : List (Addr × Str)} {K : PySem.W.Frag} {p a : Addr} {H H' : Hp} {xs : List V} (m : Mv T p H H') (n : a ≠ p) (h : SqL K H a xs) : SqL K H' a xs := by
  rcases h with (h | ⟨o, h⟩) | h
  · exact .inl (.inl (m.kp _ _ n (fun ps z => by cases z) h))
  · exact .inl (.inr ⟨o, m.kp _ _ n (fun ps z => by cases z) h⟩)
  · exact .inr h
/-- a list that is read is not a new object, unless the written part has it -/
theorem seq_ne {K : PySem.W.Frag} {H : Hp} {a p : Addr} {xs : List V} (h : SqL K H a xs) (n : H p = none) : a ≠ p ∨ (∀ H', SqL K H' a xs) := by
  rcases h with (h | ⟨o, h⟩) | h
  · exact .inl (ne_of_none h n)
  · exact .inl (ne_of_none h n)
  · exact .inr fun H' => .inr h
end K1

set_option maxHeartbeats 8000000
namespace K1
open PySem PySem.Spec PyProof.Rows L2 OwnO LamX
abbrev NL : List Str := ["script", "k", "pool", "times", "turn", "spans", "one", "n", "many", "both", "other", "b", "value", "a", "time"]
theorem scLaw : FnScope NL ["script"] (defScope sLaw) := ⟨rfl, rfl, rfl, by decide +kernel, rfl, by decide +kernel, by decide +kernel⟩
abbrev lamQ : Str := "law" ++ ".<locals>." ++ "<lambda>"
/-- the arithmetic of Span as it stands -/
structure Ari (P : Program) (w : World) (K : PySem.W.Frag) (base : Heap) (mg : Str → Option Value) (CS CE : Addr) : Prop where
  ex : ∃ fa fr fm fn, PySem.W.findIn K (.ref CS) "__add__" = some (some (.ref fa)) ∧ PySem.W.findIn K (.ref CS) "__radd__" = some (some (.ref fr)) ∧ PySem.W.findIn K (.ref CS) "__mul__" = some (some (.ref fm)) ∧ PySem.W.findIn K (.ref CS) "__rmul__" = some (some (.ref fn)) ∧
    (PySem.W.isFn K (.ref fa) = true ∧ PySem.W.isFn K (.ref fr) = true ∧ PySem.W.isFn K (.ref fm) = true ∧ PySem.W.isFn K (.ref fn) = true) ∧
    FnR P w K mg base (L2.CX P w) 7 fa (spSum CS CE) ∧ FnR P w K mg base (L2.CX P w) 7 fr (spSum CS CE) ∧ FnR P w K mg base (L2.CX P w) 7 fm (spProd CS CE) ∧ FnR P w K mg base (L2.CX P w) 7 fn (spProd CS CE)
/-- what the law asks of the text besides -/
structure LawTxt (K : PySem.W.Frag) (mg : Str → Option Value) (CS : Addr) : Prop where
  range : mg "range" = none
  max : mg "max" = none
  min : mg "min" = none
  len : mg "len" = none
  int : mg "int" = none
  zip : mg "zip" = none
  repr : mg "repr" = none
  nfI : PySem.W.notFirst K CS (.type "int") = true
  nfN : PySem.W.notFirst K CS (.type "NoneType") = true
  nfS : PySem.W.notFirst K CS (.type "str") = true
  sbI : PySem.W.subIn K (.ref CS) (.type "int") = some false
  sbB : PySem.W.subIn K (.ref CS) (.type "bool") = some false
  sbN : PySem.W.subIn K (.ref CS) (.type "NoneType") = some false
  sbS : PySem.W.subIn K (.ref CS) (.type "str") = some false
  isI : PySem.W.subIn K (.type "int") (.ref CS) = some false
  isB : PySem.W.subIn K (.type "bool") (.ref CS) = some false
  isN : PySem.W.subIn K (.type "NoneType") (.ref CS) = some false
  isS : PySem.W.subIn K (.type "str") (.ref CS) = some false
  ty : ∀ T : String, T = "int" ∨ T = "bool" ∨ T = "NoneType" ∨ T = "str" → (∃ o, PySem.W.findIn K (.type T) "__add__" = some o) ∧ (∃ o, PySem.W.findIn K (.type T) "__radd__" = some o) ∧ (∃ o, PySem.W.findIn K (.type T) "__mul__" = some o) ∧ ∃ o, PySem.W.findIn K (.type T) "__rmul__" = some o
theorem fillN_add : fillsNumberSlot (.type "NoneType") "add" = pure false := by first | rfl | kernel_rfl
theorem fillN_mul : fillsNumberSlot (.type "NoneType") "mul" = pure false := by first | rfl | kernel_rfl
section
variable {X : Cx} {CS CE : Addr} {E : XK}
/-- span + a plain value, whichever -/
theorem op_addR (L : LawTxt X.K X.mg CS) (O : Ops X.K CS) {T : String} (hT : T = "int" ∨ T = "bool" ∨ T = "NoneType" ∨ T = "str") (A : Ari X.prog X.w X.K X.base X.mg CS CE) (hr : Room 7 X.A) (hx : Passes (L2.CX X.prog X.w) X E) : OpR X (binaryOp .Add) (rRight CS T (spSum CS CE) E) := by
  obtain ⟨fa, fr, fm, fn, a1, a2, a3, a4, ⟨i1, i2, i3, i4⟩, F1, F2, F3, F4⟩ := A.ex
  obtain ⟨⟨o1, t1⟩, ⟨o2, t2⟩, _, _⟩ := L.ty T hT
  have hs : PySem.W.subIn X.K (.type T) (.ref CS) = some false := by rcases hT with rfl | rfl | rfl | rfl; exact L.isI; exact L.isB; exact L.isN; exact L.isS
  exact or_right (op := .Add) O.sf a1 i1 a2 (.inr ⟨_, rfl⟩) t1 t2 hs F1 hr hx
theorem op_mulR (L : LawTxt X.K X.mg CS) (O : Ops X.K CS) {T : String} (hT : T = "int" ∨ T = "bool" ∨ T = "NoneType" ∨ T = "str") (A : Ari X.prog X.w X.K X.base X.mg CS CE) (hr : Room 7 X.A) (hx : Passes (L2.CX X.prog X.w) X E) : OpR X (binaryOp .Mult) (rRight CS T (spProd CS CE) E) := by
  obtain ⟨fa, fr, fm, fn, a1, a2, a3, a4, ⟨i1, i2, i3, i4⟩, F1, F2, F3, F4⟩ := A.ex
  obtain ⟨_, _, ⟨o1, t1⟩, ⟨o2, t2⟩⟩ := L.ty T hT
  have hs : PySem.W.subIn X.K (.type T) (.ref CS) = some false := by rcases hT with rfl | rfl | rfl | rfl; exact L.isI; exact L.isB; exact L.isN; exact L.isS
  exact or_right (op := .Mult) O.sf a3 i3 a4 (.inr ⟨_, rfl⟩) t1 t2 hs F3 hr hx
/-- a plain value + span, whichever -/
theorem op_addL (L : LawTxt X.K X.mg CS) (O : Ops X.K CS) {T : String} (hT : T = "int") (A : Ari X.prog X.w X.K X.base X.mg CS CE) (hr : Room 7 X.A) (hx : Passes (L2.CX X.prog X.w) X E) : OpR X (binaryOp .Add) (rLeft CS T (spSum CS CE) E) := by
  obtain ⟨fa, fr, fm, fn, a1, a2, a3, a4, ⟨i1, i2, i3, i4⟩, F1, F2, F3, F4⟩ := A.ex
  subst hT
  exact or_leftI (op := .Add) (nm := "add") (sym := "+") rfl (.inl rfl) O.sf a1 a2 i2 PySem.F.fills_int_add L.sbI PySem.F.slot_int_add PySem.F.entry_int_add PySem.F.args_int_add_2 F2 hr hx
theorem op_mulL (L : LawTxt X.K X.mg CS) (O : Ops X.K CS) {T : String} (hT : T = "int" ∨ T = "bool" ∨ T = "NoneType" ∨ T = "str") (A : Ari X.prog X.w X.K X.base X.mg CS CE) (hr : Room 7 X.A) (hx : Passes (L2.CX X.prog X.w) X E) : OpR X (binaryOp .Mult) (rLeft CS T (spProd CS CE) E) := by
  obtain ⟨fa, fr, fm, fn, a1, a2, a3, a4, ⟨i1, i2, i3, i4⟩, F1, F2, F3, F4⟩ := A.ex
  rcases hT with rfl | rfl | rfl | rfl
  · exact or_leftI (op := .Mult) (nm := "mul") (sym := "*") rfl (.inl rfl) O.sf a3 a4 i4 PySem.F.fills_int_mul L.sbI PySem.F.slot_int_mul PySem.F.entry_int_mul PySem.F.args_int_mul_2 F4 hr hx
  · exact or_leftI (op := .Mult) (nm := "mul") (sym := "*") rfl (.inr rfl) O.sf a3 a4 i4 PySem.F.fills_bool_mul L.sbB PySem.F.slot_bool_mul PySem.F.entry_int_mul PySem.F.args_int_mul_2 F4 hr hx
  · exact or_left0 (op := .Mult) (nm := "mul") (sym := "*") rfl O.sf a3 a4 i4 fillN_mul L.sbN F4 hr hx
  · exact or_left0 (op := .Mult) (nm := "mul") (sym := "*") rfl O.sf a3 a4 i4 PySem.noFill_str_mul L.sbS F4 hr hx
end
end K1

set_option maxHeartbeats 16000000
namespace K1
open PySem PySem.Spec PyProof.Rows L2 OwnO LamX
/-! ### the law's blocks by places -/
def forBody (s : Stmt) : List Stmt := match s with
  | .For _ _ b _ _ => b
  | _ => []
abbrev bK : List Stmt := forBody ((defBody sLaw).getD 0 (.Pass ⟨0, 0, 0, 0⟩))
abbrev bTurn : List Stmt := forBody (bK.getD 2 (.Pass ⟨0, 0, 0, 0⟩))
abbrev bZip : List Stmt := forBody (bK.getD 4 (.Pass ⟨0, 0, 0, 0⟩))
abbrev bOther : List Stmt := forBody (bZip.getD 4 (.Pass ⟨0, 0, 0, 0⟩))
abbrev bVal : List Stmt := forBody (bZip.getD 5 (.Pass ⟨0, 0, 0, 0⟩))
theorem pss_pre {X : Cx} {st : List Stmt} {t p : TS} (h : PSs X st t) (i : ∀ D σ H, p D σ H → t D σ H) : PSs X st p := ⟨fun pins s σ H D I hp => h.run pins s σ H D I (i _ _ _ hp)⟩
abbrev passE {X : Cx} {E : XK} (h : Takes X (fun cls d _ H => E cls d H)) : Passes (L2.CX X.prog X.w) X E := fun pins σ H s e s' I q => passes_call h (fun _ _ _ _ h => h) pins σ H s e s' I q
/-- the helper that calls what it gets, as it stands -/
structure RefAt (K : PySem.W.Frag) (mg : Str → Option Value) (g : Addr) : Prop where
  gl : mg "_law_refused" = some (.ref g)
  kp : PySem.W.keepIn K (.ref g) = true
  lk : ∃ (oc : Value) (od : Option Addr) (kV doc pm : Value) (an : Option Addr) (cdv ct : Value) (osl : Array (Option Value)), K.lookup g = some ⟨oc, od, .func (PySem.W.fnOf "_law_refused" "_law_refused" (defArgs sRef) (defBody sRef) (defScope sRef) .none kV doc pm an cdv ct), osl⟩ ∧
    PySem.W.codeIn K cdv "_law_refused" = true ∧ Binds K (PySem.W.fnOf "_law_refused" "_law_refused" (defArgs sRef) (defBody sRef) (defScope sRef) .none kV doc pm an cdv ct) ["call"] []
/-- the wrong values, with what repr gives of them -/
inductive Odd : V → Str → Prop where
  | neg : Odd (.int (-1)) "-1"
  | tr : Odd (.bl true) "True"
  | non : Odd .non "None"
  | str : Odd (.str "1") "'1'"
theorem Odd.rep {v : V} {x : Str} (h : Odd v x) : Rep v x := by
  cases h with
  | neg => exact (show toString (-1 : Int) = "-1" from by decide) ▸ Rep.int (i := -1) (by decide)
  | tr => exact Rep.bl true
  | non => exact Rep.non
  | str =>
    have e : reprText ("1" : Str) = ("'1'" : Str) := by first | rfl | decide +kernel | kernel_rfl
    exact e ▸ Rep.str (x := "1") (by rw [e]; decide)
theorem Odd.bad {v : V} {x : Str} (h : Odd v x) : (kindOf v).isSome = true ∧ sz v = false := by cases h <;> exact ⟨rfl, rfl⟩
theorem odd_add {CS CE a : Addr} {t : Option Int} {v : V} {x : Str} {E' : XK} {H1 : Hp} {Q' : VK} (ho : Odd v x) (ha : SpAt CS H1 a t) (b : Bad CE H1 v E') :
    rRight CS "int" (spSum CS CE) E' (.ref a) v H1 Q' ∨ rRight CS "bool" (spSum CS CE) E' (.ref a) v H1 Q' ∨ rRight CS "NoneType" (spSum CS CE) E' (.ref a) v H1 Q' ∨ rRight CS "str" (spSum CS CE) E' (.ref a) v H1 Q' := by
  obtain ⟨_, dx, e⟩ := id ha
  have sp : spSum CS CE [.ref a, v] H1 Q' E' := ⟨a, t, v, none, rfl, ha, Par.bad ho.bad.1 ho.bad.2, (fun _ z => nomatch z), fun _ => b⟩
  cases ho with
  | neg => exact .inl ⟨a, dx, _, rfl, rfl, e, sp⟩
  | tr => exact .inr (.inl ⟨a, dx, _, rfl, rfl, e, sp⟩)
  | non => exact .inr (.inr (.inl ⟨a, dx, _, rfl, rfl, e, sp⟩))
  | str => exact .inr (.inr (.inr ⟨a, dx, _, rfl, rfl, e, sp⟩))
theorem odd_mul {CS CE a : Addr} {t : Option Int} {v : V} {x : Str} {E' : XK} {H1 : Hp} {Q' : VK} (ho : Odd v x) (ha : SpAt CS H1 a t) (b : Bad CE H1 v E') :
    rLeft CS "int" (spProd CS CE) E' v (.ref a) H1 Q' ∨ rLeft CS "bool" (spProd CS CE) E' v (.ref a) H1 Q' ∨ rLeft CS "NoneType" (spProd CS CE) E' v (.ref a) H1 Q' ∨ rLeft CS "str" (spProd CS CE) E' v (.ref a) H1 Q' := by
  obtain ⟨_, dx, e⟩ := id ha
  have sp : spProd CS CE [.ref a, v] H1 Q' E' := ⟨a, t, v, rfl, ha, ho.bad.1, fun n en h0 => by
    have z := ho.bad.2
    rw [en] at z
    exact absurd (of_decide_eq_false z) (by simpa using h0), fun _ => b⟩
  cases ho with
  | neg => exact .inl ⟨a, dx, _, rfl, rfl, e, sp⟩
  | tr => exact .inr (.inl ⟨a, dx, _, rfl, rfl, e, sp⟩)
  | non => exact .inr (.inr (.inl ⟨a, dx, _, rfl, rfl, e, sp⟩))
  | str => exact .inr (.inr (.inr ⟨a, dx, _, rfl, rfl, e, sp⟩))
theorem span_ext {CS a : Addr} {t : Option Int} {H H' : Hp} (h : SpAt CS H a t) (e : ExtN H H') : SpAt CS H' a t := let ⟨n, dx, q⟩ := h; ⟨n, dx, e _ _ q (fun ps z => by cases z)⟩
abbrev Tl (Pt : Addr) : List (Addr × Str) := [(Pt, lamQ)]
def preVal (CS Pt : Addr) : TS := fun D σ H => ∃ (a : Addr) (t : Option Int) (v : V) (x : Str) (l : List (Option V)) (y : Option V), σ = l ++ [some v, some (.ref a), y] ∧ l.length = 12 ∧ SpAt CS H a t ∧ Odd v x ∧ Tabs (Tl Pt) H ∧
      ∀ H', ExtN H H' → Tabs (Tl Pt) H' → D.nx σ H'
section
variable {P : Program} {w : World} {K : PySem.W.Frag} {mg : Str → Option Value} {base : Heap} {CS CE fE : Addr}
/-- for value in ..: both sides refuse it -/
theorem blk_val {f cc Pt gR : Addr} {A : Around} {outer : List Env} {s : Shared} {H0 : Hp} {E : XK} (T : Txt P K mg CS CE fE) (O : Ops K CS) (L : LawTxt K mg CS) (A0 : Ari P w K base mg CS CE) (TB : TabB base mg cc Pt) (R : RefAt K mg gR)
    (hr : Room 9 (A.deeper (envOfC "law" (defScope sLaw) s.heap.objs.size f (.ref cc)))) :
    PSs (cxOf CX0 P w K mg base NL "law" (defScope sLaw) f (.ref cc) A outer s H0 E) bVal (preVal CS Pt) := by
  obtain ⟨roc, rod, rkV, rdoc, rpm, ran, rcdv, rct, rosl, rlk, rhcd, rbd⟩ := R.lk
  refine pss_pre (pss_cons (ps_if (pt_cmpR op_ne (pe_lamcall (T := Tl Pt) (k := 7) (by rfl) R.gl R.kp rlk rhcd rbd scRef rfl (Or.inl rfl) (refused_gives T L.repr) TB rfl (List.mem_singleton.mpr rfl) (fun p hp _ => by rw [List.mem_singleton.mp hp]; rfl) hr (show LamS (defScope sLaw) _ from lamS_by (by decide +kernel)) rfl (fun _ _ _ _ _ => rfl)
      (fun A outer s H E f c' hr' => pe_op (OpR.or (op_addR L O (T := "int") (.inl rfl) A0 hr' (passE (takes_of rfl rfl rfl rfl))) (OpR.or (op_addR L O (T := "bool") (.inr (.inl rfl)) A0 hr' (passE (takes_of rfl rfl rfl rfl)))
        (OpR.or (op_addR L O (T := "NoneType") (.inr (.inr (.inl rfl))) A0 hr' (passE (takes_of rfl rfl rfl rfl))) (op_addR L O (T := "str") (.inr (.inr (.inr rfl))) A0 hr' (passE (takes_of rfl rfl rfl rfl)))))) (pv 13) (pv 12)))
      (pe_callB call_repr (by rfl) L.repr (by decide +kernel) (pa_cons (pv 12) pa_nil)) (nomark _)) (pss_one (ps_ret pe_bl)) pss_nil)
    (pss_one (ps_if (pt_cmpR op_ne (pe_lamcall (T := Tl Pt) (k := 7) (by rfl) R.gl R.kp rlk rhcd rbd scRef rfl (Or.inl rfl) (refused_gives T L.repr) TB rfl (List.mem_singleton.mpr rfl) (fun p hp _ => by rw [List.mem_singleton.mp hp]; rfl) hr (show LamS (defScope sLaw) _ from lamS_by (by decide +kernel)) rfl (fun _ _ _ _ _ => rfl)
      (fun A outer s H E f c' hr' => pe_op (OpR.or (op_mulL L O (T := "int") (.inl rfl) A0 hr' (passE (takes_of rfl rfl rfl rfl))) (OpR.or (op_mulL L O (T := "bool") (.inr (.inl rfl)) A0 hr' (passE (takes_of rfl rfl rfl rfl)))
        (OpR.or (op_mulL L O (T := "NoneType") (.inr (.inr (.inl rfl))) A0 hr' (passE (takes_of rfl rfl rfl rfl))) (op_mulL L O (T := "str") (.inr (.inr (.inr rfl))) A0 hr' (passE (takes_of rfl rfl rfl rfl)))))) (pv 12) (pv 13)))
      (pe_callB call_repr (by rfl) L.repr (by decide +kernel) (pa_cons (pv 12) pa_nil)) (nomark _)) (pss_one (ps_ret pe_bl)) pss_nil))) ?_
  rintro D σ H ⟨a, t, v, x, l, y, rfl, hl, ha, ho, ht, k⟩
  have e12 : (l ++ [some v, some (V.ref a), y])[12]? = some (some v) := by rw [List.getElem?_append_right (by omega), hl]; rfl
  have e13 : (l ++ [some v, some (V.ref a), y])[13]? = some (some (V.ref a)) := by rw [List.getElem?_append_right (by omega), hl]; rfl
  obtain ⟨hk, hz⟩ := ho.bad
  refine ⟨ht, fun H1 x1 t1 => ⟨_, e13, _, e12, odd_add ho (span_ext ha x1) (fun d H2 sm eq => ⟨rfl, d, v, x, rfl, eq, ho.rep, ?_⟩)⟩⟩
  have x2 : ExtN H H2 := x1.trans (.of sm)
  have t2 : Tabs (Tl Pt) H2 := t1.ext sm
  refine ⟨_, e12, v, x, rfl, ho.rep, rfl, _, rfl, ifn (by simp) ?_⟩
  refine ⟨t2, fun H3 x3 t3 => ⟨_, e12, _, e13, odd_mul ho (span_ext ha (x2.trans x3)) (fun d H4 sm4 eq4 => ⟨rfl, d, v, x, rfl, eq4, ho.rep, ?_⟩)⟩⟩
  refine ⟨_, e12, v, x, rfl, ho.rep, rfl, _, rfl, ifn (by simp) ?_⟩
  exact k H4 ((x2.trans x3).trans (.of sm4)) (t3.ext sm4)
end
end K1

set_option maxHeartbeats 16000000
namespace K1
open PySem PySem.Spec PyProof.Rows L2 OwnO LamX
/-- what stands in a turn of the law's loop: the pool, the times, the spans -/
structure Wf (CS Pt p lt ls : Addr) (ts : List (Option Int)) (al : List Addr) (H : Hp) : Prop where
  po : PoolAt H p
  tb : Tabs (Tl Pt) H
  tm : H lt = some (.lst (ts.map tv))
  sp : H ls = some (.lst (al.map V.ref))
  tp : lt ≠ p
  sq : ls ≠ p
  ln : ts.length = al.length
  ok : ∀ (i : Nat) (a : Addr) (t : Option Int), al[i]? = some a → ts[i]? = some t → SpAt CS H a t
theorem Wf.go {CS Pt p lt ls : Addr} {ts : List (Option Int)} {al : List Addr} {H H' : Hp} (W : Wf CS Pt p lt ls ts al H) (m : Mv (Tl Pt) p H H') : Wf CS Pt p lt ls ts al H' :=
  ⟨m.po, m.tb, m.lst W.tp W.tm, m.lst W.sq W.sp, W.tp, W.sq, W.ln, fun i a t h1 h2 => m.span W.po (W.ok i a t h1 h2)⟩
theorem Wf.same {CS Pt p lt ls : Addr} {ts : List (Option Int)} {al : List Addr} {H H' : Hp} (W : Wf CS Pt p lt ls ts al H) (s : Same H H') : Mv (Tl Pt) p H H' := mv_same W.po W.tb s
theorem same_new {H : Hp} {l : Addr} {o : HO} (h : H l = none) : Same H (upd H l o) := fun b u e => by rw [upd_ne (ne_of_none e h)]; exact e
def preOther (CS : Addr) : TS := fun D σ H => ∃ (a b : Addr) (s1 t1 : Option Int), σ[6]? = some (some (tv s1)) ∧ σ[13]? = some (some (.ref a)) ∧ σ[10]? = some (some (tv t1)) ∧ σ[11]? = some (some (.ref b)) ∧ SpAt CS H a s1 ∧ SpAt CS H b t1 ∧
      ∀ H', Same H H' → D.nx σ H'
def preZip (CS Pt : Addr) : TS := fun D σ H => ∃ (c0 c1 c4 c7 c8 c9 c10 c11 c12 c14 : Option V) (p lt ls a : Addr) (t : Option Int) (ts : List (Option Int)) (al : List Addr),
      σ = [c0, c1, some (.ref p), some (.ref lt), c4, some (.ref ls), some (tv t), c7, c8, c9, c10, c11, c12, some (.ref a), c14] ∧ Wf CS Pt p lt ls ts al H ∧ SpAt CS H a t ∧
      ∀ (d6 d7 d8 d9 d10 d11 d12 d13 : Option V) H', Mv (Tl Pt) p H H' → D.nx [c0, c1, some (.ref p), some (.ref lt), c4, some (.ref ls), d6, d7, d8, d9, d10, d11, d12, d13, c14] H'
section
variable {P : Program} {w : World} {K : PySem.W.Frag} {mg : Str → Option Value} {base : Heap} {CS CE fE : Addr}
/-- the operators on two spans -/
theorem op_addS {X : Cx} {E : XK} (O : Ops X.K CS) (A : Ari X.prog X.w X.K X.base X.mg CS CE) (hr : Room 7 X.A) (hx : Passes (L2.CX X.prog X.w) X E) : OpR X (binaryOp .Add) (rSame CS (spSum CS CE) E) := by
  obtain ⟨fa, fr, fm, fn, a1, a2, a3, a4, ⟨i1, i2, i3, i4⟩, F1, F2, F3, F4⟩ := A.ex
  exact or_same (op := .Add) O.sf a1 i1 F1 hr hx
theorem blk_other {f : Addr} {cdv : Value} {A : Around} {outer : List Env} {s : Shared} {H0 : Hp} {E : XK} {fO fI fT : Addr} {fdO fdI fdT : FuncData} (O : Ops K CS) (A0 : Ari P w K base mg CS CE)
    (DO : Df K mg "_law_ordered" sOrd ["one", "other"] fO fdO) (GO : FnOk P w K mg base CX0 7 fO fdO ["one", "other"] spOrd) (DI : Df K mg "_law_is" sIs ["span", "time"] fI fdI) (GI : FnOk P w K mg base CX0 2 fI fdI ["span", "time"] (spIs CS))
    (DT : Df K mg "_law_sum" sSum ["one", "other"] fT fdT) (hr : Room 9 (A.deeper (envOfC "law" (defScope sLaw) s.heap.objs.size f cdv))) :
    PSs (cxOf CX0 P w K mg base NL "law" (defScope sLaw) f cdv A outer s H0 E) bOther (preOther CS) := by
  have GT : FnOk P w K mg base CX0 1 fT fdT ["one", "other"] spSumT := ok_sum DT.fn
  refine pss_pre (pss_one (ps_if (PW.pt (pw_or (pt_not (pt_val (pe_call GO (hr.mono (by decide)) (by rfl) DO.gl DO.fn.kp DO.bd .nil pass0 (pa_cons (pv 6) (pa_cons (pv 10) pa_nil)))))
      (pw_or1 (pt_not (pt_val (pe_call GI (hr.mono (by decide)) (by rfl) DI.gl DI.fn.kp DI.bd .nil pass0 (pa_cons (pe_op (op_addS O A0 (hr.mono (by decide)) passL) (pv 13) (pv 11)) (pa_cons (pe_call GT (hr.mono (by decide)) (by rfl) DT.gl DT.fn.kp DT.bd .nil pass0 (pa_cons (pv 6) (pa_cons (pv 10) pa_nil))) pa_nil))))))))
    (pss_one (ps_ret pe_bl)) pss_nil)) ?_
  rintro D σ H ⟨a, b, s1, t1, e6, e13, e10, e11, ha, hb, k⟩
  refine ⟨_, e6, _, e10, s1, t1, rfl, ha.1, hb.1, fun H1 x1 => ⟨true, rfl, ifn rfl ?_⟩⟩
  have ha1 := ha.same x1
  have hb1 := hb.same x1
  obtain ⟨_, dx, q1⟩ := id ha1
  obtain ⟨_, dy, q2⟩ := id hb1
  refine ⟨_, e13, _, e11, a, dx, _, b, dy, _, rfl, rfl, q1, q2, a, s1, .ref b, some t1, rfl, ha1, .span hb1, fun t et => ?_, fun z => nomatch z⟩
  cases et
  intro c H2 x2 n2 hc
  exact ⟨_, e6, _, e10, s1, t1, rfl, c, addO s1 t1, rfl, hc, true, rfl, ifn rfl (k H2 (x1.trans x2))⟩
/-- a loop over zip, its ends told one by one -/
theorem zip_loop {K : PySem.W.Frag} {a b : Addr} {xs ys : List V} {g : TG} {tb : TS} {nx : L2.St → Hp → Prop} {rt : VK} {σ : L2.St} {H : Hp} (hl : xs.length = ys.length) (Pv : Nat → L2.St → Hp → Prop) (h0 : Pv 0 σ H) (hq : ∀ i σ H, Pv i σ H → SqL K H a xs ∧ SqL K H b ys)
    (hs : ∀ (i : Nat) (x y : V) (TT : Addr) (σ : L2.St) (H : Hp), xs[i]? = some x → ys[i]? = some y → Pv i σ H → H TT = none → g (.ref TT) σ (upd H TT (.tup [x, y])) fun σ2 H2 => tb { nx := Pv (i + 1), rt := rt, bk := nx, ct := Pv (i + 1) } σ2 H2) (hd : ∀ σ H, Pv xs.length σ H → nx σ H) :
    ∃ W : Nat → Nat → L2.St → Hp → Prop, (∃ m, W 0 m σ H) ∧ ∀ i m σ H, W i m σ H →
      ((Itz K a b).stop i H ∧ nx σ H) ∨ ((Itz K a b).go i H ∧ ∃ N : L2.St → Hp → Prop, (∀ σ' H', N σ' H' → ∃ m', m' < m ∧ W (i + 1) m' σ' H') ∧ ∀ v H', (Itz K a b).yld i H v H' → g v σ H' fun σ2 H2 => tb { nx := N, rt := rt, bk := nx, ct := N } σ2 H2) :=
  RZ.for_zipL (D := { nx := nx, rt := rt }) hl Pv h0 hq hs hd
theorem blk_zip {f cc Pt gR : Addr} {A : Around} {outer : List Env} {s : Shared} {H0 : Hp} {E : XK} {fO fI fT fM fC fD : Addr} {fdO fdI fdT fdM fdC fdD : FuncData} (T : Txt P K mg CS CE fE) (O : Ops K CS) (L : LawTxt K mg CS) (A0 : Ari P w K base mg CS CE) (C : Cmps P w K base mg CS) (TB : TabB base mg cc Pt) (R : RefAt K mg gR)
    (DO : Df K mg "_law_ordered" sOrd ["one", "other"] fO fdO) (GO : FnOk P w K mg base CX0 7 fO fdO ["one", "other"] spOrd) (DI : Df K mg "_law_is" sIs ["span", "time"] fI fdI) (GI : FnOk P w K mg base CX0 2 fI fdI ["span", "time"] (spIs CS))
    (DT : Df K mg "_law_sum" sSum ["one", "other"] fT fdT) (DM : Df K mg "_law_times" sTimes ["one", "n"] fM fdM) (DC : Df K mg "_law_choose" sChoose ["pool", "items"] fC fdC) (DD : Df K mg "_law_draw" sDraw ["pool", "many"] fD fdD)
    (hr : Room 9 (A.deeper (envOfC "law" (defScope sLaw) s.heap.objs.size f (.ref cc)))) :
    PSs (cxOf CX0 P w K mg base NL "law" (defScope sLaw) f (.ref cc) A outer s H0 E) bZip (preZip CS Pt) := by
  have GT : FnOk P w K mg base CX0 1 fT fdT ["one", "other"] spSumT := ok_sum DT.fn
  have GM : FnOk P w K mg base CX0 1 fM fdM ["one", "n"] spTimes := ok_times DM.fn
  have GC : FnOk P w K mg base CX0 2 fC fdC ["pool", "items"] spChoose := ok_choose DC.fn ⟨L.len, L.int⟩ DD
  obtain ⟨f5, a5, i5, G5⟩ := C.eq
  have nd := scLaw.nd
  have r7 := hr.mono (show 7 ≤ 9 by decide)
  have r2 := hr.mono (show 2 ≤ 9 by decide)
  have r1 := hr.mono (show 1 ≤ 9 by decide)
  refine pss_pre (pss_cons (ps_set (i := 7) nd rfl (Or.inl rfl) (pe_call GC r2 (by rfl) DC.gl DC.fn.kp DC.bd .nil pass0 (pa_cons (pv 2) (pa_cons (pe_lst (pa_cons pe_int (pa_cons pe_int (pa_cons pe_int (pa_cons (pe_op op_pow pe_int pe_int) pa_nil))))) pa_nil))))
    (pss_cons (ps_par (i := 8) (j := 9) (by rfl) nd rfl rfl (by decide) rfl rfl (pa_cons (pe_call GM r1 (by rfl) DM.gl DM.fn.kp DM.bd .nil pass0 (pa_cons (pv 6) (pa_cons (pv 7) pa_nil))) (pa_cons (pe_call GT r1 (by rfl) DT.gl DT.fn.kp DT.bd .nil pass0 (pa_cons (pv 6) (pa_cons (pv 7) pa_nil))) pa_nil)) (by rfl))
    (pss_cons (ps_if (PW.pt (pw_or (pt_not (pt_val (pe_call GI r2 (by rfl) DI.gl DI.fn.kp DI.bd .nil pass0 (pa_cons (pv 13) (pa_cons (pv 6) pa_nil)))))
        (pw_or (pt_not (pt_val (pe_call GI r2 (by rfl) DI.gl DI.fn.kp DI.bd .nil pass0 (pa_cons (pe_op (op_mulR L O (T := "int") (.inl rfl) A0 r7 passL) (pv 13) (pv 7)) (pa_cons (pv 8) pa_nil)))))
        (pw_or1 (pt_not (pt_val (pe_call GI r2 (by rfl) DI.gl DI.fn.kp DI.bd .nil pass0 (pa_cons (pe_op (op_mulL L O (T := "int") (.inl rfl) A0 r7 passL) (pv 7) (pv 13)) (pa_cons (pv 8) pa_nil))))))))) (pss_one (ps_ret pe_bl)) pss_nil)
    (pss_cons (ps_if (PW.pt (pw_or (pt_not (pt_val (pe_call GI r2 (by rfl) DI.gl DI.fn.kp DI.bd .nil pass0 (pa_cons (pe_op (op_addR L O (T := "int") (.inl rfl) A0 r7 passL) (pv 13) (pv 7)) (pa_cons (pv 9) pa_nil)))))
        (pw_or (pt_not (pt_val (pe_call GI r2 (by rfl) DI.gl DI.fn.kp DI.bd .nil pass0 (pa_cons (pe_op (op_addL L O (T := "int") rfl A0 r7 passL) (pv 7) (pv 13)) (pa_cons (pv 9) pa_nil)))))
        (pw_or (pt_cmpR (OpR.or (oc_right (op := .Eq) (T := "int") (fun _ _ => rfl) a5 i5 L.nfI G5 r1 pass0) (oc_right (op := .Eq) (T := "NoneType") (fun _ _ => rfl) a5 i5 L.nfN G5 r1 pass0)) (pv 13) (pv 6) (nomark _))
        (pw_or1 (pt_cmpR (oc_right (op := .Eq) (T := "str") (fun _ _ => rfl) a5 i5 L.nfS G5 r1 pass0) (pv 13) pe_str (nomark _))))))) (pss_one (ps_ret pe_bl)) pss_nil)
    (pss_cons (ps_for (passes_of rfl) rfl (pi_zip (by rfl) L.zip (pa_cons (pv 3) (pa_cons (pv 5) pa_nil))) (pg_tup rfl (pgs_cons (pg_name (i := 10) nd rfl (Or.inl rfl)) (pgs_cons (pg_name (i := 11) nd rfl (Or.inl rfl)) pgs_nil)))
      (blk_other O A0 DO GO DI GI DT hr))
    (pss_one (ps_for (passes_of rfl) rfl (pi_list (pe_lst (pa_cons (pe_un un_neg pe_int) (pa_cons pe_bl (pa_cons pe_non (pa_cons pe_str pa_nil)))))) (pg_name (i := 12) nd rfl (Or.inr rfl)) (blk_val T O L A0 TB R hr)))))))) ?_
  rintro D σ H ⟨c0, c1, c4, c7, c8, c9, c10, c11, c12, c14, p, lt, ls, a, t, ts, al, rfl, W, ha, k⟩
  -- n
  refine ⟨_, rfl, _, _, rfl, rfl, ⟨by decide, by decide, by decide⟩, (by show 4 ≤ sizeLine; decide), fun l0 hl0 => ?_⟩
  have W0 := W.go (W.same (same_new (o := .lst [.int 0, .int 1, .int 2, .int (10 ^ 9)]) hl0))
  refine ⟨p, l0, _, rfl, W0.po, upd_same, (fun z => by rw [z] at hl0; obtain ⟨_, _, e⟩ := W.po; rw [hl0] at e; cases e), (by decide), (by decide), fun v hv H1 b1 => ?_⟩
  obtain ⟨n, rfl, n0, n1⟩ : ∃ n : Int, v = .int n ∧ 0 ≤ n ∧ n < 2 ^ 64 := by
    simp only [List.mem_cons, List.not_mem_nil, or_false] at hv
    rcases hv with rfl | rfl | rfl | rfl <;> exact ⟨_, rfl, by decide, by decide⟩
  have m1 : Mv (Tl Pt) p H H1 := (W.same (same_new hl0)).trans (mv_but W0.po W0.tb b1)
  have W1 := W.go m1
  have ha1 := m1.span W.po ha
  clear b1
  -- many, both
  refine ⟨_, rfl, _, rfl, t, n, rfl, n0, n1, _, rfl, _, rfl, t, some n, rfl, _, _, rfl, ?_⟩
  -- the first if
  refine ⟨_, rfl, _, rfl, a, t, rfl, ha1, true, rfl, ifn rfl ?_⟩
  obtain ⟨_, dx, e1⟩ := id ha1
  have psz : ∀ z : V, sz (V.int n) = false → False := fun _ z => absurd (of_decide_eq_false z) (by simpa using n0)
  refine ⟨_, rfl, _, rfl, a, dx, _, rfl, rfl, e1, a, t, .int n, rfl, ha1, rfl, fun m em m0 => ?_, fun z => (psz .non z).elim⟩
  cases em
  refine ⟨n1, fun b2 H2 x2 y2 h2 => ⟨_, rfl, b2, mulO t n, rfl, h2, true, rfl, ifn rfl ?_⟩⟩
  have m2 := m1.trans (W1.same x2)
  have ha2 := m2.span W.po ha
  obtain ⟨_, dx2, e2⟩ := id ha2
  refine ⟨_, rfl, _, rfl, a, dx2, _, rfl, rfl, e2, a, t, .int n, rfl, ha2, rfl, fun m em m0 => ?_, fun z => (psz .non z).elim⟩
  cases em
  refine ⟨n1, fun b3 H3 x3 y3 h3 => ⟨_, rfl, b3, mulO t n, rfl, h3, true, rfl, ifn rfl ?_⟩⟩
  have m3 := m2.trans ((W.go m2).same x3)
  have ha3 := m3.span W.po ha
  obtain ⟨_, dx3, e3⟩ := id ha3
  -- the second if
  refine ⟨_, rfl, _, rfl, a, dx3, _, rfl, rfl, e3, a, t, .int n, some (some n), rfl, ha3, .int n0, fun u eu => ?_, fun z => nomatch z⟩
  cases eu
  intro b4 H4 x4 y4 h4
  refine ⟨_, rfl, b4, addO t (some n), rfl, h4, true, rfl, ifn rfl ?_⟩
  have m4 := m3.trans ((W.go m3).same x4)
  have ha4 := m4.span W.po ha
  obtain ⟨_, dx4, e4⟩ := id ha4
  refine ⟨_, rfl, _, rfl, a, dx4, _, rfl, rfl, e4, a, t, .int n, some (some n), rfl, ha4, .int n0, fun u eu => ?_, fun z => nomatch z⟩
  cases eu
  intro b5 H5 x5 y5 h5
  refine ⟨_, rfl, b5, addO t (some n), rfl, h5, true, rfl, ifn rfl ?_⟩
  have m5 := m4.trans ((W.go m4).same x5)
  have ha5 := m5.span W.po ha
  obtain ⟨_, dx5, e5⟩ := id ha5
  refine ⟨_, rfl, _, rfl, ?_⟩
  have orr : ∀ Q' : VK, Q' (.bl false) H5 → (rRight CS "int" (spEq CS) E0 (.ref a) (tv t) H5 Q' ∨ rRight CS "NoneType" (spEq CS) E0 (.ref a) (tv t) H5 Q') := fun Q' hq => by
    cases t with
    | none => exact .inr ⟨a, dx5, _, rfl, rfl, e5, a, none, .non, rfl, ha5, .inr ⟨rfl, hq⟩⟩
    | some i => exact .inl ⟨a, dx5, _, rfl, rfl, e5, a, some i, .int i, rfl, ha5, .inr ⟨rfl, hq⟩⟩
  refine orr _ ⟨_, rfl, ifn rfl ?_⟩
  refine ⟨_, rfl, a, dx5, _, rfl, rfl, e5, a, t, _, rfl, ha5, .inr ⟨rfl, _, rfl, ifn rfl ?_⟩⟩
  -- for other, b
  have W5 := W.go m5
  refine ⟨_, rfl, _, rfl, lt, ls, _, _, rfl, SqL.of W5.tm, SqL.of W5.sp, zip_loop (K := K) (a := lt) (b := ls) (xs := ts.map tv) (ys := al.map V.ref) (by rw [List.length_map, List.length_map]; exact W.ln)
    (fun i σ H' => ∃ d10 d11, σ = [c0, c1, some (.ref p), some (.ref lt), c4, some (.ref ls), some (tv t), some (.int n), some (tv (mulO t n)), some (tv (addO t (some n))), d10, d11, c12, some (.ref a), c14] ∧ Mv (Tl Pt) p H H')
    ⟨c10, c11, rfl, m5⟩ (fun i σ H' ⟨_, _, _, m⟩ => ⟨SqL.of (W.go m).tm, SqL.of (W.go m).sp⟩) ?_ ?_⟩
  · rintro i x y TT σ H' hx hy ⟨d10, d11, rfl, m⟩ hT
    rw [List.getElem?_map] at hx hy
    cases et : ts[i]? with
    | none => rw [et] at hx; cases hx
    | some u =>
      cases eb : al[i]? with
      | none => rw [eb] at hy; cases hy
      | some b =>
        rw [et] at hx
        rw [eb] at hy
        cases hx
        cases hy
        have Wm := W.go m
        have mT := m.trans (Wm.same (same_new (o := .tup [tv u, V.ref b]) hT))
        refine ⟨TT, _, rfl, SqT.of upd_same, rfl, ?_⟩
        refine ⟨_, _, rfl, _, _, rfl, rfl, a, b, t, u, rfl, rfl, rfl, rfl, mT.span W.po ha, (W.go mT).ok i b u eb et, fun H2 x2 => ?_⟩
        exact ⟨_, _, rfl, mT.trans ((W.go mT).same x2)⟩
  · rintro σ H' ⟨d10, d11, rfl, m⟩
    have Wm := W.go m
    -- for value
    refine ⟨_, rfl, (by show 4 ≤ sizeLine; decide), fun l hl => ?_⟩
    have mL := m.trans (Wm.same (same_new (o := .lst [.int (-1), .bl true, .non, .str "1"]) hl))
    refine ⟨l, rfl, ⟨_, SqL.of upd_same⟩, for_list (K := K) (a := l) (xs := [.int (-1), .bl true, .non, .str "1"])
      (fun i σ H' => ∃ d12, σ = [c0, c1, some (.ref p), some (.ref lt), c4, some (.ref ls), some (tv t), some (.int n), some (tv (mulO t n)), some (tv (addO t (some n))), d10, d11, d12, some (.ref a), c14] ∧ Mv (Tl Pt) p H H' ∧ H' l = some (.lst [.int (-1), .bl true, .non, .str "1"]))
      ⟨c12, rfl, mL, upd_same⟩ (fun i σ H' _ ⟨_, _, _, e⟩ => SqL.of e) ?_ ?_⟩
    · rintro i y σ H2 hi ⟨d12, rfl, m2, e2⟩
      have ho : ∃ x, Odd y x := by
        rcases i with _ | _ | _ | _ | i
        · cases hi; exact ⟨_, .neg⟩
        · cases hi; exact ⟨_, .tr⟩
        · cases hi; exact ⟨_, .non⟩
        · cases hi; exact ⟨_, .str⟩
        · simp at hi
      obtain ⟨x, ho⟩ := ho
      refine ⟨a, t, y, x, [c0, c1, some (.ref p), some (.ref lt), c4, some (.ref ls), some (tv t), some (.int n), some (tv (mulO t n)), some (tv (addO t (some n))), d10, d11], c14, rfl, rfl, m2.span W.po ha, ho, m2.tb, fun H3 x3 t3 => ?_⟩
      exact ⟨_, rfl, m2.trans (mv_ext m2.po x3 t3), x3 _ _ e2 (fun ps z => by cases z)⟩
    · rintro σ H2 ⟨d12, rfl, m2, e2⟩
      exact k _ _ _ _ _ _ _ _ H2 m2
end
end K1

set_option maxHeartbeats 16000000
namespace K1
open PySem PySem.Spec PyProof.Rows L2 OwnO LamX
/-- but for the pool, a list and the tables all stands -/
def Kp2 (p l : Addr) (H H' : Hp) : Prop := ∀ b o, b ≠ p → b ≠ l → (∀ ps, o ≠ .tbl ps) → H b = some o → H' b = some o
def preTurn (Pt : Addr) : TS := fun D σ H => ∃ (c0 c1 c4 : Option V) (r : List (Option V)) (p lt : Addr) (ts : List (Option Int)), σ = c0 :: c1 :: some (.ref p) :: some (.ref lt) :: c4 :: r ∧ PoolAt H p ∧ Tabs (Tl Pt) H ∧ H lt = some (.lst (ts.map tv)) ∧ lt ≠ p ∧ ts.length ≤ 10 ∧
  ∀ t H', NN t → PoolAt H' p → Tabs (Tl Pt) H' → H' lt = some (.lst ((ts ++ [t]).map tv)) → Kp2 p lt H H' → D.nx σ H'
section
variable {P : Program} {w : World} {K : PySem.W.Frag} {mg : Str → Option Value} {base : Heap} {CS CE fE : Addr}
theorem tabs_lst {T : List (Addr × Str)} {H : Hp} {l : Addr} {xs ys : List V} (ht : Tabs T H) (h : H l = some (.lst xs)) : Tabs T (upd H l (.lst ys)) := fun x hx => by
  have ne : ∀ {a : Addr} {o : HO}, H a = some o → (∀ xs, o ≠ .lst xs) → a ≠ l := fun {a o} e n z => by rw [z, h] at e; exact n _ (Option.some.inj e).symm
  obtain ⟨ps, h1, h2, h3⟩ := ht x hx
  refine ⟨ps, by rw [upd_ne (ne h1 (fun xs z => by cases z))]; exact h1, h2, fun pos cv hc => ?_⟩
  obtain ⟨c, e1, e2⟩ := h3 pos cv hc
  exact ⟨c, e1, by rw [upd_ne (ne e2 (fun xs z => by unfold CodeO at z; cases z))]; exact e2⟩
theorem blk_turn {f : Addr} {cdv : Value} {A : Around} {outer : List Env} {s : Shared} {H0 : Hp} {E : XK} {Pt fC fD : Addr} {fdC fdD : FuncData} (L : LawTxt K mg CS) (DC : Df K mg "_law_choose" sChoose ["pool", "items"] fC fdC) (DD : Df K mg "_law_draw" sDraw ["pool", "many"] fD fdD)
    (hr : Room 9 (A.deeper (envOfC "law" (defScope sLaw) s.heap.objs.size f cdv))) : PSs (cxOf CX0 P w K mg base NL "law" (defScope sLaw) f cdv A outer s H0 E) bTurn (preTurn Pt) := by
  have GC : FnOk P w K mg base CX0 2 fC fdC ["pool", "items"] spChoose := ok_choose DC.fn ⟨L.len, L.int⟩ DD
  have GD : FnOk P w K mg base CX0 1 fD fdD ["pool", "many"] spDraw := ok_draw DD.fn ⟨L.len, L.int⟩
  have r2 := hr.mono (show 2 ≤ 9 by decide)
  have r1 := hr.mono (show 1 ≤ 9 by decide)
  refine pss_pre (pss_one (ps_expr (pe_bm PySem.F.plainAttrs_list PySem.F.slot_list_append PySem.F.type_list_append mt_append (pv 3) (pa_cons (pe_call GC r2 (by rfl) DC.gl DC.fn.kp DC.bd .nil pass0 (pa_cons (pv 2) (pa_cons (pe_lst
    (pa_cons (pe_call GD r1 (by rfl) DD.gl DD.fn.kp DD.bd .nil pass0 (pa_cons (pv 2) (pa_cons pe_int pa_nil))) (pa_cons (pe_op op_mul (pe_call GD r1 (by rfl) DD.gl DD.fn.kp DD.bd .nil pass0 (pa_cons (pv 2) (pa_cons (pe_op op_pow pe_int pe_int) pa_nil))) (pe_op op_pow pe_int pe_int)) (pa_cons pe_int (pa_cons pe_non pa_nil))))) pa_nil))) pa_nil)))) ?_
  rintro D σ H ⟨c0, c1, c4, r, p, lt, ts, rfl, hp, ht, hm, hn, hl, k⟩
  refine ⟨_, rfl, .inl ⟨rfl, _, SqL.of hm⟩, _, rfl, _, rfl, p, _, rfl, hp, (by decide), (by decide), fun d H1 d0 d1 b1 => ?_⟩
  have m1 : Mv (Tl Pt) p H H1 := mv_but hp ht b1
  refine ⟨_, rfl, _, _, rfl, rfl, ⟨by decide, by decide, by decide⟩, p, _, rfl, m1.po, (by decide), (by decide), fun d2 H2 e0 e1 b2 => ?_⟩
  have m2 : Mv (Tl Pt) p H H2 := m1.trans (mv_but m1.po m1.tb b2)
  have e2 : d2 < 1000000000 := e1
  refine ⟨_, _, rfl, rfl, ⟨by decide, by decide, by decide⟩, _, _, rfl, rfl, .inl ⟨by omega, by omega⟩, (by show 4 ≤ sizeLine; decide), fun l hl0 => ?_⟩
  have m3 : Mv (Tl Pt) p H (upd H2 l (.lst [.int d, .int (d2 * 10 ^ (20 : Int).toNat), .int 1, .non])) := m2.trans (mv_same m2.po m2.tb (same_new hl0))
  refine ⟨p, l, _, rfl, m3.po, upd_same, (fun z => by rw [z] at hl0; obtain ⟨_, _, e⟩ := m2.po; rw [hl0] at e; cases e), (by show 0 < 4; decide), (by show 4 ≤ 100; decide), fun v hv H3 b3 => ?_⟩
  have m4 : Mv (Tl Pt) p H H3 := m3.trans (mv_but m3.po m3.tb b3)
  obtain ⟨t, rfl, nt⟩ : ∃ t, v = tv t ∧ NN t := by
    simp only [List.mem_cons, List.not_mem_nil, or_false] at hv
    rcases hv with rfl | rfl | rfl | rfl
    · exact ⟨some d, rfl, fun i e => by cases e; exact d0⟩
    · exact ⟨some _, rfl, fun i e => by cases e; exact Int.mul_nonneg e0 (by decide)⟩
    · exact ⟨some 1, rfl, fun i e => by cases e; decide⟩
    · exact ⟨none, rfl, fun i e => by cases e⟩
  have hm4 := m4.lst hn hm
  refine ⟨lt, _, _, rfl, rfl, hm4, (by rw [List.length_map]; exact Nat.lt_of_le_of_lt hl (by decide)), ?_⟩
  refine k t _ nt ?_ (tabs_lst m4.tb hm4) (by rw [List.map_append]; exact upd_same) (fun b o h1 h2 h3 e => by rw [upd_ne h2]; exact m4.kp b o h1 h3 e)
  obtain ⟨c, s', e⟩ := m4.po
  exact ⟨c, s', by rw [upd_ne (Ne.symm hn)]; exact e⟩
end
/-! ### the greatest, two ways -/
theorem better_none (b : Y) : better b none = b := by cases b <;> rfl
theorem fold_snd : ∀ (zs : List (Addr × Option Int)) (b : Y), ((zs.map some).foldl better b).map (·.2) = (zs.map (·.2)).foldl bt (b.map (·.2))
  | [], b => rfl
  | (a, t) :: zs, b => by
    have step : (better b (some (a, t))).map (·.2) = bt (b.map (·.2)) t := by
      cases b with
      | none => rfl
      | some c =>
        obtain ⟨c, s⟩ := c
        show (if ltO s t = true then some (a, t) else some (c, s) : Y).map (·.2) = if ltO s t = true then some t else some s
        split <;> rfl
    show (List.foldl better (better b (some (a, t))) (zs.map some)).map (·.2) = (zs.map (·.2)).foldl bt (bt (b.map (·.2)) t)
    rw [fold_snd zs, step]
theorem fold_ok {CS : Addr} {H : Hp} : ∀ (ys : List Y) (b : Y), YOk CS H b → (∀ y ∈ ys, YOk CS H y) → YOk CS H (ys.foldl better b)
  | [], b, hb, _ => hb
  | y :: ys, b, hb, h => fold_ok ys (better b y) (better_ok hb (h y (List.mem_cons_self ..))) fun z hz => h z (List.mem_cons_of_mem _ hz)
end K1

set_option maxHeartbeats 16000000
namespace K1
open PySem PySem.Spec PyProof.Rows L2 OwnO LamX
/-! ### the end of a turn: the greatest, the wrong values -/
theorem better_none' (y : Y) : better none y = y := by cases y <;> rfl
theorem bt_some : ∀ (ts : List (Option Int)) (b : Option Int), ∃ c, ts.foldl bt (some b) = some c
  | [], b => ⟨b, rfl⟩
  | t :: ts, b => by
    show ∃ c, ts.foldl bt (bt (some b) t) = some c
    cases h : ltO b t with
    | true => rw [bt_t h]; exact bt_some ts t
    | false => rw [bt_f h]; exact bt_some ts b
/-- the greatest of [None] + spans + [None], as the law tells it of the times -/
theorem great_is {CS : Addr} {H : Hp} (al : List Addr) (ts : List (Option Int)) (hl : ts.length = al.length) (hne : ts ≠ []) (ok : ∀ (i : Nat) (a : Addr) (t : Option Int), al[i]? = some a → ts[i]? = some t → SpAt CS H a t) :
    ∃ ys : List Y, ys.map yv = ([.non] ++ al.map V.ref) ++ [.non] ∧ (∀ y ∈ ys, YOk CS H y) ∧ ∃ a b, ys.foldl better none = some (a, b) ∧ ts.foldl bt none = some b ∧ SpAt CS H a b := by
  have zok : ∀ y ∈ (al.zip ts).map (some : Addr × Option Int → Y), YOk CS H y := fun y hy a t e => by
    obtain ⟨q, hq, rfl⟩ := List.mem_map.mp hy
    cases e
    obtain ⟨i, hi⟩ := List.mem_iff_getElem?.mp hq
    rw [List.getElem?_zip_eq_some] at hi
    exact ok i a t hi.1 hi.2
  have nok : YOk CS H none := fun a t e => by cases e
  have m1 : ((al.zip ts).map (some : Addr × Option Int → Y)).map yv = al.map V.ref := by
    rw [List.map_map, ← List.map_fst_zip (l₁ := al) (l₂ := ts) (by omega), List.map_map]
    rw [List.map_fst_zip (l₁ := al) (l₂ := ts) (by omega)]
    rfl
  have m2 : (al.zip ts).map (·.2) = ts := List.map_snd_zip (by omega)
  have fs := fold_snd (al.zip ts) none
  rw [m2] at fs
  have fo := fold_ok ((al.zip ts).map some) none nok zok
  have e0 : ([none] ++ (al.zip ts).map (some : Addr × Option Int → Y) ++ [none]).foldl better none = ((al.zip ts).map some).foldl better none := by
    rw [List.foldl_append, List.foldl_append]
    show better (((al.zip ts).map some).foldl better none) none = _
    exact better_none _
  refine ⟨[none] ++ (al.zip ts).map some ++ [none], ?_, ?_, ?_⟩
  · rw [List.map_append, List.map_append, m1]; rfl
  · intro y hy
    rcases List.mem_append.mp hy with h | h
    · rcases List.mem_append.mp h with h | h
      · obtain rfl := List.mem_singleton.mp h; exact nok
      · exact zok y h
    · obtain rfl := List.mem_singleton.mp h; exact nok
  · rw [e0]
    cases ht : ts with
    | nil => exact (hne ht).elim
    | cons t r =>
      rw [ht] at fs
      obtain ⟨c, hc⟩ := bt_some r t
      have z : (t :: r).foldl bt none = some c := hc
      cases hb : ((al.zip ts).map some).foldl better none with
      | none =>
        rw [ht] at hb
        rw [hb] at fs
        rw [show Option.map (·.2) (none : Y) = none from rfl, z] at fs
        cases fs
      | some ab =>
        obtain ⟨a, b⟩ := ab
        rw [hb] at fo
        rw [ht] at hb
        rw [hb] at fs
        rw [show Option.map (·.2) (none : Y) = none from rfl, z] at fs
        cases fs
        exact ⟨a, b, hb, z, fo a b rfl⟩
/-- a list that is new since H grows -/
theorem mv_new {T : List (Addr × Str)} {p D : Addr} {H H1 H2 : Hp} {ys zs : List V} (m1 : Mv T p H H1) (hD : H1 D = none) (m2 : Mv T p H H2) (hD2 : H2 D = some (.lst ys)) : Mv T p H (upd H2 D (.lst zs)) := by
  refine ⟨fun b o hb ht e => ?_, ?_, tabs_lst m2.tb hD2⟩
  · rw [upd_ne (ne_of_none (m1.kp b o hb ht e) hD)]; exact m2.kp b o hb ht e
  · obtain ⟨c, s, e⟩ := m1.po
    obtain ⟨c', s', e'⟩ := m2.po
    exact ⟨c', s', by rw [upd_ne (ne_of_none e hD)]; exact e'⟩
def preIfs (CS Pt : Addr) : TS := fun D σ H => ∃ (c0 c1 c4 c6 c7 c8 c9 c10 c11 c12 c13 c14 : Option V) (p lt ls : Addr) (ts : List (Option Int)) (al : List Addr),
      σ = [c0, c1, some (.ref p), some (.ref lt), c4, some (.ref ls), c6, c7, c8, c9, c10, c11, c12, c13, c14] ∧ Wf CS Pt p lt ls ts al H ∧ ts ≠ [] ∧ ts.length ≤ 10 ∧
      ∀ (d12 : Option V) H', Mv (Tl Pt) p H H' → D.nx [c0, c1, some (.ref p), some (.ref lt), c4, some (.ref ls), c6, c7, c8, c9, c10, c11, d12, c13, c14] H'
abbrev bIfs : List Stmt := bK.drop 5
section
variable {P : Program} {w : World} {K : PySem.W.Frag} {mg : Str → Option Value} {base : Heap} {CS CE fE : Addr}
theorem blk_ifs {f cc Pt gR fI fG fL : Addr} {A : Around} {outer : List Env} {s : Shared} {H0 : Hp} {E : XK} {fdI fdG fdL fdS : FuncData} {fS : Addr} (T : Txt P K mg CS CE fE) (L : LawTxt K mg CS) (TB : TabB base mg cc Pt) (R : RefAt K mg gR)
    (DI : Df K mg "_law_is" sIs ["span", "time"] fI fdI) (GI : FnOk P w K mg base CX0 2 fI fdI ["span", "time"] (spIs CS))
    (DG : Df K mg "greatest" sGreat ["spans"] fG fdG) (GG : FnOk P w K mg base CX0 3 fG fdG ["spans"] (spGreat K CS))
    (DL : Df K mg "_law_greatest" sLGreat ["times"] fL fdL) (GL : FnOk P w K mg base CX0 2 fL fdL ["times"] (spLGreat K))
    (M : Mk K CS fS) (bS : Binds K fdS ["self", "time"] []) (GS : FnOk P w K mg base (L2.CX P w) 3 fS fdS ["self", "time"] (spSInit CS CE))
    (hr : Room 9 (A.deeper (envOfC "law" (defScope sLaw) s.heap.objs.size f (.ref cc)))) :
    PSs (cxOf CX0 P w K mg base NL "law" (defScope sLaw) f (.ref cc) A outer s H0 E) bIfs (preIfs CS Pt) := by
  obtain ⟨roc, rod, rkV, rdoc, rpm, ran, rcdv, rct, rosl, rlk, rhcd, rbd⟩ := R.lk
  have nd := scLaw.nd
  have r3 := hr.mono (show 3 ≤ 9 by decide)
  have r2 := hr.mono (show 2 ≤ 9 by decide)
  refine pss_pre (pss_cons (ps_if (PW.pt (pw_or (pt_not (pt_val (pe_call GI r2 (by rfl) DI.gl DI.fn.kp DI.bd .nil pass0 (pa_cons
        (pe_call GG r3 (by rfl) DG.gl DG.fn.kp DG.bd .nil pass0 (pa_cons (pe_op op_cat (pe_op op_cat (pe_lst (pa_cons pe_non pa_nil)) (pv 5)) (pe_lst (pa_cons pe_non pa_nil))) pa_nil))
        (pa_cons (pe_ix ix_list (pe_call GL r2 (by rfl) DL.gl DL.fn.kp DL.bd .nil pass0 (pa_cons (pv 3) pa_nil)) pe_int (fun _ _ => rfl)) pa_nil)))))
      (pw_or1 (pt_cmpR op_notN (pe_call GG r3 (by rfl) DG.gl DG.fn.kp DG.bd .nil pass0 (pa_cons (pe_lst (pa_cons pe_non pa_nil)) pa_nil)) pe_non (nomark _))))) (pss_one (ps_ret pe_bl)) pss_nil)
    (pss_one (ps_if (PW.pt (pw_or (pt_cmpR op_notN (pe_call GG r3 (by rfl) DG.gl DG.fn.kp DG.bd .nil pass0 (pa_cons (pe_lst pa_nil) pa_nil)) pe_non (nomark _))
      (pw_or1 (pt_cmpR (op_neD hr.units) (pe_lc (own := [("value", 12)]) (g := gName 12) (tt := tYes) rfl nd (pi_list (pe_lst (pa_cons (pe_un un_neg pe_int) (pa_cons pe_bl pa_nil)))) (blkOk_by (N := NL) (sc := defScope sLaw) (by decide +kernel))
          (fun s2 H2 C cl fp => pg_name (i := 12) nd rfl (Or.inr rfl)) (fun s2 H2 C cl fp => pts_nil)
          (fun s2 H2 C cl fp => pe_lamcall (T := Tl Pt) (k := 4) (by rfl) R.gl R.kp rlk rhcd rbd scRef rfl (Or.inl rfl) (refused_gives T L.repr) TB rfl (List.mem_singleton.mpr rfl) (fun p hp _ => by rw [List.mem_singleton.mp hp]; rfl) (hr.mono (show 6 ≤ 9 by decide)) (show LamS (relS _ (defScope sLaw)) _ from lamS_by (by decide +kernel)) rfl (fun _ _ _ _ _ => rfl)
            (fun A outer s H E f c' hr' => pe_make M GS hr' (by rfl) T.gS bS .nil (passE (takes_of rfl rfl rfl rfl)) (pa_cons (pv 12) pa_nil))))
        (pe_lst (pa_cons pe_str (pa_cons pe_str pa_nil))) (nomark _))))) (pss_one (ps_ret pe_bl)) pss_nil))) ?_
  rintro D σ H ⟨c0, c1, c4, c6, c7, c8, c9, c10, c11, c12, c13, c14, p, lt, ls, ts, al, rfl, W, hne, hlen, k⟩
  -- greatest([None] + spans + [None])
  have hal : al.length ≤ 10 := by rw [← W.ln]; exact hlen
  refine ⟨(by show 1 ≤ sizeLine; decide), fun l1 h1 => ⟨_, rfl, ?_⟩⟩
  have m1 := W.same (same_new (o := .lst [.non]) h1)
  have W1 := W.go m1
  have n1 : ls ≠ l1 := ne_of_none W.sp h1
  have s12 : 12 ≤ sizeLine := by decide
  have z1 : ([V.non] : List V).length + (al.map V.ref).length ≤ sizeLine := by
    rw [List.length_map, List.length_singleton]
    omega
  have z2 : ([V.non] ++ al.map V.ref).length + ([V.non] : List V).length ≤ sizeLine := by
    rw [List.length_append, List.length_map, List.length_singleton]
    omega
  refine ⟨l1, ls, _, _, rfl, rfl, upd_same, W1.sp, z1, fun l2 h2 => ?_⟩
  have m2 := m1.trans (W1.same (same_new (o := .lst ([.non] ++ al.map V.ref)) h2))
  have W2 := W.go m2
  refine ⟨(by show 1 ≤ sizeLine; decide), fun l3 h3 => ?_⟩
  have m3 := m2.trans (W2.same (same_new (o := .lst [.non]) h3))
  have W3 := W.go m3
  have n3 : l2 ≠ l3 := ne_of_none upd_same h3
  refine ⟨l2, l3, _, _, rfl, rfl, (by rw [upd_ne n3]; exact upd_same), upd_same, z2, fun l4 h4 => ?_⟩
  have m4 := m3.trans (W3.same (same_new (o := .lst ([.non] ++ al.map V.ref ++ [.non])) h4))
  have W4 := W.go m4
  obtain ⟨ys, e1, e2, ga, gb, e3, e4, e5⟩ := great_is al ts W.ln hne W4.ok
  refine ⟨l4, ys, rfl, SqL.of (by rw [e1]; exact upd_same), e2, fun H5 x5 => ?_⟩
  have m5 := m4.trans (W4.same x5)
  have W5 := W.go m5
  rw [e3]
  refine ⟨_, rfl, lt, ts, rfl, SqL.of W5.tm, hne, fun b q H6 eb x6 hq => ?_⟩
  obtain rfl : gb = b := by rw [e4] at eb; exact Option.some.inj eb
  have m6 := m5.trans (W5.same x6)
  have W6 := W.go m6
  refine ⟨q, _, _, _, rfl, rfl, SqL.of hq, atI_nat (j := 0) rfl, ga, gb, rfl, (e5.same x5).same x6, true, rfl, ifn rfl ?_⟩
  -- greatest([None])
  refine ⟨(by show 1 ≤ sizeLine; decide), fun l5 h5 => ?_⟩
  have m7 := m6.trans (W6.same (same_new (o := .lst [.non]) h5))
  have W7 := W.go m7
  refine ⟨l5, [none], rfl, SqL.of upd_same, (fun y hy a t e => by obtain rfl := List.mem_singleton.mp hy; cases e), fun H8 x8 => ⟨rfl, _, rfl, ifn rfl ?_⟩⟩
  have m8 := m7.trans (W7.same x8)
  have W8 := W.go m8
  -- greatest([])
  refine ⟨(by show 0 ≤ sizeLine; decide), fun l6 h6 => ?_⟩
  have m9 := m8.trans (W8.same (same_new (o := .lst []) h6))
  have W9 := W.go m9
  refine ⟨l6, [], rfl, SqL.of upd_same, (fun y hy => by cases hy), fun H10 x10 => ⟨rfl, _, rfl, ifn rfl ?_⟩⟩
  have m10 := m9.trans (W9.same x10)
  have W10 := W.go m10
  -- the two wrong values
  refine ⟨_, rfl, (by show 2 ≤ sizeLine; decide), fun l7 h7 => ?_⟩
  have m11 := m10.trans (W10.same (same_new (o := .lst [.int (-1), .bl true]) h7))
  have W11 := W.go m11
  refine ⟨l7, rfl, ⟨_, SqL.of upd_same⟩, fun Dl hD => ?_⟩
  have n7 : l7 ≠ Dl := ne_of_none upd_same hD
  have m12 := m11.trans (W11.same (same_new (o := .lst []) hD))
  refine lc_list (K := K) (a := l7) (xs := [.int (-1), .bl true])
    (fun i H' => Mv (Tl Pt) p H H' ∧ H' l7 = some (.lst [.int (-1), .bl true]) ∧ H' Dl = some (.lst (([.str "-1", .str "True"] : List V).take i)))
    ⟨m12, by rw [upd_ne n7]; exact upd_same, upd_same⟩ (fun i H' _ ⟨_, e, _⟩ => SqL.of e) ?_ ?_
  · rintro i v H' hi ⟨m, el, eD⟩
    obtain ⟨x, ho, hi2, hv⟩ : ∃ x, Odd v x ∧ (([.str "-1", .str "True"] : List V).take (i + 1)) = (([.str "-1", .str "True"] : List V).take i) ++ [.str x] ∧ v ≠ .non := by
      rcases i with _ | _ | i
      · cases hi; exact ⟨_, .neg, rfl, by simp⟩
      · cases hi; exact ⟨_, .tr, rfl, by simp⟩
      · simp at hi
    obtain ⟨hk, hz⟩ := ho.bad
    refine ⟨rfl, ?_⟩
    refine ⟨m.tb, fun H1 x1 t1 => ?_⟩
    refine ⟨_, rfl, fun o dx nx nd ne => ?_⟩
    refine ⟨o, dx, v, rfl, upd_same, hk, .inr ⟨hv, hz, fun d H2 s2 eq => ?_⟩⟩
    have sm : Same H1 H2 := fun b u q => s2 _ _ (by rw [upd_ne (ne_of_none q nx), upd_ne (ne_of_none q nd)]; exact q)
    refine ⟨rfl, d, v, x, rfl, eq, ho.rep, ?_⟩
    have ex : ExtN H' H2 := x1.trans (.of sm)
    have eD2 := ex _ _ eD (fun ps z => by cases z)
    have el2 := ex _ _ el (fun ps z => by cases z)
    have mm := m.trans (mv_ext m.po ex (t1.ext sm))
    refine ⟨_, eD2, ?_, ?_, ?_, ?_⟩
    · have q : (([.str "-1", .str "True"] : List V).take i).length ≤ 2 := by rw [List.length_take]; exact Nat.min_le_right _ _
      omega
    · exact mv_new m11 hD mm eD2
    · rw [upd_ne n7]; exact el2
    · rw [hi2]; exact upd_same
  · rintro H' ⟨m, _, eD⟩
    refine ⟨(by show 2 ≤ sizeLine; decide), fun l8 h8 => ?_⟩
    have n8 : Dl ≠ l8 := ne_of_none eD h8
    refine ⟨.list [.str "-1", .str "True"], .list [.str "-1", .str "True"], .lst (SqL.of ((upd_ne n8).trans eD)) (.cons (.str _) (.cons (.str _) .nil)), .lst (SqL.of upd_same) (.cons (.str _) (.cons (.str _) .nil)), (by decide +kernel), (by decide +kernel), _, rfl, ifn (by decide +kernel) ?_⟩
    exact k c12 _ (m.trans ((W.go m).same (same_new h8)))
end
end K1

set_option maxHeartbeats 16000000
namespace K1
open PySem PySem.Spec PyProof.Rows L2 OwnO LamX
/-! ### a turn of the law's loop -/
/-- nothing but a table may have stood there -/
def NT (H : Hp) (d : Addr) : Prop := ∀ o, H d = some o → ∃ ps, o = .tbl ps
theorem nt_of {H0 H : Hp} {d : Addr} (e : ExtN H0 H) (n : H d = none) : NT H0 d := fun o h => by
  cases o with
  | tbl ps => exact ⟨ps, rfl⟩
  | _ => have z := e d _ h (fun ps q => by cases q); rw [n] at z; cases z
theorem ext_upd {H0 H : Hp} {d : Addr} {o : HO} (e : ExtN H0 H) (n : NT H0 d) : ExtN H0 (upd H d o) := fun b u h ht => by
  have ne : b ≠ d := fun z => by rw [z] at h; obtain ⟨ps, q⟩ := n u h; exact ht ps q
  rw [upd_ne ne]; exact e b u h ht
theorem ext_kp {H0 H H' : Hp} {p : Addr} (e : ExtN H0 H) (n : NT H0 p) (k : Kp p H H') : ExtN H0 H' := fun b u h ht =>
  k b u (fun z => by rw [z] at h; obtain ⟨ps, q⟩ := n u h; exact ht ps q) ht (e b u h ht)
theorem ext_kp2 {H0 H H' : Hp} {p l : Addr} (e : ExtN H0 H) (n : NT H0 p) (m : NT H0 l) (k : Kp2 p l H H') : ExtN H0 H' := fun b u h ht =>
  k b u (fun z => by rw [z] at h; obtain ⟨ps, q⟩ := n u h; exact ht ps q) (fun z => by rw [z] at h; obtain ⟨ps, q⟩ := m u h; exact ht ps q) ht (e b u h ht)
theorem ext_sq {K : PySem.W.Frag} {H0 H : Hp} {a : Addr} {xs : List V} (h : SqL K H0 a xs) (e : ExtN H0 H) : SqL K H a xs := by
  rcases h with (h | ⟨o, h⟩) | h
  · exact .inl (.inl (e _ _ h (fun ps z => by cases z)))
  · exact .inl (.inr ⟨o, e _ _ h (fun ps z => by cases z)⟩)
  · exact .inr h
/-- spans so far: the first of the times -/
structure Wq (CS Pt p lt ls : Addr) (ts : List (Option Int)) (al : List Addr) (H : Hp) : Prop where
  po : PoolAt H p
  tb : Tabs (Tl Pt) H
  tm : H lt = some (.lst (ts.map tv))
  sp : H ls = some (.lst (al.map V.ref))
  tp : lt ≠ p
  sq : ls ≠ p
  tl : lt ≠ ls
  ok : ∀ (i : Nat) (a : Addr) (t : Option Int), al[i]? = some a → ts[i]? = some t → SpAt CS H a t
theorem Wq.push {CS Pt p lt ls b : Addr} {ts : List (Option Int)} {al : List Addr} {H H' : Hp} {t : Option Int} (W : Wq CS Pt p lt ls ts al H) (s : Same H H') (hb : SpAt CS H' b t) (ht : ts[al.length]? = some t) :
    Wq CS Pt p lt ls ts (al ++ [b]) (upd H' ls (.lst (al.map V.ref ++ [.ref b]))) := by
  have sp' := s _ _ W.sp
  have nsp : ∀ {a : Addr} {t : Option Int}, SpAt CS H' a t → SpAt CS (upd H' ls (.lst (al.map V.ref ++ [.ref b]))) a t := fun {a t} h => by
    obtain ⟨n, dx, e⟩ := h
    exact ⟨n, dx, by rw [upd_ne (fun z => by rw [z, sp'] at e; cases e)]; exact e⟩
  refine ⟨?_, tabs_lst (W.tb.ext s) sp', ?_, ?_, W.tp, W.sq, W.tl, fun i a u h1 h2 => ?_⟩
  · obtain ⟨c, d, e⟩ := pool_same W.po s
    exact ⟨c, d, by rw [upd_ne (Ne.symm W.sq)]; exact e⟩
  · rw [upd_ne W.tl]; exact s _ _ W.tm
  · rw [List.map_append]; exact upd_same
  · by_cases hi : i < al.length
    · rw [List.getElem?_append_left hi] at h1
      exact nsp ((W.ok i a u h1 h2).same s)
    · have hi2 : i = al.length := by
        have := (List.getElem?_eq_some_iff.mp h1).1
        rw [List.length_append, List.length_singleton] at this
        omega
      subst hi2
      rw [List.getElem?_append_right (Nat.le_refl _), Nat.sub_self] at h1
      rw [ht] at h2
      cases h1
      cases h2
      exact nsp hb
theorem Wq.full {CS Pt p lt ls : Addr} {ts : List (Option Int)} {al : List Addr} {H : Hp} (W : Wq CS Pt p lt ls ts al H) (h : ts.length = al.length) : Wf CS Pt p lt ls ts al H := ⟨W.po, W.tb, W.tm, W.sp, W.tp, W.sq, h, W.ok⟩
def preK (K : PySem.W.Frag) (CS Pt : Addr) : TS := fun D σ H => ∃ (a : Addr) (ns : List Int) (k : Nat) (c2 c3 c4 c5 c6 c7 c8 c9 c10 c11 c12 c13 c14 : Option V),
      σ = [some (.ref a), some (.int k), c2, c3, c4, c5, c6, c7, c8, c9, c10, c11, c12, c13, c14] ∧ SqL K H a (ns.map V.int) ∧ k ≤ 5 ∧ Tabs (Tl Pt) H ∧
      ∀ (c1 c2 c3 c4 c5 c6 c7 c8 c9 c10 c11 c12 c13 c14 : Option V) H', SqL K H' a (ns.map V.int) → Tabs (Tl Pt) H' → D.nx [some (.ref a), c1, c2, c3, c4, c5, c6, c7, c8, c9, c10, c11, c12, c13, c14] H'
/-- all that the law's turn asks of the text -/
structure AllOf (P : Program) (w : World) (K : PySem.W.Frag) (base : Heap) (mg : Str → Option Value) (CS CE : Addr) : Prop where
  er : ∃ fE, Txt P K mg CS CE fE
  ops : Ops K CS
  law : LawTxt K mg CS
  ari : Ari P w K base mg CS CE
  cmp : Cmps P w K base mg CS
  ref : ∃ g, RefAt K mg g
  make : ∃ f fd, Mk K CS f ∧ Binds K fd ["self", "time"] [] ∧ FnOk P w K mg base (L2.CX P w) 3 f fd ["self", "time"] (spSInit CS CE)
  pool : ∃ f fd, Df K mg "_law_pool" sPool ["script", "k"] f fd ∧ FnOk P w K mg base CX0 1 f fd ["script", "k"] (spPool K)
  choose : ∃ f fd, Df K mg "_law_choose" sChoose ["pool", "items"] f fd
  draw : ∃ f fd, Df K mg "_law_draw" sDraw ["pool", "many"] f fd
  span : ∃ f fd, Df K mg "_law_span" sLSpan ["time"] f fd ∧ FnOk P w K mg base CX0 6 f fd ["time"] (spLSpan CS)
  sum : ∃ f fd, Df K mg "_law_sum" sSum ["one", "other"] f fd
  times : ∃ f fd, Df K mg "_law_times" sTimes ["one", "n"] f fd
  isT : ∃ f fd, Df K mg "_law_is" sIs ["span", "time"] f fd ∧ FnOk P w K mg base CX0 2 f fd ["span", "time"] (spIs CS)
  ord : ∃ f fd, Df K mg "_law_ordered" sOrd ["one", "other"] f fd ∧ FnOk P w K mg base CX0 7 f fd ["one", "other"] spOrd
  great : ∃ f fd, Df K mg "greatest" sGreat ["spans"] f fd ∧ FnOk P w K mg base CX0 3 f fd ["spans"] (spGreat K CS)
  lgreat : ∃ f fd, Df K mg "_law_greatest" sLGreat ["times"] f fd ∧ FnOk P w K mg base CX0 2 f fd ["times"] (spLGreat K)
section
variable {P : Program} {w : World} {K : PySem.W.Frag} {mg : Str → Option Value} {base : Heap} {CS CE : Addr}
theorem blk_k {f cc Pt : Addr} {A : Around} {outer : List Env} {s : Shared} {H0 : Hp} {E : XK} (G : AllOf P w K base mg CS CE) (TB : TabB base mg cc Pt)
    (hr : Room 9 (A.deeper (envOfC "law" (defScope sLaw) s.heap.objs.size f (.ref cc)))) :
    PSs (cxOf CX0 P w K mg base NL "law" (defScope sLaw) f (.ref cc) A outer s H0 E) bK (preK K CS Pt) := by
  obtain ⟨fE, T⟩ := G.er
  obtain ⟨gR, R⟩ := G.ref
  obtain ⟨fS, fdS, M, bS, GS⟩ := G.make
  obtain ⟨fP, fdP, DP, GP⟩ := G.pool
  obtain ⟨fC, fdC, DC⟩ := G.choose
  obtain ⟨fD, fdD, DD⟩ := G.draw
  obtain ⟨fN, fdN, DN, GN⟩ := G.span
  obtain ⟨fU, fdU, DU⟩ := G.sum
  obtain ⟨fM, fdM, DM⟩ := G.times
  obtain ⟨fI, fdI, DI, GI⟩ := G.isT
  obtain ⟨fO, fdO, DO, GO⟩ := G.ord
  obtain ⟨fG, fdG, DG, GG⟩ := G.great
  obtain ⟨fL, fdL, DL, GL⟩ := G.lgreat
  have nd := scLaw.nd
  have r6 := hr.mono (show 6 ≤ 9 by decide)
  have r1 := hr.mono (show 1 ≤ 9 by decide)
  refine pss_pre (pss_cons (ps_set (i := 2) nd rfl (Or.inl rfl) (pe_call GP r1 (by rfl) DP.gl DP.fn.kp DP.bd .nil pass0 (pa_cons (pv 0) (pa_cons (pv 1) pa_nil))))
    (pss_cons (ps_set (i := 3) nd rfl (Or.inl rfl) (pe_lst pa_nil))
    (pss_cons (ps_for (passes_of rfl) rfl (pi_range1 (by rfl) G.law.range (pa_cons pe_int pa_nil)) (pg_name (i := 4) nd rfl (Or.inl rfl)) (blk_turn (Pt := Pt) G.law DC DD hr))
    (pss_cons (ps_setLc (i := 5) (own := [("time", 14)]) (g := gName 14) (tt := tYes) rfl nd rfl rfl (sw_true rfl rfl rfl (by decide +kernel)) (pi_list (pv 3)) (blkOk_by (N := NL) (sc := defScope sLaw) (by decide +kernel))
        (fun s2 H2 C cl fp => pg_name (i := 14) nd rfl (Or.inl rfl)) (fun s2 H2 C cl fp => pts_nil)
        (fun s2 H2 C cl fp => pe_call GN r6 (by rfl) DN.gl DN.fn.kp DN.bd .nil pass0 (pa_cons (pv 14) pa_nil)))
    (pss_cons (ps_for (passes_of rfl) rfl (pi_zip (by rfl) G.law.zip (pa_cons (pv 3) (pa_cons (pv 5) pa_nil))) (pg_tup rfl (pgs_cons (pg_name (i := 6) nd rfl (Or.inl rfl)) (pgs_cons (pg_name (i := 13) nd rfl (Or.inr rfl)) pgs_nil)))
        (blk_zip T G.ops G.law G.ari G.cmp TB R DO GO DI GI DU DM DC DD hr))
    (show PSs _ bIfs _ from blk_ifs T G.law TB R DI GI DG GG DL GL M bS GS hr)))))) ?_
  rintro D σ H ⟨a, ns, kk, c2, c3, c4, c5, c6, c7, c8, c9, c10, c11, c12, c13, c14, rfl, hS, hk, ht, k⟩
  -- the pool, the times
  refine ⟨_, rfl, _, rfl, a, ns, kk, rfl, hS, hk, fun p H1 s1 np hp => ?_⟩
  have x1 : ExtN H H1 := .of s1
  have t1 := ht.ext s1
  have nP : NT H p := fun o h => by rw [np] at h; cases h
  refine ⟨(by show 0 ≤ sizeLine; decide), fun lt hlt => ?_⟩
  have nL : NT H lt := nt_of x1 hlt
  have ltp : lt ≠ p := fun z => by rw [z] at hlt; obtain ⟨_, _, e⟩ := hp; rw [hlt] at e; cases e
  refine ⟨3, rfl, by decide, by decide, for_range (lo := 0) (n := (3 : Int).toNat) (fun i σ H' => ∃ (d4 : Option V) (ts : List (Option Int)), σ = [some (.ref a), some (.int kk), some (.ref p), some (.ref lt), d4, c5, c6, c7, c8, c9, c10, c11, c12, c13, c14] ∧ ts.length = i ∧ (∀ t ∈ ts, NN t) ∧ PoolAt H' p ∧ Tabs (Tl Pt) H' ∧ H' lt = some (.lst (ts.map tv)) ∧ ExtN H H')
    ⟨c4, [], rfl, rfl, (fun t z => by cases z), pool_same hp (same_new hlt), t1.ext (same_new hlt), upd_same, ext_upd x1 nL⟩ ?_ ?_⟩
  · rintro i σ H' hi ⟨d4, ts, rfl, hl, hn, po, tb, tm, ex⟩
    have hi3 : i < 3 := hi
    refine ⟨_, _, _, _, p, lt, ts, rfl, po, tb, tm, ltp, by omega, fun t H2 nt po2 tb2 tm2 k2 => ?_⟩
    refine ⟨_, ts ++ [t], rfl, by rw [List.length_append, List.length_singleton, hl], fun u hu => ?_, po2, tb2, tm2, ext_kp2 ex nP nL k2⟩
    rcases List.mem_append.mp hu with z | z
    · exact hn u z
    · obtain rfl := List.mem_singleton.mp z; exact nt
  · rintro σ H2 ⟨d4, ts, rfl, hl, hn, po, tb, tm, x2⟩
    have hl3 : ts.length = 3 := hl
    -- the spans
    refine ⟨_, rfl, lt, rfl, ⟨_, SqL.of tm⟩, fun Dl hD => ?_⟩
    have nD : NT H Dl := nt_of x2 hD
    have n1 : lt ≠ Dl := ne_of_none tm hD
    have n2 : Dl ≠ p := fun z => by rw [z] at hD; obtain ⟨_, _, e⟩ := po; rw [hD] at e; cases e
    refine lc_list (K := K) (a := lt) (xs := ts.map tv) (fun i H' => ∃ al, al.length = i ∧ Wq CS Pt p lt Dl ts al H' ∧ ExtN H H')
      ⟨[], rfl, ⟨pool_same po (same_new hD), tb.ext (same_new hD), by rw [upd_ne n1]; exact tm, upd_same, ltp, n2, n1, fun i b t h1 => by cases h1⟩, ext_upd x2 nD⟩ (fun i H' _ ⟨_, _, W, _⟩ => SqL.of W.tm) ?_ ?_
    · rintro i x H' hi ⟨al, hal, W, ex⟩
      rw [List.getElem?_map] at hi
      cases et : ts[i]? with
      | none => rw [et] at hi; cases hi
      | some t =>
        rw [et] at hi
        cases hi
        have hi3 : i < 3 := by
          have := (List.getElem?_eq_some_iff.mp et).1
          omega
        refine ⟨rfl, ?_⟩
        refine ⟨_, rfl, t, rfl, hn t (List.mem_of_getElem? et), fun b H3 s3 n3 hb => ?_⟩
        refine ⟨_, s3 _ _ W.sp, ?_, al ++ [b], by rw [List.length_append, List.length_singleton, hal], W.push s3 hb (by rw [hal]; exact et), ext_upd (ex.trans (.of s3)) nD⟩
        rw [List.length_map, hal]
        have : 12 ≤ sizeLine := by decide
        omega
    · rintro H3 ⟨al, hal, Wq0, x3⟩
      rw [List.length_map] at hal
      have W := Wq0.full hal.symm
      -- for one, a
      refine ⟨_, rfl, _, rfl, lt, Dl, _, _, rfl, SqL.of W.tm, SqL.of W.sp, zip_loop (K := K) (a := lt) (b := Dl) (xs := ts.map tv) (ys := al.map V.ref) (by rw [List.length_map, List.length_map]; exact W.ln)
        (fun i σ H' => ∃ d6 d7 d8 d9 d10 d11 d12 d13, σ = [some (.ref a), some (.int kk), some (.ref p), some (.ref lt), d4, some (.ref Dl), d6, d7, d8, d9, d10, d11, d12, d13, c14] ∧ Mv (Tl Pt) p H3 H')
        ⟨_, _, _, _, _, _, _, _, rfl, mv_same W.po W.tb (Same.refl H3)⟩ (fun i σ H' ⟨_, _, _, _, _, _, _, _, _, m⟩ => ⟨SqL.of (W.go m).tm, SqL.of (W.go m).sp⟩) ?_ ?_⟩
      · rintro i x y TT σ H' hx hy ⟨d6, d7, d8, d9, d10, d11, d12, d13, rfl, m⟩ hT
        rw [List.getElem?_map] at hx hy
        cases et : ts[i]? with
        | none => rw [et] at hx; cases hx
        | some u =>
          cases eb : al[i]? with
          | none => rw [eb] at hy; cases hy
          | some b =>
            rw [et] at hx
            rw [eb] at hy
            cases hx
            cases hy
            have Wm := W.go m
            have mT := m.trans (Wm.same (same_new (o := .tup [tv u, V.ref b]) hT))
            refine ⟨TT, _, rfl, SqT.of upd_same, rfl, ?_⟩
            refine ⟨_, _, rfl, _, _, rfl, rfl, _, _, _, _, _, _, _, _, _, _, p, lt, Dl, b, u, ts, al, rfl, W.go mT, (W.go mT).ok i b u eb et, fun e6 e7 e8 e9 e10 e11 e12 e13 H4 m4 => ?_⟩
            exact ⟨_, _, _, _, _, _, _, _, rfl, mT.trans m4⟩
      · rintro σ H4 ⟨d6, d7, d8, d9, d10, d11, d12, d13, rfl, m⟩
        refine ⟨_, _, _, _, _, _, _, _, _, _, _, _, p, lt, Dl, ts, al, rfl, W.go m, (fun z => by rw [z] at hl3; cases hl3), by omega, fun e12 H5 m5 => ?_⟩
        exact k _ _ _ _ _ _ _ _ _ _ _ _ _ _ H5 (ext_sq hS (ext_kp x3 nP (m.trans m5).kp)) m5.tb
/-! ### the law -/
def spLaw (K : PySem.W.Frag) (Pt : Addr) : Sp := fun vs H Q _ => ∃ (a : Addr) (ns : List Int), vs = [.ref a] ∧ SqL K H a (ns.map V.int) ∧ Tabs (Tl Pt) H ∧ ∀ H', Q (.bl true) H'
theorem law_run {f cc Pt : Addr} {A : Around} {outer : List Env} {s : Shared} {H : Hp} {vs : List V} {Q : VK} {E : XK} (G : AllOf P w K base mg CS CE) (TB : TabB base mg cc Pt)
    (hr : Room 9 (A.deeper (envOfC "law" (defScope sLaw) s.heap.objs.size f (.ref cc)))) (h : spLaw K Pt vs H Q E) :
    ∃ t, PSs (cxOf CX0 P w K mg base NL "law" (defScope sLaw) f (.ref cc) A outer s H E) (defBody sLaw) t ∧ t { nx := fun _ H' => Q .non H', rt := Q } (L2.start NL vs) H := by
  obtain ⟨a, ns, rfl, hS, ht, q⟩ := h
  have nd := scLaw.nd
  refine ⟨_, pss_cons (ps_for (passes_of rfl) rfl (pi_range1 (by rfl) G.law.range (pa_cons (pe_callB (call_max2 rfl) (by rfl) G.law.max (by decide +kernel) (pa_cons pe_int (pa_cons (pe_callB (call_min2 rfl) (by rfl) G.law.min (by decide +kernel)
      (pa_cons (pe_callB call_len_seq (by rfl) G.law.len PySem.boot_len (pa_cons (pv 0) pa_nil)) (pa_cons pe_int pa_nil))) pa_nil))) pa_nil)) (pg_name (i := 1) nd rfl (Or.inl rfl)) (show PSs _ bK _ from blk_k G TB hr)) (pss_one (ps_ret pe_bl)), ?_⟩
  refine ⟨_, rfl, a, _, rfl, .inl hS, _, _, rfl, _, _, rfl, _, rfl, ?_⟩
  have mx : ∀ n : Int, 0 ≤ (if (if 6 < n then 6 else n) > 1 then (if 6 < n then 6 else n) else 1) ∧ (if (if 6 < n then 6 else n) > 1 then (if 6 < n then 6 else n) else 1) ≤ 6 := fun n => by
    by_cases h : 6 < n
    · rw [if_pos h, if_pos (by decide)]; decide
    · rw [if_neg h]
      by_cases h2 : n > 1
      · rw [if_pos h2]; omega
      · rw [if_neg h2]; decide
  obtain ⟨m0, m6⟩ := mx ((ns.map V.int).length : Int)
  generalize (if (if 6 < ((ns.map V.int).length : Int) then 6 else ((ns.map V.int).length : Int)) > 1 then (if 6 < ((ns.map V.int).length : Int) then 6 else ((ns.map V.int).length : Int)) else 1) = j at m0 m6 ⊢
  refine ⟨by omega, by omega, for_range (lo := 0) (n := j.toNat) (fun i σ H' => (∃ c1 c2 c3 c4 c5 c6 c7 c8 c9 c10 c11 c12 c13 c14 : Option V, σ = [some (.ref a), c1, c2, c3, c4, c5, c6, c7, c8, c9, c10, c11, c12, c13, c14]) ∧ SqL K H' a (ns.map V.int) ∧ Tabs (Tl Pt) H')
    ⟨⟨_, _, _, _, _, _, _, _, _, _, _, _, _, _, rfl⟩, hS, ht⟩ ?_ ?_⟩
  · rintro i σ H' hi ⟨⟨c1, c2, c3, c4, c5, c6, c7, c8, c9, c10, c11, c12, c13, c14, rfl⟩, hS', ht'⟩
    have e0 : (0 : Int) + (i : Nat) = ((i : Nat) : Int) := by omega
    rw [e0]
    exact ⟨a, ns, i, _, _, _, _, _, _, _, _, _, _, _, _, _, rfl, hS', by omega, ht', fun d1 d2 d3 d4 d5 d6 d7 d8 d9 d10 d11 d12 d13 d14 H2 hS2 ht2 => ⟨⟨_, _, _, _, _, _, _, _, _, _, _, _, _, _, rfl⟩, hS2, ht2⟩⟩
  · rintro σ H' _
    exact q H'
end
end K1

open PySem PySem.W PyProof.Rows in
set_option maxHeartbeats 0 in
open_top hd for PySem.Challenge.rw_stoppoints_k01_spans
set_option maxHeartbeats 16000000
namespace K1
open PySem PySem.Spec PyProof.Rows L2 OwnO LamX
section
variable {K : PySem.W.Frag} {h : Heap} {mg : Str → Option Value}
theorem df_ex {x : Str} {st : Stmt} {ps : List Str} {f : Addr} {oc : Value} {od an : Option Addr} {osl : Array (Option Value)} {kV doc pm cdv ct : Value} (X : K.In h) (G : h.Ns mainGlobals mg) (a : PySem.W.nsIn K mainGlobals x = some (some (.ref f)))
    (l : K.lookup f = some ⟨oc, od, .func (PySem.W.fnOf x x (defArgs st) (defBody st) (defScope st) .none kV doc pm an cdv ct), osl⟩) (c : PySem.W.codeIn K cdv x = true) (k : PySem.W.keepIn K (.ref f) = true)
    (hb : ∀ (kV doc pm : Value) (an : Option Addr) (cdv ct : Value) (us : List Value), us.length = ps.length → bindArgs (PySem.W.fnOf x x (defArgs st) (defBody st) (defScope st) .none kV doc pm an cdv ct) ⟨us, []⟩ = pure (ps.zip us)) : ∃ f fd, Df K mg x st ps f fd :=
  ⟨f, _, fun_mk l c k, PySem.W.mg_of X G a, (fun_mk l c k).binds hb⟩
theorem me_ex {C : Addr} {x q : Str} {st : Stmt} {ps : List Str} {f : Addr} {oc : Value} {od an : Option Addr} {osl : Array (Option Value)} {kV doc pm cdv ct : Value} (a : PySem.W.findIn K (.ref C) x = some (some (.ref f))) (i : PySem.W.isFn K (.ref f) = true)
    (l : K.lookup f = some ⟨oc, od, .func (PySem.W.fnOf x q (defArgs st) (defBody st) (defScope st) .none kV doc pm an cdv ct), osl⟩) (c : PySem.W.codeIn K cdv q = true) (k : PySem.W.keepIn K (.ref f) = true)
    (hb : ∀ (kV doc pm : Value) (an : Option Addr) (cdv ct : Value) (us : List Value), us.length = ps.length → bindArgs (PySem.W.fnOf x q (defArgs st) (defBody st) (defScope st) .none kV doc pm an cdv ct) ⟨us, []⟩ = pure (ps.zip us)) : ∃ f fd, Me K C x q st ps f fd :=
  ⟨f, _, fun_mk l c k, a, i, (fun_mk l c k).binds hb⟩
end
theorem fill : (PySem.Challenge.rw_stoppoints_k01_spans = PySem.Challenge.rw_stoppoints_k01_spans) ∧ (hd.heap_39 = hd.heap_39) := by
  k_fill
  exact ⟨rfl, rfl⟩
theorem f_is_whole {w : World} {h : Heap} {mg : Str → Option Value} (X : (hd.heap_39 w.params).In h) (G : h.Ns mainGlobals mg) : ∃ f fd, Df (hd.heap_39 w.params) mg "is_whole" sWhole ["value"] f fd := by
  refine' df_ex X G ?a ?l ?c ?k (fun _ _ _ _ _ _ us hl => match us, hl with | [_], _ => rfl)
  (case a => k_is); (case l => k_is); (case c => k_is); (case k => k_is)
theorem f_is_size {w : World} {h : Heap} {mg : Str → Option Value} (X : (hd.heap_39 w.params).In h) (G : h.Ns mainGlobals mg) : ∃ f fd, Df (hd.heap_39 w.params) mg "is_size" sSize ["value"] f fd := by
  refine' df_ex X G ?a ?l ?c ?k (fun _ _ _ _ _ _ us hl => match us, hl with | [_], _ => rfl)
  (case a => k_is); (case l => k_is); (case c => k_is); (case k => k_is)
theorem f_together {w : World} {h : Heap} {mg : Str → Option Value} (X : (hd.heap_39 w.params).In h) (G : h.Ns mainGlobals mg) : ∃ f fd, Df (hd.heap_39 w.params) mg "together" sTog ["span", "other"] f fd := by
  refine' df_ex X G ?a ?l ?c ?k (fun _ _ _ _ _ _ us hl => match us, hl with | [_, _], _ => rfl)
  (case a => k_is); (case l => k_is); (case c => k_is); (case k => k_is)
theorem f_repeated {w : World} {h : Heap} {mg : Str → Option Value} (X : (hd.heap_39 w.params).In h) (G : h.Ns mainGlobals mg) : ∃ f fd, Df (hd.heap_39 w.params) mg "repeated" sRep ["span", "count"] f fd := by
  refine' df_ex X G ?a ?l ?c ?k (fun _ _ _ _ _ _ us hl => match us, hl with | [_, _], _ => rfl)
  (case a => k_is); (case l => k_is); (case c => k_is); (case k => k_is)
theorem f_check_span {w : World} {h : Heap} {mg : Str → Option Value} (X : (hd.heap_39 w.params).In h) (G : h.Ns mainGlobals mg) : ∃ f fd, Df (hd.heap_39 w.params) mg "check_span" sChk ["other"] f fd := by
  refine' df_ex X G ?a ?l ?c ?k (fun _ _ _ _ _ _ us hl => match us, hl with | [_], _ => rfl)
  (case a => k_is); (case l => k_is); (case c => k_is); (case k => k_is)
theorem f_is_below {w : World} {h : Heap} {mg : Str → Option Value} (X : (hd.heap_39 w.params).In h) (G : h.Ns mainGlobals mg) : ∃ f fd, Df (hd.heap_39 w.params) mg "is_below" sBelow ["span", "other"] f fd := by
  refine' df_ex X G ?a ?l ?c ?k (fun _ _ _ _ _ _ us hl => match us, hl with | [_, _], _ => rfl)
  (case a => k_is); (case l => k_is); (case c => k_is); (case k => k_is)
theorem f_greatest {w : World} {h : Heap} {mg : Str → Option Value} (X : (hd.heap_39 w.params).In h) (G : h.Ns mainGlobals mg) : ∃ f fd, Df (hd.heap_39 w.params) mg "greatest" sGreat ["spans"] f fd := by
  refine' df_ex X G ?a ?l ?c ?k (fun _ _ _ _ _ _ us hl => match us, hl with | [_], _ => rfl)
  (case a => k_is); (case l => k_is); (case c => k_is); (case k => k_is)
theorem f__law_pool {w : World} {h : Heap} {mg : Str → Option Value} (X : (hd.heap_39 w.params).In h) (G : h.Ns mainGlobals mg) : ∃ f fd, Df (hd.heap_39 w.params) mg "_law_pool" sPool ["script", "k"] f fd := by
  refine' df_ex X G ?a ?l ?c ?k (fun _ _ _ _ _ _ us hl => match us, hl with | [_, _], _ => rfl)
  (case a => k_is); (case l => k_is); (case c => k_is); (case k => k_is)
theorem f__law_draw {w : World} {h : Heap} {mg : Str → Option Value} (X : (hd.heap_39 w.params).In h) (G : h.Ns mainGlobals mg) : ∃ f fd, Df (hd.heap_39 w.params) mg "_law_draw" sDraw ["pool", "many"] f fd := by
  refine' df_ex X G ?a ?l ?c ?k (fun _ _ _ _ _ _ us hl => match us, hl with | [_, _], _ => rfl)
  (case a => k_is); (case l => k_is); (case c => k_is); (case k => k_is)
theorem f__law_choose {w : World} {h : Heap} {mg : Str → Option Value} (X : (hd.heap_39 w.params).In h) (G : h.Ns mainGlobals mg) : ∃ f fd, Df (hd.heap_39 w.params) mg "_law_choose" sChoose ["pool", "items"] f fd := by
  refine' df_ex X G ?a ?l ?c ?k (fun _ _ _ _ _ _ us hl => match us, hl with | [_, _], _ => rfl)
  (case a => k_is); (case l => k_is); (case c => k_is); (case k => k_is)
theorem f__law_span {w : World} {h : Heap} {mg : Str → Option Value} (X : (hd.heap_39 w.params).In h) (G : h.Ns mainGlobals mg) : ∃ f fd, Df (hd.heap_39 w.params) mg "_law_span" sLSpan ["time"] f fd := by
  refine' df_ex X G ?a ?l ?c ?k (fun _ _ _ _ _ _ us hl => match us, hl with | [_], _ => rfl)
  (case a => k_is); (case l => k_is); (case c => k_is); (case k => k_is)
theorem f__law_sum {w : World} {h : Heap} {mg : Str → Option Value} (X : (hd.heap_39 w.params).In h) (G : h.Ns mainGlobals mg) : ∃ f fd, Df (hd.heap_39 w.params) mg "_law_sum" sSum ["one", "other"] f fd := by
  refine' df_ex X G ?a ?l ?c ?k (fun _ _ _ _ _ _ us hl => match us, hl with | [_, _], _ => rfl)
  (case a => k_is); (case l => k_is); (case c => k_is); (case k => k_is)
theorem f__law_times {w : World} {h : Heap} {mg : Str → Option Value} (X : (hd.heap_39 w.params).In h) (G : h.Ns mainGlobals mg) : ∃ f fd, Df (hd.heap_39 w.params) mg "_law_times" sTimes ["one", "n"] f fd := by
  refine' df_ex X G ?a ?l ?c ?k (fun _ _ _ _ _ _ us hl => match us, hl with | [_, _], _ => rfl)
  (case a => k_is); (case l => k_is); (case c => k_is); (case k => k_is)
theorem f__law_less {w : World} {h : Heap} {mg : Str → Option Value} (X : (hd.heap_39 w.params).In h) (G : h.Ns mainGlobals mg) : ∃ f fd, Df (hd.heap_39 w.params) mg "_law_less" sLess ["one", "other"] f fd := by
  refine' df_ex X G ?a ?l ?c ?k (fun _ _ _ _ _ _ us hl => match us, hl with | [_, _], _ => rfl)
  (case a => k_is); (case l => k_is); (case c => k_is); (case k => k_is)
theorem f__law_is {w : World} {h : Heap} {mg : Str → Option Value} (X : (hd.heap_39 w.params).In h) (G : h.Ns mainGlobals mg) : ∃ f fd, Df (hd.heap_39 w.params) mg "_law_is" sIs ["span", "time"] f fd := by
  refine' df_ex X G ?a ?l ?c ?k (fun _ _ _ _ _ _ us hl => match us, hl with | [_, _], _ => rfl)
  (case a => k_is); (case l => k_is); (case c => k_is); (case k => k_is)
theorem f__law_ordered {w : World} {h : Heap} {mg : Str → Option Value} (X : (hd.heap_39 w.params).In h) (G : h.Ns mainGlobals mg) : ∃ f fd, Df (hd.heap_39 w.params) mg "_law_ordered" sOrd ["one", "other"] f fd := by
  refine' df_ex X G ?a ?l ?c ?k (fun _ _ _ _ _ _ us hl => match us, hl with | [_, _], _ => rfl)
  (case a => k_is); (case l => k_is); (case c => k_is); (case k => k_is)
theorem f__law_greatest {w : World} {h : Heap} {mg : Str → Option Value} (X : (hd.heap_39 w.params).In h) (G : h.Ns mainGlobals mg) : ∃ f fd, Df (hd.heap_39 w.params) mg "_law_greatest" sLGreat ["times"] f fd := by
  refine' df_ex X G ?a ?l ?c ?k (fun _ _ _ _ _ _ us hl => match us, hl with | [_], _ => rfl)
  (case a => k_is); (case l => k_is); (case c => k_is); (case k => k_is)
theorem m_init {w : World} : ∃ f fd, Me (hd.heap_39 w.params) 152 "__init__" "Span.__init__" sSInit ["self", "time"] f fd := by
  refine' me_ex ?a ?i ?l ?c ?k (fun _ _ _ _ _ _ us hl => match us, hl with | [_, _], _ => rfl)
  (case a => k_is); (case i => k_is); (case l => k_is); (case c => k_is); (case k => k_is)
theorem m_is_endless {w : World} : ∃ f fd, Me (hd.heap_39 w.params) 152 "is_endless" "Span.is_endless" sIsEnd ["self"] f fd := by
  refine' me_ex ?a ?i ?l ?c ?k (fun _ _ _ _ _ _ us hl => match us, hl with | [_], _ => rfl)
  (case a => k_is); (case i => k_is); (case l => k_is); (case c => k_is); (case k => k_is)
theorem m_add {w : World} : ∃ f fd, Me (hd.heap_39 w.params) 152 "__add__" "Span.__add__" sAdd ["self", "other"] f fd := by
  refine' me_ex ?a ?i ?l ?c ?k (fun _ _ _ _ _ _ us hl => match us, hl with | [_, _], _ => rfl)
  (case a => k_is); (case i => k_is); (case l => k_is); (case c => k_is); (case k => k_is)
theorem m_radd {w : World} : ∃ f fd, Me (hd.heap_39 w.params) 152 "__radd__" "Span.__radd__" sRadd ["self", "other"] f fd := by
  refine' me_ex ?a ?i ?l ?c ?k (fun _ _ _ _ _ _ us hl => match us, hl with | [_, _], _ => rfl)
  (case a => k_is); (case i => k_is); (case l => k_is); (case c => k_is); (case k => k_is)
theorem m_mul {w : World} : ∃ f fd, Me (hd.heap_39 w.params) 152 "__mul__" "Span.__mul__" sMul ["self", "other"] f fd := by
  refine' me_ex ?a ?i ?l ?c ?k (fun _ _ _ _ _ _ us hl => match us, hl with | [_, _], _ => rfl)
  (case a => k_is); (case i => k_is); (case l => k_is); (case c => k_is); (case k => k_is)
theorem m_rmul {w : World} : ∃ f fd, Me (hd.heap_39 w.params) 152 "__rmul__" "Span.__rmul__" sRmul ["self", "other"] f fd := by
  refine' me_ex ?a ?i ?l ?c ?k (fun _ _ _ _ _ _ us hl => match us, hl with | [_, _], _ => rfl)
  (case a => k_is); (case i => k_is); (case l => k_is); (case c => k_is); (case k => k_is)
theorem m_lt {w : World} : ∃ f fd, Me (hd.heap_39 w.params) 152 "__lt__" "Span.__lt__" sLt ["self", "other"] f fd := by
  refine' me_ex ?a ?i ?l ?c ?k (fun _ _ _ _ _ _ us hl => match us, hl with | [_, _], _ => rfl)
  (case a => k_is); (case i => k_is); (case l => k_is); (case c => k_is); (case k => k_is)
theorem m_le {w : World} : ∃ f fd, Me (hd.heap_39 w.params) 152 "__le__" "Span.__le__" sLe ["self", "other"] f fd := by
  refine' me_ex ?a ?i ?l ?c ?k (fun _ _ _ _ _ _ us hl => match us, hl with | [_, _], _ => rfl)
  (case a => k_is); (case i => k_is); (case l => k_is); (case c => k_is); (case k => k_is)
theorem m_gt {w : World} : ∃ f fd, Me (hd.heap_39 w.params) 152 "__gt__" "Span.__gt__" sGt ["self", "other"] f fd := by
  refine' me_ex ?a ?i ?l ?c ?k (fun _ _ _ _ _ _ us hl => match us, hl with | [_, _], _ => rfl)
  (case a => k_is); (case i => k_is); (case l => k_is); (case c => k_is); (case k => k_is)
theorem m_ge {w : World} : ∃ f fd, Me (hd.heap_39 w.params) 152 "__ge__" "Span.__ge__" sGe ["self", "other"] f fd := by
  refine' me_ex ?a ?i ?l ?c ?k (fun _ _ _ _ _ _ us hl => match us, hl with | [_, _], _ => rfl)
  (case a => k_is); (case i => k_is); (case l => k_is); (case c => k_is); (case k => k_is)
theorem m_eq {w : World} : ∃ f fd, Me (hd.heap_39 w.params) 152 "__eq__" "Span.__eq__" sEq ["self", "other"] f fd := by
  refine' me_ex ?a ?i ?l ?c ?k (fun _ _ _ _ _ _ us hl => match us, hl with | [_, _], _ => rfl)
  (case a => k_is); (case i => k_is); (case l => k_is); (case c => k_is); (case k => k_is)
theorem ref_ex {K : PySem.W.Frag} {h : Heap} {mg : Str → Option Value} {f : Addr} {oc : Value} {od an : Option Addr} {osl : Array (Option Value)} {kV doc pm cdv ct : Value} (X : K.In h) (G : h.Ns mainGlobals mg) (a : PySem.W.nsIn K mainGlobals "_law_refused" = some (some (.ref f)))
    (l : K.lookup f = some ⟨oc, od, .func (PySem.W.fnOf "_law_refused" "_law_refused" (defArgs sRef) (defBody sRef) (defScope sRef) .none kV doc pm an cdv ct), osl⟩) (c : PySem.W.codeIn K cdv "_law_refused" = true) (k : PySem.W.keepIn K (.ref f) = true) : ∃ g, RefAt K mg g :=
  ⟨f, PySem.W.mg_of X G a, k, oc, od, kV, doc, pm, an, cdv, ct, osl, l, c, (fun_mk l c k).binds (fun _ _ _ _ _ _ us hl => match us, hl with | [_], _ => rfl)⟩
theorem f_ref {w : World} {h : Heap} {mg : Str → Option Value} (X : (hd.heap_39 w.params).In h) (G : h.Ns mainGlobals mg) : ∃ g, RefAt (hd.heap_39 w.params) mg g := by
  refine' ref_ex X G ?a ?l ?c ?k
  (case a => k_is); (case l => k_is); (case c => k_is); (case k => k_is)
theorem f_law {w : World} {h : Heap} {mg : Str → Option Value} (X : (hd.heap_39 w.params).In h) (G : h.Ns mainGlobals mg) : LawTxt (hd.heap_39 w.params) mg 152 := by
  refine ⟨PySem.W.mg_none_of X G ?a1, PySem.W.mg_none_of X G ?a2, PySem.W.mg_none_of X G ?a3, PySem.W.mg_none_of X G ?a4, PySem.W.mg_none_of X G ?a5, PySem.W.mg_none_of X G ?a6, PySem.W.mg_none_of X G ?a7, ?b1, ?b2, ?b3, ?c1, ?c2, ?c3, ?c4, ?d1, ?d2, ?d3, ?d4, fun T hT => ?e⟩
  (case a1 => k_is); (case a2 => k_is); (case a3 => k_is); (case a4 => k_is); (case a5 => k_is); (case a6 => k_is); (case a7 => k_is)
  (case b1 => k_is); (case b2 => k_is); (case b3 => k_is); (case c1 => k_is); (case c2 => k_is); (case c3 => k_is); (case c4 => k_is); (case d1 => k_is); (case d2 => k_is); (case d3 => k_is); (case d4 => k_is)
  rcases hT with rfl | rfl | rfl | rfl
  all_goals exact ⟨Option.isSome_iff_exists.mp (by kernel_rfl), Option.isSome_iff_exists.mp (by kernel_rfl), Option.isSome_iff_exists.mp (by kernel_rfl), Option.isSome_iff_exists.mp (by kernel_rfl)⟩
theorem f_ops {w : World} : Ops (hd.heap_39 w.params) 152 := by
  refine ⟨?a, ?b, ?c, ?d⟩
  (case a => k_is); (case b => k_is); (case c => k_is); (case d => k_is)
theorem f_cls {w : World} : Cls (hd.heap_39 w.params) 152 := by
  refine ⟨?a, ?b, ?c, ?d⟩
  (case a => k_is); (case b => k_is); (case c => k_is); (case d => k_is)
theorem f_kit {w : World} : PySem.W.kitOne (hd.heap_39 w.params) (.type "int") (.ref 152) = some false ∧ PySem.W.kitOne (hd.heap_39 w.params) (.type "bool") (.ref 152) = some false ∧ PySem.W.kitOne (hd.heap_39 w.params) (.type "NoneType") (.ref 152) = some false ∧ PySem.W.kitOne (hd.heap_39 w.params) (.type "str") (.ref 152) = some false := by
  refine ⟨?_, ?_, ?_, ?_⟩ <;> kernel_rfl
theorem exm_own {K : PySem.W.Frag} {S : Addr} (h1 : PySem.W.subIn K (.ref S) (.type "BaseException") = some true) (h2 : PySem.W.isClsIn K S = true) (h3 : PySem.W.typeIn K (.ref S) = some (.type "type")) (h4 : PySem.W.subIn K (.ref S) (.ref S) = some true) :
    PySem.W.exmOne K (.ref S) (.ref S) = some true := by
  have e1 : (PySem.W.subIn K (.ref S) (.type "BaseException") == some true) = true := by rw [h1] <;> rfl
  have e2 : ((PySem.W.clsIn K S).isSome && PySem.W.typeIn K (.ref S) == some (.type "type")) = true := by
    have z : (PySem.W.clsIn K S).isSome = true := h2
    rw [z, h3] <;> rfl
  unfold PySem.W.exmOne
  exact (if_pos e1).trans ((if_pos e2).trans h4)
theorem err_ex {P : Program} {K : PySem.W.Frag} {h : Heap} {mg : Str → Option Value} {nm q : Str} {N : Addr} {bs bm : List Value} {sn : List Str} {sub : List Value} {ab : Bool} {col : Option Bool} {dd : Option Addr} {k0 k1 k2 k3 k5 : Option Value} {fI : Addr}
    {oc : Value} {od : Option Addr} {doc pm : Value} {an : Option Addr} {cda cc : Addr} {ct : Value} {osl : Array (Option Value)} {msg qn : Str} {p1 p2 q1 q2 q3 q4 q5 q6 r1 r2 r3 r4 : Pos} {cl : Value} {cld : Option Addr} {csl : Array (Option Value)}
    {ccl : Value} {cdd : Option Addr} {vs : Array Value} {ccs : Array (Option Value)} {file : Str} {tf : Tok}
    (X : K.In h) (G : h.Ns mainGlobals mg) (top : (P.main.scope.names.lookup ("super" : Str)).isSome = false) (gC : PySem.W.nsIn K mainGlobals "InvalidTime" = some (some (.ref 46))) (gS : PySem.W.nsIn K mainGlobals "super" = some none)
    (xL : K.lookup 46 = some (PySem.excClassObj nm q 46 N bs bm true sn sub ab col dd k0 k1 k2 k3 k5 "ValueError.__new__")) (rf : PySem.HandSPX.refsVE bm = true)
    (sa : PySem.W.findIn K (.ref 46) "__setattr__" = some (some (.builtin "object.__setattr__"))) (ga : PySem.W.findIn K (.ref 46) "__getattribute__" = some (some (.builtin "BaseException.__getattribute__"))) (gg : PySem.W.findIn K (.ref 46) "__getattr__" = some none) (nb : PySem.W.findIn K (.ref 46) "value" = some none)
    (iC : PySem.W.findIn K (.ref 46) "__init__" = some (some (.ref fI))) (tC : PySem.W.typeIn K (.ref fI) = some (.type "function")) (kC : PySem.W.keepIn K (.ref 46) = true) (eC : PySem.W.subIn K (.ref 46) (.type "BaseException") = some true) (vC : PySem.W.subIn K (.ref 46) (.type "ValueError") = some true) (yC : PySem.W.typeIn K (.ref 46) = some (.type "type"))
    (hC : PySem.W.hasDictIn K 46 = true) (cC : PySem.W.isClsIn K 46 = true) (sC : PySem.W.subIn K (.ref 46) (.ref 46) = some true) (tp : PySem.W.nsIn K cStatics "thirdparty.any" = some none) (sup : PySem.W.ks_superIn K 46 46 "__init__" = some (some (.builtin "ValueError.__init__"))) (slf : PySem.W.mroIn K 46 (.ref 46) = some true)
    (l : K.lookup fI = some ⟨oc, od, .func (PySem.W.fnX "__init__" qn (SupE.args "value" p1 p2) (SupE.body "value" msg q1 q2 q3 q4 q5 q6 r1 r2 r3 r4) (SupE.scope "value") [("__class__", cc)] .none .none doc pm an (.ref cda) ct), osl⟩) (c : PySem.W.codeIn K (.ref cda) qn = true)
    (lc : K.lookup cc = some ⟨cl, cld, .cell (some (.ref 46)), csl⟩) (ld : K.lookup cda = some ⟨ccl, cdd, .fields vs, ccs⟩) (v2 : vs[2]? = some (.str file tf)) (pf : (P.main.file == file) = true) (ql : (q3.endLine == q5.line) = true) : ∃ fE, SupE.Txt P K mg "InvalidTime" "value" 46 fE :=
  ⟨fI, top, PySem.W.mg_of X G gC, PySem.W.mg_none_of X G gS, ⟨nm, q, N, bs, bm, sn, sub, ab, col, dd, k0, k1, k2, k3, k5, xL, rf⟩, sa, ga, gg, nb, iC, tC, kC, eC, vC, yC, hC, exm_own eC cC yC sC, tp, sup, slf,
    ⟨oc, od, doc, pm, an, cda, cc, ct, osl, msg, qn, p1, p2, q1, q2, q3, q4, q5, q6, r1, r2, r3, r4, l, c, ⟨cl, cld, csl, lc⟩, ccl, cdd, vs, ccs, file, tf, ld, v2, pf, ql⟩⟩
theorem f_err {w : World} {h : Heap} {mg : Str → Option Value} (X : (hd.heap_39 w.params).In h) (G : h.Ns mainGlobals mg) : ∃ fE, SupE.Txt PySem.Challenge.rw_stoppoints_k01_spans.prog (hd.heap_39 w.params) mg "InvalidTime" "value" 46 fE := by
  refine' err_ex X G ?top ?gC ?gS ?xL ?rf ?sa ?ga ?gg ?nb ?iC ?tC ?kC ?eC ?vC ?yC ?hC ?cC ?sC ?tp ?sup ?slf ?l ?c ?lc ?ld ?v2 ?pf ?ql
  (case top => decide +kernel)
  (case gC => k_is); (case gS => k_is); (case xL => k_is); (case rf => decide +kernel); (case sa => k_is); (case ga => k_is); (case gg => k_is); (case nb => k_is); (case iC => k_is); (case tC => k_is); (case kC => k_is); (case eC => k_is); (case vC => k_is); (case yC => k_is)
  (case hC => k_is); (case cC => k_is); (case sC => first | rfl | k_is); (case tp => k_is); (case sup => kernel_rfl); (case slf => k_is)
  (case l => k_is)
  (case c => k_is)
  (case lc => k_is)
  (case ld => k_is)
  (case v2 => rfl)
  (case pf => decide +kernel)
  (case ql => decide +kernel)
theorem stat_ex {K : PySem.W.Frag} {p g : Addr} {rest : List Value} {oc : Value} {od an : Option Addr} {osl : Array (Option Value)} {kV doc pm cdv ct : Value} (ga : PySem.W.specialIn K (.ref 152) "__getattribute__" = some (some (.builtin "type.__getattribute__"))) (rd : PySem.W.readsIn K 152 (.type "type") = true)
    (at_ : PySem.W.findCls K (.ref 152) (.type "type") "endless" = some (.get (.builtin "staticmethod.__get__") (.ref p) .none (.ref 152))) (rc : PySem.W.recIn K p "staticmethod" = some (.ref g :: rest)) (ty : PySem.W.typeIn K (.ref 152) = some (.type "type")) (kp : PySem.W.keepIn K (.ref g) = true)
    (l : K.lookup g = some ⟨oc, od, .func (PySem.W.fnOf "endless" "Span.endless" (defArgs sEndless) (defBody sEndless) (defScope sEndless) .none kV doc pm an cdv ct), osl⟩) (c : PySem.W.codeIn K cdv "Span.endless" = true) :
    ∃ mc p g fd, SMet K 152 mc "endless" p g ∧ Fun K "endless" "Span.endless" sEndless g fd ∧ Binds K fd [] [] :=
  ⟨_, p, g, _, ⟨ga, rd, at_, ⟨rest, rc⟩, rfl, ty, kp⟩, fun_mk l c kp, (fun_mk l c kp).binds fun _ _ _ _ _ _ us hl => match us, hl with | [], _ => rfl⟩
theorem f_stat {w : World} : ∃ mc p g fd, SMet (hd.heap_39 w.params) 152 mc "endless" p g ∧ Fun (hd.heap_39 w.params) "endless" "Span.endless" sEndless g fd ∧ Binds (hd.heap_39 w.params) fd [] [] := by
  refine' stat_ex ?ga ?rd ?at_ ?rc ?ty ?kp ?l ?c
  (case ga => k_is); (case rd => k_is); (case at_ => k_is); (case rc => k_is); (case ty => k_is); (case kp => k_is); (case l => k_is); (case c => k_is)
theorem f_mk {w : World} : PySem.W.makesIn (hd.heap_39 w.params) 152 = true ∧ PySem.W.keepIn (hd.heap_39 w.params) (.ref 152) = true := by
  refine ⟨?a, ?b⟩
  (case a => k_is); (case b => k_is)
theorem f_txt {w : World} {h : Heap} {mg : Str → Option Value} (X : (hd.heap_39 w.params).In h) (G : h.Ns mainGlobals mg) : ∃ fE, Txt PySem.Challenge.rw_stoppoints_k01_spans.prog (hd.heap_39 w.params) mg 152 46 fE := by
  obtain ⟨fE, T⟩ := f_err X G
  obtain ⟨k1, k2, k3, k4⟩ := f_kit (w := w)
  refine ⟨fE, f_cls, ?nT, ?ca, ?cn, ?ct, ?cm, rfl, k1, k2, k3, k4, T, PySem.W.mg_of X G ?gS, PySem.W.mg_none_of X G ?i1, PySem.W.mg_none_of X G ?i2, PySem.W.mg_none_of X G ?i3⟩
  (case nT => show PySem.W.findIn (hd.heap_39 w.params) (.ref 152) "time" = some none; k_is)
  (case ca => k_is); (case cn => k_is); (case ct => k_is); (case cm => k_is); (case gS => k_is); (case i1 => k_is); (case i2 => k_is); (case i3 => k_is)
theorem all_of {w : World} {h base : Heap} {mg : Str → Option Value} (X : (hd.heap_39 w.params).In h) (G : h.Ns mainGlobals mg) : AllOf PySem.Challenge.rw_stoppoints_k01_spans.prog w (hd.heap_39 w.params) base mg 152 46 := by
  obtain ⟨fE, T⟩ := f_txt X G
  have L := f_law (w := w) X G
  have O := f_ops (w := w)
  obtain ⟨mk1, mk2⟩ := f_mk (w := w)
  obtain ⟨_, _, W⟩ := f_is_whole X G
  obtain ⟨_, _, Z⟩ := f_is_size X G
  obtain ⟨_, _, TG⟩ := f_together X G
  obtain ⟨_, _, RP⟩ := f_repeated X G
  obtain ⟨_, _, CH⟩ := f_check_span X G
  obtain ⟨_, _, BL⟩ := f_is_below X G
  obtain ⟨_, _, GR⟩ := f_greatest X G
  obtain ⟨_, _, PO⟩ := f__law_pool X G
  obtain ⟨_, _, DR⟩ := f__law_draw X G
  obtain ⟨_, _, CO⟩ := f__law_choose X G
  obtain ⟨_, _, SP⟩ := f__law_span X G
  obtain ⟨_, _, SU⟩ := f__law_sum X G
  obtain ⟨_, _, TI⟩ := f__law_times X G
  obtain ⟨_, _, LE⟩ := f__law_less X G
  obtain ⟨_, _, IS⟩ := f__law_is X G
  obtain ⟨_, _, OR⟩ := f__law_ordered X G
  obtain ⟨_, _, LG⟩ := f__law_greatest X G
  obtain ⟨_, _, MI⟩ := m_init (w := w)
  obtain ⟨_, _, ME⟩ := m_is_endless (w := w)
  obtain ⟨_, _, Ma⟩ := m_add (w := w)
  obtain ⟨_, _, Mr⟩ := m_radd (w := w)
  obtain ⟨_, _, Mm⟩ := m_mul (w := w)
  obtain ⟨_, _, Mn⟩ := m_rmul (w := w)
  obtain ⟨_, _, M1⟩ := m_lt (w := w)
  obtain ⟨_, _, M2⟩ := m_le (w := w)
  obtain ⟨_, _, M3⟩ := m_gt (w := w)
  obtain ⟨_, _, M4⟩ := m_ge (w := w)
  obtain ⟨_, _, M5⟩ := m_eq (w := w)
  obtain ⟨_, _, _, _, S, FN, bN⟩ := f_stat (w := w)
  have GI := ok_sinit (P := PySem.Challenge.rw_stoppoints_k01_spans.prog) (w := w) (base := base) MI.fn T W Z
  have M : Mk (hd.heap_39 w.params) 152 _ := ⟨mk1, MI.at_, MI.isf, mk2⟩
  have GN := ok_endless FN T M MI.bd GI
  have GT := ok_tog TG.fn T W Z M MI.bd GI S bN GN
  have GP := ok_rep RP.fn T W Z M MI.bd GI S bN GN
  have GS := ok_lspan SP.fn T M MI.bd GI S bN GN
  have C : Cmps PySem.Challenge.rw_stoppoints_k01_spans.prog w (hd.heap_39 w.params) base mg 152 := by
    refine ⟨⟨_, M1.at_, M1.isf, ?_⟩, ⟨_, M2.at_, M2.isf, ?_⟩, ⟨_, M3.at_, M3.isf, ?_⟩, ⟨_, M4.at_, M4.isf, ?_⟩, ⟨_, M5.at_, M5.isf, ?_⟩⟩
    · exact ((ok_lt M1.fn CH BL T).raw M1.bd .nil).imp fun vs H Q E h => by rw [List.append_nil]; exact h
    · exact ((ok_le M2.fn CH BL T).raw M2.bd .nil).imp fun vs H Q E h => by rw [List.append_nil]; exact h
    · exact ((ok_gt M3.fn CH BL T).raw M3.bd .nil).imp fun vs H Q E h => by rw [List.append_nil]; exact h
    · exact ((ok_ge M4.fn CH BL T).raw M4.bd .nil).imp fun vs H Q E h => by rw [List.append_nil]; exact h
    · exact ((ok_eq M5.fn T).raw M5.bd .nil).imp fun vs H Q E h => by rw [List.append_nil]; exact h
  have A : Ari PySem.Challenge.rw_stoppoints_k01_spans.prog w (hd.heap_39 w.params) base mg 152 46 := by
    refine ⟨_, _, _, _, Ma.at_, Mr.at_, Mm.at_, Mn.at_, ⟨Ma.isf, Mr.isf, Mm.isf, Mn.isf⟩, ?_, ?_, ?_, ?_⟩
    · exact ((ok_add Ma.fn TG GT).raw Ma.bd .nil).imp fun vs H Q E h => by rw [List.append_nil]; exact h
    · exact ((ok_radd Mr.fn TG GT).raw Mr.bd .nil).imp fun vs H Q E h => by rw [List.append_nil]; exact h
    · exact ((ok_mul Mm.fn RP GP).raw Mm.bd .nil).imp fun vs H Q E h => by rw [List.append_nil]; exact h
    · exact ((ok_rmul Mn.fn RP GP).raw Mn.bd .nil).imp fun vs H Q E h => by rw [List.append_nil]; exact h
  exact ⟨⟨fE, T⟩, O, L, A, C, f_ref X G, ⟨_, _, M, MI.bd, GI⟩, ⟨_, _, PO, ok_pool PO.fn ⟨L.len, L.int⟩⟩, ⟨_, _, CO⟩, ⟨_, _, DR⟩, ⟨_, _, SP, GS⟩, ⟨_, _, SU⟩, ⟨_, _, TI⟩, ⟨_, _, IS, ok_is IS.fn T ME⟩, ⟨_, _, OR, ok_ord OR.fn O C SP GS LE⟩,
    ⟨_, _, GR, ok_great GR.fn T O CH BL M1⟩, ⟨_, _, LG, ok_lgreat LG.fn LE⟩⟩
/-- the law's own object -/
theorem law_ex {l : PySem.W.OpenLaw} {w : World} {K : PySem.W.Frag} {h : Heap} {mg : Str → Option Value} {fa f c Pt : Addr} {oc : Value} {od an : Option Addr} {osl : Array (Option Value)} {kV doc pm ct : Value} {cd : Option Addr} {vs : Array Value} {cs : Array (Option Value)} {file : Str} {tf tg tt : Tok} {fl text : Int} {inF : Bool}
    (X : K.In h) (G : h.Ns mainGlobals mg) (hfa : mg "law" = some (.ref fa)) (a : PySem.W.nsIn K mainGlobals "law" = some (some (.ref f)))
    (lf : K.lookup f = some ⟨oc, od, .func (PySem.W.fnOf "law" "law" (defArgs sLaw) (defBody sLaw) (defScope sLaw) .none kV doc pm an (.ref c) ct), osl⟩) (hc : PySem.W.codeIn K (.ref c) "law" = true)
    (lc : K.lookup c = some ⟨.type "code", cd, .fields vs, cs⟩) (v11 : vs[11]? = some (.ref Pt)) (v11' : vs.getD 11 .none = .ref Pt) (v18 : vs.getD 18 .none = .str file tf) (v7 : vs.getD 7 .none = .int fl tg) (v9 : vs.getD 9 .none = .bool inF) (v10 : vs.getD 10 .none = .int text tt) (ne : c ≠ Pt)
    (nP : K.lookup Pt = none) (hP : h.get? Pt = some { cls := .none, data := .fields #[] }) (hA : ∀ base, AllOf l.prog w K base mg 152 46) : LawAtS l w K CX0 10 63 "script" mg fa h := by
  have e := hfa.symm.trans (PySem.W.mg_of X G a)
  cases e
  refine ⟨PySem.W.fnOf "law" "law" (defArgs sLaw) (defBody sLaw) (defScope sLaw) .none kV doc pm an (.ref c) ct, [(c, Pt)], spLaw K Pt, fun p hp => ?_, fun p hp => ?_, fun p hp => ?_, fun s u => .of_eq rfl, fun H a ns hl _ hT hS => ⟨a, ns, rfl, hS, fun x hx => ?_, fun _ => rfl⟩, fun base hK _ TB => ?_⟩
  · obtain rfl := List.mem_singleton.mp hp; exact hP
  · obtain rfl := List.mem_singleton.mp hp; exact nP
  · obtain rfl := List.mem_singleton.mp hp
    exact ⟨_, vs, file, tf, fl, tg, inF, text, tt, X _ _ lc, rfl, rfl, v11, v11', v18, v7, v9, v10, ne⟩
  · obtain rfl := List.mem_singleton.mp hx
    have hp := hT (c, Pt) (List.mem_singleton.mpr rfl)
    exact ⟨#[], hp, trivial, fun pos cv hc => by cases hc⟩
  · have tb := TB (c, Pt) (List.mem_singleton.mpr rfl)
    refine fn_of lf hc scLaw (fun vs H Q E h => ?_) (fun A outer s H vs Q E hr h => law_run (hA base) tb hr h)
    obtain ⟨a, ns, rfl, _⟩ := h; rfl
theorem f_at {w : World} {h : Heap} {mg : Str → Option Value} {fa : Addr} (X : (hd.heap_39 w.params).In h) (G : h.Ns mainGlobals mg) (hfa : mg "law" = some (.ref fa)) (hP : h.get? 277 = some { cls := .none, data := .fields #[] }) :
    LawAtS PySem.Challenge.rw_stoppoints_k01_spans w (hd.heap_39 w.params) CX0 10 63 "script" mg fa h := by
  refine' law_ex X G hfa ?a ?lf ?hc ?lc ?v11 ?v11' ?v18 ?v7 ?v9 ?v10 ?ne ?nP hP (fun base => all_of X G)
  (case a => k_is); (case lf => k_is); (case hc => k_is); (case lc => k_is)
  (case v11 => rfl); (case v11' => rfl); (case v18 => rfl); (case v7 => rfl); (case v9 => rfl); (case v10 => rfl)
  (case ne => decide)
  (case nP => kernel_rfl)
end K1
open PySem PySem.W PyProof.Rows in
theorem PySem.Challenge.cw_stoppoints_k01_spans_holds : PySem.Challenge.rw_stoppoints_k01_spans.Holds := by
  refine hd ?_
  refine LamX.walk_ofTs (l := PySem.Challenge.rw_stoppoints_k01_spans) (n := 63) (k := 10) (K := hd.heap_39) (CX := fun _ => L2.CX0) (x := "script") rfl (by decide) rfl ⟨rfl, by decide, by decide⟩ (fun w h Y => km_in_of Y) ?F (fun _ _ _ _ _ z => z)
  intro w mg fa h Y KX G hmg
  exact K1.f_at KX G hmg (km_tabs_of Y 277 (by decide))
#print axioms PySem.Challenge.cw_stoppoints_k01_spans_holds

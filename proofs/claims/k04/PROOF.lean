import PyProof.Rows.All
import Wide.All
import OpenK.AllK
import Wide.FinOn
import KE.OsRunLaw
import KE.KOpsOwn
import KE.KCallOwn
import HandS.OwnEq
import HandS.ClsMeth
import HandS.Property
import HandS.ExcOwn
import HandS.ExcInit
import HandS.WordsExc
import HandS.Wide
import HandS.IsInst
import HandS.Defaults
import HandS.MakeKw
import HandS.MakeKwOnly
import HandS.ForMost
import HandS.Gcd
import HandS.FStr
import HandS.Flow
import HandS.ExcField
import HandS.Codes
import HandS.Style
import PySem.Challenge.RW_poolsmeet_k04_quotients
set_option Elab.async false
set_option linter.all false
set_option maxRecDepth 100000
set_option maxHeartbeats 2000000
local macro_rules | `(tactic| k_head) => `(tactic| k_headL)
open PySem PySem.W PyProof.Rows in
set_option maxRecDepth 100000 in
set_option maxHeartbeats 0 in
open_top Pm.hd for PySem.Challenge.rw_poolsmeet_k04_quotients
/-! Pm, part 1: rules for classes that define their own operators. -/
namespace Pm
open PySem PySem.Spec PyProof.Rows L2

/-! ### a def run at any place below the body -/
section
variable {X : Cx} {CX : CXT} {k : Nat} {A : Around} {f : Addr} {fd : FuncData} {ps : List Str} {sp : Sp} {E : XK}
  {pins : List (Addr × Obj)} {σ : L2.St} {H : Hp} {s : Shared} {Q : VK} {us : List Value} {vs : List V}
theorem run_at (sb : Sub X k A) (F : FnOk X.prog X.w X.K X.mg X.base CX k f fd ps sp) (hb : Binds X.K fd ps [])
    (hx : PassesAt CX X σ E) (I : Inv X pins σ H s) (r : Vals vs us) (h : sp vs H Q E) :
    wpAny (model X.prog X.w) A (call (.ref f) us) (EP X pins σ Q) X.xe s := by
  have len : us.length = ps.length := r.length.symm.trans (F.len _ _ _ _ h)
  have bt := hb s us I.kIn (by simpa using len)
  simp only [List.append_nil] at bt
  have e1 := I.env0
  have e0 : Env0 X.prog X.w X.K X.mg X.base A X.stack s H :=
    ⟨sb.fr.trans e1.frames, e1.mod, e1.bs, e1.bsz, e1.funs, e1.frf, e1.hok, e1.bare⟩
  refine wpAny_call (codeAny_mono (F.run A X.stack s H ⟨us, []⟩ us vs Q E sb.room e0 bt r h) fun res s' q => ?_)
  match res, q with
  | .error er, q => exact hx pins H s er s' I q
  | .ok (.ret u), q => exact I.after q
end

/-- no exception leaves: for any slots -/
theorem at0 {X : Cx} {σ : L2.St} : PassesAt CX0 X σ E0 := fun _ _ _ _ _ _ h => h.elim
theorem atL {X : Cx} {σ : L2.St} : PassesAt (L2.CX X.prog X.w) X σ E0 := fun pins H s e s' I h => passL pins σ H s e s' I h

/-- a special method of the class at C -/
structure Spc (K : PySem.W.Frag) (C : Addr) (name : Str) (f : Addr) : Prop where
  at_ : PySem.W.findIn K (.ref C) name = some (some (.ref f))
  fn : PySem.W.isFn K (.ref f) = true

/-- a two-place operation whose reading may look at the slots -/
def OpS (X : Cx) (f : Value → Value → Sem Value) (r : L2.St → R2) : Prop :=
  ∀ (pins : List (Addr × Obj)) (s : Shared) (σ : L2.St) (H : Hp) (x y : V) (v u : Value) (Q : VK), Inv X pins σ H s → RelV x v → RelV y u → r σ x y H Q →
    wpAny (model X.prog X.w) X.A (f v u) (EP X pins σ Q) X.xe s
theorem OpR.S {X : Cx} {f : Value → Value → Sem Value} {r : R2} (h : OpR X f r) : OpS X f (fun _ => r) := fun pins s σ H x y v u Q => h pins s σ H x y v u Q
theorem OpS.or {X : Cx} {f : Value → Value → Sem Value} {r r' : L2.St → R2} (h : OpS X f r) (h' : OpS X f r') : OpS X f (fun σ x y H Q => r σ x y H Q ∨ r' σ x y H Q) :=
  fun pins s σ H x y v u Q I rx ry z => z.elim (h pins s σ H x y v u Q I rx ry) (h' pins s σ H x y v u Q I rx ry)
def tOpS (r : L2.St → R2) (ta tb : TE) : TE := fun σ H Q => ta σ H fun x H1 => tb σ H1 fun y H2 => r σ x y H2 Q
section
variable {X : Cx} {a b : Expr} {ta tb : TE} {pos : Pos}
theorem pe_opS {op : Operator} {r : L2.St → R2} (ho : OpS X (binaryOp op) r) (ha : PE X a ta) (hb : PE X b tb) : PE X (.BinOp a op b pos) (tOpS r ta tb) := by
  refine ⟨fun pins s σ H Q I h => wpAny_BinOp ?_⟩
  refine thn (ha.run pins s σ H _ I h) fun v s1 ⟨x, H1, I1, r1, q1⟩ => ?_
  refine thn (hb.run pins s1 σ H1 _ I1 q1) fun u s2 ⟨y, H2, I2, r2, q2⟩ => ?_
  exact ho pins s2 σ H2 x y v u Q I2 r1 r2 q2
end

/-- the instance at a, for the library's rules -/
theorem inst_of {X : Cx} {pins : List (Addr × Obj)} {σ : L2.St} {H : Hp} {s : Shared} {a C dx : Addr} {fs : List (Str × V)} (I : Inv X pins σ H s) (ea : H a = some (.ins C dx fs)) :
    ∃ od, PySem.W.InstAt s.heap a (PySem.W.instObj C dx) C (some od) := by
  obtain ⟨mA, J, _⟩ := ins_get I.hok ea
  obtain ⟨od, J', _⟩ := J.look
  exact ⟨od, J'⟩
theorem rel_back {X : Cx} {pins : List (Addr × Obj)} {σ : L2.St} {Q : VK} {u : Value} {s' : Shared} (h : EP X pins σ Q u s') : PySem.W.CmpBack (EP X pins σ Q) u s' := by
  obtain ⟨v, H', I, r, q⟩ := id h
  cases u <;> first | exact h | skip
  cases v <;> first | (cases r; done) | (obtain ⟨t, z⟩ := r; exact nomatch z)

theorem self1 {a : Addr} : Vals [V.ref a] [Value.ref a] := .cons rfl .nil
/-! ### one place: -x, abs(x), str(x), repr(x), bool(x) -/
section
variable {X : Cx} {CX : CXT} {k : Nat} {C f : Addr} {fd : FuncData} {ps : List Str} {sp : Sp} {E : XK}
/-- the value is an instance of the class at C; its method is asked -/
def r1O (C : Addr) (sp : Sp) (E : XK) : V → Hp → VK → Prop := fun x H Q => ∃ a dx fs, x = .ref a ∧ H a = some (.ins C dx fs) ∧ sp [.ref a] H Q E
theorem un_negO (S : Spc X.K C "__neg__" f) (F : FnOk X.prog X.w X.K X.mg X.base CX k f fd ps sp) (hr : Room k X.A) (hb : Binds X.K fd ps []) (hx : Passes CX X E) :
    UnR X (unaryOp .USub) (r1O C sp E) := by
  rintro pins s σ H x u Q I rx ⟨a, dx, fs, rfl, ea, q⟩
  cases rx
  obtain ⟨od, J⟩ := inst_of I ea
  obtain ⟨m, fr⟩ := I.fr
  exact PySem.W.ksp_neg fr I.ok.mod.kin J S.at_ S.fn (run_at ⟨hr, rfl⟩ F hb (hx · σ) I self1 q)
def rc1O (C : Addr) (sp : Sp) (E : XK) (W : V → Prop) : List V → Hp → VK → Prop := fun xs H Q => ∃ a dx fs, xs = [.ref a] ∧ H a = some (.ins C dx fs) ∧ sp [.ref a] H (fun v H' => W v ∧ Q v H') E
theorem sub_self {X : Cx} {k : Nat} (hr : Room k X.A) : Sub X k X.A := ⟨hr, rfl⟩
theorem strback {pins : List (Addr × Obj)} {σ : L2.St} {Q : VK} {u : Value} {s' : Shared} (h : EP X pins σ (fun v H' => (∃ z, v = .str z) ∧ Q v H') u s') : PySem.W.StrBack (EP X pins σ Q) u s' := by
  obtain ⟨v, H', I, r, ⟨z, rfl⟩, q⟩ := h
  obtain ⟨t, rfl⟩ := r
  exact ⟨.str z, H', I, ⟨t, rfl⟩, q⟩
theorem call_reprO (S : Spc X.K C "__repr__" f) (F : FnOk X.prog X.w X.K X.mg X.base CX k f fd ps sp) (hr : Room (k + 1) X.A) (hb : Binds X.K fd ps []) (hx : Passes CX X E) :
    CallR X (.builtin "repr") (rc1O C sp E fun v => ∃ z, v = .str z) := by
  rintro pins s σ H xs us Q I r ⟨a, dx, fs, rfl, ea, q⟩
  obtain rfl := Vals.ref1 r
  obtain ⟨od, J⟩ := inst_of I ea
  obtain ⟨m, fr⟩ := I.fr
  have sb := (sub_self hr).in1
  exact PySem.W.repr_K sb.room.units0 fr I.ok.mod.kin J S.at_ S.fn (thn (run_at sb F hb (hx · σ) I self1 q) fun u s' => strback)
theorem call_strO (S : Spc X.K C "__str__" f) (F : FnOk X.prog X.w X.K X.mg X.base CX k f fd ps sp) (hr : Room (k + 2) X.A) (hb : Binds X.K fd ps []) (hx : Passes CX X E) :
    CallR X (.type "str") (rc1O C sp E fun v => ∃ z, v = .str z) := by
  rintro pins s σ H xs us Q I r ⟨a, dx, fs, rfl, ea, q⟩
  obtain rfl := Vals.ref1 r
  obtain ⟨od, J⟩ := inst_of I ea
  have sb := (sub_self hr).in1.in1
  exact PySem.W.kso_call sb.room.units0 I.kIn J S.at_ S.fn (thn (run_at sb F hb (hx · σ) I self1 q) fun u s' => strback)
theorem call_absO (S : Spc X.K C "__abs__" f) (F : FnOk X.prog X.w X.K X.mg X.base CX k f fd ps sp) (hr : Room (k + 1) X.A) (hb : Binds X.K fd ps []) (hx : Passes CX X E) :
    CallR X (.builtin "abs") (rc1O C sp E fun _ => True) := by
  rintro pins s σ H xs us Q I r ⟨a, dx, fs, rfl, ea, q⟩
  obtain rfl := Vals.ref1 r
  obtain ⟨od, J⟩ := inst_of I ea
  have sb := (sub_self hr).in1
  have go := run_at sb F hb (hx · σ) I self1 q
  refine Calls.call_function_entry PyProof.Rows.kind_abs PyProof.Rows.plain_abs PyProof.Rows.entry_abs (PyProof.Rows.args_abs _) ?_
  unfold Builtin.«abs»
  refine wpAny_bind (m := oneArg "abs" _) (wpAny_pure ?_)
  refine wpAny_bind (PySem.W.special_fn I.kIn J S.at_ (beq_iff_eq.mp S.fn) (thn go fun u s' z => ?_))
  obtain ⟨v, H', I', r', _, q'⟩ := z
  exact wpAny_pure ⟨_, rfl, v, H', I', r', q'⟩
theorem call_boolO (S : Spc X.K C "__bool__" f) (F : FnOk X.prog X.w X.K X.mg X.base CX k f fd ps sp) (hr : Room (k + 2) X.A) (hb : Binds X.K fd ps []) (hx : Passes CX X E) :
    CallR X (.type "bool") (rc1O C sp E fun v => ∃ b, v = .bl b) := by
  rintro pins s σ H xs us Q I r ⟨a, dx, fs, rfl, ea, q⟩
  obtain rfl := Vals.ref1 r
  obtain ⟨od, J⟩ := inst_of I ea
  obtain ⟨m, fr⟩ := I.fr
  have sb := (sub_self hr).in1
  have sb2 : L2.Sub X k X.A.in1.in1 := (sub_self hr).in1.in1
  have go := fun s1 (I1 : L2.Inv X pins σ H s1) => run_at sb2 F hb (hx · σ) I1 self1 q
  refine callType_codes (T := "bool") (Bi := Builtin.«object.__init__») (Q₁ := fun r s₁ => ∃ y, r = .bool y ∧ EP X pins σ Q r s₁) PySem.F.called_bool (PySem.F.typeCall_bool_1 _) PySem.F.entry_object_init ?_ ?_
  · refine codeAny_of_tree ?_
    show wpAny _ X.A.in1.in1 (do checkBuiltinCall "bool.__new__" ⟨[.type "bool", .ref a], []⟩; again (.builtin "bool.__new__" ⟨[.type "bool", .ref a], []⟩)) _ _ s
    refine wpAny_bind (wpAny_of_eq (PySem.F.newCall_bool_1 _) (wpAny_pure ⟨plainId_quiet (by decide +kernel) _, codeAny_builtin PySem.F.entry_bool_new ?_⟩))
    rw [Around.under_plainId (by decide +kernel) _]
    have tr : wpAny (model X.prog X.w) X.A.in1.in1 (truthy (.ref a)) (fun b s' => EP X pins σ Q (.bool b) s') X.xe s := by
      refine PySem.W.truthy_K fr I.ok.mod.kin J S.at_ S.fn (thn (go s I) fun u s' z => ?_)
      obtain ⟨v, H', I', r', ⟨b, rfl⟩, q'⟩ := z
      cases r'
      exact ⟨.bl b, H', I', rfl, q'⟩
    have f1 := PySem.F.conv_sub_bool
    obtain ⟨hp, g, d, tk, os⟩ := s
    unfold Builtin.«bool.__new__»
    repeat (first | (with_reducible refine wpAny_bind (wpAny_mono tr (fun b s' z => ?_) fun _ _ z => z)) | wp_step)
    exact ⟨b, rfl, z⟩
  · rintro obj s₁ ⟨y, rfl, hq⟩
    have ty : ∀ s : Shared, s.TypeIs (.bool y) "bool" := fun s => PySem.typeIs_bool s y
    exact ⟨ty _, PySem.F.args_object_init_2 _ _, object_init_meets PySem.F.called_bool.init.lookup PySem.F.called_bool.made (by decide) X.prog X.w X.A.in1 _ s₁ ⟨ty _, rfl, hq⟩⟩
end

/-! ### two places, the left one an instance of the class at C -/
/-- what the written part says of C's operator nm (its def at f), beside ints -/
structure Bin (K : PySem.W.Frag) (C : Addr) (nm : String) (f : Addr) : Prop where
  sf : PySem.W.selfFirst K C = true
  at_ : PySem.W.findIn K (.ref C) (PySem.dunder nm) = some (some (.ref f))
  fn : PySem.W.isFn K (.ref f) = true
  rv : ∃ rc, PySem.W.findIn K (.ref C) (dunderR nm) = some rc ∧ (rc = none ∨ ∃ g : Addr, rc = some (.ref g))
  il : ∃ fo, PySem.W.findIn K (.type "int") (PySem.dunder nm) = some fo
  ir : ∃ ro, PySem.W.findIn K (.type "int") (dunderR nm) = some ro
  su : PySem.W.subIn K (.type "int") (.ref C) = some false
section
variable {prog : Program} {w : World} {A : Around} {E : Value → Shared → Prop} {s : Shared} {K : PySem.W.Frag} {x C f : Addr} {nm : String} {ox : Obj} {od : Option Obj} {Q : Value → Shared → Prop}
open PySem.W
/-- some value comes of it -/
abbrev Gave (Q : Value → Shared → Prop) : Option Value → Shared → Prop := fun r s' => ∃ v, r = some v ∧ Q v s'
theorem bin1_int {i : Int} {t : Tok} (B : Bin K C nm f) (X : K.In s.heap) (I : InstAt s.heap x ox C od)
    (h : wpAny (model prog w) A (call (.ref f) [.ref x, .int i t]) (PySem.W.CmpBack Q) E s) :
    wpAny (model prog w) A (binaryOp1 nm (.ref x) (.int i t)) (Gave Q) E s := by
  obtain ⟨cd, rest, hcd, hm⟩ := ksp_first B.sf
  obtain ⟨fo, h1⟩ := B.il
  obtain ⟨ro, h2⟩ := B.ir
  obtain ⟨rc, hr, hp⟩ := B.rv
  have one := ksp_try X I B.at_ B.fn h
  obtain ⟨hh, g, d, tt, os⟩ := s
  have A1 : Looks (model prog w) hh (typeOf (.ref x)) (.ref C) := I.type
  have A2 : Looks (model prog w) hh (typeOf (.int i t)) (.type "int") := .of_pure rfl
  have A3 : Looks (model prog w) hh (fillsNumberSlot (.ref C) nm) true := fills_K X hcd hm B.at_
  have A4 : Looks (model prog w) hh (fillsNumberSlot (.type "int") nm) _ := ksp_fillsT X h1 h2
  have A5 : Looks (model prog w) hh (isSubtype (.type "int") (.ref C)) false := looks_subIn X B.su
  have A6 : Looks (model prog w) hh (numberSlotInPython (.ref C) nm) true := ksp_inPy X B.at_ hr hp
  have A7 : Looks (model prog w) hh (numberSlotInPython (.type "int") nm) false := .of_pure rfl
  have A8 : Looks (model prog w) hh (typeLookup (.type "int") (dunderR nm)) ro := looks_findIn X h2
  generalize ((fo.isSome && !isSeqSlot fo) || (ro.isSome && !isSeqSlot ro)) = right at A4
  have part : (Value.ref C == Value.type "int") = false := by simp
  unfold binaryOp1
  refine wpAny_bind (A1.at (wpAny_bind (A2.at (wpAny_bind (A3.at ?_)))))
  rw [part]
  cases right with
  | false => ksp_lk; exact wpAny_mono one (fun r s' ⟨v, e, q⟩ => by subst e; ksp_lk; exact ⟨v, rfl, q⟩) fun _ _ e => e
  | true => ksp_lk; exact wpAny_mono one (fun r s' ⟨v, e, q⟩ => by subst e; ksp_lk; exact ⟨v, rfl, q⟩) fun _ _ e => e
theorem bin1_own {y : Addr} (B : Bin K C nm f) (X : K.In s.heap) (I : InstAt s.heap x ox C od) (ty : Looks (model prog w) s.heap (typeOf (.ref y)) (.ref C))
    (h : wpAny (model prog w) A (call (.ref f) [.ref x, .ref y]) (PySem.W.CmpBack Q) E s) :
    wpAny (model prog w) A (binaryOp1 nm (.ref x) (.ref y)) (Gave Q) E s := by
  obtain ⟨cd, rest, hcd, hm⟩ := ksp_first B.sf
  have one := ksp_try X I B.at_ B.fn h
  obtain ⟨hh, g, d, tt, os⟩ := s
  have A1 : Looks (model prog w) hh (typeOf (.ref x)) (.ref C) := I.type
  have A2 : Looks (model prog w) hh (typeOf (.ref y)) (.ref C) := ty
  have A3 : Looks (model prog w) hh (fillsNumberSlot (.ref C) nm) true := fills_K X hcd hm B.at_
  unfold binaryOp1
  refine wpAny_bind (A1.at (wpAny_bind (A2.at (wpAny_bind (A3.at ?_)))))
  rw [show (Value.ref C == Value.ref C) = true from beq_self_eq_true _]
  ksp_lk
  exact wpAny_mono one (fun r s' ⟨v, e, q⟩ => by subst e; ksp_lk; exact ⟨v, rfl, q⟩) fun _ _ e => e
theorem bin_of {op : Operator} {a b : Value} (h : wpAny (model prog w) A (binaryOp1 op.info.2 a b) (Gave Q) E s) : wpAny (model prog w) A (binaryOp op a b) Q E s := by
  unfold binaryOp
  refine wpAny_holding (wpAny_bind (wpAny_mono h (fun r s' ⟨v, e, q⟩ => ?_) fun _ _ e => e))
  subst e
  exact wpAny_pure q

/-- C has no operator op= of its own -/
structure NoIn (K : PySem.W.Frag) (C : Addr) (nm : String) : Prop where
  mro : ∃ cd, PySem.W.clsIn K C = some cd ∧ cd.mro = [.ref C, .type "object"]
  no1 : PySem.W.findIn K (.ref C) (dunderI nm) = some none
  no2 : PySem.W.findIn K (.type "object") (dunderI nm) = some none
theorem noIn_fills {add : Bool} {h : Heap} (N : NoIn K C nm) (X : K.In h) : Looks (model prog w) h (fillsInplaceSlot (.ref C) nm add) false := by
  obtain ⟨cd, hcd, hm⟩ := N.mro
  intro A' Q' E' s' k q
  obtain ⟨hh, g, d, tt, os⟩ := s'
  have X' : K.In hh := X.keeps k
  have B0 : Looks (model prog w) hh (mroOf (.ref C)) cd.mro := (looks_clsIn X' hcd).andThen (f := fun cd => pure cd.mro) .now
  have B1 : Looks (model prog w) hh (typeLookup (.ref C) (dunderI nm)) none := looks_findIn X' N.no1
  have B2 : Looks (model prog w) hh (typeLookup (.type "object") (dunderI nm)) none := looks_findIn X' N.no2
  unfold fillsInplaceSlot
  refine wpAny_bind (B0.at ?_)
  rw [hm, List.anyM_cons]
  refine wpAny_bind (wpAny_bind (B1.at (wpAny_pure ?_)))
  rw [if_neg Bool.false_ne_true, List.anyM_cons]
  refine wpAny_bind (wpAny_bind (B2.at (wpAny_pure ?_)))
  rw [if_neg Bool.false_ne_true, List.anyM_nil]
  exact wpAny_pure q
theorem inplace_of {op : Operator} {b : Value} (N : NoIn K C op.info.2) (X : K.In s.heap) (I : InstAt s.heap x ox C od)
    (h : wpAny (model prog w) A (binaryOp1 op.info.2 (.ref x) b) (Gave Q) E s) : wpAny (model prog w) A (inplaceOp op (.ref x) b) Q E s := by
  have A1 : Looks (model prog w) s.heap (typeOf (.ref x)) (.ref C) := I.type
  have A2 := noIn_fills (prog := prog) (w := w) (add := op == .Add) N X
  unfold inplaceOp
  refine wpAny_holding (wpAny_bind (A1.here (wpAny_bind (A2.here ?_))))
  rw [if_neg Bool.false_ne_true]
  refine wpAny_bind (wpAny_mono h (fun r s' ⟨v, e, q⟩ => ?_) fun _ _ e => e)
  subst e
  exact wpAny_pure q
end
/-- the operator's reading: the other one an int or an instance of C -/
def r2O (C : Addr) (sp : Sp) (E : L2.St → XK) : L2.St → R2 := fun σ x y H Q => ∃ a dx fs, x = .ref a ∧ H a = some (.ins C dx fs) ∧
  ((∃ i, y = .int i) ∨ ∃ b dy gs, y = .ref b ∧ H b = some (.ins C dy gs)) ∧ sp [x, y] H Q (E σ)
section
variable {X : Cx} {CX : CXT} {k : Nat} {C f : Addr} {fd : FuncData} {ps : List Str} {sp : Sp} {E : L2.St → XK} {op : Operator}
theorem bin1_O (B : Bin X.K C op.info.2 f) (F : FnOk X.prog X.w X.K X.mg X.base CX k f fd ps sp) (hr : Room k X.A) (hb : Binds X.K fd ps []) (hx : ∀ σ, PassesAt CX X σ (E σ))
    {pins : List (Addr × Obj)} {σ : L2.St} {H : Hp} {s : Shared} {x y : V} {v u : Value} {Q : VK} (I : L2.Inv X pins σ H s) (rx : RelV x v) (ry : RelV y u) (h : r2O C sp E σ x y H Q) :
    wpAny (model X.prog X.w) X.A (binaryOp1 op.info.2 v u) (Gave (EP X pins σ Q)) X.xe s := by
  obtain ⟨a, dx, fs, rfl, ea, ty, q⟩ := h
  obtain rfl : v = Value.ref a := rx
  obtain ⟨od, J⟩ := inst_of I ea
  have go : wpAny (model X.prog X.w) X.A (call (.ref f) [.ref a, u]) (PySem.W.CmpBack (EP X pins σ Q)) X.xe s :=
    thn (run_at (sub_self hr) F hb (hx σ) I (show Vals [V.ref a, y] [Value.ref a, u] from .cons rfl (.cons ry .nil)) q) fun u' s' z => rel_back z
  rcases ty with ⟨i, rfl⟩ | ⟨b, dy, gs, rfl, eb⟩
  · obtain ⟨t, rfl⟩ := ry
    exact bin1_int B I.kIn J go
  · obtain rfl : u = Value.ref b := ry
    obtain ⟨od', J'⟩ := inst_of I eb
    exact bin1_own B I.kIn J J'.type go
theorem ops_bin (B : Bin X.K C op.info.2 f) (F : FnOk X.prog X.w X.K X.mg X.base CX k f fd ps sp) (hr : Room k X.A) (hb : Binds X.K fd ps []) (hx : ∀ σ, PassesAt CX X σ (E σ)) :
    OpS X (binaryOp op) (r2O C sp E) := fun pins s σ H x y v u Q I rx ry h => bin_of (bin1_O B F hr hb hx I rx ry h)
theorem ops_in (B : Bin X.K C op.info.2 f) (N : NoIn X.K C op.info.2) (F : FnOk X.prog X.w X.K X.mg X.base CX k f fd ps sp) (hr : Room k X.A) (hb : Binds X.K fd ps []) (hx : ∀ σ, PassesAt CX X σ (E σ)) :
    OpS X (inplaceOp op) (r2O C sp E) := by
  intro pins s σ H x y v u Q I rx ry h
  have z := bin1_O B F hr hb hx I rx ry h
  obtain ⟨a, dx, fs, rfl, ea, _⟩ := h
  obtain rfl : v = Value.ref a := rx
  obtain ⟨od, J⟩ := inst_of I ea
  exact inplace_of N I.kIn J z
end
end Pm

/-! Pm, part 2: calls; defs that know that no repr runs around them. -/
namespace Pm
open PySem PySem.Spec PyProof.Rows L2

/-- no repr of a list, tuple or dict runs around -/
abbrev GG (A : Around) : Prop := A.guards = some []
/-- a def's promise, where no such repr runs around -/
structure FnG (P : Program) (w : World) (K : PySem.W.Frag) (mg : Str → Option Value) (base : Heap) (CX : CXT) (k : Nat) (f : Addr) (fd : FuncData) (ps : List Str) (sp : Sp) : Prop where
  len : ∀ vs H Q E, sp vs H Q E → vs.length = ps.length
  run : ∀ {A : Around} {outer : List Env} {s : Shared} {H : Hp} {args : Args} {us : List Value} {vs : List V} {Q : VK} {E : XK}, GG A → Room k A → Env0 P w K mg base A outer s H →
    BindsTo s fd args (ps.zip us) → Vals vs us → sp vs H Q E → codeAny (model P w) A (.call (.ref f) args) (CR CX outer P w H s Q E) s

section
variable {P : Program} {w : World} {K : PySem.W.Frag} {mg : Str → Option Value} {base : Heap} {CX : CXT} {k j : Nat} {f : Addr} {fd : FuncData} {N ps : List Str} {sp : Sp} {x qual : Str} {st : Stmt}
theorem FnG.of (F : FnOk P w K mg base CX k f fd ps sp) : FnG P w K mg base CX k f fd ps sp := ⟨F.len, fun _ hr e b r h => F.run _ _ _ _ _ _ _ _ _ hr e b r h⟩
theorem FnG.mono (F : FnG P w K mg base CX j f fd ps sp) (h : j ≤ k) : FnG P w K mg base CX k f fd ps sp := ⟨F.len, fun g hr e b r q => F.run g (hr.mono h) e b r q⟩
theorem FnG.imp {sp' : Sp} (F : FnG P w K mg base CX k f fd ps sp) (h : ∀ vs H Q E, sp' vs H Q E → sp vs H Q E) : FnG P w K mg base CX k f fd ps sp' :=
  ⟨fun vs H Q E q => F.len vs H Q E (h _ _ _ _ q), fun g hr e b r q => F.run g hr e b r (h _ _ _ _ q)⟩
/-- by the body -/
theorem goX (F : Fun K x qual st f fd) (S : FnScope N ps (defScope st)) (len : ∀ vs H Q E, sp vs H Q E → vs.length = ps.length)
    (body : ∀ (cdv : Value) (A : Around) (outer : List Env) (s : Shared) (H : Hp) (vs : List V) (Q : VK) (E : XK), GG (A.deeper (envOfC qual (defScope st) s.heap.objs.size f cdv)) →
      Room k (A.deeper (envOfC qual (defScope st) s.heap.objs.size f cdv)) → sp vs H Q E →
      ∃ t, PSs (cxOf CX P w K mg base N qual (defScope st) f cdv A outer s H E) (defBody st) t ∧ t { nx := fun _ H' => Q .non H', rt := Q } (start N vs) H) :
    FnG P w K mg base CX (k + 1) f fd ps sp := by
  obtain ⟨oc, od, kV, doc, pm, an, cdv, ct, osl, rfl, lk, hcd⟩ := F.ex
  refine ⟨len, fun {A outer s H args us vs Q E} g hr e0 hb r hsp => ?_⟩
  have inH : K.In s.heap := e0.mod.kin.keeps fun b o e => (e0.bs b o e).1
  refine codeAny_call_function hr.depth (inH _ _ lk) rfl S.co S.gen rfl (PySem.W.codeRec_of inH hcd) (hb _ _ _ _ ?_)
  refine wpAny_newFunctionEnv_cells S.kind (fun y hy => ?_) fun env he s1 ic => ?_
  · cases S.par y.1 (List.of_mem_zip hy).1 with
    | inl q => exact .inl q
    | inr q => exact .inr ⟨q, PySem.W.cellsFrom_some _ _ _ (.inl q)⟩
  · subst he
    have lim : s.heap.NoLimit := e0.mod.nolimit.keeps fun b o e => (e0.bs b o e).1
    refine ⟨lim.keeps ic.toInCall.keep, codeAny_func ?_⟩
    obtain ⟨t, ht, hq⟩ := body cdv A outer s H vs Q E g (hr.deeper _) hsp
    have I := inv_start (CX := CX) (E := E) S hr.hd e0 (len _ _ _ _ hsp) r ic
    refine wpAny_mono (ht.run [] s1 (start N vs) H _ I hq) (fun fl s' z => ?_) fun e s' z => z
    match fl, z with
    | .ret u, ⟨v, _, H', J, rv, q⟩ => exact ⟨v, H', J.os, J.bare, J.base, J.hok, rv, q⟩
    | .next, ⟨_, H', J, q⟩ => exact ⟨V.non, H', J.os, J.bare, J.base, J.hok, rfl, q⟩
    | .brk, ⟨_, _, _, q⟩ => exact q.elim
    | .cont, ⟨_, _, _, q⟩ => exact q.elim
theorem go0 (F : Fun K x qual st f fd) (S : FnScope N ps (defScope st)) (len : ∀ vs H Q E, sp vs H Q E → vs.length = ps.length)
    (body : ∀ (cdv : Value) (A : Around) (outer : List Env) (s : Shared) (H : Hp) (vs : List V) (Q : VK) (E : XK), GG (A.deeper (envOfC qual (defScope st) s.heap.objs.size f cdv)) →
      Room k (A.deeper (envOfC qual (defScope st) s.heap.objs.size f cdv)) → sp vs H Q E →
      ∃ t, PSs (cxOf CX0 P w K mg base N qual (defScope st) f cdv A outer s H E).nox (defBody st) t ∧ t { nx := fun _ H' => Q .non H', rt := Q } (start N vs) H) :
    FnG P w K mg base CX0 (k + 1) f fd ps sp :=
  goX F S len fun cdv A outer s H vs Q E g hr h => let ⟨t, a, b⟩ := body cdv A outer s H vs Q E g hr h; ⟨t, a.nox, b⟩
end

/-! ### the ends of calls -/
section
variable {X : Cx} {CX : CXT} {k n : Nat} {f C : Addr} {fd : FuncData} {ps ks : List Str} {sp : Sp} {E : L2.St → XK} {x m : Str} {p pos apos : Pos} {e o : Expr} {es : List Expr} {kws : List Keyword} {ta : TE} {t tk : TA}
  {g : List Value → List Value → List Value} {gV : List V → List V → List V}
/-- what lies behind a call's end -/
theorem call_end {pins : List (Addr × Obj)} {σ : L2.St} {H : Hp} {s : Shared} {Q : VK} {E' : XK} (hx : PassesAt CX X σ E') (I : L2.Inv X pins σ H s) (c : Code) {A : Around}
    (h : codeAny (model X.prog X.w) A c (CR CX X.stack X.prog X.w H s Q E') s) :
    codeAny (model X.prog X.w) A c (fun r s' => match r with | .ok (.ret v) => EP X pins σ Q v s' | .ok _ => False | .error e => X.xe e s') s :=
  codeAny_mono h fun r s' q => match r, q with
    | .error er, q => hx pins H s er s' I q
    | .ok (.ret _), q => I.after q
/-- f(e, ..), a def of the module -/
def tCl (sp : Sp) (E : L2.St → XK) (t : TA) : TE := fun σ H Q => t σ H fun vs H1 => sp vs H1 Q (E σ)
theorem pe_g (gg : GG X.A) (F : FnG X.prog X.w X.K X.mg X.base CX k f fd ps sp) (hr : Room k X.A) (hg : Gl X x) (hm : X.mg x = some (.ref f)) (hk : PySem.W.keepIn X.K (.ref f) = true) (hb : Binds X.K fd ps []) (hx : ∀ σ, PassesAt CX X σ (E σ))
    (ha : PA X (e :: es) t) (hdb : (x == ("__debug__" : Str)) = false := by decide) (he : starEach (e :: es) X.env = (false, eval e X.env) :: starEach es X.env := by rfl) (hpl : (backTo pos (starEach es X.env)).any (·.1) = false := by rfl) :
    PE X (.Call (.Name x p) (e :: es) [] pos) (tCl sp E t) := by
  refine ⟨fun pins s σ H Q I h => wpAny_Call_Name_kw (ld_glob I hg hm ?_ hdb)⟩
  refine PySem.W.callWith_K (h₀ := X.base) I.ok.mod.kin hk (thn (ha.run pos pins s σ H _ I h) fun us s1 ⟨vs, H1, I1, r, q⟩ => ⟨I1.kIn, ?_⟩) he hpl
  have len : us.length = ps.length := r.length.symm.trans (F.len _ _ _ _ q)
  have bt := hb s1 us I1.kIn (by simpa using len)
  simp only [List.append_nil] at bt
  exact wpAny_call (call_end (hx σ) I1 _ (F.run gg hr I1.env0 bt r q))
/-- the same from a def that needs not know it -/
theorem pe_f (F : FnOk X.prog X.w X.K X.mg X.base CX k f fd ps sp) (hr : Room k X.A) (hg : Gl X x) (hm : X.mg x = some (.ref f)) (hk : PySem.W.keepIn X.K (.ref f) = true) (hb : Binds X.K fd ps []) (hx : ∀ σ, PassesAt CX X σ (E σ))
    (ha : PA X (e :: es) t) (hdb : (x == ("__debug__" : Str)) = false := by decide) (he : starEach (e :: es) X.env = (false, eval e X.env) :: starEach es X.env := by rfl) (hpl : (backTo pos (starEach es X.env)).any (·.1) = false := by rfl) :
    PE X (.Call (.Name x p) (e :: es) [] pos) (tCl sp E t) := by
  refine ⟨fun pins s σ H Q I h => wpAny_Call_Name_kw (ld_glob I hg hm ?_ hdb)⟩
  refine PySem.W.callWith_K (h₀ := X.base) I.ok.mod.kin hk (thn (ha.run pos pins s σ H _ I h) fun us s1 ⟨vs, H1, I1, r, q⟩ => ⟨I1.kIn, ?_⟩) he hpl
  exact run_at (sub_self hr) F hb (hx σ) I1 r q

/-! ### C(..), C an own class; the arguments as KBn says -/
theorem run_mk {pins : List (Addr × Obj)} {σ : L2.St} {H : Hp} {s : Shared} {Q : VK} {us ws : List Value} {vs zs : List V} (M : Mk X.K C f) (F : FnOk X.prog X.w X.K X.mg X.base CX k f fd ps sp) (hr : Room (k + 1) X.A) (hb : KBn X.K fd ps (n + 1) ks g gV)
    (hx : ∀ σ, PassesAt CX X σ (E σ)) (I : L2.Inv X pins σ H s) (r : Vals vs us) (rz : Vals zs ws) (l1 : vs.length = n) (l2 : zs.length = ks.length)
    (h : ∀ x dx, H x = none → H dx = none → dx ≠ x → sp (gV (.ref x :: vs) zs) (upd (upd H dx (.own x)) x (.ins C dx [])) (fun v H2 => v = .non ∧ Q (.ref x) H2) (E σ)) :
    wpAny (model X.prog X.w) X.A (call (.ref C) us (ks.zip ws)) (EP X pins σ Q) X.xe s := by
  have new := h (s.heap.objs.size + 1) s.heap.objs.size (I.hok.fresh (Nat.le_succ _)) (I.hok.fresh (Nat.le_refl _)) (Nat.ne_of_lt (Nat.lt_succ_self _))
  have J := L2.Inv.made (C := C) I
  have ru : Vals (V.ref (s.heap.objs.size + 1) :: vs) (Value.ref (s.heap.objs.size + 1) :: us) := .cons rfl r
  have a1 : (Value.ref (s.heap.objs.size + 1) :: us).length = n + 1 := ru.length.symm.trans (congrArg Nat.succ l1)
  refine wpAny_call (make_map (f := f) I.kIn M.makes M.init (beq_iff_eq.mp M.fn) (codeAny_mono (F.run (X.A.under (.builtin "type.__call__" ⟨.ref C :: us, ks.zip ws⟩)) X.stack _ _ ⟨Value.ref (s.heap.objs.size + 1) :: us, ks.zip ws⟩
    (g (Value.ref (s.heap.objs.size + 1) :: us) ws) _ _ (E σ) (hr.make C us (ks.zip ws)) (J.env0.make C us (ks.zip ws)) (hb.to _ _ ws J.kIn a1 (rz.length.symm.trans l2)) (hb.rel ru rz) new) fun res s' q => ?_))
  match res, q with
  | .error er, q => exact hx σ pins _ _ er s' J q
  | .ok (.ret u), q =>
    obtain ⟨v, H', J', rv, ev, z⟩ := J.after q
    subst ev
    exact ⟨rv, V.ref (s.heap.objs.size + 1), H', J', rfl, z⟩
def tMk (C : Addr) (n : Nat) (sp : Sp) (gV : List V → List V → List V) (E : L2.St → XK) (t tk : TA) : TE := fun σ H Q => t σ H fun vs H1 => tk σ H1 fun zs H2 => vs.length = n ∧
  ∀ x dx, H2 x = none → H2 dx = none → dx ≠ x → sp (gV (.ref x :: vs) zs) (upd (upd H2 dx (.own x)) x (.ins C dx [])) (fun v H3 => v = .non ∧ Q (.ref x) H3) (E σ)
theorem pe_mkP (M : Mk X.K C f) (F : FnOk X.prog X.w X.K X.mg X.base CX k f fd ps sp) (hr : Room (k + 1) X.A) (hg : Gl X x) (hm : X.mg x = some (.ref C)) (hb : KBn X.K fd ps (n + 1) [] g gV) (hx : ∀ σ, PassesAt CX X σ (E σ)) (ha : PA X (e :: es) t)
    (hdb : (x == ("__debug__" : Str)) = false := by decide) (he : starEach (e :: es) X.env = (false, eval e X.env) :: starEach es X.env := by rfl) (hpl : (backTo pos (starEach es X.env)).any (·.1) = false := by rfl) :
    PE X (.Call (.Name x p) (e :: es) [] pos) (tMk C n sp gV E t tNil) := by
  refine ⟨fun pins s σ H Q I h => wpAny_Call_Name_kw (ld_glob I hg hm ?_ hdb)⟩
  refine PySem.W.callWith_K (h₀ := X.base) I.ok.mod.kin M.kp (thn (ha.run pos pins s σ H _ I h) fun us s1 ⟨vs, H1, I1, r, l1, q⟩ => ⟨I1.kIn, ?_⟩) he hpl
  exact run_mk (ks := []) (ws := []) (zs := []) M F hr hb hx I1 r .nil l1 rfl q
theorem pe_mkN (M : Mk X.K C f) (F : FnOk X.prog X.w X.K X.mg X.base CX k f fd ps sp) (hr : Room (k + 1) X.A) (hg : Gl X x) (hm : X.mg x = some (.ref C)) (hb : KBn X.K fd ps 1 ks g gV) (hx : ∀ σ, PassesAt CX X σ (E σ)) (hkw : PK X kws tk)
    (hall : (backToKw pos (keywordEach kws X.env)).all (·.1.isSome) = true := by rfl) (hks : (backToKw pos (keywordEach kws X.env)).filterMap (·.1) = ks := by rfl) (hlen : kws.length = ks.length := by rfl)
    (hdb : (x == ("__debug__" : Str)) = false := by decide) (hpl : ((backTo pos (starEach [] X.env)).any (·.1) || (backToKw pos (keywordEach kws X.env)).any (·.1.isNone)) = false := by rfl) :
    PE X (.Call (.Name x p) [] kws pos) (fun σ H Q => tMk C 0 sp gV E tNil (fun σ H Q => tk σ H fun zs H1 => zs.length = ks.length ∧ Q zs H1) σ H Q) := by
  refine ⟨fun pins s σ H Q I h => wpAny_Call_Name_kw (ld_glob I hg hm ?_ hdb)⟩
  refine PySem.W.callWith_KW0 (h₀ := X.base) I.ok.mod.kin M.kp hall (thn (hkw.run pos pins s σ H _ I h) fun ws s1 ⟨zs, H1, I1, rz, l2, l1, q⟩ => ⟨I1.kIn, ?_⟩) hpl
  rw [hks]
  exact run_mk (us := []) (vs := []) M F hr hb hx I1 .nil rz l1 l2 q

/-- the same where a local name holds the class -/
theorem pe_mkL {i : Nat} (M : Mk X.K C f) (F : FnOk X.prog X.w X.K X.mg X.base CX k f fd ps sp) (hr : Room (k + 1) X.A) (hN : X.N[i]? = some x) (hv : Vis X.env.scope x) (hb : KBn X.K fd ps (n + 1) [] g gV) (hx : ∀ σ, PassesAt CX X σ (E σ)) (ha : PA X (e :: es) t)
    (hdb : (x == ("__debug__" : Str)) = false := by decide) (hcd : (x == ("__classdict__" : Str)) = false := by decide) (he : starEach (e :: es) X.env = (false, eval e X.env) :: starEach es X.env := by rfl) (hpl : (backTo pos (starEach es X.env)).any (·.1) = false := by rfl) :
    PE X (.Call (.Name x p) (e :: es) [] pos) (fun σ H Q => σ[i]? = some (some (.ref C)) ∧ tMk C n sp gV E t tNil σ H Q) := by
  refine ⟨fun pins s σ H Q I ⟨hs, h⟩ => wpAny_Call_Name_kw (thn ((pe_var (pos := p) hN hv hdb hcd).run pins s σ H (fun v H1 => v = .ref C ∧ H1 = H) I ⟨.ref C, hs, rfl, rfl⟩) fun u s1 ⟨v, H1, I1, r1, e1, e2⟩ => ?_)⟩
  subst e1 e2
  obtain rfl : u = Value.ref C := r1
  refine PySem.W.callWith_K (h₀ := X.base) I1.ok.mod.kin M.kp (thn (ha.run pos pins s1 σ _ _ I1 h) fun us s2 ⟨vs, H2, I2, r, l1, q⟩ => ⟨I2.kIn, ?_⟩) he hpl
  exact run_mk (ks := []) (ws := []) (zs := []) M F hr hb hx I2 r .nil l1 rfl q

/-! ### C.m(..), m a classmethod of the class at C -/
theorem run_clm {pins : List (Addr × Obj)} {σ : L2.St} {H : Hp} {s : Shared} {Q : VK} {q gA : Addr} {us ws : List Value} {vs zs : List V} (F : FnOk X.prog X.w X.K X.mg X.base CX k gA fd ps sp) (hr : Room k X.A) (hb : KBn X.K fd ps (n + 1) ks g gV)
    (hx : ∀ σ, PassesAt CX X σ (E σ)) (I : L2.Inv X ((q, PySem.W.methodObj (.ref gA) (.ref C)) :: pins) σ H s) (r : Vals vs us) (rz : Vals zs ws) (l1 : vs.length = n) (l2 : zs.length = ks.length) (h : sp (gV (.ref C :: vs) zs) H Q (E σ)) :
    wpAny (model X.prog X.w) X.A (call (.ref q) us (ks.zip ws)) (EP X pins σ Q) X.xe s := by
  have ru : Vals (V.ref C :: vs) (Value.ref C :: us) := .cons rfl r
  have a1 : (Value.ref C :: us).length = n + 1 := ru.length.symm.trans (congrArg Nat.succ l1)
  refine thn (wpAny_call (PySem.W.method_call (ClX.pin_at I) (call_end (Q := Q) (hx σ) I _ (F.run X.A X.stack s H ⟨Value.ref C :: us, ks.zip ws⟩ (g (Value.ref C :: us) ws) (gV (V.ref C :: vs) zs) Q (E σ) hr I.env0
    (hb.to s _ ws I.kIn a1 (rz.length.symm.trans l2)) (hb.rel ru rz) h)))) fun _ _ y => ClX.unpinE y
def tCm (C : Addr) (n : Nat) (sp : Sp) (gV : List V → List V → List V) (E : L2.St → XK) (ta : TE) (t tk : TA) : TE := fun σ H Q => ta σ H fun x H0 => x = .ref C ∧ t σ H0 fun vs H1 => tk σ H1 fun zs H2 => vs.length = n ∧ sp (gV (.ref C :: vs) zs) H2 Q (E σ)
theorem pe_cmP {mc : Value} {pA gA : Addr} {pl : Sem Bool} (he : PE X o ta) (r : ClX.CRead X.K C mc) (c : ClX.CMet X.K C mc m pA gA) (F : FnOk X.prog X.w X.K X.mg X.base CX k gA fd ps sp) (hr : Room k X.A) (hb : KBn X.K fd ps (n + 1) [] g gV) (hx : ∀ σ, PassesAt CX X σ (E σ)) (ha : PA X (e :: es) t)
    (hst : starEach (e :: es) X.env = (false, eval e X.env) :: starEach es X.env := by rfl) (hpl : (backTo pos (starEach es X.env)).any (·.1) = false := by rfl)
    (ht : eval (.Call (.Attribute o m apos) (e :: es) [] pos) X.env = (eval o X.env >>= fun ov => standAt apos.atName >>= fun _ => holding [ov] (getMethod ov m pl) >>= fun ff => callWith pos ff.1 ff.2 (backTo pos (starEach (e :: es) X.env)) (backToKw pos (keywordEach [] X.env))) := by rfl) :
    PE X (.Call (.Attribute o m apos) (e :: es) [] pos) (tCm C n sp gV E ta t tNil) := by
  refine ⟨fun pins s σ H Q I h => PySem.W.methodCall_KW (pl := pl) (thn (he.run pins s σ H _ I h) fun u s1 ⟨x, H1, I1, rx, ex, q⟩ => ?_) ht⟩
  subst ex
  obtain rfl : u = Value.ref C := rx
  refine ClX.getmethcm_ok I1 r c fun s2 I2 => ClX.callwith_cm I2 (ClX.base_none I1 (Nat.le_refl _)) c.fi (thn (ha.run pos _ s2 σ H1 _ I2 q) fun us s3 ⟨vs, H2, I3, rv, l1, q2⟩ => ⟨⟨ClX.pin_at I3, I3.kIn⟩, ?_⟩) hst hpl
  exact run_clm (ks := []) (ws := []) (zs := []) F hr hb hx I3 rv .nil l1 rfl q2
theorem pe_cmN {mc : Value} {pA gA : Addr} {pl : Sem Bool} (he : PE X o ta) (r : ClX.CRead X.K C mc) (c : ClX.CMet X.K C mc m pA gA) (F : FnOk X.prog X.w X.K X.mg X.base CX k gA fd ps sp) (hr : Room k X.A) (hb : KBn X.K fd ps 1 ks g gV) (hx : ∀ σ, PassesAt CX X σ (E σ)) (hkw : PK X kws tk)
    (hall : (backToKw pos (keywordEach kws X.env)).all (·.1.isSome) = true := by rfl) (hks : (backToKw pos (keywordEach kws X.env)).filterMap (·.1) = ks := by rfl)
    (hpl : ((backTo pos (starEach [] X.env)).any (·.1) || (backToKw pos (keywordEach kws X.env)).any (·.1.isNone)) = false := by rfl)
    (ht : eval (.Call (.Attribute o m apos) [] kws pos) X.env = (eval o X.env >>= fun ov => standAt apos.atName >>= fun _ => holding [ov] (getMethod ov m pl) >>= fun ff => callWith pos ff.1 ff.2 (backTo pos (starEach [] X.env)) (backToKw pos (keywordEach kws X.env))) := by rfl) :
    PE X (.Call (.Attribute o m apos) [] kws pos) (tCm C 0 sp gV E ta tNil (fun σ H Q => tk σ H fun zs H1 => zs.length = ks.length ∧ Q zs H1)) := by
  refine ⟨fun pins s σ H Q I h => PySem.W.methodCall_KW (pl := pl) (thn (he.run pins s σ H _ I h) fun u s1 ⟨x, H1, I1, rx, ex, q⟩ => ?_) ht⟩
  subst ex
  obtain rfl : u = Value.ref C := rx
  refine ClX.getmethcm_ok I1 r c fun s2 I2 => ?_
  have hL : s1.heap.objs.size ≠ X.env.locals := (I2.pin (s1.heap.objs.size, PySem.W.methodObj (.ref gA) (.ref C)) (List.mem_append_right _ List.mem_cons_self)).2.2.1
  refine PySem.W.callWith_of hpl (PySem.W.keeps_M c.fi) (PyProof.Rows.evalArgs_kw2_nil hall (thn (hkw.run pos _ s2 σ H1 _ I2 q) fun ws s3 ⟨zs, H2, I3, rz, l2, l1, q2⟩ => ⟨⟨ClX.pin_at I3, I3.kIn⟩, ?_⟩))
  rw [hks]
  exact run_clm (us := []) (vs := []) F hr hb hx I3 .nil rz l1 l2 q2
end

/-! ### o.m(..), a method; own operators where the wish hangs on no slot -/
section
variable {X : Cx} {CX : CXT} {k n : Nat} {f C : Addr} {fd : FuncData} {ps ks : List Str} {sp : Sp} {E : L2.St → XK} {m : Str} {pos apos : Pos} {e o : Expr} {es : List Expr} {kws : List Keyword} {ta : TE} {t tk : TA}
  {g : List Value → List Value → List Value} {gV : List V → List V → List V}
theorem run_kb {pins : List (Addr × Obj)} {σ : L2.St} {H : Hp} {s : Shared} {Q : VK} {us ws : List Value} {vs zs : List V} (F : FnOk X.prog X.w X.K X.mg X.base CX k f fd ps sp) (hr : Room k X.A) (hb : KBn X.K fd ps n ks g gV) (hx : ∀ σ, PassesAt CX X σ (E σ))
    (I : L2.Inv X pins σ H s) (r : Vals vs us) (rz : Vals zs ws) (l1 : vs.length = n) (l2 : zs.length = ks.length) (h : sp (gV vs zs) H Q (E σ)) : wpAny (model X.prog X.w) X.A (call (.ref f) us (ks.zip ws)) (EP X pins σ Q) X.xe s :=
  wpAny_call (call_end (Q := Q) (hx σ) I _ (F.run X.A X.stack s H ⟨us, ks.zip ws⟩ (g us ws) (gV vs zs) Q (E σ) hr I.env0 (hb.to s us ws I.kIn (r.length.symm.trans l1) (rz.length.symm.trans l2)) (hb.rel r rz) h))
def tMe (C : Addr) (m : Str) (n : Nat) (sp : Sp) (gV : List V → List V → List V) (E : L2.St → XK) (ta : TE) (t tk : TA) : TE := fun σ H Q => ta σ H fun x H0 => ∃ a dx fs, x = .ref a ∧ H0 a = some (.ins C dx fs) ∧ fs.lookup m = none ∧
  t σ H0 fun vs H1 => tk σ H1 fun zs H2 => vs.length = n ∧ sp (gV (x :: vs) zs) H2 Q (E σ)
theorem pe_meP {pl : Sem Bool} (he : PE X o ta) (c : Cls X.K C) (hm : Meth X.K C m f) (F : FnOk X.prog X.w X.K X.mg X.base CX k f fd ps sp) (hr : Room k X.A) (hb : KBn X.K fd ps (n + 1) [] g gV) (hx : ∀ σ, PassesAt CX X σ (E σ)) (ha : PA X (e :: es) t)
    (hst : starEach (e :: es) X.env = (false, eval e X.env) :: starEach es X.env := by rfl) (hpl : (backTo pos (starEach es X.env)).any (·.1) = false := by rfl)
    (ht : eval (.Call (.Attribute o m apos) (e :: es) [] pos) X.env = (eval o X.env >>= fun ov => standAt apos.atName >>= fun _ => holding [ov] (getMethod ov m pl) >>= fun ff => callWith pos ff.1 ff.2 (backTo pos (starEach (e :: es) X.env)) (backToKw pos (keywordEach [] X.env))) := by rfl) :
    PE X (.Call (.Attribute o m apos) (e :: es) [] pos) (tMe C m n sp gV E ta t tNil) := by
  refine ⟨fun pins s σ H Q I h => PySem.W.methodCall_KW (pl := pl) (thn (he.run pins s σ H _ I h) fun u s1 ⟨x, H1, I1, rx, a, dx, fs, ex, ea, l, q⟩ => ?_) ht⟩
  subst ex
  obtain rfl : u = Value.ref a := rx
  refine getmeth_ok I1 ea c hm l (PySem.W.callWith_K (first := [.ref a]) (h₀ := X.base) I.ok.mod.kin hm.kp (thn (ha.run pos pins s1 σ H1 _ I1 q) fun us s2 ⟨vs, H2, I2, r, l1, q2⟩ => ⟨I2.kIn, ?_⟩) hst hpl)
  exact run_kb (ks := []) (ws := []) (zs := []) F hr hb hx I2 (show Vals (V.ref a :: vs) (Value.ref a :: us) from .cons rfl r) .nil (congrArg Nat.succ l1) rfl q2
theorem pe_meN {pl : Sem Bool} (he : PE X o ta) (c : Cls X.K C) (hm : Meth X.K C m f) (F : FnOk X.prog X.w X.K X.mg X.base CX k f fd ps sp) (hr : Room k X.A) (hb : KBn X.K fd ps 1 ks g gV) (hx : ∀ σ, PassesAt CX X σ (E σ)) (hkw : PK X kws tk)
    (hall : (backToKw pos (keywordEach kws X.env)).all (·.1.isSome) = true := by rfl) (hks : (backToKw pos (keywordEach kws X.env)).filterMap (·.1) = ks := by rfl)
    (hpl : ((backTo pos (starEach [] X.env)).any (·.1) || (backToKw pos (keywordEach kws X.env)).any (·.1.isNone)) = false := by rfl)
    (ht : eval (.Call (.Attribute o m apos) [] kws pos) X.env = (eval o X.env >>= fun ov => standAt apos.atName >>= fun _ => holding [ov] (getMethod ov m pl) >>= fun ff => callWith pos ff.1 ff.2 (backTo pos (starEach [] X.env)) (backToKw pos (keywordEach kws X.env))) := by rfl) :
    PE X (.Call (.Attribute o m apos) [] kws pos) (tMe C m 0 sp gV E ta tNil (fun σ H Q => tk σ H fun zs H1 => zs.length = ks.length ∧ Q zs H1)) := by
  refine ⟨fun pins s σ H Q I h => PySem.W.methodCall_KW (pl := pl) (thn (he.run pins s σ H _ I h) fun u s1 ⟨x, H1, I1, rx, a, dx, fs, ex, ea, l, q⟩ => ?_) ht⟩
  subst ex
  obtain rfl : u = Value.ref a := rx
  refine getmeth_ok I1 ea c hm l (PySem.W.callWith_KW0 (first := [.ref a]) (h₀ := X.base) I.ok.mod.kin hm.kp hall (thn (hkw.run pos pins s1 σ H1 _ I1 q) fun ws s2 ⟨zs, H2, I2, rz, l2, l1, q2⟩ => ⟨I2.kIn, ?_⟩) hpl)
  rw [hks]
  exact run_kb F hr hb hx I2 (show Vals [V.ref a] [Value.ref a] from self1) rz rfl l2 q2
/-- an operator of C with an int or an instance of C on its right, for any slots -/
def r2C (C : Addr) (sp : Sp) (E : XK) : R2 := fun x y H Q => ∃ a dx fs, x = .ref a ∧ H a = some (.ins C dx fs) ∧ ((∃ i, y = .int i) ∨ ∃ b dy gs, y = .ref b ∧ H b = some (.ins C dy gs)) ∧ sp [x, y] H Q E
theorem opr_bin {op : Operator} {E : XK} (B : Bin X.K C op.info.2 f) (F : FnOk X.prog X.w X.K X.mg X.base CX k f fd ps sp) (hr : Room k X.A) (hb : Binds X.K fd ps []) (hx : ∀ σ, PassesAt CX X σ E) : OpR X (binaryOp op) (r2C C sp E) :=
  fun pins s σ H x y v u Q I rx ry h => ops_bin (E := fun _ => E) B F hr hb hx pins s σ H x y v u Q I rx ry h
theorem opr_in {op : Operator} {E : XK} (B : Bin X.K C op.info.2 f) (N : NoIn X.K C op.info.2) (F : FnOk X.prog X.w X.K X.mg X.base CX k f fd ps sp) (hr : Room k X.A) (hb : Binds X.K fd ps []) (hx : ∀ σ, PassesAt CX X σ E) : OpR X (inplaceOp op) (r2C C sp E) :=
  fun pins s σ H x y v u Q I rx ry h => ops_in (E := fun _ => E) B N F hr hb hx pins s σ H x y v u Q I rx ry h
end

/-! ### ints of any sign and size; texts repeated; repr of data -/
/-- // by a divisor that is not 0, below 2 ^ 9000 -/
def CDivX (_ j : Int) : Prop := j ≠ 0 ∧ j.natAbs.log2 < 9000
section
variable {X : Cx} {k : Nat}
theorem op_fdivX : OpR X (binaryOp .FloorDiv) (rI CDivX fun i j => .int (i.fdiv j)) := opI fun i j _ _ _ _ _ hc q => floordiv_int hc.1 q (.inl (PyProof.noPylong_of_log2 hc.2))
/-- a text, no time or once -/
theorem op_strI : OpR X (binaryOp .Mult) (fun x y H Q => ∃ z i, x = .str z ∧ y = .int i ∧ (i = 0 ∨ i = 1) ∧ Q (.str (if i = 0 then Str.empty else z)) H) := by
  rintro pins s σ H x y v u Q I rx ry ⟨z, i, rfl, rfl, hi, q⟩
  obtain ⟨t, rfl⟩ := rx
  obtain ⟨t', rfl⟩ := ry
  rcases hi with rfl | rfl
  · exact P.mul_str_none (by decide) (by decide) ⟨.str Str.empty, H, I.tok _, ⟨_, rfl⟩, q⟩
  · exact P.mul_str (by decide) (fun _ z => absurd z (by simp)) (fun _ z => absurd z (by simp)) (by rw [if_neg (by decide), if_pos (by rfl)]; exact (show EP X pins σ Q (.str z t) s from ⟨.str z, H, I, ⟨_, rfl⟩, q⟩))
/-- repr of None, bools, ints, texts, lists and tuples of these -/
def rRepr (K : PySem.W.Frag) : List V → Hp → VK → Prop := fun xs H Q => ∃ x d, xs = [x] ∧ Dp K H x d ∧ d.showable = true ∧ d.hasDict = false ∧ d.depth ≤ 60 ∧ d.shown.length ≤ sizeLine ∧ Q (.str d.shown) H
theorem call_reprD (gg : GG X.A) (hr : Room k X.A) : CallR X (.builtin "repr") (rRepr X.K) := by
  rintro pins s σ H xs us Q I r ⟨x, d, rfl, hd, sh, nd, dp, sz, q⟩
  obtain ⟨u, rfl, ru⟩ := vals1 r
  have hu := hr.units
  obtain ⟨as, rd⟩ := Dp.reads I d x u hd ru
  cases hd with
  | non => cases ru; exact P.repr_of_none ⟨.str _, H, I.tok _, ⟨_, rfl⟩, q⟩
  | bl b => cases ru; exact P.repr_of_bool ⟨.str _, H, I.tok _, ⟨_, rfl⟩, q⟩
  | int i => obtain ⟨t, rfl⟩ := ru; exact P.repr_of_int (of_decide_eq_true sh) ⟨.str _, H, I.tok _, ⟨_, rfl⟩, q⟩
  | str z => obtain ⟨t, rfl⟩ := ru; exact P.repr_of_str ⟨.str _, H, I.tok _, ⟨_, rfl⟩, q⟩ sz
  | lst h1 h2 => cases ru; exact repr_of_reads' rd sh (PyData.noDict_hsm nd) gg (by omega) (fun _ _ e => e) (fun h' u tk kp => ⟨.str _, H, I.kept kp, ⟨_, rfl⟩, q⟩) sz
  | tup h1 h2 => cases ru; exact repr_of_reads' rd sh (PyData.noDict_hsm nd) gg (by omega) (fun _ _ e => e) (fun h' u tk kp => ⟨.str _, H, I.kept kp, ⟨_, rfl⟩, q⟩) sz
end

/-! ### the end of a law -/
section
variable {P : Program} {w : World} {K : PySem.W.Frag} {mg mb : Str → Option Value} {k : Nat} {fa a : Addr} {fd : FuncData} {x : Str} {sp : Sp} {s : Shared} {vs : List Value} {ns : List Int}
theorem law_run (KX : K.In s.heap) (hns : s.heap.Ns mainGlobals mg) (hb : s.heap.Ns builtinsNs mb) (hbb : ∀ x : Str, x ≠ "__name__" → mb x = bootBuiltins x) (hlim : s.heap.NoLimit) (hg : s.gens = #[])
    (ha : s.heap.get? a = some { cls := .type "list", data := .seq vs.toArray }) (hi : IntsAre vs ns) (hl : ns.length ≤ sizeLine) (hr : Room k callerA)
    (F : ∀ base : Heap, K.In base → base.Ns mainGlobals mg → FnG P w K mg base CX0 k fa fd [x] sp) (hbind : ∀ (s : Shared) (u : Value), BindsTo s fd ⟨[u], []⟩ [(x, u)])
    (hsp : ∀ H : Hp, SqL K H a (ns.map V.int) → sp [.ref a] H (fun v _ => v = .bl true) E0) :
    codeAny (model P w) callerA (.call (.ref fa) ⟨[.ref a], []⟩) (fun r s' => r = .ok (.ret (.bool true)) ∧ OldK s.heap s'.heap ∧ s'.os = s.os ∧ AllBare s'.gens) s := by
  have rv := vals_ints hi
  have core : ∀ H : Hp, (∀ b, H b = none ∨ (b = a ∧ ∃ o xs, H b = some (.frz o (.lst xs)))) → SqL K H a (ns.map V.int) → HOk P w H s.heap → (H a ≠ none → K.lookup a = none) →
      codeAny (model P w) callerA (.call (.ref fa) ⟨[.ref a], []⟩) (fun r s' => r = .ok (.ret (.bool true)) ∧ OldK s.heap s'.heap ∧ s'.os = s.os ∧ AllBare s'.gens) s := by
    intro H hO hS hok hK
    have away : ∀ {b : Addr}, b ≠ a → H b = none := fun {b} n => (hO b).elim id fun z => absurd z.1 n
    have ns' : ∀ {b : Addr} {m : Str → Option Value}, s.heap.Ns b m → (hidT s.heap H).Ns b m := fun {b m} ⟨o, es, ep, e, d, r⟩ =>
      ⟨o, es, ep, hidT_get e (away fun z => by rw [z, ha] at e; cases e; cases d), d, r⟩
    have kin : K.In (hidT s.heap H) := fun b o e => by
      refine hidT_get (KX b o e) ?_
      by_cases hba : b = a
      · cases q : H b with
        | none => rfl
        | some u => rw [hba] at e q; rw [hK (by rw [q]; exact fun z => nomatch z)] at e; cases e
      · exact away hba
    obtain ⟨mc, lim1, lim2⟩ := hlim
    have e0 : Env0 P w K mg (hidT s.heap H) callerA [] s H := ⟨rfl, ⟨kin, ns' hns, ⟨mb, ns' hb, hbb⟩, ⟨mc, ns' lim1, lim2⟩⟩, fun b o e => of_hidT e, Nat.le_of_eq (hidT_size _ _), trivial, fun b z => absurd z (List.not_mem_nil), hok, .of_eq hg⟩
    refine codeAny_mono ((F _ kin (ns' hns)).run (args := ⟨[.ref a], []⟩) (us := [.ref a]) (vs := [V.ref a]) (Q := fun v _ => v = .bl true) (E := E0) rfl hr e0 (hbind s (.ref a)) (.cons rfl .nil) (hsp H hS)) fun r s' z => ?_
    match r, z with
    | .ok (.ret u), ⟨v, H', os, bare, un, hok', r', (q : v = .bl true)⟩ =>
      subst q
      obtain rfl : u = Value.bool true := r'
      refine ⟨rfl, OldK.of_keep fun b o e => ?_, os, bare⟩
      rcases hO b with n | ⟨_, ob, xs, n⟩
      · exact un.keep b o e n (List.not_mem_nil) (List.not_mem_nil)
      · have old := (hok b _ n).1
        have new := (hok' b _ (un.frzs b ob _ n)).1
        rw [e] at old
        rw [new, old]
  cases hk : K.lookup a with
  | some o =>
    have e := KX a o hk
    rw [ha] at e
    cases e
    exact core (fun _ => none) (fun _ => .inl rfl) (.inr ⟨_, vs.toArray, _, hk, rfl, rfl, rfl, by rw [List.size_toArray, hi.length]; exact hl, by simpa using rv⟩) (fun b u z => by cases z) fun z => absurd rfl z
  | none =>
    refine core (fun b => if b = a then some (.frz { cls := .type "list", data := .seq vs.toArray } (.lst (ns.map V.int))) else none) (fun b => ?_) (.inl (.inr ⟨_, if_pos rfl⟩)) (fun b u z => ?_) fun _ => hk
    · by_cases q : b = a
      · exact .inr ⟨q, _, _, if_pos q⟩
      · exact .inl (if_neg q)
    · by_cases q : b = a
      · subst q
        have z2 := (if_pos rfl).symm.trans z
        cases z2
        exact ⟨ha, by rw [List.length_map]; exact hl, vs, _, rv, ha⟩
      · have z2 := (if_neg q).symm.trans z
        cases z2
end
theorem walkG {l : PySem.W.OpenLaw} {n k : Nat} {q : Program} {loose : List Str} {XP : (Str → Option Value) → Heap → Prop} {YP : World → Heap → Prop} {d : DefRec} {K : Params → PySem.W.Frag} {sp : World → Sp} {x : Str}
    (hn : l.most = some n) (hn2 : n ≤ sizeLine) (hdf : d.params.defaults = []) (hr : Room k callerA) (hY : ∀ (w : World) (h : Heap), YP w h → (K w.params).In h)
    (F : ∀ (w : World) (mg : Str → Option Value) (fa : Addr) (h : Heap), (K w.params).In h → h.Ns mainGlobals mg → mg d.name = some (.ref fa) →
      ∃ fd : FuncData, (∀ (s : Shared) (u : Value), BindsTo s fd ⟨[u], []⟩ [(x, u)]) ∧ ∀ base : Heap, (K w.params).In base → base.Ns mainGlobals mg → FnG l.prog w (K w.params) mg base CX0 k fa fd [x] (sp w))
    (hsp : ∀ (w : World) (H : Hp) (a : Addr) (ns : List Int), ns.length ≤ n → SqL (K w.params) H a (ns.map V.int) → sp w [.ref a] H (fun v _ => v = .bl true) E0) :
    PySem.W.WalkO q loose XP YP l.row.toRowW d [] (fun f vs => PySem.call f vs) := by
  refine Att.attach_call hn hdf fun w s₀ s₁ mg mb fa o pm cd doc a vs ns G Y ho hd hcd hmg hobj hints hlen hg => ?_
  obtain ⟨fd, bnd, hF⟩ := F w mg fa _ (hY w _ Y) G.T.g hmg
  exact law_run (hY w _ Y) G.T.g G.T.b G.T.builtins G.T.nolimit hg hobj hints (Nat.le_trans hlen hn2) hr hF bnd fun H hS => hsp w H a ns hlen hS
end Pm





namespace Pm
open PySem PySem.Spec PyProof.Rows L2
/-- what isinstance asks of an own class -/
structure TyC (K : PySem.W.Frag) (C : Addr) : Prop where
  at_ : PySem.W.findIn K (.ref C) "__class__" = some (some (.builtin "object.__class__")) ∧ PySem.W.specialIn K (.builtin "object.__class__") "__get__" = some (some (.builtin "getset_descriptor.__get__")) ∧
    PySem.W.takesIn K (.builtin "object.__class__") = some true ∧ PySem.W.mroIn K C (.type "object") = some true
  ic : PySem.W.isClsIn K C = true
  ty : PySem.W.typeIn K (.ref C) = some (.type "type")
  ss : PySem.W.subIn K (.ref C) (.ref C) = some true

/-! ### the text by places (generated from the linked text) -/
def top (i : Nat) : Stmt := PySem.Challenge.pw_poolsmeet_k04_quotients.main.body.getD i (.Pass ⟨0, 0, 0, 0⟩)
abbrev s_InvalidNumber_init_d : Stmt := inClass (top 3) 0
abbrev s_Ratio_init_d : Stmt := inClass (top 6) 0
abbrev s_Ratio_of : Stmt := inClass (top 6) 1
abbrev s_Ratio_is_whole : Stmt := inClass (top 6) 3
abbrev s_Ratio_floor : Stmt := inClass (top 6) 4
abbrev s_Ratio_over : Stmt := inClass (top 6) 5
abbrev s_Ratio_sub_d : Stmt := inClass (top 6) 8
abbrev s_Ratio_mul_d : Stmt := inClass (top 6) 10
abbrev s_Ratio_floordiv_d : Stmt := inClass (top 6) 12
abbrev s_Ratio_mod_d : Stmt := inClass (top 6) 13
abbrev s_is_number : Stmt := top 7
abbrev s_lw_box : Stmt := top 11
abbrev s_lw_take : Stmt := top 12
abbrev s_lw_lowest : Stmt := top 13
abbrev s_lw_number : Stmt := top 14
abbrev s_lw_is : Stmt := top 15
abbrev s_lw_refused : Stmt := top 16
abbrev s_lw_right : Stmt := top 17
abbrev s_law : Stmt := top 18
theorem sc_InvalidNumber_init_d : FnScope ["self", "value"] ["self", "value"] (defScope s_InvalidNumber_init_d) := ⟨rfl, rfl, rfl, by decide +kernel, rfl, by decide +kernel, by decide +kernel⟩
theorem sc_Ratio_init_d : FnScope ["self", "top", "bottom", "shared"] ["self", "top", "bottom"] (defScope s_Ratio_init_d) := ⟨rfl, rfl, rfl, by decide +kernel, rfl, by decide +kernel, by decide +kernel⟩
theorem sc_Ratio_of : FnScope ["cls", "value"] ["cls", "value"] (defScope s_Ratio_of) := ⟨rfl, rfl, rfl, by decide +kernel, rfl, by decide +kernel, by decide +kernel⟩
theorem sc_Ratio_is_whole : FnScope ["self"] ["self"] (defScope s_Ratio_is_whole) := ⟨rfl, rfl, rfl, by decide +kernel, rfl, by decide +kernel, by decide +kernel⟩
theorem sc_Ratio_floor : FnScope ["self"] ["self"] (defScope s_Ratio_floor) := ⟨rfl, rfl, rfl, by decide +kernel, rfl, by decide +kernel, by decide +kernel⟩
theorem sc_Ratio_over : FnScope ["self", "other", "divisor"] ["self", "other"] (defScope s_Ratio_over) := ⟨rfl, rfl, rfl, by decide +kernel, rfl, by decide +kernel, by decide +kernel⟩
theorem sc_Ratio_sub_d : FnScope ["self", "other", "number"] ["self", "other"] (defScope s_Ratio_sub_d) := ⟨rfl, rfl, rfl, by decide +kernel, rfl, by decide +kernel, by decide +kernel⟩
theorem sc_Ratio_mul_d : FnScope ["self", "other", "number"] ["self", "other"] (defScope s_Ratio_mul_d) := ⟨rfl, rfl, rfl, by decide +kernel, rfl, by decide +kernel, by decide +kernel⟩
theorem sc_Ratio_floordiv_d : FnScope ["self", "other"] ["self", "other"] (defScope s_Ratio_floordiv_d) := ⟨rfl, rfl, rfl, by decide +kernel, rfl, by decide +kernel, by decide +kernel⟩
theorem sc_Ratio_mod_d : FnScope ["self", "other"] ["self", "other"] (defScope s_Ratio_mod_d) := ⟨rfl, rfl, rfl, by decide +kernel, rfl, by decide +kernel, by decide +kernel⟩
theorem sc_is_number : FnScope ["value"] ["value"] (defScope s_is_number) := ⟨rfl, rfl, rfl, by decide +kernel, rfl, by decide +kernel, by decide +kernel⟩
theorem sc_lw_box : FnScope ["_law_script", "_law_k", "_law_cell", "_law_seed"] ["_law_script", "_law_k"] (defScope s_lw_box) := ⟨rfl, rfl, rfl, by decide +kernel, rfl, by decide +kernel, by decide +kernel⟩
theorem sc_lw_take : FnScope ["_law_box_here", "_law_many", "_law_digit", "_law_first", "_law_mixed"] ["_law_box_here", "_law_many"] (defScope s_lw_take) := ⟨rfl, rfl, rfl, by decide +kernel, rfl, by decide +kernel, by decide +kernel⟩
theorem sc_lw_lowest : FnScope ["_law_top", "_law_bottom", "_law_one", "_law_second", "_law_sign"] ["_law_top", "_law_bottom"] (defScope s_lw_lowest) := ⟨rfl, rfl, rfl, by decide +kernel, rfl, by decide +kernel, by decide +kernel⟩
theorem sc_lw_number : FnScope ["_law_box_here", "_law_size", "_law_unit", "_law_top", "_law_pair"] ["_law_box_here"] (defScope s_lw_number) := ⟨rfl, rfl, rfl, by decide +kernel, rfl, by decide +kernel, by decide +kernel⟩
theorem sc_lw_is : FnScope ["_law_found", "_law_due"] ["_law_found", "_law_due"] (defScope s_lw_is) := ⟨rfl, rfl, rfl, by decide +kernel, rfl, by decide +kernel, by decide +kernel⟩
theorem sc_lw_refused : FnScope ["_law_a", "_law_b", "_law_form", "_law_found", "e"] ["_law_a", "_law_b", "_law_form"] (defScope s_lw_refused) := ⟨rfl, rfl, rfl, by decide +kernel, rfl, by decide +kernel, by decide +kernel⟩
theorem sc_lw_right : FnScope ["_law_a", "_law_b", "_law_one", "_law_second", "_law_due", "_law_floor", "_law_rest", "_law_found", "_law_whole", "_law_left"] ["_law_a", "_law_b", "_law_one", "_law_second"] (defScope s_lw_right) := ⟨rfl, rfl, rfl, by decide +kernel, rfl, by decide +kernel, by decide +kernel⟩
theorem sc_law : FnScope ["_law_script", "_law_k", "_law_box_here", "_law_turn", "_law_start", "_law_one", "_law_b", "_law_second", "_law_a", "_law_zero", "_law_found", "_law_form", "_law_value"] ["_law_script"] (defScope s_law) := ⟨rfl, rfl, rfl, by decide +kernel, rfl, by decide +kernel, by decide +kernel⟩
/-- what the top has written -/
structure Txt (K : PySem.W.Frag) (mg : Str → Option Value) where
  b_len : mg "len" = none
  b_range : mg "range" = none
  b_int : mg "int" = none
  b_str : mg "str" = none
  b_bool : mg "bool" = none
  b_abs : mg "abs" = none
  b_isinstance : mg "isinstance" = none
  b_repr : mg "repr" = none
  b_max : mg "max" = none
  b_min : mg "min" = none
  g_gcd : mg "gcd" = some (.builtin "math.gcd")
  C_PoolError : Addr
  g_PoolError : mg "PoolError" = some (.ref C_PoolError)
  ox_PoolError : OexC K C_PoolError
  xf_PoolError : XfC K C_PoolError
  ic_PoolError : PySem.W.isClsIn K C_PoolError = true
  ss_PoolError : PySem.W.subIn K (.ref C_PoolError) (.ref C_PoolError) = some true
  C_InvalidNumber : Addr
  g_InvalidNumber : mg "InvalidNumber" = some (.ref C_InvalidNumber)
  ox_InvalidNumber : OexC K C_InvalidNumber
  xf_InvalidNumber : XfC K C_InvalidNumber
  ic_InvalidNumber : PySem.W.isClsIn K C_InvalidNumber = true
  ss_InvalidNumber : PySem.W.subIn K (.ref C_InvalidNumber) (.ref C_InvalidNumber) = some true
  n_InvalidNumber_value : PySem.W.findIn K (.ref C_InvalidNumber) "value" = some none
  C_Ratio : Addr
  g_Ratio : mg "Ratio" = some (.ref C_Ratio)
  cl_Ratio : Cls K C_Ratio
  tc_Ratio : TyC K C_Ratio
  rd_Ratio : ClX.CRead K C_Ratio (.type "type")
  mk_Ratio : PySem.W.makesIn K C_Ratio = true
  kp_Ratio : PySem.W.keepIn K (.ref C_Ratio) = true
  sf_Ratio : PySem.W.selfFirst K C_Ratio = true
  mr_Ratio : ∃ cd, PySem.W.clsIn K C_Ratio = some cd ∧ cd.mro = [.ref C_Ratio, .type "object"]
  st_Ratio_int : PySem.W.subIn K (.type "int") (.ref C_Ratio) = some false
  st_Ratio_bool : PySem.W.subIn K (.type "bool") (.ref C_Ratio) = some false
  st_Ratio_str : PySem.W.subIn K (.type "str") (.ref C_Ratio) = some false
  st_Ratio_NoneType : PySem.W.subIn K (.type "NoneType") (.ref C_Ratio) = some false
  st_Ratio_tuple : PySem.W.subIn K (.type "tuple") (.ref C_Ratio) = some false
  su_Ratio_int : PySem.W.subIn K (.ref C_Ratio) (.type "int") = some false
  su_Ratio_bool : PySem.W.subIn K (.ref C_Ratio) (.type "bool") = some false
  su_Ratio_tuple : PySem.W.subIn K (.ref C_Ratio) (.type "tuple") = some false
  su_Ratio_str : PySem.W.subIn K (.ref C_Ratio) (.type "str") = some false
  su_Ratio_NoneType : PySem.W.subIn K (.ref C_Ratio) (.type "NoneType") = some false
  n_Ratio_top : NoAttr K C_Ratio "top"
  n_Ratio_bottom : NoAttr K C_Ratio "bottom"
  f_InvalidNumber_init_d : Addr
  d_InvalidNumber_init_d : FuncData
  F_InvalidNumber_init_d : Fun K "__init__" "InvalidNumber.__init__" s_InvalidNumber_init_d f_InvalidNumber_init_d d_InvalidNumber_init_d
  B_InvalidNumber_init_d : Binds K d_InvalidNumber_init_d ["self", "value"] []
  m_InvalidNumber_init_d : Spc K C_InvalidNumber "__init__" f_InvalidNumber_init_d
  t_InvalidNumber_init_d : PySem.W.typeIn K (.ref f_InvalidNumber_init_d) = some (.type "function")
  f_Ratio_init_d : Addr
  d_Ratio_init_d : FuncData
  F_Ratio_init_d : FunD K "__init__" "Ratio.__init__" (defArgs s_Ratio_init_d) (defBody s_Ratio_init_d) (defScope s_Ratio_init_d) [V.int 1] [] f_Ratio_init_d d_Ratio_init_d
  m_Ratio_init_d : Spc K C_Ratio "__init__" f_Ratio_init_d
  f_Ratio_of : Addr
  d_Ratio_of : FuncData
  F_Ratio_of : Fun K "of" "Ratio.of" s_Ratio_of f_Ratio_of d_Ratio_of
  B_Ratio_of : Binds K d_Ratio_of ["cls", "value"] []
  p_Ratio_of : Addr
  cm_Ratio_of : ClX.CMet K C_Ratio (.type "type") "of" p_Ratio_of f_Ratio_of
  f_Ratio_is_whole : Addr
  d_Ratio_is_whole : FuncData
  F_Ratio_is_whole : Fun K "is_whole" "Ratio.is_whole" s_Ratio_is_whole f_Ratio_is_whole d_Ratio_is_whole
  B_Ratio_is_whole : Binds K d_Ratio_is_whole ["self"] []
  p_Ratio_is_whole : Addr
  pr_Ratio_is_whole : PropOf K C_Ratio "is_whole" p_Ratio_is_whole f_Ratio_is_whole
  f_Ratio_floor : Addr
  d_Ratio_floor : FuncData
  F_Ratio_floor : Fun K "floor" "Ratio.floor" s_Ratio_floor f_Ratio_floor d_Ratio_floor
  B_Ratio_floor : Binds K d_Ratio_floor ["self"] []
  p_Ratio_floor : Addr
  pr_Ratio_floor : PropOf K C_Ratio "floor" p_Ratio_floor f_Ratio_floor
  f_Ratio_over : Addr
  d_Ratio_over : FuncData
  F_Ratio_over : Fun K "over" "Ratio.over" s_Ratio_over f_Ratio_over d_Ratio_over
  B_Ratio_over : Binds K d_Ratio_over ["self", "other"] []
  m_Ratio_over : Spc K C_Ratio "over" f_Ratio_over
  me_Ratio_over : Meth K C_Ratio "over" f_Ratio_over
  f_Ratio_sub_d : Addr
  d_Ratio_sub_d : FuncData
  F_Ratio_sub_d : Fun K "__sub__" "Ratio.__sub__" s_Ratio_sub_d f_Ratio_sub_d d_Ratio_sub_d
  B_Ratio_sub_d : Binds K d_Ratio_sub_d ["self", "other"] []
  m_Ratio_sub_d : Spc K C_Ratio "__sub__" f_Ratio_sub_d
  bn_Ratio_sub_d : Bin K C_Ratio "sub" f_Ratio_sub_d
  ni_Ratio_sub_d : NoIn K C_Ratio "sub"
  f_Ratio_mul_d : Addr
  d_Ratio_mul_d : FuncData
  F_Ratio_mul_d : Fun K "__mul__" "Ratio.__mul__" s_Ratio_mul_d f_Ratio_mul_d d_Ratio_mul_d
  B_Ratio_mul_d : Binds K d_Ratio_mul_d ["self", "other"] []
  m_Ratio_mul_d : Spc K C_Ratio "__mul__" f_Ratio_mul_d
  bn_Ratio_mul_d : Bin K C_Ratio "mul" f_Ratio_mul_d
  ni_Ratio_mul_d : NoIn K C_Ratio "mul"
  f_Ratio_floordiv_d : Addr
  d_Ratio_floordiv_d : FuncData
  F_Ratio_floordiv_d : Fun K "__floordiv__" "Ratio.__floordiv__" s_Ratio_floordiv_d f_Ratio_floordiv_d d_Ratio_floordiv_d
  B_Ratio_floordiv_d : Binds K d_Ratio_floordiv_d ["self", "other"] []
  m_Ratio_floordiv_d : Spc K C_Ratio "__floordiv__" f_Ratio_floordiv_d
  bn_Ratio_floordiv_d : Bin K C_Ratio "floordiv" f_Ratio_floordiv_d
  ni_Ratio_floordiv_d : NoIn K C_Ratio "floordiv"
  f_Ratio_mod_d : Addr
  d_Ratio_mod_d : FuncData
  F_Ratio_mod_d : Fun K "__mod__" "Ratio.__mod__" s_Ratio_mod_d f_Ratio_mod_d d_Ratio_mod_d
  B_Ratio_mod_d : Binds K d_Ratio_mod_d ["self", "other"] []
  m_Ratio_mod_d : Spc K C_Ratio "__mod__" f_Ratio_mod_d
  bn_Ratio_mod_d : Bin K C_Ratio "mod" f_Ratio_mod_d
  ni_Ratio_mod_d : NoIn K C_Ratio "mod"
  f_is_number : Addr
  d_is_number : FuncData
  F_is_number : Fun K "is_number" "is_number" s_is_number f_is_number d_is_number
  B_is_number : Binds K d_is_number ["value"] []
  g_is_number : mg "is_number" = some (.ref f_is_number)
  f_lw_box : Addr
  d_lw_box : FuncData
  F_lw_box : Fun K "_law_box" "_law_box" s_lw_box f_lw_box d_lw_box
  B_lw_box : Binds K d_lw_box ["_law_script", "_law_k"] []
  g_lw_box : mg "_law_box" = some (.ref f_lw_box)
  f_lw_take : Addr
  d_lw_take : FuncData
  F_lw_take : Fun K "_law_take" "_law_take" s_lw_take f_lw_take d_lw_take
  B_lw_take : Binds K d_lw_take ["_law_box_here", "_law_many"] []
  g_lw_take : mg "_law_take" = some (.ref f_lw_take)
  f_lw_lowest : Addr
  d_lw_lowest : FuncData
  F_lw_lowest : Fun K "_law_lowest" "_law_lowest" s_lw_lowest f_lw_lowest d_lw_lowest
  B_lw_lowest : Binds K d_lw_lowest ["_law_top", "_law_bottom"] []
  g_lw_lowest : mg "_law_lowest" = some (.ref f_lw_lowest)
  f_lw_number : Addr
  d_lw_number : FuncData
  F_lw_number : Fun K "_law_number" "_law_number" s_lw_number f_lw_number d_lw_number
  B_lw_number : Binds K d_lw_number ["_law_box_here"] []
  g_lw_number : mg "_law_number" = some (.ref f_lw_number)
  f_lw_is : Addr
  d_lw_is : FuncData
  F_lw_is : Fun K "_law_is" "_law_is" s_lw_is f_lw_is d_lw_is
  B_lw_is : Binds K d_lw_is ["_law_found", "_law_due"] []
  g_lw_is : mg "_law_is" = some (.ref f_lw_is)
  f_lw_refused : Addr
  d_lw_refused : FuncData
  F_lw_refused : Fun K "_law_refused" "_law_refused" s_lw_refused f_lw_refused d_lw_refused
  B_lw_refused : Binds K d_lw_refused ["_law_a", "_law_b", "_law_form"] []
  g_lw_refused : mg "_law_refused" = some (.ref f_lw_refused)
  f_lw_right : Addr
  d_lw_right : FuncData
  F_lw_right : Fun K "_law_right" "_law_right" s_lw_right f_lw_right d_lw_right
  B_lw_right : Binds K d_lw_right ["_law_a", "_law_b", "_law_one", "_law_second"] []
  g_lw_right : mg "_law_right" = some (.ref f_lw_right)
  f_law : Addr
  d_law : FuncData
  F_law : Fun K "law" "law" s_law f_law d_law
  B_law : Binds K d_law ["_law_script"] []
  g_law : mg "law" = some (.ref f_law)
abbrev SpK := PySem.W.Frag → Sp
abbrev LvOk (lv : Nat) : Prop := Room lv callerA
abbrev Kept (lv : Nat) (sp : SpK) : Prop := ∀ {P : Program} {w : World} {K : PySem.W.Frag} {mg : Str → Option Value} {base : Heap} (T : Txt K mg), FnG P w K mg base CX0 lv T.f_law T.d_law ["_law_script"] (sp K)
abbrev Asked (sp : SpK) : Prop := ∀ {K : PySem.W.Frag} {H : Hp} {a : Addr} {ns : List Int}, ns.length ≤ 63 → SqL K H a (ns.map V.int) → sp K [.ref a] H (fun v _ => v = .bl true) E0
theorem all_mk {lv : Nat} {sp : SpK} (ok_law : Kept lv sp)
    {P : Program} {w : World} {K : PySem.W.Frag} {h : Heap} {mg : Str → Option Value} {fa : Addr} (X : K.In h) (G : h.Ns mainGlobals mg) (hfa : mg "law" = some (.ref fa)) {C_PoolError C_InvalidNumber C_Ratio f_InvalidNumber_init_d f_Ratio_init_d f_Ratio_of p_Ratio_of f_Ratio_is_whole p_Ratio_is_whole f_Ratio_floor p_Ratio_floor f_Ratio_over f_Ratio_sub_d f_Ratio_mul_d f_Ratio_floordiv_d f_Ratio_mod_d f_is_number f_lw_box f_lw_take f_lw_lowest f_lw_number f_lw_is f_lw_refused f_lw_right f_law : Addr}
    {nm_PoolError q_PoolError : Str} {N_PoolError : Addr} {bs_PoolError bm_PoolError : List Value} {sn_PoolError : List Str} {sub_PoolError : List Value} {ab_PoolError : Bool} {col_PoolError : Option Bool} {dd_PoolError : Option Addr} {k0_PoolError k1_PoolError k2_PoolError k3_PoolError k5_PoolError : Option Value} {nm_InvalidNumber q_InvalidNumber : Str} {N_InvalidNumber : Addr} {bs_InvalidNumber bm_InvalidNumber : List Value} {sn_InvalidNumber : List Str} {sub_InvalidNumber : List Value} {ab_InvalidNumber : Bool} {col_InvalidNumber : Option Bool} {dd_InvalidNumber : Option Addr} {k0_InvalidNumber k1_InvalidNumber k2_InvalidNumber k3_InvalidNumber k5_InvalidNumber : Option Value} {cd_Ratio : ClassData} {oc_InvalidNumber_init_d kV_InvalidNumber_init_d dc_InvalidNumber_init_d pm_InvalidNumber_init_d cd_InvalidNumber_init_d ct_InvalidNumber_init_d : Value} {od_InvalidNumber_init_d an_InvalidNumber_init_d : Option Addr} {sl_InvalidNumber_init_d : Array (Option Value)} {oc_Ratio_init_d kV_Ratio_init_d dc_Ratio_init_d pm_Ratio_init_d cd_Ratio_init_d ct_Ratio_init_d : Value} {od_Ratio_init_d an_Ratio_init_d : Option Addr} {sl_Ratio_init_d : Array (Option Value)} {T_Ratio_init_d : Addr} {to_Ratio_init_d : Obj} {ti_Ratio_init_d : List Value} {tn_Ratio_init_d : Nat} {oc_Ratio_of kV_Ratio_of dc_Ratio_of pm_Ratio_of cd_Ratio_of ct_Ratio_of : Value} {od_Ratio_of an_Ratio_of : Option Addr} {sl_Ratio_of : Array (Option Value)} {rs_Ratio_of : List Value} {oc_Ratio_is_whole kV_Ratio_is_whole dc_Ratio_is_whole pm_Ratio_is_whole cd_Ratio_is_whole ct_Ratio_is_whole : Value} {od_Ratio_is_whole an_Ratio_is_whole : Option Addr} {sl_Ratio_is_whole : Array (Option Value)} {rs_Ratio_is_whole : List Value} {oc_Ratio_floor kV_Ratio_floor dc_Ratio_floor pm_Ratio_floor cd_Ratio_floor ct_Ratio_floor : Value} {od_Ratio_floor an_Ratio_floor : Option Addr} {sl_Ratio_floor : Array (Option Value)} {rs_Ratio_floor : List Value} {oc_Ratio_over kV_Ratio_over dc_Ratio_over pm_Ratio_over cd_Ratio_over ct_Ratio_over : Value} {od_Ratio_over an_Ratio_over : Option Addr} {sl_Ratio_over : Array (Option Value)} {oc_Ratio_sub_d kV_Ratio_sub_d dc_Ratio_sub_d pm_Ratio_sub_d cd_Ratio_sub_d ct_Ratio_sub_d : Value} {od_Ratio_sub_d an_Ratio_sub_d : Option Addr} {sl_Ratio_sub_d : Array (Option Value)} {rc_Ratio_sub_d fo_Ratio_sub_d ro_Ratio_sub_d : Option Value} {oc_Ratio_mul_d kV_Ratio_mul_d dc_Ratio_mul_d pm_Ratio_mul_d cd_Ratio_mul_d ct_Ratio_mul_d : Value} {od_Ratio_mul_d an_Ratio_mul_d : Option Addr} {sl_Ratio_mul_d : Array (Option Value)} {rc_Ratio_mul_d fo_Ratio_mul_d ro_Ratio_mul_d : Option Value} {oc_Ratio_floordiv_d kV_Ratio_floordiv_d dc_Ratio_floordiv_d pm_Ratio_floordiv_d cd_Ratio_floordiv_d ct_Ratio_floordiv_d : Value} {od_Ratio_floordiv_d an_Ratio_floordiv_d : Option Addr} {sl_Ratio_floordiv_d : Array (Option Value)} {rc_Ratio_floordiv_d fo_Ratio_floordiv_d ro_Ratio_floordiv_d : Option Value} {oc_Ratio_mod_d kV_Ratio_mod_d dc_Ratio_mod_d pm_Ratio_mod_d cd_Ratio_mod_d ct_Ratio_mod_d : Value} {od_Ratio_mod_d an_Ratio_mod_d : Option Addr} {sl_Ratio_mod_d : Array (Option Value)} {rc_Ratio_mod_d fo_Ratio_mod_d ro_Ratio_mod_d : Option Value} {oc_is_number kV_is_number dc_is_number pm_is_number cd_is_number ct_is_number : Value} {od_is_number an_is_number : Option Addr} {sl_is_number : Array (Option Value)} {oc_lw_box kV_lw_box dc_lw_box pm_lw_box cd_lw_box ct_lw_box : Value} {od_lw_box an_lw_box : Option Addr} {sl_lw_box : Array (Option Value)} {oc_lw_take kV_lw_take dc_lw_take pm_lw_take cd_lw_take ct_lw_take : Value} {od_lw_take an_lw_take : Option Addr} {sl_lw_take : Array (Option Value)} {oc_lw_lowest kV_lw_lowest dc_lw_lowest pm_lw_lowest cd_lw_lowest ct_lw_lowest : Value} {od_lw_lowest an_lw_lowest : Option Addr} {sl_lw_lowest : Array (Option Value)} {oc_lw_number kV_lw_number dc_lw_number pm_lw_number cd_lw_number ct_lw_number : Value} {od_lw_number an_lw_number : Option Addr} {sl_lw_number : Array (Option Value)} {oc_lw_is kV_lw_is dc_lw_is pm_lw_is cd_lw_is ct_lw_is : Value} {od_lw_is an_lw_is : Option Addr} {sl_lw_is : Array (Option Value)} {oc_lw_refused kV_lw_refused dc_lw_refused pm_lw_refused cd_lw_refused ct_lw_refused : Value} {od_lw_refused an_lw_refused : Option Addr} {sl_lw_refused : Array (Option Value)} {oc_lw_right kV_lw_right dc_lw_right pm_lw_right cd_lw_right ct_lw_right : Value} {od_lw_right an_lw_right : Option Addr} {sl_lw_right : Array (Option Value)} {oc_law kV_law dc_law pm_law cd_law ct_law : Value} {od_law an_law : Option Addr} {sl_law : Array (Option Value)}
    (zb_len : PySem.W.nsIn K mainGlobals "len" = some none)
    (zb_range : PySem.W.nsIn K mainGlobals "range" = some none)
    (zb_int : PySem.W.nsIn K mainGlobals "int" = some none)
    (zb_str : PySem.W.nsIn K mainGlobals "str" = some none)
    (zb_bool : PySem.W.nsIn K mainGlobals "bool" = some none)
    (zb_abs : PySem.W.nsIn K mainGlobals "abs" = some none)
    (zb_isinstance : PySem.W.nsIn K mainGlobals "isinstance" = some none)
    (zb_repr : PySem.W.nsIn K mainGlobals "repr" = some none)
    (zb_max : PySem.W.nsIn K mainGlobals "max" = some none)
    (zb_min : PySem.W.nsIn K mainGlobals "min" = some none)
    (gi_gcd : PySem.W.nsIn K mainGlobals "gcd" = some (some (.builtin "math.gcd")))
    (gc_PoolError : PySem.W.nsIn K mainGlobals "PoolError" = some (some (.ref C_PoolError)))
    (xl_PoolError : K.lookup C_PoolError = some (PySem.excClassObj nm_PoolError q_PoolError C_PoolError N_PoolError bs_PoolError bm_PoolError true sn_PoolError sub_PoolError ab_PoolError col_PoolError dd_PoolError k0_PoolError k1_PoolError k2_PoolError k3_PoolError k5_PoolError "ValueError.__new__"))
    (xr_PoolError : PySem.HandSPX.refsVE bm_PoolError = true)
    (xs_PoolError : PySem.W.findIn K (.ref C_PoolError) "__setattr__" = some (some (.builtin "object.__setattr__")))
    (xa_PoolError : PySem.W.findIn K (.ref C_PoolError) "__getattribute__" = some (some (.builtin "BaseException.__getattribute__")))
    (xg_PoolError : PySem.W.findIn K (.ref C_PoolError) "__getattr__" = some none)
    (xe_PoolError : PySem.W.subIn K (.ref C_PoolError) (.type "BaseException") = some true)
    (xt_PoolError : PySem.W.typeIn K (.ref C_PoolError) = some (.type "type"))
    (xh_PoolError : PySem.W.hasDictIn K C_PoolError = true)
    (xk_PoolError : PySem.W.keepIn K (.ref C_PoolError) = true)
    (xi_PoolError : PySem.W.isClsIn K C_PoolError = true)
    (xq_PoolError : PySem.W.subIn K (.ref C_PoolError) (.ref C_PoolError) = some true)
    (gc_InvalidNumber : PySem.W.nsIn K mainGlobals "InvalidNumber" = some (some (.ref C_InvalidNumber)))
    (xl_InvalidNumber : K.lookup C_InvalidNumber = some (PySem.excClassObj nm_InvalidNumber q_InvalidNumber C_InvalidNumber N_InvalidNumber bs_InvalidNumber bm_InvalidNumber true sn_InvalidNumber sub_InvalidNumber ab_InvalidNumber col_InvalidNumber dd_InvalidNumber k0_InvalidNumber k1_InvalidNumber k2_InvalidNumber k3_InvalidNumber k5_InvalidNumber "ValueError.__new__"))
    (xr_InvalidNumber : PySem.HandSPX.refsVE bm_InvalidNumber = true)
    (xs_InvalidNumber : PySem.W.findIn K (.ref C_InvalidNumber) "__setattr__" = some (some (.builtin "object.__setattr__")))
    (xa_InvalidNumber : PySem.W.findIn K (.ref C_InvalidNumber) "__getattribute__" = some (some (.builtin "BaseException.__getattribute__")))
    (xg_InvalidNumber : PySem.W.findIn K (.ref C_InvalidNumber) "__getattr__" = some none)
    (xe_InvalidNumber : PySem.W.subIn K (.ref C_InvalidNumber) (.type "BaseException") = some true)
    (xt_InvalidNumber : PySem.W.typeIn K (.ref C_InvalidNumber) = some (.type "type"))
    (xh_InvalidNumber : PySem.W.hasDictIn K C_InvalidNumber = true)
    (xk_InvalidNumber : PySem.W.keepIn K (.ref C_InvalidNumber) = true)
    (xi_InvalidNumber : PySem.W.isClsIn K C_InvalidNumber = true)
    (xq_InvalidNumber : PySem.W.subIn K (.ref C_InvalidNumber) (.ref C_InvalidNumber) = some true)
    (na_InvalidNumber_value : PySem.W.findIn K (.ref C_InvalidNumber) "value" = some none)
    (gc_Ratio : PySem.W.nsIn K mainGlobals "Ratio" = some (some (.ref C_Ratio)))
    (pg_Ratio : PySem.W.plainGet K C_Ratio Str.empty = true)
    (hd_Ratio : PySem.W.hasDictIn K C_Ratio = true)
    (po_Ratio : PySem.W.plainOver K C_Ratio = true)
    (sa_Ratio : PySem.W.findIn K (.ref C_Ratio) "__setattr__" = some (some (.builtin "object.__setattr__")))
    (tca_Ratio : PySem.W.findIn K (.ref C_Ratio) "__class__" = some (some (.builtin "object.__class__")))
    (tcb_Ratio : PySem.W.specialIn K (.builtin "object.__class__") "__get__" = some (some (.builtin "getset_descriptor.__get__")))
    (tcc_Ratio : PySem.W.takesIn K (.builtin "object.__class__") = some true)
    (tcd_Ratio : PySem.W.mroIn K C_Ratio (.type "object") = some true)
    (ric_Ratio : PySem.W.isClsIn K C_Ratio = true)
    (rty_Ratio : PySem.W.typeIn K (.ref C_Ratio) = some (.type "type"))
    (rss_Ratio : PySem.W.subIn K (.ref C_Ratio) (.ref C_Ratio) = some true)
    (rda_Ratio : PySem.W.readsIn K C_Ratio (.type "type") = true)
    (rdb_Ratio : PySem.W.specialIn K (.ref C_Ratio) "__getattribute__" = some (some (.builtin "type.__getattribute__")))
    (mk_Ratio : PySem.W.makesIn K C_Ratio = true)
    (kc_Ratio : PySem.W.keepIn K (.ref C_Ratio) = true)
    (sf_Ratio : PySem.W.selfFirst K C_Ratio = true)
    (mra_Ratio : PySem.W.clsIn K C_Ratio = some cd_Ratio)
    (mrb_Ratio : cd_Ratio.mro = [.ref C_Ratio, .type "object"])
    (st_Ratio_int : PySem.W.subIn K (.type "int") (.ref C_Ratio) = some false)
    (st_Ratio_bool : PySem.W.subIn K (.type "bool") (.ref C_Ratio) = some false)
    (st_Ratio_str : PySem.W.subIn K (.type "str") (.ref C_Ratio) = some false)
    (st_Ratio_NoneType : PySem.W.subIn K (.type "NoneType") (.ref C_Ratio) = some false)
    (st_Ratio_tuple : PySem.W.subIn K (.type "tuple") (.ref C_Ratio) = some false)
    (su_Ratio_int : PySem.W.subIn K (.ref C_Ratio) (.type "int") = some false)
    (su_Ratio_bool : PySem.W.subIn K (.ref C_Ratio) (.type "bool") = some false)
    (su_Ratio_tuple : PySem.W.subIn K (.ref C_Ratio) (.type "tuple") = some false)
    (su_Ratio_str : PySem.W.subIn K (.ref C_Ratio) (.type "str") = some false)
    (su_Ratio_NoneType : PySem.W.subIn K (.ref C_Ratio) (.type "NoneType") = some false)
    (na_Ratio_top : PySem.W.findIn K (.ref C_Ratio) "top" = some none)
    (na_Ratio_bottom : PySem.W.findIn K (.ref C_Ratio) "bottom" = some none)
    (a_InvalidNumber_init_d : PySem.W.findIn K (.ref C_InvalidNumber) "__init__" = some (some (.ref f_InvalidNumber_init_d)))
    (i_InvalidNumber_init_d : PySem.W.isFn K (.ref f_InvalidNumber_init_d) = true)
    (l_InvalidNumber_init_d : K.lookup f_InvalidNumber_init_d = some ⟨oc_InvalidNumber_init_d, od_InvalidNumber_init_d, .func (PySem.W.fnOf "__init__" "InvalidNumber.__init__" (defArgs s_InvalidNumber_init_d) (defBody s_InvalidNumber_init_d) (defScope s_InvalidNumber_init_d) .none kV_InvalidNumber_init_d dc_InvalidNumber_init_d pm_InvalidNumber_init_d an_InvalidNumber_init_d cd_InvalidNumber_init_d ct_InvalidNumber_init_d), sl_InvalidNumber_init_d⟩)
    (c_InvalidNumber_init_d : PySem.W.codeIn K cd_InvalidNumber_init_d "InvalidNumber.__init__" = true)
    (k_InvalidNumber_init_d : PySem.W.keepIn K (.ref f_InvalidNumber_init_d) = true)
    (a_Ratio_init_d : PySem.W.findIn K (.ref C_Ratio) "__init__" = some (some (.ref f_Ratio_init_d)))
    (i_Ratio_init_d : PySem.W.isFn K (.ref f_Ratio_init_d) = true)
    (l_Ratio_init_d : K.lookup f_Ratio_init_d = some ⟨oc_Ratio_init_d, od_Ratio_init_d, .func (PySem.W.fnOf "__init__" "Ratio.__init__" (defArgs s_Ratio_init_d) (defBody s_Ratio_init_d) (defScope s_Ratio_init_d) (.ref T_Ratio_init_d) kV_Ratio_init_d dc_Ratio_init_d pm_Ratio_init_d an_Ratio_init_d cd_Ratio_init_d ct_Ratio_init_d), sl_Ratio_init_d⟩)
    (dl_Ratio_init_d : K.lookup T_Ratio_init_d = some to_Ratio_init_d)
    (dd_Ratio_init_d : to_Ratio_init_d.data = .seq ti_Ratio_init_d.toArray tn_Ratio_init_d)
    (dv_Ratio_init_d : Vals [V.int 1] ti_Ratio_init_d)
    (c_Ratio_init_d : PySem.W.codeIn K cd_Ratio_init_d "Ratio.__init__" = true)
    (k_Ratio_init_d : PySem.W.keepIn K (.ref f_Ratio_init_d) = true)
    (a_Ratio_of : PySem.W.findCls K (.ref C_Ratio) (.type "type") "of" = some (.get (.builtin "classmethod.__get__") (.ref p_Ratio_of) .none (.ref C_Ratio)))
    (r_Ratio_of : PySem.W.recIn K p_Ratio_of "classmethod" = some (.ref f_Ratio_of :: rs_Ratio_of))
    (i_Ratio_of : PySem.W.fnIn K f_Ratio_of = true)
    (l_Ratio_of : K.lookup f_Ratio_of = some ⟨oc_Ratio_of, od_Ratio_of, .func (PySem.W.fnOf "of" "Ratio.of" (defArgs s_Ratio_of) (defBody s_Ratio_of) (defScope s_Ratio_of) .none kV_Ratio_of dc_Ratio_of pm_Ratio_of an_Ratio_of cd_Ratio_of ct_Ratio_of), sl_Ratio_of⟩)
    (c_Ratio_of : PySem.W.codeIn K cd_Ratio_of "Ratio.of" = true)
    (k_Ratio_of : PySem.W.keepIn K (.ref f_Ratio_of) = true)
    (a_Ratio_is_whole : PySem.W.findIn K (.ref C_Ratio) "is_whole" = some (some (.ref p_Ratio_is_whole)))
    (pg_Ratio_is_whole : PySem.W.specialIn K (.ref p_Ratio_is_whole) "__get__" = some (some (.builtin "property.__get__")))
    (pt_Ratio_is_whole : PySem.W.takesIn K (.ref p_Ratio_is_whole) = some true)
    (r_Ratio_is_whole : PySem.W.recIn K p_Ratio_is_whole "property" = some (.ref f_Ratio_is_whole :: rs_Ratio_is_whole))
    (l_Ratio_is_whole : K.lookup f_Ratio_is_whole = some ⟨oc_Ratio_is_whole, od_Ratio_is_whole, .func (PySem.W.fnOf "is_whole" "Ratio.is_whole" (defArgs s_Ratio_is_whole) (defBody s_Ratio_is_whole) (defScope s_Ratio_is_whole) .none kV_Ratio_is_whole dc_Ratio_is_whole pm_Ratio_is_whole an_Ratio_is_whole cd_Ratio_is_whole ct_Ratio_is_whole), sl_Ratio_is_whole⟩)
    (c_Ratio_is_whole : PySem.W.codeIn K cd_Ratio_is_whole "Ratio.is_whole" = true)
    (k_Ratio_is_whole : PySem.W.keepIn K (.ref f_Ratio_is_whole) = true)
    (a_Ratio_floor : PySem.W.findIn K (.ref C_Ratio) "floor" = some (some (.ref p_Ratio_floor)))
    (pg_Ratio_floor : PySem.W.specialIn K (.ref p_Ratio_floor) "__get__" = some (some (.builtin "property.__get__")))
    (pt_Ratio_floor : PySem.W.takesIn K (.ref p_Ratio_floor) = some true)
    (r_Ratio_floor : PySem.W.recIn K p_Ratio_floor "property" = some (.ref f_Ratio_floor :: rs_Ratio_floor))
    (l_Ratio_floor : K.lookup f_Ratio_floor = some ⟨oc_Ratio_floor, od_Ratio_floor, .func (PySem.W.fnOf "floor" "Ratio.floor" (defArgs s_Ratio_floor) (defBody s_Ratio_floor) (defScope s_Ratio_floor) .none kV_Ratio_floor dc_Ratio_floor pm_Ratio_floor an_Ratio_floor cd_Ratio_floor ct_Ratio_floor), sl_Ratio_floor⟩)
    (c_Ratio_floor : PySem.W.codeIn K cd_Ratio_floor "Ratio.floor" = true)
    (k_Ratio_floor : PySem.W.keepIn K (.ref f_Ratio_floor) = true)
    (a_Ratio_over : PySem.W.findIn K (.ref C_Ratio) "over" = some (some (.ref f_Ratio_over)))
    (i_Ratio_over : PySem.W.isFn K (.ref f_Ratio_over) = true)
    (l_Ratio_over : K.lookup f_Ratio_over = some ⟨oc_Ratio_over, od_Ratio_over, .func (PySem.W.fnOf "over" "Ratio.over" (defArgs s_Ratio_over) (defBody s_Ratio_over) (defScope s_Ratio_over) .none kV_Ratio_over dc_Ratio_over pm_Ratio_over an_Ratio_over cd_Ratio_over ct_Ratio_over), sl_Ratio_over⟩)
    (c_Ratio_over : PySem.W.codeIn K cd_Ratio_over "Ratio.over" = true)
    (k_Ratio_over : PySem.W.keepIn K (.ref f_Ratio_over) = true)
    (a_Ratio_sub_d : PySem.W.findIn K (.ref C_Ratio) "__sub__" = some (some (.ref f_Ratio_sub_d)))
    (i_Ratio_sub_d : PySem.W.isFn K (.ref f_Ratio_sub_d) = true)
    (l_Ratio_sub_d : K.lookup f_Ratio_sub_d = some ⟨oc_Ratio_sub_d, od_Ratio_sub_d, .func (PySem.W.fnOf "__sub__" "Ratio.__sub__" (defArgs s_Ratio_sub_d) (defBody s_Ratio_sub_d) (defScope s_Ratio_sub_d) .none kV_Ratio_sub_d dc_Ratio_sub_d pm_Ratio_sub_d an_Ratio_sub_d cd_Ratio_sub_d ct_Ratio_sub_d), sl_Ratio_sub_d⟩)
    (c_Ratio_sub_d : PySem.W.codeIn K cd_Ratio_sub_d "Ratio.__sub__" = true)
    (k_Ratio_sub_d : PySem.W.keepIn K (.ref f_Ratio_sub_d) = true)
    (br_Ratio_sub_d : PySem.W.findIn K (.ref C_Ratio) (dunderR "sub") = some rc_Ratio_sub_d)
    (bp_Ratio_sub_d : rc_Ratio_sub_d = none ∨ ∃ g : Addr, rc_Ratio_sub_d = some (.ref g))
    (bl_Ratio_sub_d : PySem.W.findIn K (.type "int") (PySem.dunder "sub") = some fo_Ratio_sub_d)
    (bo_Ratio_sub_d : PySem.W.findIn K (.type "int") (dunderR "sub") = some ro_Ratio_sub_d)
    (ba_Ratio_sub_d : PySem.W.findIn K (.ref C_Ratio) (PySem.dunder "sub") = some (some (.ref f_Ratio_sub_d)))
    (n1_Ratio_sub_d : PySem.W.findIn K (.ref C_Ratio) (dunderI "sub") = some none)
    (n2_Ratio_sub_d : PySem.W.findIn K (.type "object") (dunderI "sub") = some none)
    (a_Ratio_mul_d : PySem.W.findIn K (.ref C_Ratio) "__mul__" = some (some (.ref f_Ratio_mul_d)))
    (i_Ratio_mul_d : PySem.W.isFn K (.ref f_Ratio_mul_d) = true)
    (l_Ratio_mul_d : K.lookup f_Ratio_mul_d = some ⟨oc_Ratio_mul_d, od_Ratio_mul_d, .func (PySem.W.fnOf "__mul__" "Ratio.__mul__" (defArgs s_Ratio_mul_d) (defBody s_Ratio_mul_d) (defScope s_Ratio_mul_d) .none kV_Ratio_mul_d dc_Ratio_mul_d pm_Ratio_mul_d an_Ratio_mul_d cd_Ratio_mul_d ct_Ratio_mul_d), sl_Ratio_mul_d⟩)
    (c_Ratio_mul_d : PySem.W.codeIn K cd_Ratio_mul_d "Ratio.__mul__" = true)
    (k_Ratio_mul_d : PySem.W.keepIn K (.ref f_Ratio_mul_d) = true)
    (br_Ratio_mul_d : PySem.W.findIn K (.ref C_Ratio) (dunderR "mul") = some rc_Ratio_mul_d)
    (bp_Ratio_mul_d : rc_Ratio_mul_d = none ∨ ∃ g : Addr, rc_Ratio_mul_d = some (.ref g))
    (bl_Ratio_mul_d : PySem.W.findIn K (.type "int") (PySem.dunder "mul") = some fo_Ratio_mul_d)
    (bo_Ratio_mul_d : PySem.W.findIn K (.type "int") (dunderR "mul") = some ro_Ratio_mul_d)
    (ba_Ratio_mul_d : PySem.W.findIn K (.ref C_Ratio) (PySem.dunder "mul") = some (some (.ref f_Ratio_mul_d)))
    (n1_Ratio_mul_d : PySem.W.findIn K (.ref C_Ratio) (dunderI "mul") = some none)
    (n2_Ratio_mul_d : PySem.W.findIn K (.type "object") (dunderI "mul") = some none)
    (a_Ratio_floordiv_d : PySem.W.findIn K (.ref C_Ratio) "__floordiv__" = some (some (.ref f_Ratio_floordiv_d)))
    (i_Ratio_floordiv_d : PySem.W.isFn K (.ref f_Ratio_floordiv_d) = true)
    (l_Ratio_floordiv_d : K.lookup f_Ratio_floordiv_d = some ⟨oc_Ratio_floordiv_d, od_Ratio_floordiv_d, .func (PySem.W.fnOf "__floordiv__" "Ratio.__floordiv__" (defArgs s_Ratio_floordiv_d) (defBody s_Ratio_floordiv_d) (defScope s_Ratio_floordiv_d) .none kV_Ratio_floordiv_d dc_Ratio_floordiv_d pm_Ratio_floordiv_d an_Ratio_floordiv_d cd_Ratio_floordiv_d ct_Ratio_floordiv_d), sl_Ratio_floordiv_d⟩)
    (c_Ratio_floordiv_d : PySem.W.codeIn K cd_Ratio_floordiv_d "Ratio.__floordiv__" = true)
    (k_Ratio_floordiv_d : PySem.W.keepIn K (.ref f_Ratio_floordiv_d) = true)
    (br_Ratio_floordiv_d : PySem.W.findIn K (.ref C_Ratio) (dunderR "floordiv") = some rc_Ratio_floordiv_d)
    (bp_Ratio_floordiv_d : rc_Ratio_floordiv_d = none ∨ ∃ g : Addr, rc_Ratio_floordiv_d = some (.ref g))
    (bl_Ratio_floordiv_d : PySem.W.findIn K (.type "int") (PySem.dunder "floordiv") = some fo_Ratio_floordiv_d)
    (bo_Ratio_floordiv_d : PySem.W.findIn K (.type "int") (dunderR "floordiv") = some ro_Ratio_floordiv_d)
    (ba_Ratio_floordiv_d : PySem.W.findIn K (.ref C_Ratio) (PySem.dunder "floordiv") = some (some (.ref f_Ratio_floordiv_d)))
    (n1_Ratio_floordiv_d : PySem.W.findIn K (.ref C_Ratio) (dunderI "floordiv") = some none)
    (n2_Ratio_floordiv_d : PySem.W.findIn K (.type "object") (dunderI "floordiv") = some none)
    (a_Ratio_mod_d : PySem.W.findIn K (.ref C_Ratio) "__mod__" = some (some (.ref f_Ratio_mod_d)))
    (i_Ratio_mod_d : PySem.W.isFn K (.ref f_Ratio_mod_d) = true)
    (l_Ratio_mod_d : K.lookup f_Ratio_mod_d = some ⟨oc_Ratio_mod_d, od_Ratio_mod_d, .func (PySem.W.fnOf "__mod__" "Ratio.__mod__" (defArgs s_Ratio_mod_d) (defBody s_Ratio_mod_d) (defScope s_Ratio_mod_d) .none kV_Ratio_mod_d dc_Ratio_mod_d pm_Ratio_mod_d an_Ratio_mod_d cd_Ratio_mod_d ct_Ratio_mod_d), sl_Ratio_mod_d⟩)
    (c_Ratio_mod_d : PySem.W.codeIn K cd_Ratio_mod_d "Ratio.__mod__" = true)
    (k_Ratio_mod_d : PySem.W.keepIn K (.ref f_Ratio_mod_d) = true)
    (br_Ratio_mod_d : PySem.W.findIn K (.ref C_Ratio) (dunderR "mod") = some rc_Ratio_mod_d)
    (bp_Ratio_mod_d : rc_Ratio_mod_d = none ∨ ∃ g : Addr, rc_Ratio_mod_d = some (.ref g))
    (bl_Ratio_mod_d : PySem.W.findIn K (.type "int") (PySem.dunder "mod") = some fo_Ratio_mod_d)
    (bo_Ratio_mod_d : PySem.W.findIn K (.type "int") (dunderR "mod") = some ro_Ratio_mod_d)
    (ba_Ratio_mod_d : PySem.W.findIn K (.ref C_Ratio) (PySem.dunder "mod") = some (some (.ref f_Ratio_mod_d)))
    (n1_Ratio_mod_d : PySem.W.findIn K (.ref C_Ratio) (dunderI "mod") = some none)
    (n2_Ratio_mod_d : PySem.W.findIn K (.type "object") (dunderI "mod") = some none)
    (a_is_number : PySem.W.nsIn K mainGlobals "is_number" = some (some (.ref f_is_number)))
    (l_is_number : K.lookup f_is_number = some ⟨oc_is_number, od_is_number, .func (PySem.W.fnOf "is_number" "is_number" (defArgs s_is_number) (defBody s_is_number) (defScope s_is_number) .none kV_is_number dc_is_number pm_is_number an_is_number cd_is_number ct_is_number), sl_is_number⟩)
    (c_is_number : PySem.W.codeIn K cd_is_number "is_number" = true)
    (k_is_number : PySem.W.keepIn K (.ref f_is_number) = true)
    (a_lw_box : PySem.W.nsIn K mainGlobals "_law_box" = some (some (.ref f_lw_box)))
    (l_lw_box : K.lookup f_lw_box = some ⟨oc_lw_box, od_lw_box, .func (PySem.W.fnOf "_law_box" "_law_box" (defArgs s_lw_box) (defBody s_lw_box) (defScope s_lw_box) .none kV_lw_box dc_lw_box pm_lw_box an_lw_box cd_lw_box ct_lw_box), sl_lw_box⟩)
    (c_lw_box : PySem.W.codeIn K cd_lw_box "_law_box" = true)
    (k_lw_box : PySem.W.keepIn K (.ref f_lw_box) = true)
    (a_lw_take : PySem.W.nsIn K mainGlobals "_law_take" = some (some (.ref f_lw_take)))
    (l_lw_take : K.lookup f_lw_take = some ⟨oc_lw_take, od_lw_take, .func (PySem.W.fnOf "_law_take" "_law_take" (defArgs s_lw_take) (defBody s_lw_take) (defScope s_lw_take) .none kV_lw_take dc_lw_take pm_lw_take an_lw_take cd_lw_take ct_lw_take), sl_lw_take⟩)
    (c_lw_take : PySem.W.codeIn K cd_lw_take "_law_take" = true)
    (k_lw_take : PySem.W.keepIn K (.ref f_lw_take) = true)
    (a_lw_lowest : PySem.W.nsIn K mainGlobals "_law_lowest" = some (some (.ref f_lw_lowest)))
    (l_lw_lowest : K.lookup f_lw_lowest = some ⟨oc_lw_lowest, od_lw_lowest, .func (PySem.W.fnOf "_law_lowest" "_law_lowest" (defArgs s_lw_lowest) (defBody s_lw_lowest) (defScope s_lw_lowest) .none kV_lw_lowest dc_lw_lowest pm_lw_lowest an_lw_lowest cd_lw_lowest ct_lw_lowest), sl_lw_lowest⟩)
    (c_lw_lowest : PySem.W.codeIn K cd_lw_lowest "_law_lowest" = true)
    (k_lw_lowest : PySem.W.keepIn K (.ref f_lw_lowest) = true)
    (a_lw_number : PySem.W.nsIn K mainGlobals "_law_number" = some (some (.ref f_lw_number)))
    (l_lw_number : K.lookup f_lw_number = some ⟨oc_lw_number, od_lw_number, .func (PySem.W.fnOf "_law_number" "_law_number" (defArgs s_lw_number) (defBody s_lw_number) (defScope s_lw_number) .none kV_lw_number dc_lw_number pm_lw_number an_lw_number cd_lw_number ct_lw_number), sl_lw_number⟩)
    (c_lw_number : PySem.W.codeIn K cd_lw_number "_law_number" = true)
    (k_lw_number : PySem.W.keepIn K (.ref f_lw_number) = true)
    (a_lw_is : PySem.W.nsIn K mainGlobals "_law_is" = some (some (.ref f_lw_is)))
    (l_lw_is : K.lookup f_lw_is = some ⟨oc_lw_is, od_lw_is, .func (PySem.W.fnOf "_law_is" "_law_is" (defArgs s_lw_is) (defBody s_lw_is) (defScope s_lw_is) .none kV_lw_is dc_lw_is pm_lw_is an_lw_is cd_lw_is ct_lw_is), sl_lw_is⟩)
    (c_lw_is : PySem.W.codeIn K cd_lw_is "_law_is" = true)
    (k_lw_is : PySem.W.keepIn K (.ref f_lw_is) = true)
    (a_lw_refused : PySem.W.nsIn K mainGlobals "_law_refused" = some (some (.ref f_lw_refused)))
    (l_lw_refused : K.lookup f_lw_refused = some ⟨oc_lw_refused, od_lw_refused, .func (PySem.W.fnOf "_law_refused" "_law_refused" (defArgs s_lw_refused) (defBody s_lw_refused) (defScope s_lw_refused) .none kV_lw_refused dc_lw_refused pm_lw_refused an_lw_refused cd_lw_refused ct_lw_refused), sl_lw_refused⟩)
    (c_lw_refused : PySem.W.codeIn K cd_lw_refused "_law_refused" = true)
    (k_lw_refused : PySem.W.keepIn K (.ref f_lw_refused) = true)
    (a_lw_right : PySem.W.nsIn K mainGlobals "_law_right" = some (some (.ref f_lw_right)))
    (l_lw_right : K.lookup f_lw_right = some ⟨oc_lw_right, od_lw_right, .func (PySem.W.fnOf "_law_right" "_law_right" (defArgs s_lw_right) (defBody s_lw_right) (defScope s_lw_right) .none kV_lw_right dc_lw_right pm_lw_right an_lw_right cd_lw_right ct_lw_right), sl_lw_right⟩)
    (c_lw_right : PySem.W.codeIn K cd_lw_right "_law_right" = true)
    (k_lw_right : PySem.W.keepIn K (.ref f_lw_right) = true)
    (a_law : PySem.W.nsIn K mainGlobals "law" = some (some (.ref f_law)))
    (l_law : K.lookup f_law = some ⟨oc_law, od_law, .func (PySem.W.fnOf "law" "law" (defArgs s_law) (defBody s_law) (defScope s_law) .none kV_law dc_law pm_law an_law cd_law ct_law), sl_law⟩)
    (c_law : PySem.W.codeIn K cd_law "law" = true)
    (k_law : PySem.W.keepIn K (.ref f_law) = true)
    : ∃ fd : FuncData, (∀ (s : Shared) (v : Value), BindsTo s fd ⟨[v], []⟩ [("_law_script", v)]) ∧ ∀ base : Heap, K.In base → base.Ns mainGlobals mg → FnG P w K mg base CX0 lv fa fd ["_law_script"] (sp K) := by
  have e := hfa.symm.trans (PySem.W.mg_of X G a_law)
  cases e
  let T : Txt K mg := {
    b_len := PySem.W.mg_none_of X G zb_len,
    b_range := PySem.W.mg_none_of X G zb_range,
    b_int := PySem.W.mg_none_of X G zb_int,
    b_str := PySem.W.mg_none_of X G zb_str,
    b_bool := PySem.W.mg_none_of X G zb_bool,
    b_abs := PySem.W.mg_none_of X G zb_abs,
    b_isinstance := PySem.W.mg_none_of X G zb_isinstance,
    b_repr := PySem.W.mg_none_of X G zb_repr,
    b_max := PySem.W.mg_none_of X G zb_max,
    b_min := PySem.W.mg_none_of X G zb_min,
    g_gcd := PySem.W.mg_of X G gi_gcd,
    C_PoolError := C_PoolError,
    g_PoolError := PySem.W.mg_of X G gc_PoolError,
    ox_PoolError := ⟨⟨_, _, _, _, _, _, _, _, _, _, _, _, _, _, _, xl_PoolError, xr_PoolError⟩, xs_PoolError, xe_PoolError, xt_PoolError, xk_PoolError⟩,
    xf_PoolError := ⟨xa_PoolError, xg_PoolError, xe_PoolError, xh_PoolError⟩,
    ic_PoolError := xi_PoolError,
    ss_PoolError := xq_PoolError,
    C_InvalidNumber := C_InvalidNumber,
    g_InvalidNumber := PySem.W.mg_of X G gc_InvalidNumber,
    ox_InvalidNumber := ⟨⟨_, _, _, _, _, _, _, _, _, _, _, _, _, _, _, xl_InvalidNumber, xr_InvalidNumber⟩, xs_InvalidNumber, xe_InvalidNumber, xt_InvalidNumber, xk_InvalidNumber⟩,
    xf_InvalidNumber := ⟨xa_InvalidNumber, xg_InvalidNumber, xe_InvalidNumber, xh_InvalidNumber⟩,
    ic_InvalidNumber := xi_InvalidNumber,
    ss_InvalidNumber := xq_InvalidNumber,
    n_InvalidNumber_value := na_InvalidNumber_value,
    C_Ratio := C_Ratio,
    g_Ratio := PySem.W.mg_of X G gc_Ratio,
    cl_Ratio := ⟨pg_Ratio, hd_Ratio, po_Ratio, sa_Ratio⟩,
    tc_Ratio := ⟨⟨tca_Ratio, tcb_Ratio, tcc_Ratio, tcd_Ratio⟩, ric_Ratio, rty_Ratio, rss_Ratio⟩,
    rd_Ratio := ⟨rda_Ratio, rdb_Ratio⟩,
    mk_Ratio := mk_Ratio,
    kp_Ratio := kc_Ratio,
    sf_Ratio := sf_Ratio,
    mr_Ratio := ⟨cd_Ratio, mra_Ratio, mrb_Ratio⟩,
    st_Ratio_int := st_Ratio_int,
    st_Ratio_bool := st_Ratio_bool,
    st_Ratio_str := st_Ratio_str,
    st_Ratio_NoneType := st_Ratio_NoneType,
    st_Ratio_tuple := st_Ratio_tuple,
    su_Ratio_int := su_Ratio_int,
    su_Ratio_bool := su_Ratio_bool,
    su_Ratio_tuple := su_Ratio_tuple,
    su_Ratio_str := su_Ratio_str,
    su_Ratio_NoneType := su_Ratio_NoneType,
    n_Ratio_top := na_Ratio_top,
    n_Ratio_bottom := na_Ratio_bottom,
    f_InvalidNumber_init_d := f_InvalidNumber_init_d,
    d_InvalidNumber_init_d := _,
    F_InvalidNumber_init_d := fun_mk (st := s_InvalidNumber_init_d) l_InvalidNumber_init_d c_InvalidNumber_init_d k_InvalidNumber_init_d,
    B_InvalidNumber_init_d := (fun_mk (st := s_InvalidNumber_init_d) l_InvalidNumber_init_d c_InvalidNumber_init_d k_InvalidNumber_init_d).binds (ps := ["self", "value"]) fun _ _ _ _ _ _ us hl => match us, hl with | [_, _], _ => rfl,
    m_InvalidNumber_init_d := ⟨a_InvalidNumber_init_d, i_InvalidNumber_init_d⟩,
    t_InvalidNumber_init_d := beq_iff_eq.mp i_InvalidNumber_init_d,
    f_Ratio_init_d := f_Ratio_init_d,
    d_Ratio_init_d := _,
    F_Ratio_init_d := ⟨⟨_, _, _, _, _, _, _, _, _, _, rfl, l_Ratio_init_d, c_Ratio_init_d, .inr ⟨List.cons_ne_nil _ _, T_Ratio_init_d, to_Ratio_init_d, ti_Ratio_init_d, tn_Ratio_init_d, rfl, dl_Ratio_init_d, dd_Ratio_init_d, dv_Ratio_init_d⟩, .inl rfl⟩, k_Ratio_init_d⟩,
    m_Ratio_init_d := ⟨a_Ratio_init_d, i_Ratio_init_d⟩,
    f_Ratio_of := f_Ratio_of,
    d_Ratio_of := _,
    F_Ratio_of := fun_mk (st := s_Ratio_of) l_Ratio_of c_Ratio_of k_Ratio_of,
    B_Ratio_of := (fun_mk (st := s_Ratio_of) l_Ratio_of c_Ratio_of k_Ratio_of).binds (ps := ["cls", "value"]) fun _ _ _ _ _ _ us hl => match us, hl with | [_, _], _ => rfl,
    p_Ratio_of := p_Ratio_of,
    cm_Ratio_of := ⟨a_Ratio_of, ⟨_, r_Ratio_of⟩, i_Ratio_of⟩,
    f_Ratio_is_whole := f_Ratio_is_whole,
    d_Ratio_is_whole := _,
    F_Ratio_is_whole := fun_mk (st := s_Ratio_is_whole) l_Ratio_is_whole c_Ratio_is_whole k_Ratio_is_whole,
    B_Ratio_is_whole := (fun_mk (st := s_Ratio_is_whole) l_Ratio_is_whole c_Ratio_is_whole k_Ratio_is_whole).binds (ps := ["self"]) fun _ _ _ _ _ _ us hl => match us, hl with | [_], _ => rfl,
    p_Ratio_is_whole := p_Ratio_is_whole,
    pr_Ratio_is_whole := ⟨a_Ratio_is_whole, pg_Ratio_is_whole, pt_Ratio_is_whole, ⟨_, r_Ratio_is_whole⟩⟩,
    f_Ratio_floor := f_Ratio_floor,
    d_Ratio_floor := _,
    F_Ratio_floor := fun_mk (st := s_Ratio_floor) l_Ratio_floor c_Ratio_floor k_Ratio_floor,
    B_Ratio_floor := (fun_mk (st := s_Ratio_floor) l_Ratio_floor c_Ratio_floor k_Ratio_floor).binds (ps := ["self"]) fun _ _ _ _ _ _ us hl => match us, hl with | [_], _ => rfl,
    p_Ratio_floor := p_Ratio_floor,
    pr_Ratio_floor := ⟨a_Ratio_floor, pg_Ratio_floor, pt_Ratio_floor, ⟨_, r_Ratio_floor⟩⟩,
    f_Ratio_over := f_Ratio_over,
    d_Ratio_over := _,
    F_Ratio_over := fun_mk (st := s_Ratio_over) l_Ratio_over c_Ratio_over k_Ratio_over,
    B_Ratio_over := (fun_mk (st := s_Ratio_over) l_Ratio_over c_Ratio_over k_Ratio_over).binds (ps := ["self", "other"]) fun _ _ _ _ _ _ us hl => match us, hl with | [_, _], _ => rfl,
    m_Ratio_over := ⟨a_Ratio_over, i_Ratio_over⟩,
    me_Ratio_over := ⟨a_Ratio_over, i_Ratio_over, k_Ratio_over⟩,
    f_Ratio_sub_d := f_Ratio_sub_d,
    d_Ratio_sub_d := _,
    F_Ratio_sub_d := fun_mk (st := s_Ratio_sub_d) l_Ratio_sub_d c_Ratio_sub_d k_Ratio_sub_d,
    B_Ratio_sub_d := (fun_mk (st := s_Ratio_sub_d) l_Ratio_sub_d c_Ratio_sub_d k_Ratio_sub_d).binds (ps := ["self", "other"]) fun _ _ _ _ _ _ us hl => match us, hl with | [_, _], _ => rfl,
    m_Ratio_sub_d := ⟨a_Ratio_sub_d, i_Ratio_sub_d⟩,
    bn_Ratio_sub_d := ⟨sf_Ratio, ba_Ratio_sub_d, i_Ratio_sub_d, ⟨_, br_Ratio_sub_d, bp_Ratio_sub_d⟩, ⟨_, bl_Ratio_sub_d⟩, ⟨_, bo_Ratio_sub_d⟩, st_Ratio_int⟩,
    ni_Ratio_sub_d := ⟨⟨_, mra_Ratio, mrb_Ratio⟩, n1_Ratio_sub_d, n2_Ratio_sub_d⟩,
    f_Ratio_mul_d := f_Ratio_mul_d,
    d_Ratio_mul_d := _,
    F_Ratio_mul_d := fun_mk (st := s_Ratio_mul_d) l_Ratio_mul_d c_Ratio_mul_d k_Ratio_mul_d,
    B_Ratio_mul_d := (fun_mk (st := s_Ratio_mul_d) l_Ratio_mul_d c_Ratio_mul_d k_Ratio_mul_d).binds (ps := ["self", "other"]) fun _ _ _ _ _ _ us hl => match us, hl with | [_, _], _ => rfl,
    m_Ratio_mul_d := ⟨a_Ratio_mul_d, i_Ratio_mul_d⟩,
    bn_Ratio_mul_d := ⟨sf_Ratio, ba_Ratio_mul_d, i_Ratio_mul_d, ⟨_, br_Ratio_mul_d, bp_Ratio_mul_d⟩, ⟨_, bl_Ratio_mul_d⟩, ⟨_, bo_Ratio_mul_d⟩, st_Ratio_int⟩,
    ni_Ratio_mul_d := ⟨⟨_, mra_Ratio, mrb_Ratio⟩, n1_Ratio_mul_d, n2_Ratio_mul_d⟩,
    f_Ratio_floordiv_d := f_Ratio_floordiv_d,
    d_Ratio_floordiv_d := _,
    F_Ratio_floordiv_d := fun_mk (st := s_Ratio_floordiv_d) l_Ratio_floordiv_d c_Ratio_floordiv_d k_Ratio_floordiv_d,
    B_Ratio_floordiv_d := (fun_mk (st := s_Ratio_floordiv_d) l_Ratio_floordiv_d c_Ratio_floordiv_d k_Ratio_floordiv_d).binds (ps := ["self", "other"]) fun _ _ _ _ _ _ us hl => match us, hl with | [_, _], _ => rfl,
    m_Ratio_floordiv_d := ⟨a_Ratio_floordiv_d, i_Ratio_floordiv_d⟩,
    bn_Ratio_floordiv_d := ⟨sf_Ratio, ba_Ratio_floordiv_d, i_Ratio_floordiv_d, ⟨_, br_Ratio_floordiv_d, bp_Ratio_floordiv_d⟩, ⟨_, bl_Ratio_floordiv_d⟩, ⟨_, bo_Ratio_floordiv_d⟩, st_Ratio_int⟩,
    ni_Ratio_floordiv_d := ⟨⟨_, mra_Ratio, mrb_Ratio⟩, n1_Ratio_floordiv_d, n2_Ratio_floordiv_d⟩,
    f_Ratio_mod_d := f_Ratio_mod_d,
    d_Ratio_mod_d := _,
    F_Ratio_mod_d := fun_mk (st := s_Ratio_mod_d) l_Ratio_mod_d c_Ratio_mod_d k_Ratio_mod_d,
    B_Ratio_mod_d := (fun_mk (st := s_Ratio_mod_d) l_Ratio_mod_d c_Ratio_mod_d k_Ratio_mod_d).binds (ps := ["self", "other"]) fun _ _ _ _ _ _ us hl => match us, hl with | [_, _], _ => rfl,
    m_Ratio_mod_d := ⟨a_Ratio_mod_d, i_Ratio_mod_d⟩,
    bn_Ratio_mod_d := ⟨sf_Ratio, ba_Ratio_mod_d, i_Ratio_mod_d, ⟨_, br_Ratio_mod_d, bp_Ratio_mod_d⟩, ⟨_, bl_Ratio_mod_d⟩, ⟨_, bo_Ratio_mod_d⟩, st_Ratio_int⟩,
    ni_Ratio_mod_d := ⟨⟨_, mra_Ratio, mrb_Ratio⟩, n1_Ratio_mod_d, n2_Ratio_mod_d⟩,
    f_is_number := f_is_number,
    d_is_number := _,
    F_is_number := fun_mk (st := s_is_number) l_is_number c_is_number k_is_number,
    B_is_number := (fun_mk (st := s_is_number) l_is_number c_is_number k_is_number).binds (ps := ["value"]) fun _ _ _ _ _ _ us hl => match us, hl with | [_], _ => rfl,
    g_is_number := PySem.W.mg_of X G a_is_number,
    f_lw_box := f_lw_box,
    d_lw_box := _,
    F_lw_box := fun_mk (st := s_lw_box) l_lw_box c_lw_box k_lw_box,
    B_lw_box := (fun_mk (st := s_lw_box) l_lw_box c_lw_box k_lw_box).binds (ps := ["_law_script", "_law_k"]) fun _ _ _ _ _ _ us hl => match us, hl with | [_, _], _ => rfl,
    g_lw_box := PySem.W.mg_of X G a_lw_box,
    f_lw_take := f_lw_take,
    d_lw_take := _,
    F_lw_take := fun_mk (st := s_lw_take) l_lw_take c_lw_take k_lw_take,
    B_lw_take := (fun_mk (st := s_lw_take) l_lw_take c_lw_take k_lw_take).binds (ps := ["_law_box_here", "_law_many"]) fun _ _ _ _ _ _ us hl => match us, hl with | [_, _], _ => rfl,
    g_lw_take := PySem.W.mg_of X G a_lw_take,
    f_lw_lowest := f_lw_lowest,
    d_lw_lowest := _,
    F_lw_lowest := fun_mk (st := s_lw_lowest) l_lw_lowest c_lw_lowest k_lw_lowest,
    B_lw_lowest := (fun_mk (st := s_lw_lowest) l_lw_lowest c_lw_lowest k_lw_lowest).binds (ps := ["_law_top", "_law_bottom"]) fun _ _ _ _ _ _ us hl => match us, hl with | [_, _], _ => rfl,
    g_lw_lowest := PySem.W.mg_of X G a_lw_lowest,
    f_lw_number := f_lw_number,
    d_lw_number := _,
    F_lw_number := fun_mk (st := s_lw_number) l_lw_number c_lw_number k_lw_number,
    B_lw_number := (fun_mk (st := s_lw_number) l_lw_number c_lw_number k_lw_number).binds (ps := ["_law_box_here"]) fun _ _ _ _ _ _ us hl => match us, hl with | [_], _ => rfl,
    g_lw_number := PySem.W.mg_of X G a_lw_number,
    f_lw_is := f_lw_is,
    d_lw_is := _,
    F_lw_is := fun_mk (st := s_lw_is) l_lw_is c_lw_is k_lw_is,
    B_lw_is := (fun_mk (st := s_lw_is) l_lw_is c_lw_is k_lw_is).binds (ps := ["_law_found", "_law_due"]) fun _ _ _ _ _ _ us hl => match us, hl with | [_, _], _ => rfl,
    g_lw_is := PySem.W.mg_of X G a_lw_is,
    f_lw_refused := f_lw_refused,
    d_lw_refused := _,
    F_lw_refused := fun_mk (st := s_lw_refused) l_lw_refused c_lw_refused k_lw_refused,
    B_lw_refused := (fun_mk (st := s_lw_refused) l_lw_refused c_lw_refused k_lw_refused).binds (ps := ["_law_a", "_law_b", "_law_form"]) fun _ _ _ _ _ _ us hl => match us, hl with | [_, _, _], _ => rfl,
    g_lw_refused := PySem.W.mg_of X G a_lw_refused,
    f_lw_right := f_lw_right,
    d_lw_right := _,
    F_lw_right := fun_mk (st := s_lw_right) l_lw_right c_lw_right k_lw_right,
    B_lw_right := (fun_mk (st := s_lw_right) l_lw_right c_lw_right k_lw_right).binds (ps := ["_law_a", "_law_b", "_law_one", "_law_second"]) fun _ _ _ _ _ _ us hl => match us, hl with | [_, _, _, _], _ => rfl,
    g_lw_right := PySem.W.mg_of X G a_lw_right,
    f_law := fa,
    d_law := _,
    F_law := fun_mk (st := s_law) l_law c_law k_law,
    B_law := (fun_mk (st := s_law) l_law c_law k_law).binds (ps := ["_law_script"]) fun _ _ _ _ _ _ us hl => match us, hl with | [_], _ => rfl,
    g_law := PySem.W.mg_of X G a_law
  }
  exact ⟨T.d_law, fun s v => .of_eq rfl, fun base _ _ => ok_law T⟩
theorem walk {l : PySem.W.OpenLaw} {q : Program} {loose : List Str} {XP : (Str → Option Value) → Heap → Prop} {YP : World → Heap → Prop} {d : DefRec} {K : Params → PySem.W.Frag} {lv : Nat} {sp : SpK} (hn : l.most = some 63) (hdf : d.params.defaults = []) (hr : Room lv callerA)
    (hY : ∀ (w : World) (h : Heap), YP w h → (K w.params).In h)
    (F : ∀ (w : World) (mg : Str → Option Value) (fa : Addr) (h : Heap), (K w.params).In h → h.Ns mainGlobals mg → mg d.name = some (.ref fa) →
      ∃ fd : FuncData, (∀ (s : Shared) (u : Value), BindsTo s fd ⟨[u], []⟩ [("_law_script", u)]) ∧ ∀ base : Heap, (K w.params).In base → base.Ns mainGlobals mg → FnG l.prog w (K w.params) mg base CX0 lv fa fd ["_law_script"] (sp (K w.params)))
    (asks : Asked sp) :
    PySem.W.WalkO q loose XP YP l.row.toRowW d [] (fun f vs => PySem.call f vs) :=
  walkG (n := 63) (k := lv) (x := "_law_script") (sp := fun w => sp (K w.params)) hn (by decide) hdf hr hY F (fun _ _ _ _ hl hS => asks hl hS)
/-! ### ratios: the mathematics -/
def sg (l : Int) : Int := if l < 0 then -1 else 1
def gc (u l : Int) : Int := ((Nat.gcd u.natAbs l.natAbs : Nat) : Int)
/-- the lowest terms of u / l -/
def lo1 (u l : Int) : Int := sg l * u / gc u l
def lo2 (u l : Int) : Int := sg l * l / gc u l
theorem gc_pos {u l : Int} (h : l ≠ 0) : 0 < gc u l := by
  unfold gc
  have : 0 < Nat.gcd u.natAbs l.natAbs := Nat.gcd_pos_of_pos_right _ (by omega)
  omega
theorem gc_dvd1 (u l : Int) : gc u l ∣ u := Int.ofNat_dvd_left.mpr (Nat.gcd_dvd_left _ _)
theorem gc_dvd2 (u l : Int) : gc u l ∣ l := Int.ofNat_dvd_left.mpr (Nat.gcd_dvd_right _ _)
theorem gc_le {u l : Int} (h : l ≠ 0) : gc u l ≤ (l.natAbs : Int) := by
  have : Nat.gcd u.natAbs l.natAbs ≤ l.natAbs := Nat.gcd_le_right _ (by omega)
  unfold gc
  omega
theorem fdiv_neg_of {g k : Int} (hg : 0 < g) : (g * k).fdiv (-g) = -1 * (g * k) / g := by
  have e1 : g * k = -g * -k := by rw [Int.neg_mul_neg]
  have e2 : -1 * (g * k) = g * (-1 * k) := by rw [Int.mul_left_comm]
  rw [e2, Int.mul_ediv_cancel_left _ (by omega), e1, Int.mul_fdiv_cancel_left _ (by omega)]
  omega
theorem fdiv_pos_of {g k : Int} (hg : 0 < g) : (g * k).fdiv g = 1 * (g * k) / g := by
  rw [Int.one_mul, Int.mul_fdiv_cancel_left _ (by omega), Int.mul_ediv_cancel_left _ (by omega)]
theorem lo_neg {u l : Int} (h : l < 0) : u.fdiv (-gc u l) = lo1 u l ∧ l.fdiv (-gc u l) = lo2 u l := by
  have hg : 0 < gc u l := gc_pos (by omega)
  unfold lo1 lo2 sg
  rw [if_pos h]
  obtain ⟨k1, e1⟩ := gc_dvd1 u l
  obtain ⟨k2, e2⟩ := gc_dvd2 u l
  generalize gc u l = g at *
  rw [e1, e2]
  exact ⟨fdiv_neg_of hg, fdiv_neg_of hg⟩
theorem lo_pos {u l : Int} (h : 0 < l) : u.fdiv (gc u l) = lo1 u l ∧ l.fdiv (gc u l) = lo2 u l := by
  have hg : 0 < gc u l := gc_pos (by omega)
  unfold lo1 lo2 sg
  rw [if_neg (by omega)]
  obtain ⟨k1, e1⟩ := gc_dvd1 u l
  obtain ⟨k2, e2⟩ := gc_dvd2 u l
  generalize gc u l = g at *
  rw [e1, e2]
  exact ⟨fdiv_pos_of hg, fdiv_pos_of hg⟩
theorem lo_one (u : Int) : lo1 u 1 = u ∧ lo2 u 1 = 1 := by
  have e : gc u 1 = 1 := by unfold gc; simp
  unfold lo1 lo2
  rw [e]
  simp [sg]
theorem lo2_pos {u l : Int} (h : l ≠ 0) : 0 < lo2 u l := by
  have hg : 0 < gc u l := gc_pos h
  obtain ⟨k, e⟩ := gc_dvd2 u l
  have e2 : sg l * l = gc u l * (sg l * k) := by
    have : sg l * (gc u l * k) = gc u l * (sg l * k) := Int.mul_left_comm ..
    rw [← e] at this
    exact this
  unfold lo2
  rw [e2, Int.mul_ediv_cancel_left _ (by omega)]
  have p1 : 0 < sg l * l := by
    unfold sg
    split <;> omega
  rw [e2] at p1
  exact Int.pos_of_mul_pos_left (by rw [Int.mul_comm]; exact p1) hg
theorem lo2_le {u l : Int} (h : l ≠ 0) : lo2 u l ≤ (l.natAbs : Int) := by
  have hg : 0 < gc u l := gc_pos h
  have e : sg l * l = (l.natAbs : Int) := by
    unfold sg
    split <;> omega
  unfold lo2
  rw [e]
  exact Int.ediv_le_self _ (by omega)
theorem lo1_le {u l : Int} : (lo1 u l).natAbs ≤ u.natAbs := by
  unfold lo1
  have h1 : (sg l * u).natAbs = u.natAbs := by
    unfold sg
    split <;> omega
  rw [← h1]
  exact Int.natAbs_ediv_le_natAbs _ _

/-! ### ratios in the heap -/
def rfs (a b : Int) : List (Str × V) := [("top", V.int a), ("bottom", V.int b)]
theorem tb_ne : ¬ (("top" : Str) = "bottom") := by decide +kernel
theorem bt_ne : ¬ (("bottom" : Str) = "top") := by decide +kernel
theorem rfs_top (a b : Int) : (rfs a b).lookup ("top" : Str) = some (.int a) := by simp [rfs, List.lookup]
theorem rfs_bot (a b : Int) : (rfs a b).lookup ("bottom" : Str) = some (.int b) := by
  have e : (("bottom" : Str) == "top") = false := by decide +kernel
  simp [rfs, List.lookup, e]
theorem rfs_put (a b : Int) : putF "bottom" (.int b) (putF "top" (.int a) []) = rfs a b := by
  show (if ("top" : Str) = "bottom" then _ else _) = _
  rw [if_neg tb_ne]
  rfl
theorem rfs_no {a b : Int} {m : Str} (h1 : (m == ("top" : Str)) = false) (h2 : (m == ("bottom" : Str)) = false) : (rfs a b).lookup m = none := by simp [rfs, List.lookup, h1, h2]
/-- at p stands the ratio a / b -/
def RatAt (C : Addr) (H : Hp) (p : Addr) (a b : Int) : Prop := ∃ dx, H p = some (.ins C dx (rfs a b))
theorem RatAt.same {C p : Addr} {H H' : Hp} {a b : Int} (h : RatAt C H p a b) (s : Same H H') : RatAt C H' p a b := let ⟨dx, e⟩ := h; ⟨dx, s _ _ e⟩
/-- what is wanted of any heap that holds the new ratio beside all that stood -/
def GotR (C : Addr) (H : Hp) (Q : VK) (a b : Int) : Prop := ∀ p H', Same H H' → RatAt C H' p a b → Q (.ref p) H'
theorem same_upd {H : Hp} {p : Addr} {o : HO} (h : H p = none) : Same H (upd H p o) := fun b u e => by rw [upd_ne (ne_of_none e h)]; exact e

/-! ### the promises -/
/-- InvalidNumber.__init__ -/
def spInv (C : Addr) : Sp := fun vs H Q _ => ∃ (a : Addr) (v : V), vs = [.ref a, v] ∧ H a = some (exo a C none) ∧ ∀ dx, H dx = none → dx ≠ a → Q .non (upd (upd H dx (exd dx [("value", v)])) a (exo a C (some dx)))
/-- an InvalidNumber with this value is raised -/
def Bad (CI : Addr) (v : V) (H : Hp) (E : XK) : Prop := ∀ d H', Same H H' → H' d = some (.xd [("value", v)]) → E (.ref CI) (some d) H'
/-- Ratio.__init__ -/
def spInit (C CI : Addr) : Sp := fun vs H Q E => ∃ (p dx : Addr) (u l : Int), vs = [.ref p, .int u, .int l] ∧ H p = some (.ins C dx []) ∧ l.natAbs < 2 ^ 8000 ∧
  (l ≠ 0 → Q .non (upd H p (.ins C dx (rfs (lo1 u l) (lo2 u l))))) ∧ (l = 0 → Bad CI (.int 0) H E)
/-- what is_number answers -/
def NumB (C : Addr) (H : Hp) (v : V) (b : Bool) : Prop :=
  (b = true ∧ ((∃ i, v = .int i) ∨ ∃ p dx fs, v = .ref p ∧ H p = some (.ins C dx fs))) ∨ (b = false ∧ ((∃ x, v = .bl x) ∨ (∃ z, v = .str z) ∨ v = .non ∨ ∃ p xs, v = .ref p ∧ H p = some (.tup xs)))
def spNum (C : Addr) : Sp := fun vs H Q _ => ∃ v b, vs = [v] ∧ NumB C H v b ∧ ∀ H', Same H H' → Q (.bl b) H'
/-- Ratio.of -/
def spOf (C CI : Addr) : Sp := fun vs H Q E => ∃ v, vs = [.ref C, v] ∧ ((∃ i, v = .int i ∧ GotR C H Q i 1) ∨ (∃ p a b, v = .ref p ∧ RatAt C H p a b ∧ ∀ H', Same H H' → Q (.ref p) H') ∨ (NumB C H v false ∧ Bad CI v H E))

theorem vals_rev : ∀ {vs : List V} {us : List Value}, Vals vs us → Vals vs.reverse us.reverse
  | _, _, .nil => .nil
  | _, _, .cons r t => by
    rw [List.reverse_cons, List.reverse_cons]
    exact (vals_rev t).append (.cons r .nil)
/-- an expression's reading, weakened -/
theorem pe_wk {X : Cx} {e : Expr} {t : TE} (h : PE X e t) : PE X e (fun σ H Q => ∃ Q0 : VK, t σ H Q0 ∧ ∀ x H1, Q0 x H1 → Q x H1) :=
  ⟨fun pins s σ H Q I ⟨Q0, h0, k⟩ => thn (h.run pins s σ H Q0 I h0) fun u s1 ⟨v, H1, I1, r, q⟩ => ⟨v, H1, I1, r, k _ _ q⟩⟩
section
variable {P : Program} {w : World} {K : PySem.W.Frag} {mg : Str → Option Value} {base : Heap}
theorem ok_inv (T : Txt K mg) : FnOk P w K mg base CX0 1 T.f_InvalidNumber_init_d T.d_InvalidNumber_init_d ["self", "value"] (spInv T.C_InvalidNumber) := by
  refine T.F_InvalidNumber_init_d.ok sc_InvalidNumber_init_d (fun vs H Q E h => ?_) (fun cdv A outer s H vs Q E hr h => ?_)
  · obtain ⟨a, v, rfl, _⟩ := h; rfl
  · obtain ⟨a, v, rfl, ha, k⟩ := h
    refine ⟨_, pss_one (ps_ost (pv 0) (pv 1)), ?_⟩
    exact ⟨_, rfl, _, rfl, a, T.C_InvalidNumber, rfl, T.ox_InvalidNumber, T.n_InvalidNumber_value, .inl ⟨ha, k⟩⟩
/-- raise InvalidNumber(e) -/
theorem ps_bad {X : Cx} {W : WX} {e : Expr} {te : TE} {p pos pos2 : Pos} (T : Txt X.K X.mg) (hr : Room 2 X.A) (hc : X.calm = true) (tk : Takes X W) (he : PE X e te) (hg : Gl X "InvalidNumber" := by rfl)
    (hs : starEach (e :: []) X.env = (false, eval e X.env) :: starEach [] X.env := by rfl) :
    PS X (.Raise (some (.Call (.Name "InvalidNumber" p) [e] [] pos)) none pos2) (fun _ σ H => te σ H fun v H1 => ∀ d H', Same H1 H' → H' d = some (.xd [("value", v)]) → W (.ref T.C_InvalidNumber) (some d) σ H') := by
  refine ⟨fun pins s σ H D I h => ?_⟩
  refine (ps_raise (W := W) hc tk (pmk_oex (CX := CX0) (dvs := []) T.ox_InvalidNumber T.m_InvalidNumber_init_d.at_ T.t_InvalidNumber_init_d (ok_inv T) hr T.B_InvalidNumber_init_d .nil (fun _ _ _ _ _ _ _ z => z.elim) hg T.g_InvalidNumber (pa_cons (pe_wk he) pa_nil hs) (he := hs))).run pins s σ H D I ?_
  refine ⟨_, h, fun v H1 q => ⟨by show 1 ≤ 1000; decide, fun a na => ⟨a, v, rfl, upd_same, fun dx nx ne => ⟨rfl, dx, [("value", v)], upd_same, by rw [upd_ne ne, upd_same], ?_, ?_⟩⟩⟩⟩
  · rwa [upd_ne ne] at nx
  · have nd : H1 dx = none := by rwa [upd_ne ne] at nx
    refine q dx _ (fun b o e => ?_) upd_same
    rw [upd_ne (ne_of_none e nd), del_ne (ne_of_none e na), upd_ne (ne_of_none e na), upd_ne (ne_of_none e nd), upd_ne (ne_of_none e na)]
    exact e

/-! ### arguments bound -/
theorem Binds.kbn {fd : FuncData} {ps : List Str} {n : Nat} (B : Binds K fd ps []) (hn : ps.length = n) : KBn K fd ps n [] (fun us _ => us) (fun vs _ => vs) :=
  ⟨fun s us ws X l1 l2 => by have z := B s us X (by simpa [hn] using l1); simpa using z, fun r _ => r⟩
/-- Ratio(top, bottom), Ratio(top), Ratio(bottom = .., top = ..) -/
theorem kb_init2 (T : Txt K mg) : ∃ its : List Value, KBn K T.d_Ratio_init_d ["self", "top", "bottom"] 3 [] (fun us _ => us) (fun vs _ => vs) := by
  obtain ⟨its, h⟩ := FunD.kbindsD T.F_Ratio_init_d (ps := ["self", "top", "bottom"]) 3 [] (fun us _ _ => us) (by decide) (fun r _ _ => r) (fun Tt kV doc pm an cdv ct us its ws l1 l2 l3 => by
    match us, its, ws, l1, l2, l3 with
    | [a, b, c], [i], [], _, _, _ => exact ⟨_, rfl, rfl⟩)
  exact ⟨its, h⟩
theorem kb_init1 (T : Txt K mg) : ∃ its : List Value, KBn K T.d_Ratio_init_d ["self", "top", "bottom"] 2 [] (fun us _ => us ++ its) (fun vs _ => vs ++ [V.int 1]) := by
  obtain ⟨its, h⟩ := FunD.kbindsD T.F_Ratio_init_d (ps := ["self", "top", "bottom"]) 2 [] (fun us its _ => us ++ its) (by decide) (fun r r2 _ => r.append r2) (fun Tt kV doc pm an cdv ct us its ws l1 l2 l3 => by
    match us, its, ws, l1, l2, l3 with
    | [a, b], [i], [], _, _, _ => exact ⟨_, rfl, rfl⟩)
  exact ⟨its, h⟩
theorem kb_initK (T : Txt K mg) : ∃ its : List Value, KBn K T.d_Ratio_init_d ["self", "top", "bottom"] 1 ["bottom", "top"] (fun us ws => us ++ ws.reverse) (fun vs zs => vs ++ zs.reverse) := by
  obtain ⟨its, h⟩ := FunD.kbindsD T.F_Ratio_init_d (ps := ["self", "top", "bottom"]) 1 ["bottom", "top"] (fun us _ ws => us ++ ws.reverse) (by decide) (fun {vs ds zs us its ws} r _ r3 => r.append (vals_rev r3)) (fun Tt kV doc pm an cdv ct us its ws l1 l2 l3 => by
    match us, its, ws, l1, l2, l3 with
    | [a], [i], [x, y], _, _, _ => exact ⟨_, rfl, rfl⟩)
  exact ⟨its, h⟩

/-! ### Ratio's defs -/
theorem lenU {u : Int} {n : Nat} (h : u.natAbs < 2 ^ n) (h0 : 0 < n) (h9 : n ≤ 9000) : u.natAbs.log2 < 9000 := Nat.lt_of_lt_of_le (PySem.Flt.log2_lt_of h0 h) h9
theorem ok_init (T : Txt K mg) : FnOk P w K mg base (L2.CX P w) 3 T.f_Ratio_init_d T.d_Ratio_init_d ["self", "top", "bottom"] (spInit T.C_Ratio T.C_InvalidNumber) := by
  refine T.F_Ratio_init_d.ok sc_Ratio_init_d (fun vs H Q E h => ?_) (fun cdv A outer s H vs Q E hr h => ?_)
  · obtain ⟨p, dx, u, l, rfl, _⟩ := h; rfl
  · obtain ⟨p, dx, u, l, rfl, hp, bl, k1, k0⟩ := h
    refine ⟨_, pss_cons (ps_if (pt_cmpR op_eq (pv 2) pe_int (nomark _)) (pss_one (ps_bad (W := fun cls d _ H' => E cls d H') T hr rfl (takes_of rfl rfl rfl rfl) pe_int)) pss_nil)
      (pss_cons (ps_set (i := 3) sc_Ratio_init_d.nd rfl (.inl rfl) (pe_callBfun cr_gcd (by rfl) T.g_gcd (pa_cons (pv 1) (pa_cons (pv 2) pa_nil))))
      (pss_cons (ps_if (pt_cmpR op_lt (pv 2) pe_int (nomark _)) (pss_one (ps_set (i := 3) sc_Ratio_init_d.nd rfl (.inl rfl) (pe_un un_neg (pv 3)))) pss_nil)
      (pss_cons (ps_fld (pv 0) (pe_op op_fdivX (pv 1) (pv 3)) rfl) (pss_one (ps_fld (pv 0) (pe_op op_fdivX (pv 2) (pv 3)) rfl))))), ?_⟩
    refine ⟨_, rfl, rfl, _, rfl, ?_⟩
    refine ite2 (fun c => ?_) (fun c => ?_)
    · have e : l = 0 := by have := of_decide_eq_true c; injection this
      exact k0 e
    · have nz : l ≠ 0 := fun e => c (by rw [e]; exact decide_eq_true rfl)
      have fin : ∀ g : Int, g ≠ 0 → g.natAbs ≤ l.natAbs → u.fdiv g = lo1 u l ∧ l.fdiv g = lo2 u l → sFld K (tVar 0) (tOp (rI CDivX fun i j => .int (i.fdiv j)) (tVar 1) (tVar 3)) "top" { nx := sFld K (tVar 0) (tOp (rI CDivX fun i j => .int (i.fdiv j)) (tVar 2) (tVar 3)) "bottom" { nx := fun _ H' => Q .non H', rt := Q }, rt := Q } [some (.ref p), some (.int u), some (.int l), some (.int g)] H := by
        rintro g gnz gle ⟨e1, e2⟩
        have cd : g ≠ 0 ∧ g.natAbs.log2 < 9000 := ⟨gnz, lenU (Nat.lt_of_le_of_lt gle bl) (by decide) (by decide)⟩
        refine ⟨_, rfl, _, rfl, _, _, rfl, rfl, cd, _, rfl, p, T.C_Ratio, dx, [], rfl, hp, T.cl_Ratio, T.n_Ratio_top, by decide, ?_⟩
        refine ⟨_, rfl, _, rfl, _, _, rfl, rfl, cd, _, rfl, p, T.C_Ratio, dx, _, rfl, upd_same, T.cl_Ratio, T.n_Ratio_bottom, (by show 1 < 1000; decide), ?_⟩
        show Q .non (upd (upd H p _) p (.ins T.C_Ratio dx (putF "bottom" (.int (l.fdiv g)) (putF "top" (.int (u.fdiv g)) []))))
        rw [upd_upd, e1, e2, rfs_put]
        exact k1 nz
      refine ⟨_, rfl, _, rfl, _, _, rfl, ?_⟩
      refine ⟨_, rfl, _, _, rfl, rfl, _, rfl, ?_⟩
      refine ite2 (fun c2 => ?_) (fun c2 => ?_)
      · have neg : l < 0 := of_decide_eq_true c2
        have gp := gc_pos (u := u) nz
        have gl := gc_le (u := u) nz
        refine ⟨_, rfl, _, rfl, ?_⟩
        exact fin (-gc u l) (by omega) (by omega) (lo_neg neg)
      · have pos : 0 < l := by have : ¬ l < 0 := fun z => c2 (decide_eq_true z); omega
        have gp := gc_pos (u := u) nz
        have gl := gc_le (u := u) nz
        exact fin (gc u l) (by omega) (by omega) (lo_pos pos)

/-! isinstance -/
theorem kit_ref {C : Addr} (Ty : TyC K C) {t : String} {b : Bool} (h : PySem.W.subIn K (.type t) (.ref C) = some b) : PySem.W.kitOne K (.type t) (.ref C) = some b := by
  have e : ((PySem.W.clsIn K C).isSome && PySem.W.typeIn K (.ref C) == some (.type "type")) = true := by
    rw [show (PySem.W.clsIn K C).isSome = true from Ty.ic, Ty.ty]
    exact beq_self_eq_true _
  show (if (Value.type t == Value.ref C) = true then some true else if ((PySem.W.clsIn K C).isSome && PySem.W.typeIn K (.ref C) == some (.type "type")) = true then PySem.W.subIn K (.type t) (.ref C) else none) = some b
  rw [if_neg (by simp), if_pos e, h]
theorem kit_self {C : Addr} : PySem.W.kitOne K (.ref C) (.ref C) = some true := if_pos (beq_self_eq_true _)
theorem kit_of_own {C : Addr} {t : String} {b : Bool} (hm : PySem.W.kitMeta t = true) (h : PySem.W.subIn K (.ref C) (.type t) = some b) : PySem.W.kitOne K (.ref C) (.type t) = some b := by
  show (if (Value.ref C == Value.type t) = true then some true else if PySem.W.kitMeta t = true then PySem.W.subIn K (.ref C) (.type t) else none) = some b
  rw [if_neg (by simp), if_pos hm, h]
theorem tyx_ins {C a dx : Addr} {fs : List (Str × V)} {H : Hp} (cl : Cls K C) (Ty : TyC K C) (e : H a = some (.ins C dx fs)) : TyX K H (.ref a) (.ref C) := .base (.ins e cl Ty.at_.1 Ty.at_.2.1 Ty.at_.2.2.1 Ty.at_.2.2.2)
theorem any2 {t c d : Value} {a b : Bool} (h1 : PySem.W.kitOne K t c = some a) (h2 : PySem.W.kitOne K t d = some b) : PySem.W.kitAny K t [c, d] = some (a || b) := by
  unfold PySem.W.kitAny
  rw [h1]
  cases a with
  | true => rfl
  | false =>
    show PySem.W.kitAny K t [d] = some b
    unfold PySem.W.kitAny
    rw [h2]
    cases b <;> rfl
theorem ok_num (T : Txt K mg) : FnOk P w K mg base CX0 1 T.f_is_number T.d_is_number ["value"] (spNum T.C_Ratio) := by
  refine T.F_is_number.ok sc_is_number (fun vs H Q E h => ?_) (fun cdv A outer s H vs Q E hr h => ?_)
  · obtain ⟨v, b, rfl, _⟩ := h; rfl
  · obtain ⟨v, b, rfl, hn, k⟩ := h
    refine ⟨_, pss_one (ps_ret (pe_and (pe_callB call_isiT (by rfl) T.b_isinstance (by decide +kernel) (pa_cons (pv 0) (pa_cons (pe_tup (pa_cons (pe_bltn (v := .ty "int") (u := .type "int") (by rfl) T.b_int (by decide +kernel) rfl) (pa_cons (pe_glob (v := .ref T.C_Ratio) (by rfl) T.g_Ratio rfl) pa_nil))) pa_nil)))
      (pe_one (pe_not (pe_callB call_isi (by rfl) T.b_isinstance (by decide +kernel) (pa_cons (pv 0) (pa_cons (pe_bltn (v := .ty "bool") (u := .type "bool") (by rfl) T.b_bool (by decide +kernel) rfl) pa_nil))))))), ?_⟩
    refine ⟨_, rfl, (by show 2 ≤ sizeLine; decide), fun p hp => ?_⟩
    have sm : Same H (upd H p (.tup [.ty "int", .ref T.C_Ratio])) := same_upd hp
    have two : Paired ClsV [V.ty "int", V.ref T.C_Ratio] [Value.type "int", Value.ref T.C_Ratio] := .cons (.ty _) (.cons (.own _) .nil)
    -- from the value's type, whether it is one of the two classes, whether a bool
    have go : ∀ (t : Value) (a c : Bool), TyX K (upd H p (.tup [.ty "int", .ref T.C_Ratio])) v t → PySem.W.kitAny K t [.type "int", .ref T.C_Ratio] = some a → (a = true → PySem.W.kitOne K t (.type "bool") = some c) → b = (a && !c) →
        rIsiT K [v, .ref p] (upd H p (.tup [.ty "int", .ref T.C_Ratio])) (fun x H1 => ∃ c, x = .bl c ∧ if c = true then tNotV (tCB (rIsi K) (tCons (tVar 0) (tCons (tC (.ty "bool")) tNil))) [some v] H1 Q else Q (.bl false) H1) := by
      intro t a c ty h1 h2 hb
      refine ⟨v, p, _, t, _, a, rfl, upd_same, two, ty, h1, a, rfl, ?_⟩
      cases a with
      | false => exact iteF (by rw [hb] at k; exact k _ sm)
      | true =>
        refine iteT ⟨_, rfl, v, _, t, _, c, rfl, .ty _, ty, h2 rfl, c, rfl, ?_⟩
        rw [hb] at k
        exact k _ sm
    rcases hn with ⟨rfl, ⟨i, rfl⟩ | ⟨q, dx, fs, rfl, e⟩⟩ | ⟨rfl, ⟨x, rfl⟩ | ⟨z, rfl⟩ | rfl | ⟨q, xs, rfl, e⟩⟩
    · exact go (.type "int") true false (.base (.int i)) (any2 (kit_ty (b := "int") (r := true) (by decide +kernel)) (kit_ref T.tc_Ratio T.st_Ratio_int)) (fun _ => kit_ty (by decide +kernel)) rfl
    · exact go (.ref T.C_Ratio) true false (tyx_ins T.cl_Ratio T.tc_Ratio (sm _ _ e)) (any2 (kit_of_own (t := "int") (by decide +kernel) T.su_Ratio_int) kit_self) (fun _ => kit_of_own (t := "bool") (by decide +kernel) T.su_Ratio_bool) rfl
    · exact go (.type "bool") true true (.base (.bl x)) (any2 (kit_ty (b := "int") (r := true) (by decide +kernel)) (kit_ref T.tc_Ratio T.st_Ratio_bool)) (fun _ => kit_ty (by decide +kernel)) rfl
    · exact go (.type "str") false false (.base (.str z)) (any2 (kit_ty (b := "int") (r := false) (by decide +kernel)) (kit_ref T.tc_Ratio T.st_Ratio_str)) (fun q => nomatch q) rfl
    · exact go (.type "NoneType") false false (.base .non) (any2 (kit_ty (b := "int") (r := false) (by decide +kernel)) (kit_ref T.tc_Ratio T.st_Ratio_NoneType)) (fun q => nomatch q) rfl
    · exact go (.type "tuple") false false (.base (.tup (sm _ _ e))) (any2 (kit_ty (b := "int") (r := false) (by decide +kernel)) (kit_ref T.tc_Ratio T.st_Ratio_tuple)) (fun q => nomatch q) rfl

theorem small1 : (1 : Int).natAbs < 2 ^ 8000 := show 1 < 2 ^ 8000 from Nat.one_lt_two_pow (by omega)
/-- Ratio(u, l) from a heap, by the promise of __init__ -/
theorem made_of {C CI : Addr} {H : Hp} {Q : VK} {E : XK} {u l : Int} (bl : l.natAbs < 2 ^ 8000) (k1 : l ≠ 0 → GotR C H Q (lo1 u l) (lo2 u l)) (k0 : l = 0 → Bad CI (.int 0) H E) :
    ∀ x dx, H x = none → H dx = none → dx ≠ x → spInit C CI [.ref x, .int u, .int l] (upd (upd H dx (.own x)) x (.ins C dx [])) (fun v H3 => v = .non ∧ Q (.ref x) H3) E := by
  intro x dx nx ndx ne
  have sm : Same H (upd (upd H dx (.own x)) x (.ins C dx [])) := fun b o e => by
    rw [upd_ne (ne_of_none e nx), upd_ne (ne_of_none e ndx)]; exact e
  refine ⟨x, dx, u, l, rfl, upd_same, bl, fun nz => ⟨rfl, k1 nz x _ (fun b o e => ?_) ⟨dx, upd_same⟩⟩, fun z d H' s' e => k0 z d H' (sm.trans s') e⟩
  rw [upd_ne (ne_of_none e nx)]
  exact sm _ _ e
theorem made_at {C CI : Addr} {H : Hp} {Q' : VK} {E : XK} {u l : Int} (bl : l.natAbs < 2 ^ 8000) (nz : l ≠ 0) {x dx : Addr} (nx : H x = none) (ndx : H dx = none)
    (k : ∀ H', Same H H' → RatAt C H' x (lo1 u l) (lo2 u l) → Q' .non H') : spInit C CI [.ref x, .int u, .int l] (upd (upd H dx (.own x)) x (.ins C dx [])) Q' E := by
  have sm : Same H (upd (upd H dx (.own x)) x (.ins C dx [])) := fun b o e => by
    rw [upd_ne (ne_of_none e nx), upd_ne (ne_of_none e ndx)]; exact e
  exact ⟨x, dx, u, l, rfl, upd_same, bl, fun _ => k _ (fun b o e => by rw [upd_ne (ne_of_none e nx)]; exact sm _ _ e) ⟨dx, upd_same⟩, fun z => absurd z nz⟩
theorem made_bad {C CI : Addr} {H : Hp} {Q' : VK} {E : XK} {u : Int} (k0 : Bad CI (.int 0) H E) {x dx : Addr} (nx : H x = none) (ndx : H dx = none) :
    spInit C CI [.ref x, .int u, .int 0] (upd (upd H dx (.own x)) x (.ins C dx [])) Q' E := by
  have sm : Same H (upd (upd H dx (.own x)) x (.ins C dx [])) := fun b o e => by
    rw [upd_ne (ne_of_none e nx), upd_ne (ne_of_none e ndx)]; exact e
  exact ⟨x, dx, u, 0, rfl, upd_same, Nat.lt_trans (by decide) small1, fun nz => absurd rfl nz, fun _ d H' s' e => k0 d H' (sm.trans s') e⟩
theorem num_isi (T : Txt K mg) {H : Hp} {v : V} (h : NumB T.C_Ratio H v false) : ∃ t, TyX K H v (.type t) ∧ PySem.W.kitOne K (.type t) (.ref T.C_Ratio) = some false := by
  rcases h with ⟨z, _⟩ | ⟨_, ⟨x, rfl⟩ | ⟨z, rfl⟩ | rfl | ⟨q, xs, rfl, e⟩⟩
  · cases z
  · exact ⟨"bool", .base (.bl x), kit_ref T.tc_Ratio T.st_Ratio_bool⟩
  · exact ⟨"str", .base (.str z), kit_ref T.tc_Ratio T.st_Ratio_str⟩
  · exact ⟨"NoneType", .base .non, kit_ref T.tc_Ratio T.st_Ratio_NoneType⟩
  · exact ⟨"tuple", .base (.tup e), kit_ref T.tc_Ratio T.st_Ratio_tuple⟩
theorem ok_of (T : Txt K mg) : FnOk P w K mg base (L2.CX P w) 5 T.f_Ratio_of T.d_Ratio_of ["cls", "value"] (spOf T.C_Ratio T.C_InvalidNumber) := by
  obtain ⟨its, kb⟩ := kb_init1 T
  refine T.F_Ratio_of.okX sc_Ratio_of (fun vs H Q E h => ?_) (fun cdv A outer s H vs Q E hr h => ?_)
  · obtain ⟨v, rfl, _⟩ := h; rfl
  · obtain ⟨v, rfl, h⟩ := h
    refine ⟨_, pss_cons (ps_if (pt_val (pe_callB call_isi (by rfl) T.b_isinstance (by decide +kernel) (pa_cons (pv 1) (pa_cons (pe_glob (v := .ref T.C_Ratio) (by rfl) T.g_Ratio rfl) pa_nil)))) (pss_one (ps_ret (pv 1))) pss_nil)
      (pss_cons (ps_if (pt_not (pt_val (pe_f (E := fun _ => E0) (ok_num T) (hr.mono (by decide)) (by rfl) T.g_is_number T.F_is_number.kp T.B_is_number (fun _ => at0) (pa_cons (pv 1) pa_nil)))) (pss_one (ps_bad (W := fun cls d _ H' => E cls d H') T (hr.mono (by decide)) rfl (takes_of rfl rfl rfl rfl) (pv 1))) pss_nil)
      (pss_one (ps_ret (pe_mkL (i := 0) (E := fun _ => E0) ⟨T.mk_Ratio, T.m_Ratio_init_d.at_, T.m_Ratio_init_d.fn, T.kp_Ratio⟩ (ok_init T) hr rfl (.inl rfl) kb (fun _ => atL) (pa_cons (pv 1) pa_nil))))), ?_⟩
    rcases h with ⟨i, rfl, k⟩ | ⟨p, a, b, rfl, ⟨dx, e⟩, k⟩ | ⟨hn, k⟩
    · refine ⟨_, rfl, _, _, .type "int", _, false, rfl, .own _, .base (.int i), kit_ref T.tc_Ratio T.st_Ratio_int, false, rfl, iteF ?_⟩
      refine ⟨_, rfl, _, true, rfl, .inl ⟨rfl, .inl ⟨i, rfl⟩⟩, fun H1 s1 => ⟨true, rfl, iteF ?_⟩⟩
      refine ⟨rfl, _, rfl, rfl, made_of small1 (fun _ => ?_) (fun z => absurd z (by decide))⟩
      rw [(lo_one i).1, (lo_one i).2]
      exact fun p H2 s2 r => k p H2 (s1.trans s2) r
    · refine ⟨_, rfl, _, _, .ref T.C_Ratio, _, true, rfl, .own _, tyx_ins T.cl_Ratio T.tc_Ratio e, kit_self, true, rfl, iteT ?_⟩
      exact ⟨_, rfl, k _ (Same.refl _)⟩
    · obtain ⟨t, ty, kt⟩ := num_isi T hn
      refine ⟨_, rfl, _, _, .type t, _, false, rfl, .own _, ty, kt, false, rfl, iteF ?_⟩
      exact ⟨_, rfl, v, false, rfl, hn, fun H1 s1 => ⟨false, rfl, iteT ⟨_, rfl, fun d H' s' e => k d H' (s1.trans s') e⟩⟩⟩

/-! texts of ratios -/
def tx (i : Int) : Str := Str.ofString (toString i)
theorem str_assoc (a b c : Str) : a ++ b ++ c = a ++ (b ++ c) := congrArg Str.mk (Array.append_assoc (xs := a.cps) (ys := b.cps) (zs := c.cps))
theorem str_nil (a : Str) : Str.empty ++ a = a := congrArg Str.mk (Array.empty_append (xs := a.cps))
theorem str_nil2 (a : Str) : a ++ Str.empty = a := congrArg Str.mk (Array.append_empty (xs := a.cps))
theorem str_len (a b : Str) : (a ++ b).length = a.length + b.length := Array.size_append (xs := a.cps) (ys := b.cps)
theorem tx_len {i : Int} (h : i.natAbs.log2 < 1920) : (tx i).length ≤ 1921 := PyProof.Rows.int_text_len_1921 h
def ratTx (a b : Int) : Str := if b = 1 then tx a else tx a ++ "/" ++ tx b
def ratRp (a b : Int) : Str := "Ratio(" ++ tx a ++ ", " ++ tx b ++ ")"
def Sm (i : Int) : Prop := i.natAbs.log2 < 1920
def spStr (C : Addr) : Sp := fun vs H Q _ => ∃ p a b, vs = [.ref p] ∧ RatAt C H p a b ∧ Sm a ∧ Sm b ∧ Q (.str (ratTx a b)) H
def spRepr (C : Addr) : Sp := fun vs H Q _ => ∃ p a b, vs = [.ref p] ∧ RatAt C H p a b ∧ Sm a ∧ Sm b ∧ Q (.str (ratRp a b)) H
def spWhole (C : Addr) : Sp := fun vs H Q _ => ∃ p a b, vs = [.ref p] ∧ RatAt C H p a b ∧ Q (.bl (decide (b = 1))) H
def spFloor (C : Addr) : Sp := fun vs H Q _ => ∃ p a b, vs = [.ref p] ∧ RatAt C H p a b ∧ b ≠ 0 ∧ b.natAbs.log2 < 9000 ∧ Q (.int (a.fdiv b)) H
def spBool (C : Addr) : Sp := fun vs H Q _ => ∃ p a b, vs = [.ref p] ∧ RatAt C H p a b ∧ Q (.bl (a != 0)) H
theorem line_le {n : Nat} (h : n ≤ 10000) : n ≤ sizeLine := Nat.le_trans h (by rw [sizeLine_eq]; decide)
theorem ok_whole (T : Txt K mg) : FnOk P w K mg base CX0 1 T.f_Ratio_is_whole T.d_Ratio_is_whole ["self"] (spWhole T.C_Ratio) := by
  refine T.F_Ratio_is_whole.ok sc_Ratio_is_whole (fun vs H Q E ⟨_, _, _, e, _⟩ => by rw [e]; rfl) (fun cdv A outer s H vs Q E hr h => ?_)
  obtain ⟨p, a, b, rfl, ⟨dx, e⟩, k⟩ := h
  refine ⟨_, pss_one (ps_ret (pe_cmpR op_eq (pe_fld (pv 0) rfl) pe_int (nomark _))), ?_⟩
  refine ⟨_, rfl, p, _, dx, _, _, rfl, e, T.cl_Ratio, T.n_Ratio_bottom, rfs_bot a b, rfl, ?_⟩
  have q : decide (V.int b = V.int 1) = decide (b = 1) := by simp
  show Q (.bl (decide (V.int b = V.int 1))) H
  rw [q]
  exact k
theorem ok_floor (T : Txt K mg) : FnOk P w K mg base CX0 1 T.f_Ratio_floor T.d_Ratio_floor ["self"] (spFloor T.C_Ratio) := by
  refine T.F_Ratio_floor.ok sc_Ratio_floor (fun vs H Q E ⟨_, _, _, e, _⟩ => by rw [e]; rfl) (fun cdv A outer s H vs Q E hr h => ?_)
  obtain ⟨p, a, b, rfl, ⟨dx, e⟩, nz, sz, k⟩ := h
  refine ⟨_, pss_one (ps_ret (pe_op op_fdivX (pe_fld (pv 0) rfl) (pe_fld (pv 0) rfl))), ?_⟩
  exact ⟨_, rfl, p, _, dx, _, _, rfl, e, T.cl_Ratio, T.n_Ratio_top, rfs_top a b, _, rfl, p, _, dx, _, _, rfl, e, T.cl_Ratio, T.n_Ratio_bottom, rfs_bot a b, _, _, rfl, rfl, ⟨nz, sz⟩, k⟩
end

/-! ### the law's own helpers: draws -/
/-- a box: what is left of a great cell, the seed, the count -/
def BoxL (n s c : Int) : HO := .lst [.int n, .int s, .int c]
def BoxAt (H : Hp) (p : Addr) : Prop := ∃ n s c : Int, H p = some (BoxL n s c) ∧ 0 ≤ n ∧ 0 ≤ s ∧ s < 2147483648
def spBox (K : PySem.W.Frag) : Sp := fun vs H Q _ => ∃ (a : Addr) (ns : List Int) (k : Int), vs = [.ref a, .int k] ∧ SqL K H a (ns.map V.int) ∧ 0 ≤ k ∧ ∀ p H', H p = none → Same H H' → BoxAt H' p → Q (.ref p) H'
/-- a digit is drawn; the box alone changes -/
def spTake : Sp := fun vs H Q _ => ∃ (p : Addr) (m : Int), vs = [.ref p, .int m] ∧ BoxAt H p ∧ 0 < m ∧ m < 1073741824 ∧ ∀ d n s c : Int, 0 ≤ d → d < m → BoxAt (upd H p (BoxL n s c)) p → Q (.int d) (upd H p (BoxL n s c))
theorem at_ints {ns : List Int} {i : Int} (h0 : 0 ≤ i) (h1 : i < (ns.length : Int)) : ∃ z, atI (ns.map V.int) i = some (V.int z) := by
  obtain ⟨j, rfl⟩ : ∃ j : Nat, i = (j : Int) := ⟨i.toNat, by omega⟩
  have hj : j < ns.length := by omega
  exact ⟨ns[j], atI_nat (by rw [List.getElem?_map, List.getElem?_eq_getElem hj]; rfl)⟩
section
variable {P : Program} {w : World} {K : PySem.W.Frag} {mg : Str → Option Value} {base : Heap}
theorem ok_box (T : Txt K mg) : FnOk P w K mg base CX0 1 T.f_lw_box T.d_lw_box ["_law_script", "_law_k"] (spBox K) := by
  refine T.F_lw_box.ok sc_lw_box (fun vs H Q E ⟨_, _, _, e, _⟩ => by rw [e]; rfl) (fun cdv A outer s H vs Q E hr h => ?_)
  obtain ⟨a, ns, k, rfl, hS, h0, fin⟩ := h
  refine ⟨_, pss_cons (ps_set (i := 2) sc_lw_box.nd rfl (.inl rfl) (pe_op op_add (pe_op op_mul pe_int (pv 1)) pe_int))
    (C8.pss_cut (ps_if (pt_cmpR op_lt (pv 1) (pe_callB call_len_seq (by rfl) T.b_len PySem.boot_len (pa_cons (pv 0) pa_nil)) (nomark _))
        (pss_one (ps_set (i := 2) sc_lw_box.nd rfl (.inl rfl) (pe_ix ix_list (pv 0) (pv 1) (fun _ _ => rfl))))
        (pss_one (ps_if (pt_cmpR op_gt (pe_callB call_len_seq (by rfl) T.b_len PySem.boot_len (pa_cons (pv 0) pa_nil)) pe_int (nomark _))
          (pss_one (ps_set (i := 2) sc_lw_box.nd rfl (.inl rfl) (pe_op op_add (pv 2) (pe_op op_mulW (pe_op op_mod (pe_ix ix_list (pv 0) (pe_op op_mod (pv 1) (pe_callB call_len_seq (by rfl) T.b_len PySem.boot_len (pa_cons (pv 0) pa_nil))) (fun _ _ => rfl)) pe_int) pe_int))))
          pss_nil)))
    (pss_cons (ps_set (i := 3) sc_lw_box.nd rfl (.inl rfl) (pe_op op_add (pe_op op_mod (pe_op op_add (pe_op op_mulW (pe_op op_mod (pv 2) pe_int) pe_int) (pe_op op_mul pe_int (pv 1))) pe_int) pe_int))
    (pss_one (ps_ret (pe_lst (pa_cons (pe_ix ix_list (pe_lst (pa_cons pe_int (pa_cons (pv 2) pa_nil))) (pe_callTy call_int1 (by rfl) T.b_int (by decide +kernel) (pa_cons (pe_cmpR op_ge (pv 2) (pe_op op_pow pe_int pe_int) (nomark _)) pa_nil)) (fun _ _ => rfl)) (pa_cons (pv 3) (pa_cons pe_int pa_nil)))))))), ?_⟩
  have small : ∀ {x y : Int}, 0 ≤ x → x < 4294967296 → y.natAbs < 2 ^ 32 → CMulW x y := fun {x y} h1 h2 h3 => wide_mul (a := 32) (b := 32) (by omega) h3 (by decide) (by decide) (by decide)
  refine ⟨_, rfl, _, _, rfl, rfl, .inl ⟨by decide, by decide⟩, _, _, rfl, rfl, ?_⟩
  refine ⟨fun σ' H' => H = H' ∧ ∃ c : Int, σ' = [some (.ref a), some (.int k), some (.int c), none], ?_, ?_⟩
  · refine ⟨_, rfl, _, rfl, a, _, rfl, .inl hS, _, _, rfl, rfl, _, rfl, ?_⟩
    refine ite2 (fun c => ?_) (fun c => ?_)
    · have lt : k < (ns.length : Int) := by have z := of_decide_eq_true c; rw [List.length_map] at z; exact z
      obtain ⟨z, hz⟩ := at_ints h0 lt
      exact ⟨_, rfl, _, rfl, a, _, _, _, rfl, rfl, hS, hz, rfl, z, rfl⟩
    · refine ⟨_, rfl, a, _, rfl, .inl hS, _, _, rfl, rfl, _, rfl, ?_⟩
      refine ite2 (fun c2 => ?_) (fun c2 => ⟨rfl, _, rfl⟩)
      have pos : 0 < ((ns.map V.int).length : Int) := of_decide_eq_true c2
      have e := Int.emod_nonneg k (b := ((ns.map V.int).length : Int)) (by omega)
      have e2 := Int.emod_lt_of_pos k pos
      obtain ⟨z, hz⟩ := at_ints (ns := ns) (i := k % ((ns.map V.int).length : Int)) e (by rw [List.length_map] at e2 ⊢; exact e2)
      refine ⟨_, rfl, _, rfl, _, rfl, _, rfl, a, _, rfl, .inl hS, _, _, rfl, rfl, pos, a, _, _, _, rfl, rfl, hS, hz, _, _, rfl, rfl, (by show (0 : Int) < 2147483629; decide), _, _, rfl, rfl, ?_, _, _, rfl, rfl, rfl, _, rfl⟩
      exact small (Int.emod_nonneg _ (by decide)) (Int.lt_trans (Int.emod_lt_of_pos _ (by decide)) (by decide)) (by decide)
  · rintro _ _ ⟨rfl, c, rfl⟩
    refine ⟨_, rfl, _, _, rfl, rfl, (by show (0 : Int) < 2147483629; decide), _, _, rfl, rfl, ?_, _, rfl, _, _, rfl, rfl, .inl ⟨by decide, by decide⟩, _, _, rfl, rfl, _, _, rfl, rfl, (by show (0 : Int) < 2147483629; decide), _, _, rfl, rfl, ?_⟩
    · exact small (Int.emod_nonneg _ (by decide)) (Int.lt_trans (Int.emod_lt_of_pos _ (by decide)) (by decide)) (by decide)
    have s0 := Int.emod_nonneg (c % 2147483629 * 48271 + 40699 * k) (b := 2147483629) (by decide)
    have s1 := Int.emod_lt_of_pos (c % 2147483629 * 48271 + 40699 * k) (b := 2147483629) (by decide)
    generalize (c % 2147483629 * 48271 + 40699 * k) % 2147483629 = sd at s0 s1
    refine ⟨_, rfl, (by show 2 ≤ sizeLine; decide), fun q hq => ?_⟩
    refine ⟨_, rfl, _, _, rfl, rfl, ⟨by decide, by decide, by decide⟩, _, _, rfl, rfl, .inr ⟨_, rfl, ?_⟩⟩
    have done : ∀ n : Int, 0 ≤ n → tCons (tVar 3) (tCons (tC (.int 0)) tNil) [some (.ref a), some (.int k), some (.int c), some (.int (sd + 1))] (upd H q (.lst [.int 0, .int c])) (fun xs H2 => (V.int n :: xs).length ≤ sizeLine ∧ ∀ p, H2 p = none → Q (.ref p) (upd H2 p (.lst (V.int n :: xs)))) := by
      intro n hn
      refine ⟨_, rfl, (by show 3 ≤ sizeLine; decide), fun p hp => fin p _ ?_ ?_ ⟨n, sd + 1, 0, upd_same, hn, by omega, by omega⟩⟩
      · exact (same_upd hq).free hp
      · exact (same_upd hq).trans (same_upd hp)
    by_cases g : (10 : Int) ^ (18 : Int).toNat ≤ c
    · rw [decide_eq_true g]
      refine ⟨q, [.int 0, .int c], 1, .int c, rfl, rfl, SqL.of upd_same, rfl, done c (Int.le_trans (by decide) g)⟩
    · rw [decide_eq_false g]
      exact ⟨q, [.int 0, .int c], 0, .int 0, rfl, rfl, SqL.of upd_same, rfl, done 0 (by decide)⟩

theorem ok_take (T : Txt K mg) : FnOk P w K mg base CX0 1 T.f_lw_take T.d_lw_take ["_law_box_here", "_law_many"] spTake := by
  refine T.F_lw_take.ok sc_lw_take (fun vs H Q E ⟨_, _, e, _⟩ => by rw [e]; rfl) (fun cdv A outer s H vs Q E hr h => ?_)
  obtain ⟨p, m, rfl, ⟨n, sd, c, hb, n0, s0, s1⟩, m0, m1, fin⟩ := h
  refine ⟨_, pss_cons (ps_if (pt_cmpR op_gt (pe_ix ix_list (pv 0) pe_int (fun _ _ => rfl)) pe_int (nomark _))
      (pss_cons (ps_set (i := 2) sc_lw_take.nd rfl (.inl rfl) (pe_op op_mod (pe_ix ix_list (pv 0) pe_int (fun _ _ => rfl)) (pv 1)))
        (pss_cons (ps_asg (pe_op op_fdivX (pe_ix ix_list (pv 0) pe_int (fun _ _ => rfl)) (pv 1)) (pg_sub (pv 0) pe_int set_list)) (pss_one (ps_ret (pv 2))))) pss_nil)
    (pss_cons (ps_asg (pe_op op_add (pe_ix ix_list (pv 0) pe_int (fun _ _ => rfl)) pe_int) (pg_sub (pv 0) pe_int set_list))
    (pss_cons (ps_set (i := 3) sc_lw_take.nd rfl (.inl rfl) (pe_op op_mod (pe_op op_mul (pe_op op_add (pe_ix ix_list (pv 0) pe_int (fun _ _ => rfl)) (pe_op op_mul pe_int (pe_ix ix_list (pv 0) pe_int (fun _ _ => rfl)))) pe_int) pe_int))
    (pss_cons (ps_asg (pe_op op_add (pe_op op_mod (pe_op op_add (pe_op op_mul (pv 3) pe_int) pe_int) pe_int) pe_int) (pg_sub (pv 0) pe_int set_list))
    (pss_cons (ps_set (i := 4) sc_lw_take.nd rfl (.inl rfl) (pe_op op_add (pe_op op_mul (pv 3) pe_int) (pe_ix ix_list (pv 0) pe_int (fun _ _ => rfl))))
    (pss_one (ps_ret (pe_op op_mod (pe_ifExp (pt_cmpR op_gt (pv 1) (pe_op op_pow pe_int pe_int) (nomark _)) (pe_op op_fdiv (pe_op op_mul (pv 4) (pv 4)) pe_int) (pe_op op_fdiv (pv 4) pe_int)) (pv 1)))))))), ?_⟩
  have L0 : SqL K H p [.int n, .int sd, .int c] := SqL.of hb
  refine ⟨_, rfl, p, _, 0, .int n, rfl, rfl, L0, rfl, _, _, rfl, rfl, _, rfl, ?_⟩
  refine ite2 (fun g => ?_) (fun g => ?_)
  · have pos : 0 < n := of_decide_eq_true g
    refine ⟨_, rfl, p, _, 0, .int n, rfl, rfl, L0, rfl, _, rfl, _, _, rfl, rfl, m0, ?_⟩
    refine ⟨_, rfl, p, _, 0, .int n, rfl, rfl, L0, rfl, _, rfl, _, _, rfl, rfl, ⟨by omega, lenU (n := 30) (by omega) (by decide) (by decide)⟩, ?_⟩
    refine ⟨_, rfl, p, _, 0, 0, rfl, rfl, hb, rfl, ?_⟩
    refine ⟨_, rfl, fin (n % m) (n.fdiv m) sd c (Int.emod_nonneg _ (by omega)) (Int.emod_lt_of_pos _ m0) ⟨_, _, _, upd_same, ?_, s0, s1⟩⟩
    rw [Int.fdiv_eq_ediv_of_nonneg _ (by omega)]
    exact Int.ediv_nonneg n0 (by omega)
  · have z : n = 0 := by have : ¬ 0 < n := fun q => g (decide_eq_true q); omega
    refine ⟨_, rfl, p, _, 2, .int c, rfl, rfl, L0, rfl, _, _, rfl, rfl, _, rfl, p, _, 2, 2, rfl, rfl, hb, rfl, ?_⟩
    have L1 : SqL K (upd H p (.lst [.int n, .int sd, .int (c + 1)])) p [.int n, .int sd, .int (c + 1)] := SqL.of upd_same
    refine ⟨_, rfl, p, _, 1, .int sd, rfl, rfl, L1, rfl, _, rfl, p, _, 2, .int (c + 1), rfl, rfl, L1, rfl, _, _, rfl, rfl, .inl ⟨by decide, by decide⟩, _, _, rfl, rfl, _, _, rfl, rfl, .inr ⟨by decide, by decide⟩, _, _, rfl, rfl, (by show (0 : Int) < 2147483647; decide), ?_⟩
    have f0 := Int.emod_nonneg ((sd + 104743 * (c + 1)) * 69621) (b := 2147483647) (by decide)
    have f1 := Int.emod_lt_of_pos ((sd + 104743 * (c + 1)) * 69621) (b := 2147483647) (by decide)
    obtain ⟨fi, hfi⟩ : ∃ fi, fi = (sd + 104743 * (c + 1)) * 69621 % 2147483647 := ⟨_, rfl⟩
    rw [← hfi] at f0 f1
    have g0 := Int.emod_nonneg (fi * 48271 + 30107) (b := 2147483629) (by decide)
    have g1 := Int.emod_lt_of_pos (fi * 48271 + 30107) (b := 2147483629) (by decide)
    refine ⟨_, rfl, _, _, rfl, rfl, .inr ⟨by decide, by decide⟩, _, _, rfl, rfl, _, _, rfl, rfl, (by show (0 : Int) < 2147483629; decide), _, _, rfl, rfl, _, rfl, p, _, 1, 1, rfl, rfl, upd_same, rfl, ?_⟩
    obtain ⟨gi, hgi⟩ : ∃ gi, gi = (fi * 48271 + 30107) % 2147483629 := ⟨_, rfl⟩
    rw [← hgi] at g0 g1
    subst hfi
    have L2' : SqL K (upd (upd H p (.lst [.int n, .int sd, .int (c + 1)])) p (.lst [.int n, .int (gi + 1), .int (c + 1)])) p [.int n, .int (gi + 1), .int (c + 1)] := SqL.of upd_same
    subst hgi
    refine ⟨_, rfl, _, _, rfl, rfl, .inr ⟨by decide, by decide⟩, _, rfl, p, _, 1, _, rfl, rfl, L2', rfl, _, _, rfl, rfl, ?_⟩
    refine ⟨_, rfl, _, _, rfl, rfl, ⟨by decide, by decide, by decide⟩, _, _, rfl, rfl, _, rfl, ?_⟩
    have ret : ∀ d : Int, 0 ≤ d → d < m → Q (.int d) (upd (upd H p (.lst [.int n, .int sd, .int (c + 1)])) p (.lst [.int n, .int (((sd + 104743 * (c + 1)) * 69621 % 2147483647 * 48271 + 30107) % 2147483629 + 1), .int (c + 1)])) := by
      intro d d0 d1
      rw [upd_upd]
      exact fin d n _ (c + 1) d0 d1 ⟨_, _, _, upd_same, n0, by omega, by omega⟩
    refine ite2 (fun _ => ?_) (fun _ => ?_)
    · refine ⟨_, rfl, _, rfl, _, _, rfl, rfl, .inl ⟨by omega, by omega⟩, _, _, rfl, rfl, ⟨by decide, by decide⟩, _, rfl, _, _, rfl, rfl, m0, ret _ (Int.emod_nonneg _ (by omega)) (Int.emod_lt_of_pos _ m0)⟩
    · exact ⟨_, rfl, _, _, rfl, rfl, ⟨by decide, by decide⟩, _, rfl, _, _, rfl, rfl, m0, ret _ (Int.emod_nonneg _ (by omega)) (Int.emod_lt_of_pos _ m0)⟩

theorem gcd_step {x y : Int} (hx : 0 ≤ x) (hy : 0 < y) : Nat.gcd y.natAbs (x % y).natAbs = Nat.gcd x.natAbs y.natAbs := by
  have e : (x % y).natAbs = x.natAbs % y.natAbs := by
    have e1 : x = (x.natAbs : Int) := by omega
    have e2 : y = (y.natAbs : Int) := by omega
    rw [e1, e2]
    simp only [Int.natAbs_natCast]
    omega
  rw [e, Nat.gcd_comm y.natAbs, ← Nat.gcd_rec, Nat.gcd_comm]
theorem abs_if (i : Int) : (if i < 0 then -i else i) = (i.natAbs : Int) := by
  split <;> omega
def spLow : Sp := fun vs H Q _ => ∃ u l : Int, vs = [.int u, .int l] ∧ l ≠ 0 ∧ l.natAbs < 2 ^ 8000 ∧ ∀ p H', Same H H' → H' p = some (.tup [.int (lo1 u l), .int (lo2 u l)]) → Q (.ref p) H'
def lowM (σ : L2.St) : Nat := match (show Option (Option V) from σ[3]?) with
  | some (some (V.int y)) => y.toNat
  | _ => 0
theorem ok_low (T : Txt K mg) : FnOk P w K mg base CX0 1 T.f_lw_lowest T.d_lw_lowest ["_law_top", "_law_bottom"] spLow := by
  refine T.F_lw_lowest.ok sc_lw_lowest (fun vs H Q E ⟨_, _, e, _⟩ => by rw [e]; rfl) (fun cdv A outer s H vs Q E hr h => ?_)
  obtain ⟨u, l, rfl, nz, bl, fin⟩ := h
  refine ⟨_, pss_cons (ps_par (i := 2) (j := 3) rfl sc_lw_lowest.nd rfl rfl (by decide) rfl rfl (pa_cons (pe_callB call_abs (by rfl) T.b_abs (by decide +kernel) (pa_cons (pv 0) pa_nil)) (pa_cons (pe_callB call_abs (by rfl) T.b_abs (by decide +kernel) (pa_cons (pv 1) pa_nil)) pa_nil)) (by rfl))
    (C8.pss_cut (ps_while PassesOwn.never (pt_cmpR op_gt (pv 3) pe_int (nomark _)) (pss_one (ps_par (i := 2) (j := 3) rfl sc_lw_lowest.nd rfl rfl (by decide) rfl rfl (pa_cons (pv 3) (pa_cons (pe_op op_mod (pv 2) (pv 3)) pa_nil)) (by rfl))))
    (pss_cons (ps_set (i := 4) sc_lw_lowest.nd rfl (.inl rfl) (pe_ix ix_list (pe_lst (pa_cons pe_int (pa_cons (pe_op op_sub pe_int pe_int) pa_nil))) (pe_callTy call_int1 (by rfl) T.b_int (by decide +kernel) (pa_cons (pe_cmpR op_lt (pv 1) pe_int (nomark _)) pa_nil)) (fun _ _ => rfl)))
    (pss_one (ps_ret (pe_tup (pa_cons (pe_op op_fdivX (pe_op op_mul (pv 4) (pv 0)) (pv 2)) (pa_cons (pe_op op_fdivX (pe_op op_mul (pv 4) (pv 1)) (pv 2)) pa_nil))))))), ?_⟩
  refine ⟨_, rfl, _, rfl, _, rfl, _, rfl, _, _, rfl, ?_⟩
  rw [abs_if, abs_if]
  have gp := gc_pos (u := u) nz
  have gl := gc_le (u := u) nz
  refine ⟨fun σ H' => H = H' ∧ σ = [some (.int u), some (.int l), some (.int (gc u l)), some (.int 0), none], ?_, ?_⟩
  · refine while_by (fun σ H' => H = H' ∧ ∃ x y : Int, σ = [some (.int u), some (.int l), some (.int x), some (.int y), none] ∧ 0 ≤ x ∧ 0 ≤ y ∧ Nat.gcd x.natAbs y.natAbs = Nat.gcd u.natAbs l.natAbs) (fun σ _ => lowM σ)
      ⟨rfl, _, _, rfl, by omega, by omega, by simp⟩ ?_ ?_
    · rintro _ _ ⟨rfl, x, y, rfl, hx, hy, hg⟩
      refine ⟨_, rfl, _, _, rfl, rfl, _, rfl, ?_⟩
      refine ite2 (fun c => ?_) (fun c => ?_)
      · have pos : 0 < y := of_decide_eq_true c
        have e0 := Int.emod_nonneg x (b := y) (by omega)
        have e1 := Int.emod_lt_of_pos x pos
        refine ⟨_, rfl, _, rfl, _, rfl, _, _, rfl, rfl, pos, _, _, rfl, ⟨rfl, _, _, rfl, by omega, e0, by rw [gcd_step hx pos]; exact hg⟩, ?_⟩
        show (x % y).toNat < y.toNat
        omega
      · have z : y = 0 := by have : ¬ 0 < y := fun q => c (decide_eq_true q); omega
        subst z
        refine ⟨rfl, ?_⟩
        have e : x = gc u l := by
          unfold gc
          rw [← hg]
          simp
          omega
        rw [e]
    · rintro σ H1 Q1 Q2 f ⟨v, e, i, j, e1, e2, k, e3, q⟩
      exact ⟨v, e, i, j, e1, e2, k, e3, f _ _ q⟩
  · rintro _ _ ⟨rfl, rfl⟩
    refine ⟨_, _, rfl, rfl, (by show 2 ≤ sizeLine; decide), fun q hq => ?_⟩
    refine ⟨_, rfl, _, _, rfl, rfl, .inr ⟨_, rfl, ?_⟩⟩
    have fits : gc u l ≠ 0 ∧ (gc u l).natAbs.log2 < 9000 := ⟨by omega, lenU (Nat.lt_of_le_of_lt (by omega) bl) (by decide) (by decide)⟩
    have sgb : -(2 ^ 64) < sg l ∧ sg l < 2 ^ 64 := by unfold sg; split <;> decide
    have nn : (0 : Int) ≤ gc u l := by omega
    have done : tTup (tCons (tOp (rI CDivX fun i j => .int (i.fdiv j)) (tOp (rI CMul fun i j => .int (i * j)) (tVar 4) (tVar 0)) (tVar 2)) (tCons (tOp (rI CDivX fun i j => .int (i.fdiv j)) (tOp (rI CMul fun i j => .int (i * j)) (tVar 4) (tVar 1)) (tVar 2)) tNil))
        [some (.int u), some (.int l), some (.int (gc u l)), some (.int 0), some (.int (sg l))] (upd H q (.lst [.int 1, .int (0 - 1)])) Q := by
      refine ⟨_, rfl, _, rfl, _, _, rfl, rfl, .inl sgb, _, rfl, _, _, rfl, rfl, fits, _, rfl, _, rfl, _, _, rfl, rfl, .inl sgb, _, rfl, _, _, rfl, rfl, fits, (by show 2 ≤ sizeLine; decide), fun p hp => fin p _ ((same_upd hq).trans (same_upd hp)) ?_⟩
      rw [upd_same]
      show some (HO.tup [V.int ((sg l * u).fdiv (gc u l)), V.int ((sg l * l).fdiv (gc u l))]) = _
      rw [Int.fdiv_eq_ediv_of_nonneg _ nn, Int.fdiv_eq_ediv_of_nonneg _ nn]
      rfl
    by_cases c : l < 0
    · rw [decide_eq_true c]
      have e : sg l = 0 - 1 := by unfold sg; rw [if_pos c]; rfl
      rw [e] at done
      exact ⟨q, _, 1, _, rfl, rfl, SqL.of upd_same, rfl, done⟩
    · rw [decide_eq_false c]
      have e : sg l = 1 := by unfold sg; rw [if_neg c]
      rw [e] at done
      exact ⟨q, _, 0, _, rfl, rfl, SqL.of upd_same, rfl, done⟩
end
/-! ### small words -/
/-- all that was tracked is as it was, but the box at p -/
def But (p : Addr) (H H' : Hp) : Prop := ∀ b o, b ≠ p → H b = some o → H' b = some o
theorem if_false_ {c : Bool} {A B : Prop} (hc : c = false) (h : B) : if c = true then A else B := by
  rw [hc]
  exact iteF h
theorem But.refl (p : Addr) (H : Hp) : But p H H := fun _ _ _ e => e
theorem But.trans {p : Addr} {H H1 H2 : Hp} (a : But p H H1) (b : But p H1 H2) : But p H H2 := fun c o n e => b c o n (a c o n e)
theorem But.of {p : Addr} {H H' : Hp} (s : Same H H') : But p H H' := fun b o _ e => s b o e
theorem But.upd {p : Addr} {H : Hp} {o : HO} : But p H (upd H p o) := fun b u n e => by rw [upd_ne n]; exact e
theorem BoxAt.same {H H' : Hp} {p : Addr} (h : BoxAt H p) (s : Same H H') : BoxAt H' p := let ⟨n, a, c, e, r⟩ := h; ⟨n, a, c, s _ _ e, r⟩
theorem menu4 {a b c e : V} {d : Int} (h0 : 0 ≤ d) (h1 : d < 4) {p : V → Prop} (pa : p a) (pb : p b) (pc : p c) (pe : p e) : ∃ v, atI [a, b, c, e] d = some v ∧ p v := by
  obtain rfl | rfl | rfl | rfl : d = 0 ∨ d = 1 ∨ d = 2 ∨ d = 3 := by omega
  · exact ⟨a, rfl, pa⟩
  · exact ⟨b, rfl, pb⟩
  · exact ⟨c, rfl, pc⟩
  · exact ⟨e, rfl, pe⟩
theorem menu2 {a b : V} {d : Int} (h0 : 0 ≤ d) (h1 : d < 2) {p : V → Prop} (pa : p a) (pb : p b) : ∃ v, atI [a, b] d = some v ∧ p v := by
  obtain rfl | rfl : d = 0 ∨ d = 1 := by omega
  · exact ⟨a, rfl, pa⟩
  · exact ⟨b, rfl, pb⟩
theorem menu3 {a b c : V} {d : Int} (h0 : 0 ≤ d) (h1 : d < 3) {p : V → Prop} (pa : p a) (pb : p b) (pc : p c) : ∃ v, atI [a, b, c] d = some v ∧ p v := by
  obtain rfl | rfl | rfl : d = 0 ∨ d = 1 ∨ d = 2 := by omega
  · exact ⟨a, rfl, pa⟩
  · exact ⟨b, rfl, pb⟩
  · exact ⟨c, rfl, pc⟩
theorem menu5 {a b c e f : V} {d : Int} (h0 : 0 ≤ d) (h1 : d < 5) {p : V → Prop} (pa : p a) (pb : p b) (pc : p c) (pe : p e) (pf : p f) : ∃ v, atI [a, b, c, e, f] d = some v ∧ p v := by
  obtain rfl | rfl | rfl | rfl | rfl : d = 0 ∨ d = 1 ∨ d = 2 ∨ d = 3 ∨ d = 4 := by omega
  · exact ⟨a, rfl, pa⟩
  · exact ⟨b, rfl, pb⟩
  · exact ⟨c, rfl, pc⟩
  · exact ⟨e, rfl, pe⟩
  · exact ⟨f, rfl, pf⟩
section
variable {P : Program} {w : World} {K : PySem.W.Frag} {mg : Str → Option Value} {base : Heap}
theorem exm_inv (T : Txt K mg) : PySem.W.exmOne K (.ref T.C_InvalidNumber) (.ref T.C_InvalidNumber) = some true := by
  have e1 : (PySem.W.subIn K (.ref T.C_InvalidNumber) (.type "BaseException") == some true) = true := by rw [T.ox_InvalidNumber.exC]; exact beq_self_eq_true _
  have e2 : ((PySem.W.clsIn K T.C_InvalidNumber).isSome && PySem.W.typeIn K (.ref T.C_InvalidNumber) == some (.type "type")) = true := by
    rw [show (PySem.W.clsIn K T.C_InvalidNumber).isSome = true from T.ic_InvalidNumber, T.ox_InvalidNumber.tyC]; exact beq_self_eq_true _
  show (if (PySem.W.subIn K (.ref T.C_InvalidNumber) (.type "BaseException") == some true) = true then (if ((PySem.W.clsIn K T.C_InvalidNumber).isSome && PySem.W.typeIn K (.ref T.C_InvalidNumber) == some (.type "type")) = true then PySem.W.subIn K (.ref T.C_InvalidNumber) (.ref T.C_InvalidNumber) else none) else none) = some true
  rw [if_pos e1, if_pos e2]
  exact T.ss_InvalidNumber
theorem xval (v : V) : List.lookup ("value" : Str) [(("value" : Str), v)] = some v := by simp [List.lookup]
theorem zero_lt_8000 : (0 : Int).natAbs < 2 ^ 8000 := Nat.lt_trans (by decide) small1
theorem sm_of {i : Int} (h : i.natAbs ≤ 1000000000) : Sm i := by
  have : i.natAbs.log2 < 30 := PySem.Flt.log2_lt_of (by decide) (by omega)
  unfold Sm
  omega
theorem big_of {i : Int} (h : i.natAbs ≤ 1000000000) : i.natAbs < 2 ^ 8000 := Nat.lt_of_lt_of_le (show i.natAbs < 2 ^ 30 by omega) (Nat.pow_le_pow_right (by decide) (by decide))
theorem sm_fdiv {a b : Int} (ha : a.natAbs ≤ 1000000000) (hb : 0 < b) : Sm (a.fdiv b) := by
  rw [Int.fdiv_eq_ediv_of_nonneg _ (by omega)]
  exact sm_of (Nat.le_trans (Int.natAbs_ediv_le_natAbs _ _) ha)
theorem but_new {p : Addr} {H H1 H2 : Hp} (n : H p = none) (s : Same H H1) (b : But p H1 H2) : Same H H2 := fun c o e => b c o (ne_of_none e n) (s c o e)
theorem sqT_same {H H' : Hp} {a : Addr} {xs : List V} (s : Same H H') (h : H a = some (.tup xs)) : SqT K H' a xs := SqT.of (s _ _ h)
end

/-! ### lowest terms are the only ones -/
theorem sg_mul {l : Int} (h : l ≠ 0) : sg l * l = (l.natAbs : Int) ∧ (sg l = 1 ∨ sg l = -1) := by
  unfold sg
  split
  · exact ⟨by omega, .inr rfl⟩
  · exact ⟨by omega, .inl rfl⟩
/-- u / l in lowest terms: the cross product, coprime -/
theorem lo_cross {u l : Int} (h : l ≠ 0) : lo1 u l * l = u * lo2 u l := by
  have hg := gc_pos (u := u) h
  obtain ⟨k1, e1⟩ := gc_dvd1 u l
  obtain ⟨k2, e2⟩ := gc_dvd2 u l
  unfold lo1 lo2
  have a1 : sg l * u / gc u l = sg l * k1 := by
    have : sg l * u = gc u l * (sg l * k1) := by rw [Int.mul_left_comm, ← e1]
    rw [this, Int.mul_ediv_cancel_left _ (by omega)]
  have a2 : sg l * l / gc u l = sg l * k2 := by
    have : sg l * l = gc u l * (sg l * k2) := by rw [Int.mul_left_comm, ← e2]
    rw [this, Int.mul_ediv_cancel_left _ (by omega)]
  rw [a1, a2]
  have : sg l * k1 * l = gc u l * k1 * (sg l * k2) := by
    generalize gc u l = g at *
    rw [e2]
    simp only [Int.mul_assoc, Int.mul_comm, Int.mul_left_comm]
  rw [this, ← e1]
theorem lo_cop {u l : Int} (h : l ≠ 0) : Nat.gcd (lo1 u l).natAbs (lo2 u l).natAbs = 1 := by
  have hg := gc_pos (u := u) h
  obtain ⟨k1, e1⟩ := gc_dvd1 u l
  obtain ⟨k2, e2⟩ := gc_dvd2 u l
  have a1 : lo1 u l = sg l * k1 := by
    have : sg l * u = gc u l * (sg l * k1) := by rw [Int.mul_left_comm, ← e1]
    unfold lo1
    rw [this, Int.mul_ediv_cancel_left _ (by omega)]
  have a2 : lo2 u l = sg l * k2 := by
    have : sg l * l = gc u l * (sg l * k2) := by rw [Int.mul_left_comm, ← e2]
    unfold lo2
    rw [this, Int.mul_ediv_cancel_left _ (by omega)]
  have n1 : (lo1 u l).natAbs = k1.natAbs := by
    rw [a1, Int.natAbs_mul]
    rcases (sg_mul h).2 with z | z <;> rw [z] <;> simp
  have n2 : (lo2 u l).natAbs = k2.natAbs := by
    rw [a2, Int.natAbs_mul]
    rcases (sg_mul h).2 with z | z <;> rw [z] <;> simp
  rw [n1, n2]
  have gg : gc u l = (Nat.gcd u.natAbs l.natAbs : Int) := rfl
  have gp : 0 < Nat.gcd u.natAbs l.natAbs := by omega
  have m1 : u.natAbs = Nat.gcd u.natAbs l.natAbs * k1.natAbs := by
    have := congrArg Int.natAbs e1
    rw [Int.natAbs_mul, gg] at this
    simpa using this
  have m2 : l.natAbs = Nat.gcd u.natAbs l.natAbs * k2.natAbs := by
    have := congrArg Int.natAbs e2
    rw [Int.natAbs_mul, gg] at this
    simpa using this
  obtain ⟨g, hg2⟩ : ∃ g, g = Nat.gcd u.natAbs l.natAbs := ⟨_, rfl⟩
  rw [← hg2] at m1 m2 gp
  have z : g = g * Nat.gcd k1.natAbs k2.natAbs := by
    rw [← Nat.gcd_mul_left, ← m1, ← m2]
    exact hg2
  exact Nat.eq_of_mul_eq_mul_left gp (by omega)
theorem cop_unique {p q x y : Int} (hq : 0 < q) (hy : 0 < y) (c1 : Nat.gcd p.natAbs q.natAbs = 1) (c2 : Nat.gcd x.natAbs y.natAbs = 1) (e : p * y = x * q) : p = x ∧ q = y := by
  have en : p.natAbs * y.natAbs = x.natAbs * q.natAbs := by rw [← Int.natAbs_mul, e, Int.natAbs_mul]
  have d1 : q.natAbs ∣ y.natAbs := by
    have : q.natAbs ∣ p.natAbs * y.natAbs := by rw [en]; exact Nat.dvd_mul_left _ _
    exact Nat.Coprime.dvd_of_dvd_mul_left (Nat.Coprime.symm c1) this
  have d2 : y.natAbs ∣ q.natAbs := by
    have : y.natAbs ∣ x.natAbs * q.natAbs := by rw [← en]; exact Nat.dvd_mul_left _ _
    exact Nat.Coprime.dvd_of_dvd_mul_left (Nat.Coprime.symm c2) this
  have qy : q = y := by
    have := Nat.dvd_antisymm d1 d2
    omega
  subst qy
  exact ⟨Int.eq_of_mul_eq_mul_right (by omega) e, rfl⟩
/-- equal fractions have equal lowest terms -/
theorem lo_eq {u l x y : Int} (h : l ≠ 0) (h2 : y ≠ 0) (e : u * y = x * l) : lo1 u l = lo1 x y ∧ lo2 u l = lo2 x y := by
  refine cop_unique (lo2_pos h) (lo2_pos h2) (lo_cop h) (lo_cop h2) ?_
  have a := lo_cross (u := u) h
  have b := lo_cross (u := x) h2
  have s : (l * y) * (lo1 u l * lo2 x y) = (l * y) * (lo1 x y * lo2 u l) := by
    calc (l * y) * (lo1 u l * lo2 x y) = (lo1 u l * l) * (y * lo2 x y) := by simp only [Int.mul_assoc, Int.mul_comm, Int.mul_left_comm]
      _ = (u * lo2 u l) * (y * lo2 x y) := by rw [a]
      _ = (u * y) * (lo2 u l * lo2 x y) := by simp only [Int.mul_assoc, Int.mul_comm, Int.mul_left_comm]
      _ = (x * l) * (lo2 u l * lo2 x y) := by rw [e]
      _ = (x * lo2 x y) * (l * lo2 u l) := by simp only [Int.mul_assoc, Int.mul_comm, Int.mul_left_comm]
      _ = (lo1 x y * y) * (l * lo2 u l) := by rw [b]
      _ = (l * y) * (lo1 x y * lo2 u l) := by simp only [Int.mul_assoc, Int.mul_comm, Int.mul_left_comm]
  exact Int.eq_of_mul_eq_mul_left (Int.mul_ne_zero h h2) s
/-- lowest terms stay -/
theorem lo_of_cop {a b : Int} (hb : 0 < b) (c : Nat.gcd a.natAbs b.natAbs = 1) : lo1 a b = a ∧ lo2 a b = b := by
  have nz : b ≠ 0 := by omega
  exact cop_unique (lo2_pos nz) hb (lo_cop nz) c (by rw [lo_cross nz])

/-! ### numbers: ints and ratios -/
/-- the value v is the number a / b (b positive, lowest terms not asked) -/
def NumV (C : Addr) (H : Hp) (v : V) (a b : Int) : Prop := (v = .int a ∧ b = 1) ∨ ∃ p, v = .ref p ∧ RatAt C H p a b
theorem NumV.same {C : Addr} {H H' : Hp} {v : V} {a b : Int} (h : NumV C H v a b) (s : Same H H') : NumV C H' v a b := by
  rcases h with h | ⟨p, e, r⟩
  · exact .inl h
  · exact .inr ⟨p, e, r.same s⟩
theorem NumV.num {C : Addr} {H : Hp} {v : V} {a b : Int} (h : NumV C H v a b) : NumB C H v true := by
  rcases h with ⟨e, _⟩ | ⟨p, e, dx, r⟩
  · exact .inl ⟨rfl, .inl ⟨a, e⟩⟩
  · exact .inl ⟨rfl, .inr ⟨p, dx, _, e, r⟩⟩
/-- below 2 ^ 2000 -/
def Bd (i : Int) : Prop := i.natAbs < 2 ^ 2000
theorem bd_mulW {i j : Int} (hi : Bd i) (hj : Bd j) : CMulW i j := wide_mul hi hj (by decide) (by decide) (by decide)
theorem bd_mul {i j : Int} (hi : Bd i) (hj : Bd j) : (i * j).natAbs < 2 ^ 4000 := wide_lt hi hj
theorem bd_8000 {i : Int} (h : i.natAbs < 2 ^ 4000) : i.natAbs < 2 ^ 8000 := Nat.lt_trans h (Nat.pow_lt_pow_right (by decide) (by decide))
theorem bd_one : Bd 1 := show 1 < 2 ^ 2000 from Nat.one_lt_two_pow (by decide)
/-- the promise of a binary operator of Ratio that hands back a ratio g (a, b, c, d) -/
def spBin (C : Addr) (g1 g2 : Int → Int → Int → Int → Int) : Sp := fun vs H Q _ => ∃ (p : Addr) (v : V) (a b c d : Int), vs = [.ref p, v] ∧ RatAt C H p a b ∧ NumV C H v c d ∧ Bd a ∧ Bd b ∧ Bd c ∧ Bd d ∧ 0 < b ∧ 0 < d ∧ GotR C H Q (lo1 (g1 a b c d) (g2 a b c d)) (lo2 (g1 a b c d) (g2 a b c d))
def gAdd (a b c d : Int) : Int := a * d + c * b
def gSub (a b c d : Int) : Int := a * d - c * b
def gMul (a _ c _ : Int) : Int := a * c
def gDen (_ b _ d : Int) : Int := b * d
section
variable {P : Program} {w : World} {K : PySem.W.Frag} {mg : Str → Option Value} {base : Heap}
/-- what Ratio.of hands back of a number -/
theorem of_num {C CI : Addr} {H : Hp} {v : V} {a b : Int} {Q : VK} {E : XK} (h : NumV C H v a b) (k : GotR C H Q a b) : spOf C CI [.ref C, v] H Q E := by
  rcases h with ⟨rfl, rfl⟩ | ⟨p, rfl, r⟩
  · exact ⟨_, rfl, .inl ⟨a, rfl, k⟩⟩
  · exact ⟨_, rfl, .inr (.inl ⟨p, a, b, rfl, r, fun H' s => k p H' s (r.same s)⟩)⟩
theorem ok_sub (T : Txt K mg) : FnOk P w K mg base CX0 6 T.f_Ratio_sub_d T.d_Ratio_sub_d ["self", "other"] (spBin T.C_Ratio gSub gDen) := by
  obtain ⟨its2, kb2⟩ := kb_init2 T
  have kbo := Binds.kbn T.B_Ratio_of (n := 2) rfl
  have M : Mk K T.C_Ratio T.f_Ratio_init_d := ⟨T.mk_Ratio, T.m_Ratio_init_d.at_, T.m_Ratio_init_d.fn, T.kp_Ratio⟩
  refine T.F_Ratio_sub_d.ok sc_Ratio_sub_d (fun vs H Q E ⟨_, _, _, _, _, _, e, _⟩ => by rw [e]; rfl) (fun cdv A outer s H vs Q E hr h => ?_)
  obtain ⟨p, v, a, b, c, d, rfl, hp, hv, ba, bb, bc, bd, b0, d0, fin⟩ := h
  refine ⟨_, pss_cons (ps_if (pt_not (pt_val (pe_f (E := fun _ => E0) (ok_num T) (hr.mono (by decide)) (by rfl) T.g_is_number T.F_is_number.kp T.B_is_number (fun _ => at0) (pa_cons (pv 1) pa_nil)))) pss_never pss_nil)
    (pss_cons (ps_set (i := 2) sc_Ratio_sub_d.nd rfl (.inl rfl) (pe_cmP (n := 1) (E := fun _ => E0) (pe_glob (v := .ref T.C_Ratio) (by rfl) T.g_Ratio rfl) T.rd_Ratio T.cm_Ratio_of (ok_of T) (hr.mono (by decide)) kbo (fun _ => atL) (pa_cons (pv 1) pa_nil)))
    (pss_one (ps_ret (pe_mkP (n := 2) (E := fun _ => E0) M (ok_init T) (hr.mono (by decide)) (by rfl) T.g_Ratio kb2 (fun _ => atL) (pa_cons (pe_op op_sub (pe_op op_mulW (pe_fld (pv 0) rfl) (pe_fld (pv 2) rfl)) (pe_op op_mulW (pe_fld (pv 2) rfl) (pe_fld (pv 0) rfl))) (pa_cons (pe_op op_mulW (pe_fld (pv 0) rfl) (pe_fld (pv 2) rfl)) pa_nil)))))), ?_⟩
  refine ⟨_, rfl, v, true, rfl, hv.num, fun H1 s1 => ⟨true, rfl, iteF ?_⟩⟩
  refine ⟨rfl, _, rfl, rfl, of_num (hv.same s1) fun q H2 s2 hq => ?_⟩
  obtain ⟨dx, e⟩ := hp.same (s1.trans s2)
  obtain ⟨dy, e2⟩ := hq
  refine ⟨_, rfl, p, _, dx, _, _, rfl, e, T.cl_Ratio, T.n_Ratio_top, rfs_top a b, _, rfl, q, _, dy, _, _, rfl, e2, T.cl_Ratio, T.n_Ratio_bottom, rfs_bot c d, _, _, rfl, rfl, bd_mulW ba bd, ?_⟩
  refine ⟨_, rfl, q, _, dy, _, _, rfl, e2, T.cl_Ratio, T.n_Ratio_top, rfs_top c d, _, rfl, p, _, dx, _, _, rfl, e, T.cl_Ratio, T.n_Ratio_bottom, rfs_bot a b, _, _, rfl, rfl, bd_mulW bc bb, _, _, rfl, rfl, ?_⟩
  refine ⟨_, rfl, p, _, dx, _, _, rfl, e, T.cl_Ratio, T.n_Ratio_bottom, rfs_bot a b, _, rfl, q, _, dy, _, _, rfl, e2, T.cl_Ratio, T.n_Ratio_bottom, rfs_bot c d, _, _, rfl, rfl, bd_mulW bb bd, rfl, fun m dm nm ndm _ => made_at (bd_8000 (bd_mul bb bd)) (Int.mul_ne_zero (by omega) (by omega)) nm ndm fun H3 s3 hm => ⟨rfl, fin m H3 ((s1.trans s2).trans s3) hm⟩⟩
theorem ok_mul (T : Txt K mg) : FnOk P w K mg base CX0 6 T.f_Ratio_mul_d T.d_Ratio_mul_d ["self", "other"] (spBin T.C_Ratio gMul gDen) := by
  obtain ⟨its2, kb2⟩ := kb_init2 T
  have kbo := Binds.kbn T.B_Ratio_of (n := 2) rfl
  have M : Mk K T.C_Ratio T.f_Ratio_init_d := ⟨T.mk_Ratio, T.m_Ratio_init_d.at_, T.m_Ratio_init_d.fn, T.kp_Ratio⟩
  refine T.F_Ratio_mul_d.ok sc_Ratio_mul_d (fun vs H Q E ⟨_, _, _, _, _, _, e, _⟩ => by rw [e]; rfl) (fun cdv A outer s H vs Q E hr h => ?_)
  obtain ⟨p, v, a, b, c, d, rfl, hp, hv, ba, bb, bc, bd, b0, d0, fin⟩ := h
  refine ⟨_, pss_cons (ps_if (pt_not (pt_val (pe_f (E := fun _ => E0) (ok_num T) (hr.mono (by decide)) (by rfl) T.g_is_number T.F_is_number.kp T.B_is_number (fun _ => at0) (pa_cons (pv 1) pa_nil)))) pss_never pss_nil)
    (pss_cons (ps_set (i := 2) sc_Ratio_mul_d.nd rfl (.inl rfl) (pe_cmP (n := 1) (E := fun _ => E0) (pe_glob (v := .ref T.C_Ratio) (by rfl) T.g_Ratio rfl) T.rd_Ratio T.cm_Ratio_of (ok_of T) (hr.mono (by decide)) kbo (fun _ => atL) (pa_cons (pv 1) pa_nil)))
    (pss_one (ps_ret (pe_mkP (n := 2) (E := fun _ => E0) M (ok_init T) (hr.mono (by decide)) (by rfl) T.g_Ratio kb2 (fun _ => atL) (pa_cons (pe_op op_mulW (pe_fld (pv 0) rfl) (pe_fld (pv 2) rfl)) (pa_cons (pe_op op_mulW (pe_fld (pv 0) rfl) (pe_fld (pv 2) rfl)) pa_nil)))))), ?_⟩
  refine ⟨_, rfl, v, true, rfl, hv.num, fun H1 s1 => ⟨true, rfl, iteF ?_⟩⟩
  refine ⟨rfl, _, rfl, rfl, of_num (hv.same s1) fun q H2 s2 hq => ?_⟩
  obtain ⟨dx, e⟩ := hp.same (s1.trans s2)
  obtain ⟨dy, e2⟩ := hq
  refine ⟨_, rfl, p, _, dx, _, _, rfl, e, T.cl_Ratio, T.n_Ratio_top, rfs_top a b, _, rfl, q, _, dy, _, _, rfl, e2, T.cl_Ratio, T.n_Ratio_top, rfs_top c d, _, _, rfl, rfl, bd_mulW ba bc, ?_⟩
  refine ⟨_, rfl, p, _, dx, _, _, rfl, e, T.cl_Ratio, T.n_Ratio_bottom, rfs_bot a b, _, rfl, q, _, dy, _, _, rfl, e2, T.cl_Ratio, T.n_Ratio_bottom, rfs_bot c d, _, _, rfl, rfl, bd_mulW bb bd, rfl, fun m dm nm ndm _ => made_at (bd_8000 (bd_mul bb bd)) (Int.mul_ne_zero (by omega) (by omega)) nm ndm fun H3 s3 hm => ⟨rfl, fin m H3 ((s1.trans s2).trans s3) hm⟩⟩
/-- over, //: the quotient (a d) / (b c) -/
def spOver (C CI : Addr) : Sp := fun vs H Q E => ∃ (p : Addr) (v : V) (a b c d : Int), vs = [.ref p, v] ∧ RatAt C H p a b ∧ NumV C H v c d ∧ Bd a ∧ Bd b ∧ Bd c ∧ Bd d ∧ 0 < b ∧ 0 < d ∧
  (c ≠ 0 → GotR C H Q (lo1 (a * d) (b * c)) (lo2 (a * d) (b * c))) ∧ (c = 0 → Bad CI (.int 0) H E)
def flr (a b c d : Int) : Int := (lo1 (a * d) (b * c)).fdiv (lo2 (a * d) (b * c))
def spFdiv (C CI : Addr) : Sp := fun vs H Q E => ∃ (p : Addr) (v : V) (a b c d : Int), vs = [.ref p, v] ∧ RatAt C H p a b ∧ NumV C H v c d ∧ Bd a ∧ Bd b ∧ Bd c ∧ Bd d ∧ 0 < b ∧ 0 < d ∧
  (c ≠ 0 → ∀ H', Same H H' → Q (.int (flr a b c d)) H') ∧ (c = 0 → Bad CI (.int 0) H E)
theorem ok_over (T : Txt K mg) : FnOk P w K mg base (L2.CX P w) 6 T.f_Ratio_over T.d_Ratio_over ["self", "other"] (spOver T.C_Ratio T.C_InvalidNumber) := by
  obtain ⟨its2, kb2⟩ := kb_init2 T
  have kbo := Binds.kbn T.B_Ratio_of (n := 2) rfl
  have M : Mk K T.C_Ratio T.f_Ratio_init_d := ⟨T.mk_Ratio, T.m_Ratio_init_d.at_, T.m_Ratio_init_d.fn, T.kp_Ratio⟩
  refine T.F_Ratio_over.okX sc_Ratio_over (fun vs H Q E ⟨_, _, _, _, _, _, e, _⟩ => by rw [e]; rfl) (fun cdv A outer s H vs Q E hr h => ?_)
  obtain ⟨p, v, a, b, c, d, rfl, hp, hv, ba, bb, bc, bd, b0, d0, k1, k0⟩ := h
  refine ⟨_, pss_cons (ps_set (i := 2) sc_Ratio_over.nd rfl (.inl rfl) (pe_cmP (n := 1) (E := fun _ => E0) (pe_glob (v := .ref T.C_Ratio) (by rfl) T.g_Ratio rfl) T.rd_Ratio T.cm_Ratio_of (ok_of T) (hr.mono (by decide)) kbo (fun _ => atL) (pa_cons (pv 1) pa_nil)))
    (pss_one (ps_ret (pe_mkP (n := 2) (E := WE fun cls d _ H' => E cls d H') M (ok_init T) (hr.mono (by decide)) (by rfl) T.g_Ratio kb2 (fun σ => passAt (takes_of rfl rfl rfl rfl) σ) (pa_cons (pe_op op_mulW (pe_fld (pv 0) rfl) (pe_fld (pv 2) rfl)) (pa_cons (pe_op op_mulW (pe_fld (pv 0) rfl) (pe_fld (pv 2) rfl)) pa_nil))))), ?_⟩
  refine ⟨rfl, _, rfl, rfl, of_num hv fun q H2 s2 hq => ?_⟩
  obtain ⟨dx, e⟩ := hp.same s2
  obtain ⟨dy, e2⟩ := hq
  refine ⟨_, rfl, p, _, dx, _, _, rfl, e, T.cl_Ratio, T.n_Ratio_top, rfs_top a b, _, rfl, q, _, dy, _, _, rfl, e2, T.cl_Ratio, T.n_Ratio_bottom, rfs_bot c d, _, _, rfl, rfl, bd_mulW ba bd, ?_⟩
  refine ⟨_, rfl, p, _, dx, _, _, rfl, e, T.cl_Ratio, T.n_Ratio_bottom, rfs_bot a b, _, rfl, q, _, dy, _, _, rfl, e2, T.cl_Ratio, T.n_Ratio_top, rfs_top c d, _, _, rfl, rfl, bd_mulW bb bc, rfl, fun m dm nm ndm _ => ?_⟩
  by_cases z : c = 0
  · have zz : b * c = 0 := by rw [z, Int.mul_zero]
    show spInit _ _ [.ref m, .int (a * d), .int (b * c)] _ _ _
    rw [zz]
    exact made_bad (fun d' H' s' e' => k0 z d' H' (s2.trans s') e') nm ndm
  · exact made_at (bd_8000 (bd_mul bb bc)) (Int.mul_ne_zero (by omega) z) nm ndm fun H3 s3 hm => ⟨rfl, k1 z m H3 (s2.trans s3) hm⟩
theorem ok_fdiv (T : Txt K mg) : FnOk P w K mg base (L2.CX P w) 8 T.f_Ratio_floordiv_d T.d_Ratio_floordiv_d ["self", "other"] (spFdiv T.C_Ratio T.C_InvalidNumber) := by
  have kbv := Binds.kbn T.B_Ratio_over (n := 2) rfl
  refine T.F_Ratio_floordiv_d.okX sc_Ratio_floordiv_d (fun vs H Q E ⟨_, _, _, _, _, _, e, _⟩ => by rw [e]; rfl) (fun cdv A outer s H vs Q E hr h => ?_)
  obtain ⟨p, v, a, b, c, d, rfl, hp, hv, ba, bb, bc, bd, b0, d0, k1, k0⟩ := h
  refine ⟨_, pss_cons (ps_if (pt_not (pt_val (pe_f (E := fun _ => E0) (ok_num T) (hr.mono (by decide)) (by rfl) T.g_is_number T.F_is_number.kp T.B_is_number (fun _ => at0) (pa_cons (pv 1) pa_nil)))) pss_never pss_nil)
    (pss_one (ps_ret (pe_prop (E := E0) (pe_meP (n := 1) (E := WE fun cls d _ H' => E cls d H') (pv 0) T.cl_Ratio T.me_Ratio_over (ok_over T) (hr.mono (by decide)) kbv (fun σ => passAt (takes_of rfl rfl rfl rfl) σ) (pa_cons (pv 1) pa_nil)) T.cl_Ratio T.pr_Ratio_floor (ok_floor T) (hr.mono (by decide)) T.B_Ratio_floor .nil pass0 rfl))), ?_⟩
  refine ⟨_, rfl, v, true, rfl, hv.num, fun H1 s1 => ⟨true, rfl, iteF ?_⟩⟩
  obtain ⟨dx, e⟩ := hp.same s1
  refine ⟨_, rfl, p, dx, _, rfl, e, rfs_no (by decide +kernel) (by decide +kernel), _, rfl, rfl, p, v, a, b, c, d, rfl, hp.same s1, hv.same s1, ba, bb, bc, bd, b0, d0, fun z m H2 s2 hm => ?_, fun z d' H' s' e' => k0 z d' H' (s1.trans s') e'⟩
  have nz : b * c ≠ 0 := Int.mul_ne_zero (by omega) z
  have p2 := lo2_pos (u := a * d) nz
  have l2 := lo2_le (u := a * d) nz
  obtain ⟨dm, em⟩ := id hm
  exact ⟨m, dm, _, rfl, em, m, _, _, rfl, hm, by omega, lenU (n := 4000) (Nat.lt_of_le_of_lt (by omega) (bd_mul bb bc)) (by decide) (by decide), k1 z _ (s1.trans s2)⟩
/-- %: below 2 ^ 200 -/
def Bq (i : Int) : Prop := i.natAbs < 2 ^ 200
theorem bq_bd {i : Int} (h : Bq i) : Bd i := Nat.lt_trans h (Nat.pow_lt_pow_right (by decide) (by decide))
theorem bq_mul {i j : Int} (hi : Bq i) (hj : Bq j) : (i * j).natAbs < 2 ^ 400 := wide_lt hi hj
theorem flr_le {a b c d : Int} (ha : Bq a) (hd : Bq d) (nz : b * c ≠ 0) : (flr a b c d).natAbs < 2 ^ 400 := by
  have p2 := lo2_pos (u := a * d) nz
  unfold flr
  rw [Int.fdiv_eq_ediv_of_nonneg _ (by omega)]
  exact Nat.lt_of_le_of_lt (Nat.le_trans (Int.natAbs_ediv_le_natAbs _ _) lo1_le) (bq_mul ha hd)
theorem bd_lt {i : Int} {n : Nat} (h : i.natAbs < 2 ^ n) (hn : n < 2000) : Bd i := Nat.lt_trans h (Nat.pow_lt_pow_right (by decide) hn)
def spMod (C CI : Addr) : Sp := fun vs H Q E => ∃ (p : Addr) (v : V) (a b c d : Int), vs = [.ref p, v] ∧ RatAt C H p a b ∧ NumV C H v c d ∧ Bq a ∧ Bq b ∧ Bq c ∧ Bq d ∧ 0 < b ∧ 0 < d ∧
  (c ≠ 0 → GotR C H Q (lo1 (a * d - flr a b c d * c * b) (b * d)) (lo2 (a * d - flr a b c d * c * b) (b * d))) ∧ (c = 0 → Bad CI (.int 0) H E)
theorem ok_mod (T : Txt K mg) : FnOk P w K mg base (L2.CX P w) 9 T.f_Ratio_mod_d T.d_Ratio_mod_d ["self", "other"] (spMod T.C_Ratio T.C_InvalidNumber) := by
  refine T.F_Ratio_mod_d.okX sc_Ratio_mod_d (fun vs H Q E ⟨_, _, _, _, _, _, e, _⟩ => by rw [e]; rfl) (fun cdv A outer s H vs Q E hr h => ?_)
  obtain ⟨p, v, a, b, c, d, rfl, hp, hv, qa, qb, qc, qd, b0, d0, k1, k0⟩ := h
  have ba := bq_bd qa
  have bb := bq_bd qb
  have bc := bq_bd qc
  have bd := bq_bd qd
  refine ⟨_, pss_cons (ps_if (pt_not (pt_val (pe_f (E := fun _ => E0) (ok_num T) (hr.mono (by decide)) (by rfl) T.g_is_number T.F_is_number.kp T.B_is_number (fun _ => at0) (pa_cons (pv 1) pa_nil)))) pss_never pss_nil)
    (pss_one (ps_ret (pe_op (opr_bin (op := .Sub) (E := E0) T.bn_Ratio_sub_d (ok_sub T) (hr.mono (by decide)) T.B_Ratio_sub_d (fun _ => at0)) (pv 0)
      (pe_op (OpR.or op_mulW (opr_bin (op := .Mult) (E := E0) T.bn_Ratio_mul_d (ok_mul T) (hr.mono (by decide)) T.B_Ratio_mul_d (fun _ => at0))) (pv 1)
        (pe_opS (ops_bin (op := .FloorDiv) (E := WE fun cls d _ H' => E cls d H') T.bn_Ratio_floordiv_d (ok_fdiv T) (hr.mono (by decide)) T.B_Ratio_floordiv_d (fun σ => passAt (takes_of rfl rfl rfl rfl) σ)) (pv 0) (pv 1)))))), ?_⟩
  refine ⟨_, rfl, v, true, rfl, hv.num, fun H1 s1 => ⟨true, rfl, iteF ?_⟩⟩
  have hp1 := hp.same s1
  have hv1 := hv.same s1
  obtain ⟨dx, e⟩ := id hp1
  have sort : (∃ i, v = .int i) ∨ ∃ q dy gs, v = .ref q ∧ H1 q = some (.ins T.C_Ratio dy gs) := by
    rcases hv1 with ⟨e, _⟩ | ⟨q, e, dy, r⟩
    · exact .inl ⟨_, e⟩
    · exact .inr ⟨q, dy, _, e, r⟩
  refine ⟨_, rfl, _, rfl, _, rfl, _, rfl, p, dx, _, rfl, e, sort, p, v, a, b, c, d, rfl, hp1, hv1, ba, bb, bc, bd, b0, d0, fun z H2 s2 => ?_, fun z d' H' s' e' => k0 z d' H' (s1.trans s') e'⟩
  have nz : b * c ≠ 0 := Int.mul_ne_zero (by omega) z
  have fl := flr_le (b := b) qa qd nz
  have bk : Bd (flr a b c d) := bd_lt fl (by decide)
  have fin := k1 z
  rcases hv1 with ⟨rfl, rfl⟩ | ⟨q, rfl, hq⟩
  · -- an int
    have m1 : (c * flr a b c 1).natAbs < 2 ^ 600 := wide_lt (a := 200) (b := 400) qc fl
    refine .inl ⟨c, _, rfl, rfl, bd_mulW bc bk, ?_⟩
    obtain ⟨dx2, e2⟩ := hp1.same s2
    refine ⟨p, dx2, _, rfl, e2, .inl ⟨_, rfl⟩, p, _, a, b, c * flr a b c 1, 1, rfl, hp1.same s2, .inl ⟨rfl, rfl⟩, ba, bb, bd_lt m1 (by decide), bd_one, b0, by decide, fun m H3 s3 hm => ?_⟩
    refine fin m H3 ((s1.trans s2).trans s3) ?_
    have e1 : gSub a b (c * flr a b c 1) 1 = a * 1 - flr a b c 1 * c * b := by unfold gSub; rw [Int.mul_comm c]
    have e2 : gDen a b (c * flr a b c 1) 1 = b * 1 := rfl
    rw [e1, e2] at hm
    exact hm
  · -- a ratio
    have m1 : (c * flr a b c d).natAbs < 2 ^ 600 := wide_lt (a := 200) (b := 400) qc fl
    obtain ⟨dy, ey⟩ := hq.same s2
    refine .inr ⟨q, dy, _, rfl, ey, .inl ⟨_, rfl⟩, q, _, c, d, flr a b c d, 1, rfl, hq.same s2, .inl ⟨rfl, rfl⟩, bc, bd, bk, bd_one, d0, by decide, fun r H3 s3 hr3 => ?_⟩
    have f1 : gMul c d (flr a b c d) 1 = c * flr a b c d := rfl
    have f2 : gDen c d (flr a b c d) 1 = d := Int.mul_one d
    rw [f1, f2] at hr3
    have dn : d ≠ 0 := by omega
    have x1 := lo1_le (u := c * flr a b c d) (l := d)
    have x2 := lo2_le (u := c * flr a b c d) dn
    have x3 := lo2_pos (u := c * flr a b c d) dn
    have cr := lo_cross (u := c * flr a b c d) dn
    generalize lo1 (c * flr a b c d) d = N at *
    generalize lo2 (c * flr a b c d) d = D at *
    have bN : Bd N := bd_lt (Nat.lt_of_le_of_lt x1 m1) (by decide)
    have bD : Bd D := Nat.lt_of_le_of_lt (by omega) bd
    obtain ⟨dx2, e2⟩ := hp1.same (s2.trans s3)
    obtain ⟨dr, er⟩ := id hr3
    refine ⟨p, dx2, _, rfl, e2, .inr ⟨r, dr, _, rfl, er⟩, p, _, a, b, N, D, rfl, hp1.same (s2.trans s3), .inr ⟨r, rfl, hr3⟩, ba, bb, bN, bD, b0, x3, fun m H4 s4 hm => ?_⟩
    refine fin m H4 (((s1.trans s2).trans s3).trans s4) ?_
    have cross : gSub a b N D * (b * d) = (a * d - flr a b c d * c * b) * gDen a b N D := by
      unfold gSub gDen
      have : N * b * (b * d) = flr a b c d * c * b * (b * D) := by
        calc N * b * (b * d) = b * b * (N * d) := by simp only [Int.mul_assoc, Int.mul_comm, Int.mul_left_comm]
          _ = b * b * (c * flr a b c d * D) := by rw [cr]
          _ = flr a b c d * c * b * (b * D) := by simp only [Int.mul_assoc, Int.mul_comm, Int.mul_left_comm]
      rw [Int.sub_mul, Int.sub_mul, this]
      congr 1
      simp only [Int.mul_assoc, Int.mul_comm, Int.mul_left_comm]
    obtain ⟨l1, l2⟩ := lo_eq (u := gSub a b N D) (l := gDen a b N D) (Int.mul_ne_zero (by omega) (by omega)) (Int.mul_ne_zero (by omega) dn) cross
    rw [l1, l2] at hm
    exact hm
end

/-! ### the laws' numbers: an int or a ratio, beside its terms -/
theorem pair_len (a b : Int) : (PyData.tuple [.int a, .int b]).shown.length = (tx a).length + (tx b).length + 4 := by
  have h := join_length_add [tx a, tx b] (by simp)
  have e : (PyData.tuple [.int a, .int b]).shown = ("(" : Str) ++ Str.join ", " [tx a, tx b] ++ ((")" : String) : Str) := rfl
  have l1 : ("(" : Str).length = 1 := by decide +kernel
  have l2 : (((")" : String) : Str)).length = 1 := by decide +kernel
  rw [e, str_len, str_len, l1, l2]
  simp [piled] at h
  omega
theorem sm_2000 {i : Int} (h : i.natAbs < 2 ^ 1900) : Sm i := Nat.lt_of_lt_of_le (PySem.Flt.log2_lt_of (by decide) h) (by decide)
/-- terms as the laws draw them -/
structure Tm (a b : Int) : Prop where
  b0 : 0 < b
  b1 : b ≤ 1000
  a1 : a.natAbs ≤ 1000000000
  cp : Nat.gcd a.natAbs b.natAbs = 1
def spNumb (C : Addr) : Sp := fun vs H Q _ => ∃ p : Addr, vs = [.ref p] ∧ BoxAt H p ∧ ∀ t t2 v a b H', Tm a b → NumV C H' v a b → H' t = some (.tup [v, .ref t2]) → H' t2 = some (.tup [.int a, .int b]) → BoxAt H' p → But p H H' → Q (.ref t) H'
/-- found is a ratio with these terms (told by their texts) -/
def spIsR (C : Addr) : Sp := fun vs H Q _ => ∃ (p t : Addr) (a b : Int), vs = [.ref p, .ref t] ∧ RatAt C H p a b ∧ H t = some (.tup [.int a, .int b]) ∧ Sm a ∧ Sm b ∧ ∀ H', Same H H' → Q (.bl true) H'
theorem NumV.but {C p : Addr} {H H' : Hp} {v : V} {a b : Int} (h : NumV C H v a b) (hb : BoxAt H p) (k : But p H H') : NumV C H' v a b := by
  rcases h with h | ⟨q, e, dx, r⟩
  · exact .inl h
  · refine .inr ⟨q, e, dx, k _ _ (fun z => ?_) r⟩
    obtain ⟨_, _, _, y, _⟩ := hb
    rw [z, y] at r
    cases r
theorem RatAt.but {C p q : Addr} {H H' : Hp} {a b : Int} (h : RatAt C H q a b) (hb : BoxAt H p) (k : But p H H') : RatAt C H' q a b := by
  rcases NumV.but (v := .ref q) (.inr ⟨q, rfl, h⟩) hb k with ⟨e, _⟩ | ⟨q', e, r⟩
  · cases e
  · cases e; exact r
theorem tup_but {t p : Addr} {H H' : Hp} {xs : List V} (h : H t = some (.tup xs)) (hb : BoxAt H p) (k : But p H H') : H' t = some (.tup xs) := by
  refine k _ _ (fun z => ?_) h
  obtain ⟨_, _, _, y, _⟩ := hb
  rw [z, y] at h
  cases h
section
variable {P : Program} {w : World} {K : PySem.W.Frag} {mg : Str → Option Value} {base : Heap}
theorem ok_isR (T : Txt K mg) : FnG P w K mg base CX0 1 T.f_lw_is T.d_lw_is ["_law_found", "_law_due"] (spIsR T.C_Ratio) := by
  refine go0 T.F_lw_is sc_lw_is (fun vs H Q E ⟨_, _, _, _, e, _⟩ => by rw [e]; rfl) (fun cdv A outer s H vs Q E gg hr h => ?_)
  obtain ⟨p, t, a, b, rfl, ⟨dx, e⟩, ht, sa, sb, fin⟩ := h
  refine ⟨_, pss_one (ps_ret (pe_and (pe_callB call_isi (by rfl) T.b_isinstance (by decide +kernel) (pa_cons (pv 0) (pa_cons (pe_glob (v := .ref T.C_Ratio) (by rfl) T.g_Ratio rfl) pa_nil)))
    (pe_one (pe_cmpR op_eq (pe_callB (call_reprD gg hr) (by rfl) T.b_repr (by decide +kernel) (pa_cons (pe_tup (pa_cons (pe_fld (pv 0) rfl) (pa_cons (pe_fld (pv 0) rfl) pa_nil))) pa_nil))
      (pe_callB (call_reprD gg hr) (by rfl) T.b_repr (by decide +kernel) (pa_cons (pv 1) pa_nil)) (nomark _))))), ?_⟩
  have sh : (PyData.tuple [.int a, .int b]).showable = true := by
    show (decide (a.natAbs.log2 < 1920) && (decide (b.natAbs.log2 < 1920) && true)) = true
    rw [decide_eq_true (show a.natAbs.log2 < 1920 from sa), decide_eq_true (show b.natAbs.log2 < 1920 from sb)]
    rfl
  have sz : (PyData.tuple [.int a, .int b]).shown.length ≤ sizeLine := by
    rw [pair_len]
    have := tx_len sa
    have := tx_len sb
    exact line_le (by omega)
  refine ⟨_, rfl, _, _, .ref T.C_Ratio, _, true, rfl, .own _, tyx_ins T.cl_Ratio T.tc_Ratio e, kit_self, true, rfl, iteT ?_⟩
  refine ⟨_, rfl, p, _, dx, _, _, rfl, e, T.cl_Ratio, T.n_Ratio_top, rfs_top a b, _, rfl, p, _, dx, _, _, rfl, e, T.cl_Ratio, T.n_Ratio_bottom, rfs_bot a b, (by show 2 ≤ sizeLine; decide), fun q hq => ?_⟩
  refine ⟨_, .tuple [.int a, .int b], rfl, .tup (SqT.of upd_same) (.cons (.int _) (.cons (.int _) .nil)), sh, rfl, Nat.le_of_ble_eq_true rfl, sz, ?_⟩
  refine ⟨_, rfl, _, .tuple [.int a, .int b], rfl, .tup (SqT.of (same_upd hq _ _ ht)) (.cons (.int _) (.cons (.int _) .nil)), sh, rfl, Nat.le_of_ble_eq_true rfl, sz, rfl, ?_⟩
  have q4 : decide (V.str (PyData.tuple [.int a, .int b]).shown = V.str (PyData.tuple [.int a, .int b]).shown) = true := by simp
  show Q (.bl (decide (V.str (PyData.tuple [.int a, .int b]).shown = V.str (PyData.tuple [.int a, .int b]).shown))) _
  rw [q4]
  exact fin _ (same_upd hq)
theorem ok_numb (T : Txt K mg) : FnOk P w K mg base CX0 5 T.f_lw_number T.d_lw_number ["_law_box_here"] (spNumb T.C_Ratio) := by
  obtain ⟨its2, kb2⟩ := kb_init2 T
  have M : Mk K T.C_Ratio T.f_Ratio_init_d := ⟨T.mk_Ratio, T.m_Ratio_init_d.at_, T.m_Ratio_init_d.fn, T.kp_Ratio⟩
  refine T.F_lw_number.ok sc_lw_number (fun vs H Q E ⟨_, e, _⟩ => by rw [e]; rfl) (fun cdv A outer s H vs Q E hr h => ?_)
  obtain ⟨p, rfl, hb, fin⟩ := h
  have nd := sc_lw_number.nd
  refine ⟨_, pss_cons (ps_par (i := 1) (j := 2) rfl nd rfl rfl (by decide) rfl rfl
      (pa_cons (pe_ix ix_list (pe_lst (pa_cons pe_int (pa_cons pe_int (pa_cons (pe_op op_pow pe_int pe_int) pa_nil)))) (pe_f (E := fun _ => E0) (ok_take T) (hr.mono (by decide)) (by rfl) T.g_lw_take T.F_lw_take.kp T.B_lw_take (fun _ => at0) (pa_cons (pv 0) (pa_cons pe_int pa_nil))) (fun _ _ => rfl))
      (pa_cons (pe_ix ix_list (pe_lst (pa_cons pe_int (pa_cons pe_int (pa_cons pe_int (pa_cons pe_int (pa_cons pe_int pa_nil)))))) (pe_f (E := fun _ => E0) (ok_take T) (hr.mono (by decide)) (by rfl) T.g_lw_take T.F_lw_take.kp T.B_lw_take (fun _ => at0) (pa_cons (pv 0) (pa_cons pe_int pa_nil))) (fun _ _ => rfl)) pa_nil)) (by rfl))
    (pss_cons (ps_set (i := 3) nd rfl (.inl rfl) (pe_op op_mul (pe_f (E := fun _ => E0) (ok_take T) (hr.mono (by decide)) (by rfl) T.g_lw_take T.F_lw_take.kp T.B_lw_take (fun _ => at0) (pa_cons (pv 0) (pa_cons (pe_op op_add (pv 1) pe_int) pa_nil)))
      (pe_ix ix_list (pe_lst (pa_cons pe_int (pa_cons (pe_op op_sub pe_int pe_int) pa_nil))) (pe_f (E := fun _ => E0) (ok_take T) (hr.mono (by decide)) (by rfl) T.g_lw_take T.F_lw_take.kp T.B_lw_take (fun _ => at0) (pa_cons (pv 0) (pa_cons pe_int pa_nil))) (fun _ _ => rfl))))
    (pss_cons (ps_set (i := 4) nd rfl (.inl rfl) (pe_f (E := fun _ => E0) (ok_low T) (hr.mono (by decide)) (by rfl) T.g_lw_lowest T.F_lw_lowest.kp T.B_lw_lowest (fun _ => at0) (pa_cons (pv 3) (pa_cons (pv 2) pa_nil))))
    (pss_cons (ps_if (PW.pt (pw_and (pt_cmpR op_eq (pe_ix ix_tup (pv 4) pe_int (fun _ _ => rfl)) pe_int (nomark _)) (pw_and1 (pt_cmpR op_eq (pe_f (E := fun _ => E0) (ok_take T) (hr.mono (by decide)) (by rfl) T.g_lw_take T.F_lw_take.kp T.B_lw_take (fun _ => at0) (pa_cons (pv 0) (pa_cons pe_int pa_nil))) pe_int (nomark _)))))
      (pss_one (ps_ret (pe_tup (pa_cons (pe_ix ix_tup (pv 4) pe_int (fun _ _ => rfl)) (pa_cons (pv 4) pa_nil))))) pss_nil)
    (pss_one (ps_ret (pe_tup (pa_cons (pe_mkP (n := 2) (E := fun _ => E0) M (ok_init T) hr (by rfl) T.g_Ratio kb2 (fun _ => atL) (pa_cons (pv 3) (pa_cons (pv 2) pa_nil))) (pa_cons (pv 4) pa_nil)))))))), ?_⟩
  -- the size, the unit
  refine ⟨_, _, rfl, rfl, ⟨by decide, by decide, by decide⟩, (by show 3 ≤ sizeLine; decide), fun q hq => ?_⟩
  have nbox : ∀ {G : Hp} {q : Addr}, BoxAt G p → G q = none → p ≠ q := fun hb hq => by obtain ⟨_, _, _, e, _⟩ := hb; exact ne_of_none e hq
  have npq := nbox hb hq
  refine ⟨_, rfl, p, 3, rfl, hb.same (same_upd hq), by decide, by decide, fun d n sd c d0 d1 hb1 => ?_⟩
  obtain ⟨v, hv, sz, rfl, s0, s1⟩ := menu3 (p := fun v => ∃ z : Int, v = .int z ∧ 0 < z ∧ z ≤ 1000000000) d0 d1 (a := .int 3) (b := .int 20) (c := .int (10 ^ (9 : Int).toNat)) ⟨_, rfl, by decide, by decide⟩ ⟨_, rfl, by decide, by decide⟩ ⟨_, rfl, by decide, by decide⟩
  refine ⟨q, _, _, _, rfl, rfl, SqL.of (by rw [upd_ne npq.symm]; exact upd_same), hv, ?_⟩
  refine ⟨(by show 5 ≤ sizeLine; decide), fun q2 hq2 => ?_⟩
  have npq2 := nbox hb1 hq2
  refine ⟨_, rfl, p, 5, rfl, hb1.same (same_upd hq2), by decide, by decide, fun d2 n2 sd2 c2 d20 d21 hb2 => ?_⟩
  obtain ⟨v, hv, l, rfl, l0, l1⟩ := menu5 (p := fun v => ∃ z : Int, v = .int z ∧ 0 < z ∧ z ≤ 1000) d20 d21 (a := .int 1) (b := .int 2) (c := .int 3) (e := .int 4) (f := .int 1000) ⟨_, rfl, by decide, by decide⟩ ⟨_, rfl, by decide, by decide⟩ ⟨_, rfl, by decide, by decide⟩ ⟨_, rfl, by decide, by decide⟩ ⟨_, rfl, by decide, by decide⟩
  refine ⟨q2, _, _, _, rfl, rfl, SqL.of (by rw [upd_ne npq2.symm]; exact upd_same), hv, _, _, rfl, ?_⟩
  -- the top
  refine ⟨_, rfl, _, rfl, _, _, rfl, rfl, p, sz + 1, rfl, hb2, by omega, by omega, fun d3 n3 sd3 c3 d30 d31 hb3 => ?_⟩
  refine ⟨_, _, rfl, rfl, (by show 2 ≤ sizeLine; decide), fun q3 hq3 => ?_⟩
  have npq3 := nbox hb3 hq3
  refine ⟨_, rfl, p, 2, rfl, hb3.same (same_upd hq3), by decide, by decide, fun d4 n4 sd4 c4 d40 d41 hb4 => ?_⟩
  obtain ⟨v, hv, sgn, rfl, g⟩ := menu2 (p := fun v => ∃ z : Int, v = .int z ∧ (z = 1 ∨ z = -1)) d40 d41 (a := .int 1) (b := .int (0 - 1)) ⟨_, rfl, .inl rfl⟩ ⟨_, rfl, .inr rfl⟩
  refine ⟨q3, _, _, _, rfl, rfl, SqL.of (by rw [upd_ne npq3.symm]; exact upd_same), hv, ?_⟩
  refine ⟨_, _, rfl, rfl, .inl ⟨by omega, by omega⟩, ?_⟩
  have hu : (d3 * sgn).natAbs ≤ 1000000000 := by rcases g with rfl | rfl <;> omega
  have bb : But p H (upd (upd (upd (upd (upd (upd (upd H q (.lst [.int 3, .int 20, .int (10 ^ (9 : Int).toNat)])) p (BoxL n sd c)) q2 (.lst [.int 1, .int 2, .int 3, .int 4, .int 1000])) p (BoxL n2 sd2 c2)) p (BoxL n3 sd3 c3)) q3 (.lst [.int 1, .int (0 - 1)])) p (BoxL n4 sd4 c4)) :=
    ((((((But.of (same_upd hq)).trans But.upd).trans (But.of (same_upd hq2))).trans But.upd).trans But.upd).trans (But.of (same_upd hq3))).trans But.upd
  generalize upd (upd (upd (upd (upd (upd (upd H q _) p _) q2 _) p _) p _) q3 _) p _ = H4 at hb4 bb
  have nz : l ≠ 0 := by omega
  have bl := big_of (i := l) (by omega)
  have tm : Tm (lo1 (d3 * sgn) l) (lo2 (d3 * sgn) l) := ⟨lo2_pos nz, by have := lo2_le (u := d3 * sgn) nz; omega, Nat.le_trans lo1_le hu, lo_cop nz⟩
  refine ⟨_, rfl, _, rfl, d3 * sgn, l, rfl, nz, bl, fun t H5 s5 ht => ?_⟩
  have hb5 := hb4.same s5
  have ntp : t ≠ p := fun e => by obtain ⟨_, _, _, z, _⟩ := hb5; rw [e] at ht; rw [z] at ht; cases ht
  refine ⟨_, rfl, t, _, 1, .int (lo2 (d3 * sgn) l), rfl, rfl, SqT.of ht, rfl, rfl, _, rfl, ?_⟩
  refine ite2 (fun c1 => ?_) (fun c1 => ?_)
  · have e1 : lo2 (d3 * sgn) l = 1 := by have z := of_decide_eq_true c1; injection z
    refine ⟨_, rfl, p, 2, rfl, hb5, by decide, by decide, fun d5 n5 sd5 c5 d50 d51 hb6 => ⟨rfl, _, rfl, ?_⟩⟩
    have ht6 : upd H5 p (BoxL n5 sd5 c5) t = some (.tup [.int (lo1 (d3 * sgn) l), .int (lo2 (d3 * sgn) l)]) := by rw [upd_ne ntp]; exact ht
    have b6 : But p H (upd H5 p (BoxL n5 sd5 c5)) := (bb.trans (But.of s5)).trans But.upd
    refine ite2 (fun c2 => ?_) (fun c2 => ?_)
    · refine ⟨_, rfl, t, _, 0, .int (lo1 (d3 * sgn) l), rfl, rfl, SqT.of ht6, rfl, _, rfl, (by show 2 ≤ sizeLine; decide), fun r hr => ?_⟩
      exact fin r t _ _ _ _ tm (.inl ⟨rfl, e1⟩) upd_same (same_upd hr _ _ ht6) (hb6.same (same_upd hr)) (b6.trans (But.of (same_upd hr)))
    · refine ⟨_, rfl, _, rfl, rfl, fun m dm nm ndm _ => made_at bl nz nm ndm fun H7 s7 hm => ⟨rfl, _, rfl, (by show 2 ≤ sizeLine; decide), fun r hr => ?_⟩⟩
      exact fin r t _ _ _ _ tm (.inr ⟨m, rfl, hm.same (same_upd hr)⟩) upd_same (same_upd hr _ _ (s7 _ _ ht6)) ((hb6.same s7).same (same_upd hr)) (b6.trans (But.of (s7.trans (same_upd hr))))
  · refine ⟨_, rfl, _, rfl, rfl, fun m dm nm ndm _ => made_at bl nz nm ndm fun H7 s7 hm => ⟨rfl, _, rfl, (by show 2 ≤ sizeLine; decide), fun r hr => ?_⟩⟩
    exact fin r t _ _ _ _ tm (.inr ⟨m, rfl, hm.same (same_upd hr)⟩) upd_same (same_upd hr _ _ (s7 _ _ ht)) ((hb5.same s7).same (same_upd hr)) ((bb.trans (But.of s5)).trans (But.of (s7.trans (same_upd hr))))
end

/-! ### k04: quotients -/
abbrev lawLevel : Nat := 14
def spLaw (K : PySem.W.Frag) : Sp := fun vs H Q _ => ∃ (a : Addr) (ns : List Int), vs = [.ref a] ∧ SqL K H a (ns.map V.int) ∧ ns.length ≤ 63 ∧ ∀ H', Q (.bl true) H'
theorem tm_bq {a b : Int} (t : Tm a b) : Bq a ∧ Bq b := by
  have e : (2 : Nat) ^ 30 ≤ 2 ^ 200 := Nat.pow_le_pow_right (by decide) (by decide)
  have := t.a1; have := t.b1; have := t.b0
  exact ⟨Nat.lt_of_lt_of_le (show a.natAbs < 2 ^ 30 by omega) e, Nat.lt_of_lt_of_le (show b.natAbs < 2 ^ 30 by omega) e⟩
/-- a number 0 -/
def Zero (C : Addr) (H : Hp) (v : V) : Prop := NumV C H v 0 1
/-- the quotient by 0 refused -/
def spRef (C : Addr) : Sp := fun vs H Q _ => ∃ (p : Addr) (v : V) (a b form : Int), vs = [.ref p, v, .int form] ∧ RatAt C H p a b ∧ Tm a b ∧ NumV C H v 0 1 ∧ 0 ≤ form ∧ form < 3 ∧ ∀ q H', Same H H' → H' q = some (.tup [.int 0]) → Q (.ref q) H'
section
variable {P : Program} {w : World} {K : PySem.W.Frag} {mg : Str → Option Value} {base : Heap}
theorem ok_ref (T : Txt K mg) : FnOk P w K mg base CX0 11 T.f_lw_refused T.d_lw_refused ["_law_a", "_law_b", "_law_form"] (spRef T.C_Ratio) := by
  have kbv := Binds.kbn T.B_Ratio_over (n := 2) rfl
  have nd := sc_lw_refused.nd
  refine T.F_lw_refused.ok sc_lw_refused (fun vs H Q E ⟨_, _, _, _, _, e, _⟩ => by rw [e]; rfl) (fun cdv A outer s H vs Q E hr h => ?_)
  obtain ⟨p, v, a, b, form, rfl, hp, tm, hv, f0, f1, fin⟩ := h
  refine ⟨_, pss_cons (ps_set (i := 3) nd rfl (.inl rfl) pe_non)
    (pss_cons (ps_try_as (i := 4) (Wout := fun _ _ _ _ => False) (tb := fun W => tIfS (tTest (tOp rEq (tVar 2) (tC (.int 0))))
          (tDrop (tMe T.C_Ratio "over" 1 (spOver T.C_Ratio T.C_InvalidNumber) (fun vs _ => vs) (WE W) (tVar 0) (tCons (tVar 1) tNil) tNil))
          (tIfS (tTest (tOp rEq (tVar 2) (tC (.int 1))))
            (tAsg (tIf (tTest (tOp rEq (tOpS (r2O T.C_Ratio (spFdiv T.C_Ratio T.C_InvalidNumber) (WE W)) (tVar 0) (tVar 1)) (tC (.int 0)))) (tC .non) (tC .non)) (gName 3))
            (tAsg (tIf (tTest (tOp rEq (tOpS (r2O T.C_Ratio (spMod T.C_Ratio T.C_InvalidNumber) (WE W)) (tVar 0) (tVar 1)) (tC (.int 0)))) (tC .non) (tC .non)) (gName 3))))
        (ts := fun a cls d => tAsg (tTup (tCons (tXf a cls d T.C_InvalidNumber "value" (tVar 4)) tNil)) (gName 3))
        rfl rfl nd rfl rfl ⟨rfl, by decide, .inl T.g_InvalidNumber⟩ takes0
      (fun W pn xe tk _ => pss_one (ps_if (pt_cmpR op_eq (pv 2) pe_int (nomark _))
          (pss_one (ps_expr (pe_meP (n := 1) (E := WE W) (pv 0) T.cl_Ratio T.me_Ratio_over (ok_over T) (hr.mono (by decide)) kbv (fun σ => passAt tk σ) (by exact (pa_cons (pv 1) pa_nil)))))
          (pss_one (ps_if (pt_cmpR op_eq (pv 2) pe_int (nomark _))
            (pss_one (ps_set (i := 3) nd rfl (.inl rfl) (pe_ifExp (pt_cmpR op_eq (pe_opS (ops_bin (op := .FloorDiv) (E := WE W) T.bn_Ratio_floordiv_d (ok_fdiv T) (hr.mono (by decide)) T.B_Ratio_floordiv_d (fun σ => passAt tk σ)) (pv 0) (pv 1)) pe_int (nomark _)) pe_non pe_non)))
            (pss_one (ps_set (i := 3) nd rfl (.inl rfl) (pe_ifExp (pt_cmpR op_eq (pe_opS (ops_bin (op := .Mod) (E := WE W) T.bn_Ratio_mod_d (ok_mod T) (hr.mono (by decide)) T.B_Ratio_mod_d (fun σ => passAt tk σ)) (pv 0) (pv 1)) pe_int (nomark _)) pe_non pe_non)))))))
      (fun a oe cls d pn hz hf => pss_one (ps_set (i := 3) nd rfl (.inl rfl) (pe_tup (pa_cons (pe_xf T.xf_InvalidNumber T.n_InvalidNumber_value hz hf (pv 4)) pa_nil)))))
    (pss_one (ps_ret (pv 3)))), ?_⟩
  obtain ⟨qa, qb⟩ := tm_bq tm
  have q0 : Bq 0 := by unfold Bq; exact Nat.pos_of_ne_zero (by simp)
  have q1 : Bq 1 := by unfold Bq; exact Nat.one_lt_two_pow (by decide)
  obtain ⟨dx, e⟩ := id hp
  have sort : (∃ i, v = .int i) ∨ ∃ q dy gs, v = .ref q ∧ H q = some (.ins T.C_Ratio dy gs) := by
    rcases hv with ⟨e, _⟩ | ⟨q, e, dy, r⟩
    · exact .inl ⟨_, e⟩
    · exact .inr ⟨q, dy, _, e, r⟩
  refine ⟨_, rfl, rfl, _, rfl, ?_⟩
  obtain rfl | rfl | rfl : form = 0 ∨ form = 1 ∨ form = 2 := by omega
  · refine iteT ⟨_, rfl, p, dx, _, rfl, e, rfs_no (by decide +kernel) (by decide +kernel), _, rfl, rfl, p, v, a, b, 0, 1, rfl, hp, hv, bq_bd qa, bq_bd qb, bq_bd q0, bq_bd q1, tm.b0, by decide, fun z => absurd rfl z, fun _ => ?_⟩
    exact (fun d H' s' e => ⟨true, exm_inv T, fun _ a ha => ⟨_, rfl, rfl, rfl, d, _, _, rfl, e, xval _, (by show 1 ≤ sizeLine; decide), fun p hp => ⟨_, rfl, fin p _ (s'.trans (same_upd hp)) upd_same⟩⟩, fun q => nomatch q⟩)
  · refine iteF ⟨_, rfl, rfl, _, rfl, iteT ⟨_, rfl, _, rfl, p, dx, _, rfl, e, sort, p, v, a, b, 0, 1, rfl, hp, hv, bq_bd qa, bq_bd qb, bq_bd q0, bq_bd q1, tm.b0, by decide, fun z => absurd rfl z, fun _ => ?_⟩⟩
    exact (fun d H' s' e => ⟨true, exm_inv T, fun _ a ha => ⟨_, rfl, rfl, rfl, d, _, _, rfl, e, xval _, (by show 1 ≤ sizeLine; decide), fun p hp => ⟨_, rfl, fin p _ (s'.trans (same_upd hp)) upd_same⟩⟩, fun q => nomatch q⟩)
  · refine iteF ⟨_, rfl, rfl, _, rfl, iteF ⟨_, rfl, _, rfl, p, dx, _, rfl, e, sort, p, v, a, b, 0, 1, rfl, hp, hv, qa, qb, q0, q1, tm.b0, by decide, fun z => absurd rfl z, fun _ => ?_⟩⟩
    exact (fun d H' s' e => ⟨true, exm_inv T, fun _ a ha => ⟨_, rfl, rfl, rfl, d, _, _, rfl, e, xval _, (by show 1 ≤ sizeLine; decide), fun p hp => ⟨_, rfl, fin p _ (s'.trans (same_upd hp)) upd_same⟩⟩, fun q => nomatch q⟩)

theorem kb_overK (T : Txt K mg) : KBn K T.d_Ratio_over ["self", "other"] 1 ["other"] (fun us ws => us ++ ws) (fun vs zs => vs ++ zs) := by
  obtain ⟨oc, od, kV, doc, pm, an, cdv, ct, osl, e, _, _⟩ := T.F_Ratio_over.ex
  refine ⟨fun s us ws X l1 l2 => ?_, fun r1 r2 => r1.append r2⟩
  rw [e]
  match us, ws, l1, l2 with
  | [a], [b], _, _ => exact .of_eq rfl
/-- the quotient, its floor and the rest are right -/
def spRight (C : Addr) : Sp := fun vs H Q _ => ∃ (p : Addr) (v : V) (t1 t2 : Addr) (a b c d : Int), vs = [.ref p, v, .ref t1, .ref t2] ∧ RatAt C H p a b ∧ NumV C H v c d ∧ H t1 = some (.tup [.int a, .int b]) ∧ H t2 = some (.tup [.int c, .int d]) ∧
  Tm a b ∧ Tm c d ∧ c ≠ 0 ∧ ∀ H', Same H H' → Q (.bl true) H'
theorem ok_right (T : Txt K mg) : FnG P w K mg base CX0 11 T.f_lw_right T.d_lw_right ["_law_a", "_law_b", "_law_one", "_law_second"] (spRight T.C_Ratio) := by
  have kbv := Binds.kbn T.B_Ratio_over (n := 2) rfl
  have kbo := Binds.kbn T.B_Ratio_of (n := 2) rfl
  have kbvK := kb_overK T
  have nd := sc_lw_right.nd
  refine go0 T.F_lw_right sc_lw_right (fun vs H Q E ⟨_, _, _, _, _, _, _, _, e, _⟩ => by rw [e]; rfl) (fun cdv A outer s H vs Q E gg hr h => ?_)
  obtain ⟨p, v, t1, t2, a, b, c, d, rfl, hp, hv, h1, h2, m1, m2, cz, fin⟩ := h
  refine ⟨_, pss_cons (ps_set (i := 4) nd rfl (.inl rfl) (pe_f (E := fun _ => E0) (ok_low T) (hr.mono (by decide)) (by rfl) T.g_lw_lowest T.F_lw_lowest.kp T.B_lw_lowest (fun _ => at0)
      (pa_cons (pe_op op_mulW (pe_ix ix_tup (pv 2) pe_int (fun _ _ => rfl)) (pe_ix ix_tup (pv 3) pe_int (fun _ _ => rfl))) (pa_cons (pe_op op_mulW (pe_ix ix_tup (pv 2) pe_int (fun _ _ => rfl)) (pe_ix ix_tup (pv 3) pe_int (fun _ _ => rfl))) pa_nil))))
    (pss_cons (ps_set (i := 5) nd rfl (.inl rfl) (pe_op op_fdivX (pe_ix ix_tup (pv 4) pe_int (fun _ _ => rfl)) (pe_ix ix_tup (pv 4) pe_int (fun _ _ => rfl))))
    (pss_cons (ps_set (i := 6) nd rfl (.inl rfl) (pe_f (E := fun _ => E0) (ok_low T) (hr.mono (by decide)) (by rfl) T.g_lw_lowest T.F_lw_lowest.kp T.B_lw_lowest (fun _ => at0)
      (pa_cons (pe_op op_sub (pe_op op_mulW (pe_ix ix_tup (pv 2) pe_int (fun _ _ => rfl)) (pe_ix ix_tup (pv 3) pe_int (fun _ _ => rfl))) (pe_op op_mulW (pe_op op_mulW (pv 5) (pe_ix ix_tup (pv 3) pe_int (fun _ _ => rfl))) (pe_ix ix_tup (pv 2) pe_int (fun _ _ => rfl))))
        (pa_cons (pe_op op_mulW (pe_ix ix_tup (pv 2) pe_int (fun _ _ => rfl)) (pe_ix ix_tup (pv 3) pe_int (fun _ _ => rfl))) pa_nil))))
    (pss_cons (ps_par3 (i := 7) (j := 8) (l := 9) rfl nd rfl rfl rfl (by decide) (by decide) (by decide) rfl rfl rfl
      (pa_cons (pe_meP (n := 1) (E := fun _ => E0) (pv 0) T.cl_Ratio T.me_Ratio_over (ok_over T) (hr.mono (by decide)) kbv (fun _ => atL) (pa_cons (pv 1) pa_nil)) (pa_cons (pv 0) (pa_cons (pv 0) pa_nil))) (by rfl))
    (pss_cons (ps_aug (i := 8) nd rfl (.inl rfl) (pv 1) (opr_in (op := .FloorDiv) (E := E0) T.bn_Ratio_floordiv_d T.ni_Ratio_floordiv_d (ok_fdiv T) (hr.mono (by decide)) T.B_Ratio_floordiv_d (fun _ => atL)))
    (pss_cons (ps_aug (i := 9) nd rfl (.inl rfl) (pv 1) (opr_in (op := .Mod) (E := E0) T.bn_Ratio_mod_d T.ni_Ratio_mod_d (ok_mod T) (hr.mono (by decide)) T.B_Ratio_mod_d (fun _ => atL)))
    (pss_cons (ps_if (PW.pt (pw_or (pt_not (pt_val (pe_g (E := fun _ => E0) gg (ok_isR T) (hr.mono (by decide)) (by rfl) T.g_lw_is T.F_lw_is.kp T.B_lw_is (fun _ => at0) (pa_cons (pv 0) (pa_cons (pv 2) pa_nil)))))
        (pw_or (pt_cmpR op_ne (pe_callB (call_reprD gg hr) (by rfl) T.b_repr (by decide +kernel) (pa_cons (pv 8) pa_nil)) (pe_callB (call_reprD gg hr) (by rfl) T.b_repr (by decide +kernel) (pa_cons (pv 5) pa_nil)) (nomark _))
        (pw_or1 (pt_not (pt_val (pe_g (E := fun _ => E0) gg (ok_isR T) (hr.mono (by decide)) (by rfl) T.g_lw_is T.F_lw_is.kp T.B_lw_is (fun _ => at0) (pa_cons (pv 9) (pa_cons (pv 6) pa_nil))))))))) (pss_one (ps_ret pe_bl)) pss_nil)
    (pss_cons (ps_if (PW.pt (pw_or (pt_not (pt_val (pe_g (E := fun _ => E0) gg (ok_isR T) (hr.mono (by decide)) (by rfl) T.g_lw_is T.F_lw_is.kp T.B_lw_is (fun _ => at0) (pa_cons (pv 7) (pa_cons (pv 4) pa_nil)))))
        (pw_or (pt_not (pt_val (pe_g (E := fun _ => E0) gg (ok_isR T) (hr.mono (by decide)) (by rfl) T.g_lw_is T.F_lw_is.kp T.B_lw_is (fun _ => at0) (pa_cons (pe_meN (E := fun _ => E0) (pv 0) T.cl_Ratio T.me_Ratio_over (ok_over T) (hr.mono (by decide)) kbvK (fun _ => atL) (pk_cons (pv 1) pk_nil)) (pa_cons (pv 4) pa_nil)))))
        (pw_or1 (pt_cmpR op_ne (pe_callB (call_reprD gg hr) (by rfl) T.b_repr (by decide +kernel) (pa_cons (pe_prop (E := E0) (pv 7) T.cl_Ratio T.pr_Ratio_floor (ok_floor T) (hr.mono (by decide)) T.B_Ratio_floor .nil pass0 rfl) pa_nil)) (pe_callB (call_reprD gg hr) (by rfl) T.b_repr (by decide +kernel) (pa_cons (pv 5) pa_nil)) (nomark _)))))) (pss_one (ps_ret pe_bl)) pss_nil)
    (pss_cons (ps_if (PW.pt (pw_or (pt_cmpR op_ne (pe_callB (call_reprD gg hr) (by rfl) T.b_repr (by decide +kernel) (pa_cons (pe_prop (E := E0) (pv 7) T.cl_Ratio T.pr_Ratio_is_whole (ok_whole T) (hr.mono (by decide)) T.B_Ratio_is_whole .nil pass0 rfl) pa_nil)) (pe_callB (call_reprD gg hr) (by rfl) T.b_repr (by decide +kernel) (pa_cons (pe_cmpR op_eq (pe_ix ix_tup (pv 4) pe_int (fun _ _ => rfl)) pe_int (nomark _)) pa_nil)) (nomark _))
        (pw_or1 (pt_cmpR op_ne (pe_callB (call_reprD gg hr) (by rfl) T.b_repr (by decide +kernel) (pa_cons (pe_op (opr_bin (op := .FloorDiv) (E := E0) T.bn_Ratio_floordiv_d (ok_fdiv T) (hr.mono (by decide)) T.B_Ratio_floordiv_d (fun _ => atL)) (pv 0) (pv 1)) pa_nil)) (pe_callB (call_reprD gg hr) (by rfl) T.b_repr (by decide +kernel) (pa_cons (pv 5) pa_nil)) (nomark _))))) (pss_one (ps_ret pe_bl)) pss_nil)
    (pss_one (ps_ret (pe_and (pe_g (E := fun _ => E0) gg (ok_isR T) (hr.mono (by decide)) (by rfl) T.g_lw_is T.F_lw_is.kp T.B_lw_is (fun _ => at0) (pa_cons (pe_op (opr_bin (op := .Mod) (E := E0) T.bn_Ratio_mod_d (ok_mod T) (hr.mono (by decide)) T.B_Ratio_mod_d (fun _ => atL)) (pv 0) (pv 1)) (pa_cons (pv 6) pa_nil)))
      (pe_and (pe_g (E := fun _ => E0) gg (ok_isR T) (hr.mono (by decide)) (by rfl) T.g_lw_is T.F_lw_is.kp T.B_lw_is (fun _ => at0) (pa_cons (pv 0) (pa_cons (pv 2) pa_nil)))
      (pe_one (pe_g (E := fun _ => E0) gg (ok_isR T) (hr.mono (by decide)) (by rfl) T.g_lw_is T.F_lw_is.kp T.B_lw_is (fun _ => at0) (pa_cons (pe_cmP (n := 1) (E := fun _ => E0) (pe_glob (v := .ref T.C_Ratio) (by rfl) T.g_Ratio rfl) T.rd_Ratio T.cm_Ratio_of (ok_of T) (hr.mono (by decide)) kbo (fun _ => atL) (pa_cons (pv 1) pa_nil)) (pa_cons (pv 3) pa_nil)))))))))))))))), ?_⟩
  obtain ⟨qa, qb⟩ := tm_bq m1
  obtain ⟨qc, qd⟩ := tm_bq m2
  have ba := bq_bd qa
  have bb := bq_bd qb
  have bc := bq_bd qc
  have bd := bq_bd qd
  have b0 := m1.b0
  have d0 := m2.b0
  have nz : b * c ≠ 0 := Int.mul_ne_zero (by omega) cz
  have nz2 : b * d ≠ 0 := Int.mul_ne_zero (by omega) (by omega)
  have T1 : ∀ {G : Hp}, Same H G → SqT K G t1 [.int a, .int b] := fun s => SqT.of (s _ _ h1)
  have T2 : ∀ {G : Hp}, Same H G → SqT K G t2 [.int c, .int d] := fun s => SqT.of (s _ _ h2)
  have s0 := Same.refl H
  -- due, floor, rest
  refine ⟨_, rfl, t1, _, 0, .int a, rfl, rfl, T1 s0, rfl, _, rfl, t2, _, 1, .int d, rfl, rfl, T2 s0, rfl, _, _, rfl, rfl, bd_mulW ba bd, _, rfl, t1, _, 1, .int b, rfl, rfl, T1 s0, rfl, _, rfl, t2, _, 0, .int c, rfl, rfl, T2 s0, rfl, _, _, rfl, rfl, bd_mulW bb bc, ?_⟩
  refine ⟨a * d, b * c, rfl, nz, bd_8000 (bd_mul bb bc), fun t3 G1 s1 h3 => ?_⟩
  have x1 := lo1_le (u := a * d) (l := b * c)
  have x2 := lo2_le (u := a * d) nz
  have x3 := lo2_pos (u := a * d) nz
  have x4 := bq_mul qa qd
  have x5 := bq_mul qb qc
  refine ⟨_, rfl, t3, _, 0, _, rfl, rfl, SqT.of h3, rfl, _, rfl, t3, _, 1, _, rfl, rfl, SqT.of h3, rfl, _, _, rfl, rfl, ⟨by omega, lenU (n := 400) (Nat.lt_of_le_of_lt (by omega) x5) (by decide) (by decide)⟩, ?_⟩
  have fl := flr_le (b := b) qa qd nz
  have bk : Bd (flr a b c d) := bd_lt fl (by decide)
  have y1 : (flr a b c d * c).natAbs < 2 ^ 600 := wide_lt (a := 400) (b := 200) fl qc
  have y2 : (flr a b c d * c * b).natAbs < 2 ^ 800 := wide_lt (a := 600) (b := 200) y1 qb
  refine ⟨_, rfl, t1, _, 0, .int a, rfl, rfl, T1 s1, rfl, _, rfl, t2, _, 1, .int d, rfl, rfl, T2 s1, rfl, _, _, rfl, rfl, bd_mulW ba bd, _, rfl, _, rfl, t2, _, 0, .int c, rfl, rfl, T2 s1, rfl, _, _, rfl, rfl, bd_mulW bk bc, _, rfl, t1, _, 1, .int b, rfl, rfl, T1 s1, rfl, _, _, rfl, rfl, bd_mulW (bd_lt y1 (by decide)) bb, _, _, rfl, rfl, ?_⟩
  refine ⟨_, rfl, t1, _, 1, .int b, rfl, rfl, T1 s1, rfl, _, rfl, t2, _, 1, .int d, rfl, rfl, T2 s1, rfl, _, _, rfl, rfl, bd_mulW bb bd, ?_⟩
  refine ⟨a * d - flr a b c d * c * b, b * d, rfl, nz2, bd_8000 (bd_mul bb bd), fun t4 G2 s2 h4 => ?_⟩
  have S2 := s1.trans s2
  -- a.over(b), //=, %=
  obtain ⟨dx, e⟩ := hp.same S2
  refine ⟨_, rfl, p, dx, _, rfl, e, rfs_no (by decide +kernel) (by decide +kernel), _, rfl, rfl, p, v, a, b, c, d, rfl, hp.same S2, hv.same S2, ba, bb, bc, bd, b0, d0, fun _ m G3 s3 hm => ?_, fun z => absurd z cz⟩
  refine ⟨_, rfl, _, rfl, _, _, _, rfl, ?_⟩
  have sort : ∀ {G : Hp}, Same H G → (∃ i, v = .int i) ∨ ∃ q dy gs, v = .ref q ∧ G q = some (.ins T.C_Ratio dy gs) := fun s => by
    rcases hv.same s with ⟨e, _⟩ | ⟨q, e, dy, r⟩
    · exact .inl ⟨_, e⟩
    · exact .inr ⟨q, dy, _, e, r⟩
  have S3 := S2.trans s3
  obtain ⟨dx3, e3⟩ := hp.same S3
  refine ⟨_, rfl, _, rfl, p, dx3, _, rfl, e3, sort S3, p, v, a, b, c, d, rfl, hp.same S3, hv.same S3, ba, bb, bc, bd, b0, d0, fun _ G4 s4 => ?_, fun z => absurd z cz⟩
  have S4 := S3.trans s4
  obtain ⟨dx4, e4⟩ := hp.same S4
  refine ⟨_, rfl, _, rfl, p, dx4, _, rfl, e4, sort S4, p, v, a, b, c, d, rfl, hp.same S4, hv.same S4, qa, qb, qc, qd, b0, d0, fun _ r G5 s5 hr5 => ?_, fun z => absurd z cz⟩
  have S5 := S4.trans s5
  -- sizes of what is shown
  have sma : Sm a := sm_of m1.a1
  have smb : Sm b := sm_of (by have := m1.b1; omega)
  have smc : Sm c := sm_of m2.a1
  have smd : Sm d := sm_of (by have := m2.b1; omega)
  have big : ∀ {i : Int} {n : Nat}, i.natAbs < 2 ^ n → n ≤ 1900 → Sm i := fun h hn => sm_2000 (Nat.lt_of_lt_of_le h (Nat.pow_le_pow_right (by decide) hn))
  have smf := big fl (by decide)
  have smu1 : Sm (lo1 (a * d) (b * c)) := big (n := 400) (Nat.lt_of_le_of_lt x1 x4) (by decide)
  have smu2 : Sm (lo2 (a * d) (b * c)) := big (n := 400) (Nat.lt_of_le_of_lt (by omega) x5) (by decide)
  have z1 : (a * d - flr a b c d * c * b).natAbs < 2 ^ 801 := by
    have h4 : (2 : Nat) ^ 400 ≤ 2 ^ 800 := Nat.pow_le_pow_right (by decide) (by decide)
    have h5 : (2 : Nat) ^ 801 = 2 ^ 800 + 2 ^ 800 := by rw [Nat.pow_succ]; omega
    omega
  have smr1 : Sm (lo1 (a * d - flr a b c d * c * b) (b * d)) := big (n := 801) (Nat.lt_of_le_of_lt lo1_le z1) (by decide)
  have smr2 : Sm (lo2 (a * d - flr a b c d * c * b) (b * d)) := by
    have := lo2_le (u := a * d - flr a b c d * c * b) nz2
    have := lo2_pos (u := a * d - flr a b c d * c * b) nz2
    exact big (n := 400) (Nat.lt_of_le_of_lt (by omega) (bq_mul qb qd)) (by decide)
  have sh : ∀ i : Int, Sm i → (PyData.int i).showable = true := fun i z => decide_eq_true z
  have sz : ∀ i : Int, Sm i → (PyData.int i).shown.length ≤ sizeLine := fun i z => line_le (by have := tx_len z; show (tx i).length ≤ _; omega)
  have eqS : ∀ z : Str, (!decide (V.str z = V.str z)) = false := fun z => by simp
  -- the first row
  refine ⟨_, rfl, _, rfl, p, t1, a, b, rfl, hp.same S5, S5 _ _ h1, sma, smb, fun G6 s6 => ⟨true, rfl, iteF ?_⟩⟩
  have S6 := S5.trans s6
  refine ⟨_, rfl, _, .int (flr a b c d), rfl, .int _, sh _ smf, rfl, Nat.le_of_ble_eq_true rfl, sz _ smf, _, rfl, _, .int (flr a b c d), rfl, .int _, sh _ smf, rfl, Nat.le_of_ble_eq_true rfl, sz _ smf, rfl, _, rfl, if_false_ (eqS _) ?_⟩
  refine ⟨_, rfl, _, rfl, r, t4, _, _, rfl, hr5.same s6, ((s3.trans s4).trans (s5.trans s6)) _ _ h4, smr1, smr2, fun G7 s7 => ⟨true, rfl, iteF ?_⟩⟩
  have S7 := S6.trans s7
  -- the second
  have F7 : Same G3 G7 := ((s4.trans s5).trans s6).trans s7
  have D7 : Same G1 G7 := (s2.trans s3).trans F7
  refine ⟨_, rfl, _, rfl, m, t3, _, _, rfl, hm.same F7, D7 _ _ h3, smu1, smu2, fun G8 s8 => ⟨true, rfl, iteF ?_⟩⟩
  have S8 := S7.trans s8
  obtain ⟨dx8, e8⟩ := hp.same S8
  refine ⟨_, rfl, p, dx8, _, rfl, e8, rfs_no (by decide +kernel) (by decide +kernel), _, rfl, rfl, rfl, p, v, a, b, c, d, rfl, hp.same S8, hv.same S8, ba, bb, bc, bd, b0, d0, fun _ m2' G9 s9 hm9 => ?_, fun z => absurd z cz⟩
  have D9 : Same G1 G9 := (D7.trans s8).trans s9
  refine ⟨_, rfl, m2', t3, _, _, rfl, hm9, D9 _ _ h3, smu1, smu2, fun G10 s10 => ⟨true, rfl, iteF ?_⟩⟩
  have F10 : Same G3 G10 := ((F7.trans s8).trans s9).trans s10
  have S10 := (S8.trans s9).trans s10
  have D10 := D9.trans s10
  obtain ⟨dm, em⟩ := hm.same F10
  have fits : lo2 (a * d) (b * c) ≠ 0 ∧ (lo2 (a * d) (b * c)).natAbs.log2 < 9000 := ⟨by omega, by have : (lo2 (a * d) (b * c)).natAbs.log2 < 1920 := smu2; omega⟩
  refine ⟨_, rfl, m, dm, _, rfl, em, m, _, _, rfl, hm.same F10, fits.1, fits.2, _, .int (flr a b c d), rfl, .int _, sh _ smf, rfl, Nat.le_of_ble_eq_true rfl, sz _ smf, _, rfl, _, .int (flr a b c d), rfl, .int _, sh _ smf, rfl, Nat.le_of_ble_eq_true rfl, sz _ smf, rfl, _, rfl, if_false_ (eqS _) ?_⟩
  -- the third
  have shB : ∀ x : Bool, (PyData.bool x).showable = true ∧ (PyData.bool x).hasDict = false ∧ (PyData.bool x).depth ≤ 60 ∧ (PyData.bool x).shown.length ≤ sizeLine := fun x => by
    cases x
    · exact ⟨rfl, rfl, Nat.le_of_ble_eq_true rfl, line_le (by decide +kernel)⟩
    · exact ⟨rfl, rfl, Nat.le_of_ble_eq_true rfl, line_le (by decide +kernel)⟩
  obtain ⟨w1, w2, w3, w4⟩ := shB (decide (lo2 (a * d) (b * c) = 1))
  obtain ⟨v1, v2, v3, v4⟩ := shB (decide (V.int (lo2 (a * d) (b * c)) = V.int 1))
  refine ⟨_, rfl, m, dm, _, rfl, em, m, _, _, rfl, hm.same F10, _, .bool (decide (lo2 (a * d) (b * c) = 1)), rfl, .bl _, w1, w2, w3, w4, ?_⟩
  refine ⟨_, rfl, t3, _, 1, _, rfl, rfl, SqT.of (D10 _ _ h3), rfl, rfl, _, .bool (decide (V.int (lo2 (a * d) (b * c)) = V.int 1)), rfl, .bl _, v1, v2, v3, v4, rfl, _, rfl, ?_⟩
  have eB : (!decide (V.str (PyData.bool (decide (lo2 (a * d) (b * c) = 1))).shown = V.str (PyData.bool (decide (V.int (lo2 (a * d) (b * c)) = V.int 1))).shown)) = false := by
    have : decide (V.int (lo2 (a * d) (b * c)) = V.int 1) = decide (lo2 (a * d) (b * c) = 1) := by simp
    rw [this]
    exact eqS _
  refine if_false_ eB ?_
  obtain ⟨dx10, e10⟩ := hp.same S10
  refine ⟨_, rfl, _, rfl, p, dx10, _, rfl, e10, sort S10, p, v, a, b, c, d, rfl, hp.same S10, hv.same S10, ba, bb, bc, bd, b0, d0, fun _ G11 s11 => ?_, fun z => absurd z cz⟩
  have S11 := S10.trans s11
  refine ⟨_, .int (flr a b c d), rfl, .int _, sh _ smf, rfl, Nat.le_of_ble_eq_true rfl, sz _ smf, _, rfl, _, .int (flr a b c d), rfl, .int _, sh _ smf, rfl, Nat.le_of_ble_eq_true rfl, sz _ smf, rfl, _, rfl, if_false_ (eqS _) ?_⟩
  -- what is returned
  obtain ⟨dx11, e11⟩ := hp.same S11
  refine ⟨_, rfl, _, rfl, p, dx11, _, rfl, e11, sort S11, p, v, a, b, c, d, rfl, hp.same S11, hv.same S11, qa, qb, qc, qd, b0, d0, fun _ r2 G12 s12 hr12 => ?_, fun z => absurd z cz⟩
  have S12 := S11.trans s12
  refine ⟨_, rfl, r2, t4, _, _, rfl, hr12, ((((((s3.trans F7).trans s8).trans s9).trans s10).trans s11).trans s12) _ _ h4, smr1, smr2, fun G13 s13 => ⟨true, rfl, iteT ?_⟩⟩
  have S13 := S12.trans s13
  refine ⟨_, rfl, _, rfl, p, t1, a, b, rfl, hp.same S13, S13 _ _ h1, sma, smb, fun G14 s14 => ⟨true, rfl, iteT ?_⟩⟩
  have S14 := S13.trans s14
  refine ⟨rfl, _, rfl, rfl, of_num (hv.same S14) fun q G15 s15 hq => ?_⟩
  have S15 := S14.trans s15
  exact ⟨_, rfl, q, t2, c, d, rfl, hq, S15 _ _ h2, smc, smd, fun G16 s16 => fin _ (S15.trans s16)⟩

theorem ok_law (T : Txt K mg) : FnG P w K mg base CX0 lawLevel T.f_law T.d_law ["_law_script"] (spLaw K) := by
  obtain ⟨its2, kb2⟩ := kb_init2 T
  obtain ⟨its1, kb1⟩ := kb_init1 T
  have kbo := Binds.kbn T.B_Ratio_of (n := 2) rfl
  have M : Mk K T.C_Ratio T.f_Ratio_init_d := ⟨T.mk_Ratio, T.m_Ratio_init_d.at_, T.m_Ratio_init_d.fn, T.kp_Ratio⟩
  refine go0 T.F_law sc_law (fun vs H Q E ⟨_, _, e, _⟩ => by rw [e]; rfl) (fun cdv A outer s H vs Q E gg hr h => ?_)
  obtain ⟨a, ns, rfl, hS, hl, fin⟩ := h
  have nd := sc_law.nd
  refine ⟨_, pss_cons (ps_for PassesOwn.never rfl (pi_range1 (by rfl) T.b_range (pa_cons (pe_callB (call_max2 rfl) (by rfl) T.b_max (by decide +kernel) (pa_cons pe_int (pa_cons (pe_callB (call_min2 rfl) (by rfl) T.b_min (by decide +kernel) (pa_cons pe_int (pa_cons (pe_callB call_len_seq (by rfl) T.b_len PySem.boot_len (pa_cons (pv 0) pa_nil)) pa_nil))) pa_nil))) pa_nil)) (pg_name (i := 1) nd rfl (.inl rfl))
      (pss_cons (ps_set (i := 2) nd rfl (.inl rfl) (pe_f (E := fun _ => E0) (ok_box T) (hr.mono (by decide)) (by rfl) T.g_lw_box T.F_lw_box.kp T.B_lw_box (fun _ => at0) (pa_cons (pv 0) (pa_cons (pv 1) pa_nil))))
      (pss_one (ps_for PassesOwn.never rfl (pi_range1 (by rfl) T.b_range (pa_cons (pe_op op_add pe_int (pe_f (E := fun _ => E0) (ok_take T) (hr.mono (by decide)) (by rfl) T.g_lw_take T.F_lw_take.kp T.B_lw_take (fun _ => at0) (pa_cons (pv 2) (pa_cons pe_int pa_nil)))) pa_nil)) (pg_name (i := 3) nd rfl (.inl rfl))
        (pss_cons (ps_asg (pe_f (E := fun _ => E0) (ok_numb T) (hr.mono (by decide)) (by rfl) T.g_lw_number T.F_lw_number.kp T.B_lw_number (fun _ => at0) (pa_cons (pv 2) pa_nil)) (pg_tup rfl (pgs_cons (pg_name (i := 4) nd rfl (.inl rfl)) (pgs_cons (pg_name (i := 5) nd rfl (.inl rfl)) pgs_nil))))
        (pss_cons (ps_asg (pe_f (E := fun _ => E0) (ok_numb T) (hr.mono (by decide)) (by rfl) T.g_lw_number T.F_lw_number.kp T.B_lw_number (fun _ => at0) (pa_cons (pv 2) pa_nil)) (pg_tup rfl (pgs_cons (pg_name (i := 6) nd rfl (.inl rfl)) (pgs_cons (pg_name (i := 7) nd rfl (.inl rfl)) pgs_nil))))
        (pss_cons (ps_set (i := 8) nd rfl (.inr rfl) (pe_cmP (n := 1) (E := fun _ => E0) (pe_glob (v := .ref T.C_Ratio) (by rfl) T.g_Ratio rfl) T.rd_Ratio T.cm_Ratio_of (ok_of T) (hr.mono (by decide)) kbo (fun _ => atL) (pa_cons (pv 4) pa_nil)))
        (C8.pss_cut (ps_if (PW.pt (pw_and (pt_cmpR op_ne (pe_ix ix_tup (pv 7) pe_int (fun _ _ => rfl)) pe_int (nomark _)) (pw_and1 (pt_not (pt_val (pe_g (E := fun _ => E0) gg (ok_right T) (hr.mono (by decide)) (by rfl) T.g_lw_right T.F_lw_right.kp T.B_lw_right (fun _ => at0) (pa_cons (pv 8) (pa_cons (pv 6) (pa_cons (pv 5) (pa_cons (pv 7) pa_nil)))))))))) (pss_one (ps_ret pe_bl)) pss_nil)
        (pss_one (ps_for PassesOwn.never rfl (pi_tup (pe_tup (pa_cons pe_int (pa_cons (pe_mkP (n := 1) (E := fun _ => E0) M (ok_init T) (hr.mono (by decide)) (by rfl) T.g_Ratio kb1 (fun _ => atL) (pa_cons pe_int pa_nil)) (pa_cons (pe_mkP (n := 2) (E := fun _ => E0) M (ok_init T) (hr.mono (by decide)) (by rfl) T.g_Ratio kb2 (fun _ => atL) (pa_cons pe_int (pa_cons pe_int pa_nil))) pa_nil))))) (pg_name (i := 9) nd rfl (.inr rfl))
          (pss_cons (ps_setLc (i := 10) (own := [("_law_form", 11)]) (g := gName 11) (tt := tYes) (te := tCl (spRef T.C_Ratio) (fun _ => E0) (tCons (tVar 8) (tCons (tVar 9) (tCons (tVar 11) tNil)))) rfl nd rfl rfl (sw_true rfl rfl rfl (by decide +kernel)) (pi_range1 (by rfl) T.b_range (pa_cons pe_int pa_nil))
              (blkOk_by (own := [("_law_form", 11)]) (N := ["_law_script", "_law_k", "_law_box_here", "_law_turn", "_law_start", "_law_one", "_law_b", "_law_second", "_law_a", "_law_zero", "_law_found", "_law_form", "_law_value"]) (sc := defScope s_law) (by decide +kernel)) (fun _ _ _ _ _ => pg_name (i := 11) nd rfl (Or.inl rfl)) (fun _ _ _ _ _ => pts_nil)
              (fun _ _ _ _ _ => pe_f (E := fun _ => E0) (ok_ref T) (hr.mono (by decide)) (by rfl) T.g_lw_refused T.F_lw_refused.kp T.B_lw_refused (fun _ => at0) (by exact (pa_cons (pv 8) (pa_cons (pv 9) (pa_cons (pv 11) pa_nil))))))
          (pss_one (ps_if (pt_cmpR (op_neD hr.units) (pe_lc (own := [("_law_value", 12)]) (g := gName 12) (tt := tOr (tTest (tOp (fun x y H Q => y = .non ∧ Q (.bl (decide (x = .non))) H) (tVar 12) (tC .non))) (tTest (tOp rNe (tOp (rIxT K) (tVar 12) (tC (.int 0))) (tC (.int 0))))) (te := tVar 12) rfl nd (pi_list (pv 10))
              (blkOk_by (own := [("_law_value", 12)]) (N := ["_law_script", "_law_k", "_law_box_here", "_law_turn", "_law_start", "_law_one", "_law_b", "_law_second", "_law_a", "_law_zero", "_law_found", "_law_form", "_law_value"]) (sc := defScope s_law) (by decide +kernel)) (fun _ _ _ _ _ => pg_name (i := 12) nd rfl (Or.inl rfl)) (fun _ _ _ _ _ => pts_one (PW.pt (pw_or (pt_cmpR op_isN (pv 12) pe_non (nomark _)) (pw_or1 (pt_cmpR op_ne (pe_ix ix_tup (pv 12) pe_int (fun _ _ => rfl)) pe_int (nomark _))))))
              (fun _ _ _ _ _ => pv 12)) (pe_lst pa_nil) (nomark _)) (pss_one (ps_ret pe_bl)) pss_nil)))))))))))))
    (pss_one (ps_ret pe_bl)), ?_⟩
  refine ⟨_, rfl, a, _, rfl, .inl hS, _, _, rfl, _, _, rfl, _, rfl, ?_, ?_, for_range (lo := 0) (fun _ σ H' => Same H H' ∧ ∃ v1 v2 v3 v4 v5 v6 v7 v8 v9 v10 v11 v12 : Option V, σ = [some (.ref a), v1, v2, v3, v4, v5, v6, v7, v8, v9, v10, v11, v12]) ⟨Same.refl H, _, _, _, _, _, _, _, _, _, _, _, _, rfl⟩ ?_ ?_⟩
  · rw [List.length_map]; repeat (first | omega | split)
  · rw [List.length_map]; repeat (first | omega | split)
  rotate_left
  · rintro σ H' ⟨s, _⟩
    exact fin H'
  rintro i σ H1 - ⟨s1, v1, v2, v3, v4, v5, v6, v7, v8, v9, v10, v11, v12, rfl⟩
  refine ⟨_, rfl, _, rfl, a, ns, 0 + (i : Int), rfl, s1.seq hS, by omega, fun p H2 np s2 hb => ?_⟩
  refine ⟨_, rfl, p, 6, rfl, hb, by decide, by decide, fun d0 n0 sd0 c0 d00 d01 hb0 => ⟨_, _, rfl, rfl, _, rfl, by omega, by omega, for_range (lo := 0) (fun _ σ' H' => Same H1 H' ∧ BoxAt H' p ∧ ∃ w3 w4 w5 w6 w7 w8 w9 w10 w11 w12 : Option V, σ' = [some (.ref a), some (.int (0 + (i : Int))), some (.ref p), w3, w4, w5, w6, w7, w8, w9, w10, w11, w12])
    ⟨but_new np s2 But.upd, hb0, _, _, _, _, _, _, _, _, _, _, rfl⟩ ?_ (fun σ' H' ⟨s', _, w3, w4, w5, w6, w7, w8, w9, w10, w11, w12, e⟩ => ⟨s1.trans s', _, _, _, _, _, _, _, _, _, _, _, _, e⟩)⟩⟩
  rintro j σ' Hj - ⟨sj, hbj, w3, w4, w5, w6, w7, w8, w9, w10, w11, w12, rfl⟩
  -- two numbers, the ratio
  refine ⟨_, rfl, p, rfl, hbj, fun ta ta2 va a1 b1 H3 m1 nv1 hta hta2 hb3 bb3 => ⟨ta, _, rfl, SqT.of hta, rfl, _, _, rfl, _, _, rfl, rfl, ?_⟩⟩
  refine ⟨_, rfl, p, rfl, hb3, fun tb tb2 vb c d H4 m2 nv2 htb htb2 hb4 bb4 => ⟨tb, _, rfl, SqT.of htb, rfl, _, _, rfl, _, _, rfl, rfl, ?_⟩⟩
  have S4 : Same H1 H4 := but_new np (but_new np sj bb3) bb4
  refine ⟨rfl, _, rfl, rfl, of_num (nv1.but hb3 bb4) fun q H5 s5 hq => ?_⟩
  have hta5 := s5 _ _ (tup_but hta2 hb3 bb4)
  have htb5 := s5 _ _ htb2
  refine ⟨fun σ' H' => Same H5 H' ∧ σ' = [some (.ref a), some (.int (0 + (i : Int))), some (.ref p), some (.int (0 + (j : Int))), some va, some (.ref ta2), some vb, some (.ref tb2), some (.ref q), w9, w10, w11, w12], ?_, ?_⟩
  · refine ⟨_, rfl, tb2, _, 0, .int c, rfl, rfl, SqT.of htb5, rfl, rfl, _, rfl, ?_⟩
    refine ite2 (fun z => ?_) (fun z => ?_)
    · have cz : c ≠ 0 := by simpa using z
      exact ⟨_, rfl, _, rfl, _, rfl, _, rfl, q, vb, ta2, tb2, a1, b1, c, d, rfl, hq, nv2.same s5, hta5, htb5, m1, m2, cz, fun G sG => ⟨true, rfl, iteF ⟨sG, rfl⟩⟩⟩
    · exact iteF ⟨Same.refl _, rfl⟩
  rintro _ H6 ⟨s6, rfl⟩
  -- the zeros
  have seven : (7 : Int).natAbs < 2 ^ 8000 := Nat.lt_of_lt_of_le (show (7 : Int).natAbs < 2 ^ 3 by decide) (Nat.pow_le_pow_right (by decide) (by decide))
  refine ⟨rfl, fun y1 dy1 ny1 ndy1 _ => made_at small1 (by decide) ny1 ndy1 fun H7 s7 hy1 => ⟨rfl, ?_⟩⟩
  refine ⟨rfl, fun y2 dy2 ny2 ndy2 _ => made_at seven (by decide) ny2 ndy2 fun H8 s8 hy2 => ⟨rfl, ?_⟩⟩
  rw [(lo_one 0).1, (lo_one 0).2] at hy1
  rw [show lo1 0 7 = 0 by decide +kernel, show lo2 0 7 = 1 by decide +kernel] at hy2
  refine ⟨(by show 3 ≤ sizeLine; decide), fun tp htp => ?_⟩
  have s9 : Same H8 (upd H8 tp (.tup [.int 0, .ref y1, .ref y2])) := same_upd htp
  have s69 : Same H5 (upd H8 tp (.tup [.int 0, .ref y1, .ref y2])) := ((s6.trans s7).trans s8).trans s9
  refine ⟨tp, rfl, ⟨_, SqT.of upd_same⟩, for_tup (K := K) (a := tp) (xs := [.int 0, .ref y1, .ref y2]) (fun _ σ' H' => Same (upd H8 tp (.tup [.int 0, .ref y1, .ref y2])) H' ∧
      ∃ w9 w10 w11 w12 : Option V, σ' = [some (.ref a), some (.int (0 + (i : Int))), some (.ref p), some (.int (0 + (j : Int))), some va, some (.ref ta2), some vb, some (.ref tb2), some (.ref q), w9, w10, w11, w12])
    ⟨Same.refl _, _, _, _, _, rfl⟩ (fun _ σ' H' _ ⟨s, _⟩ => sqT_same s upd_same) ?_ (fun σ' H' ⟨s, w9, w10, w11, w12, e⟩ => ⟨S4.trans (s5.trans (s69.trans s)), hb4.same (s5.trans (s69.trans s)), _, _, _, _, _, _, _, _, _, _, e⟩)⟩
  rintro k x σ' H' hx ⟨s, w9, w10, w11, w12, rfl⟩
  have hz : NumV T.C_Ratio H' x 0 1 := by
    have hx := List.mem_of_getElem? hx
    simp only [List.mem_cons, List.not_mem_nil, or_false] at hx
    rcases hx with rfl | rfl | rfl
    · exact .inl ⟨rfl, rfl⟩
    · exact .inr ⟨_, rfl, hy1.same ((s8.trans s9).trans s)⟩
    · exact .inr ⟨_, rfl, hy2.same (s9.trans s)⟩
  have hqH := hq.same (s69.trans s)
  refine ⟨_, rfl, by decide, by decide, fun D hD => lc_range (lo := 0) (n := 3) (fun n G => ∃ qs : List Addr, qs.length = n ∧ G D = some (.lst (qs.map V.ref)) ∧ (∀ r ∈ qs, G r = some (.tup [.int 0])) ∧ Same H' G)
    ⟨[], rfl, upd_same, (fun _ h => nomatch h), same_upd hD⟩ ?_ ?_⟩
  · rintro n G hn ⟨qs, el, eD, eq, sG⟩
    refine ⟨rfl, ?_⟩
    unfold tYes
    refine iteT ⟨_, rfl, _, rfl, _, rfl, q, x, a1, b1, 0 + (n : Int), rfl, hqH.same sG, m1, hz.same sG, by omega, by omega, fun r G2 s2 hr => ?_⟩
    refine ⟨qs.map V.ref, s2 _ _ eD, by rw [List.length_map, el]; exact Nat.lt_of_lt_of_le hn (by rw [sizeLine_eq]; decide), qs ++ [r], by rw [List.length_append, el]; rfl, by rw [upd_same, List.map_append]; rfl, fun r' hr' => ?_, fun b o e => by rw [upd_ne (ne_of_none e hD)]; exact (sG.trans s2) b o e⟩
    have at2 : G2 r' = some (.tup [.int 0]) := by
      rcases List.mem_append.mp hr' with h | h
      · exact s2 _ _ (eq r' h)
      · rw [List.mem_singleton.mp h]; exact hr
    rw [upd_ne (fun z => by rw [z, s2 _ _ eD] at at2; cases at2)]
    exact at2
  rintro G ⟨qs, el, eD, eq, sG⟩
  refine ⟨_, rfl, D, rfl, ⟨_, SqL.of eD⟩, fun D2 hD2 => lc_list (K := K) (a := D) (xs := qs.map V.ref) (fun _ G3 => G3 = upd G D2 (.lst [])) rfl (fun _ G3 _ e => ?_) ?_ ?_⟩
  · subst e
    exact SqL.of (by rw [upd_ne (ne_of_none eD hD2)]; exact eD)
  · rintro i' x' _ hx' rfl
    obtain ⟨r, hr, rfl⟩ : ∃ r ∈ qs, x' = .ref r := by
      have := List.mem_of_getElem? hx'
      obtain ⟨r, h1, h2⟩ := List.mem_map.mp this
      exact ⟨r, h1, h2.symm⟩
    have hr2 : upd G D2 (.lst []) r = some (.tup [.int 0]) := by rw [upd_ne (ne_of_none (eq r hr) hD2)]; exact eq r hr
    exact ⟨rfl, _, rfl, rfl, _, rfl, if_false_ (by simp) ⟨_, rfl, r, _, 0, .int 0, rfl, rfl, SqT.of hr2, rfl, rfl, _, rfl, if_false_ (by simp) rfl⟩⟩
  · rintro _ rfl
    refine ⟨Nat.zero_le _, fun e he => ⟨.list [], .list [], .lst (SqL.of (same_upd he _ _ upd_same)) .nil, .lst (SqL.of upd_same) .nil, rfl, rfl, _, rfl, if_false_ (by rw [SeqAt.eqv_refl _ rfl]; rfl) ?_⟩⟩
    exact ⟨s.trans (sG.trans ((same_upd hD2).trans (same_upd he))), _, _, _, _, rfl⟩
end

theorem law_asks {K : PySem.W.Frag} {H : Hp} {a : Addr} {ns : List Int} (hl : ns.length ≤ 63) (hS : SqL K H a (ns.map V.int)) : spLaw K [.ref a] H (fun v _ => v = .bl true) E0 := ⟨a, ns, rfl, hS, hl, fun _ => rfl⟩
end Pm
open PySem PySem.W PyProof.Rows in
set_option maxRecDepth 100000 in
set_option maxHeartbeats 0 in
theorem PySem.Challenge.cw_poolsmeet_k04_quotients_holds : PySem.Challenge.rw_poolsmeet_k04_quotients.Holds := by
  refine Pm.hd ?_
  k_fill
  refine Pm.walk (l := PySem.Challenge.rw_poolsmeet_k04_quotients) (lv := Pm.lawLevel) (sp := Pm.spLaw) rfl rfl ⟨rfl, by decide, by decide⟩ (fun w h Y => PySem.W.kIn_of Y) ?F (fun hl hS => Pm.law_asks hl hS)
  case F =>
    intro w mg fa h KX G hmg
    refine' Pm.all_mk (fun T => Pm.ok_law T) KX G hmg ?zb_len ?zb_range ?zb_int ?zb_str ?zb_bool ?zb_abs ?zb_isinstance ?zb_repr ?zb_max ?zb_min ?gi_gcd ?gc_PoolError ?xl_PoolError ?xr_PoolError ?xs_PoolError ?xa_PoolError ?xg_PoolError ?xe_PoolError ?xt_PoolError ?xh_PoolError ?xk_PoolError ?xi_PoolError ?xq_PoolError ?gc_InvalidNumber ?xl_InvalidNumber ?xr_InvalidNumber ?xs_InvalidNumber ?xa_InvalidNumber ?xg_InvalidNumber ?xe_InvalidNumber ?xt_InvalidNumber ?xh_InvalidNumber ?xk_InvalidNumber ?xi_InvalidNumber ?xq_InvalidNumber ?na_InvalidNumber_value ?gc_Ratio ?pg_Ratio ?hd_Ratio ?po_Ratio ?sa_Ratio ?tca_Ratio ?tcb_Ratio ?tcc_Ratio ?tcd_Ratio ?ric_Ratio ?rty_Ratio ?rss_Ratio ?rda_Ratio ?rdb_Ratio ?mk_Ratio ?kc_Ratio ?sf_Ratio ?mra_Ratio ?mrb_Ratio ?st_Ratio_int ?st_Ratio_bool ?st_Ratio_str ?st_Ratio_NoneType ?st_Ratio_tuple ?su_Ratio_int ?su_Ratio_bool ?su_Ratio_tuple ?su_Ratio_str ?su_Ratio_NoneType ?na_Ratio_top ?na_Ratio_bottom ?a_InvalidNumber_init_d ?i_InvalidNumber_init_d ?l_InvalidNumber_init_d ?c_InvalidNumber_init_d ?k_InvalidNumber_init_d ?a_Ratio_init_d ?i_Ratio_init_d ?l_Ratio_init_d ?dl_Ratio_init_d ?dd_Ratio_init_d ?dv_Ratio_init_d ?c_Ratio_init_d ?k_Ratio_init_d ?a_Ratio_of ?r_Ratio_of ?i_Ratio_of ?l_Ratio_of ?c_Ratio_of ?k_Ratio_of ?a_Ratio_is_whole ?pg_Ratio_is_whole ?pt_Ratio_is_whole ?r_Ratio_is_whole ?l_Ratio_is_whole ?c_Ratio_is_whole ?k_Ratio_is_whole ?a_Ratio_floor ?pg_Ratio_floor ?pt_Ratio_floor ?r_Ratio_floor ?l_Ratio_floor ?c_Ratio_floor ?k_Ratio_floor ?a_Ratio_over ?i_Ratio_over ?l_Ratio_over ?c_Ratio_over ?k_Ratio_over ?a_Ratio_sub_d ?i_Ratio_sub_d ?l_Ratio_sub_d ?c_Ratio_sub_d ?k_Ratio_sub_d ?br_Ratio_sub_d ?bp_Ratio_sub_d ?bl_Ratio_sub_d ?bo_Ratio_sub_d ?ba_Ratio_sub_d ?n1_Ratio_sub_d ?n2_Ratio_sub_d ?a_Ratio_mul_d ?i_Ratio_mul_d ?l_Ratio_mul_d ?c_Ratio_mul_d ?k_Ratio_mul_d ?br_Ratio_mul_d ?bp_Ratio_mul_d ?bl_Ratio_mul_d ?bo_Ratio_mul_d ?ba_Ratio_mul_d ?n1_Ratio_mul_d ?n2_Ratio_mul_d ?a_Ratio_floordiv_d ?i_Ratio_floordiv_d ?l_Ratio_floordiv_d ?c_Ratio_floordiv_d ?k_Ratio_floordiv_d ?br_Ratio_floordiv_d ?bp_Ratio_floordiv_d ?bl_Ratio_floordiv_d ?bo_Ratio_floordiv_d ?ba_Ratio_floordiv_d ?n1_Ratio_floordiv_d ?n2_Ratio_floordiv_d ?a_Ratio_mod_d ?i_Ratio_mod_d ?l_Ratio_mod_d ?c_Ratio_mod_d ?k_Ratio_mod_d ?br_Ratio_mod_d ?bp_Ratio_mod_d ?bl_Ratio_mod_d ?bo_Ratio_mod_d ?ba_Ratio_mod_d ?n1_Ratio_mod_d ?n2_Ratio_mod_d ?a_is_number ?l_is_number ?c_is_number ?k_is_number ?a_lw_box ?l_lw_box ?c_lw_box ?k_lw_box ?a_lw_take ?l_lw_take ?c_lw_take ?k_lw_take ?a_lw_lowest ?l_lw_lowest ?c_lw_lowest ?k_lw_lowest ?a_lw_number ?l_lw_number ?c_lw_number ?k_lw_number ?a_lw_is ?l_lw_is ?c_lw_is ?k_lw_is ?a_lw_refused ?l_lw_refused ?c_lw_refused ?k_lw_refused ?a_lw_right ?l_lw_right ?c_lw_right ?k_lw_right ?a_law ?l_law ?c_law ?k_law
    (case zb_len => k_is)
    (case zb_range => k_is)
    (case zb_int => k_is)
    (case zb_str => k_is)
    (case zb_bool => k_is)
    (case zb_abs => k_is)
    (case zb_isinstance => k_is)
    (case zb_repr => k_is)
    (case zb_max => k_is)
    (case zb_min => k_is)
    (case gi_gcd => k_is)
    (case gc_PoolError => k_is)
    (case xl_PoolError => k_is)
    (case xr_PoolError => first | rfl | decide +kernel)
    (case xs_PoolError => k_is)
    (case xa_PoolError => k_is)
    (case xg_PoolError => k_is)
    (case xe_PoolError => k_is)
    (case xt_PoolError => k_is)
    (case xh_PoolError => k_is)
    (case xk_PoolError => k_is)
    (case xi_PoolError => k_is)
    (case xq_PoolError => first | rfl | k_is)
    (case gc_InvalidNumber => k_is)
    (case xl_InvalidNumber => k_is)
    (case xr_InvalidNumber => first | rfl | decide +kernel)
    (case xs_InvalidNumber => k_is)
    (case xa_InvalidNumber => k_is)
    (case xg_InvalidNumber => k_is)
    (case xe_InvalidNumber => k_is)
    (case xt_InvalidNumber => k_is)
    (case xh_InvalidNumber => k_is)
    (case xk_InvalidNumber => k_is)
    (case xi_InvalidNumber => k_is)
    (case xq_InvalidNumber => first | rfl | k_is)
    (case na_InvalidNumber_value => k_is)
    (case gc_Ratio => k_is)
    (case pg_Ratio => k_is)
    (case hd_Ratio => k_is)
    (case po_Ratio => k_is)
    (case sa_Ratio => k_is)
    (case tca_Ratio => k_is)
    (case tcb_Ratio => k_is)
    (case tcc_Ratio => k_is)
    (case tcd_Ratio => k_is)
    (case ric_Ratio => k_is)
    (case rty_Ratio => k_is)
    (case rss_Ratio => k_is)
    (case rda_Ratio => k_is)
    (case rdb_Ratio => k_is)
    (case mk_Ratio => k_is)
    (case kc_Ratio => k_is)
    (case sf_Ratio => k_is)
    (case mra_Ratio => k_is)
    (case mrb_Ratio => first | rfl | decide +kernel)
    (case st_Ratio_int => k_is)
    (case st_Ratio_bool => k_is)
    (case st_Ratio_str => k_is)
    (case st_Ratio_NoneType => k_is)
    (case st_Ratio_tuple => k_is)
    (case su_Ratio_int => k_is)
    (case su_Ratio_bool => k_is)
    (case su_Ratio_tuple => k_is)
    (case su_Ratio_str => k_is)
    (case su_Ratio_NoneType => k_is)
    (case na_Ratio_top => k_is)
    (case na_Ratio_bottom => k_is)
    (case a_InvalidNumber_init_d => k_is)
    (case i_InvalidNumber_init_d => k_is)
    (case l_InvalidNumber_init_d => k_is)
    (case c_InvalidNumber_init_d => k_is)
    (case k_InvalidNumber_init_d => k_is)
    (case a_Ratio_init_d => k_is)
    (case i_Ratio_init_d => k_is)
    (case l_Ratio_init_d => k_is)
    (case dl_Ratio_init_d => k_is)
    (case dd_Ratio_init_d => rfl)
    (case dv_Ratio_init_d => exact .cons ⟨_, rfl⟩ .nil)
    (case c_Ratio_init_d => k_is)
    (case k_Ratio_init_d => k_is)
    (case a_Ratio_of => k_is)
    (case r_Ratio_of => k_is)
    (case i_Ratio_of => k_is)
    (case l_Ratio_of => k_is)
    (case c_Ratio_of => k_is)
    (case k_Ratio_of => k_is)
    (case a_Ratio_is_whole => k_is)
    (case pg_Ratio_is_whole => k_is)
    (case pt_Ratio_is_whole => k_is)
    (case r_Ratio_is_whole => k_is)
    (case l_Ratio_is_whole => k_is)
    (case c_Ratio_is_whole => k_is)
    (case k_Ratio_is_whole => k_is)
    (case a_Ratio_floor => k_is)
    (case pg_Ratio_floor => k_is)
    (case pt_Ratio_floor => k_is)
    (case r_Ratio_floor => k_is)
    (case l_Ratio_floor => k_is)
    (case c_Ratio_floor => k_is)
    (case k_Ratio_floor => k_is)
    (case a_Ratio_over => k_is)
    (case i_Ratio_over => k_is)
    (case l_Ratio_over => k_is)
    (case c_Ratio_over => k_is)
    (case k_Ratio_over => k_is)
    (case a_Ratio_sub_d => k_is)
    (case i_Ratio_sub_d => k_is)
    (case l_Ratio_sub_d => k_is)
    (case c_Ratio_sub_d => k_is)
    (case k_Ratio_sub_d => k_is)
    (case br_Ratio_sub_d => k_is)
    (case bp_Ratio_sub_d => first | exact .inl rfl | exact .inr ⟨_, rfl⟩)
    (case bl_Ratio_sub_d => k_is)
    (case bo_Ratio_sub_d => k_is)
    (case ba_Ratio_sub_d => k_is)
    (case n1_Ratio_sub_d => k_is)
    (case n2_Ratio_sub_d => k_is)
    (case a_Ratio_mul_d => k_is)
    (case i_Ratio_mul_d => k_is)
    (case l_Ratio_mul_d => k_is)
    (case c_Ratio_mul_d => k_is)
    (case k_Ratio_mul_d => k_is)
    (case br_Ratio_mul_d => k_is)
    (case bp_Ratio_mul_d => first | exact .inl rfl | exact .inr ⟨_, rfl⟩)
    (case bl_Ratio_mul_d => k_is)
    (case bo_Ratio_mul_d => k_is)
    (case ba_Ratio_mul_d => k_is)
    (case n1_Ratio_mul_d => k_is)
    (case n2_Ratio_mul_d => k_is)
    (case a_Ratio_floordiv_d => k_is)
    (case i_Ratio_floordiv_d => k_is)
    (case l_Ratio_floordiv_d => k_is)
    (case c_Ratio_floordiv_d => k_is)
    (case k_Ratio_floordiv_d => k_is)
    (case br_Ratio_floordiv_d => k_is)
    (case bp_Ratio_floordiv_d => first | exact .inl rfl | exact .inr ⟨_, rfl⟩)
    (case bl_Ratio_floordiv_d => k_is)
    (case bo_Ratio_floordiv_d => k_is)
    (case ba_Ratio_floordiv_d => k_is)
    (case n1_Ratio_floordiv_d => k_is)
    (case n2_Ratio_floordiv_d => k_is)
    (case a_Ratio_mod_d => k_is)
    (case i_Ratio_mod_d => k_is)
    (case l_Ratio_mod_d => k_is)
    (case c_Ratio_mod_d => k_is)
    (case k_Ratio_mod_d => k_is)
    (case br_Ratio_mod_d => k_is)
    (case bp_Ratio_mod_d => first | exact .inl rfl | exact .inr ⟨_, rfl⟩)
    (case bl_Ratio_mod_d => k_is)
    (case bo_Ratio_mod_d => k_is)
    (case ba_Ratio_mod_d => k_is)
    (case n1_Ratio_mod_d => k_is)
    (case n2_Ratio_mod_d => k_is)
    (case a_is_number => k_is)
    (case l_is_number => k_is)
    (case c_is_number => k_is)
    (case k_is_number => k_is)
    (case a_lw_box => k_is)
    (case l_lw_box => k_is)
    (case c_lw_box => k_is)
    (case k_lw_box => k_is)
    (case a_lw_take => k_is)
    (case l_lw_take => k_is)
    (case c_lw_take => k_is)
    (case k_lw_take => k_is)
    (case a_lw_lowest => k_is)
    (case l_lw_lowest => k_is)
    (case c_lw_lowest => k_is)
    (case k_lw_lowest => k_is)
    (case a_lw_number => k_is)
    (case l_lw_number => k_is)
    (case c_lw_number => k_is)
    (case k_lw_number => k_is)
    (case a_lw_is => k_is)
    (case l_lw_is => k_is)
    (case c_lw_is => k_is)
    (case k_lw_is => k_is)
    (case a_lw_refused => k_is)
    (case l_lw_refused => k_is)
    (case c_lw_refused => k_is)
    (case k_lw_refused => k_is)
    (case a_lw_right => k_is)
    (case l_lw_right => k_is)
    (case c_lw_right => k_is)
    (case k_lw_right => k_is)
    (case a_law => k_is)
    (case l_law => k_is)
    (case c_law => k_is)
    (case k_law => k_is)
#print axioms PySem.Challenge.cw_poolsmeet_k04_quotients_holds

import PyProof.Rows.All
import Wide.All
import OpenK.AllK
import Wide.FinOn
import KE.OsRunLaw
import KE.KOpsOwn
import KE.KCallOwn
import HandS.OwnEq
import HandS.ClsMeth
import HandS.Property
import HandS.ExcOwn
import HandS.ExcInit
import HandS.WordsExc
import HandS.Wide
import HandS.IsInst
import HandS.Defaults
import HandS.MakeKw
import HandS.MakeKwOnly
import HandS.ForMost
import HandS.Gcd
import HandS.FStr
import HandS.Flow
import HandS.ExcField
import HandS.Codes
import HandS.Style
import KE.KFmtOwn
import KE.KIsAll
import HandS.ExcIs
import HandS.Zip
import HandS.ListItems
import HandS.Walk
import PyProof.ReprLoop
import HandS.SortInts
import KE.GoesEnum
import HandS.SortKw
import PyProof.SumAny
import HandS.GenList
import HandS.TupAny
import HandS.GenYield
import HandS.StrMore
import PyProof.FitsReplace
import PySem.Challenge.RW_poolsmeet_k11_waters_compared
set_option Elab.async false
set_option linter.all false
set_option maxRecDepth 100000
set_option maxHeartbeats 2000000
local macro_rules | `(tactic| k_head) => `(tactic| k_headL)
open PySem PySem.W PyProof.Rows in
set_option maxRecDepth 100000 in
set_option maxHeartbeats 0 in
open_top Pm.hd for PySem.Challenge.rw_poolsmeet_k11_waters_compared
/-! Pm, part 1: rules for classes that define their own operators. -/
namespace Pm
open PySem PySem.Spec PyProof.Rows L2

/-! ### a def run at any place below the body -/
section
variable {X : Cx} {CX : CXT} {k : Nat} {A : Around} {f : Addr} {fd : FuncData} {ps : List Str} {sp : Sp} {E : XK}
  {pins : List (Addr × Obj)} {σ : L2.St} {H : Hp} {s : Shared} {Q : VK} {us : List Value} {vs : List V}
theorem run_at (sb : Sub X k A) (F : FnOk X.prog X.w X.K X.mg X.base CX k f fd ps sp) (hb : Binds X.K fd ps [])
    (hx : PassesAt CX X σ E) (I : Inv X pins σ H s) (r : Vals vs us) (h : sp vs H Q E) :
    wpAny (model X.prog X.w) A (call (.ref f) us) (EP X pins σ Q) X.xe s := by
  have len : us.length = ps.length := r.length.symm.trans (F.len _ _ _ _ h)
  have bt := hb s us I.kIn (by simpa using len)
  simp only [List.append_nil] at bt
  have e1 := I.env0
  have e0 : Env0 X.prog X.w X.K X.mg X.base A X.stack s H :=
    ⟨sb.fr.trans e1.frames, e1.mod, e1.bs, e1.bsz, e1.funs, e1.frf, e1.hok, e1.bare⟩
  refine wpAny_call (codeAny_mono (F.run A X.stack s H ⟨us, []⟩ us vs Q E sb.room e0 bt r h) fun res s' q => ?_)
  match res, q with
  | .error er, q => exact hx pins H s er s' I q
  | .ok (.ret u), q => exact I.after q
end

/-- no exception leaves: for any slots -/
theorem at0 {X : Cx} {σ : L2.St} : PassesAt CX0 X σ E0 := fun _ _ _ _ _ _ h => h.elim
theorem atL {X : Cx} {σ : L2.St} : PassesAt (L2.CX X.prog X.w) X σ E0 := fun pins H s e s' I h => passL pins σ H s e s' I h

/-- a special method of the class at C -/
structure Spc (K : PySem.W.Frag) (C : Addr) (name : Str) (f : Addr) : Prop where
  at_ : PySem.W.findIn K (.ref C) name = some (some (.ref f))
  fn : PySem.W.isFn K (.ref f) = true

/-- a two-place operation whose reading may look at the slots -/
def OpS (X : Cx) (f : Value → Value → Sem Value) (r : L2.St → R2) : Prop :=
  ∀ (pins : List (Addr × Obj)) (s : Shared) (σ : L2.St) (H : Hp) (x y : V) (v u : Value) (Q : VK), Inv X pins σ H s → RelV x v → RelV y u → r σ x y H Q →
    wpAny (model X.prog X.w) X.A (f v u) (EP X pins σ Q) X.xe s
theorem OpR.S {X : Cx} {f : Value → Value → Sem Value} {r : R2} (h : OpR X f r) : OpS X f (fun _ => r) := fun pins s σ H x y v u Q => h pins s σ H x y v u Q
theorem OpS.or {X : Cx} {f : Value → Value → Sem Value} {r r' : L2.St → R2} (h : OpS X f r) (h' : OpS X f r') : OpS X f (fun σ x y H Q => r σ x y H Q ∨ r' σ x y H Q) :=
  fun pins s σ H x y v u Q I rx ry z => z.elim (h pins s σ H x y v u Q I rx ry) (h' pins s σ H x y v u Q I rx ry)
def tOpS (r : L2.St → R2) (ta tb : TE) : TE := fun σ H Q => ta σ H fun x H1 => tb σ H1 fun y H2 => r σ x y H2 Q
section
variable {X : Cx} {a b : Expr} {ta tb : TE} {pos : Pos}
theorem pe_opS {op : Operator} {r : L2.St → R2} (ho : OpS X (binaryOp op) r) (ha : PE X a ta) (hb : PE X b tb) : PE X (.BinOp a op b pos) (tOpS r ta tb) := by
  refine ⟨fun pins s σ H Q I h => wpAny_BinOp ?_⟩
  refine thn (ha.run pins s σ H _ I h) fun v s1 ⟨x, H1, I1, r1, q1⟩ => ?_
  refine thn (hb.run pins s1 σ H1 _ I1 q1) fun u s2 ⟨y, H2, I2, r2, q2⟩ => ?_
  exact ho pins s2 σ H2 x y v u Q I2 r1 r2 q2
end

/-- the instance at a, for the library's rules -/
theorem inst_of {X : Cx} {pins : List (Addr × Obj)} {σ : L2.St} {H : Hp} {s : Shared} {a C dx : Addr} {fs : List (Str × V)} (I : Inv X pins σ H s) (ea : H a = some (.ins C dx fs)) :
    ∃ od, PySem.W.InstAt s.heap a (PySem.W.instObj C dx) C (some od) := by
  obtain ⟨mA, J, _⟩ := ins_get I.hok ea
  obtain ⟨od, J', _⟩ := J.look
  exact ⟨od, J'⟩
theorem rel_back {X : Cx} {pins : List (Addr × Obj)} {σ : L2.St} {Q : VK} {u : Value} {s' : Shared} (h : EP X pins σ Q u s') : PySem.W.CmpBack (EP X pins σ Q) u s' := by
  obtain ⟨v, H', I, r, q⟩ := id h
  cases u <;> first | exact h | skip
  cases v <;> first | (cases r; done) | (obtain ⟨t, z⟩ := r; exact nomatch z)

theorem self1 {a : Addr} : Vals [V.ref a] [Value.ref a] := .cons rfl .nil
/-! ### one place: -x, abs(x), str(x), repr(x), bool(x) -/
section
variable {X : Cx} {CX : CXT} {k : Nat} {C f : Addr} {fd : FuncData} {ps : List Str} {sp : Sp} {E : XK}
/-- the value is an instance of the class at C; its method is asked -/
def r1O (C : Addr) (sp : Sp) (E : XK) : V → Hp → VK → Prop := fun x H Q => ∃ a dx fs, x = .ref a ∧ H a = some (.ins C dx fs) ∧ sp [.ref a] H Q E
theorem un_negO (S : Spc X.K C "__neg__" f) (F : FnOk X.prog X.w X.K X.mg X.base CX k f fd ps sp) (hr : Room k X.A) (hb : Binds X.K fd ps []) (hx : Passes CX X E) :
    UnR X (unaryOp .USub) (r1O C sp E) := by
  rintro pins s σ H x u Q I rx ⟨a, dx, fs, rfl, ea, q⟩
  cases rx
  obtain ⟨od, J⟩ := inst_of I ea
  obtain ⟨m, fr⟩ := I.fr
  exact PySem.W.ksp_neg fr I.ok.mod.kin J S.at_ S.fn (run_at ⟨hr, rfl⟩ F hb (hx · σ) I self1 q)
def rc1O (C : Addr) (sp : Sp) (E : XK) (W : V → Prop) : List V → Hp → VK → Prop := fun xs H Q => ∃ a dx fs, xs = [.ref a] ∧ H a = some (.ins C dx fs) ∧ sp [.ref a] H (fun v H' => W v ∧ Q v H') E
theorem sub_self {X : Cx} {k : Nat} (hr : Room k X.A) : Sub X k X.A := ⟨hr, rfl⟩
theorem strback {pins : List (Addr × Obj)} {σ : L2.St} {Q : VK} {u : Value} {s' : Shared} (h : EP X pins σ (fun v H' => (∃ z, v = .str z) ∧ Q v H') u s') : PySem.W.StrBack (EP X pins σ Q) u s' := by
  obtain ⟨v, H', I, r, ⟨z, rfl⟩, q⟩ := h
  obtain ⟨t, rfl⟩ := r
  exact ⟨.str z, H', I, ⟨t, rfl⟩, q⟩
theorem call_reprO (S : Spc X.K C "__repr__" f) (F : FnOk X.prog X.w X.K X.mg X.base CX k f fd ps sp) (hr : Room (k + 1) X.A) (hb : Binds X.K fd ps []) (hx : Passes CX X E) :
    CallR X (.builtin "repr") (rc1O C sp E fun v => ∃ z, v = .str z) := by
  rintro pins s σ H xs us Q I r ⟨a, dx, fs, rfl, ea, q⟩
  obtain rfl := Vals.ref1 r
  obtain ⟨od, J⟩ := inst_of I ea
  obtain ⟨m, fr⟩ := I.fr
  have sb := (sub_self hr).in1
  exact PySem.W.repr_K sb.room.units0 fr I.ok.mod.kin J S.at_ S.fn (thn (run_at sb F hb (hx · σ) I self1 q) fun u s' => strback)
theorem call_strO (S : Spc X.K C "__str__" f) (F : FnOk X.prog X.w X.K X.mg X.base CX k f fd ps sp) (hr : Room (k + 2) X.A) (hb : Binds X.K fd ps []) (hx : Passes CX X E) :
    CallR X (.type "str") (rc1O C sp E fun v => ∃ z, v = .str z) := by
  rintro pins s σ H xs us Q I r ⟨a, dx, fs, rfl, ea, q⟩
  obtain rfl := Vals.ref1 r
  obtain ⟨od, J⟩ := inst_of I ea
  have sb := (sub_self hr).in1.in1
  exact PySem.W.kso_call sb.room.units0 I.kIn J S.at_ S.fn (thn (run_at sb F hb (hx · σ) I self1 q) fun u s' => strback)
theorem call_absO (S : Spc X.K C "__abs__" f) (F : FnOk X.prog X.w X.K X.mg X.base CX k f fd ps sp) (hr : Room (k + 1) X.A) (hb : Binds X.K fd ps []) (hx : Passes CX X E) :
    CallR X (.builtin "abs") (rc1O C sp E fun _ => True) := by
  rintro pins s σ H xs us Q I r ⟨a, dx, fs, rfl, ea, q⟩
  obtain rfl := Vals.ref1 r
  obtain ⟨od, J⟩ := inst_of I ea
  have sb := (sub_self hr).in1
  have go := run_at sb F hb (hx · σ) I self1 q
  refine Calls.call_function_entry PyProof.Rows.kind_abs PyProof.Rows.plain_abs PyProof.Rows.entry_abs (PyProof.Rows.args_abs _) ?_
  unfold Builtin.«abs»
  refine wpAny_bind (m := oneArg "abs" _) (wpAny_pure ?_)
  refine wpAny_bind (PySem.W.special_fn I.kIn J S.at_ (beq_iff_eq.mp S.fn) (thn go fun u s' z => ?_))
  obtain ⟨v, H', I', r', _, q'⟩ := z
  exact wpAny_pure ⟨_, rfl, v, H', I', r', q'⟩
theorem call_boolO (S : Spc X.K C "__bool__" f) (F : FnOk X.prog X.w X.K X.mg X.base CX k f fd ps sp) (hr : Room (k + 2) X.A) (hb : Binds X.K fd ps []) (hx : Passes CX X E) :
    CallR X (.type "bool") (rc1O C sp E fun v => ∃ b, v = .bl b) := by
  rintro pins s σ H xs us Q I r ⟨a, dx, fs, rfl, ea, q⟩
  obtain rfl := Vals.ref1 r
  obtain ⟨od, J⟩ := inst_of I ea
  obtain ⟨m, fr⟩ := I.fr
  have sb := (sub_self hr).in1
  have sb2 : L2.Sub X k X.A.in1.in1 := (sub_self hr).in1.in1
  have go := fun s1 (I1 : L2.Inv X pins σ H s1) => run_at sb2 F hb (hx · σ) I1 self1 q
  refine callType_codes (T := "bool") (Bi := Builtin.«object.__init__») (Q₁ := fun r s₁ => ∃ y, r = .bool y ∧ EP X pins σ Q r s₁) PySem.F.called_bool (PySem.F.typeCall_bool_1 _) PySem.F.entry_object_init ?_ ?_
  · refine codeAny_of_tree ?_
    show wpAny _ X.A.in1.in1 (do checkBuiltinCall "bool.__new__" ⟨[.type "bool", .ref a], []⟩; again (.builtin "bool.__new__" ⟨[.type "bool", .ref a], []⟩)) _ _ s
    refine wpAny_bind (wpAny_of_eq (PySem.F.newCall_bool_1 _) (wpAny_pure ⟨plainId_quiet (by decide +kernel) _, codeAny_builtin PySem.F.entry_bool_new ?_⟩))
    rw [Around.under_plainId (by decide +kernel) _]
    have tr : wpAny (model X.prog X.w) X.A.in1.in1 (truthy (.ref a)) (fun b s' => EP X pins σ Q (.bool b) s') X.xe s := by
      refine PySem.W.truthy_K fr I.ok.mod.kin J S.at_ S.fn (thn (go s I) fun u s' z => ?_)
      obtain ⟨v, H', I', r', ⟨b, rfl⟩, q'⟩ := z
      cases r'
      exact ⟨.bl b, H', I', rfl, q'⟩
    have f1 := PySem.F.conv_sub_bool
    obtain ⟨hp, g, d, tk, os⟩ := s
    unfold Builtin.«bool.__new__»
    repeat (first | (with_reducible refine wpAny_bind (wpAny_mono tr (fun b s' z => ?_) fun _ _ z => z)) | wp_step)
    exact ⟨b, rfl, z⟩
  · rintro obj s₁ ⟨y, rfl, hq⟩
    have ty : ∀ s : Shared, s.TypeIs (.bool y) "bool" := fun s => PySem.typeIs_bool s y
    exact ⟨ty _, PySem.F.args_object_init_2 _ _, object_init_meets PySem.F.called_bool.init.lookup PySem.F.called_bool.made (by decide) X.prog X.w X.A.in1 _ s₁ ⟨ty _, rfl, hq⟩⟩
end

/-! ### two places, the left one an instance of the class at C -/
/-- what the written part says of C's operator nm (its def at f), beside ints -/
structure Bin (K : PySem.W.Frag) (C : Addr) (nm : String) (f : Addr) : Prop where
  sf : PySem.W.selfFirst K C = true
  at_ : PySem.W.findIn K (.ref C) (PySem.dunder nm) = some (some (.ref f))
  fn : PySem.W.isFn K (.ref f) = true
  rv : ∃ rc, PySem.W.findIn K (.ref C) (dunderR nm) = some rc ∧ (rc = none ∨ ∃ g : Addr, rc = some (.ref g))
  il : ∃ fo, PySem.W.findIn K (.type "int") (PySem.dunder nm) = some fo
  ir : ∃ ro, PySem.W.findIn K (.type "int") (dunderR nm) = some ro
  su : PySem.W.subIn K (.type "int") (.ref C) = some false
section
variable {prog : Program} {w : World} {A : Around} {E : Value → Shared → Prop} {s : Shared} {K : PySem.W.Frag} {x C f : Addr} {nm : String} {ox : Obj} {od : Option Obj} {Q : Value → Shared → Prop}
open PySem.W
/-- some value comes of it -/
abbrev Gave (Q : Value → Shared → Prop) : Option Value → Shared → Prop := fun r s' => ∃ v, r = some v ∧ Q v s'
theorem bin1_int {i : Int} {t : Tok} (B : Bin K C nm f) (X : K.In s.heap) (I : InstAt s.heap x ox C od)
    (h : wpAny (model prog w) A (call (.ref f) [.ref x, .int i t]) (PySem.W.CmpBack Q) E s) :
    wpAny (model prog w) A (binaryOp1 nm (.ref x) (.int i t)) (Gave Q) E s := by
  obtain ⟨cd, rest, hcd, hm⟩ := ksp_first B.sf
  obtain ⟨fo, h1⟩ := B.il
  obtain ⟨ro, h2⟩ := B.ir
  obtain ⟨rc, hr, hp⟩ := B.rv
  have one := ksp_try X I B.at_ B.fn h
  obtain ⟨hh, g, d, tt, os⟩ := s
  have A1 : Looks (model prog w) hh (typeOf (.ref x)) (.ref C) := I.type
  have A2 : Looks (model prog w) hh (typeOf (.int i t)) (.type "int") := .of_pure rfl
  have A3 : Looks (model prog w) hh (fillsNumberSlot (.ref C) nm) true := fills_K X hcd hm B.at_
  have A4 : Looks (model prog w) hh (fillsNumberSlot (.type "int") nm) _ := ksp_fillsT X h1 h2
  have A5 : Looks (model prog w) hh (isSubtype (.type "int") (.ref C)) false := looks_subIn X B.su
  have A6 : Looks (model prog w) hh (numberSlotInPython (.ref C) nm) true := ksp_inPy X B.at_ hr hp
  have A7 : Looks (model prog w) hh (numberSlotInPython (.type "int") nm) false := .of_pure rfl
  have A8 : Looks (model prog w) hh (typeLookup (.type "int") (dunderR nm)) ro := looks_findIn X h2
  generalize ((fo.isSome && !isSeqSlot fo) || (ro.isSome && !isSeqSlot ro)) = right at A4
  have part : (Value.ref C == Value.type "int") = false := by simp
  unfold binaryOp1
  refine wpAny_bind (A1.at (wpAny_bind (A2.at (wpAny_bind (A3.at ?_)))))
  rw [part]
  cases right with
  | false => ksp_lk; exact wpAny_mono one (fun r s' ⟨v, e, q⟩ => by subst e; ksp_lk; exact ⟨v, rfl, q⟩) fun _ _ e => e
  | true => ksp_lk; exact wpAny_mono one (fun r s' ⟨v, e, q⟩ => by subst e; ksp_lk; exact ⟨v, rfl, q⟩) fun _ _ e => e
theorem bin1_own {y : Addr} (B : Bin K C nm f) (X : K.In s.heap) (I : InstAt s.heap x ox C od) (ty : Looks (model prog w) s.heap (typeOf (.ref y)) (.ref C))
    (h : wpAny (model prog w) A (call (.ref f) [.ref x, .ref y]) (PySem.W.CmpBack Q) E s) :
    wpAny (model prog w) A (binaryOp1 nm (.ref x) (.ref y)) (Gave Q) E s := by
  obtain ⟨cd, rest, hcd, hm⟩ := ksp_first B.sf
  have one := ksp_try X I B.at_ B.fn h
  obtain ⟨hh, g, d, tt, os⟩ := s
  have A1 : Looks (model prog w) hh (typeOf (.ref x)) (.ref C) := I.type
  have A2 : Looks (model prog w) hh (typeOf (.ref y)) (.ref C) := ty
  have A3 : Looks (model prog w) hh (fillsNumberSlot (.ref C) nm) true := fills_K X hcd hm B.at_
  unfold binaryOp1
  refine wpAny_bind (A1.at (wpAny_bind (A2.at (wpAny_bind (A3.at ?_)))))
  rw [show (Value.ref C == Value.ref C) = true from beq_self_eq_true _]
  ksp_lk
  exact wpAny_mono one (fun r s' ⟨v, e, q⟩ => by subst e; ksp_lk; exact ⟨v, rfl, q⟩) fun _ _ e => e
theorem bin_of {op : Operator} {a b : Value} (h : wpAny (model prog w) A (binaryOp1 op.info.2 a b) (Gave Q) E s) : wpAny (model prog w) A (binaryOp op a b) Q E s := by
  unfold binaryOp
  refine wpAny_holding (wpAny_bind (wpAny_mono h (fun r s' ⟨v, e, q⟩ => ?_) fun _ _ e => e))
  subst e
  exact wpAny_pure q

/-- C has no operator op= of its own -/
structure NoIn (K : PySem.W.Frag) (C : Addr) (nm : String) : Prop where
  mro : ∃ cd, PySem.W.clsIn K C = some cd ∧ cd.mro = [.ref C, .type "object"]
  no1 : PySem.W.findIn K (.ref C) (dunderI nm) = some none
  no2 : PySem.W.findIn K (.type "object") (dunderI nm) = some none
theorem noIn_fills {add : Bool} {h : Heap} (N : NoIn K C nm) (X : K.In h) : Looks (model prog w) h (fillsInplaceSlot (.ref C) nm add) false := by
  obtain ⟨cd, hcd, hm⟩ := N.mro
  intro A' Q' E' s' k q
  obtain ⟨hh, g, d, tt, os⟩ := s'
  have X' : K.In hh := X.keeps k
  have B0 : Looks (model prog w) hh (mroOf (.ref C)) cd.mro := (looks_clsIn X' hcd).andThen (f := fun cd => pure cd.mro) .now
  have B1 : Looks (model prog w) hh (typeLookup (.ref C) (dunderI nm)) none := looks_findIn X' N.no1
  have B2 : Looks (model prog w) hh (typeLookup (.type "object") (dunderI nm)) none := looks_findIn X' N.no2
  unfold fillsInplaceSlot
  refine wpAny_bind (B0.at ?_)
  rw [hm, List.anyM_cons]
  refine wpAny_bind (wpAny_bind (B1.at (wpAny_pure ?_)))
  rw [if_neg Bool.false_ne_true, List.anyM_cons]
  refine wpAny_bind (wpAny_bind (B2.at (wpAny_pure ?_)))
  rw [if_neg Bool.false_ne_true, List.anyM_nil]
  exact wpAny_pure q
theorem inplace_of {op : Operator} {b : Value} (N : NoIn K C op.info.2) (X : K.In s.heap) (I : InstAt s.heap x ox C od)
    (h : wpAny (model prog w) A (binaryOp1 op.info.2 (.ref x) b) (Gave Q) E s) : wpAny (model prog w) A (inplaceOp op (.ref x) b) Q E s := by
  have A1 : Looks (model prog w) s.heap (typeOf (.ref x)) (.ref C) := I.type
  have A2 := noIn_fills (prog := prog) (w := w) (add := op == .Add) N X
  unfold inplaceOp
  refine wpAny_holding (wpAny_bind (A1.here (wpAny_bind (A2.here ?_))))
  rw [if_neg Bool.false_ne_true]
  refine wpAny_bind (wpAny_mono h (fun r s' ⟨v, e, q⟩ => ?_) fun _ _ e => e)
  subst e
  exact wpAny_pure q
end
/-- the operator's reading: the other one an int or an instance of C -/
def r2O (C : Addr) (sp : Sp) (E : L2.St → XK) : L2.St → R2 := fun σ x y H Q => ∃ a dx fs, x = .ref a ∧ H a = some (.ins C dx fs) ∧
  ((∃ i, y = .int i) ∨ ∃ b dy gs, y = .ref b ∧ H b = some (.ins C dy gs)) ∧ sp [x, y] H Q (E σ)
section
variable {X : Cx} {CX : CXT} {k : Nat} {C f : Addr} {fd : FuncData} {ps : List Str} {sp : Sp} {E : L2.St → XK} {op : Operator}
theorem bin1_O (B : Bin X.K C op.info.2 f) (F : FnOk X.prog X.w X.K X.mg X.base CX k f fd ps sp) (hr : Room k X.A) (hb : Binds X.K fd ps []) (hx : ∀ σ, PassesAt CX X σ (E σ))
    {pins : List (Addr × Obj)} {σ : L2.St} {H : Hp} {s : Shared} {x y : V} {v u : Value} {Q : VK} (I : L2.Inv X pins σ H s) (rx : RelV x v) (ry : RelV y u) (h : r2O C sp E σ x y H Q) :
    wpAny (model X.prog X.w) X.A (binaryOp1 op.info.2 v u) (Gave (EP X pins σ Q)) X.xe s := by
  obtain ⟨a, dx, fs, rfl, ea, ty, q⟩ := h
  obtain rfl : v = Value.ref a := rx
  obtain ⟨od, J⟩ := inst_of I ea
  have go : wpAny (model X.prog X.w) X.A (call (.ref f) [.ref a, u]) (PySem.W.CmpBack (EP X pins σ Q)) X.xe s :=
    thn (run_at (sub_self hr) F hb (hx σ) I (show Vals [V.ref a, y] [Value.ref a, u] from .cons rfl (.cons ry .nil)) q) fun u' s' z => rel_back z
  rcases ty with ⟨i, rfl⟩ | ⟨b, dy, gs, rfl, eb⟩
  · obtain ⟨t, rfl⟩ := ry
    exact bin1_int B I.kIn J go
  · obtain rfl : u = Value.ref b := ry
    obtain ⟨od', J'⟩ := inst_of I eb
    exact bin1_own B I.kIn J J'.type go
theorem ops_bin (B : Bin X.K C op.info.2 f) (F : FnOk X.prog X.w X.K X.mg X.base CX k f fd ps sp) (hr : Room k X.A) (hb : Binds X.K fd ps []) (hx : ∀ σ, PassesAt CX X σ (E σ)) :
    OpS X (binaryOp op) (r2O C sp E) := fun pins s σ H x y v u Q I rx ry h => bin_of (bin1_O B F hr hb hx I rx ry h)
theorem ops_in (B : Bin X.K C op.info.2 f) (N : NoIn X.K C op.info.2) (F : FnOk X.prog X.w X.K X.mg X.base CX k f fd ps sp) (hr : Room k X.A) (hb : Binds X.K fd ps []) (hx : ∀ σ, PassesAt CX X σ (E σ)) :
    OpS X (inplaceOp op) (r2O C sp E) := by
  intro pins s σ H x y v u Q I rx ry h
  have z := bin1_O B F hr hb hx I rx ry h
  obtain ⟨a, dx, fs, rfl, ea, _⟩ := h
  obtain rfl : v = Value.ref a := rx
  obtain ⟨od, J⟩ := inst_of I ea
  exact inplace_of N I.kIn J z
end
end Pm

/-! Pm, part 2: calls; defs that know that no repr runs around them. -/
namespace Pm
open PySem PySem.Spec PyProof.Rows L2

/-- no repr of a list, tuple or dict runs around -/
abbrev GG (A : Around) : Prop := A.guards = some []
/-- a def's promise, where no such repr runs around -/
structure FnG (P : Program) (w : World) (K : PySem.W.Frag) (mg : Str → Option Value) (base : Heap) (CX : CXT) (k : Nat) (f : Addr) (fd : FuncData) (ps : List Str) (sp : Sp) : Prop where
  len : ∀ vs H Q E, sp vs H Q E → vs.length = ps.length
  run : ∀ {A : Around} {outer : List Env} {s : Shared} {H : Hp} {args : Args} {us : List Value} {vs : List V} {Q : VK} {E : XK}, GG A → Room k A → Env0 P w K mg base A outer s H →
    BindsTo s fd args (ps.zip us) → Vals vs us → sp vs H Q E → codeAny (model P w) A (.call (.ref f) args) (CR CX outer P w H s Q E) s

section
variable {P : Program} {w : World} {K : PySem.W.Frag} {mg : Str → Option Value} {base : Heap} {CX : CXT} {k j : Nat} {f : Addr} {fd : FuncData} {N ps : List Str} {sp : Sp} {x qual : Str} {st : Stmt}
theorem FnG.of (F : FnOk P w K mg base CX k f fd ps sp) : FnG P w K mg base CX k f fd ps sp := ⟨F.len, fun _ hr e b r h => F.run _ _ _ _ _ _ _ _ _ hr e b r h⟩
theorem FnG.mono (F : FnG P w K mg base CX j f fd ps sp) (h : j ≤ k) : FnG P w K mg base CX k f fd ps sp := ⟨F.len, fun g hr e b r q => F.run g (hr.mono h) e b r q⟩
theorem FnG.imp {sp' : Sp} (F : FnG P w K mg base CX k f fd ps sp) (h : ∀ vs H Q E, sp' vs H Q E → sp vs H Q E) : FnG P w K mg base CX k f fd ps sp' :=
  ⟨fun vs H Q E q => F.len vs H Q E (h _ _ _ _ q), fun g hr e b r q => F.run g hr e b r (h _ _ _ _ q)⟩
/-- by the body -/
theorem goX (F : Fun K x qual st f fd) (S : FnScope N ps (defScope st)) (len : ∀ vs H Q E, sp vs H Q E → vs.length = ps.length)
    (body : ∀ (cdv : Value) (A : Around) (outer : List Env) (s : Shared) (H : Hp) (vs : List V) (Q : VK) (E : XK), GG (A.deeper (envOfC qual (defScope st) s.heap.objs.size f cdv)) →
      Room k (A.deeper (envOfC qual (defScope st) s.heap.objs.size f cdv)) → sp vs H Q E →
      ∃ t, PSs (cxOf CX P w K mg base N qual (defScope st) f cdv A outer s H E) (defBody st) t ∧ t { nx := fun _ H' => Q .non H', rt := Q } (start N vs) H) :
    FnG P w K mg base CX (k + 1) f fd ps sp := by
  obtain ⟨oc, od, kV, doc, pm, an, cdv, ct, osl, rfl, lk, hcd⟩ := F.ex
  refine ⟨len, fun {A outer s H args us vs Q E} g hr e0 hb r hsp => ?_⟩
  have inH : K.In s.heap := e0.mod.kin.keeps fun b o e => (e0.bs b o e).1
  refine codeAny_call_function hr.depth (inH _ _ lk) rfl S.co S.gen rfl (PySem.W.codeRec_of inH hcd) (hb _ _ _ _ ?_)
  refine wpAny_newFunctionEnv_cells S.kind (fun y hy => ?_) fun env he s1 ic => ?_
  · cases S.par y.1 (List.of_mem_zip hy).1 with
    | inl q => exact .inl q
    | inr q => exact .inr ⟨q, PySem.W.cellsFrom_some _ _ _ (.inl q)⟩
  · subst he
    have lim : s.heap.NoLimit := e0.mod.nolimit.keeps fun b o e => (e0.bs b o e).1
    refine ⟨lim.keeps ic.toInCall.keep, codeAny_func ?_⟩
    obtain ⟨t, ht, hq⟩ := body cdv A outer s H vs Q E g (hr.deeper _) hsp
    have I := inv_start (CX := CX) (E := E) S hr.hd e0 (len _ _ _ _ hsp) r ic
    refine wpAny_mono (ht.run [] s1 (start N vs) H _ I hq) (fun fl s' z => ?_) fun e s' z => z
    match fl, z with
    | .ret u, ⟨v, _, H', J, rv, q⟩ => exact ⟨v, H', J.os, J.bare, J.base, J.hok, rv, q⟩
    | .next, ⟨_, H', J, q⟩ => exact ⟨V.non, H', J.os, J.bare, J.base, J.hok, rfl, q⟩
    | .brk, ⟨_, _, _, q⟩ => exact q.elim
    | .cont, ⟨_, _, _, q⟩ => exact q.elim
theorem go0 (F : Fun K x qual st f fd) (S : FnScope N ps (defScope st)) (len : ∀ vs H Q E, sp vs H Q E → vs.length = ps.length)
    (body : ∀ (cdv : Value) (A : Around) (outer : List Env) (s : Shared) (H : Hp) (vs : List V) (Q : VK) (E : XK), GG (A.deeper (envOfC qual (defScope st) s.heap.objs.size f cdv)) →
      Room k (A.deeper (envOfC qual (defScope st) s.heap.objs.size f cdv)) → sp vs H Q E →
      ∃ t, PSs (cxOf CX0 P w K mg base N qual (defScope st) f cdv A outer s H E).nox (defBody st) t ∧ t { nx := fun _ H' => Q .non H', rt := Q } (start N vs) H) :
    FnG P w K mg base CX0 (k + 1) f fd ps sp :=
  goX F S len fun cdv A outer s H vs Q E g hr h => let ⟨t, a, b⟩ := body cdv A outer s H vs Q E g hr h; ⟨t, a.nox, b⟩
end

/-! ### the ends of calls -/
section
variable {X : Cx} {CX : CXT} {k n : Nat} {f C : Addr} {fd : FuncData} {ps ks : List Str} {sp : Sp} {E : L2.St → XK} {x m : Str} {p pos apos : Pos} {e o : Expr} {es : List Expr} {kws : List Keyword} {ta : TE} {t tk : TA}
  {g : List Value → List Value → List Value} {gV : List V → List V → List V}
/-- what lies behind a call's end -/
theorem call_end {pins : List (Addr × Obj)} {σ : L2.St} {H : Hp} {s : Shared} {Q : VK} {E' : XK} (hx : PassesAt CX X σ E') (I : L2.Inv X pins σ H s) (c : Code) {A : Around}
    (h : codeAny (model X.prog X.w) A c (CR CX X.stack X.prog X.w H s Q E') s) :
    codeAny (model X.prog X.w) A c (fun r s' => match r with | .ok (.ret v) => EP X pins σ Q v s' | .ok _ => False | .error e => X.xe e s') s :=
  codeAny_mono h fun r s' q => match r, q with
    | .error er, q => hx pins H s er s' I q
    | .ok (.ret _), q => I.after q
/-- f(e, ..), a def of the module -/
def tCl (sp : Sp) (E : L2.St → XK) (t : TA) : TE := fun σ H Q => t σ H fun vs H1 => sp vs H1 Q (E σ)
theorem pe_g (gg : GG X.A) (F : FnG X.prog X.w X.K X.mg X.base CX k f fd ps sp) (hr : Room k X.A) (hg : Gl X x) (hm : X.mg x = some (.ref f)) (hk : PySem.W.keepIn X.K (.ref f) = true) (hb : Binds X.K fd ps []) (hx : ∀ σ, PassesAt CX X σ (E σ))
    (ha : PA X (e :: es) t) (hdb : (x == ("__debug__" : Str)) = false := by decide) (he : starEach (e :: es) X.env = (false, eval e X.env) :: starEach es X.env := by rfl) (hpl : (backTo pos (starEach es X.env)).any (·.1) = false := by rfl) :
    PE X (.Call (.Name x p) (e :: es) [] pos) (tCl sp E t) := by
  refine ⟨fun pins s σ H Q I h => wpAny_Call_Name_kw (ld_glob I hg hm ?_ hdb)⟩
  refine PySem.W.callWith_K (h₀ := X.base) I.ok.mod.kin hk (thn (ha.run pos pins s σ H _ I h) fun us s1 ⟨vs, H1, I1, r, q⟩ => ⟨I1.kIn, ?_⟩) he hpl
  have len : us.length = ps.length := r.length.symm.trans (F.len _ _ _ _ q)
  have bt := hb s1 us I1.kIn (by simpa using len)
  simp only [List.append_nil] at bt
  exact wpAny_call (call_end (hx σ) I1 _ (F.run gg hr I1.env0 bt r q))
/-- the same from a def that needs not know it -/
theorem pe_f (F : FnOk X.prog X.w X.K X.mg X.base CX k f fd ps sp) (hr : Room k X.A) (hg : Gl X x) (hm : X.mg x = some (.ref f)) (hk : PySem.W.keepIn X.K (.ref f) = true) (hb : Binds X.K fd ps []) (hx : ∀ σ, PassesAt CX X σ (E σ))
    (ha : PA X (e :: es) t) (hdb : (x == ("__debug__" : Str)) = false := by decide) (he : starEach (e :: es) X.env = (false, eval e X.env) :: starEach es X.env := by rfl) (hpl : (backTo pos (starEach es X.env)).any (·.1) = false := by rfl) :
    PE X (.Call (.Name x p) (e :: es) [] pos) (tCl sp E t) := by
  refine ⟨fun pins s σ H Q I h => wpAny_Call_Name_kw (ld_glob I hg hm ?_ hdb)⟩
  refine PySem.W.callWith_K (h₀ := X.base) I.ok.mod.kin hk (thn (ha.run pos pins s σ H _ I h) fun us s1 ⟨vs, H1, I1, r, q⟩ => ⟨I1.kIn, ?_⟩) he hpl
  exact run_at (sub_self hr) F hb (hx σ) I1 r q

/-! ### C(..), C an own class; the arguments as KBn says -/
theorem run_mk {pins : List (Addr × Obj)} {σ : L2.St} {H : Hp} {s : Shared} {Q : VK} {us ws : List Value} {vs zs : List V} (M : Mk X.K C f) (F : FnOk X.prog X.w X.K X.mg X.base CX k f fd ps sp) (hr : Room (k + 1) X.A) (hb : KBn X.K fd ps (n + 1) ks g gV)
    (hx : ∀ σ, PassesAt CX X σ (E σ)) (I : L2.Inv X pins σ H s) (r : Vals vs us) (rz : Vals zs ws) (l1 : vs.length = n) (l2 : zs.length = ks.length)
    (h : ∀ x dx, H x = none → H dx = none → dx ≠ x → sp (gV (.ref x :: vs) zs) (upd (upd H dx (.own x)) x (.ins C dx [])) (fun v H2 => v = .non ∧ Q (.ref x) H2) (E σ)) :
    wpAny (model X.prog X.w) X.A (call (.ref C) us (ks.zip ws)) (EP X pins σ Q) X.xe s := by
  have new := h (s.heap.objs.size + 1) s.heap.objs.size (I.hok.fresh (Nat.le_succ _)) (I.hok.fresh (Nat.le_refl _)) (Nat.ne_of_lt (Nat.lt_succ_self _))
  have J := L2.Inv.made (C := C) I
  have ru : Vals (V.ref (s.heap.objs.size + 1) :: vs) (Value.ref (s.heap.objs.size + 1) :: us) := .cons rfl r
  have a1 : (Value.ref (s.heap.objs.size + 1) :: us).length = n + 1 := ru.length.symm.trans (congrArg Nat.succ l1)
  refine wpAny_call (make_map (f := f) I.kIn M.makes M.init (beq_iff_eq.mp M.fn) (codeAny_mono (F.run (X.A.under (.builtin "type.__call__" ⟨.ref C :: us, ks.zip ws⟩)) X.stack _ _ ⟨Value.ref (s.heap.objs.size + 1) :: us, ks.zip ws⟩
    (g (Value.ref (s.heap.objs.size + 1) :: us) ws) _ _ (E σ) (hr.make C us (ks.zip ws)) (J.env0.make C us (ks.zip ws)) (hb.to _ _ ws J.kIn a1 (rz.length.symm.trans l2)) (hb.rel ru rz) new) fun res s' q => ?_))
  match res, q with
  | .error er, q => exact hx σ pins _ _ er s' J q
  | .ok (.ret u), q =>
    obtain ⟨v, H', J', rv, ev, z⟩ := J.after q
    subst ev
    exact ⟨rv, V.ref (s.heap.objs.size + 1), H', J', rfl, z⟩
def tMk (C : Addr) (n : Nat) (sp : Sp) (gV : List V → List V → List V) (E : L2.St → XK) (t tk : TA) : TE := fun σ H Q => t σ H fun vs H1 => tk σ H1 fun zs H2 => vs.length = n ∧
  ∀ x dx, H2 x = none → H2 dx = none → dx ≠ x → sp (gV (.ref x :: vs) zs) (upd (upd H2 dx (.own x)) x (.ins C dx [])) (fun v H3 => v = .non ∧ Q (.ref x) H3) (E σ)
theorem pe_mkP (M : Mk X.K C f) (F : FnOk X.prog X.w X.K X.mg X.base CX k f fd ps sp) (hr : Room (k + 1) X.A) (hg : Gl X x) (hm : X.mg x = some (.ref C)) (hb : KBn X.K fd ps (n + 1) [] g gV) (hx : ∀ σ, PassesAt CX X σ (E σ)) (ha : PA X (e :: es) t)
    (hdb : (x == ("__debug__" : Str)) = false := by decide) (he : starEach (e :: es) X.env = (false, eval e X.env) :: starEach es X.env := by rfl) (hpl : (backTo pos (starEach es X.env)).any (·.1) = false := by rfl) :
    PE X (.Call (.Name x p) (e :: es) [] pos) (tMk C n sp gV E t tNil) := by
  refine ⟨fun pins s σ H Q I h => wpAny_Call_Name_kw (ld_glob I hg hm ?_ hdb)⟩
  refine PySem.W.callWith_K (h₀ := X.base) I.ok.mod.kin M.kp (thn (ha.run pos pins s σ H _ I h) fun us s1 ⟨vs, H1, I1, r, l1, q⟩ => ⟨I1.kIn, ?_⟩) he hpl
  exact run_mk (ks := []) (ws := []) (zs := []) M F hr hb hx I1 r .nil l1 rfl q
theorem pe_mkN (M : Mk X.K C f) (F : FnOk X.prog X.w X.K X.mg X.base CX k f fd ps sp) (hr : Room (k + 1) X.A) (hg : Gl X x) (hm : X.mg x = some (.ref C)) (hb : KBn X.K fd ps 1 ks g gV) (hx : ∀ σ, PassesAt CX X σ (E σ)) (hkw : PK X kws tk)
    (hall : (backToKw pos (keywordEach kws X.env)).all (·.1.isSome) = true := by rfl) (hks : (backToKw pos (keywordEach kws X.env)).filterMap (·.1) = ks := by rfl) (hlen : kws.length = ks.length := by rfl)
    (hdb : (x == ("__debug__" : Str)) = false := by decide) (hpl : ((backTo pos (starEach [] X.env)).any (·.1) || (backToKw pos (keywordEach kws X.env)).any (·.1.isNone)) = false := by rfl) :
    PE X (.Call (.Name x p) [] kws pos) (fun σ H Q => tMk C 0 sp gV E tNil (fun σ H Q => tk σ H fun zs H1 => zs.length = ks.length ∧ Q zs H1) σ H Q) := by
  refine ⟨fun pins s σ H Q I h => wpAny_Call_Name_kw (ld_glob I hg hm ?_ hdb)⟩
  refine PySem.W.callWith_KW0 (h₀ := X.base) I.ok.mod.kin M.kp hall (thn (hkw.run pos pins s σ H _ I h) fun ws s1 ⟨zs, H1, I1, rz, l2, l1, q⟩ => ⟨I1.kIn, ?_⟩) hpl
  rw [hks]
  exact run_mk (us := []) (vs := []) M F hr hb hx I1 .nil rz l1 l2 q

/-- the same where a local name holds the class -/
theorem pe_mkL {i : Nat} (M : Mk X.K C f) (F : FnOk X.prog X.w X.K X.mg X.base CX k f fd ps sp) (hr : Room (k + 1) X.A) (hN : X.N[i]? = some x) (hv : Vis X.env.scope x) (hb : KBn X.K fd ps (n + 1) [] g gV) (hx : ∀ σ, PassesAt CX X σ (E σ)) (ha : PA X (e :: es) t)
    (hdb : (x == ("__debug__" : Str)) = false := by decide) (hcd : (x == ("__classdict__" : Str)) = false := by decide) (he : starEach (e :: es) X.env = (false, eval e X.env) :: starEach es X.env := by rfl) (hpl : (backTo pos (starEach es X.env)).any (·.1) = false := by rfl) :
    PE X (.Call (.Name x p) (e :: es) [] pos) (fun σ H Q => σ[i]? = some (some (.ref C)) ∧ tMk C n sp gV E t tNil σ H Q) := by
  refine ⟨fun pins s σ H Q I ⟨hs, h⟩ => wpAny_Call_Name_kw (thn ((pe_var (pos := p) hN hv hdb hcd).run pins s σ H (fun v H1 => v = .ref C ∧ H1 = H) I ⟨.ref C, hs, rfl, rfl⟩) fun u s1 ⟨v, H1, I1, r1, e1, e2⟩ => ?_)⟩
  subst e1 e2
  obtain rfl : u = Value.ref C := r1
  refine PySem.W.callWith_K (h₀ := X.base) I1.ok.mod.kin M.kp (thn (ha.run pos pins s1 σ _ _ I1 h) fun us s2 ⟨vs, H2, I2, r, l1, q⟩ => ⟨I2.kIn, ?_⟩) he hpl
  exact run_mk (ks := []) (ws := []) (zs := []) M F hr hb hx I2 r .nil l1 rfl q

/-! ### C.m(..), m a classmethod of the class at C -/
theorem run_clm {pins : List (Addr × Obj)} {σ : L2.St} {H : Hp} {s : Shared} {Q : VK} {q gA : Addr} {us ws : List Value} {vs zs : List V} (F : FnOk X.prog X.w X.K X.mg X.base CX k gA fd ps sp) (hr : Room k X.A) (hb : KBn X.K fd ps (n + 1) ks g gV)
    (hx : ∀ σ, PassesAt CX X σ (E σ)) (I : L2.Inv X ((q, PySem.W.methodObj (.ref gA) (.ref C)) :: pins) σ H s) (r : Vals vs us) (rz : Vals zs ws) (l1 : vs.length = n) (l2 : zs.length = ks.length) (h : sp (gV (.ref C :: vs) zs) H Q (E σ)) :
    wpAny (model X.prog X.w) X.A (call (.ref q) us (ks.zip ws)) (EP X pins σ Q) X.xe s := by
  have ru : Vals (V.ref C :: vs) (Value.ref C :: us) := .cons rfl r
  have a1 : (Value.ref C :: us).length = n + 1 := ru.length.symm.trans (congrArg Nat.succ l1)
  refine thn (wpAny_call (PySem.W.method_call (ClX.pin_at I) (call_end (Q := Q) (hx σ) I _ (F.run X.A X.stack s H ⟨Value.ref C :: us, ks.zip ws⟩ (g (Value.ref C :: us) ws) (gV (V.ref C :: vs) zs) Q (E σ) hr I.env0
    (hb.to s _ ws I.kIn a1 (rz.length.symm.trans l2)) (hb.rel ru rz) h)))) fun _ _ y => ClX.unpinE y
def tCm (C : Addr) (n : Nat) (sp : Sp) (gV : List V → List V → List V) (E : L2.St → XK) (ta : TE) (t tk : TA) : TE := fun σ H Q => ta σ H fun x H0 => x = .ref C ∧ t σ H0 fun vs H1 => tk σ H1 fun zs H2 => vs.length = n ∧ sp (gV (.ref C :: vs) zs) H2 Q (E σ)
theorem pe_cmP {mc : Value} {pA gA : Addr} {pl : Sem Bool} (he : PE X o ta) (r : ClX.CRead X.K C mc) (c : ClX.CMet X.K C mc m pA gA) (F : FnOk X.prog X.w X.K X.mg X.base CX k gA fd ps sp) (hr : Room k X.A) (hb : KBn X.K fd ps (n + 1) [] g gV) (hx : ∀ σ, PassesAt CX X σ (E σ)) (ha : PA X (e :: es) t)
    (hst : starEach (e :: es) X.env = (false, eval e X.env) :: starEach es X.env := by rfl) (hpl : (backTo pos (starEach es X.env)).any (·.1) = false := by rfl)
    (ht : eval (.Call (.Attribute o m apos) (e :: es) [] pos) X.env = (eval o X.env >>= fun ov => standAt apos.atName >>= fun _ => holding [ov] (getMethod ov m pl) >>= fun ff => callWith pos ff.1 ff.2 (backTo pos (starEach (e :: es) X.env)) (backToKw pos (keywordEach [] X.env))) := by rfl) :
    PE X (.Call (.Attribute o m apos) (e :: es) [] pos) (tCm C n sp gV E ta t tNil) := by
  refine ⟨fun pins s σ H Q I h => PySem.W.methodCall_KW (pl := pl) (thn (he.run pins s σ H _ I h) fun u s1 ⟨x, H1, I1, rx, ex, q⟩ => ?_) ht⟩
  subst ex
  obtain rfl : u = Value.ref C := rx
  refine ClX.getmethcm_ok I1 r c fun s2 I2 => ClX.callwith_cm I2 (ClX.base_none I1 (Nat.le_refl _)) c.fi (thn (ha.run pos _ s2 σ H1 _ I2 q) fun us s3 ⟨vs, H2, I3, rv, l1, q2⟩ => ⟨⟨ClX.pin_at I3, I3.kIn⟩, ?_⟩) hst hpl
  exact run_clm (ks := []) (ws := []) (zs := []) F hr hb hx I3 rv .nil l1 rfl q2
theorem pe_cmN {mc : Value} {pA gA : Addr} {pl : Sem Bool} (he : PE X o ta) (r : ClX.CRead X.K C mc) (c : ClX.CMet X.K C mc m pA gA) (F : FnOk X.prog X.w X.K X.mg X.base CX k gA fd ps sp) (hr : Room k X.A) (hb : KBn X.K fd ps 1 ks g gV) (hx : ∀ σ, PassesAt CX X σ (E σ)) (hkw : PK X kws tk)
    (hall : (backToKw pos (keywordEach kws X.env)).all (·.1.isSome) = true := by rfl) (hks : (backToKw pos (keywordEach kws X.env)).filterMap (·.1) = ks := by rfl)
    (hpl : ((backTo pos (starEach [] X.env)).any (·.1) || (backToKw pos (keywordEach kws X.env)).any (·.1.isNone)) = false := by rfl)
    (ht : eval (.Call (.Attribute o m apos) [] kws pos) X.env = (eval o X.env >>= fun ov => standAt apos.atName >>= fun _ => holding [ov] (getMethod ov m pl) >>= fun ff => callWith pos ff.1 ff.2 (backTo pos (starEach [] X.env)) (backToKw pos (keywordEach kws X.env))) := by rfl) :
    PE X (.Call (.Attribute o m apos) [] kws pos) (tCm C 0 sp gV E ta tNil (fun σ H Q => tk σ H fun zs H1 => zs.length = ks.length ∧ Q zs H1)) := by
  refine ⟨fun pins s σ H Q I h => PySem.W.methodCall_KW (pl := pl) (thn (he.run pins s σ H _ I h) fun u s1 ⟨x, H1, I1, rx, ex, q⟩ => ?_) ht⟩
  subst ex
  obtain rfl : u = Value.ref C := rx
  refine ClX.getmethcm_ok I1 r c fun s2 I2 => ?_
  have hL : s1.heap.objs.size ≠ X.env.locals := (I2.pin (s1.heap.objs.size, PySem.W.methodObj (.ref gA) (.ref C)) (List.mem_append_right _ List.mem_cons_self)).2.2.1
  refine PySem.W.callWith_of hpl (PySem.W.keeps_M c.fi) (PyProof.Rows.evalArgs_kw2_nil hall (thn (hkw.run pos _ s2 σ H1 _ I2 q) fun ws s3 ⟨zs, H2, I3, rz, l2, l1, q2⟩ => ⟨⟨ClX.pin_at I3, I3.kIn⟩, ?_⟩))
  rw [hks]
  exact run_clm (us := []) (vs := []) F hr hb hx I3 .nil rz l1 l2 q2
end

/-! ### o.m(..), a method; own operators where the wish hangs on no slot -/
section
variable {X : Cx} {CX : CXT} {k n : Nat} {f C : Addr} {fd : FuncData} {ps ks : List Str} {sp : Sp} {E : L2.St → XK} {m : Str} {pos apos : Pos} {e o : Expr} {es : List Expr} {kws : List Keyword} {ta : TE} {t tk : TA}
  {g : List Value → List Value → List Value} {gV : List V → List V → List V}
theorem run_kb {pins : List (Addr × Obj)} {σ : L2.St} {H : Hp} {s : Shared} {Q : VK} {us ws : List Value} {vs zs : List V} (F : FnOk X.prog X.w X.K X.mg X.base CX k f fd ps sp) (hr : Room k X.A) (hb : KBn X.K fd ps n ks g gV) (hx : ∀ σ, PassesAt CX X σ (E σ))
    (I : L2.Inv X pins σ H s) (r : Vals vs us) (rz : Vals zs ws) (l1 : vs.length = n) (l2 : zs.length = ks.length) (h : sp (gV vs zs) H Q (E σ)) : wpAny (model X.prog X.w) X.A (call (.ref f) us (ks.zip ws)) (EP X pins σ Q) X.xe s :=
  wpAny_call (call_end (Q := Q) (hx σ) I _ (F.run X.A X.stack s H ⟨us, ks.zip ws⟩ (g us ws) (gV vs zs) Q (E σ) hr I.env0 (hb.to s us ws I.kIn (r.length.symm.trans l1) (rz.length.symm.trans l2)) (hb.rel r rz) h))
def tMe (C : Addr) (m : Str) (n : Nat) (sp : Sp) (gV : List V → List V → List V) (E : L2.St → XK) (ta : TE) (t tk : TA) : TE := fun σ H Q => ta σ H fun x H0 => ∃ a dx fs, x = .ref a ∧ H0 a = some (.ins C dx fs) ∧ fs.lookup m = none ∧
  t σ H0 fun vs H1 => tk σ H1 fun zs H2 => vs.length = n ∧ sp (gV (x :: vs) zs) H2 Q (E σ)
theorem pe_meP {pl : Sem Bool} (he : PE X o ta) (c : Cls X.K C) (hm : Meth X.K C m f) (F : FnOk X.prog X.w X.K X.mg X.base CX k f fd ps sp) (hr : Room k X.A) (hb : KBn X.K fd ps (n + 1) [] g gV) (hx : ∀ σ, PassesAt CX X σ (E σ)) (ha : PA X (e :: es) t)
    (hst : starEach (e :: es) X.env = (false, eval e X.env) :: starEach es X.env := by rfl) (hpl : (backTo pos (starEach es X.env)).any (·.1) = false := by rfl)
    (ht : eval (.Call (.Attribute o m apos) (e :: es) [] pos) X.env = (eval o X.env >>= fun ov => standAt apos.atName >>= fun _ => holding [ov] (getMethod ov m pl) >>= fun ff => callWith pos ff.1 ff.2 (backTo pos (starEach (e :: es) X.env)) (backToKw pos (keywordEach [] X.env))) := by rfl) :
    PE X (.Call (.Attribute o m apos) (e :: es) [] pos) (tMe C m n sp gV E ta t tNil) := by
  refine ⟨fun pins s σ H Q I h => PySem.W.methodCall_KW (pl := pl) (thn (he.run pins s σ H _ I h) fun u s1 ⟨x, H1, I1, rx, a, dx, fs, ex, ea, l, q⟩ => ?_) ht⟩
  subst ex
  obtain rfl : u = Value.ref a := rx
  refine getmeth_ok I1 ea c hm l (PySem.W.callWith_K (first := [.ref a]) (h₀ := X.base) I.ok.mod.kin hm.kp (thn (ha.run pos pins s1 σ H1 _ I1 q) fun us s2 ⟨vs, H2, I2, r, l1, q2⟩ => ⟨I2.kIn, ?_⟩) hst hpl)
  exact run_kb (ks := []) (ws := []) (zs := []) F hr hb hx I2 (show Vals (V.ref a :: vs) (Value.ref a :: us) from .cons rfl r) .nil (congrArg Nat.succ l1) rfl q2
theorem pe_meN {pl : Sem Bool} (he : PE X o ta) (c : Cls X.K C) (hm : Meth X.K C m f) (F : FnOk X.prog X.w X.K X.mg X.base CX k f fd ps sp) (hr : Room k X.A) (hb : KBn X.K fd ps 1 ks g gV) (hx : ∀ σ, PassesAt CX X σ (E σ)) (hkw : PK X kws tk)
    (hall : (backToKw pos (keywordEach kws X.env)).all (·.1.isSome) = true := by rfl) (hks : (backToKw pos (keywordEach kws X.env)).filterMap (·.1) = ks := by rfl)
    (hpl : ((backTo pos (starEach [] X.env)).any (·.1) || (backToKw pos (keywordEach kws X.env)).any (·.1.isNone)) = false := by rfl)
    (ht : eval (.Call (.Attribute o m apos) [] kws pos) X.env = (eval o X.env >>= fun ov => standAt apos.atName >>= fun _ => holding [ov] (getMethod ov m pl) >>= fun ff => callWith pos ff.1 ff.2 (backTo pos (starEach [] X.env)) (backToKw pos (keywordEach kws X.env))) := by rfl) :
    PE X (.Call (.Attribute o m apos) [] kws pos) (tMe C m 0 sp gV E ta tNil (fun σ H Q => tk σ H fun zs H1 => zs.length = ks.length ∧ Q zs H1)) := by
  refine ⟨fun pins s σ H Q I h => PySem.W.methodCall_KW (pl := pl) (thn (he.run pins s σ H _ I h) fun u s1 ⟨x, H1, I1, rx, a, dx, fs, ex, ea, l, q⟩ => ?_) ht⟩
  subst ex
  obtain rfl : u = Value.ref a := rx
  refine getmeth_ok I1 ea c hm l (PySem.W.callWith_KW0 (first := [.ref a]) (h₀ := X.base) I.ok.mod.kin hm.kp hall (thn (hkw.run pos pins s1 σ H1 _ I1 q) fun ws s2 ⟨zs, H2, I2, rz, l2, l1, q2⟩ => ⟨I2.kIn, ?_⟩) hpl)
  rw [hks]
  exact run_kb F hr hb hx I2 (show Vals [V.ref a] [Value.ref a] from self1) rz rfl l2 q2
/-- an operator of C with an int or an instance of C on its right, for any slots -/
def r2C (C : Addr) (sp : Sp) (E : XK) : R2 := fun x y H Q => ∃ a dx fs, x = .ref a ∧ H a = some (.ins C dx fs) ∧ ((∃ i, y = .int i) ∨ ∃ b dy gs, y = .ref b ∧ H b = some (.ins C dy gs)) ∧ sp [x, y] H Q E
theorem opr_bin {op : Operator} {E : XK} (B : Bin X.K C op.info.2 f) (F : FnOk X.prog X.w X.K X.mg X.base CX k f fd ps sp) (hr : Room k X.A) (hb : Binds X.K fd ps []) (hx : ∀ σ, PassesAt CX X σ E) : OpR X (binaryOp op) (r2C C sp E) :=
  fun pins s σ H x y v u Q I rx ry h => ops_bin (E := fun _ => E) B F hr hb hx pins s σ H x y v u Q I rx ry h
theorem opr_in {op : Operator} {E : XK} (B : Bin X.K C op.info.2 f) (N : NoIn X.K C op.info.2) (F : FnOk X.prog X.w X.K X.mg X.base CX k f fd ps sp) (hr : Room k X.A) (hb : Binds X.K fd ps []) (hx : ∀ σ, PassesAt CX X σ E) : OpR X (inplaceOp op) (r2C C sp E) :=
  fun pins s σ H x y v u Q I rx ry h => ops_in (E := fun _ => E) B N F hr hb hx pins s σ H x y v u Q I rx ry h
end

/-! ### ints of any sign and size; texts repeated; repr of data -/
/-- // by a divisor that is not 0, below 2 ^ 9000 -/
def CDivX (_ j : Int) : Prop := j ≠ 0 ∧ j.natAbs.log2 < 9000
section
variable {X : Cx} {k : Nat}
theorem op_fdivX : OpR X (binaryOp .FloorDiv) (rI CDivX fun i j => .int (i.fdiv j)) := opI fun i j _ _ _ _ _ hc q => floordiv_int hc.1 q (.inl (PyProof.noPylong_of_log2 hc.2))
/-- a text, no time or once -/
theorem op_strI : OpR X (binaryOp .Mult) (fun x y H Q => ∃ z i, x = .str z ∧ y = .int i ∧ (i = 0 ∨ i = 1) ∧ Q (.str (if i = 0 then Str.empty else z)) H) := by
  rintro pins s σ H x y v u Q I rx ry ⟨z, i, rfl, rfl, hi, q⟩
  obtain ⟨t, rfl⟩ := rx
  obtain ⟨t', rfl⟩ := ry
  rcases hi with rfl | rfl
  · exact P.mul_str_none (by decide) (by decide) ⟨.str Str.empty, H, I.tok _, ⟨_, rfl⟩, q⟩
  · exact P.mul_str (by decide) (fun _ z => absurd z (by simp)) (fun _ z => absurd z (by simp)) (by rw [if_neg (by decide), if_pos (by rfl)]; exact (show EP X pins σ Q (.str z t) s from ⟨.str z, H, I, ⟨_, rfl⟩, q⟩))
/-- repr of None, bools, ints, texts, lists and tuples of these -/
def rRepr (K : PySem.W.Frag) : List V → Hp → VK → Prop := fun xs H Q => ∃ x d, xs = [x] ∧ Dp K H x d ∧ d.showable = true ∧ d.hasDict = false ∧ d.depth ≤ 60 ∧ d.shown.length ≤ sizeLine ∧ Q (.str d.shown) H
theorem call_reprD (gg : GG X.A) (hr : Room k X.A) : CallR X (.builtin "repr") (rRepr X.K) := by
  rintro pins s σ H xs us Q I r ⟨x, d, rfl, hd, sh, nd, dp, sz, q⟩
  obtain ⟨u, rfl, ru⟩ := vals1 r
  have hu := hr.units
  obtain ⟨as, rd⟩ := Dp.reads I d x u hd ru
  cases hd with
  | non => cases ru; exact P.repr_of_none ⟨.str _, H, I.tok _, ⟨_, rfl⟩, q⟩
  | bl b => cases ru; exact P.repr_of_bool ⟨.str _, H, I.tok _, ⟨_, rfl⟩, q⟩
  | int i => obtain ⟨t, rfl⟩ := ru; exact P.repr_of_int (of_decide_eq_true sh) ⟨.str _, H, I.tok _, ⟨_, rfl⟩, q⟩
  | str z => obtain ⟨t, rfl⟩ := ru; exact P.repr_of_str ⟨.str _, H, I.tok _, ⟨_, rfl⟩, q⟩ sz
  | lst h1 h2 => cases ru; exact repr_of_reads' rd sh (PyData.noDict_hsm nd) gg (by omega) (fun _ _ e => e) (fun h' u tk kp => ⟨.str _, H, I.kept kp, ⟨_, rfl⟩, q⟩) sz
  | tup h1 h2 => cases ru; exact repr_of_reads' rd sh (PyData.noDict_hsm nd) gg (by omega) (fun _ _ e => e) (fun h' u tk kp => ⟨.str _, H, I.kept kp, ⟨_, rfl⟩, q⟩) sz
end

/-! ### the end of a law -/
section
variable {P : Program} {w : World} {K : PySem.W.Frag} {mg mb : Str → Option Value} {k : Nat} {fa a : Addr} {fd : FuncData} {x : Str} {sp : Sp} {s : Shared} {vs : List Value} {ns : List Int}
theorem law_run (KX : K.In s.heap) (hns : s.heap.Ns mainGlobals mg) (hb : s.heap.Ns builtinsNs mb) (hbb : ∀ x : Str, x ≠ "__name__" → mb x = bootBuiltins x) (hlim : s.heap.NoLimit) (hg : s.gens = #[])
    (ha : s.heap.get? a = some { cls := .type "list", data := .seq vs.toArray }) (hi : IntsAre vs ns) (hl : ns.length ≤ sizeLine) (hr : Room k callerA)
    (F : ∀ base : Heap, K.In base → base.Ns mainGlobals mg → FnG P w K mg base CX0 k fa fd [x] sp) (hbind : ∀ (s : Shared) (u : Value), BindsTo s fd ⟨[u], []⟩ [(x, u)])
    (hsp : ∀ H : Hp, SqL K H a (ns.map V.int) → sp [.ref a] H (fun v _ => v = .bl true) E0) :
    codeAny (model P w) callerA (.call (.ref fa) ⟨[.ref a], []⟩) (fun r s' => r = .ok (.ret (.bool true)) ∧ OldK s.heap s'.heap ∧ s'.os = s.os ∧ AllBare s'.gens) s := by
  have rv := vals_ints hi
  have core : ∀ H : Hp, (∀ b, H b = none ∨ (b = a ∧ ∃ o xs, H b = some (.frz o (.lst xs)))) → SqL K H a (ns.map V.int) → HOk P w H s.heap → (H a ≠ none → K.lookup a = none) →
      codeAny (model P w) callerA (.call (.ref fa) ⟨[.ref a], []⟩) (fun r s' => r = .ok (.ret (.bool true)) ∧ OldK s.heap s'.heap ∧ s'.os = s.os ∧ AllBare s'.gens) s := by
    intro H hO hS hok hK
    have away : ∀ {b : Addr}, b ≠ a → H b = none := fun {b} n => (hO b).elim id fun z => absurd z.1 n
    have ns' : ∀ {b : Addr} {m : Str → Option Value}, s.heap.Ns b m → (hidT s.heap H).Ns b m := fun {b m} ⟨o, es, ep, e, d, r⟩ =>
      ⟨o, es, ep, hidT_get e (away fun z => by rw [z, ha] at e; cases e; cases d), d, r⟩
    have kin : K.In (hidT s.heap H) := fun b o e => by
      refine hidT_get (KX b o e) ?_
      by_cases hba : b = a
      · cases q : H b with
        | none => rfl
        | some u => rw [hba] at e q; rw [hK (by rw [q]; exact fun z => nomatch z)] at e; cases e
      · exact away hba
    obtain ⟨mc, lim1, lim2⟩ := hlim
    have e0 : Env0 P w K mg (hidT s.heap H) callerA [] s H := ⟨rfl, ⟨kin, ns' hns, ⟨mb, ns' hb, hbb⟩, ⟨mc, ns' lim1, lim2⟩⟩, fun b o e => of_hidT e, Nat.le_of_eq (hidT_size _ _), trivial, fun b z => absurd z (List.not_mem_nil), hok, .of_eq hg⟩
    refine codeAny_mono ((F _ kin (ns' hns)).run (args := ⟨[.ref a], []⟩) (us := [.ref a]) (vs := [V.ref a]) (Q := fun v _ => v = .bl true) (E := E0) rfl hr e0 (hbind s (.ref a)) (.cons rfl .nil) (hsp H hS)) fun r s' z => ?_
    match r, z with
    | .ok (.ret u), ⟨v, H', os, bare, un, hok', r', (q : v = .bl true)⟩ =>
      subst q
      obtain rfl : u = Value.bool true := r'
      refine ⟨rfl, OldK.of_keep fun b o e => ?_, os, bare⟩
      rcases hO b with n | ⟨_, ob, xs, n⟩
      · exact un.keep b o e n (List.not_mem_nil) (List.not_mem_nil)
      · have old := (hok b _ n).1
        have new := (hok' b _ (un.frzs b ob _ n)).1
        rw [e] at old
        rw [new, old]
  cases hk : K.lookup a with
  | some o =>
    have e := KX a o hk
    rw [ha] at e
    cases e
    exact core (fun _ => none) (fun _ => .inl rfl) (.inr ⟨_, vs.toArray, _, hk, rfl, rfl, rfl, by rw [List.size_toArray, hi.length]; exact hl, by simpa using rv⟩) (fun b u z => by cases z) fun z => absurd rfl z
  | none =>
    refine core (fun b => if b = a then some (.frz { cls := .type "list", data := .seq vs.toArray } (.lst (ns.map V.int))) else none) (fun b => ?_) (.inl (.inr ⟨_, if_pos rfl⟩)) (fun b u z => ?_) fun _ => hk
    · by_cases q : b = a
      · exact .inr ⟨q, _, _, if_pos q⟩
      · exact .inl (if_neg q)
    · by_cases q : b = a
      · subst q
        have z2 := (if_pos rfl).symm.trans z
        cases z2
        exact ⟨ha, by rw [List.length_map]; exact hl, vs, _, rv, ha⟩
      · have z2 := (if_neg q).symm.trans z
        cases z2
end
theorem walkG {l : PySem.W.OpenLaw} {n k : Nat} {q : Program} {loose : List Str} {XP : (Str → Option Value) → Heap → Prop} {YP : World → Heap → Prop} {d : DefRec} {K : Params → PySem.W.Frag} {sp : World → Sp} {x : Str}
    (hn : l.most = some n) (hn2 : n ≤ sizeLine) (hdf : d.params.defaults = []) (hr : Room k callerA) (hY : ∀ (w : World) (h : Heap), YP w h → (K w.params).In h)
    (F : ∀ (w : World) (mg : Str → Option Value) (fa : Addr) (h : Heap), (K w.params).In h → h.Ns mainGlobals mg → mg d.name = some (.ref fa) →
      ∃ fd : FuncData, (∀ (s : Shared) (u : Value), BindsTo s fd ⟨[u], []⟩ [(x, u)]) ∧ ∀ base : Heap, (K w.params).In base → base.Ns mainGlobals mg → FnG l.prog w (K w.params) mg base CX0 k fa fd [x] (sp w))
    (hsp : ∀ (w : World) (H : Hp) (a : Addr) (ns : List Int), ns.length ≤ n → SqL (K w.params) H a (ns.map V.int) → sp w [.ref a] H (fun v _ => v = .bl true) E0) :
    PySem.W.WalkO q loose XP YP l.row.toRowW d [] (fun f vs => PySem.call f vs) := by
  refine Att.attach_call hn hdf fun w s₀ s₁ mg mb fa o pm cd doc a vs ns G Y ho hd hcd hmg hobj hints hlen hg => ?_
  obtain ⟨fd, bnd, hF⟩ := F w mg fa _ (hY w _ Y) G.T.g hmg
  exact law_run (hY w _ Y) G.T.g G.T.b G.T.builtins G.T.nolimit hg hobj hints (Nat.le_trans hlen hn2) hr hF bnd fun H hS => hsp w H a ns hlen hS
end Pm

/-! Pm, part 3: operators whose own class stands on the right. -/
namespace Pm
open PySem PySem.Spec PyProof.Rows L2
section
open PySem.W
variable {prog : Program} {w : World} {A : Around} {E : Value → Shared → Prop} {s : Shared} {K : PySem.W.Frag} {y C f : Addr} {oy : Obj} {od : Option Obj} {Q : Value → Shared → Prop}
/-- a slot that declines and leaves all as it was -/
abbrev Decl (prog : Program) (w : World) (A : Around) (E : Value → Shared → Prop) (s : Shared) (id : String) (a b : Value) : Prop := wpAny (model prog w) A (call (.builtin id) [a, b]) (fun v s' => v = .notImplemented ∧ s' = s) E s
abbrev DeclB (prog : Program) (w : World) (A : Around) (E : Value → Shared → Prop) (s : Shared) (B : Builtin) (a b : Value) : Prop := wpAny (model prog w) A (B ⟨[a, b], []⟩) (fun fin s' => ∃ v, fin = .done (.ret v) ∧ v = .notImplemented ∧ s' = s) E s
theorem decl_int {nm : String} {g : Int → Int → Sem Fin} {i : Int} {t : Tok} {o : Obj} (ho : s.heap.get? y = some o) (hd : ∀ v, o.data ≠ .prim v) :
    DeclB prog w A E s (PySem.Builtin.Int.intBinary nm g false) (.int i t) (.ref y) := by
  obtain ⟨hp, gg, d, tk, os⟩ := s
  show wpAny _ _ _ _ _ _
  wp_walk using wpAny_load' ho
  split
  · rename_i h; exact absurd h (hd _)
  · wp_walk
    exact ⟨_, rfl, rfl, rfl⟩
theorem decl_bool {nm : String} {g : Int → Int → Sem Fin} {i : Bool} {o : Obj} (ho : s.heap.get? y = some o) (hd : ∀ v, o.data ≠ .prim v) :
    DeclB prog w A E s (PySem.Builtin.Int.intBinary nm g false) (.bool i) (.ref y) := by
  obtain ⟨hp, gg, d, tk, os⟩ := s
  show wpAny _ _ _ _ _ _
  wp_walk using wpAny_load' ho
  split
  · rename_i h; exact absurd h (hd _)
  · wp_walk
    exact ⟨_, rfl, rfl, rfl⟩
theorem decl_str {z : Str} {t : Tok} {o : Obj} (ho : s.heap.get? y = some o) (hd : ∀ v, o.data ≠ .prim v) :
    DeclB prog w A E s Builtin.«str.__eq__» (.str z t) (.ref y) := by
  obtain ⟨hp, gg, d, tk, os⟩ := s
  show wpAny _ _ _ _ _ _
  wp_walk using wpAny_load' ho
  split
  · rename_i h; exact absurd h (hd _)
  · wp_walk
    exact ⟨_, rfl, rfl, rfl⟩
theorem decl_none : DeclB prog w A E s Builtin.«NoneType.__eq__» .none (.ref y) := by
  obtain ⟨hp, gg, d, tk, os⟩ := s
  show wpAny _ _ _ _ _ _
  wp_walk
  exact ⟨_, rfl, by simp, rfl⟩
theorem decl_tup {x : Addr} {o : Obj} (ho : s.heap.get? y = some o) (hc : o.cls = .ref C) (X : K.In s.heap) (su : subIn K (.ref C) (.type "tuple") = some false) : DeclB prog w A E s Builtin.«tuple.__eq__» (.ref x) (.ref y) := by
  have L1 := looks_subIn (M := model prog w) X su
  obtain ⟨hp, gg, d, tk, os⟩ := s
  show wpAny _ _ _ _ _ _
  wp_walk using GQ.wpAny_loadPart' ho
  rw [hc]
  refine L1.at ?_
  wp_walk
  exact ⟨_, rfl, rfl, rfl⟩
theorem decl_call {T id : String} {name : Str} {B : Builtin} {a b : Value} (sl : Slot T name id) (hT : s.TypeIs a T) (en : entryFor table id = some B) (ar : argsOk id ⟨[a, b], []⟩) (h : DeclB prog w A.in1 E s B a b) : Decl prog w A E s id a b :=
  wpAny_call_entry sl hT en (wpAny_mono h (fun fin s' ⟨v, e, z⟩ => ⟨v, e, z⟩) fun _ _ e => e) ar

/-- a compared with an instance of C on its right: a's own slot declines -/
theorem rc_refl {op : CmpOp} {T id : String} {a : Value} (hu : A.units < cLine) (X : K.In s.heap) (J : InstAt s.heap y oy C od) (hT : s.TypeIs a T) (sl : Slot T (cmpInfo op).2.1 id) (dec : Decl prog w A E s id a (.ref y))
    (su : subIn K (.ref C) (.type T) = some false) (hs : findIn K (.ref C) (cmpInfo op).2.2 = some (some (.ref f))) (hf : isFn K (.ref f) = true)
    (h : wpAny (model prog w) A (call (.ref f) [.ref y, a]) (PySem.W.CmpBack Q) E s) : wpAny (model prog w) A (richCompare op a (.ref y)) Q E s := by
  have two : wpAny (model prog w) A (tryCompare (.ref y) (cmpInfo op).2.2 a) (fun r s' => ∃ v, r = some v ∧ Q v s') E s := by
    unfold tryCompare
    refine wpAny_bind (ifBound_K X J hs hf (wpAny_mono h (fun v s' hv => ?_) fun _ _ e => e))
    cases v <;> first | exact hv.elim | exact wpAny_pure ⟨_, rfl, hv⟩
  unfold richCompare
  simp only [hT.oneThing_none]
  refine wpAny_holding (wpAny_bind (wpAny_cRoomFor hu ?_))
  refine wpAny_bind (wpAny_typeOf hT (wpAny_bind (J.type.here ?_)))
  have ne : (Value.type T != Value.ref C) = true := by simp [bne]
  simp only [ne, if_true]
  refine wpAny_bind ((looks_subIn X su).here ?_)
  simp only [Bool.false_eq_true, if_false, Bool.not_false, if_true]
  refine wpAny_bind (m := tryCompare a _ _) (wpAny_tryCompare_declines hT sl (wpAny_mono dec (fun v s₁ h₁ => ⟨h₁.1, ?_⟩) fun _ _ e => e))
  obtain ⟨_, rfl⟩ := h₁
  refine wpAny_bind (wpAny_mono two (fun r s' z => ?_) fun _ _ e => e)
  obtain ⟨v, rfl, hq⟩ := z
  exact wpAny_pure hq

/-- an int op an instance of C -/
theorem bin1_refl {nm id : String} {i : Int} {t : Tok} {f0 : Addr} (X : K.In s.heap) (J : InstAt s.heap y oy C od) (fl : fillsNumberSlot (.type "int") nm = pure true) (sl : Slot "int" (PySem.dunder nm) id) (dec : Decl prog w A E s id (.int i t) (.ref y))
    (B0 : Bin K C nm f0) (su : subIn K (.ref C) (.type "int") = some false) (hs : findIn K (.ref C) (dunderR nm) = some (some (.ref f))) (hf : isFn K (.ref f) = true)
    (h : wpAny (model prog w) A (call (.ref f) [.ref y, .int i t]) (PySem.W.CmpBack Q) E s) : wpAny (model prog w) A (binaryOp1 nm (.int i t) (.ref y)) (Gave Q) E s := by
  obtain ⟨cd, rest, hcd, hm⟩ := ksp_first B0.sf
  have two := ksp_try X J hs hf h
  have A1 : Looks (model prog w) s.heap (typeOf (.int i t)) (.type "int") := .of_pure rfl
  have A2 : Looks (model prog w) s.heap (typeOf (.ref y)) (.ref C) := J.type
  have A3 : Looks (model prog w) s.heap (fillsNumberSlot (.type "int") nm) true := .of_pure fl
  have A4 : Looks (model prog w) s.heap (fillsNumberSlot (.ref C) nm) true := fills_K X hcd hm B0.at_
  have A5 : Looks (model prog w) s.heap (isSubtype (.ref C) (.type "int")) false := looks_subIn X su
  have A6 : Looks (model prog w) s.heap (numberSlotInPython (.type "int") nm) false := .of_pure rfl
  unfold binaryOp1
  refine wpAny_bind (A1.here (wpAny_bind (A2.here (wpAny_bind (A3.here ?_)))))
  have ne : (Value.type "int" == Value.ref C) = false := by simp
  rw [ne]
  simp only [Bool.false_eq_true, if_false]
  refine wpAny_bind (A4.here ?_)
  simp only [Bool.and_self, if_true, Bool.true_and]
  refine wpAny_bind (A5.here ?_)
  simp only [Bool.false_eq_true, if_false, Bool.not_false, if_true]
  refine wpAny_bind (wpAny_bind (A6.here ?_))
  refine wpAny_pure ?_
  simp only [Bool.false_eq_true, if_false]
  refine wpAny_bind (m := tryMethod (.int i t) _ _) (wpAny_tryMethod_declines (typeIs_int s i t) sl (wpAny_mono dec (fun v s₁ h₁ => ⟨h₁.1, ?_⟩) fun _ _ e => e))
  obtain ⟨_, rfl⟩ := h₁
  refine wpAny_bind (wpAny_mono two (fun r s' z => ?_) fun _ _ e => e)
  obtain ⟨v, rfl, hq⟩ := z
  exact wpAny_bind (wpAny_rule (wpAny_pure ⟨v, rfl, hq⟩))
end

/-! the readings -/
/-- what stands beside an own value in a comparison -/
inductive Side (K : PySem.W.Frag) (C : Addr) (H : Hp) : V → String → Prop
  | int (i : Int) : Side K C H (.int i) "int"
  | bl (b : Bool) : Side K C H (.bl b) "bool"
  | str (z : Str) : Side K C H (.str z) "str"
  | non : Side K C H .non "NoneType"
  | tup {p : Addr} {xs : List V} : SqT K H p xs → Side K C H (.ref p) "tuple"
theorem Side.ty {X : Cx} {C : Addr} {pins : List (Addr × Obj)} {σ : L2.St} {H : Hp} {s : Shared} {x : V} {u : Value} {T : String} (h : Side X.K C H x T) (I : L2.Inv X pins σ H s) (r : RelV x u) : s.TypeIs u T := by
  cases h with
  | int i => obtain ⟨t, rfl⟩ := r; rfl
  | bl b => cases r; rfl
  | str z => obtain ⟨t, rfl⟩ := r; rfl
  | non => cases r; rfl
  | tup hq =>
    cases r
    obtain ⟨its, rv, ⟨o, e, hc, _⟩, _⟩ := I.tuple hq
    exact ⟨o, e, hc⟩
/-- what the written part says of C beside the builtin types -/
structure Besides (K : PySem.W.Frag) (C : Addr) : Prop where
  st : ∀ T ∈ ["int", "bool", "str", "NoneType", "tuple"], PySem.W.subIn K (.type T) (.ref C) = some false
  su : ∀ T ∈ ["int", "bool", "str", "NoneType", "tuple"], PySem.W.subIn K (.ref C) (.type T) = some false
theorem Side.mem {K : PySem.W.Frag} {C : Addr} {H : Hp} {x : V} {T : String} (h : Side K C H x T) : T ∈ ["int", "bool", "str", "NoneType", "tuple"] := by cases h <;> simp
section
variable {X : Cx} {CX : CXT} {k : Nat} {C f f0 : Addr} {fd : FuncData} {ps : List Str} {sp : Sp} {E : XK}
/-- an instance of C compared with anything: its own method -/
def r2Cmp (K : PySem.W.Frag) (C : Addr) (sp : Sp) (E : XK) : R2 := fun x y H Q => ∃ a dx fs, x = .ref a ∧ H a = some (.ins C dx fs) ∧ ((∃ T, Side K C H y T) ∨ ∃ b dy gs, y = .ref b ∧ H b = some (.ins C dy gs)) ∧ sp [x, y] H Q E
theorem opr_cmp {op : CmpOp} (hop : ∀ a b, compareOp op a b = richCompare op a b) (B : Besides X.K C) (S : Spc X.K C (cmpInfo op).2.1 f) (F : FnOk X.prog X.w X.K X.mg X.base CX k f fd ps sp) (hr : Room k X.A) (hb : Binds X.K fd ps []) (hx : ∀ σ, PassesAt CX X σ E) :
    OpR X (compareOp op) (r2Cmp X.K C sp E) := by
  rintro pins s σ H x y v u Q I rx ry ⟨a, dx, fs, rfl, ea, ty, q⟩
  obtain rfl : v = Value.ref a := rx
  rw [hop]
  obtain ⟨od, J⟩ := inst_of I ea
  obtain ⟨m, fr⟩ := I.fr
  have go : wpAny (model X.prog X.w) X.A (call (.ref f) [.ref a, u]) (PySem.W.CmpBack (EP X pins σ Q)) X.xe s :=
    thn (run_at (sub_self hr) F hb (hx σ) I (show Vals [V.ref a, y] [Value.ref a, u] from .cons rfl (.cons ry .nil)) q) fun u' s' z => rel_back z
  have hu : X.A.units < cLine := by have := hr.units; omega
  rcases ty with ⟨T, sd⟩ | ⟨b, dy, gs, rfl, eb⟩
  · have tyL : PySem.W.Looks (model X.prog X.w) s.heap (typeOf u) (.type T) := by
      cases sd with
      | int i => obtain ⟨t, rfl⟩ := ry; exact .of_pure rfl
      | bl b => cases ry; exact .of_pure rfl
      | str z => obtain ⟨t, rfl⟩ := ry; exact .of_pure rfl
      | non => cases ry; exact .of_pure rfl
      | tup hq =>
        cases ry
        obtain ⟨its, rv, ⟨o, e, hc, _⟩, _⟩ := I.tuple hq
        intro A' Q' E' s' k q
        exact wpAny_typeOf (T := "tuple") ⟨o, k _ _ e, hc⟩ q
    exact PySem.W.cmp_K hu fr I.ok.mod.kin J tyL (by unfold PySem.W.notFirst; rw [B.st T sd.mem]; simp) S.at_ S.fn go
  · obtain rfl : u = Value.ref b := ry
    obtain ⟨od', J'⟩ := inst_of I eb
    exact PySem.W.cmp_K hu fr I.ok.mod.kin J J'.type (by unfold PySem.W.notFirst; simp) S.at_ S.fn go
/-- an int compared with an instance of C -/
def r2ICmp (C : Addr) (sp : Sp) (E : XK) : R2 := fun x y H Q => ∃ i b dy gs, x = .int i ∧ y = .ref b ∧ H b = some (.ins C dy gs) ∧ sp [y, x] H Q E
theorem ins_obj {pins : List (Addr × Obj)} {σ : L2.St} {H : Hp} {s : Shared} {a dx : Addr} {fs : List (Str × V)} (I : L2.Inv X pins σ H s) (ea : H a = some (.ins C dx fs)) :
    ∃ od, PySem.W.InstAt s.heap a (PySem.W.instObj C dx) C (some od) := inst_of I ea
theorem opr_icmp {op : CmpOp} {nm : String} {g : Int → Int → Sem PySem.Fin} {id : String} (hop : ∀ a b, compareOp op a b = richCompare op a b) (sl : Slot "int" (cmpInfo op).2.1 id) (en : entryFor table id = some (PySem.Builtin.Int.intBinary nm g false)) (ar : ∀ a b, argsOk id ⟨[a, b], []⟩)
    (B : Besides X.K C) (S : Spc X.K C (cmpInfo op).2.2 f) (F : FnOk X.prog X.w X.K X.mg X.base CX k f fd ps sp) (hr : Room k X.A) (hb : Binds X.K fd ps []) (hx : ∀ σ, PassesAt CX X σ E) :
    OpR X (compareOp op) (r2ICmp C sp E) := by
  rintro pins s σ H x y v u Q I rx ry ⟨i, b, dy, gs, rfl, rfl, eb, q⟩
  obtain ⟨t, rfl⟩ := rx
  obtain rfl : u = Value.ref b := ry
  rw [hop]
  obtain ⟨od, J⟩ := inst_of I eb
  have go : wpAny (model X.prog X.w) X.A (call (.ref f) [.ref b, .int i t]) (PySem.W.CmpBack (EP X pins σ Q)) X.xe s :=
    thn (run_at (sub_self hr) F hb (hx σ) I (show Vals [V.ref b, V.int i] [Value.ref b, Value.int i t] from .cons rfl (.cons ⟨t, rfl⟩ .nil)) q) fun u' s' z => rel_back z
  exact rc_refl (by have := hr.units; omega) I.kIn J (typeIs_int s i t) sl (decl_call sl (typeIs_int s i t) en (ar _ _) (decl_int J.at_ (fun _ z => nomatch z))) (B.su "int" (by simp)) S.at_ S.fn go
/-- anything == an instance of C -/
def r2REq (K : PySem.W.Frag) (C : Addr) (sp : Sp) (E : XK) : R2 := fun x y H Q => ∃ b dy gs T, Side K C H x T ∧ y = .ref b ∧ H b = some (.ins C dy gs) ∧ sp [y, x] H Q E
theorem opr_req (B : Besides X.K C) (S : Spc X.K C "__eq__" f) (F : FnOk X.prog X.w X.K X.mg X.base CX k f fd ps sp) (hr : Room k X.A) (hb : Binds X.K fd ps []) (hx : ∀ σ, PassesAt CX X σ E) :
    OpR X (compareOp .Eq) (r2REq X.K C sp E) := by
  rintro pins s σ H x y v u Q I rx ry ⟨b, dy, gs, T, sd, rfl, eb, q⟩
  obtain rfl : u = Value.ref b := ry
  obtain ⟨od, J⟩ := inst_of I eb
  have go : wpAny (model X.prog X.w) X.A (call (.ref f) [.ref b, v]) (PySem.W.CmpBack (EP X pins σ Q)) X.xe s :=
    thn (run_at (sub_self hr) F hb (hx σ) I (show Vals [V.ref b, x] [Value.ref b, v] from .cons rfl (.cons rx .nil)) q) fun u' s' z => rel_back z
  have hT := sd.ty I rx
  have hu : X.A.units < cLine := by have := hr.units; omega
  have su := B.su T sd.mem
  have np : ∀ v, (PySem.W.instObj C dy).data ≠ .prim v := fun _ z => nomatch z
  show wpAny _ _ (richCompare .Eq _ _) _ _ _
  cases sd with
  | int i => obtain ⟨t, rfl⟩ := rx; exact rc_refl (op := .Eq) hu I.kIn J hT PySem.F.slot_int_eq (decl_call PySem.F.slot_int_eq hT PySem.F.entry_int_eq (PySem.F.args_int_eq_2 _ _) (decl_int J.at_ np)) su S.at_ S.fn go
  | bl b => cases rx; exact rc_refl (op := .Eq) hu I.kIn J hT PySem.F.slot_bool_eq (decl_call PySem.F.slot_bool_eq hT PySem.F.entry_int_eq (PySem.F.args_int_eq_2 _ _) (decl_bool J.at_ np)) su S.at_ S.fn go
  | str z => obtain ⟨t, rfl⟩ := rx; exact rc_refl (op := .Eq) hu I.kIn J hT PySem.F.slot_str_eq (decl_call PySem.F.slot_str_eq hT PySem.F.entry_str_eq (PySem.F.args_str_eq_2 _ _) (decl_str J.at_ np)) su S.at_ S.fn go
  | non => cases rx; exact rc_refl (op := .Eq) hu I.kIn J hT PySem.F.slot_NoneType_eq (decl_call PySem.F.slot_NoneType_eq hT PySem.F.entry_NoneType_eq (PySem.F.args_NoneType_eq_2 _ _) decl_none) su S.at_ S.fn go
  | tup hq => cases rx; exact rc_refl (op := .Eq) hu I.kIn J hT PySem.F.slot_tuple_eq (decl_call PySem.F.slot_tuple_eq hT PySem.F.entry_tuple_eq (PySem.F.args_tuple_eq_2 _ _) (decl_tup J.at_ J.cls I.kIn su)) su S.at_ S.fn go
/-- an int + - * an instance of C -/
theorem opr_ibin {op : Operator} {nm : String} {g : Int → Int → Sem PySem.Fin} {id : String} (fl : fillsNumberSlot (.type "int") op.info.2 = pure true) (sl : Slot "int" (PySem.dunder op.info.2) id) (en : entryFor table id = some (PySem.Builtin.Int.intBinary nm g false)) (ar : ∀ a b, argsOk id ⟨[a, b], []⟩)
    (B : Besides X.K C) (B0 : Bin X.K C op.info.2 f0) (S : Spc X.K C (dunderR op.info.2) f) (F : FnOk X.prog X.w X.K X.mg X.base CX k f fd ps sp) (hr : Room k X.A) (hb : Binds X.K fd ps []) (hx : ∀ σ, PassesAt CX X σ E) :
    OpR X (binaryOp op) (r2ICmp C sp E) := by
  rintro pins s σ H x y v u Q I rx ry ⟨i, b, dy, gs, rfl, rfl, eb, q⟩
  obtain ⟨t, rfl⟩ := rx
  obtain rfl : u = Value.ref b := ry
  obtain ⟨od, J⟩ := inst_of I eb
  have go : wpAny (model X.prog X.w) X.A (call (.ref f) [.ref b, .int i t]) (PySem.W.CmpBack (EP X pins σ Q)) X.xe s :=
    thn (run_at (sub_self hr) F hb (hx σ) I (show Vals [V.ref b, V.int i] [Value.ref b, Value.int i t] from .cons rfl (.cons ⟨t, rfl⟩ .nil)) q) fun u' s' z => rel_back z
  exact bin_of (bin1_refl I.kIn J fl sl (decl_call sl (typeIs_int s i t) en (ar _ _) (decl_int J.at_ (fun _ z => nomatch z))) B0 (B.su "int" (by simp)) S.at_ S.fn go)
end
end Pm

/-! Pm, part 4: texts of own values, in, != by an own ==, what a caught error is. -/
namespace Pm
open PySem PySem.Spec PyProof.Rows L2
section
open PySem.W PySem.Calls
variable {prog : Program} {w : World} {A : Around} {E : Value → Shared → Prop} {s : Shared} {K : PySem.W.Frag} {x C f : Addr} {ox : Obj} {od : Option Obj}
/-- the class of a caught error, asked by its name -/
theorem cls_exc {Q : Option Value → Shared → Prop} (T : ExcC K C) (X : K.In s.heap) (I : PySem.W.InstAt s.heap x ox C od) (h : Q (some (.ref C)) { s with toks := s.toks + 1 }) :
    wpAny (model prog w) A (getAttr? (.ref x) "__class__") Q E s := by
  have isC : (clsIn K C).isSome = true := by obtain ⟨c, e, _⟩ := any_some T.hd; rw [e]; rfl
  have fo : findObj K C od "__class__" = some (.bind (.builtin "getset_descriptor.__get__") (.builtin "object.__class__")) := by
    cases od with
    | none => exact findObj_dataN isC T.ha T.hn T.ht
    | some o => exact findObj_data isC T.ha T.hn T.ht
  obtain ⟨hp, gs, dr, tk, os⟩ := s
  have t0 : Looks (model prog w) hp (typeOf (.ref x)) (.ref C) := I.type
  have t1 := looks_findIn (M := model prog w) X T.hg
  have t2 := looks_findIn (M := model prog w) X T.hk
  have t3 := looks_find (M := model prog w) X I fo
  have t4 : Looks (model prog w) hp (isInstance (.ref x) (.type "BaseException")) true := t0.andThen (looks_subIn X T.hs)
  have n2 : (Value.builtin "BaseException.__getattribute__" == Value.builtin "object.__getattribute__") = false := by decide +kernel
  unfold getAttr? getAttrBy? getAttrBy; refine wpAny_bind (wpAny_mkText (wpAny_bind (wpAny_attempt (wpAny_holding (wpAny_bind (t0.at (wpAny_bind (t1.at ?_))))))))
  show wpAny _ _ (if (onTheHeap (.ref C) && (Value.builtin "BaseException.__getattribute__" == Value.builtin "object.__getattribute__")) = true then _ else _) _ _ _
  rw [n2, Bool.and_false, if_neg Bool.false_ne_true]; unfold getAttrByItsOwn hookBefore
  refine wpAny_bind ?_; rw [if_pos (show onTheHeap (.ref C) = true from rfl)]
  refine t2.at (wpAny_bind (wpAny_attempt (wpAny_holding ?_)))
  unfold callGetattribute; rw [Bool.false_and, if_neg Bool.false_ne_true]
  unfold boundAndCalled; rw [PySem.F.excAttr_ValueError.ga.bind (.ref x)]
  refine wpAny_bind (wpAny_pure ?_); show wpAny _ _ (call (.builtin "BaseException.__getattribute__") [.ref x, .str "__class__" tk]) _ _ _
  refine wpAny_call (codeAny_call_builtin PySem.F.excAttr_ValueError.ga.plain PySem.F.entry_bexc_ga (@check_slot (model prog w) _ _ ⟨hp, gs, dr, tk + 1, os⟩ "BaseException.__getattribute__" "BaseException" "__getattribute__" (.ref x) [.str "__class__" tk] [] _ (by decide +kernel) (by decide +kernel) t4 (PySem.F.args_bexc_ga (.ref x) (.str "__class__" tk)) ?_))
  unfold Builtin.«object.__getattribute__»; refine wpAny_bind (wpAny_of_eq (a := ((Value.ref x : Value), [Value.str "__class__" tk])) (by first | rfl | (simp only [slotArgs]; rfl)) (wpAny_bind (wpAny_pure (wpAny_bind (t0.at (wpAny_bind (t3.at ?_)))))))
  show wpAny _ _ (holding [.builtin "object.__class__"] (call (.builtin "getset_descriptor.__get__") [.builtin "object.__class__", .ref x, .ref C]) >>= ret) _ _ _
  refine wpAny_bind (wpAny_holding (wpAny_call (class_get (s := ⟨hp, gs, dr, tk + 1, os⟩) (ox := ox) (od := od) X I T.hm (wpAny_pure ?_))))
  show wpAny _ _ (handedOut (.ref C)) _ _ _
  rw [handedOut_of (v := .ref C) rfl]
  first
    | exact wpAny_pure (wpAny_pure h)
    | exact wpAny_pure h
    | exact wpAny_pure (wpAny_bind (wpAny_pure (wpAny_pure h)))
theorem kitx_excX (T : ExcC K C) : KitX K (.ref x) (.ref C) (fun h => PySem.W.InstAt h x ox C od) where
  ty := fun _ _ _ I => I.type
  it := fun _ _ X _ => by
    obtain ⟨c, e, _⟩ := any_some T.hd; unfold clsIn at e; split at e
    · rename_i ho; intro A' Q' E' s' k q; unfold isType loadHead; exact wpAny_bind (wpAny_loadPart (k _ _ (X _ _ ho)) (wpAny_pure q))
    · cases e
  ne := fun h tp dd its n sl X htp => by
    obtain ⟨c, e, _⟩ := any_some T.hd; unfold clsIn at e; split at e
    · rename_i ho; refine Bool.eq_false_iff.mpr fun q => ?_
      have e1 : C = tp := Value.ref.inj (beq_iff_eq.mp q)
      subst e1; have z := (X _ _ ho).symm.trans htp; cases z
    · cases e
  ca := fun X I k => cls_exc T X I k
/-- a builtin special method that an own class has of its base -/
theorem bound_B {M : Model} {name : Str} {id : String} {args : List Value} {Q : Option Value → Shared → Prop} (X : K.In s.heap) (J : PySem.W.InstAt s.heap x ox C od) (hs : findIn K (.ref C) name = some (some (.builtin id)))
    (hb : ∀ v, bindSpecial (.builtin id) v = pure (.builtin id, [v])) (h : wpAny M A (call (.builtin id) (.ref x :: args)) (fun v => Q (some v)) E s) : wpAny M A (callSpecialIfBound? (.ref x) name args) Q E s := by
  have done : wpAny M A (call (.builtin id) ([.ref x] ++ args) >>= fun v => pure (some v)) Q E s := wpAny_bind (wpAny_mono h (fun _ _ z => wpAny_pure z) fun _ _ z => z)
  unfold callSpecialIfBound? bindSpecialIfBound?; refine wpAny_holding (wpAny_bind (wpAny_bind (wpAny_bind (J.type.here ((looks_findIn X hs).here (wpAny_bind (wpAny_askSetting (wpAny_ite ?_))))))))
  split
  · exact wpAny_bind ((Looks.of_pure (hb _)).here (wpAny_pure (by exact done)))
  · exact wpAny_tryCatch (wpAny_bind ((Looks.of_pure (hb _)).here (wpAny_pure (by exact done))))
/-- x != b where x's class has an own == and no own != -/
theorem rc_neE {b tb : Value} {Q : Value → Shared → Prop} (hu : A.units < cLine) (hu1 : A.in1.units < cLine) (X : K.In s.heap) (J : PySem.W.InstAt s.heap x ox C od) (hb : Looks (model prog w) s.heap (typeOf b) tb) (hn : notFirst K C tb = true) (hne : findIn K (.ref C) "__ne__" = some (some (.builtin "object.__ne__")))
    (hm : mroIn K C (.type "object") = some true) (he : findIn K (.ref C) "__eq__" = some (some (.ref f))) (hf : isFn K (.ref f) = true)
    (h : wpAny (model prog w) A.in1 (call (.ref f) [.ref x, b]) (fun v s' => ∃ r, v = .bool r ∧ Q (.bool (!r)) s') E s) : wpAny (model prog w) A (richCompare .NotEq (.ref x) b) Q E s := by
  have one : wpAny (model prog w) A (tryCompare (.ref x) (cmpInfo .NotEq).2.1 b) (fun r s' => ∃ v, r = some v ∧ Q v s') E s := by
    unfold tryCompare
    refine wpAny_bind (bound_B X J hne PySem.F.slot_object_ne.bind (wpAny_call (codeAny_call_builtin PySem.F.slot_object_ne.plain PySem.F.entry_object_ne (check_slot (i := "object.__ne__") (owner := "object") (n := "__ne__") (by decide +kernel) (by decide +kernel) (J.type.andThen (looks_mroIn X hm)) (PySem.F.args_object_ne_2 _ _) ?_))))
    unfold Builtin.«object.__ne__»; refine wpAny_bind (m := slotArgs "__ne__" 1 _) (wpAny_pure ?_)
    refine wpAny_bind (m := cRoomFor _ _) (wpAny_cRoomFor hu1 (wpAny_bind (m := callSpecialIfBound? (.ref x) "__eq__" _) (ifBound_K X J he hf (wpAny_mono h (fun v s' z => ?_) fun _ _ z => z))))
    obtain ⟨r, rfl, q⟩ := z
    exact wpAny_bind (wpAny_truthy_bool (wpAny_pure (wpAny_pure ⟨_, rfl, q⟩)))
  unfold richCompare; simp only [oneThing_ref]
  refine wpAny_holding (wpAny_bind (wpAny_cRoomFor hu (wpAny_bind (J.type.here (wpAny_bind (hb.here ?_))))))
  have fin : wpAny (model prog w) A (do if let some v ← tryCompare (.ref x) (cmpInfo .NotEq).2.1 b then return v else pure .none) Q E s := wpAny_bind (wpAny_mono one (fun r s' ⟨v, e, q⟩ => by subst e; exact wpAny_pure q) fun _ _ z => z)
  split
  · rename_i q
    have e : subIn K tb (.ref C) = some false := (Bool.or_eq_true_iff.mp hn).elim (fun e => by rw [beq_iff_eq.mp e] at q; simp at q) (fun e => beq_iff_eq.mp e)
    refine wpAny_bind ((looks_subIn X e).here ?_); simp only [Bool.false_eq_true, if_false]
    exact wpAny_bind (wpAny_mono one (fun r s' ⟨v, e, q⟩ => by subst e; exact wpAny_pure q) fun _ _ z => z)
  · refine wpAny_bind (wpAny_pure ?_); simp only [Bool.false_eq_true, if_false]
    exact wpAny_bind (wpAny_mono one (fun r s' ⟨v, e, q⟩ => by subst e; exact wpAny_pure q) fun _ _ z => z)
end
section
variable {X : Cx} {CX : CXT} {k : Nat} {C f a : Addr} {fd : FuncData} {ps : List Str} {sp : Sp} {E : XK} {oe : Obj} {cls : Value} {d : Option Addr} {pn : List (Addr × Obj)}
/-- isinstance of the error that the suite holds, of class C, its own dict at d -/
def rIsEX (K : PySem.W.Frag) (a : Addr) (cls : Value) (d : Option Addr) (C : Addr) : List V → Hp → VK → Prop := fun xs H Q => cls = .ref C ∧ ∃ dd fs, d = some dd ∧ H dd = some (.xd fs) ∧
  ((∃ c cv b, xs = [.ref a, c] ∧ ClsV c cv ∧ PySem.W.kitOne K (.ref C) cv = some b ∧ Q (.bl b) H) ∨ ∃ tp cs us b, xs = [.ref a, .ref tp] ∧ H tp = some (.tup cs) ∧ Paired ClsV cs us ∧ PySem.W.kitAny K (.ref C) us = some b ∧ Q (.bl b) H)
theorem call_isX (T : ExcC X.K C) (hz : Zc cls d oe) (hf : ∃ vs, oe.data = .fields vs) : CallR (X.suite a ((a, oe) :: pn)) (.builtin "isinstance") (rIsEX X.K a cls d C) := by
  rintro pins s σ H xs us Q I r ⟨rfl, dd, fs, rfl, ed, h⟩
  obtain ⟨ha, _⟩ := I.pin (a, oe) (List.mem_append_left _ List.mem_cons_self)
  obtain ⟨vs, hd⟩ := hf
  obtain ⟨mA, hns, _⟩ := (show ObjOk X.prog X.w H s.heap dd (.xd fs) from I.hok dd _ ed)
  obtain ⟨od, ho, _⟩ := lookIn_ns hns
  have J : PySem.W.InstAt s.heap a oe C (some od) := ⟨ha, hz.1, by unfold PySem.W.notCls; rw [hd] <;> rfl, by rw [hz.2]; exact ho⟩
  rcases h with ⟨c, cv, b, rfl, hc, e, q⟩ | ⟨tp, cs, cvs, b, rfl, ht, hc, e, q⟩
  · obtain ⟨u1, u2, rfl, r1, r2⟩ := vals2 r
    obtain rfl : u1 = Value.ref a := r1
    have e2 := hc.eq r2
    subst e2
    exact PySem.W.kia_one (kitx_excX T) I.kIn J e (fun z => nomatch z) fun tk => ⟨.bl b, H, I.tok tk, rfl, q⟩
  · obtain ⟨u1, u2, rfl, r1, r2⟩ := vals2 r
    obtain rfl : u1 = Value.ref a := r1
    obtain rfl : u2 = Value.ref tp := r2
    obtain ⟨_, its, rv, o, h1, h2, n, h3⟩ := (show ObjOk X.prog X.w H s.heap tp (.tup cs) from I.hok tp _ ht)
    have e3 := ClsV.all hc rv
    subst e3
    obtain ⟨oc, od', dt, sl⟩ := o
    simp only at h2 h3
    subst h2 h3
    exact PySem.W.kia_tup (kitx_excX T) I.kIn J h1 e (fun z => nomatch z) fun tk => ⟨.bl b, H, I.tok tk, rfl, q⟩
/-- {x} in an f-string, x an instance of C with an own __str__ -/
def tFmtO (C : Addr) (sp : Sp) (E : XK) (te : TE) : TE := fun σ H Q => te σ H fun x H1 => ∃ b dx fs, x = .ref b ∧ H1 b = some (.ins C dx fs) ∧ sp [.ref b] H1 (fun v H' => (∃ z, v = .str z) ∧ Q v H') E
theorem pe_fmtO {e : Expr} {te : TE} {pos : Pos} (he : PE X e te) (fm : PySem.W.findIn X.K (.ref C) "__format__" = some (some (.builtin "object.__format__"))) (hm : PySem.W.mroIn X.K C (.type "object") = some true)
    (S : Spc X.K C "__str__" f) (F : FnOk X.prog X.w X.K X.mg X.base CX k f fd ps sp) (hr : Room (k + 1) X.A) (hb : Binds X.K fd ps []) (hx : ∀ σ, PassesAt CX X σ E) : PE X (.FormattedValue e (-1) none pos) (tFmtO C sp E te) := by
  refine ⟨fun pins s σ H Q I h => wpAny_FormattedValue_plain (thn (he.run pins s σ H _ I h) fun v s1 ⟨x, H1, I1, r1, b, dx, fs, ex, eb, q⟩ => ?_)⟩
  subst ex
  obtain rfl : v = Value.ref b := r1
  obtain ⟨od, J⟩ := inst_of I1 eb
  have sb := (sub_self hr).in1
  exact PySem.W.kfo_fieldS (by have := sb.room.units; omega) I1.kIn J fm hm S.at_ S.fn (thn (run_at sb F hb (hx σ) (I1.tok _) self1 q) fun u s' => strback)
/-- x in an instance of C -/
theorem op_inO (S : Spc X.K C "__contains__" f) (F : FnOk X.prog X.w X.K X.mg X.base CX k f fd ps sp) (hr : Room k X.A) (hb : Binds X.K fd ps []) (hx : ∀ σ, PassesAt CX X σ E) :
    OpR X (compareOp .In) (fun x y H Q => ∃ b dy gs, y = .ref b ∧ H b = some (.ins C dy gs) ∧ sp [y, x] H (fun v H' => ∃ r, v = .bl r ∧ Q (.bl r) H') E) := by
  rintro pins s σ H x y v u Q I rx ry ⟨b, dy, gs, rfl, eb, q⟩
  obtain rfl : u = Value.ref b := ry
  obtain ⟨od, J⟩ := inst_of I eb
  obtain ⟨m, fr⟩ := I.fr
  refine PySem.W.in_K fr I.ok.mod.kin J S.at_ S.fn (thn (run_at (sub_self hr) F hb (hx σ) I (show Vals [V.ref b, x] [Value.ref b, v] from .cons rfl (.cons rx .nil)) q) fun u s' z => ?_)
  obtain ⟨vv, H', I', r', ⟨r, rfl, q'⟩⟩ := z
  cases r'
  exact wpAny_truthy_bool ⟨.bl r, H', I', rfl, q'⟩
/-- != by an own == -/
theorem opr_neE (B : Besides X.K C) (hne : PySem.W.findIn X.K (.ref C) "__ne__" = some (some (.builtin "object.__ne__"))) (hm : PySem.W.mroIn X.K C (.type "object") = some true) (S : Spc X.K C "__eq__" f) (F : FnOk X.prog X.w X.K X.mg X.base CX k f fd ps sp) (hr : Room (k + 1) X.A) (hb : Binds X.K fd ps []) (hx : ∀ σ, PassesAt CX X σ E) :
    OpR X (compareOp .NotEq) (fun x y H Q => ∃ a dx fs b dy gs, x = .ref a ∧ y = .ref b ∧ H a = some (.ins C dx fs) ∧ H b = some (.ins C dy gs) ∧ sp [x, y] H (fun v H' => ∃ r, v = .bl r ∧ Q (.bl (!r)) H') E) := by
  rintro pins s σ H x y v u Q I rx ry ⟨a, dx, fs, b, dy, gs, rfl, rfl, ea, eb, q⟩
  obtain rfl : v = Value.ref a := rx
  obtain rfl : u = Value.ref b := ry
  obtain ⟨od, J⟩ := inst_of I ea
  obtain ⟨od', J'⟩ := inst_of I eb
  have sb := (sub_self hr).in1
  refine rc_neE (by have := hr.units; omega) (by have := sb.room.units; omega) I.kIn J J'.type (by unfold PySem.W.notFirst; simp) hne hm S.at_ S.fn (thn (run_at sb F hb (hx σ) I (show Vals [V.ref a, V.ref b] [Value.ref a, Value.ref b] from .cons rfl (.cons rfl .nil)) q) fun u s' z => ?_)
  obtain ⟨vv, H', I', r', ⟨r, rfl, q'⟩⟩ := z
  cases r'
  exact ⟨r, rfl, .bl (!r), H', I', rfl, q'⟩
end
end Pm

/-! Pm, part 5: lists of own instances: repr; len(x), x[i] by own methods. -/
namespace Pm
open PySem PySem.Spec PyProof.Rows L2
section
open PySem.W PySem.Calls
variable {prog : Program} {w : World} {A : Around} {E : Value → Shared → Prop} {s : Shared} {K : PySem.W.Frag} {x C f : Addr} {ox : Obj} {od : Option Obj}
/-- a special method of an own class, called in another way than by call -/
theorem by_own {M : Model} {name : Str} {last : Value → List Value → Sem Value} {Q : Option Value → Shared → Prop} (X : K.In s.heap) (I : PySem.W.InstAt s.heap x ox C od) (hs : findIn K (.ref C) name = some (some (.ref f))) (hf : isFn K (.ref f) = true)
    (h : wpAny M A (last (.ref f) [.ref x]) (fun v => Q (some v)) E s) : wpAny M A (callSpecialIfBoundBy? last (.ref x) name) Q E s := by
  have done : wpAny M A (last (.ref f) [.ref x] >>= fun v => pure (some v)) Q E s := wpAny_bind (wpAny_mono h (fun _ _ z => wpAny_pure z) fun _ _ z => z)
  unfold callSpecialIfBoundBy? bindSpecialIfBound?; refine wpAny_holding (wpAny_bind (wpAny_bind (wpAny_bind (I.type.here ((looks_findIn X hs).here (wpAny_bind (wpAny_askSetting (wpAny_ite ?_))))))))
  split
  · exact wpAny_bind ((bind_fn X _ (beq_iff_eq.mp hf)).here (wpAny_pure (by exact done)))
  · exact wpAny_tryCatch (wpAny_bind ((bind_fn X _ (beq_iff_eq.mp hf)).here (wpAny_pure (by exact done))))
/-- the text of an own instance within a list's text -/
theorem under_own {b : Nat} {Q : Str → Shared → Prop} (hb : b ≤ sizeLine) (hu : A.units < cLine) (X : K.In s.heap) (I : PySem.W.InstAt s.heap x ox C od) (hs : findIn K (.ref C) "__repr__" = some (some (.ref f))) (hf : isFn K (.ref f) = true)
    (h : wpAny (model prog w) A (call (.ref f) [.ref x]) (fun v s' => ∃ z t, v = .str z t ∧ Q z s') E s) : wpAny (model prog w) A (pyReprUnder b (.ref x)) Q E s := by
  refine wpAny_pyReprUnder_ref hb ?_
  unfold pyReprObjUnder pyReprObjBy; refine wpAny_bind (wpAny_cRoomFor hu (wpAny_bind (wpAny_bind (I.type.here ((looks_findIn X hs).here ?_)))))
  show wpAny _ _ (if (some (Value.ref f)).isNone = true then _ else _) _ _ _
  rw [if_neg (by simp)]
  refine wpAny_bind (by_own X I hs hf (wpAny_mono h (fun v s' z => ?_) fun _ _ e => e))
  obtain ⟨z, t, rfl, q⟩ := z
  refine wpAny_bind (wpAny_isInstance (typeIs_str _ _ _) isSubtype_str_str ?_)
  first
    | exact wpAny_pure ⟨_, _, rfl, q⟩
    | (rw [if_pos rfl]; exact wpAny_pure ⟨_, _, rfl, q⟩)
end
/-! ### repr of a list of own instances -/
abbrev loopC (us : List Value) : Code := .builtin "list.__repr__.loop" ⟨us, []⟩
theorem loop_units {A : Around} {us : List Value} : (A.under (loopC us)).units = A.units + 1 := by first | rfl | simp [Around.under, Code.cUnits, Code.frames, Code.isFrame]
theorem loop_frames {A : Around} {us : List Value} : (A.under (loopC us)).frames = A.frames := by
  show pushEnvs (loopC us).envs A.frames = A.frames
  have e : (loopC us).envs = [] := by first | rfl | simp [loopC, Code.envs, Code.isFrame]
  rw [e]
  cases A.frames <;> rfl
theorem loop_depth {A : Around} {us : List Value} : (A.under (loopC us)).depth ≤ A.depth + 1 := by
  show A.depth + (loopC us).weight ≤ A.depth + 1
  have e : (loopC us).weight ≤ 1 := by
    have g : Code.isGuard (loopC us) = true := by show guardIds.contains "list.__repr__.loop" = true; decide +kernel
    simp [Code.weight, loopC, Code.isCreation, Code.isCaller, Code.frames, Code.isFrame]
    first | (split <;> decide) | skip
  omega
theorem loop_room {X : Cx} {k : Nat} {A : Around} {us : List Value} (r : L2.Sub X (k + 1) A) : L2.Sub X k (A.under (loopC us)) := by
  refine ⟨⟨r.room.hd, ?_, ?_⟩, loop_frames.trans r.fr⟩
  · have := r.room.dp; have := loop_depth (A := A) (us := us); omega
  · have := r.room.un; rw [loop_units]; omega
section
variable {X : Cx} {k : Nat} {C f l P : Addr} {fd : FuncData} {ps : List Str} {sp : Sp} {pins : List (Addr × Obj)} {σ : L2.St} {H : Hp} {qs : List Addr} {ts : List Str} {A : Around} {R : PySem.Result → Shared → Prop} {b : Nat}
/-- each of them tells its text, and leaves the heap as it is -/
def Tells (C : Addr) (sp : Sp) (H : Hp) (qs : List Addr) (ts : List Str) : Prop :=
  ts.length = qs.length ∧ ∀ (i : Nat) (q : Addr) (t : Str), qs[i]? = some q → ts[i]? = some t → (∃ dx fs, H q = some (.ins C dx fs)) ∧ ∀ Q' : VK, Q' (.str t) H → sp [.ref q] H Q' E0
abbrev plob (acc : Array Value) (c : Nat) : Obj := { cls := .type "list", dict := none, data := .seq acc c, slots := #[] }
theorem reprs_loop (S : Spc X.K C "__repr__" f) (G : FnOk X.prog X.w X.K X.mg X.base CX0 k f fd ps sp) (hb : Binds X.K fd ps []) (sb : L2.Sub X (k + 1) A)
    (hl : H l = some (.lst (qs.map V.ref))) (T : Tells C sp H qs ts) (hsz : b + (listText ts).length ≤ sizeLine) (np : ∀ p ∈ X.pn ++ pins, p.1 ≠ P) (h1 : P ∈ X.ex ∨ X.s_0.heap.objs.size ≤ P)
    (hR : ∀ u s', L2.Inv X pins σ H s' → R (.ok (.ret (.str (listText ts) u))) s') (hE : ∀ e s', X.xe e s' → R (.error e) s') :
    ∀ (n i : Nat) (s : Shared) (acc : Array Value) (c : Nat) (done : List (Str × Tok)), qs.length - i = n → i ≤ qs.length → L2.Inv X ((P, plob acc c) :: pins) σ H s → acc.toList = strValues done → done.map (·.1) = ts.take i →
      codeAny (model X.prog X.w) A (loopC [.ref l, rawInt i, .ref P, rawInt ((b + piled (ts.take i) : Nat) : Int)]) R s := by
  have len := T.1
  have pl := piled_le_listText ts
  have fl := (textFrom_len ts 0 "[")
  have xl : (listText ts).length = (textFrom 0 "[" ts).length + 1 := by
    show (textFrom 0 "[" ts ++ "]").length = _
    rw [strLen_append]; rfl
  have few : qs.length ≤ sizeLine := by
    have := fl.1
    rw [if_neg (Nat.lt_irrefl 0)] at this
    omega
  intro n
  induction n with
  | zero =>
    intro i s acc c done hk hi I hacc hdone
    obtain rfl : i = qs.length := by omega
    have hP := (I.pin (P, plob acc c) (List.mem_append_right _ List.mem_cons_self)).1
    obtain ⟨_, its, n0, rv, el, ho⟩ := I.lstM hl
    rw [List.length_map] at el
    refine codeAny_builtin PySem.F.entry_list_repr_loop ?_
    show wpAny _ _ (Builtin.«list.__repr__.loop» _) _ _ s
    unfold rawInt; rw [repr_loop_tree]; refine wpAny_bind (wpAny_listItems ho rfl ?_)
    have none : its.toArray[((qs.length : Nat) : Int).toNat]? = none := by simp [el]
    rw [none]
    show wpAny _ _ (reprEnd (.ref P)) _ _ s
    unfold reprEnd; refine wpAny_bind (wpAny_listItems hP rfl ?_)
    rw [hacc, repr_fold]
    have all : done.map (·.1) = ts := by rw [hdone, ← len, List.take_length]
    rw [all]; refine wpAny_bind (wpAny_pure (wpAny_bind (wpAny_mkStr (wpAny_pure ?_) (by show (listText ts).length ≤ sizeLine; omega))))
    exact hR _ _ (ClX.unpin (I.tok _))
  | succ n ih =>
    intro i s acc c done hk hi I hacc hdone
    have lt : i < qs.length := by omega
    have hP := I.pin (P, plob acc c) (List.mem_append_right _ List.mem_cons_self)
    obtain ⟨_, its, n0, rv, el, ho⟩ := I.lstM hl
    rw [List.length_map] at el
    obtain ⟨q, hq⟩ : ∃ q, qs[i]? = some q := ⟨_, List.getElem?_eq_getElem lt⟩
    obtain ⟨t, ht⟩ : ∃ t, ts[i]? = some t := ⟨_, List.getElem?_eq_getElem (by omega)⟩
    obtain ⟨⟨dx, fs, eq⟩, tell⟩ := T.2 i q t hq ht
    have hit : its[i]? = some (.ref q) := by
      obtain ⟨u, hu, ru⟩ := rv.get (i := i) (x := V.ref q) (by rw [List.getElem?_map, hq]; rfl)
      cases ru
      exact hu
    have tl := fl.2.1 t (List.mem_of_getElem? ht)
    have p1 := piled_take_succ ht
    have p2 := piled_take_le ts (i + 1)
    refine codeAny_builtin PySem.F.entry_list_repr_loop ?_
    show wpAny _ _ (Builtin.«list.__repr__.loop» _) _ _ s
    unfold rawInt; rw [repr_loop_tree]; refine wpAny_bind (wpAny_listItems ho rfl ?_)
    have some_ : its.toArray[((i : Nat) : Int).toNat]? = some (.ref q) := by simp [hit]
    rw [some_]
    obtain ⟨od, J⟩ := inst_of I eq
    have sb2 : L2.Sub X k (A.under (loopC [.ref l, rawInt i, .ref P, rawInt ((b + piled (ts.take i) : Nat) : Int)])) := loop_room sb
    have un : (A.under (loopC [.ref l, rawInt i, .ref P, rawInt ((b + piled (ts.take i) : Nat) : Int)])).units < cLine := by have := sb2.room.un; omega
    refine wpAny_bind (wpAny_holding (under_own (by simp; omega) un I.kIn J S.at_ S.fn (wpAny_mono (run_at sb2 G hb at0 I self1 (tell (fun v H' => v = .str t ∧ H' = H) ⟨rfl, rfl⟩)) (fun u s1 z => ?_) fun e s1 z => hE e s1 z)))
    obtain ⟨v, H1, I1, r1, rfl, rfl⟩ := z
    obtain ⟨tk, rfl⟩ := r1
    refine ⟨t, tk, rfl, ?_⟩
    have few2 : acc.size ≤ sizeLine := by
      have e1 : acc.toList.length = acc.size := by simp
      have e2 : (strValues done).length = done.length := by simp [strValues]
      have e3 : done.length = (ts.take i).length := by rw [← hdone, List.length_map]
      have e4 : (ts.take i).length ≤ i := by rw [List.length_take]; omega
      rw [hacc] at e1
      omega
    have hP1 := I1.pin (P, plob acc c) (List.mem_append_right _ List.mem_cons_self)
    refine wpAny_bind (wpAny_mkStr (wpAny_bind ?_) (by omega))
    show wpAny _ _ (updateSeq P _) _ _ _
    refine wpAny_updateSeq hP1.1 rfl (wpAny_pure ⟨PySem.F.quiet_list_repr_loop _, ?_⟩) few2
    have c1 : ((i : Int) + 1) = ((i + 1 : Nat) : Int) := by omega
    have c2 : ((b + piled (ts.take i) : Nat) : Int).toNat + (t.length + 2) = b + piled (ts.take (i + 1)) := by simp; omega
    have cells : ∀ x c', X.env.cells.lookup x = some c' → c' ≠ P := fun x c' e z => by
      obtain ⟨v', q'⟩ := I1.cell x c' e
      obtain ⟨o', ho', hd'⟩ := q'
      rw [z, hP1.1] at ho'
      cases ho'
      exact hP1.2.2.2.2 v' hd'
    have hs0 := I1.tok (s1.toks + 1)
    have self : ∀ o, (Obj.mapSeq (·.push (.str t s1.toks)) (plob acc c)) = o → (s1.heap.update P (Obj.mapSeq (·.push (.str t s1.toks)))).get? P = some o := fun o e => by rw [← e]; exact Heap.get?_update_self _ hP1.1 rfl
    have I2 : L2.Inv X pins σ H1 { s1 with heap := s1.heap.update P (Obj.mapSeq (·.push (.str t s1.toks))), toks := s1.toks + 1 } :=
      (ClX.unpin I1).turned (it := P) (fun b o hb e => (Heap.get?_update_other _ _ (Ne.symm hb)).trans e) hP1.2.1 hP1.2.2.1 h1 cells np
    have I3 : L2.Inv X ((P, plob (acc.push (.str t s1.toks)) _) :: pins) σ H1 { s1 with heap := s1.heap.update P (Obj.mapSeq (·.push (.str t s1.toks))), toks := s1.toks + 1 } := I2.pins_of fun p hp => by
      rcases List.mem_cons.mp hp with rfl | hp
      · exact ⟨self _ rfl, hP1.2.1, hP1.2.2.1, hP1.2.2.2.1, fun v z => nomatch z⟩
      · exact I2.pin p (List.mem_append_right _ hp)
    have go := ih (i + 1) _ _ _ (done ++ [(t, s1.toks)]) (by omega) lt I3 (by simp [hacc, strValues]) (by simp [List.take_add_one, ht, hdone])
    show codeAny _ A (.builtin "list.__repr__.loop" ⟨[_, rawInt ((i : Int) + 1), _, rawInt ((((b + piled (ts.take i) : Nat) : Int).toNat + (t.length + 2) : Nat) : Int)], []⟩) R _
    rw [c1, c2]
    exact go
/-- repr of a list of instances of C, each with its text -/
def rReprs (C : Addr) (sp : Sp) : List V → Hp → VK → Prop := fun xs H Q => ∃ (l : Addr) (qs : List Addr) (ts : List Str), xs = [.ref l] ∧ H l = some (.lst (qs.map V.ref)) ∧ Tells C sp H qs ts ∧ (listText ts).length ≤ sizeLine ∧ Q (.str (listText ts)) H
theorem call_reprs (gg : GG X.A) (S : Spc X.K C "__repr__" f) (G : FnOk X.prog X.w X.K X.mg X.base CX0 k f fd ps sp) (hr : Room (k + 2) X.A) (hb : Binds X.K fd ps []) : CallR X (.builtin "repr") (rReprs C sp) := by
  rintro pins s σ H xs us Q I r ⟨l, qs, ts, rfl, hl, T, sz, q⟩
  obtain rfl := Vals.ref1 r
  obtain ⟨_, its, n0, rv, el, ho⟩ := I.lstM hl
  rw [List.length_map] at el
  have sb : L2.Sub X (k + 1) X.A.in1 := (sub_self (k := k + 2) hr).in1
  have un := hr.un
  have ty : s.TypeIs (.ref l) "list" := ⟨_, ho, rfl⟩
  refine call_repr_slot (by omega) ty PySem.F.slot_list_repr.toG ?_
  have len := T.1
  cases its with
  | nil =>
    have e : ts = [] := List.length_eq_zero_iff.mp (by have z : qs.length = 0 := el; omega)
    subst e
    refine call_list_repr_empty ty ho rfl ⟨_, _, rfl, .str _, H, I.tok _, ⟨_, rfl⟩, ?_⟩
    rw [← listText_nil]
    exact q
  | cons x its =>
    refine wpAny_call (codeAny_call_builtin PySem.F.slot_list_repr.plain PySem.F.entry_list_repr (PySem.F.slot_list_repr.check _ _ _ _ _ _ _ _ ty (PySem.F.args_list_repr_1 _) ?_))
    refine wpAny_list_repr_head (A := X.A.in1.in1) (g := []) (b := 0) (by exact gg) (fun _ _ _ z => nomatch z) ho rfl ?_
    refine wpAny_bind (m := newList []) (wpAny_newObj_type (wpAny_pure ⟨PySem.F.quiet_list_repr_loop _, ?_⟩))
    have big : ∀ {p : Addr × Obj}, p ∈ X.pn ++ pins → p.1 ≠ s.heap.objs.size := fun {p} hp z => absurd (Heap.lt_size (I.pin p hp).1) (by rw [z]; exact Nat.lt_irrefl _)
    refine cast (congrArg (fun z : Nat => codeAny (model X.prog X.w) X.A.in1 (loopC [.ref l, rawInt 0, .ref s.heap.objs.size, rawInt (z : Int)]) _ _) (show 0 + piled (ts.take 0) = 0 by simp [piled])) ?_
    refine reprs_loop (P := s.heap.objs.size) (b := 0) S G hb sb hl T (by omega) (fun p hp => big hp) (.inr (Nat.le_trans I.sz (Nat.le_refl _))) (fun u s' I' => ⟨_, _, rfl, .str _, H, I', ⟨_, rfl⟩, q⟩) (fun e s' z => z) qs.length 0 _ #[] 0 [] (by omega) (by omega) ?_ rfl (by simp)
    have ne : ∀ {p : Addr × Obj}, p ∈ X.pn ++ pins → p.1 ≠ s.heap.objs.size := big
    refine Inv.pins_of (pins := pins) (I.kept (t' := s.toks) (fun b u e => Heap.get?_push_of_some _ e)) fun p hp => ?_
    rcases List.mem_cons.mp hp with rfl | hp
    · exact ⟨Heap.get?_push_size _ rfl, I.hok.fresh (Nat.le_refl _), Nat.ne_of_gt I.lt, I.nofs (Nat.le_refl _), fun v z => nomatch z⟩
    · obtain ⟨a1, a2⟩ := I.pin p (List.mem_append_right _ hp)
      exact ⟨Heap.get?_push_of_some _ a1, a2⟩
/-! ### len(x), x[i] by own methods -/
theorem call_lenO (S : Spc X.K C "__len__" f) (G : FnOk X.prog X.w X.K X.mg X.base CX0 k f fd ps sp) (hr : Room (k + 1) X.A) (hb : Binds X.K fd ps []) :
    CallR X (.builtin "len") (rc1O C sp E0 fun v => ∃ n : Nat, v = .int n ∧ n < 2 ^ 62) := by
  rintro pins s σ H xs us Q I r ⟨a, dx, fs, rfl, ea, q⟩
  obtain rfl := Vals.ref1 r
  obtain ⟨od, J⟩ := inst_of I ea
  obtain ⟨m, fr⟩ := I.fr
  refine PySem.W.len_K fr I.ok.mod.kin J S.at_ S.fn (thn (run_at (sub_self hr).in1 G hb at0 I self1 q) fun u s' z => ?_)
  obtain ⟨v, H', I', r', ⟨n, rfl, hn⟩, q'⟩ := z
  obtain ⟨t, rfl⟩ := r'
  exact ⟨⟨by omega, by omega⟩, .int n, H', I'.tok _, ⟨_, rfl⟩, q'⟩
def tIxO (C : Addr) (sp : Sp) (ta tb : TE) : TE := fun σ H Q => ta σ H fun x H1 => tb σ H1 fun y H2 => ∃ a dx fs, x = .ref a ∧ H2 a = some (.ins C dx fs) ∧ sp [x, y] H2 Q E0
theorem pe_ixO {a b : Expr} {ta tb : TE} {pos : Pos} (S : Spc X.K C "__getitem__" f) (hf : PySem.W.fnIn X.K f = true) (G : FnOk X.prog X.w X.K X.mg X.base CX0 k f fd ps sp) (hr : Room (k + 1) X.A) (hb : Binds X.K fd ps []) (ha : PE X a ta) (hb2 : PE X b tb)
    (hs : ∀ o i, subscripted b true o i = runValue (.builtin "lifetime.subscript" ⟨[o, i], []⟩) := by exact fun _ _ => rfl) : PE X (.Subscript a b pos) (tIxO C sp ta tb) := by
  refine ⟨fun pins s σ H Q I h => Subscript_ (binT ha hb2 I h fun v u s2 x y H2 I2 rx ry q => ?_)⟩
  obtain ⟨p, dx, fs, rfl, ep, q⟩ := q
  obtain rfl : v = Value.ref p := rx
  obtain ⟨od, J⟩ := inst_of I2 ep
  obtain ⟨m, fr⟩ := I2.fr
  exact PySem.W.sub_K fr I2.ok.mod.kin J S.at_ hf S.fn (run_at (sub_self hr).in1 G hb at0 I2 (show Vals [V.ref p, y] [Value.ref p, u] from .cons rfl (.cons ry .nil)) q) (hs _ _)
end
/-! ### tuples of own instances compared -/
section
variable {X : Cx} {k : Nat} {C f fe fl : Addr} {fd fde fdl : FuncData} {ps pse psl : List Str} {sp spe spl : Sp} {pins : List (Addr × Obj)} {σ : L2.St} {H : Hp} {A : Around} {s : Shared}
/-- a == b as the sequences ask it: the same object, or the own == -/
def eqc (sp : Sp) (a b : Addr) (H : Hp) (R : Bool → Hp → Prop) : Prop := (a = b → R true H) ∧ (a ≠ b → sp [.ref a, .ref b] H (fun v H' => ∃ k, v = .bl k ∧ R k H') E0)
theorem cmp_sub {op : CmpOp} {a b dx dy : Addr} {fs gs : List (Str × V)} {Q : VK} (S : Spc X.K C (cmpInfo op).2.1 f) (G : FnOk X.prog X.w X.K X.mg X.base CX0 k f fd ps sp) (hb : Binds X.K fd ps []) (sb : L2.Sub X k A) (I : L2.Inv X pins σ H s) (ea : H a = some (.ins C dx fs)) (eb : H b = some (.ins C dy gs))
    (q : sp [.ref a, .ref b] H Q E0) : wpAny (model X.prog X.w) A (richCompare op (.ref a) (.ref b)) (EP X pins σ Q) X.xe s := by
  obtain ⟨od, J⟩ := inst_of I ea
  obtain ⟨od', J'⟩ := inst_of I eb
  obtain ⟨m, fr⟩ := I.fr
  have hu : A.units < cLine := by have := sb.room.un; omega
  exact PySem.W.cmp_K hu fr I.ok.mod.kin J J'.type (by unfold PySem.W.notFirst; simp) S.at_ S.fn (thn (run_at sb G hb at0 I (show Vals [V.ref a, V.ref b] [Value.ref a, Value.ref b] from .cons rfl (.cons rfl .nil)) q) fun u' s' z => rel_back z)
theorem eqb_own {a b dx dy : Addr} {fs gs : List (Str × V)} {R : Bool → Hp → Prop} (S : Spc X.K C "__eq__" f) (G : FnOk X.prog X.w X.K X.mg X.base CX0 k f fd ps sp) (hb : Binds X.K fd ps []) (sb : L2.Sub X k A) (I : L2.Inv X pins σ H s) (ea : H a = some (.ins C dx fs)) (eb : H b = some (.ins C dy gs))
    (q : eqc sp a b H R) : wpAny (model X.prog X.w) A (eqBool (.ref a) (.ref b)) (fun r s' => ∃ H', L2.Inv X pins σ H' s' ∧ R r H') X.xe s := by
  unfold eqBool
  refine wpAny_holding ?_
  by_cases e : a = b
  · subst e
    rw [if_pos (beq_self_eq_true _)]
    have go : wpAny (model X.prog X.w) A (pure true) (fun r s' => ∃ H', L2.Inv X pins σ H' s' ∧ R r H') X.xe s := wpAny_pure ⟨H, I, q.1 rfl⟩
    first
      | exact go
      | exact wpAny_bind (wpAny_pure go)
  · rw [if_neg (by simp [e])]
    show wpAny _ _ (richCompare .Eq (.ref a) (.ref b) >>= truthOfDropped) _ _ _
    refine wpAny_bind (thn (cmp_sub (op := .Eq) S G hb sb I ea eb (q.2 e)) fun u s' z => ?_)
    obtain ⟨v, H', I', r', ⟨kk, rfl, q'⟩⟩ := z
    cases r'
    exact wpAny_truthy_bool ⟨H', I', q'⟩
/-- t < u for pairs of instances of C -/
def rLtP (K : PySem.W.Frag) (C : Addr) (spe spl : Sp) : R2 := fun x y H Q => ∃ (t u a1 b1 a2 b2 : Addr), x = .ref t ∧ y = .ref u ∧ SqT K H t [.ref a1, .ref b1] ∧ SqT K H u [.ref a2, .ref b2] ∧ (∃ dx fs, H a1 = some (.ins C dx fs)) ∧ (∃ dx fs, H a2 = some (.ins C dx fs)) ∧
  eqc spe a1 a2 H fun k1 H1 => if k1 = true then (∃ dx fs, H1 b1 = some (.ins C dx fs)) ∧ (∃ dx fs, H1 b2 = some (.ins C dx fs)) ∧ eqc spe b1 b2 H1 (fun k2 H2 => if k2 = true then Q (.bl false) H2 else (∃ dx fs, H2 b1 = some (.ins C dx fs)) ∧ (∃ dx fs, H2 b2 = some (.ins C dx fs)) ∧ spl [.ref b1, .ref b2] H2 (fun v H3 => (∃ r, v = .bl r) ∧ Q v H3) E0)
    else (∃ dx fs, H1 a1 = some (.ins C dx fs)) ∧ (∃ dx fs, H1 a2 = some (.ins C dx fs)) ∧ spl [.ref a1, .ref a2] H1 (fun v H3 => (∃ r, v = .bl r) ∧ Q v H3) E0
theorem op_ltP (Se : Spc X.K C "__eq__" fe) (Ge : FnOk X.prog X.w X.K X.mg X.base CX0 k fe fde pse spe) (hbe : Binds X.K fde pse []) (Sl : Spc X.K C "__lt__" fl) (Gl' : FnOk X.prog X.w X.K X.mg X.base CX0 k fl fdl psl spl) (hbl : Binds X.K fdl psl []) (hr : Room (k + 1) X.A) :
    OpR X (compareOp .Lt) (rLtP X.K C spe spl) := by
  rintro pins s σ H x y v u Q I rx ry ⟨t, t', a1, b1, a2, b2, rfl, rfl, h1, h2, ⟨dx1, fs1, e1⟩, ⟨dx2, fs2, e2⟩, q⟩
  cases rx
  cases ry
  obtain ⟨its, r1, p1, _⟩ := I.tuple h1
  obtain ⟨its2, r2, p2, _⟩ := I.tuple h2
  obtain ⟨u1, u2, rfl, ra1, rb1⟩ := vals2 r1
  obtain ⟨w1, w2, rfl, ra2, rb2⟩ := vals2 r2
  cases ra1; cases rb1; cases ra2; cases rb2
  obtain ⟨⟨cls, dd, data, sl⟩, ho, hc, n, hd⟩ := id p1
  obtain ⟨⟨cls2, dd2, data2, sl2⟩, ho2, hc2, n2, hd2⟩ := id p2
  simp only at hc hd hc2 hd2
  subst hc hd hc2 hd2
  have ty1 : s.TypeIs (.ref t) "tuple" := ⟨_, ho, rfl⟩
  have ty2 : s.TypeIs (.ref t') "tuple" := ⟨_, ho2, rfl⟩
  have sb : L2.Sub X k X.A.in1 := (sub_self hr).in1
  refine wpAny_richCompare_same_room (op := .Lt) ty1 ty2 PySem.F.slot_tuple_lt (wpAny_call (codeAny_call_builtin PySem.F.slot_tuple_lt.plain PySem.F.entry_tuple_lt (PySem.F.slot_tuple_lt.check _ _ _ _ _ _ _ _ ty1 (PySem.F.args_tuple_lt_2 _ _) ?_))) (by have := hr.un; omega)
  have f2 := AutoSeq1.sub_tuple_tuple
  have ask : ∀ {a b dx dy : Addr} {fs gs : List (Str × V)} {H0 : Hp} {s0 : Shared} {R : Bool → Hp → Prop} {Q' : Bool → Shared → Prop} {E' : Value → Shared → Prop}, L2.Inv X pins σ H0 s0 → H0 a = some (.ins C dx fs) → H0 b = some (.ins C dy gs) → eqc spe a b H0 R →
      (∀ e s', X.xe e s' → E' e s') → (∀ r s', (∃ H', L2.Inv X pins σ H' s' ∧ R r H') → Q' r s') → wpAny (model X.prog X.w) X.A.in1 (eqBool (.ref a) (.ref b)) Q' E' s0 := fun I ea eb q he h => wpAny_mono (eqb_own Se Ge hbe sb I ea eb q) h he
  have less : ∀ {a b dx dy : Addr} {fs gs : List (Str × V)} {H0 : Hp} {s0 : Shared} {Q' : Value → Shared → Prop} {E' : Value → Shared → Prop}, L2.Inv X pins σ H0 s0 → H0 a = some (.ins C dx fs) → H0 b = some (.ins C dy gs) → spl [.ref a, .ref b] H0 (fun v H3 => (∃ r, v = .bl r) ∧ Q v H3) E0 →
      (∀ e s', X.xe e s' → E' e s') → (∀ r s', (∃ k, r = .bool k ∧ EP X pins σ Q r s') → Q' r s') → wpAny (model X.prog X.w) X.A.in1 (richCompare .Lt (.ref a) (.ref b)) Q' E' s0 := fun I ea eb q he h => wpAny_mono (cmp_sub (op := .Lt) Sl Gl' hbl sb I ea eb q) (fun r s' z => by
        obtain ⟨v, H', I', r', ⟨kk, rfl⟩, q'⟩ := z
        cases r'
        exact h _ _ ⟨kk, rfl, .bl kk, H', I', rfl, q'⟩) he
  obtain ⟨hp, g, d, tk, os⟩ := s
  wp_walk using AutoSeq1.wpAny_loadPart' ho, AutoSeq1.wpAny_loadPart' ho2, ask I e1 e2 q (fun _ _ z => z)
  rintro r ⟨hp1, g1, d1, tk1, os1⟩ ⟨H1, I1, q1⟩
  cases r with
  | false =>
    obtain ⟨⟨_, _, f1⟩, ⟨_, _, f2'⟩, q1⟩ := q1
    wp_walk using less I1 f1 f2' q1 (fun _ _ z => z)
    rintro r ⟨hp2, g2, d2, tk2, os2⟩ ⟨kk, rfl, z⟩
    wp_walk
    show Value.bool kk ≠ Value.notImplemented ∧ EP X pins σ Q (.bool kk) _
    exact ⟨fun z => (nomatch z), z⟩
  | true =>
    obtain ⟨⟨_, _, f1⟩, ⟨_, _, f2'⟩, q1⟩ := q1
    wp_walk using ask I1 f1 f2' q1 (fun _ _ z => z)
    rintro r ⟨hp2, g2, d2, tk2, os2⟩ ⟨H2, I2, q2⟩
    cases r with
    | false =>
      obtain ⟨⟨_, _, f3⟩, ⟨_, _, f4⟩, q2⟩ := q2
      wp_walk using less I2 f3 f4 q2 (fun _ _ z => z)
      rintro r ⟨hp3, g3, d3, tk3, os3⟩ ⟨kk, rfl, z⟩
      wp_walk
      show Value.bool kk ≠ Value.notImplemented ∧ EP X pins σ Q (.bool kk) _
      exact ⟨fun z => (nomatch z), z⟩
    | true =>
      wp_walk
      show Value.bool false ≠ Value.notImplemented ∧ EP X pins σ Q (.bool false) _
      exact ⟨fun z => (nomatch z), V.bl false, H2, I2, rfl, q2⟩
end
end Pm

/-! PmLcm: math.lcm of two and three whole numbers; enumerate over a tuple. -/
namespace PmL
open PySem PySem.Calls PySem.W
theorem args_lcm3 (a b c : Value) : argsOk "math.lcm" ⟨[a, b, c], []⟩ := by unfold argsOk; kernel_rfl
theorem run_lcm3 (a : Int) (t : Tok) (b : Int) (u : Tok) (c : Int) (v : Tok) (hc0 : ¬(max 1 a.natAbs).log2 / 30 + 1 > 450) (hc1 : ¬(max a.natAbs b.natAbs).log2 / 30 + 1 > 450) (hc2 : ¬(max (a.natAbs.lcm b.natAbs) c.natAbs).log2 / 30 + 1 > 450)
    (hsz : (((((Nat.lcm 1 a.natAbs).lcm b.natAbs).lcm c.natAbs : Nat) : Int)).natAbs.log2 < bitsLine := by size_fits) :
    Gives (Builtin.«math.lcm» ⟨[.int a t, .int b u, .int c v], []⟩) (.int (((((Nat.lcm 1 a.natAbs).lcm b.natAbs).lcm c.natAbs : Nat) : Int))) :=
  .of_wp fun M A E s Q h => by obtain ⟨hp, g, d, tk, os⟩ := s; wp_walk; (try (refine wpAny_ite_false (decide_eq_false (Nat.not_le.mpr hsz)) ?_; wp_walk)); exact ⟨_, rfl, h⟩
end PmL
namespace Pm
open PySem PySem.Spec PyProof.Rows L2
section
variable {X : Cx}
def Lz (n : Nat) : Prop := n < 2 ^ 12000
theorem Lz.log {n : Nat} (h : Lz n) : n.log2 < 12000 := by
  unfold Lz at h
  by_cases h0 : n = 0
  · subst h0; rw [Nat.log2_zero]; decide
  · exact (Nat.log2_lt h0).mpr h
/-- what divides Z, and is reached by its parts -/
def rLcm3 : List V → Hp → VK → Prop := fun vs H Q => ∃ a b c Z : Int, vs = [.int a, .int b, .int c] ∧ 0 < a ∧ 0 < b ∧ 0 < c ∧ a ∣ Z ∧ b ∣ Z ∧ c ∣ Z ∧ 0 < Z ∧ Lz Z.natAbs ∧ ∀ R : Int, 0 < R → R ∣ Z → a ∣ R → b ∣ R → c ∣ R → Q (.int R) H
def rLcm2 : List V → Hp → VK → Prop := fun vs H Q => ∃ a b Z : Int, vs = [.int a, .int b] ∧ 0 < a ∧ 0 < b ∧ a ∣ Z ∧ b ∣ Z ∧ 0 < Z ∧ Lz Z.natAbs ∧ ∀ R : Int, 0 < R → R ∣ Z → a ∣ R → b ∣ R → Q (.int R) H
theorem log_450 {n : Nat} (h : Lz n) : ¬ n.log2 / 30 + 1 > 450 := by
  have := h.log
  omega
theorem lcm_facts {a b Z : Int} (ha : 0 < a) (hb : 0 < b) (da : a ∣ Z) (db : b ∣ Z) (hz : 0 < Z) : 0 < a.natAbs.lcm b.natAbs ∧ a.natAbs.lcm b.natAbs ∣ Z.natAbs ∧ a.natAbs ∣ a.natAbs.lcm b.natAbs ∧ b.natAbs ∣ a.natAbs.lcm b.natAbs :=
  ⟨Nat.lcm_pos (by omega) (by omega), Nat.lcm_dvd (Int.natAbs_dvd_natAbs.mpr da) (Int.natAbs_dvd_natAbs.mpr db), Nat.dvd_lcm_left _ _, Nat.dvd_lcm_right _ _⟩
theorem cr_lcm3 : CallR X (.builtin "math.lcm") rLcm3 := by
  intro pins s σ H vs us Q I r h
  obtain ⟨a, b, c, Z, rfl, a0, b0, c0, da, db, dc, z0, hz, q⟩ := h
  obtain ⟨t, u, v, rfl⟩ : ∃ t u v, us = [.int a t, .int b u, .int c v] := by
    cases r with
    | cons r1 r =>
      cases r with
      | cons r2 r =>
        cases r with
        | cons r3 r =>
          cases r
          obtain ⟨t, rfl⟩ := r1
          obtain ⟨u, rfl⟩ := r2
          obtain ⟨v, rfl⟩ := r3
          exact ⟨t, u, v, rfl⟩
  obtain ⟨p1, p2, p3, p4⟩ := lcm_facts a0 b0 da db z0
  have e1 : Nat.lcm 1 a.natAbs = a.natAbs := by simp [Nat.lcm]
  have q1 : (a.natAbs.lcm b.natAbs).lcm c.natAbs ∣ Z.natAbs := Nat.lcm_dvd p2 (Int.natAbs_dvd_natAbs.mpr dc)
  have q0 : 0 < (a.natAbs.lcm b.natAbs).lcm c.natAbs := Nat.lcm_pos p1 (by omega)
  have lz : ∀ {n : Nat}, n ∣ Z.natAbs → Lz n := fun {n} h => Nat.lt_of_le_of_lt (Nat.le_of_dvd (by omega) h) hz
  have ma : Lz a.natAbs := lz (Int.natAbs_dvd_natAbs.mpr da)
  have mb : Lz b.natAbs := lz (Int.natAbs_dvd_natAbs.mpr db)
  have mc : Lz c.natAbs := lz (Int.natAbs_dvd_natAbs.mpr dc)
  have mx : ∀ {n m : Nat}, Lz n → Lz m → Lz (max n m) := fun {n m} h1 h2 => by
    rcases Nat.le_total n m with h | h
    · rw [Nat.max_eq_right h]; exact h2
    · rw [Nat.max_eq_left h]; exact h1
  have one : Lz 1 := Nat.one_lt_two_pow (by omega)
  have hs : (((((Nat.lcm 1 a.natAbs).lcm b.natAbs).lcm c.natAbs : Nat) : Int)).natAbs.log2 < bitsLine := by
    rw [e1, Int.natAbs_natCast]
    have := (lz q1).log
    have e : bitsLine = 134217728 := by decide
    omega
  refine PySem.call_function_meets PySem.W.MGF.kind_lcm PySem.W.MGF.plain_lcm PySem.W.MGF.entry_lcm (PmL.args_lcm3 _ _ _) (PmL.run_lcm3 a t b u c v (log_450 (mx one ma)) (log_450 (mx ma mb)) (log_450 (mx (lz p2) mc)) hs).meets ?_
  rw [e1]
  refine ⟨.int _, H, I.tok _, ⟨_, rfl⟩, q _ (by omega) ?_ ?_ ?_ ?_⟩
  · exact Int.natAbs_dvd_natAbs.mp (by rw [Int.natAbs_natCast]; exact q1)
  · exact Int.natAbs_dvd_natAbs.mp (by rw [Int.natAbs_natCast]; exact Nat.dvd_trans p3 (Nat.dvd_lcm_left _ _))
  · exact Int.natAbs_dvd_natAbs.mp (by rw [Int.natAbs_natCast]; exact Nat.dvd_trans p4 (Nat.dvd_lcm_left _ _))
  · exact Int.natAbs_dvd_natAbs.mp (by rw [Int.natAbs_natCast]; exact Nat.dvd_lcm_right _ _)
theorem cr_lcm2 : CallR X (.builtin "math.lcm") rLcm2 := by
  intro pins s σ H vs us Q I r h
  obtain ⟨a, b, Z, rfl, a0, b0, da, db, z0, hz, q⟩ := h
  obtain ⟨t, u, rfl⟩ := Vals.int2 r
  obtain ⟨p1, p2, p3, p4⟩ := lcm_facts a0 b0 da db z0
  have e1 : Nat.lcm 1 a.natAbs = a.natAbs := by simp [Nat.lcm]
  have lz : ∀ {n : Nat}, n ∣ Z.natAbs → Lz n := fun {n} h => Nat.lt_of_le_of_lt (Nat.le_of_dvd (by omega) h) hz
  have ma : Lz a.natAbs := lz (Int.natAbs_dvd_natAbs.mpr da)
  have mb : Lz b.natAbs := lz (Int.natAbs_dvd_natAbs.mpr db)
  have mx : ∀ {n m : Nat}, Lz n → Lz m → Lz (max n m) := fun {n m} h1 h2 => by
    rcases Nat.le_total n m with h | h
    · rw [Nat.max_eq_right h]; exact h2
    · rw [Nat.max_eq_left h]; exact h1
  have one : Lz 1 := Nat.one_lt_two_pow (by omega)
  have hs : ((((Nat.lcm 1 a.natAbs).lcm b.natAbs : Nat) : Int)).natAbs.log2 < bitsLine := by
    rw [e1, Int.natAbs_natCast]
    have := (lz p2).log
    have e : bitsLine = 134217728 := by decide
    omega
  refine PySem.call_function_meets PySem.W.MGF.kind_lcm PySem.W.MGF.plain_lcm PySem.W.MGF.entry_lcm (PySem.W.MGF.args_lcm _ _) (PySem.W.mg_run_lcm a t b u (log_450 (mx one ma)) (log_450 (mx ma mb)) hs).meets ?_
  rw [e1]
  refine ⟨.int _, H, I.tok _, ⟨_, rfl⟩, q _ (by omega) ?_ ?_ ?_⟩
  · exact Int.natAbs_dvd_natAbs.mp (by rw [Int.natAbs_natCast]; exact p2)
  · exact Int.natAbs_dvd_natAbs.mp (by rw [Int.natAbs_natCast]; exact p3)
  · exact Int.natAbs_dvd_natAbs.mp (by rw [Int.natAbs_natCast]; exact p4)
end
/-! f(e, ..), a def with defaults -/
section
variable {X : Cx} {CX : CXT} {k n : Nat} {f : Addr} {fd : FuncData} {ps : List Str} {sp : Sp} {E : L2.St → XK} {x : Str} {p pos : Pos} {e : Expr} {es : List Expr} {t : TA} {g : List Value → List Value → List Value} {gV : List V → List V → List V}
def tFk (n : Nat) (sp : Sp) (gV : List V → List V → List V) (E : L2.St → XK) (t : TA) : TE := fun σ H Q => t σ H fun vs H1 => vs.length = n ∧ sp (gV vs []) H1 Q (E σ)
theorem pe_fP (F : FnOk X.prog X.w X.K X.mg X.base CX k f fd ps sp) (hr : Room k X.A) (hg : Gl X x) (hm : X.mg x = some (.ref f)) (hk : PySem.W.keepIn X.K (.ref f) = true) (hb : KBn X.K fd ps n [] g gV) (hx : ∀ σ, PassesAt CX X σ (E σ)) (ha : PA X (e :: es) t)
    (hdb : (x == ("__debug__" : Str)) = false := by decide) (he : starEach (e :: es) X.env = (false, eval e X.env) :: starEach es X.env := by rfl) (hpl : (backTo pos (starEach es X.env)).any (·.1) = false := by rfl) :
    PE X (.Call (.Name x p) (e :: es) [] pos) (tFk n sp gV E t) := by
  refine ⟨fun pins s σ H Q I h => wpAny_Call_Name_kw (ld_glob I hg hm ?_ hdb)⟩
  refine PySem.W.callWith_K (h₀ := X.base) I.ok.mod.kin hk (thn (ha.run pos pins s σ H _ I h) fun us s1 ⟨vs, H1, I1, r, l1, q⟩ => ⟨I1.kIn, ?_⟩) he hpl
  exact run_kb (ks := []) (ws := []) (zs := []) F hr hb hx I1 r .nil l1 rfl q
end
end Pm

/-! PmTup: enumerate over a tuple. -/
namespace PmL
open PySem PySem.Calls PySem.W
set_option maxHeartbeats 4000000 in
theorem enum_new1 {v : Value} {o : Obj} {H : Heap → Prop} (B : Begins v o H) :
    Meets (Builtin.«enumerate.__new__» ⟨[.type "enumerate", v], []⟩) (fun _ R s => H s.heap ∧
      R (.ok (.ret (.ref (s.heap.push o).objs.size))) { s with heap := (s.heap.push o).push { cls := .type "enumerate", data := .fields #[.none, .bool false, .ref s.heap.objs.size, rawInt 0, .none, .none] } }) :=
  .of_wp fun prog w A R s h => by
    obtain ⟨hp, g, d, tk, os⟩ := s; obtain ⟨h1, h⟩ := h
    have subE := sub_enumerate
    have itv : ∀ {A' : Around} {E : Value → Shared → Prop} {Q : Value → Shared → Prop}, Q (.ref hp.objs.size) ⟨hp.push o, g, d, tk, os⟩ → wpAny (model prog w) A' (pyIter v) Q E ⟨hp, g, d, tk, os⟩ :=
      fun q => B.iter prog w _ _ ⟨hp, g, d, tk, os⟩ _ h1 q
    wp_walk using itv
    refine wpAny_stack_any fun sta => wpAny_pure ?_
    split
    · rename_i c _ _ _ _ _
      cases (c == Value.type "enumerate")
      · wp_walk using itv
        exact ⟨_, rfl, h⟩
      · wp_walk using itv
        exact ⟨_, rfl, h⟩
    · wp_walk using itv
      exact ⟨_, rfl, h⟩
theorem enum_call1 {prog : Program} {w : World} {A : Around} {E : Value → Shared → Prop} {s : Shared} {v : Value} {o : Obj} {H : Heap → Prop} {Q : Value → Shared → Prop} (B : Begins v o H) (h1 : H s.heap)
    (h : ∀ h', IsEnum h' (s.heap.objs.size + 1) s.heap.objs.size 0 .none → h'.get? s.heap.objs.size = some o → h'.objs.size = s.heap.objs.size + 2 →
      (∀ b o, s.heap.get? b = some o → h'.get? b = some o) → Q (.ref (s.heap.objs.size + 1)) { s with heap := h' }) :
    wpAny (model prog w) A (call (.type "enumerate") [v]) Q E s := by
  refine callType_new (F.called_enumerate) (by decide) (F.typeCall_enumerate_1 _) (F.newCall_enumerate_1 _) (fun obj => F.args_object_init_2 obj _) F.entry_enumerate_new
    (enum_new1 B) ⟨h1, ?_⟩
  have siz : (s.heap.push o).objs.size = s.heap.objs.size + 1 := Heap.size_push ..
  show _ ∧ _
  rw [siz]
  have enm : IsEnum ((s.heap.push o).push { cls := .type "enumerate", data := .fields #[.none, .bool false, .ref s.heap.objs.size, rawInt 0, .none, .none] }) (s.heap.objs.size + 1) s.heap.objs.size 0 .none := by
    have := Heap.get?_push_size (s.heap.push o) (o := { cls := .type "enumerate", data := .fields #[.none, .bool false, .ref s.heap.objs.size, rawInt 0, .none, .none] }) rfl
    rw [siz] at this; exact this
  refine ⟨⟨_, enm, rfl⟩, h _ enm (Heap.get?_push_of_some _ (Heap.get?_push_size _ B.free)) (by rw [Heap.size_push, siz]) fun b o x => Heap.get?_push_of_some _ (Heap.get?_push_of_some _ x)⟩
theorem enum_end {prog : Program} {w : World} {A : Around} {E : Value → Shared → Prop} {s : Shared} {e it t : Addr} {items : Array Value} {i : Nat} {c : Int} {was : Value} {Q : Option Value → Shared → Prop}
    (hnd : A.in1.handled = none) (enm : IsEnum s.heap e it c was) (itr : s.heap.IsTupleIter it t i) (ht : s.heap.IsTuple t items) (hat : items[i]? = none)
    (wish : ∀ h', Heap.ExtBut it s.heap h' → Q none { s with heap := h' }) : wpAny (model prog w) A (pyNext (.ref e)) Q E s := by
  have tyE : s.TypeIs (.ref e) "enumerate" := ⟨_, enm, rfl⟩
  unfold pyNext
  refine wpAny_bind (wpAny_attempt (wpAny_callSpecial?_slot (name := Str.ofString "__next__") tyE F.slot_enumerate_next
    (wpAny_call_entry F.slot_enumerate_next tyE F.entry_enumerate_next ?_ (F.args_enumerate_next_1 _))))
  show wpAny _ _ (field (.ref e) 2 >>= _) _ _ _
  refine wpAny_bind (wpAny_field enm rfl (x := .ref it) rfl ?_)
  refine wpAny_bind (wpAny_nextOf_tuple_end hnd itr ht hat fun h' x he' hx' => ?_)
  obtain ⟨o, ho, cal⟩ := hx'
  refine wpAny_bind (wpAny_isInstance (T := "StopIteration") (b := true) ⟨o, ho, cal⟩ isSubtype_stop ?_)
  exact wpAny_pure (wish _ he')
end PmL
namespace Pm
open PySem PySem.Spec PyProof.Rows L2
/-- the tuple at a, each item in a okn pair -/
def IteT (K : PySem.W.Frag) (a : Addr) : It :=
  ⟨fun i H => ∃ (xs : List V) (x : V), SqT K H a xs ∧ xs[i]? = some x, fun i H v H' => ∃ T x, v = .ref T ∧ H T = none ∧ H' = upd H T (.tup [.int (i : Nat), x]) ∧ ∀ xs, SqT K H a xs → xs[i]? = some x, fun i H => ∃ xs : List V, SqT K H a xs ∧ xs.length ≤ i⟩
theorem turn_enumT {P : Program} {w : World} {K : PySem.W.Frag} {elts : List Expr} {kk : Nat} {tpos : Pos} (a e it : Addr) :
    Turn P w K (.Tuple elts kk tpos) (IteT K a) [e, it] e (fun i h => (∃ was, IsEnum h e it ((i : Nat) : Int) was) ∧ h.IsTupleIter it a i ∧ e ≠ it) where
  mem := by simp
  obj := fun i h sta b mem => by
    obtain ⟨⟨was, enm⟩, ⟨o, ho, cal, hd⟩, _⟩ := sta
    have alt : b = e ∨ b = it := by simpa using mem
    rcases alt with z | z
    · rw [z]; exact ⟨_, enm, fun v q => nomatch q⟩
    · rw [z]; exact ⟨o, ho, fun v q => by rw [hd] at q; cases q⟩
  keep := fun i h h' sta k => let ⟨⟨was, enm⟩, hi, apr⟩ := sta; ⟨⟨was, k e (by simp) _ enm⟩, hi.at fun o q => k it (by simp) o q, apr⟩
  item := by
    intro X eP eW eK cal i pn s σ H E I fre sta goes
    subst eP eW eK
    obtain ⟨⟨was, enm⟩, itr, apr⟩ := sta
    obtain ⟨xs, x, sq, hat⟩ := goes
    obtain ⟨raws, rps, p, siz⟩ := I.tuple sq
    obtain ⟨u, hatu, rpu⟩ := rps.get hat
    have pt : s.heap.IsTuple a raws.toArray := p
    have ltE : e < s.heap.objs.size := Heap.lt_size enm
    have ltI : it < s.heap.objs.size := by obtain ⟨_, q, _⟩ := itr; exact Heap.lt_size q
    have hea : e ≠ a := fun z => by
      obtain ⟨oa, arg, hca, _⟩ := pt
      rw [← z, enm] at arg
      cases arg
      injection hca with h
      exact absurd h (by decide)
    have hia : a ≠ it := fun z => by
      obtain ⟨oa, arg, hca, _⟩ := pt
      obtain ⟨oi, hi2, hci, _⟩ := itr
      rw [z, hi2] at arg
      cases arg
      rw [hci] at hca
      injection hca with h
      exact absurd h (by decide)
    have hil2 : i < raws.toArray.size := by
      rw [List.size_toArray]
      exact (List.getElem?_eq_some_iff.mp hatu).1
    refine wpAny_pyNext_enum_itemC (Draws.tuple (show X.A.in1.handled = none from I.ok.hd cal) it a hia raws.toArray) enm ⟨itr, pt⟩ hil2 apr (fun z => by rcases List.mem_cons.mp z with z | z; exact apr z; exact hea (List.mem_singleton.mp z)) fun x' h' tk eP ho hit' tyE hsz kep => ?_
    have ex : x' = u := by
      have h1 : raws.toArray[i]? = some x' := eP
      rw [List.getElem?_toArray, hatu] at h1
      exact (Option.some.inj h1).symm
    subst ex
    refine ⟨_, rfl, wpAny_letOwnedTupleGo_enum (s := { s with heap := h', toks := tk + 1 }) ho fun h'' he' but => ?_⟩
    have hT2 : h''.get? s.heap.objs.size = some { cls := .type "tuple", data := .seq #[.int i tk, x'] } := (but.2 _ (Nat.ne_of_gt ltE)).trans tyE
    have okn : ObjOk X.prog X.w (upd H s.heap.objs.size (.tup [.int (i : Nat), x])) h'' s.heap.objs.size (.tup [.int (i : Nat), x]) :=
      ⟨by show 2 ≤ sizeLine; decide, [.int i tk, x'], .cons ⟨_, rfl⟩ (.cons rpu .nil), ⟨_, hT2, rfl, _, rfl⟩⟩
    have J1 : Inv X pn σ (upd H s.heap.objs.size (.tup [.int (i : Nat), x])) { s with heap := h'', toks := tk + 1 } :=
      I.turnedNew (ch := [e, it]) (fun b oo mem q => (but.2 b (fun z => mem (by simp [z]))).trans (kep b oo (fun z => mem (by simp [z])) (fun z => mem (by simp [z])) q)) fre (Nat.le_refl _) okn
    refine ⟨.ref s.heap.objs.size, _, J1, rfl, ⟨_, x, rfl, I.hok.fresh (Nat.le_refl _), rfl, fun ys hy => by rw [I.tuple_inj hy sq]; exact hat⟩, ⟨⟨x', ?_⟩, hit'.1.at fun o q => (but.2 it (Ne.symm apr)).trans q, apr⟩, fun b mem => ?_⟩
    · have suc : ((i + 1 : Nat) : Int) = (i : Int) + 1 := by omega
      rw [suc]; exact he'
    · have mem' : b < s.heap.objs.size := by
        have alt : b = e ∨ b = it := by simpa using mem
        rcases alt with z | z
        · rw [z]; exact ltE
        · rw [z]; exact ltI
      rw [upd_ne (Nat.ne_of_lt mem')]
      exact (fre b mem).1
  done := by
    intro X eP eW eK cal i pn s σ H E I fre sta goes
    subst eP eW eK
    obtain ⟨⟨was, enm⟩, itr, apr⟩ := sta
    obtain ⟨xs, sq, hat⟩ := goes
    obtain ⟨raws, rps, p, siz⟩ := I.tuple sq
    have pt : s.heap.IsTuple a raws.toArray := p
    obtain ⟨f0, f1, f2, f3, f4, f5⟩ := fre it (by simp)
    have hl := rps.length
    exact PmL.enum_end (show X.A.in1.handled = none from I.ok.hd cal) enm itr pt (by rw [List.getElem?_toArray]; exact List.getElem?_eq_none (by omega)) fun h' eb => ⟨rfl, I.turned (t' := s.toks) (fun b o mem q => eb b o mem q) f0 f1 f3 f4 f5⟩
  self := fun A i s Q E sta h => let ⟨⟨_, enm⟩, _⟩ := sta; wpAny_pyIter_enum enm h
def iEnumT (K : PySem.W.Frag) (ta : TA) : TI := fun σ H R => ta σ H fun vs H1 => ∃ a xs, vs = [.ref a] ∧ SqT K H1 a xs ∧ R (IteT K a) H1
theorem pi_enumT {X : Cx} {e : Expr} {ta : TA} {p pos tpos : Pos} {elts : List Expr} {kk : Nat} (goes : Gl X "enumerate") (nog : X.mg "enumerate" = none) (arg : PA X [e] ta) (str1 : starEach [e] X.env = [(false, eval e X.env)] := by rfl) :
    PI X (.Tuple elts kk tpos) (.Call (.Name "enumerate" p) [e] [] pos) (iEnumT X.K ta) := by
  refine ⟨fun pn s σ H R I h => ?_⟩
  refine Call_ (ld_blt I goes nog boot_enumerate (PyProof.Rows.callWith_type1 (thn (arg.run pos pn s σ H _ I h) fun uu t1 ⟨vs, H1, J1, rr1, itv⟩ => ?_) str1 rfl))
  obtain ⟨a, xs, ex, sq, q⟩ := itv
  subst ex
  cases rr1 with
  | cons r rr =>
    cases rr
    cases r
    obtain ⟨raws, rps, p', siz⟩ := J1.tuple sq
    refine PmL.enum_call1 (begins_tuple a raws.toArray) p' fun h' enm itr hsz kep => wpAny_pyIter_enum enm ?_
    have J2 : Inv X pn σ H1 { t1 with heap := h' } := J1.kept (t' := t1.toks) kep
    refine ⟨t1.heap.objs.size + 1, [t1.heap.objs.size + 1, t1.heap.objs.size], _, _, H1, rfl, J2, turn_enumT a (t1.heap.objs.size + 1) t1.heap.objs.size, ⟨⟨.none, enm⟩, ⟨_, itr, rfl, rfl⟩, Nat.succ_ne_self _⟩, fun b mem => ?_, q⟩
    have alt : b = t1.heap.objs.size + 1 ∨ b = t1.heap.objs.size := by simpa using mem
    have leB : t1.heap.objs.size ≤ b := by
      rcases alt with z | z
      · rw [z]; exact Nat.le_add_right _ _
      · rw [z]; exact Nat.le_refl _
    exact J1.fpOk leB (J1.hok.fresh leB)
theorem walk_enumT {K : PySem.W.Frag} {a : Addr} {xs : List V} : Walk (IteT K a) xs.length (fun H => SqT K H a xs) (YPair (fun i => some (.int (i : Nat))) (fun i => xs[i]?)) := by
  refine ⟨fun i _ lt seq => ⟨xs, xs[i], seq, by simp [lt]⟩, fun _ seq => ⟨xs, seq, Nat.le_refl _⟩, fun i H v H' _ seq ⟨T, x, y1, y2, y3, y4⟩ => ?_⟩
  exact ⟨T, .int (i : Nat), x, y1, y2, y3, rfl, y4 xs seq⟩
/-! == of tuples of own instances -/
section
variable {X : Cx} {A : Around} {k : Nat} {C fe : Addr} {fde : FuncData} {pse : List Str} {spe : Sp} {pins : List (Addr × Obj)} {σ : L2.St} {H : Hp} {s : Shared}
/-- a for loop of the model over a list, by an invariant of what is left -/
theorem loop_inv {M : Model} {A : Around} {α β : Type} {as : List α} {f : (a : α) → a ∈ as → β → Sem (ForInStep β)} {Q : β → Shared → Prop} {E : Value → Shared → Prop} (inv : List α → β → Shared → Prop)
    (step : ∀ x (hx : x ∈ as) rest b s, inv (x :: rest) b s → wpAny M A (f x hx b) (fun r s' => match r with | .yield b' => inv rest b' s' | .done b' => Q b' s') E s)
    (fin : ∀ b s, inv [] b s → Q b s) : ∀ (l : List α) (b : β) (h : ∃ bs, bs ++ l = as) (s : Shared), inv l b s → wpAny M A (List.forIn'.loop as f l b h) Q E s
  | [], b, h, s, hi => by
    rw [List.forIn'.loop]
    exact wpAny_pure (fin b s hi)
  | x :: l, b, h, s, hi => by
    rw [List.forIn'.loop]
    refine wpAny_bind (wpAny_mono (step x _ l b s hi) (fun r s' z => ?_) fun _ _ z => z)
    cases r with
    | done b' => exact wpAny_pure z
    | yield b' => exact loop_inv inv step fin l b' _ s' z
/-- t == u for tuples of instances of C: e tells it place by place -/
def rEqT (K : PySem.W.Frag) (C : Addr) (spe : Sp) : R2 := fun x y H Q => ∃ (t u : Addr) (as bs : List Addr) (e : Nat → Bool), x = .ref t ∧ y = .ref u ∧ SqT K H t (as.map V.ref) ∧ SqT K H u (bs.map V.ref) ∧ (∀ a ∈ as, ∃ dx fs, H a = some (.ins C dx fs)) ∧ (∀ b ∈ bs, ∃ dx fs, H b = some (.ins C dx fs)) ∧
  (∀ (i : Nat) (a b : Addr), as[i]? = some a → bs[i]? = some b → ∀ H1, Same H H1 → eqc spe a b H1 fun r H' => r = e i ∧ Same H1 H') ∧
  ∀ H', Same H H' → Q (.bl (decide (as.length = bs.length) && (List.range (min as.length bs.length)).all e)) H'
theorem vals_refs : ∀ {qs : List Addr} {us : List Value}, Vals (qs.map V.ref) us → us = qs.map Value.ref
  | [], _, r => by cases r; rfl
  | q :: qs, _, r => by
    rw [List.map_cons] at r
    cases r with
    | cons r1 r2 =>
      cases r1
      rw [vals_refs r2, List.map_cons]
theorem op_eqT (Se : Spc X.K C "__eq__" fe) (Ge : FnOk X.prog X.w X.K X.mg X.base CX0 k fe fde pse spe) (hbe : Binds X.K fde pse []) (hr : Room (k + 1) X.A) : OpR X (compareOp .Eq) (rEqT X.K C spe) := by
  rintro pins s σ H x y v u Q I rx ry ⟨t, t', as, bs, e, rfl, rfl, h1, h2, i1, i2, he, fin⟩
  cases rx
  cases ry
  obtain ⟨its, r1, p1, _⟩ := I.tuple h1
  obtain ⟨its2, r2, p2, _⟩ := I.tuple h2
  obtain rfl := vals_refs r1
  obtain rfl := vals_refs r2
  obtain ⟨⟨cls, dd, data, sl⟩, ho, hc, n, hd⟩ := id p1
  obtain ⟨⟨cls2, dd2, data2, sl2⟩, ho2, hc2, n2, hd2⟩ := id p2
  simp only at hc hd hc2 hd2
  subst hc hd hc2 hd2
  have ty1 : s.TypeIs (.ref t) "tuple" := ⟨_, ho, rfl⟩
  have ty2 : s.TypeIs (.ref t') "tuple" := ⟨_, ho2, rfl⟩
  have sb : L2.Sub X k X.A.in1 := (sub_self hr).in1
  refine wpAny_richCompare_same_room (op := .Eq) ty1 ty2 PySem.F.slot_tuple_eq (wpAny_call (codeAny_call_builtin PySem.F.slot_tuple_eq.plain PySem.F.entry_tuple_eq (PySem.F.slot_tuple_eq.check _ _ _ _ _ _ _ _ ty1 (PySem.F.args_tuple_eq_2 _ _) ?_))) (by have := hr.un; omega)
  have f2 := AutoSeq1.sub_tuple_tuple
  obtain ⟨hp, g, d, tk, os⟩ := s
  wp_walk using AutoSeq1.wpAny_loadPart' ho, AutoSeq1.wpAny_loadPart' ho2
  have ask : ∀ {a b dx dy : Addr} {fs gs : List (Str × V)} {H0 : Hp} {s0 : Shared} {R : Bool → Hp → Prop} {Q' : Bool → Shared → Prop} {E' : Value → Shared → Prop}, L2.Inv X pins σ H0 s0 → H0 a = some (.ins C dx fs) → H0 b = some (.ins C dy gs) → eqc spe a b H0 R →
      (∀ e s', X.xe e s' → E' e s') → (∀ r s', (∃ H', L2.Inv X pins σ H' s' ∧ R r H') → Q' r s') → wpAny (model X.prog X.w) X.A.in1 (eqBool (.ref a) (.ref b)) Q' E' s0 := fun I ea eb q he h => wpAny_mono (eqb_own Se Ge hbe sb I ea eb q) h he
  refine loop_inv (fun l b s => b = (none, ()) ∧ ∃ (i : Nat) (H1 : Hp), L2.Inv X pins σ H1 s ∧ Same H H1 ∧ l = ((as.map Value.ref).zip (bs.map Value.ref)).drop i ∧ ∀ j, j < i → e j = true) ?_ ?_ _ _ _ _ ⟨rfl, 0, H, I, Same.refl _, rfl, fun j hj => absurd hj (Nat.not_lt_zero _)⟩
  · rintro ⟨x, y⟩ hx rest b ⟨hp1, g1, d1, tk1, os1⟩ ⟨rfl, i, H1, I1, s1, hl, hj⟩
    have hz : ((as.map Value.ref).zip (bs.map Value.ref))[i]? = some (x, y) := by
      have := congrArg (fun l => l[0]?) hl
      simpa using this.symm
    rw [List.getElem?_zip_eq_some, List.getElem?_map, List.getElem?_map] at hz
    obtain ⟨hz1, hz2⟩ := hz
    cases ea : as[i]? with
    | none => rw [ea] at hz1; cases hz1
    | some a =>
      cases eb : bs[i]? with
      | none => rw [eb] at hz2; cases hz2
      | some b =>
        rw [ea] at hz1
        rw [eb] at hz2
        cases hz1
        cases hz2
        obtain ⟨dx, fs, fa⟩ := i1 a (List.mem_of_getElem? ea)
        obtain ⟨dy, gs, fb⟩ := i2 b (List.mem_of_getElem? eb)
        have la := (List.getElem?_eq_some_iff.mp ea).1
        have lb := (List.getElem?_eq_some_iff.mp eb).1
        dsimp only
        refine wpAny_bind (ask I1 (s1 _ _ fa) (s1 _ _ fb) (he i a b ea eb H1 s1) (fun _ _ z => z) ?_)
        rintro r ⟨hp2, g2, d2, tk2, os2⟩ ⟨H2, I2, q2⟩
        obtain ⟨q3, s2⟩ := q2
        subst q3
        cases ee : e i with
        | false =>
          wp_walk
          show Value.bool false ≠ Value.notImplemented ∧ EP X pins σ Q (.bool false) _
          refine ⟨fun z => (nomatch z), V.bl false, H2, I2, rfl, ?_⟩
          have h := fin H2 (s1.trans s2)
          have e0 : (List.range (min as.length bs.length)).all e = false := by
            rw [List.all_eq_false]
            exact ⟨i, List.mem_range.mpr (by omega), by rw [ee]; decide⟩
          rwa [e0, Bool.and_false] at h
        | true =>
          wp_walk
          refine ⟨rfl, i + 1, H2, I2, s1.trans s2, ?_, fun j hj2 => ?_⟩
          · have := congrArg List.tail hl
            rw [List.tail_cons, List.tail_drop] at this
            exact this
          · rcases Nat.lt_or_ge j i with q | q
            · exact hj j q
            · obtain rfl : j = i := by omega
              exact ee
  · rintro b ⟨hp1, g1, d1, tk1, os1⟩ ⟨rfl, i, H1, I1, s1, hl, hj⟩
    have hi : min as.length bs.length ≤ i := by
      have := congrArg List.length hl
      rw [List.length_drop, List.length_zip, List.length_map, List.length_map, List.length_nil] at this
      omega
    have all : (List.range (min as.length bs.length)).all e = true := by
      rw [List.all_eq_true]
      exact fun j hj2 => hj j (Nat.lt_of_lt_of_le (List.mem_range.mp hj2) hi)
    have h := fin H1 s1
    rw [all, Bool.and_true] at h
    wp_walk
    have eq : Builtin.Tuple.tupleCompareSizes CmpOp.Eq (List.map Value.ref as).toArray.size (List.map Value.ref bs).toArray.size = .bool (decide (as.length = bs.length)) := by
      unfold Builtin.Tuple.tupleCompareSizes
      simp only [List.size_toArray, List.length_map]
      by_cases q : as.length = bs.length <;> simp [q]
    rw [eq]
    exact ⟨fun z => (nomatch z), V.bl _, H1, I1, rfl, h⟩
end
/-! ### sum(xs, start=r): own instances -/
section
variable {X : Cx} {k : Nat} {A : Around} {f : Addr} {fd : FuncData} {ps : List Str} {sp : Sp} {pins : List (Addr × Obj)} {σ : L2.St} {H : Hp} {s : Shared} {Q : VK} {us : List Value} {vs : List V} {C : Addr}
/-- a def that raises nothing, run at any place below -/
theorem run_no (sb : L2.Sub X k A) (F : FnOk X.prog X.w X.K X.mg X.base CX0 k f fd ps sp) (hb : L2.Binds X.K fd ps []) (I : L2.Inv X pins σ H s) (r : Vals vs us) (h : sp vs H Q E0) :
    wpAny (model X.prog X.w) A (call (.ref f) us) (EP X pins σ Q) (fun _ _ => False) s := by
  have len : us.length = ps.length := r.length.symm.trans (F.len _ _ _ _ h)
  have bt := hb s us I.kIn (by simpa using len)
  simp only [List.append_nil] at bt
  have e1 := I.env0
  have e0 : Env0 X.prog X.w X.K X.mg X.base A X.stack s H := ⟨sb.fr.trans e1.frames, e1.mod, e1.bs, e1.bsz, e1.funs, e1.frf, e1.hok, e1.bare⟩
  refine wpAny_call (codeAny_mono (F.run A X.stack s H ⟨us, []⟩ us vs Q E0 sb.room e0 bt r h) fun res s' q => ?_)
  match res, q with
  | .error er, q => exact False.elim q
  | .ok (.ret u), q => exact I.after q
theorem bin_no {op : Operator} {a b dx dy : Addr} {fs gs : List (Str × V)} (B : Bin X.K C op.info.2 f) (F : FnOk X.prog X.w X.K X.mg X.base CX0 k f fd ps sp) (hb : L2.Binds X.K fd ps []) (sb : L2.Sub X k A) (I : L2.Inv X pins σ H s) (ea : H a = some (.ins C dx fs)) (eb : H b = some (.ins C dy gs))
    (q : sp [.ref a, .ref b] H Q E0) : wpAny (model X.prog X.w) A (binaryOp op (.ref a) (.ref b)) (EP X pins σ Q) (fun _ _ => False) s := by
  obtain ⟨od, J⟩ := inst_of I ea
  obtain ⟨od', J'⟩ := inst_of I eb
  exact bin_of (bin1_own B I.kIn J J'.type (thn (run_no sb F hb I (show Vals [V.ref a, V.ref b] [Value.ref a, Value.ref b] from .cons rfl (.cons rfl .nil)) q) fun u' s' z => rel_back z))
/-- the sums: after i of the items acc stands at a -/
structure SumW (K : PySem.W.Frag) (C : Addr) (spa : Sp) (l : Addr) (qs : List Addr) (W : Nat → Addr → Hp → Prop) : Prop where
  seq : ∀ i a H, W i a H → SqL K H l (qs.map V.ref)
  ins : ∀ i a H, W i a H → ∃ dx fs, H a = some (.ins C dx fs)
  itm : ∀ i a H q, W i a H → qs[i]? = some q → ∃ dx fs, H q = some (.ins C dx fs)
  add : ∀ i a H q, W i a H → qs[i]? = some q → spa [.ref a, .ref q] H (fun v H' => ∃ b, v = .ref b ∧ W (i + 1) b H') E0
theorem sum_steps {IT ST l : Addr} {qs : List Addr} {W : Nat → Addr → Hp → Prop} {R : PySem.Result → Shared → Prop} (B : Bin X.K C "add" f) (F : FnOk X.prog X.w X.K X.mg X.base CX0 k f fd ps sp) (hb : L2.Binds X.K fd ps []) (sb : L2.Sub X k A.in1) (hh : A.in1.handled = none)
    (SW : SumW X.K C sp l qs W) (hne : IT ≠ ST) (nI : ∀ p ∈ X.pn ++ pins, p.1 ≠ IT) (nS : ∀ p ∈ X.pn ++ pins, p.1 ≠ ST) (h1 : X.s_0.heap.objs.size ≤ IT) (h2 : X.s_0.heap.objs.size ≤ ST)
    (hR : ∀ a H' s', W qs.length a H' → L2.Inv X pins σ H' s' → R (.ok (.ret (.ref a))) s') :
    ∀ (n i : Nat) (a : Addr) (H : Hp) (s : Shared) (c : Nat) (oI : Obj), qs.length - i = n → i ≤ qs.length → W i a H → s.heap.IsListIter IT l i → s.heap.get? IT = some oI →
      L2.Inv X ((IT, oI) :: (ST, { cls := .type "list", dict := none, data := .seq #[.ref a] c, slots := #[] }) :: pins) σ H s →
      codeAny (model X.prog X.w) A (.builtin "sum.loop" ⟨[.ref IT, .ref ST, rawInt 2, rawInt 0], []⟩) R s := by
  intro n
  induction n with
  | zero =>
    intro i a H s c oI hk hi hW hit hoI I
    obtain rfl : i = qs.length := by omega
    have hS := (I.pin (ST, _) (List.mem_append_right _ (List.mem_cons_of_mem _ List.mem_cons_self))).1
    obtain ⟨its, rv, p, hz⟩ := I.list (SW.seq _ _ _ hW)
    have hl := rv.length
    rw [List.length_map] at hl
    have hIT := I.pin (IT, oI) (List.mem_append_right _ List.mem_cons_self)
    have nIT : ∀ x c', X.env.cells.lookup x = some c' → c' ≠ IT := fun x c' e z => by
      obtain ⟨v', q'⟩ := I.cell x c' e
      obtain ⟨o', ho', hd'⟩ := q'
      rw [z, hIT.1] at ho'
      cases ho'
      exact hIT.2.2.2.2 v' hd'
    refine codeAny_builtin PySem.F.entry_sum_loop ?_
    rw [Around.under_plainId PySem.F.plain_sum_loop _]
    show wpAny _ A.in1 (seqItems? (.ref ST) >>= _) _ _ s
    refine wpAny_bind (wpAny_seqItems hS rfl ?_)
    show wpAny _ A.in1 (tryCatch (pyNext (.ref IT)) _ >>= _) _ _ s
    refine wpAny_bind (wpAny_tryCatch (wpAny_pyNext_list_end hh hit p.isList (by simp; omega) fun h' eb => ?_))
    exact wpAny_pure (hR a H _ hW ((ClX.unpin (ClX.unpin I)).turned (t' := s.toks) (it := IT) (fun b o hb e => eb b o hb e) hIT.2.1 hIT.2.2.1 (.inr h1) nIT nI))
  | succ n ih =>
    intro i a H s c oI hk hi hW hit hoI I
    have lt : i < qs.length := by omega
    have hIT := I.pin (IT, oI) (List.mem_append_right _ List.mem_cons_self)
    have hST := I.pin (ST, _) (List.mem_append_right _ (List.mem_cons_of_mem _ List.mem_cons_self))
    have cellsOf : ∀ {P0 : Addr} {o0 : Obj} {H0 : Hp} {s0 : Shared} {ps0 : List (Addr × Obj)}, L2.Inv X ps0 σ H0 s0 → s0.heap.get? P0 = some o0 → (∀ v, o0.data ≠ .cell v) → ∀ x c', X.env.cells.lookup x = some c' → c' ≠ P0 := fun I g nc x c' e z => by
      obtain ⟨v', q'⟩ := I.cell x c' e
      obtain ⟨o', ho', hd'⟩ := q'
      rw [z, g] at ho'
      cases ho'
      exact nc v' hd'
    obtain ⟨its, rv, p, hz⟩ := I.list (SW.seq _ _ _ hW)
    obtain ⟨q, hq⟩ : ∃ q, qs[i]? = some q := ⟨_, List.getElem?_eq_getElem lt⟩
    have hitm : its[i]? = some (.ref q) := by
      obtain ⟨u, hu, ru⟩ := rv.get (i := i) (x := V.ref q) (by rw [List.getElem?_map, hq]; rfl)
      cases ru
      exact hu
    obtain ⟨dx, fs, ea⟩ := SW.ins _ _ _ hW
    obtain ⟨dy, gs, eq⟩ := SW.itm _ _ _ _ hW hq
    refine codeAny_builtin PySem.F.entry_sum_loop ?_
    rw [Around.under_plainId PySem.F.plain_sum_loop _]
    show wpAny _ A.in1 (seqItems? (.ref ST) >>= _) _ _ s
    refine wpAny_bind (wpAny_seqItems hST.1 rfl ?_)
    show wpAny _ A.in1 (tryCatch (pyNext (.ref IT)) _ >>= _) _ _ s
    refine wpAny_bind (wpAny_tryCatch (wpAny_pyNext_list_item hit p.isList (x := .ref q) (by simpa using hitm) fun h' hit' sb' => ?_))
    obtain ⟨oJ, eJ, cJ, dJ⟩ := id hit'
    have I0 : L2.Inv X ((ST, { cls := .type "list", dict := none, data := .seq #[.ref a] c, slots := #[] }) :: pins) σ H { s with heap := h' } :=
      (ClX.unpin I).turned (t' := s.toks) (it := IT) (fun b o hb e => (sb'.2 b hb).trans e) hIT.2.1 hIT.2.2.1 (.inr h1) (cellsOf I hIT.1 hIT.2.2.2.2) (fun p hp => by
        rcases List.mem_append.mp hp with hp | hp
        · exact nI p (List.mem_append_left _ hp)
        · rcases List.mem_cons.mp hp with rfl | hp
          · exact Ne.symm hne
          · exact nI p (List.mem_append_right _ hp))
    have I1 : L2.Inv X ((IT, oJ) :: (ST, { cls := .type "list", dict := none, data := .seq #[.ref a] c, slots := #[] }) :: pins) σ H { s with heap := h' } := I0.pins_of fun p hp => by
      rcases List.mem_cons.mp hp with rfl | hp
      · exact ⟨eJ, hIT.2.1, hIT.2.2.1, hIT.2.2.2.1, fun v z => by rw [dJ] at z; cases z⟩
      · exact I0.pin p (List.mem_append_right _ hp)
    show wpAny _ A.in1 ((holding [Value.ref q] (binaryOp .Add (.ref a) (.ref q))).attempt >>= _) _ _ _
    refine wpAny_bind (wpAny_attempt (wpAny_holding (wpAny_mono (bin_no (op := .Add) B F hb sb I1 ea eq (SW.add _ _ _ _ hW hq)) (fun u s2 z => ?_) (fun _ _ z => z.elim))))
    obtain ⟨v, H2, I2, r2, b, rfl, hW2⟩ := z
    cases r2
    have hS2 := I2.pin (ST, _) (List.mem_append_right _ (List.mem_cons_of_mem _ List.mem_cons_self))
    have hI2 := I2.pin (IT, oJ) (List.mem_append_right _ List.mem_cons_self)
    show wpAny _ A.in1 (updateSeq ST (fun _ => #[.ref b]) >>= _) _ _ _
    refine wpAny_bind (wpAny_updateSeq hS2.1 rfl ?_)
    have hS3 := Heap.get?_update_self (Obj.mapSeq fun _ => #[Value.ref b]) hS2.1 rfl
    refine wpAny_bind (wpAny_letGo ?_)
    refine wpAny_bind (wpAny_updateSeq hS3 rfl (wpAny_pure ⟨plainId_quiet PySem.F.plain_sum_loop _, ?_⟩))
    have hS4 := Heap.get?_update_self (Obj.mapSeq fun _ => #[Value.ref b]) hS3 rfl
    have oth : ∀ b' o, b' ≠ ST → s2.heap.get? b' = some o → ((s2.heap.update ST (Obj.mapSeq fun _ => #[Value.ref b])).update ST (Obj.mapSeq fun _ => #[Value.ref b])).get? b' = some o := fun b' o hb e => (Heap.get?_update_other _ _ (Ne.symm hb)).trans ((Heap.get?_update_other _ _ (Ne.symm hb)).trans e)
    have I3 : L2.Inv X pins σ H2 { s2 with heap := (s2.heap.update ST (Obj.mapSeq fun _ => #[Value.ref b])).update ST (Obj.mapSeq fun _ => #[Value.ref b]) } :=
      (ClX.unpin (ClX.unpin I2)).turned (t' := s2.toks) (it := ST) oth hS2.2.1 hS2.2.2.1 (.inr h2) (cellsOf I2 hS2.1 hS2.2.2.2.2) nS
    obtain ⟨c2, hS5⟩ : ∃ c2, ((s2.heap.update ST (Obj.mapSeq fun _ => #[Value.ref b])).update ST (Obj.mapSeq fun _ => #[Value.ref b])).get? ST = some { cls := .type "list", dict := none, data := .seq #[.ref b] c2, slots := #[] } := ⟨_, hS4⟩
    refine ih (i + 1) b H2 _ c2 oJ (by omega) lt hW2 ⟨oJ, oth IT oJ hne hI2.1, cJ, dJ⟩ (oth IT oJ hne hI2.1) (Inv.pins_of (pins := pins) I3 fun p hp => ?_)
    rcases List.mem_cons.mp hp with rfl | hp
    · exact ⟨oth IT oJ hne hI2.1, hI2.2⟩
    · rcases List.mem_cons.mp hp with rfl | hp
      · exact ⟨hS5, hS2.2.1, hS2.2.2.1, hS2.2.2.2.1, fun v z => nomatch z⟩
      · exact I3.pin p (List.mem_append_right _ hp)
/-- sum(xs, start=r) -/
def rSumS (K : PySem.W.Frag) (C : Addr) (sp : Sp) : List V → List V → Hp → VK → Prop := fun vs zs H Q => ∃ (l r : Addr) (qs : List Addr) (W : Nat → Addr → Hp → Prop), vs = [.ref l] ∧ zs = [.ref r] ∧ SumW K C sp l qs W ∧ W 0 r H ∧ ∀ a H', W qs.length a H' → Q (.ref a) H'
theorem args_sumS (a b : Value) : PySem.argsOk "sum" ⟨[a], [(Str.ofString "start", b)]⟩ := by unfold PySem.argsOk; kernel_rfl
theorem call_fn_kw {id : String} {b : Builtin} {args : List Value} {kw : List (Str × Value)} {A : Around} {E : Value → Shared → Prop} {Q : Value → Shared → Prop} {prog : Program} {w : World} (hk : builtinKind id = none) (hp : plainId id = true) (hb : entryFor table id = some b) (ha : argsOk id ⟨args, kw⟩)
    (hc : wpAny (model prog w) A.in1 (b ⟨args, kw⟩) (fun fin s' => match fin with
      | .done f => (match (Except.ok f : PySem.Result) with | .ok (.ret v) => Q v s' | .ok _ => False | .error e => E e s')
      | .again c' => c'.quiet = true ∧ codeAny (model prog w) A c' (fun r s' => match r with | .ok (.ret v) => Q v s' | .ok _ => False | .error e => E e s') s') E s) :
    wpAny (model prog w) A (call (.builtin id) args kw) Q E s := by
  refine wpAny_call (codeAny_call_builtin hp hb ?_)
  simp only [checkBuiltinCall, hk]
  cases q : Manifest.signature? id with
  | none => exact wpAny_pure hc
  | some sig =>
    simp only [argsOk, q] at ha
    show wpAny _ A.in1 (Bind.checkArgs id sig ⟨args, kw⟩) _ _ s
    rw [show Bind.checkArgs id sig ⟨args, kw⟩ = pure () from ha]
    exact wpAny_pure hc
theorem cr_sumS (B : Bin X.K C "add" f) (F : FnOk X.prog X.w X.K X.mg X.base CX0 k f fd ps sp) (hb : L2.Binds X.K fd ps []) (hr : Room (k + 2) X.A) (hc : X.calm = true) (hs : ∀ t ∈ ["str", "bytes", "bytearray"], PySem.W.subIn X.K (.ref C) (.type t) = some false) : CallRK X (.builtin "sum") [Str.ofString "start"] (rSumS X.K C sp) := by
  rintro pins s σ H vs zs us ws Q I r rz ⟨l, r0, qs, W, rfl, rfl, SW, hW, fin⟩
  obtain rfl := Vals.ref1 r
  obtain rfl := Vals.ref1 rz
  obtain ⟨its, rv, p, hz⟩ := I.list (SW.seq _ _ _ hW)
  obtain ⟨dx, fs, er⟩ := SW.ins _ _ _ hW
  obtain ⟨od, J⟩ := inst_of I er
  have lk : ∀ t ∈ ["str", "bytes", "bytearray"], PySem.W.Looks (model X.prog X.w) s.heap (isInstance (.ref r0) (.type t)) false := fun t ht => J.type.andThen (PySem.W.looks_subIn I.kIn (hs t ht))
  have l1 := lk "str" (by simp)
  have l2 := lk "bytes" (by simp)
  have l3 := lk "bytearray" (by simp)
  refine call_fn_kw PySem.F.kind_sum PySem.F.plain_sum PySem.F.entry_sum (args_sumS _ _) ?_
  unfold Builtin.«sum»
  simp only [List.length_cons, List.length_nil]
  rw [if_neg (show ¬ (0 + 1 + ([Str.ofString "start"].zip [Value.ref r0]).length > 2) by show ¬ (2 > 2); decide)]
  refine wpAny_bind (wpAny_of_eq (show Builtin.Builtins.bindParams "sum" ["start"] 0 ⟨[], [(Str.ofString "start", .ref r0)]⟩ = pure [some (.ref r0)] from rfl) ?_)
  refine wpAny_bind (wpAny_pyIter_list p.isList ?_)
  refine wpAny_bind (wpAny_pure ?_)
  simp only [List.forIn_cons, List.forIn_nil]
  have kp : ∀ b o, s.heap.get? b = some o → (s.heap.push { cls := .type "list_iterator", data := .fields #[.ref l, .int 0 0] }).get? b = some o := fun b o e => Heap.get?_push_of_some _ e
  refine wpAny_bind (wpAny_bind (wpAny_bind ((l1.keeps kp).here ?_)))
  simp only [Bool.false_eq_true, if_false]
  refine wpAny_pure (wpAny_bind (wpAny_bind ((l2.keeps kp).here ?_)))
  simp only [Bool.false_eq_true, if_false]
  refine wpAny_pure (wpAny_bind (wpAny_bind ((l3.keeps kp).here ?_)))
  simp only [Bool.false_eq_true, if_false]
  refine wpAny_pure (wpAny_pure ?_)
  refine wpAny_bind (wpAny_newObj_type ?_)
  have hz1 : (s.heap.push { cls := .type "list_iterator", data := .fields #[.ref l, .int 0 0] }).objs.size = s.heap.objs.size + 1 := Heap.size_push ..
  have gI : (s.heap.push { cls := .type "list_iterator", data := .fields #[.ref l, .int 0 0] }).get? s.heap.objs.size = some { cls := .type "list_iterator", data := .fields #[.ref l, .int 0 0] } := Heap.get?_push_size _ rfl
  have big : ∀ {p : Addr × Obj}, p ∈ X.pn ++ pins → p.1 < s.heap.objs.size := fun {p} hp => Heap.lt_size (I.pin p hp).1
  refine wpAny_pure ⟨plainId_quiet PySem.F.plain_sum_loop _, sum_steps (IT := s.heap.objs.size) (ST := (s.heap.push { cls := .type "list_iterator", data := .fields #[.ref l, .int 0 0] }).objs.size) (A := X.A) B F hb (sub_self (hr.mono (Nat.le_succ _))).in1 (show X.A.in1.handled = none from I.ok.hd hc) SW (by rw [hz1]; exact Nat.ne_of_lt (Nat.lt_succ_self _)) (fun p hp => Nat.ne_of_lt (big hp)) (fun p hp => by rw [hz1]; exact Nat.ne_of_lt (Nat.lt_succ_of_lt (big hp))) I.sz (by rw [hz1]; exact Nat.le_succ_of_le I.sz)
    (fun a H' s' hW' I' => ⟨.ref a, H', I', rfl, fin a H' hW'⟩) qs.length 0 r0 H _ 0 _ rfl (Nat.zero_le _) hW ⟨_, Heap.get?_push_of_some _ gI, rfl, rfl⟩ (Heap.get?_push_of_some _ gI) ?_⟩
  refine Inv.pins_of (pins := pins) (I.kept (t' := s.toks) (fun b u e => Heap.get?_push_of_some _ (Heap.get?_push_of_some _ e))) fun p hp => ?_
  rcases List.mem_cons.mp hp with rfl | hp
  · exact ⟨Heap.get?_push_of_some _ gI, I.hok.fresh (Nat.le_refl _), Nat.ne_of_gt I.lt, I.nofs (Nat.le_refl _), fun v z => nomatch z⟩
  · rcases List.mem_cons.mp hp with rfl | hp
    · exact ⟨Heap.get?_push_size _ rfl, I.hok.fresh (by rw [hz1]; exact Nat.le_succ _), by rw [hz1]; exact Nat.ne_of_gt (Nat.lt_succ_of_lt I.lt), I.nofs (by rw [hz1]; exact Nat.le_succ _), fun v z => nomatch z⟩
    · obtain ⟨a1, a2⟩ := I.pin p (List.mem_append_right _ hp)
      exact ⟨Heap.get?_push_of_some _ (Heap.get?_push_of_some _ a1), a2⟩
end
end Pm

set_option maxHeartbeats 2100000
namespace PmG
open PySem PySem.Calls
section
variable {M : Model} {A : Around} {R : GenEnd} {Y : Protocol} {n : Nat} {s₀ : Shared} {c : Code} {fs : List Frame} {s : Shared} {env : Env} {K : Flow → Sem Fin} {H : Value → Sem Fin} {gd : Bool → Bool} {lv : List Value → List Value}
theorem seg_bindw {α : Type} {m : Sem α} {k : α → Sem Flow} (h : wpAny M (A.over c fs) m (fun a s' => Seg M A R Y n s₀ c ((k a).wrap K H gd lv) fs s') (fun x s' => Seg M A R Y n s₀ c (H x) fs s') s) :
    Seg M A R Y n s₀ c ((m >>= k).wrap K H gd lv) fs s := by
  rw [Sem.bind_eq_wrap', Sem.wrap_wrap]
  exact seg_wrap h
theorem seg_For {tg iter : Expr} {body orelse : List Stmt} {pos : Pos}
    (h : wpAny M (A.over c fs) (eval iter env) (fun x s1 => wpAny M (A.over c fs) (pyIter x) (fun it s2 => ∀ p l, Seg M A R Y n s₀ (.forLoop tg it body orelse env) (M.den (.forLoop tg it body orelse env))
      (.ret (fun rr => ((match rr with | .ok ff => (.pure ff : Sem Flow) | .error ee => .raise ee).onRaise (L2.cameBack env)).wrap K H gd lv) none (gd false) l c p [] :: fs) s2) (fun x s' => Seg M A R Y n s₀ c (H x) fs s') s1) (fun x s' => Seg M A R Y n s₀ c (H x) fs s') s)
    (folds : ∀ x, foldedSetIterable iter env x = pure x := by intro _; rfl) :
    Seg M A R Y n s₀ c ((exec (.For tg iter body orelse pos) env).wrap K H gd lv) fs s := by
  rw [exec_For]
  refine seg_bindw (wpAny_standAt (seg_bindw (wpAny_mono h (fun x s1 h1 => ?_) fun _ _ z => z)))
  refine seg_bindw (wpAny_of_eq (folds x) (seg_bindw (wpAny_standAt (seg_bindw (wpAny_holding (wpAny_mono h1 (fun it s2 h2 => ?_) fun _ _ z => z))))))
  exact seg_call fun p => h2 p _
end
section
variable {prog : Program} {w : World} {A : Around} {R : GenEnd} {Y : Protocol} {env : Env}
variable {n : Nat} {s₀ s : Shared} {fs : List Frame}
/-- where an exception of a turn goes -/
abbrev Noted (prog : Program) (w : World) (A : Around) (R : GenEnd) (Y : Protocol) (n : Nat) (s₀ : Shared) (c : Code) (fs : List Frame) (env : Env) (x : Value) (s' : Shared) : Prop :=
  Seg (model prog w) A R Y n s₀ c ((do noteFrame x env; theTreesLotGoes x : Sem Unit).wrap (fun _ => .raise x) .raise id id) fs s'
theorem seg_bindF {α : Type} {m : Sem α} {k : α → Sem Fin} {K : Fin → Sem Fin} {H : Value → Sem Fin} {gd lv} {M : Model} {c : Code} (h : wpAny M (A.over c fs) m (fun a s' => Seg M A R Y n s₀ c ((k a).wrap K H gd lv) fs s') (fun x s' => Seg M A R Y n s₀ c (H x) fs s') s) :
    Seg M A R Y n s₀ c ((m >>= k).wrap K H gd lv) fs s := by
  rw [Sem.bind_eq_wrap', Sem.wrap_wrap]
  exact seg_wrap h
theorem noted_of {c : Code} {x : Value} {s' : Shared} (h : Noted prog w A R Y n s₀ c fs env x s') :
    Seg (model prog w) A R Y n s₀ c ((do noteFrame x env; theTreesLotGoes x : Sem Unit).bind fun _ => .raise x) fs s' := by
  rw [Sem.bind_eq_wrap]; exact h
theorem seg_forLoop {tg : Expr} {it : Value} {body : List Stmt}
    (h : wpAny (model prog w) (A.over (.forLoop tg it body [] env) fs) (pyNext it) (fun r s1 => match r with
      | none => Seg (model prog w) A R Y n s₀ (.block [] env) (leafOf (.ok .next)) fs s1
      | some v => wpAny (model prog w) (A.over (.forLoop tg it body [] env) fs) (letOwnedTupleGo tg it v) (fun _ s2 => wpAny (model prog w) (A.over (.forLoop tg it body [] env) fs) (assign tg env v) (fun _ s3 =>
          Seg (model prog w) A R Y n s₀ (.forLoop tg it body [] env) ((execs body env).wrap (fun f => match f with
            | .next | .cont => .pure (.again (.forLoop tg it body [] env))
            | .brk => .pure (.done .next)
            | .ret v => .pure (.done (.ret v))) (fun x => (do noteFrame x env; theTreesLotGoes x : Sem Unit).wrap (fun _ => .raise x) .raise id id) id id) fs s3)
          (Noted prog w A R Y n s₀ (.forLoop tg it body [] env) fs env) s2) (Noted prog w A R Y n s₀ (.forLoop tg it body [] env) fs env) s1)
      (Noted prog w A R Y n s₀ (.forLoop tg it body [] env) fs env) s) :
    Seg (model prog w) A R Y n s₀ (.forLoop tg it body [] env) ((model prog w).den (.forLoop tg it body [] env)) fs s := by
  show Seg _ A R Y n s₀ _ ((forTurn tg it body [] env).onRaise (fun x => do noteFrame x env; theTreesLotGoes x)) fs s
  unfold forTurn
  rw [Sem.onRaise_eq_wrap]
  refine seg_bindF (wpAny_standAt (seg_bindF (wpAny_onRaise (wpAny_mono h (fun r s1 h1 => ?_) fun x s1 z => wpAny_standAt (noted_of z)))))
  cases r with
  | none => exact seg_again rfl h1
  | some v =>
    refine seg_bindF (wpAny_mono h1 (fun _ s2 h2 => ?_) fun _ _ z => noted_of z)
    refine seg_bindF (wpAny_mono h2 (fun _ s3 h3 => ?_) fun _ _ z => noted_of z)
    rw [Sem.bind_eq_wrap', Sem.wrap_wrap]
    rw [Sem.wrap_congr (execs body env) _ _ (K' := fun flow => match flow with
            | .next | .cont => .pure (.again (.forLoop tg it body [] env))
            | .brk => .pure (.done .next)
            | .ret v => .pure (.done (.ret v))) (H' := (fun x => (do noteFrame x env; theTreesLotGoes x : Sem Unit).wrap (fun _ => .raise x) .raise id id))
        (fun f => by cases f <;> rfl)
        (fun x => by show (do noteFrame x env; theTreesLotGoes x : Sem Unit).bind (fun _ => .raise x) = _; rw [Sem.bind_eq_wrap])]
    exact h3
end

section
open L2
variable {X : Cx}
/-- W: what holds by the turn, a measure and what is out so far; N: what the suite is to reach -/
def tGFor (wi : TI) (g : TG) (tb : TGn) : TGn := fun D ys σ H => wi σ H fun J H1 => ∃ W : Nat → Nat → List V → St → Hp → Prop, (∃ m, W 0 m ys σ H1) ∧ ∀ i m ys σ H, W i m ys σ H →
  (J.stop i H ∧ D.nx ys σ H) ∨ (J.go i H ∧ ∃ N : List V → St → Hp → Prop, (∀ ys' σ' H', N ys' σ' H' → ∃ m', m' < m ∧ W (i + 1) m' ys' σ' H') ∧ ∀ x H', J.yld i H x H' → g x σ H' fun σ2 H2 => tb { D with nx := N, ct := N, bk := D.nx } ys σ2 H2)
theorem gi_drop {S : Addr} {ip pl : List (Addr × Obj)} {ys : List V} {σ : St} {H : Hp} {s : Shared} (h : GI X S (ip ++ pl) ys σ H s) : GI X S ip ys σ H s := by
  obtain ⟨acc, cc, r, I⟩ := h
  exact ⟨acc, cc, r, Inv.unpinned (pins := (S, lstObj acc cc) :: ip) (pl := pl) I⟩
theorem gsp_drop {S : Addr} {ip pl : List (Addr × Obj)} {D : GEnds} {ys : List V} {f : Flow} {s : Shared} (h : GSP X S (ip ++ pl) D ys f s) : GSP X S ip D ys f s := by
  cases f with
  | next => obtain ⟨σ, H, I, q⟩ := h; exact ⟨σ, H, gi_drop I, q⟩
  | brk => obtain ⟨σ, H, I, q⟩ := h; exact ⟨σ, H, gi_drop I, q⟩
  | cont => obtain ⟨σ, H, I, q⟩ := h; exact ⟨σ, H, gi_drop I, q⟩
  | ret u => obtain ⟨v, σ, H, I, r, q⟩ := h; exact ⟨v, σ, H, gi_drop I, r, q⟩
theorem gs_for {tg iter : Expr} {body : List Stmt} {wi : TI} {g : TG} {tb : TGn} {pos : Pos} (hp : PassesOwn (model X.prog X.w) X.A X.env X.xe) (hc : X.calm = true) (hi : PI X tg iter wi) (hg : PG X tg g) (hb : GSs X body tb)
    (hs : ∀ x, foldedSetIterable iter X.env x = pure x := by intro _; rfl) : GS X (.For tg iter body [] pos) (tGFor wi g tb) := by
  refine ⟨fun A S ip R n ys s₀ c fs K J gd lv s σ H D g0 hn k hI ht => ?_⟩
  have hI0 := hI
  obtain ⟨acc0, cc0, r0, I0⟩ := hI
  refine seg_For ?_ hs
  rw [g0.over]
  refine wpAny_mono (hi.run _ s σ H _ I0 ht) (fun v s1 h1 => ?_) fun x s' hx => k.exc n s₀ x s' hx
  refine wpAny_mono h1 (fun itv s2 h2 p l => ?_) fun x s' hx => k.exc n s₀ x s' hx
  obtain ⟨it, fp, tn, Jt, H2, e, I2, T, st2, f2, W, ⟨m0, w0⟩, turn⟩ := h2
  subst e
  have gl := fun (kk : Result → Sem PySem.Fin) => gc_loop (k := kk) (c' := .forLoop tg (.ref it) body [] X.env) (l := l) (kp := []) (p := p) g0 rfl rfl
  -- what stays true of the iterator's objects
  have stat : ∀ {acc : Array Value} {cc : Nat} {H' : Hp}, (∀ b ∈ fp, H' b = none) → ∀ b ∈ fp, FpOk X ((S, lstObj acc cc) :: ip) H' b := fun hn b hb => by
    obtain ⟨_, a1, a2, a3, a4, a5⟩ := f2 b hb
    refine ⟨hn b hb, a1, a2, a3, a4, fun q hq => ?_⟩
    rcases List.mem_append.mp hq with kk | kk
    · exact a5 q (List.mem_append_left _ kk)
    · rcases List.mem_cons.mp kk with mm | mm
      · rw [mm]; exact a5 (S, lstObj acc0 cc0) (List.mem_append_right _ List.mem_cons_self)
      · exact a5 q (List.mem_append_right _ (List.mem_cons_of_mem _ mm))
  have fpS : ∀ b ∈ fp, b ≠ S := fun b hb z => (f2 b hb).2.2.2.2.2 (S, lstObj acc0 cc0) (List.mem_append_right _ List.mem_cons_self) z.symm
  have loop : ∀ (m i n : Nat) (ys : List V) (s₀ s : Shared) (σ : St) (H : Hp), n + ys.length = sizeLine → W i m ys σ H → GI X S ip ys σ H s → tn i s.heap → (∀ b ∈ fp, H b = none) →
      Seg (model X.prog X.w) A R (GY X S) n s₀ (.forLoop tg (.ref it) body [] X.env) ((model X.prog X.w).den (.forLoop tg (.ref it) body [] X.env))
        (.ret (fun r => ((match r with | .ok f => (.pure f : Sem Flow) | .error e => .raise e).onRaise (cameBack X.env)).wrap K J gd lv) none (gd false) l c p [] :: fs) s := by
    intro m
    induction m using Nat.strongRecOn with | ind m ih =>
      intro i n ys s₀ s σ H hn w hI st fr
      have ee : ∀ (n : Nat) (s₀ : Shared) (x : Value) (s' : Shared), X.xe x s' → Seg (model X.prog X.w) A R (GY X S) n s₀ (.forLoop tg (.ref it) body [] X.env)
          ((do noteFrame x X.env; theTreesLotGoes x : Sem Unit).wrap (fun (_ : Unit) => .raise x) .raise id id)
          (.ret (fun r => ((match r with | .ok f => (.pure f : Sem Flow) | .error e => .raise e).onRaise (cameBack X.env)).wrap K J gd lv) none (gd false) l c p [] :: fs) s' := fun n s₀ x s' hx => by
        refine seg_wrap ?_
        rw [(gl _).over]
        refine wpAny_bind (wpAny_mono (hp x s' hx) (fun _ t back => wpAny_theTreesLotGoes ?_) fun y t back => ?_)
        · exact seg_leaf (.error x) (seg_cameBack g0 k back)
        · exact seg_leaf (.error y) (seg_cameBack g0 k back)
      refine seg_forLoop ?_
      rw [(gl _).over]
      obtain ⟨acc, cc, r, I⟩ := hI
      rcases turn i m ys σ H w with ⟨stop, qn⟩ | ⟨go, N, hN, step⟩
      · refine wpAny_mono (T.done X rfl rfl rfl hc i _ s σ H X.xe I (stat fr) st stop) (fun r' s4 h4 => ?_) fun x s' hx => ee n s₀ x s' hx
        obtain ⟨hr, I4⟩ := h4
        subst hr
        exact seg_leaf (.ok .next) (k.ok n ys s₀ s4 .next hn ⟨σ, H, ⟨acc, cc, r, I4⟩, qn⟩)
      · refine wpAny_mono (T.item X rfl rfl rfl hc i _ s σ H X.xe I (stat fr) st go) (fun r' s4 h4 => ?_) fun x s' hx => ee n s₀ x s' hx
        obtain ⟨u, hr, h4⟩ := h4
        subst hr
        refine wpAny_mono h4 (fun _ s5 h5 => ?_) fun x s' hx => ee n s₀ x s' hx
        obtain ⟨x, H5, I5, r5, y5, st5, fr5⟩ := h5
        have I5' : Inv X ((S, lstObj acc cc) :: (ip ++ pinsAt fp s5.heap)) σ H5 s5 := Inv.pinned (pins := (S, lstObj acc cc) :: ip) I5 (stat fr5) (T.obj _ _ st5)
        refine wpAny_mono (hg.run _ s5 σ H5 x u _ I5' r5 (step x H5 y5)) (fun _ s6 h6 => ?_) fun x s' hx => ee n s₀ x s' hx
        obtain ⟨σ6, H6, I6, q6⟩ := h6
        have gr : ∀ kk : Result → Sem PySem.Fin, GC X S (ip ++ pinsAt fp s5.heap) A (.forLoop tg (.ref it) body [] X.env) (.ret kk none (gd false) l c p [] :: fs) id := fun kk => by
          refine ⟨g0.pn, fun q hq => ?_, g0.apart, (gl kk).over, (gl kk).split, (gl kk).guard, rfl⟩
          rcases List.mem_append.mp hq with kk | kk
          · exact g0.ip q kk
          · exact fpS _ (of_pinsAt kk).1
        have again : ∀ {s7 : Shared} {n' : Nat} {s₀' : Shared} {ys' : List V} {σ7 : St} {H7 : Hp}, n' + ys'.length = sizeLine → GI X S (ip ++ pinsAt fp s5.heap) ys' σ7 H7 s7 → N ys' σ7 H7 →
            Seg (model X.prog X.w) A R (GY X S) n' s₀' (.forLoop tg (.ref it) body [] X.env) (.pure (.again (.forLoop tg (.ref it) body [] X.env)))
              (.ret (fun r => ((match r with | .ok f => (.pure f : Sem Flow) | .error e => .raise e).onRaise (cameBack X.env)).wrap K J gd lv) none (gd false) l c p [] :: fs) s7 := fun {s7 n' s₀' ys' σ7 H7} hn' G7 n7 => by
          obtain ⟨m', hm, w7⟩ := hN ys' σ7 H7 n7
          have hpin : ∀ b o, b ∈ fp → s5.heap.get? b = some o → s7.heap.get? b = some o ∧ H7 b = none := fun b o hb e => by
            obtain ⟨acc7, cc7, r7, I7⟩ := G7
            have z := I7.pin (b, o) (List.mem_append_right _ (List.mem_cons_of_mem _ (List.mem_append_right _ (mem_pinsAt hb e))))
            exact ⟨z.1, z.2.1⟩
          refine seg_again rfl (ih m' hm (i + 1) n' ys' s₀' s7 σ7 H7 hn' w7 (gi_drop G7) (T.keep _ _ _ st5 fun b hb o e => (hpin b o hb e).1) fun b hb => ?_)
          obtain ⟨ob, eo, _⟩ := T.obj _ _ st5 b hb
          exact (hpin b ob hb eo).2
        refine hb.run A S (ip ++ pinsAt fp s5.heap) R n ys s₀ _ _ _ _ id id s6 σ6 H6 { D with nx := N, ct := N, bk := D.nx } (gr _) hn ⟨fun n' ys' s₀' s7 f hn' hs7 => ?_, fun n' s₀' x s3 hx => ee n' s₀' x s3 hx⟩ ⟨acc, cc, r, I6⟩ q6
        cases f with
        | next => obtain ⟨σ7, H7, G7, n7⟩ := hs7; exact again hn' G7 n7
        | cont => obtain ⟨σ7, H7, G7, n7⟩ := hs7; exact again hn' G7 n7
        | brk => obtain ⟨σ7, H7, G7, q7⟩ := hs7; exact seg_leaf (.ok .next) (k.ok n' ys' s₀' s7 .next hn' ⟨σ7, H7, gi_drop G7, q7⟩)
        | ret v => obtain ⟨x7, σ7, H7, G7, r7, q7⟩ := hs7; exact seg_leaf (.ok (.ret v)) (k.ok n' ys' s₀' s7 (.ret v) hn' ⟨x7, σ7, H7, gi_drop G7, r7, q7⟩)
  exact loop m0 0 n ys s₀ s2 σ H2 hn w0 ⟨acc0, cc0, r0, I2⟩ st2 fun b hb => (f2 b hb).1
end
section
open L2
variable {X : Cx}
/-- l != [] whatever the items are -/
theorem op_neN (hu : X.A.units < cLine) : OpR X (compareOp .NotEq) (fun x y H Q => ∃ a b xs, x = .ref a ∧ y = .ref b ∧ SqL X.K H a xs ∧ SqL X.K H b [] ∧ Q (.bl (!decide (xs.length = 0))) H) := by
  rintro pins s σ H x y v u Q I rx ry ⟨a, b, xs, rfl, rfl, ha, hb, q⟩
  obtain ⟨rfl, rfl⟩ : v = Value.ref a ∧ u = Value.ref b := ⟨rx, ry⟩
  obtain ⟨its, rv, p, _⟩ := I.list ha
  obtain ⟨its2, rv2, p2, _⟩ := I.list hb
  obtain rfl : its2 = [] := by cases rv2; rfl
  have pa := p.isList
  have pb := p2.isList
  obtain ⟨⟨cls, dd, data, sl⟩, ho, hc, n, hd⟩ := id pa
  obtain ⟨⟨cls2, dd2, data2, sl2⟩, ho2, hc2, n2, hd2⟩ := id pb
  simp only at hc hd hc2 hd2
  subst hc hd hc2 hd2
  have ta : s.TypeIs (.ref a) "list" := ⟨_, ho, rfl⟩
  have tyb : s.TypeIs (.ref b) "list" := ⟨_, ho2, rfl⟩
  have hl := rv.length
  refine wpAny_richCompare_same_room (op := .NotEq) ta tyb PySem.F.slot_list_ne ?_ hu
  by_cases z : xs.length = 0
  · have e : its = [] := List.length_eq_zero_iff.mp (by omega)
    subst e
    refine call_meets PySem.F.slot_list_ne ta PySem.F.entry_list_ne (PySem.F.args_list_ne_2 _ _) (PySem.SeqAt.list_neAt a b _ _ n n2 dd dd2 sl sl2 rfl (fun _ => true)) ⟨ho, ho2, fun j h1 => absurd h1 (by simp), show Value.bool _ ≠ Value.notImplemented ∧ EP X pins σ Q _ s from ⟨(fun x => nomatch x), ?_⟩⟩
    rw [z] at q
    exact ⟨.bl _, H, I, rfl, q⟩
  · refine call_meets PySem.F.slot_list_ne ta PySem.F.entry_list_ne (PySem.F.args_list_ne_2 _ _) (PySem.SeqAt.list_ne_lengthsAt a b its.toArray [].toArray n n2 dd dd2 sl sl2 (by simp; intro e; subst e; exact z (by rw [hl]; rfl))) ⟨ho, ho2, show Value.bool _ ≠ Value.notImplemented ∧ EP X pins σ Q _ s from ⟨(fun x => nomatch x), ?_⟩⟩
    rw [decide_eq_false z] at q
    exact ⟨.bl _, H, I, rfl, q⟩
end
end PmG

namespace Pm
open PySem PySem.Spec PyProof.Rows L2
/-- what isinstance asks of an own class -/
structure TyC (K : PySem.W.Frag) (C : Addr) : Prop where
  at_ : PySem.W.findIn K (.ref C) "__class__" = some (some (.builtin "object.__class__")) ∧ PySem.W.specialIn K (.builtin "object.__class__") "__get__" = some (some (.builtin "getset_descriptor.__get__")) ∧
    PySem.W.takesIn K (.builtin "object.__class__") = some true ∧ PySem.W.mroIn K C (.type "object") = some true
  ic : PySem.W.isClsIn K C = true
  ty : PySem.W.typeIn K (.ref C) = some (.type "type")
  ss : PySem.W.subIn K (.ref C) (.ref C) = some true

/-! ### the text by places (generated from the linked text) -/
def top (i : Nat) : Stmt := PySem.Challenge.pw_poolsmeet_k11_waters_compared.main.body.getD i (.Pass ⟨0, 0, 0, 0⟩)
abbrev s_InvalidNumber_init_d : Stmt := inClass (top 4) 0
abbrev s_Touching_init_d : Stmt := inClass (top 5) 0
abbrev s_Ratio_init_d : Stmt := inClass (top 9) 0
abbrev s_Ratio_of : Stmt := inClass (top 9) 1
abbrev s_Ratio_over : Stmt := inClass (top 9) 5
abbrev s_Ratio_add_d : Stmt := inClass (top 9) 6
abbrev s_Ratio_sub_d : Stmt := inClass (top 9) 8
abbrev s_Ratio_eq_d : Stmt := inClass (top 9) 17
abbrev s_Ratio_ne_d : Stmt := inClass (top 9) 18
abbrev s_Ratio_lt_d : Stmt := inClass (top 9) 19
abbrev s_Ratio_le_d : Stmt := inClass (top 9) 20
abbrev s_Ratio_ge_d : Stmt := inClass (top 9) 22
abbrev s_Ratio_str_d : Stmt := inClass (top 9) 23
abbrev s_is_number : Stmt := top 10
abbrev s_lead : Stmt := top 12
abbrev s_in_order : Stmt := top 14
abbrev s_sorted_by : Stmt := top 15
abbrev s_scale_of : Stmt := top 16
abbrev s_scaled : Stmt := top 17
abbrev s_blocks_of : Stmt := top 18
abbrev s_joined : Stmt := top 19
abbrev s_touch : Stmt := top 20
abbrev s_held : Stmt := top 21
abbrev s_run_together : Stmt := top 22
abbrev s_Pool_init_d : Stmt := inClass (top 24) 0
abbrev s_Pool_middle : Stmt := inClass (top 24) 2
abbrev s_Pool_volume : Stmt := inClass (top 24) 3
abbrev s_Pool_left : Stmt := inClass (top 24) 4
abbrev s_Pool_right : Stmt := inClass (top 24) 5
abbrev s_Pool_eq_d : Stmt := inClass (top 24) 10
abbrev s_Water_init_d : Stmt := inClass (top 27) 0
abbrev s_Water_settled : Stmt := inClass (top 27) 1
abbrev s_Water_getitem_d : Stmt := inClass (top 27) 9
abbrev s_Water_len_d : Stmt := inClass (top 27) 11
abbrev s_Water_eq_d : Stmt := inClass (top 27) 15
abbrev s_Water_le_d : Stmt := inClass (top 27) 16
abbrev s_Water_lt_d : Stmt := inClass (top 27) 17
abbrev s_Water_ge_d : Stmt := inClass (top 27) 18
abbrev s_Water_gt_d : Stmt := inClass (top 27) 19
abbrev s_Water_str_d : Stmt := inClass (top 27) 23
abbrev s_settled_pools : Stmt := top 28
abbrev s_lie_within : Stmt := top 30
abbrev s_row_of : Stmt := top 31
abbrev s_lw_box : Stmt := top 33
abbrev s_lw_take : Stmt := top 34
abbrev s_lw_scene : Stmt := top 35
abbrev s_lw_number : Stmt := top 36
abbrev s_lw_is : Stmt := top 37
abbrev s_lw_ordered : Stmt := top 38
abbrev s_lw_touch : Stmt := top 39
abbrev s_lw_pools : Stmt := top 40
abbrev s_lw_water : Stmt := top 41
abbrev s_lw_neighbours : Stmt := top 42
abbrev s_lw_says : Stmt := top 43
abbrev s_lw_is_water : Stmt := top 44
abbrev s_lw_inside : Stmt := top 45
abbrev s_lw_equal : Stmt := top 46
abbrev s_lw_compared : Stmt := top 47
abbrev s_lw_many_compared : Stmt := top 48
abbrev s_law : Stmt := top 49
theorem sc_InvalidNumber_init_d : FnScope ["self", "value"] ["self", "value"] (defScope s_InvalidNumber_init_d) := ⟨rfl, rfl, rfl, by decide +kernel, rfl, by decide +kernel, by decide +kernel⟩
theorem sc_Touching_init_d : FnScope ["self", "index"] ["self", "index"] (defScope s_Touching_init_d) := ⟨rfl, rfl, rfl, by decide +kernel, rfl, by decide +kernel, by decide +kernel⟩
theorem sc_Ratio_init_d : FnScope ["self", "top", "bottom", "shared"] ["self", "top", "bottom"] (defScope s_Ratio_init_d) := ⟨rfl, rfl, rfl, by decide +kernel, rfl, by decide +kernel, by decide +kernel⟩
theorem sc_Ratio_of : FnScope ["cls", "value"] ["cls", "value"] (defScope s_Ratio_of) := ⟨rfl, rfl, rfl, by decide +kernel, rfl, by decide +kernel, by decide +kernel⟩
theorem sc_Ratio_over : FnScope ["self", "other", "divisor"] ["self", "other"] (defScope s_Ratio_over) := ⟨rfl, rfl, rfl, by decide +kernel, rfl, by decide +kernel, by decide +kernel⟩
theorem sc_Ratio_add_d : FnScope ["self", "other", "number"] ["self", "other"] (defScope s_Ratio_add_d) := ⟨rfl, rfl, rfl, by decide +kernel, rfl, by decide +kernel, by decide +kernel⟩
theorem sc_Ratio_sub_d : FnScope ["self", "other", "number"] ["self", "other"] (defScope s_Ratio_sub_d) := ⟨rfl, rfl, rfl, by decide +kernel, rfl, by decide +kernel, by decide +kernel⟩
theorem sc_Ratio_eq_d : FnScope ["self", "other"] ["self", "other"] (defScope s_Ratio_eq_d) := ⟨rfl, rfl, rfl, by decide +kernel, rfl, by decide +kernel, by decide +kernel⟩
theorem sc_Ratio_ne_d : FnScope ["self", "other"] ["self", "other"] (defScope s_Ratio_ne_d) := ⟨rfl, rfl, rfl, by decide +kernel, rfl, by decide +kernel, by decide +kernel⟩
theorem sc_Ratio_lt_d : FnScope ["self", "other"] ["self", "other"] (defScope s_Ratio_lt_d) := ⟨rfl, rfl, rfl, by decide +kernel, rfl, by decide +kernel, by decide +kernel⟩
theorem sc_Ratio_le_d : FnScope ["self", "other"] ["self", "other"] (defScope s_Ratio_le_d) := ⟨rfl, rfl, rfl, by decide +kernel, rfl, by decide +kernel, by decide +kernel⟩
theorem sc_Ratio_ge_d : FnScope ["self", "other"] ["self", "other"] (defScope s_Ratio_ge_d) := ⟨rfl, rfl, rfl, by decide +kernel, rfl, by decide +kernel, by decide +kernel⟩
theorem sc_Ratio_str_d : FnScope ["self"] ["self"] (defScope s_Ratio_str_d) := ⟨rfl, rfl, rfl, by decide +kernel, rfl, by decide +kernel, by decide +kernel⟩
theorem sc_is_number : FnScope ["value"] ["value"] (defScope s_is_number) := ⟨rfl, rfl, rfl, by decide +kernel, rfl, by decide +kernel, by decide +kernel⟩
theorem sc_lead : FnScope ["one", "other"] ["one", "other"] (defScope s_lead) := ⟨rfl, rfl, rfl, by decide +kernel, rfl, by decide +kernel, by decide +kernel⟩
theorem sc_in_order : FnScope ["pairs", "scale", "rows", "_", "second", "first"] ["pairs"] (defScope s_in_order) := ⟨rfl, rfl, rfl, by decide +kernel, rfl, by decide +kernel, by decide +kernel⟩
theorem sc_sorted_by : FnScope ["levels", "items", "many", "ranks", "at", "level", "rank"] ["levels", "items"] (defScope s_sorted_by) := ⟨rfl, rfl, rfl, by decide +kernel, rfl, by decide +kernel, by decide +kernel⟩
theorem sc_scale_of : FnScope ["pairs", "scale", "one", "other"] ["pairs"] (defScope s_scale_of) := ⟨rfl, rfl, rfl, by decide +kernel, rfl, by decide +kernel, by decide +kernel⟩
theorem sc_scaled : FnScope ["ratio", "scale"] ["ratio", "scale"] (defScope s_scaled) := ⟨rfl, rfl, rfl, by decide +kernel, rfl, by decide +kernel, by decide +kernel⟩
theorem sc_blocks_of : FnScope ["pairs", "scale", "found", "at", "middle", "volume", "amount"] ["pairs", "scale"] (defScope s_blocks_of) := ⟨rfl, rfl, rfl, by decide +kernel, rfl, by decide +kernel, by decide +kernel⟩
theorem sc_joined : FnScope ["one", "other", "first", "_", "volume", "pull", "last", "more", "further"] ["one", "other"] (defScope s_joined) := ⟨rfl, rfl, rfl, by decide +kernel, rfl, by decide +kernel, by decide +kernel⟩
theorem sc_touch : FnScope ["one", "other", "_", "volume", "pull", "more", "further"] ["one", "other"] (defScope s_touch) := ⟨rfl, rfl, rfl, by decide +kernel, rfl, by decide +kernel, by decide +kernel⟩
theorem sc_held : FnScope ["block", "walls", "first", "last", "volume", "pull", "low", "high", "least", "most"] ["block", "walls"] (defScope s_held) := ⟨rfl, rfl, rfl, by decide +kernel, rfl, by decide +kernel, by decide +kernel⟩
theorem sc_run_together : FnScope ["blocks", "walls", "standing", "block", "fallen"] ["blocks", "walls"] (defScope s_run_together) := ⟨rfl, rfl, rfl, by decide +kernel, rfl, by decide +kernel, by decide +kernel⟩
theorem sc_Pool_init_d : FnScope ["self", "middle", "volume", "amount", "half"] ["self", "middle", "volume"] (defScope s_Pool_init_d) := ⟨rfl, rfl, rfl, by decide +kernel, rfl, by decide +kernel, by decide +kernel⟩
theorem sc_Pool_middle : FnScope ["self"] ["self"] (defScope s_Pool_middle) := ⟨rfl, rfl, rfl, by decide +kernel, rfl, by decide +kernel, by decide +kernel⟩
theorem sc_Pool_volume : FnScope ["self"] ["self"] (defScope s_Pool_volume) := ⟨rfl, rfl, rfl, by decide +kernel, rfl, by decide +kernel, by decide +kernel⟩
theorem sc_Pool_left : FnScope ["self"] ["self"] (defScope s_Pool_left) := ⟨rfl, rfl, rfl, by decide +kernel, rfl, by decide +kernel, by decide +kernel⟩
theorem sc_Pool_right : FnScope ["self"] ["self"] (defScope s_Pool_right) := ⟨rfl, rfl, rfl, by decide +kernel, rfl, by decide +kernel, by decide +kernel⟩
theorem sc_Pool_eq_d : FnScope ["self", "other"] ["self", "other"] (defScope s_Pool_eq_d) := ⟨rfl, rfl, rfl, by decide +kernel, rfl, by decide +kernel, by decide +kernel⟩
theorem sc_Water_init_d : FnScope ["self", "pools", "at"] ["self", "pools"] (defScope s_Water_init_d) := ⟨rfl, rfl, rfl, by decide +kernel, rfl, by decide +kernel, by decide +kernel⟩
theorem sc_Water_settled : FnScope ["cls", "pools", "pool"] ["cls", "pools"] (defScope s_Water_settled) := ⟨rfl, rfl, rfl, by decide +kernel, rfl, by decide +kernel, by decide +kernel⟩
theorem sc_Water_getitem_d : FnScope ["self", "at"] ["self", "at"] (defScope s_Water_getitem_d) := ⟨rfl, rfl, rfl, by decide +kernel, rfl, by decide +kernel, by decide +kernel⟩
theorem sc_Water_len_d : FnScope ["self"] ["self"] (defScope s_Water_len_d) := ⟨rfl, rfl, rfl, by decide +kernel, rfl, by decide +kernel, by decide +kernel⟩
theorem sc_Water_eq_d : FnScope ["self", "other"] ["self", "other"] (defScope s_Water_eq_d) := ⟨rfl, rfl, rfl, by decide +kernel, rfl, by decide +kernel, by decide +kernel⟩
theorem sc_Water_le_d : FnScope ["self", "other"] ["self", "other"] (defScope s_Water_le_d) := ⟨rfl, rfl, rfl, by decide +kernel, rfl, by decide +kernel, by decide +kernel⟩
theorem sc_Water_lt_d : FnScope ["self", "other"] ["self", "other"] (defScope s_Water_lt_d) := ⟨rfl, rfl, rfl, by decide +kernel, rfl, by decide +kernel, by decide +kernel⟩
theorem sc_Water_ge_d : FnScope ["self", "other"] ["self", "other"] (defScope s_Water_ge_d) := ⟨rfl, rfl, rfl, by decide +kernel, rfl, by decide +kernel, by decide +kernel⟩
theorem sc_Water_gt_d : FnScope ["self", "other"] ["self", "other"] (defScope s_Water_gt_d) := ⟨rfl, rfl, rfl, by decide +kernel, rfl, by decide +kernel, by decide +kernel⟩
theorem sc_Water_str_d : FnScope ["self", "pool"] ["self"] (defScope s_Water_str_d) := ⟨rfl, rfl, rfl, by decide +kernel, rfl, by decide +kernel, by decide +kernel⟩
theorem sc_settled_pools : FnScope ["pairs", "scale", "blocks", "_", "volume", "pull"] ["pairs"] (defScope s_settled_pools) := ⟨rfl, rfl, rfl, by decide +kernel, rfl, by decide +kernel, by decide +kernel⟩
theorem sc_lie_within : FnScope ["pools", "others", "at", "pool"] ["pools", "others"] (defScope s_lie_within) := ⟨rfl, rfl, rfl, by decide +kernel, rfl, by decide +kernel, by decide +kernel⟩
theorem sc_row_of : FnScope ["pool", "number"] ["pool"] (defScope s_row_of) := ⟨rfl, rfl, rfl, by decide +kernel, rfl, by decide +kernel, by decide +kernel⟩
theorem sc_lw_box : FnScope ["_law_script", "_law_k", "_law_cell", "_law_seed"] ["_law_script", "_law_k"] (defScope s_lw_box) := ⟨rfl, rfl, rfl, by decide +kernel, rfl, by decide +kernel, by decide +kernel⟩
theorem sc_lw_take : FnScope ["_law_box_here", "_law_many", "_law_digit", "_law_first", "_law_mixed"] ["_law_box_here", "_law_many"] (defScope s_lw_take) := ⟨rfl, rfl, rfl, by decide +kernel, rfl, by decide +kernel, by decide +kernel⟩
theorem sc_lw_scene : FnScope ["_law_box_here", "_law_most", "_law_unit", "_law_many", "_law_found", "_law_wide", "_law_turn", "_law_volume", "_law_form", "_law_spot", "_law_last", "_law_amount", "_law_half"] ["_law_box_here", "_law_most"] (defScope s_lw_scene) := ⟨rfl, rfl, rfl, by decide +kernel, rfl, by decide +kernel, by decide +kernel⟩
theorem sc_lw_number : FnScope ["_law_box_here", "_law_top", "_law_unit"] ["_law_box_here", "_law_top", "_law_unit"] (defScope s_lw_number) := ⟨rfl, rfl, rfl, by decide +kernel, rfl, by decide +kernel, by decide +kernel⟩
theorem sc_lw_is : FnScope ["_law_found", "_law_top", "_law_bottom"] ["_law_found", "_law_top", "_law_bottom"] (defScope s_lw_is) := ⟨rfl, rfl, rfl, by decide +kernel, rfl, by decide +kernel, by decide +kernel⟩
theorem sc_lw_ordered : FnScope ["_law_drops", "_law_found", "_law_drop", "_law_at", "_law_one"] ["_law_drops"] (defScope s_lw_ordered) := ⟨rfl, rfl, rfl, by decide +kernel, rfl, by decide +kernel, by decide +kernel⟩
theorem sc_lw_touch : FnScope ["_law_one", "_law_other", "_law_between"] ["_law_one", "_law_other"] (defScope s_lw_touch) := ⟨rfl, rfl, rfl, by decide +kernel, rfl, by decide +kernel, by decide +kernel⟩
theorem sc_lw_pools : FnScope ["_law_drops", "_law_found", "_law_at", "_law_spot", "_law_volume", "_law_pool", "_law_last"] ["_law_drops"] (defScope s_lw_pools) := ⟨rfl, rfl, rfl, by decide +kernel, rfl, by decide +kernel, by decide +kernel⟩
theorem sc_lw_water : FnScope ["_law_box_here", "_law_unit", "_law_drops", "_law_some", "_law_drop"] ["_law_box_here", "_law_unit", "_law_drops"] (defScope s_lw_water) := ⟨rfl, rfl, rfl, by decide +kernel, rfl, by decide +kernel, by decide +kernel⟩
theorem sc_lw_neighbours : FnScope ["_law_drops", "_law_pool"] ["_law_drops"] (defScope s_lw_neighbours) := ⟨rfl, rfl, rfl, by decide +kernel, rfl, by decide +kernel, by decide +kernel⟩
theorem sc_lw_says : FnScope ["_law_found", "_law_due"] ["_law_found", "_law_due"] (defScope s_lw_says) := ⟨rfl, rfl, rfl, by decide +kernel, rfl, by decide +kernel, by decide +kernel⟩
theorem sc_lw_is_water : FnScope ["_law_found", "_law_unit", "_law_dues", "_law_at", "_law_moment", "_law_volume"] ["_law_found", "_law_unit", "_law_dues"] (defScope s_lw_is_water) := ⟨rfl, rfl, rfl, by decide +kernel, rfl, by decide +kernel, by decide +kernel⟩
theorem sc_lw_inside : FnScope ["_law_one", "_law_other", "_law_moment", "_law_volume", "_law_some", "_law_middle", "_law_wide", "_law_far"] ["_law_one", "_law_other"] (defScope s_lw_inside) := ⟨rfl, rfl, rfl, by decide +kernel, rfl, by decide +kernel, by decide +kernel⟩
theorem sc_lw_equal : FnScope ["_law_one", "_law_other", "_law_moment", "_law_volume", "_law_middle", "_law_wide"] ["_law_one", "_law_other"] (defScope s_lw_equal) := ⟨rfl, rfl, rfl, by decide +kernel, rfl, by decide +kernel, by decide +kernel⟩
theorem sc_lw_compared : FnScope ["_law_one", "_law_other", "_law_mine", "_law_its", "_law_inside_here", "_law_around", "_law_equal_here"] ["_law_one", "_law_other", "_law_mine", "_law_its"] (defScope s_lw_compared) := ⟨rfl, rfl, rfl, by decide +kernel, rfl, by decide +kernel, by decide +kernel⟩
theorem sc_lw_many_compared : FnScope ["_law_box_here", "_law_many", "_law_at", "_law_drops", "_law_place", "_law_spot", "_law_volume", "_law_near", "_law_others", "_law_one", "_law_other"] ["_law_box_here"] (defScope s_lw_many_compared) := ⟨rfl, rfl, rfl, by decide +kernel, rfl, by decide +kernel, by decide +kernel⟩
theorem sc_law : FnScope ["_law_script", "_law_k", "_law_box_here", "_law_unit", "_law_drops", "_law_more", "_law_turn", "_law_moved", "_law_drop", "_law_some", "_law_waters", "_law_one", "_law_lists", "_law_mine", "_law_other", "_law_its"] ["_law_script"] (defScope s_law) := ⟨rfl, rfl, rfl, by decide +kernel, rfl, by decide +kernel, by decide +kernel⟩
/-- what the top has written -/
structure Txt (K : PySem.W.Frag) (mg : Str → Option Value) where
  b_len : mg "len" = none
  b_range : mg "range" = none
  b_int : mg "int" = none
  b_str : mg "str" = none
  b_bool : mg "bool" = none
  b_abs : mg "abs" = none
  b_isinstance : mg "isinstance" = none
  b_max : mg "max" = none
  b_min : mg "min" = none
  b_tuple : mg "tuple" = none
  b_sum : mg "sum" = none
  b_zip : mg "zip" = none
  b_enumerate : mg "enumerate" = none
  b_sorted : mg "sorted" = none
  g_gcd : mg "gcd" = some (.builtin "math.gcd")
  g_lcm : mg "lcm" = some (.builtin "math.lcm")
  k_COLUMNS : ∃ t : Tok, mg "COLUMNS" = some (.int 12 t)
  C_PoolError : Addr
  g_PoolError : mg "PoolError" = some (.ref C_PoolError)
  ox_PoolError : OexC K C_PoolError
  xf_PoolError : XfC K C_PoolError
  ic_PoolError : PySem.W.isClsIn K C_PoolError = true
  ss_PoolError : PySem.W.subIn K (.ref C_PoolError) (.ref C_PoolError) = some true
  C_InvalidNumber : Addr
  g_InvalidNumber : mg "InvalidNumber" = some (.ref C_InvalidNumber)
  ox_InvalidNumber : OexC K C_InvalidNumber
  xf_InvalidNumber : XfC K C_InvalidNumber
  ic_InvalidNumber : PySem.W.isClsIn K C_InvalidNumber = true
  ss_InvalidNumber : PySem.W.subIn K (.ref C_InvalidNumber) (.ref C_InvalidNumber) = some true
  n_InvalidNumber_value : PySem.W.findIn K (.ref C_InvalidNumber) "value" = some none
  C_Touching : Addr
  g_Touching : mg "Touching" = some (.ref C_Touching)
  ox_Touching : OexC K C_Touching
  xf_Touching : XfC K C_Touching
  ic_Touching : PySem.W.isClsIn K C_Touching = true
  ss_Touching : PySem.W.subIn K (.ref C_Touching) (.ref C_Touching) = some true
  n_Touching_index : PySem.W.findIn K (.ref C_Touching) "index" = some none
  ec_Touching : ExcC K C_Touching
  C_Ratio : Addr
  g_Ratio : mg "Ratio" = some (.ref C_Ratio)
  cl_Ratio : Cls K C_Ratio
  tc_Ratio : TyC K C_Ratio
  rd_Ratio : ClX.CRead K C_Ratio (.type "type")
  mk_Ratio : PySem.W.makesIn K C_Ratio = true
  kp_Ratio : PySem.W.keepIn K (.ref C_Ratio) = true
  sf_Ratio : PySem.W.selfFirst K C_Ratio = true
  mr_Ratio : ∃ cd, PySem.W.clsIn K C_Ratio = some cd ∧ cd.mro = [.ref C_Ratio, .type "object"]
  st_Ratio_int : PySem.W.subIn K (.type "int") (.ref C_Ratio) = some false
  st_Ratio_bool : PySem.W.subIn K (.type "bool") (.ref C_Ratio) = some false
  st_Ratio_str : PySem.W.subIn K (.type "str") (.ref C_Ratio) = some false
  st_Ratio_NoneType : PySem.W.subIn K (.type "NoneType") (.ref C_Ratio) = some false
  st_Ratio_tuple : PySem.W.subIn K (.type "tuple") (.ref C_Ratio) = some false
  su_Ratio_int : PySem.W.subIn K (.ref C_Ratio) (.type "int") = some false
  su_Ratio_bool : PySem.W.subIn K (.ref C_Ratio) (.type "bool") = some false
  su_Ratio_tuple : PySem.W.subIn K (.ref C_Ratio) (.type "tuple") = some false
  su_Ratio_str : PySem.W.subIn K (.ref C_Ratio) (.type "str") = some false
  su_Ratio_NoneType : PySem.W.subIn K (.ref C_Ratio) (.type "NoneType") = some false
  n_Ratio_top : NoAttr K C_Ratio "top"
  n_Ratio_bottom : NoAttr K C_Ratio "bottom"
  fm_Ratio : PySem.W.findIn K (.ref C_Ratio) "__format__" = some (some (.builtin "object.__format__"))
  C_Pool : Addr
  g_Pool : mg "Pool" = some (.ref C_Pool)
  cl_Pool : Cls K C_Pool
  tc_Pool : TyC K C_Pool
  rd_Pool : ClX.CRead K C_Pool (.type "type")
  mk_Pool : PySem.W.makesIn K C_Pool = true
  kp_Pool : PySem.W.keepIn K (.ref C_Pool) = true
  sf_Pool : PySem.W.selfFirst K C_Pool = true
  mr_Pool : ∃ cd, PySem.W.clsIn K C_Pool = some cd ∧ cd.mro = [.ref C_Pool, .type "object"]
  st_Pool_int : PySem.W.subIn K (.type "int") (.ref C_Pool) = some false
  st_Pool_bool : PySem.W.subIn K (.type "bool") (.ref C_Pool) = some false
  st_Pool_str : PySem.W.subIn K (.type "str") (.ref C_Pool) = some false
  st_Pool_NoneType : PySem.W.subIn K (.type "NoneType") (.ref C_Pool) = some false
  st_Pool_tuple : PySem.W.subIn K (.type "tuple") (.ref C_Pool) = some false
  su_Pool_int : PySem.W.subIn K (.ref C_Pool) (.type "int") = some false
  su_Pool_bool : PySem.W.subIn K (.ref C_Pool) (.type "bool") = some false
  su_Pool_tuple : PySem.W.subIn K (.ref C_Pool) (.type "tuple") = some false
  su_Pool_str : PySem.W.subIn K (.ref C_Pool) (.type "str") = some false
  su_Pool_NoneType : PySem.W.subIn K (.ref C_Pool) (.type "NoneType") = some false
  n_Pool__middle : NoAttr K C_Pool "_middle"
  n_Pool__volume : NoAttr K C_Pool "_volume"
  n_Pool__left : NoAttr K C_Pool "_left"
  n_Pool__right : NoAttr K C_Pool "_right"
  C_Water : Addr
  g_Water : mg "Water" = some (.ref C_Water)
  cl_Water : Cls K C_Water
  tc_Water : TyC K C_Water
  rd_Water : ClX.CRead K C_Water (.type "type")
  mk_Water : PySem.W.makesIn K C_Water = true
  kp_Water : PySem.W.keepIn K (.ref C_Water) = true
  sf_Water : PySem.W.selfFirst K C_Water = true
  mr_Water : ∃ cd, PySem.W.clsIn K C_Water = some cd ∧ cd.mro = [.ref C_Water, .type "object"]
  st_Water_int : PySem.W.subIn K (.type "int") (.ref C_Water) = some false
  st_Water_bool : PySem.W.subIn K (.type "bool") (.ref C_Water) = some false
  st_Water_str : PySem.W.subIn K (.type "str") (.ref C_Water) = some false
  st_Water_NoneType : PySem.W.subIn K (.type "NoneType") (.ref C_Water) = some false
  st_Water_tuple : PySem.W.subIn K (.type "tuple") (.ref C_Water) = some false
  su_Water_int : PySem.W.subIn K (.ref C_Water) (.type "int") = some false
  su_Water_bool : PySem.W.subIn K (.ref C_Water) (.type "bool") = some false
  su_Water_tuple : PySem.W.subIn K (.ref C_Water) (.type "tuple") = some false
  su_Water_str : PySem.W.subIn K (.ref C_Water) (.type "str") = some false
  su_Water_NoneType : PySem.W.subIn K (.ref C_Water) (.type "NoneType") = some false
  n_Water__pools : NoAttr K C_Water "_pools"
  ne_Water : PySem.W.findIn K (.ref C_Water) "__ne__" = some (some (.builtin "object.__ne__"))
  sx_Touching_PoolError : PySem.W.subIn K (.ref C_Touching) (.ref C_PoolError) = some true
  sx_Touching_InvalidNumber : PySem.W.subIn K (.ref C_Touching) (.ref C_InvalidNumber) = some false
  e_empty : Addr
  sq_empty : ∃ (o : Obj) (n : Nat), K.lookup e_empty = some o ∧ o.cls = .type "tuple" ∧ o.data = .seq #[] n
  f_InvalidNumber_init_d : Addr
  d_InvalidNumber_init_d : FuncData
  F_InvalidNumber_init_d : Fun K "__init__" "InvalidNumber.__init__" s_InvalidNumber_init_d f_InvalidNumber_init_d d_InvalidNumber_init_d
  B_InvalidNumber_init_d : Binds K d_InvalidNumber_init_d ["self", "value"] []
  m_InvalidNumber_init_d : Spc K C_InvalidNumber "__init__" f_InvalidNumber_init_d
  t_InvalidNumber_init_d : PySem.W.typeIn K (.ref f_InvalidNumber_init_d) = some (.type "function")
  f_Touching_init_d : Addr
  d_Touching_init_d : FuncData
  F_Touching_init_d : Fun K "__init__" "Touching.__init__" s_Touching_init_d f_Touching_init_d d_Touching_init_d
  B_Touching_init_d : Binds K d_Touching_init_d ["self", "index"] []
  m_Touching_init_d : Spc K C_Touching "__init__" f_Touching_init_d
  t_Touching_init_d : PySem.W.typeIn K (.ref f_Touching_init_d) = some (.type "function")
  f_Ratio_init_d : Addr
  d_Ratio_init_d : FuncData
  F_Ratio_init_d : FunD K "__init__" "Ratio.__init__" (defArgs s_Ratio_init_d) (defBody s_Ratio_init_d) (defScope s_Ratio_init_d) [V.int 1] [] f_Ratio_init_d d_Ratio_init_d
  m_Ratio_init_d : Spc K C_Ratio "__init__" f_Ratio_init_d
  f_Ratio_of : Addr
  d_Ratio_of : FuncData
  F_Ratio_of : Fun K "of" "Ratio.of" s_Ratio_of f_Ratio_of d_Ratio_of
  B_Ratio_of : Binds K d_Ratio_of ["cls", "value"] []
  p_Ratio_of : Addr
  cm_Ratio_of : ClX.CMet K C_Ratio (.type "type") "of" p_Ratio_of f_Ratio_of
  f_Ratio_over : Addr
  d_Ratio_over : FuncData
  F_Ratio_over : Fun K "over" "Ratio.over" s_Ratio_over f_Ratio_over d_Ratio_over
  B_Ratio_over : Binds K d_Ratio_over ["self", "other"] []
  m_Ratio_over : Spc K C_Ratio "over" f_Ratio_over
  me_Ratio_over : Meth K C_Ratio "over" f_Ratio_over
  f_Ratio_add_d : Addr
  d_Ratio_add_d : FuncData
  F_Ratio_add_d : Fun K "__add__" "Ratio.__add__" s_Ratio_add_d f_Ratio_add_d d_Ratio_add_d
  B_Ratio_add_d : Binds K d_Ratio_add_d ["self", "other"] []
  m_Ratio_add_d : Spc K C_Ratio "__add__" f_Ratio_add_d
  bn_Ratio_add_d : Bin K C_Ratio "add" f_Ratio_add_d
  ni_Ratio_add_d : NoIn K C_Ratio "add"
  f_Ratio_sub_d : Addr
  d_Ratio_sub_d : FuncData
  F_Ratio_sub_d : Fun K "__sub__" "Ratio.__sub__" s_Ratio_sub_d f_Ratio_sub_d d_Ratio_sub_d
  B_Ratio_sub_d : Binds K d_Ratio_sub_d ["self", "other"] []
  m_Ratio_sub_d : Spc K C_Ratio "__sub__" f_Ratio_sub_d
  bn_Ratio_sub_d : Bin K C_Ratio "sub" f_Ratio_sub_d
  ni_Ratio_sub_d : NoIn K C_Ratio "sub"
  f_Ratio_eq_d : Addr
  d_Ratio_eq_d : FuncData
  F_Ratio_eq_d : Fun K "__eq__" "Ratio.__eq__" s_Ratio_eq_d f_Ratio_eq_d d_Ratio_eq_d
  B_Ratio_eq_d : Binds K d_Ratio_eq_d ["self", "other"] []
  m_Ratio_eq_d : Spc K C_Ratio "__eq__" f_Ratio_eq_d
  f_Ratio_ne_d : Addr
  d_Ratio_ne_d : FuncData
  F_Ratio_ne_d : Fun K "__ne__" "Ratio.__ne__" s_Ratio_ne_d f_Ratio_ne_d d_Ratio_ne_d
  B_Ratio_ne_d : Binds K d_Ratio_ne_d ["self", "other"] []
  m_Ratio_ne_d : Spc K C_Ratio "__ne__" f_Ratio_ne_d
  f_Ratio_lt_d : Addr
  d_Ratio_lt_d : FuncData
  F_Ratio_lt_d : Fun K "__lt__" "Ratio.__lt__" s_Ratio_lt_d f_Ratio_lt_d d_Ratio_lt_d
  B_Ratio_lt_d : Binds K d_Ratio_lt_d ["self", "other"] []
  m_Ratio_lt_d : Spc K C_Ratio "__lt__" f_Ratio_lt_d
  f_Ratio_le_d : Addr
  d_Ratio_le_d : FuncData
  F_Ratio_le_d : Fun K "__le__" "Ratio.__le__" s_Ratio_le_d f_Ratio_le_d d_Ratio_le_d
  B_Ratio_le_d : Binds K d_Ratio_le_d ["self", "other"] []
  m_Ratio_le_d : Spc K C_Ratio "__le__" f_Ratio_le_d
  f_Ratio_ge_d : Addr
  d_Ratio_ge_d : FuncData
  F_Ratio_ge_d : Fun K "__ge__" "Ratio.__ge__" s_Ratio_ge_d f_Ratio_ge_d d_Ratio_ge_d
  B_Ratio_ge_d : Binds K d_Ratio_ge_d ["self", "other"] []
  m_Ratio_ge_d : Spc K C_Ratio "__ge__" f_Ratio_ge_d
  f_Ratio_str_d : Addr
  d_Ratio_str_d : FuncData
  F_Ratio_str_d : Fun K "__str__" "Ratio.__str__" s_Ratio_str_d f_Ratio_str_d d_Ratio_str_d
  B_Ratio_str_d : Binds K d_Ratio_str_d ["self"] []
  m_Ratio_str_d : Spc K C_Ratio "__str__" f_Ratio_str_d
  f_is_number : Addr
  d_is_number : FuncData
  F_is_number : Fun K "is_number" "is_number" s_is_number f_is_number d_is_number
  B_is_number : Binds K d_is_number ["value"] []
  g_is_number : mg "is_number" = some (.ref f_is_number)
  f_lead : Addr
  d_lead : FuncData
  F_lead : Fun K "lead" "lead" s_lead f_lead d_lead
  B_lead : Binds K d_lead ["one", "other"] []
  g_lead : mg "lead" = some (.ref f_lead)
  f_in_order : Addr
  d_in_order : FuncData
  F_in_order : Fun K "in_order" "in_order" s_in_order f_in_order d_in_order
  B_in_order : Binds K d_in_order ["pairs"] []
  g_in_order : mg "in_order" = some (.ref f_in_order)
  f_sorted_by : Addr
  d_sorted_by : FuncData
  F_sorted_by : Fun K "sorted_by" "sorted_by" s_sorted_by f_sorted_by d_sorted_by
  B_sorted_by : Binds K d_sorted_by ["levels", "items"] []
  g_sorted_by : mg "sorted_by" = some (.ref f_sorted_by)
  f_scale_of : Addr
  d_scale_of : FuncData
  F_scale_of : Fun K "scale_of" "scale_of" s_scale_of f_scale_of d_scale_of
  B_scale_of : Binds K d_scale_of ["pairs"] []
  g_scale_of : mg "scale_of" = some (.ref f_scale_of)
  f_scaled : Addr
  d_scaled : FuncData
  F_scaled : Fun K "scaled" "scaled" s_scaled f_scaled d_scaled
  B_scaled : Binds K d_scaled ["ratio", "scale"] []
  g_scaled : mg "scaled" = some (.ref f_scaled)
  f_blocks_of : Addr
  d_blocks_of : FuncData
  F_blocks_of : Fun K "blocks_of" "blocks_of" s_blocks_of f_blocks_of d_blocks_of
  B_blocks_of : Binds K d_blocks_of ["pairs", "scale"] []
  g_blocks_of : mg "blocks_of" = some (.ref f_blocks_of)
  f_joined : Addr
  d_joined : FuncData
  F_joined : Fun K "joined" "joined" s_joined f_joined d_joined
  B_joined : Binds K d_joined ["one", "other"] []
  g_joined : mg "joined" = some (.ref f_joined)
  f_touch : Addr
  d_touch : FuncData
  F_touch : Fun K "touch" "touch" s_touch f_touch d_touch
  B_touch : Binds K d_touch ["one", "other"] []
  g_touch : mg "touch" = some (.ref f_touch)
  f_held : Addr
  d_held : FuncData
  F_held : Fun K "held" "held" s_held f_held d_held
  B_held : Binds K d_held ["block", "walls"] []
  g_held : mg "held" = some (.ref f_held)
  f_run_together : Addr
  d_run_together : FuncData
  F_run_together : FunD K "run_together" "run_together" (defArgs s_run_together) (defBody s_run_together) (defScope s_run_together) [V.non] [] f_run_together d_run_together
  g_run_together : mg "run_together" = some (.ref f_run_together)
  f_Pool_init_d : Addr
  d_Pool_init_d : FuncData
  F_Pool_init_d : Fun K "__init__" "Pool.__init__" s_Pool_init_d f_Pool_init_d d_Pool_init_d
  B_Pool_init_d : Binds K d_Pool_init_d ["self", "middle", "volume"] []
  m_Pool_init_d : Spc K C_Pool "__init__" f_Pool_init_d
  f_Pool_middle : Addr
  d_Pool_middle : FuncData
  F_Pool_middle : Fun K "middle" "Pool.middle" s_Pool_middle f_Pool_middle d_Pool_middle
  B_Pool_middle : Binds K d_Pool_middle ["self"] []
  p_Pool_middle : Addr
  pr_Pool_middle : PropOf K C_Pool "middle" p_Pool_middle f_Pool_middle
  f_Pool_volume : Addr
  d_Pool_volume : FuncData
  F_Pool_volume : Fun K "volume" "Pool.volume" s_Pool_volume f_Pool_volume d_Pool_volume
  B_Pool_volume : Binds K d_Pool_volume ["self"] []
  p_Pool_volume : Addr
  pr_Pool_volume : PropOf K C_Pool "volume" p_Pool_volume f_Pool_volume
  f_Pool_left : Addr
  d_Pool_left : FuncData
  F_Pool_left : Fun K "left" "Pool.left" s_Pool_left f_Pool_left d_Pool_left
  B_Pool_left : Binds K d_Pool_left ["self"] []
  p_Pool_left : Addr
  pr_Pool_left : PropOf K C_Pool "left" p_Pool_left f_Pool_left
  f_Pool_right : Addr
  d_Pool_right : FuncData
  F_Pool_right : Fun K "right" "Pool.right" s_Pool_right f_Pool_right d_Pool_right
  B_Pool_right : Binds K d_Pool_right ["self"] []
  p_Pool_right : Addr
  pr_Pool_right : PropOf K C_Pool "right" p_Pool_right f_Pool_right
  f_Pool_eq_d : Addr
  d_Pool_eq_d : FuncData
  F_Pool_eq_d : Fun K "__eq__" "Pool.__eq__" s_Pool_eq_d f_Pool_eq_d d_Pool_eq_d
  B_Pool_eq_d : Binds K d_Pool_eq_d ["self", "other"] []
  m_Pool_eq_d : Spc K C_Pool "__eq__" f_Pool_eq_d
  f_Water_init_d : Addr
  d_Water_init_d : FuncData
  F_Water_init_d : FunD K "__init__" "Water.__init__" (defArgs s_Water_init_d) (defBody s_Water_init_d) (defScope s_Water_init_d) [V.ref e_empty] [] f_Water_init_d d_Water_init_d
  m_Water_init_d : Spc K C_Water "__init__" f_Water_init_d
  f_Water_settled : Addr
  d_Water_settled : FuncData
  F_Water_settled : Fun K "settled" "Water.settled" s_Water_settled f_Water_settled d_Water_settled
  B_Water_settled : Binds K d_Water_settled ["cls", "pools"] []
  p_Water_settled : Addr
  cm_Water_settled : ClX.CMet K C_Water (.type "type") "settled" p_Water_settled f_Water_settled
  f_Water_getitem_d : Addr
  d_Water_getitem_d : FuncData
  F_Water_getitem_d : Fun K "__getitem__" "Water.__getitem__" s_Water_getitem_d f_Water_getitem_d d_Water_getitem_d
  B_Water_getitem_d : Binds K d_Water_getitem_d ["self", "at"] []
  m_Water_getitem_d : Spc K C_Water "__getitem__" f_Water_getitem_d
  fi_Water_getitem_d : PySem.W.fnIn K f_Water_getitem_d = true
  f_Water_len_d : Addr
  d_Water_len_d : FuncData
  F_Water_len_d : Fun K "__len__" "Water.__len__" s_Water_len_d f_Water_len_d d_Water_len_d
  B_Water_len_d : Binds K d_Water_len_d ["self"] []
  m_Water_len_d : Spc K C_Water "__len__" f_Water_len_d
  f_Water_eq_d : Addr
  d_Water_eq_d : FuncData
  F_Water_eq_d : Fun K "__eq__" "Water.__eq__" s_Water_eq_d f_Water_eq_d d_Water_eq_d
  B_Water_eq_d : Binds K d_Water_eq_d ["self", "other"] []
  m_Water_eq_d : Spc K C_Water "__eq__" f_Water_eq_d
  f_Water_le_d : Addr
  d_Water_le_d : FuncData
  F_Water_le_d : Fun K "__le__" "Water.__le__" s_Water_le_d f_Water_le_d d_Water_le_d
  B_Water_le_d : Binds K d_Water_le_d ["self", "other"] []
  m_Water_le_d : Spc K C_Water "__le__" f_Water_le_d
  f_Water_lt_d : Addr
  d_Water_lt_d : FuncData
  F_Water_lt_d : Fun K "__lt__" "Water.__lt__" s_Water_lt_d f_Water_lt_d d_Water_lt_d
  B_Water_lt_d : Binds K d_Water_lt_d ["self", "other"] []
  m_Water_lt_d : Spc K C_Water "__lt__" f_Water_lt_d
  f_Water_ge_d : Addr
  d_Water_ge_d : FuncData
  F_Water_ge_d : Fun K "__ge__" "Water.__ge__" s_Water_ge_d f_Water_ge_d d_Water_ge_d
  B_Water_ge_d : Binds K d_Water_ge_d ["self", "other"] []
  m_Water_ge_d : Spc K C_Water "__ge__" f_Water_ge_d
  f_Water_gt_d : Addr
  d_Water_gt_d : FuncData
  F_Water_gt_d : Fun K "__gt__" "Water.__gt__" s_Water_gt_d f_Water_gt_d d_Water_gt_d
  B_Water_gt_d : Binds K d_Water_gt_d ["self", "other"] []
  m_Water_gt_d : Spc K C_Water "__gt__" f_Water_gt_d
  f_Water_str_d : Addr
  d_Water_str_d : FuncData
  F_Water_str_d : Fun K "__str__" "Water.__str__" s_Water_str_d f_Water_str_d d_Water_str_d
  B_Water_str_d : Binds K d_Water_str_d ["self"] []
  m_Water_str_d : Spc K C_Water "__str__" f_Water_str_d
  f_settled_pools : Addr
  d_settled_pools : FuncData
  F_settled_pools : Fun K "settled_pools" "settled_pools" s_settled_pools f_settled_pools d_settled_pools
  B_settled_pools : Binds K d_settled_pools ["pairs"] []
  g_settled_pools : mg "settled_pools" = some (.ref f_settled_pools)
  f_lie_within : Addr
  d_lie_within : FuncData
  F_lie_within : Fun K "lie_within" "lie_within" s_lie_within f_lie_within d_lie_within
  B_lie_within : Binds K d_lie_within ["pools", "others"] []
  g_lie_within : mg "lie_within" = some (.ref f_lie_within)
  f_row_of : Addr
  d_row_of : FuncData
  F_row_of : Fun K "row_of" "row_of" s_row_of f_row_of d_row_of
  B_row_of : Binds K d_row_of ["pool"] []
  g_row_of : mg "row_of" = some (.ref f_row_of)
  f_lw_box : Addr
  d_lw_box : FuncData
  F_lw_box : Fun K "_law_box" "_law_box" s_lw_box f_lw_box d_lw_box
  B_lw_box : Binds K d_lw_box ["_law_script", "_law_k"] []
  g_lw_box : mg "_law_box" = some (.ref f_lw_box)
  f_lw_take : Addr
  d_lw_take : FuncData
  F_lw_take : Fun K "_law_take" "_law_take" s_lw_take f_lw_take d_lw_take
  B_lw_take : Binds K d_lw_take ["_law_box_here", "_law_many"] []
  g_lw_take : mg "_law_take" = some (.ref f_lw_take)
  f_lw_scene : Addr
  d_lw_scene : FuncData
  F_lw_scene : Fun K "_law_scene" "_law_scene" s_lw_scene f_lw_scene d_lw_scene
  B_lw_scene : Binds K d_lw_scene ["_law_box_here", "_law_most"] []
  g_lw_scene : mg "_law_scene" = some (.ref f_lw_scene)
  f_lw_number : Addr
  d_lw_number : FuncData
  F_lw_number : Fun K "_law_number" "_law_number" s_lw_number f_lw_number d_lw_number
  B_lw_number : Binds K d_lw_number ["_law_box_here", "_law_top", "_law_unit"] []
  g_lw_number : mg "_law_number" = some (.ref f_lw_number)
  f_lw_is : Addr
  d_lw_is : FuncData
  F_lw_is : Fun K "_law_is" "_law_is" s_lw_is f_lw_is d_lw_is
  B_lw_is : Binds K d_lw_is ["_law_found", "_law_top", "_law_bottom"] []
  g_lw_is : mg "_law_is" = some (.ref f_lw_is)
  f_lw_ordered : Addr
  d_lw_ordered : FuncData
  F_lw_ordered : Fun K "_law_ordered" "_law_ordered" s_lw_ordered f_lw_ordered d_lw_ordered
  B_lw_ordered : Binds K d_lw_ordered ["_law_drops"] []
  g_lw_ordered : mg "_law_ordered" = some (.ref f_lw_ordered)
  f_lw_touch : Addr
  d_lw_touch : FuncData
  F_lw_touch : Fun K "_law_touch" "_law_touch" s_lw_touch f_lw_touch d_lw_touch
  B_lw_touch : Binds K d_lw_touch ["_law_one", "_law_other"] []
  g_lw_touch : mg "_law_touch" = some (.ref f_lw_touch)
  f_lw_pools : Addr
  d_lw_pools : FuncData
  F_lw_pools : Fun K "_law_pools" "_law_pools" s_lw_pools f_lw_pools d_lw_pools
  B_lw_pools : Binds K d_lw_pools ["_law_drops"] []
  g_lw_pools : mg "_law_pools" = some (.ref f_lw_pools)
  f_lw_water : Addr
  d_lw_water : FuncData
  F_lw_water : Fun K "_law_water" "_law_water" s_lw_water f_lw_water d_lw_water
  B_lw_water : Binds K d_lw_water ["_law_box_here", "_law_unit", "_law_drops"] []
  g_lw_water : mg "_law_water" = some (.ref f_lw_water)
  f_lw_neighbours : Addr
  d_lw_neighbours : FuncData
  F_lw_neighbours : Fun K "_law_neighbours" "_law_neighbours" s_lw_neighbours f_lw_neighbours d_lw_neighbours
  B_lw_neighbours : Binds K d_lw_neighbours ["_law_drops"] []
  g_lw_neighbours : mg "_law_neighbours" = some (.ref f_lw_neighbours)
  f_lw_says : Addr
  d_lw_says : FuncData
  F_lw_says : Fun K "_law_says" "_law_says" s_lw_says f_lw_says d_lw_says
  B_lw_says : Binds K d_lw_says ["_law_found", "_law_due"] []
  g_lw_says : mg "_law_says" = some (.ref f_lw_says)
  f_lw_is_water : Addr
  d_lw_is_water : FuncData
  F_lw_is_water : Fun K "_law_is_water" "_law_is_water" s_lw_is_water f_lw_is_water d_lw_is_water
  B_lw_is_water : Binds K d_lw_is_water ["_law_found", "_law_unit", "_law_dues"] []
  g_lw_is_water : mg "_law_is_water" = some (.ref f_lw_is_water)
  f_lw_inside : Addr
  d_lw_inside : FuncData
  F_lw_inside : Fun K "_law_inside" "_law_inside" s_lw_inside f_lw_inside d_lw_inside
  B_lw_inside : Binds K d_lw_inside ["_law_one", "_law_other"] []
  g_lw_inside : mg "_law_inside" = some (.ref f_lw_inside)
  f_lw_equal : Addr
  d_lw_equal : FuncData
  F_lw_equal : Fun K "_law_equal" "_law_equal" s_lw_equal f_lw_equal d_lw_equal
  B_lw_equal : Binds K d_lw_equal ["_law_one", "_law_other"] []
  g_lw_equal : mg "_law_equal" = some (.ref f_lw_equal)
  f_lw_compared : Addr
  d_lw_compared : FuncData
  F_lw_compared : Fun K "_law_compared" "_law_compared" s_lw_compared f_lw_compared d_lw_compared
  B_lw_compared : Binds K d_lw_compared ["_law_one", "_law_other", "_law_mine", "_law_its"] []
  g_lw_compared : mg "_law_compared" = some (.ref f_lw_compared)
  f_lw_many_compared : Addr
  d_lw_many_compared : FuncData
  F_lw_many_compared : Fun K "_law_many_compared" "_law_many_compared" s_lw_many_compared f_lw_many_compared d_lw_many_compared
  B_lw_many_compared : Binds K d_lw_many_compared ["_law_box_here"] []
  g_lw_many_compared : mg "_law_many_compared" = some (.ref f_lw_many_compared)
  f_law : Addr
  d_law : FuncData
  F_law : Fun K "law" "law" s_law f_law d_law
  B_law : Binds K d_law ["_law_script"] []
  g_law : mg "law" = some (.ref f_law)
abbrev SpK := PySem.W.Frag → Sp
abbrev LvOk (lv : Nat) : Prop := Room lv callerA
abbrev Kept (lv : Nat) (sp : SpK) : Prop := ∀ {P : Program} {w : World} {K : PySem.W.Frag} {mg : Str → Option Value} {base : Heap} (T : Txt K mg), FnG P w K mg base CX0 lv T.f_law T.d_law ["_law_script"] (sp K)
abbrev Asked (sp : SpK) : Prop := ∀ {K : PySem.W.Frag} {H : Hp} {a : Addr} {ns : List Int}, ns.length ≤ 63 → SqL K H a (ns.map V.int) → sp K [.ref a] H (fun v _ => v = .bl true) E0
theorem all_mk {lv : Nat} {sp : SpK} (ok_law : Kept lv sp)
    {P : Program} {w : World} {K : PySem.W.Frag} {h : Heap} {mg : Str → Option Value} {fa : Addr} (X : K.In h) (G : h.Ns mainGlobals mg) (hfa : mg "law" = some (.ref fa)) {C_PoolError C_InvalidNumber C_Touching C_Ratio C_Pool C_Water f_InvalidNumber_init_d f_Touching_init_d f_Ratio_init_d f_Ratio_of p_Ratio_of f_Ratio_over f_Ratio_add_d f_Ratio_sub_d f_Ratio_eq_d f_Ratio_ne_d f_Ratio_lt_d f_Ratio_le_d f_Ratio_ge_d f_Ratio_str_d f_is_number f_lead f_in_order f_sorted_by f_scale_of f_scaled f_blocks_of f_joined f_touch f_held f_run_together f_Pool_init_d f_Pool_middle p_Pool_middle f_Pool_volume p_Pool_volume f_Pool_left p_Pool_left f_Pool_right p_Pool_right f_Pool_eq_d f_Water_init_d f_Water_settled p_Water_settled f_Water_getitem_d f_Water_len_d f_Water_eq_d f_Water_le_d f_Water_lt_d f_Water_ge_d f_Water_gt_d f_Water_str_d f_settled_pools f_lie_within f_row_of f_lw_box f_lw_take f_lw_scene f_lw_number f_lw_is f_lw_ordered f_lw_touch f_lw_pools f_lw_water f_lw_neighbours f_lw_says f_lw_is_water f_lw_inside f_lw_equal f_lw_compared f_lw_many_compared f_law e_empty : Addr}
    {tk_COLUMNS : Tok} {nm_PoolError q_PoolError : Str} {N_PoolError : Addr} {bs_PoolError bm_PoolError : List Value} {sn_PoolError : List Str} {sub_PoolError : List Value} {ab_PoolError : Bool} {col_PoolError : Option Bool} {dd_PoolError : Option Addr} {k0_PoolError k1_PoolError k2_PoolError k3_PoolError k5_PoolError : Option Value} {nm_InvalidNumber q_InvalidNumber : Str} {N_InvalidNumber : Addr} {bs_InvalidNumber bm_InvalidNumber : List Value} {sn_InvalidNumber : List Str} {sub_InvalidNumber : List Value} {ab_InvalidNumber : Bool} {col_InvalidNumber : Option Bool} {dd_InvalidNumber : Option Addr} {k0_InvalidNumber k1_InvalidNumber k2_InvalidNumber k3_InvalidNumber k5_InvalidNumber : Option Value} {nm_Touching q_Touching : Str} {N_Touching : Addr} {bs_Touching bm_Touching : List Value} {sn_Touching : List Str} {sub_Touching : List Value} {ab_Touching : Bool} {col_Touching : Option Bool} {dd_Touching : Option Addr} {k0_Touching k1_Touching k2_Touching k3_Touching k5_Touching : Option Value} {cd_Ratio : ClassData} {cd_Pool : ClassData} {cd_Water : ClassData} {oc_InvalidNumber_init_d kV_InvalidNumber_init_d dc_InvalidNumber_init_d pm_InvalidNumber_init_d cd_InvalidNumber_init_d ct_InvalidNumber_init_d : Value} {od_InvalidNumber_init_d an_InvalidNumber_init_d : Option Addr} {sl_InvalidNumber_init_d : Array (Option Value)} {oc_Touching_init_d kV_Touching_init_d dc_Touching_init_d pm_Touching_init_d cd_Touching_init_d ct_Touching_init_d : Value} {od_Touching_init_d an_Touching_init_d : Option Addr} {sl_Touching_init_d : Array (Option Value)} {oc_Ratio_init_d kV_Ratio_init_d dc_Ratio_init_d pm_Ratio_init_d cd_Ratio_init_d ct_Ratio_init_d : Value} {od_Ratio_init_d an_Ratio_init_d : Option Addr} {sl_Ratio_init_d : Array (Option Value)} {T_Ratio_init_d : Addr} {to_Ratio_init_d : Obj} {ti_Ratio_init_d : List Value} {tn_Ratio_init_d : Nat} {oc_Ratio_of kV_Ratio_of dc_Ratio_of pm_Ratio_of cd_Ratio_of ct_Ratio_of : Value} {od_Ratio_of an_Ratio_of : Option Addr} {sl_Ratio_of : Array (Option Value)} {rs_Ratio_of : List Value} {oc_Ratio_over kV_Ratio_over dc_Ratio_over pm_Ratio_over cd_Ratio_over ct_Ratio_over : Value} {od_Ratio_over an_Ratio_over : Option Addr} {sl_Ratio_over : Array (Option Value)} {oc_Ratio_add_d kV_Ratio_add_d dc_Ratio_add_d pm_Ratio_add_d cd_Ratio_add_d ct_Ratio_add_d : Value} {od_Ratio_add_d an_Ratio_add_d : Option Addr} {sl_Ratio_add_d : Array (Option Value)} {rc_Ratio_add_d fo_Ratio_add_d ro_Ratio_add_d : Option Value} {oc_Ratio_sub_d kV_Ratio_sub_d dc_Ratio_sub_d pm_Ratio_sub_d cd_Ratio_sub_d ct_Ratio_sub_d : Value} {od_Ratio_sub_d an_Ratio_sub_d : Option Addr} {sl_Ratio_sub_d : Array (Option Value)} {rc_Ratio_sub_d fo_Ratio_sub_d ro_Ratio_sub_d : Option Value} {oc_Ratio_eq_d kV_Ratio_eq_d dc_Ratio_eq_d pm_Ratio_eq_d cd_Ratio_eq_d ct_Ratio_eq_d : Value} {od_Ratio_eq_d an_Ratio_eq_d : Option Addr} {sl_Ratio_eq_d : Array (Option Value)} {oc_Ratio_ne_d kV_Ratio_ne_d dc_Ratio_ne_d pm_Ratio_ne_d cd_Ratio_ne_d ct_Ratio_ne_d : Value} {od_Ratio_ne_d an_Ratio_ne_d : Option Addr} {sl_Ratio_ne_d : Array (Option Value)} {oc_Ratio_lt_d kV_Ratio_lt_d dc_Ratio_lt_d pm_Ratio_lt_d cd_Ratio_lt_d ct_Ratio_lt_d : Value} {od_Ratio_lt_d an_Ratio_lt_d : Option Addr} {sl_Ratio_lt_d : Array (Option Value)} {oc_Ratio_le_d kV_Ratio_le_d dc_Ratio_le_d pm_Ratio_le_d cd_Ratio_le_d ct_Ratio_le_d : Value} {od_Ratio_le_d an_Ratio_le_d : Option Addr} {sl_Ratio_le_d : Array (Option Value)} {oc_Ratio_ge_d kV_Ratio_ge_d dc_Ratio_ge_d pm_Ratio_ge_d cd_Ratio_ge_d ct_Ratio_ge_d : Value} {od_Ratio_ge_d an_Ratio_ge_d : Option Addr} {sl_Ratio_ge_d : Array (Option Value)} {oc_Ratio_str_d kV_Ratio_str_d dc_Ratio_str_d pm_Ratio_str_d cd_Ratio_str_d ct_Ratio_str_d : Value} {od_Ratio_str_d an_Ratio_str_d : Option Addr} {sl_Ratio_str_d : Array (Option Value)} {oc_is_number kV_is_number dc_is_number pm_is_number cd_is_number ct_is_number : Value} {od_is_number an_is_number : Option Addr} {sl_is_number : Array (Option Value)} {oc_lead kV_lead dc_lead pm_lead cd_lead ct_lead : Value} {od_lead an_lead : Option Addr} {sl_lead : Array (Option Value)} {oc_in_order kV_in_order dc_in_order pm_in_order cd_in_order ct_in_order : Value} {od_in_order an_in_order : Option Addr} {sl_in_order : Array (Option Value)} {oc_sorted_by kV_sorted_by dc_sorted_by pm_sorted_by cd_sorted_by ct_sorted_by : Value} {od_sorted_by an_sorted_by : Option Addr} {sl_sorted_by : Array (Option Value)} {oc_scale_of kV_scale_of dc_scale_of pm_scale_of cd_scale_of ct_scale_of : Value} {od_scale_of an_scale_of : Option Addr} {sl_scale_of : Array (Option Value)} {oc_scaled kV_scaled dc_scaled pm_scaled cd_scaled ct_scaled : Value} {od_scaled an_scaled : Option Addr} {sl_scaled : Array (Option Value)} {oc_blocks_of kV_blocks_of dc_blocks_of pm_blocks_of cd_blocks_of ct_blocks_of : Value} {od_blocks_of an_blocks_of : Option Addr} {sl_blocks_of : Array (Option Value)} {oc_joined kV_joined dc_joined pm_joined cd_joined ct_joined : Value} {od_joined an_joined : Option Addr} {sl_joined : Array (Option Value)} {oc_touch kV_touch dc_touch pm_touch cd_touch ct_touch : Value} {od_touch an_touch : Option Addr} {sl_touch : Array (Option Value)} {oc_held kV_held dc_held pm_held cd_held ct_held : Value} {od_held an_held : Option Addr} {sl_held : Array (Option Value)} {oc_run_together kV_run_together dc_run_together pm_run_together cd_run_together ct_run_together : Value} {od_run_together an_run_together : Option Addr} {sl_run_together : Array (Option Value)} {T_run_together : Addr} {to_run_together : Obj} {ti_run_together : List Value} {tn_run_together : Nat} {oc_Pool_init_d kV_Pool_init_d dc_Pool_init_d pm_Pool_init_d cd_Pool_init_d ct_Pool_init_d : Value} {od_Pool_init_d an_Pool_init_d : Option Addr} {sl_Pool_init_d : Array (Option Value)} {oc_Pool_middle kV_Pool_middle dc_Pool_middle pm_Pool_middle cd_Pool_middle ct_Pool_middle : Value} {od_Pool_middle an_Pool_middle : Option Addr} {sl_Pool_middle : Array (Option Value)} {rs_Pool_middle : List Value} {oc_Pool_volume kV_Pool_volume dc_Pool_volume pm_Pool_volume cd_Pool_volume ct_Pool_volume : Value} {od_Pool_volume an_Pool_volume : Option Addr} {sl_Pool_volume : Array (Option Value)} {rs_Pool_volume : List Value} {oc_Pool_left kV_Pool_left dc_Pool_left pm_Pool_left cd_Pool_left ct_Pool_left : Value} {od_Pool_left an_Pool_left : Option Addr} {sl_Pool_left : Array (Option Value)} {rs_Pool_left : List Value} {oc_Pool_right kV_Pool_right dc_Pool_right pm_Pool_right cd_Pool_right ct_Pool_right : Value} {od_Pool_right an_Pool_right : Option Addr} {sl_Pool_right : Array (Option Value)} {rs_Pool_right : List Value} {oc_Pool_eq_d kV_Pool_eq_d dc_Pool_eq_d pm_Pool_eq_d cd_Pool_eq_d ct_Pool_eq_d : Value} {od_Pool_eq_d an_Pool_eq_d : Option Addr} {sl_Pool_eq_d : Array (Option Value)} {oc_Water_init_d kV_Water_init_d dc_Water_init_d pm_Water_init_d cd_Water_init_d ct_Water_init_d : Value} {od_Water_init_d an_Water_init_d : Option Addr} {sl_Water_init_d : Array (Option Value)} {T_Water_init_d : Addr} {to_Water_init_d : Obj} {ti_Water_init_d : List Value} {tn_Water_init_d : Nat} {oc_Water_settled kV_Water_settled dc_Water_settled pm_Water_settled cd_Water_settled ct_Water_settled : Value} {od_Water_settled an_Water_settled : Option Addr} {sl_Water_settled : Array (Option Value)} {rs_Water_settled : List Value} {oc_Water_getitem_d kV_Water_getitem_d dc_Water_getitem_d pm_Water_getitem_d cd_Water_getitem_d ct_Water_getitem_d : Value} {od_Water_getitem_d an_Water_getitem_d : Option Addr} {sl_Water_getitem_d : Array (Option Value)} {oc_Water_len_d kV_Water_len_d dc_Water_len_d pm_Water_len_d cd_Water_len_d ct_Water_len_d : Value} {od_Water_len_d an_Water_len_d : Option Addr} {sl_Water_len_d : Array (Option Value)} {oc_Water_eq_d kV_Water_eq_d dc_Water_eq_d pm_Water_eq_d cd_Water_eq_d ct_Water_eq_d : Value} {od_Water_eq_d an_Water_eq_d : Option Addr} {sl_Water_eq_d : Array (Option Value)} {oc_Water_le_d kV_Water_le_d dc_Water_le_d pm_Water_le_d cd_Water_le_d ct_Water_le_d : Value} {od_Water_le_d an_Water_le_d : Option Addr} {sl_Water_le_d : Array (Option Value)} {oc_Water_lt_d kV_Water_lt_d dc_Water_lt_d pm_Water_lt_d cd_Water_lt_d ct_Water_lt_d : Value} {od_Water_lt_d an_Water_lt_d : Option Addr} {sl_Water_lt_d : Array (Option Value)} {oc_Water_ge_d kV_Water_ge_d dc_Water_ge_d pm_Water_ge_d cd_Water_ge_d ct_Water_ge_d : Value} {od_Water_ge_d an_Water_ge_d : Option Addr} {sl_Water_ge_d : Array (Option Value)} {oc_Water_gt_d kV_Water_gt_d dc_Water_gt_d pm_Water_gt_d cd_Water_gt_d ct_Water_gt_d : Value} {od_Water_gt_d an_Water_gt_d : Option Addr} {sl_Water_gt_d : Array (Option Value)} {oc_Water_str_d kV_Water_str_d dc_Water_str_d pm_Water_str_d cd_Water_str_d ct_Water_str_d : Value} {od_Water_str_d an_Water_str_d : Option Addr} {sl_Water_str_d : Array (Option Value)} {oc_settled_pools kV_settled_pools dc_settled_pools pm_settled_pools cd_settled_pools ct_settled_pools : Value} {od_settled_pools an_settled_pools : Option Addr} {sl_settled_pools : Array (Option Value)} {oc_lie_within kV_lie_within dc_lie_within pm_lie_within cd_lie_within ct_lie_within : Value} {od_lie_within an_lie_within : Option Addr} {sl_lie_within : Array (Option Value)} {oc_row_of kV_row_of dc_row_of pm_row_of cd_row_of ct_row_of : Value} {od_row_of an_row_of : Option Addr} {sl_row_of : Array (Option Value)} {oc_lw_box kV_lw_box dc_lw_box pm_lw_box cd_lw_box ct_lw_box : Value} {od_lw_box an_lw_box : Option Addr} {sl_lw_box : Array (Option Value)} {oc_lw_take kV_lw_take dc_lw_take pm_lw_take cd_lw_take ct_lw_take : Value} {od_lw_take an_lw_take : Option Addr} {sl_lw_take : Array (Option Value)} {oc_lw_scene kV_lw_scene dc_lw_scene pm_lw_scene cd_lw_scene ct_lw_scene : Value} {od_lw_scene an_lw_scene : Option Addr} {sl_lw_scene : Array (Option Value)} {oc_lw_number kV_lw_number dc_lw_number pm_lw_number cd_lw_number ct_lw_number : Value} {od_lw_number an_lw_number : Option Addr} {sl_lw_number : Array (Option Value)} {oc_lw_is kV_lw_is dc_lw_is pm_lw_is cd_lw_is ct_lw_is : Value} {od_lw_is an_lw_is : Option Addr} {sl_lw_is : Array (Option Value)} {oc_lw_ordered kV_lw_ordered dc_lw_ordered pm_lw_ordered cd_lw_ordered ct_lw_ordered : Value} {od_lw_ordered an_lw_ordered : Option Addr} {sl_lw_ordered : Array (Option Value)} {oc_lw_touch kV_lw_touch dc_lw_touch pm_lw_touch cd_lw_touch ct_lw_touch : Value} {od_lw_touch an_lw_touch : Option Addr} {sl_lw_touch : Array (Option Value)} {oc_lw_pools kV_lw_pools dc_lw_pools pm_lw_pools cd_lw_pools ct_lw_pools : Value} {od_lw_pools an_lw_pools : Option Addr} {sl_lw_pools : Array (Option Value)} {oc_lw_water kV_lw_water dc_lw_water pm_lw_water cd_lw_water ct_lw_water : Value} {od_lw_water an_lw_water : Option Addr} {sl_lw_water : Array (Option Value)} {oc_lw_neighbours kV_lw_neighbours dc_lw_neighbours pm_lw_neighbours cd_lw_neighbours ct_lw_neighbours : Value} {od_lw_neighbours an_lw_neighbours : Option Addr} {sl_lw_neighbours : Array (Option Value)} {oc_lw_says kV_lw_says dc_lw_says pm_lw_says cd_lw_says ct_lw_says : Value} {od_lw_says an_lw_says : Option Addr} {sl_lw_says : Array (Option Value)} {oc_lw_is_water kV_lw_is_water dc_lw_is_water pm_lw_is_water cd_lw_is_water ct_lw_is_water : Value} {od_lw_is_water an_lw_is_water : Option Addr} {sl_lw_is_water : Array (Option Value)} {oc_lw_inside kV_lw_inside dc_lw_inside pm_lw_inside cd_lw_inside ct_lw_inside : Value} {od_lw_inside an_lw_inside : Option Addr} {sl_lw_inside : Array (Option Value)} {oc_lw_equal kV_lw_equal dc_lw_equal pm_lw_equal cd_lw_equal ct_lw_equal : Value} {od_lw_equal an_lw_equal : Option Addr} {sl_lw_equal : Array (Option Value)} {oc_lw_compared kV_lw_compared dc_lw_compared pm_lw_compared cd_lw_compared ct_lw_compared : Value} {od_lw_compared an_lw_compared : Option Addr} {sl_lw_compared : Array (Option Value)} {oc_lw_many_compared kV_lw_many_compared dc_lw_many_compared pm_lw_many_compared cd_lw_many_compared ct_lw_many_compared : Value} {od_lw_many_compared an_lw_many_compared : Option Addr} {sl_lw_many_compared : Array (Option Value)} {oc_law kV_law dc_law pm_law cd_law ct_law : Value} {od_law an_law : Option Addr} {sl_law : Array (Option Value)} {eo_empty : Obj} {en_empty : Nat}
    (zb_len : PySem.W.nsIn K mainGlobals "len" = some none)
    (zb_range : PySem.W.nsIn K mainGlobals "range" = some none)
    (zb_int : PySem.W.nsIn K mainGlobals "int" = some none)
    (zb_str : PySem.W.nsIn K mainGlobals "str" = some none)
    (zb_bool : PySem.W.nsIn K mainGlobals "bool" = some none)
    (zb_abs : PySem.W.nsIn K mainGlobals "abs" = some none)
    (zb_isinstance : PySem.W.nsIn K mainGlobals "isinstance" = some none)
    (zb_max : PySem.W.nsIn K mainGlobals "max" = some none)
    (zb_min : PySem.W.nsIn K mainGlobals "min" = some none)
    (zb_tuple : PySem.W.nsIn K mainGlobals "tuple" = some none)
    (zb_sum : PySem.W.nsIn K mainGlobals "sum" = some none)
    (zb_zip : PySem.W.nsIn K mainGlobals "zip" = some none)
    (zb_enumerate : PySem.W.nsIn K mainGlobals "enumerate" = some none)
    (zb_sorted : PySem.W.nsIn K mainGlobals "sorted" = some none)
    (kz_COLUMNS : PySem.W.nsIn K mainGlobals "COLUMNS" = some (some (.int 12 tk_COLUMNS)))
    (gi_gcd : PySem.W.nsIn K mainGlobals "gcd" = some (some (.builtin "math.gcd")))
    (gi_lcm : PySem.W.nsIn K mainGlobals "lcm" = some (some (.builtin "math.lcm")))
    (gc_PoolError : PySem.W.nsIn K mainGlobals "PoolError" = some (some (.ref C_PoolError)))
    (xl_PoolError : K.lookup C_PoolError = some (PySem.excClassObj nm_PoolError q_PoolError C_PoolError N_PoolError bs_PoolError bm_PoolError true sn_PoolError sub_PoolError ab_PoolError col_PoolError dd_PoolError k0_PoolError k1_PoolError k2_PoolError k3_PoolError k5_PoolError "ValueError.__new__"))
    (xr_PoolError : PySem.HandSPX.refsVE bm_PoolError = true)
    (xs_PoolError : PySem.W.findIn K (.ref C_PoolError) "__setattr__" = some (some (.builtin "object.__setattr__")))
    (xa_PoolError : PySem.W.findIn K (.ref C_PoolError) "__getattribute__" = some (some (.builtin "BaseException.__getattribute__")))
    (xg_PoolError : PySem.W.findIn K (.ref C_PoolError) "__getattr__" = some none)
    (xe_PoolError : PySem.W.subIn K (.ref C_PoolError) (.type "BaseException") = some true)
    (xt_PoolError : PySem.W.typeIn K (.ref C_PoolError) = some (.type "type"))
    (xh_PoolError : PySem.W.hasDictIn K C_PoolError = true)
    (xk_PoolError : PySem.W.keepIn K (.ref C_PoolError) = true)
    (xi_PoolError : PySem.W.isClsIn K C_PoolError = true)
    (xq_PoolError : PySem.W.subIn K (.ref C_PoolError) (.ref C_PoolError) = some true)
    (gc_InvalidNumber : PySem.W.nsIn K mainGlobals "InvalidNumber" = some (some (.ref C_InvalidNumber)))
    (xl_InvalidNumber : K.lookup C_InvalidNumber = some (PySem.excClassObj nm_InvalidNumber q_InvalidNumber C_InvalidNumber N_InvalidNumber bs_InvalidNumber bm_InvalidNumber true sn_InvalidNumber sub_InvalidNumber ab_InvalidNumber col_InvalidNumber dd_InvalidNumber k0_InvalidNumber k1_InvalidNumber k2_InvalidNumber k3_InvalidNumber k5_InvalidNumber "ValueError.__new__"))
    (xr_InvalidNumber : PySem.HandSPX.refsVE bm_InvalidNumber = true)
    (xs_InvalidNumber : PySem.W.findIn K (.ref C_InvalidNumber) "__setattr__" = some (some (.builtin "object.__setattr__")))
    (xa_InvalidNumber : PySem.W.findIn K (.ref C_InvalidNumber) "__getattribute__" = some (some (.builtin "BaseException.__getattribute__")))
    (xg_InvalidNumber : PySem.W.findIn K (.ref C_InvalidNumber) "__getattr__" = some none)
    (xe_InvalidNumber : PySem.W.subIn K (.ref C_InvalidNumber) (.type "BaseException") = some true)
    (xt_InvalidNumber : PySem.W.typeIn K (.ref C_InvalidNumber) = some (.type "type"))
    (xh_InvalidNumber : PySem.W.hasDictIn K C_InvalidNumber = true)
    (xk_InvalidNumber : PySem.W.keepIn K (.ref C_InvalidNumber) = true)
    (xi_InvalidNumber : PySem.W.isClsIn K C_InvalidNumber = true)
    (xq_InvalidNumber : PySem.W.subIn K (.ref C_InvalidNumber) (.ref C_InvalidNumber) = some true)
    (na_InvalidNumber_value : PySem.W.findIn K (.ref C_InvalidNumber) "value" = some none)
    (gc_Touching : PySem.W.nsIn K mainGlobals "Touching" = some (some (.ref C_Touching)))
    (xl_Touching : K.lookup C_Touching = some (PySem.excClassObj nm_Touching q_Touching C_Touching N_Touching bs_Touching bm_Touching true sn_Touching sub_Touching ab_Touching col_Touching dd_Touching k0_Touching k1_Touching k2_Touching k3_Touching k5_Touching "ValueError.__new__"))
    (xr_Touching : PySem.HandSPX.refsVE bm_Touching = true)
    (xs_Touching : PySem.W.findIn K (.ref C_Touching) "__setattr__" = some (some (.builtin "object.__setattr__")))
    (xa_Touching : PySem.W.findIn K (.ref C_Touching) "__getattribute__" = some (some (.builtin "BaseException.__getattribute__")))
    (xg_Touching : PySem.W.findIn K (.ref C_Touching) "__getattr__" = some none)
    (xe_Touching : PySem.W.subIn K (.ref C_Touching) (.type "BaseException") = some true)
    (xt_Touching : PySem.W.typeIn K (.ref C_Touching) = some (.type "type"))
    (xh_Touching : PySem.W.hasDictIn K C_Touching = true)
    (xk_Touching : PySem.W.keepIn K (.ref C_Touching) = true)
    (xi_Touching : PySem.W.isClsIn K C_Touching = true)
    (xq_Touching : PySem.W.subIn K (.ref C_Touching) (.ref C_Touching) = some true)
    (ea_Touching : PySem.W.findIn K (.ref C_Touching) "__class__" = some (some (.builtin "object.__class__")))
    (eb_Touching : PySem.W.specialIn K (.builtin "object.__class__") "__get__" = some (some (.builtin "getset_descriptor.__get__")))
    (et_Touching : PySem.W.takesIn K (.builtin "object.__class__") = some true)
    (em_Touching : PySem.W.mroIn K C_Touching (.type "object") = some true)
    (na_Touching_index : PySem.W.findIn K (.ref C_Touching) "index" = some none)
    (gc_Ratio : PySem.W.nsIn K mainGlobals "Ratio" = some (some (.ref C_Ratio)))
    (pg_Ratio : PySem.W.plainGet K C_Ratio Str.empty = true)
    (hd_Ratio : PySem.W.hasDictIn K C_Ratio = true)
    (po_Ratio : PySem.W.plainOver K C_Ratio = true)
    (sa_Ratio : PySem.W.findIn K (.ref C_Ratio) "__setattr__" = some (some (.builtin "object.__setattr__")))
    (tca_Ratio : PySem.W.findIn K (.ref C_Ratio) "__class__" = some (some (.builtin "object.__class__")))
    (tcb_Ratio : PySem.W.specialIn K (.builtin "object.__class__") "__get__" = some (some (.builtin "getset_descriptor.__get__")))
    (tcc_Ratio : PySem.W.takesIn K (.builtin "object.__class__") = some true)
    (tcd_Ratio : PySem.W.mroIn K C_Ratio (.type "object") = some true)
    (ric_Ratio : PySem.W.isClsIn K C_Ratio = true)
    (rty_Ratio : PySem.W.typeIn K (.ref C_Ratio) = some (.type "type"))
    (rss_Ratio : PySem.W.subIn K (.ref C_Ratio) (.ref C_Ratio) = some true)
    (rda_Ratio : PySem.W.readsIn K C_Ratio (.type "type") = true)
    (rdb_Ratio : PySem.W.specialIn K (.ref C_Ratio) "__getattribute__" = some (some (.builtin "type.__getattribute__")))
    (mk_Ratio : PySem.W.makesIn K C_Ratio = true)
    (kc_Ratio : PySem.W.keepIn K (.ref C_Ratio) = true)
    (sf_Ratio : PySem.W.selfFirst K C_Ratio = true)
    (mra_Ratio : PySem.W.clsIn K C_Ratio = some cd_Ratio)
    (mrb_Ratio : cd_Ratio.mro = [.ref C_Ratio, .type "object"])
    (st_Ratio_int : PySem.W.subIn K (.type "int") (.ref C_Ratio) = some false)
    (st_Ratio_bool : PySem.W.subIn K (.type "bool") (.ref C_Ratio) = some false)
    (st_Ratio_str : PySem.W.subIn K (.type "str") (.ref C_Ratio) = some false)
    (st_Ratio_NoneType : PySem.W.subIn K (.type "NoneType") (.ref C_Ratio) = some false)
    (st_Ratio_tuple : PySem.W.subIn K (.type "tuple") (.ref C_Ratio) = some false)
    (su_Ratio_int : PySem.W.subIn K (.ref C_Ratio) (.type "int") = some false)
    (su_Ratio_bool : PySem.W.subIn K (.ref C_Ratio) (.type "bool") = some false)
    (su_Ratio_tuple : PySem.W.subIn K (.ref C_Ratio) (.type "tuple") = some false)
    (su_Ratio_str : PySem.W.subIn K (.ref C_Ratio) (.type "str") = some false)
    (su_Ratio_NoneType : PySem.W.subIn K (.ref C_Ratio) (.type "NoneType") = some false)
    (fmo_Ratio : PySem.W.findIn K (.ref C_Ratio) "__format__" = some (some (.builtin "object.__format__")))
    (na_Ratio_top : PySem.W.findIn K (.ref C_Ratio) "top" = some none)
    (na_Ratio_bottom : PySem.W.findIn K (.ref C_Ratio) "bottom" = some none)
    (gc_Pool : PySem.W.nsIn K mainGlobals "Pool" = some (some (.ref C_Pool)))
    (pg_Pool : PySem.W.plainGet K C_Pool Str.empty = true)
    (hd_Pool : PySem.W.hasDictIn K C_Pool = true)
    (po_Pool : PySem.W.plainOver K C_Pool = true)
    (sa_Pool : PySem.W.findIn K (.ref C_Pool) "__setattr__" = some (some (.builtin "object.__setattr__")))
    (tca_Pool : PySem.W.findIn K (.ref C_Pool) "__class__" = some (some (.builtin "object.__class__")))
    (tcb_Pool : PySem.W.specialIn K (.builtin "object.__class__") "__get__" = some (some (.builtin "getset_descriptor.__get__")))
    (tcc_Pool : PySem.W.takesIn K (.builtin "object.__class__") = some true)
    (tcd_Pool : PySem.W.mroIn K C_Pool (.type "object") = some true)
    (ric_Pool : PySem.W.isClsIn K C_Pool = true)
    (rty_Pool : PySem.W.typeIn K (.ref C_Pool) = some (.type "type"))
    (rss_Pool : PySem.W.subIn K (.ref C_Pool) (.ref C_Pool) = some true)
    (rda_Pool : PySem.W.readsIn K C_Pool (.type "type") = true)
    (rdb_Pool : PySem.W.specialIn K (.ref C_Pool) "__getattribute__" = some (some (.builtin "type.__getattribute__")))
    (mk_Pool : PySem.W.makesIn K C_Pool = true)
    (kc_Pool : PySem.W.keepIn K (.ref C_Pool) = true)
    (sf_Pool : PySem.W.selfFirst K C_Pool = true)
    (mra_Pool : PySem.W.clsIn K C_Pool = some cd_Pool)
    (mrb_Pool : cd_Pool.mro = [.ref C_Pool, .type "object"])
    (st_Pool_int : PySem.W.subIn K (.type "int") (.ref C_Pool) = some false)
    (st_Pool_bool : PySem.W.subIn K (.type "bool") (.ref C_Pool) = some false)
    (st_Pool_str : PySem.W.subIn K (.type "str") (.ref C_Pool) = some false)
    (st_Pool_NoneType : PySem.W.subIn K (.type "NoneType") (.ref C_Pool) = some false)
    (st_Pool_tuple : PySem.W.subIn K (.type "tuple") (.ref C_Pool) = some false)
    (su_Pool_int : PySem.W.subIn K (.ref C_Pool) (.type "int") = some false)
    (su_Pool_bool : PySem.W.subIn K (.ref C_Pool) (.type "bool") = some false)
    (su_Pool_tuple : PySem.W.subIn K (.ref C_Pool) (.type "tuple") = some false)
    (su_Pool_str : PySem.W.subIn K (.ref C_Pool) (.type "str") = some false)
    (su_Pool_NoneType : PySem.W.subIn K (.ref C_Pool) (.type "NoneType") = some false)
    (na_Pool__middle : PySem.W.findIn K (.ref C_Pool) "_middle" = some none)
    (na_Pool__volume : PySem.W.findIn K (.ref C_Pool) "_volume" = some none)
    (na_Pool__left : PySem.W.findIn K (.ref C_Pool) "_left" = some none)
    (na_Pool__right : PySem.W.findIn K (.ref C_Pool) "_right" = some none)
    (gc_Water : PySem.W.nsIn K mainGlobals "Water" = some (some (.ref C_Water)))
    (pg_Water : PySem.W.plainGet K C_Water Str.empty = true)
    (hd_Water : PySem.W.hasDictIn K C_Water = true)
    (po_Water : PySem.W.plainOver K C_Water = true)
    (sa_Water : PySem.W.findIn K (.ref C_Water) "__setattr__" = some (some (.builtin "object.__setattr__")))
    (tca_Water : PySem.W.findIn K (.ref C_Water) "__class__" = some (some (.builtin "object.__class__")))
    (tcb_Water : PySem.W.specialIn K (.builtin "object.__class__") "__get__" = some (some (.builtin "getset_descriptor.__get__")))
    (tcc_Water : PySem.W.takesIn K (.builtin "object.__class__") = some true)
    (tcd_Water : PySem.W.mroIn K C_Water (.type "object") = some true)
    (ric_Water : PySem.W.isClsIn K C_Water = true)
    (rty_Water : PySem.W.typeIn K (.ref C_Water) = some (.type "type"))
    (rss_Water : PySem.W.subIn K (.ref C_Water) (.ref C_Water) = some true)
    (rda_Water : PySem.W.readsIn K C_Water (.type "type") = true)
    (rdb_Water : PySem.W.specialIn K (.ref C_Water) "__getattribute__" = some (some (.builtin "type.__getattribute__")))
    (mk_Water : PySem.W.makesIn K C_Water = true)
    (kc_Water : PySem.W.keepIn K (.ref C_Water) = true)
    (sf_Water : PySem.W.selfFirst K C_Water = true)
    (mra_Water : PySem.W.clsIn K C_Water = some cd_Water)
    (mrb_Water : cd_Water.mro = [.ref C_Water, .type "object"])
    (st_Water_int : PySem.W.subIn K (.type "int") (.ref C_Water) = some false)
    (st_Water_bool : PySem.W.subIn K (.type "bool") (.ref C_Water) = some false)
    (st_Water_str : PySem.W.subIn K (.type "str") (.ref C_Water) = some false)
    (st_Water_NoneType : PySem.W.subIn K (.type "NoneType") (.ref C_Water) = some false)
    (st_Water_tuple : PySem.W.subIn K (.type "tuple") (.ref C_Water) = some false)
    (su_Water_int : PySem.W.subIn K (.ref C_Water) (.type "int") = some false)
    (su_Water_bool : PySem.W.subIn K (.ref C_Water) (.type "bool") = some false)
    (su_Water_tuple : PySem.W.subIn K (.ref C_Water) (.type "tuple") = some false)
    (su_Water_str : PySem.W.subIn K (.ref C_Water) (.type "str") = some false)
    (su_Water_NoneType : PySem.W.subIn K (.ref C_Water) (.type "NoneType") = some false)
    (neo_Water : PySem.W.findIn K (.ref C_Water) "__ne__" = some (some (.builtin "object.__ne__")))
    (na_Water__pools : PySem.W.findIn K (.ref C_Water) "_pools" = some none)
    (sx_Touching_PoolError : PySem.W.subIn K (.ref C_Touching) (.ref C_PoolError) = some true)
    (sx_Touching_InvalidNumber : PySem.W.subIn K (.ref C_Touching) (.ref C_InvalidNumber) = some false)
    (a_InvalidNumber_init_d : PySem.W.findIn K (.ref C_InvalidNumber) "__init__" = some (some (.ref f_InvalidNumber_init_d)))
    (i_InvalidNumber_init_d : PySem.W.isFn K (.ref f_InvalidNumber_init_d) = true)
    (l_InvalidNumber_init_d : K.lookup f_InvalidNumber_init_d = some ⟨oc_InvalidNumber_init_d, od_InvalidNumber_init_d, .func (PySem.W.fnOf "__init__" "InvalidNumber.__init__" (defArgs s_InvalidNumber_init_d) (defBody s_InvalidNumber_init_d) (defScope s_InvalidNumber_init_d) .none kV_InvalidNumber_init_d dc_InvalidNumber_init_d pm_InvalidNumber_init_d an_InvalidNumber_init_d cd_InvalidNumber_init_d ct_InvalidNumber_init_d), sl_InvalidNumber_init_d⟩)
    (c_InvalidNumber_init_d : PySem.W.codeIn K cd_InvalidNumber_init_d "InvalidNumber.__init__" = true)
    (k_InvalidNumber_init_d : PySem.W.keepIn K (.ref f_InvalidNumber_init_d) = true)
    (a_Touching_init_d : PySem.W.findIn K (.ref C_Touching) "__init__" = some (some (.ref f_Touching_init_d)))
    (i_Touching_init_d : PySem.W.isFn K (.ref f_Touching_init_d) = true)
    (l_Touching_init_d : K.lookup f_Touching_init_d = some ⟨oc_Touching_init_d, od_Touching_init_d, .func (PySem.W.fnOf "__init__" "Touching.__init__" (defArgs s_Touching_init_d) (defBody s_Touching_init_d) (defScope s_Touching_init_d) .none kV_Touching_init_d dc_Touching_init_d pm_Touching_init_d an_Touching_init_d cd_Touching_init_d ct_Touching_init_d), sl_Touching_init_d⟩)
    (c_Touching_init_d : PySem.W.codeIn K cd_Touching_init_d "Touching.__init__" = true)
    (k_Touching_init_d : PySem.W.keepIn K (.ref f_Touching_init_d) = true)
    (a_Ratio_init_d : PySem.W.findIn K (.ref C_Ratio) "__init__" = some (some (.ref f_Ratio_init_d)))
    (i_Ratio_init_d : PySem.W.isFn K (.ref f_Ratio_init_d) = true)
    (l_Ratio_init_d : K.lookup f_Ratio_init_d = some ⟨oc_Ratio_init_d, od_Ratio_init_d, .func (PySem.W.fnOf "__init__" "Ratio.__init__" (defArgs s_Ratio_init_d) (defBody s_Ratio_init_d) (defScope s_Ratio_init_d) (.ref T_Ratio_init_d) kV_Ratio_init_d dc_Ratio_init_d pm_Ratio_init_d an_Ratio_init_d cd_Ratio_init_d ct_Ratio_init_d), sl_Ratio_init_d⟩)
    (dl_Ratio_init_d : K.lookup T_Ratio_init_d = some to_Ratio_init_d)
    (dd_Ratio_init_d : to_Ratio_init_d.data = .seq ti_Ratio_init_d.toArray tn_Ratio_init_d)
    (dv_Ratio_init_d : Vals [V.int 1] ti_Ratio_init_d)
    (c_Ratio_init_d : PySem.W.codeIn K cd_Ratio_init_d "Ratio.__init__" = true)
    (k_Ratio_init_d : PySem.W.keepIn K (.ref f_Ratio_init_d) = true)
    (a_Ratio_of : PySem.W.findCls K (.ref C_Ratio) (.type "type") "of" = some (.get (.builtin "classmethod.__get__") (.ref p_Ratio_of) .none (.ref C_Ratio)))
    (r_Ratio_of : PySem.W.recIn K p_Ratio_of "classmethod" = some (.ref f_Ratio_of :: rs_Ratio_of))
    (i_Ratio_of : PySem.W.fnIn K f_Ratio_of = true)
    (l_Ratio_of : K.lookup f_Ratio_of = some ⟨oc_Ratio_of, od_Ratio_of, .func (PySem.W.fnOf "of" "Ratio.of" (defArgs s_Ratio_of) (defBody s_Ratio_of) (defScope s_Ratio_of) .none kV_Ratio_of dc_Ratio_of pm_Ratio_of an_Ratio_of cd_Ratio_of ct_Ratio_of), sl_Ratio_of⟩)
    (c_Ratio_of : PySem.W.codeIn K cd_Ratio_of "Ratio.of" = true)
    (k_Ratio_of : PySem.W.keepIn K (.ref f_Ratio_of) = true)
    (a_Ratio_over : PySem.W.findIn K (.ref C_Ratio) "over" = some (some (.ref f_Ratio_over)))
    (i_Ratio_over : PySem.W.isFn K (.ref f_Ratio_over) = true)
    (l_Ratio_over : K.lookup f_Ratio_over = some ⟨oc_Ratio_over, od_Ratio_over, .func (PySem.W.fnOf "over" "Ratio.over" (defArgs s_Ratio_over) (defBody s_Ratio_over) (defScope s_Ratio_over) .none kV_Ratio_over dc_Ratio_over pm_Ratio_over an_Ratio_over cd_Ratio_over ct_Ratio_over), sl_Ratio_over⟩)
    (c_Ratio_over : PySem.W.codeIn K cd_Ratio_over "Ratio.over" = true)
    (k_Ratio_over : PySem.W.keepIn K (.ref f_Ratio_over) = true)
    (a_Ratio_add_d : PySem.W.findIn K (.ref C_Ratio) "__add__" = some (some (.ref f_Ratio_add_d)))
    (i_Ratio_add_d : PySem.W.isFn K (.ref f_Ratio_add_d) = true)
    (l_Ratio_add_d : K.lookup f_Ratio_add_d = some ⟨oc_Ratio_add_d, od_Ratio_add_d, .func (PySem.W.fnOf "__add__" "Ratio.__add__" (defArgs s_Ratio_add_d) (defBody s_Ratio_add_d) (defScope s_Ratio_add_d) .none kV_Ratio_add_d dc_Ratio_add_d pm_Ratio_add_d an_Ratio_add_d cd_Ratio_add_d ct_Ratio_add_d), sl_Ratio_add_d⟩)
    (c_Ratio_add_d : PySem.W.codeIn K cd_Ratio_add_d "Ratio.__add__" = true)
    (k_Ratio_add_d : PySem.W.keepIn K (.ref f_Ratio_add_d) = true)
    (br_Ratio_add_d : PySem.W.findIn K (.ref C_Ratio) (dunderR "add") = some rc_Ratio_add_d)
    (bp_Ratio_add_d : rc_Ratio_add_d = none ∨ ∃ g : Addr, rc_Ratio_add_d = some (.ref g))
    (bl_Ratio_add_d : PySem.W.findIn K (.type "int") (PySem.dunder "add") = some fo_Ratio_add_d)
    (bo_Ratio_add_d : PySem.W.findIn K (.type "int") (dunderR "add") = some ro_Ratio_add_d)
    (ba_Ratio_add_d : PySem.W.findIn K (.ref C_Ratio) (PySem.dunder "add") = some (some (.ref f_Ratio_add_d)))
    (n1_Ratio_add_d : PySem.W.findIn K (.ref C_Ratio) (dunderI "add") = some none)
    (n2_Ratio_add_d : PySem.W.findIn K (.type "object") (dunderI "add") = some none)
    (a_Ratio_sub_d : PySem.W.findIn K (.ref C_Ratio) "__sub__" = some (some (.ref f_Ratio_sub_d)))
    (i_Ratio_sub_d : PySem.W.isFn K (.ref f_Ratio_sub_d) = true)
    (l_Ratio_sub_d : K.lookup f_Ratio_sub_d = some ⟨oc_Ratio_sub_d, od_Ratio_sub_d, .func (PySem.W.fnOf "__sub__" "Ratio.__sub__" (defArgs s_Ratio_sub_d) (defBody s_Ratio_sub_d) (defScope s_Ratio_sub_d) .none kV_Ratio_sub_d dc_Ratio_sub_d pm_Ratio_sub_d an_Ratio_sub_d cd_Ratio_sub_d ct_Ratio_sub_d), sl_Ratio_sub_d⟩)
    (c_Ratio_sub_d : PySem.W.codeIn K cd_Ratio_sub_d "Ratio.__sub__" = true)
    (k_Ratio_sub_d : PySem.W.keepIn K (.ref f_Ratio_sub_d) = true)
    (br_Ratio_sub_d : PySem.W.findIn K (.ref C_Ratio) (dunderR "sub") = some rc_Ratio_sub_d)
    (bp_Ratio_sub_d : rc_Ratio_sub_d = none ∨ ∃ g : Addr, rc_Ratio_sub_d = some (.ref g))
    (bl_Ratio_sub_d : PySem.W.findIn K (.type "int") (PySem.dunder "sub") = some fo_Ratio_sub_d)
    (bo_Ratio_sub_d : PySem.W.findIn K (.type "int") (dunderR "sub") = some ro_Ratio_sub_d)
    (ba_Ratio_sub_d : PySem.W.findIn K (.ref C_Ratio) (PySem.dunder "sub") = some (some (.ref f_Ratio_sub_d)))
    (n1_Ratio_sub_d : PySem.W.findIn K (.ref C_Ratio) (dunderI "sub") = some none)
    (n2_Ratio_sub_d : PySem.W.findIn K (.type "object") (dunderI "sub") = some none)
    (a_Ratio_eq_d : PySem.W.findIn K (.ref C_Ratio) "__eq__" = some (some (.ref f_Ratio_eq_d)))
    (i_Ratio_eq_d : PySem.W.isFn K (.ref f_Ratio_eq_d) = true)
    (l_Ratio_eq_d : K.lookup f_Ratio_eq_d = some ⟨oc_Ratio_eq_d, od_Ratio_eq_d, .func (PySem.W.fnOf "__eq__" "Ratio.__eq__" (defArgs s_Ratio_eq_d) (defBody s_Ratio_eq_d) (defScope s_Ratio_eq_d) .none kV_Ratio_eq_d dc_Ratio_eq_d pm_Ratio_eq_d an_Ratio_eq_d cd_Ratio_eq_d ct_Ratio_eq_d), sl_Ratio_eq_d⟩)
    (c_Ratio_eq_d : PySem.W.codeIn K cd_Ratio_eq_d "Ratio.__eq__" = true)
    (k_Ratio_eq_d : PySem.W.keepIn K (.ref f_Ratio_eq_d) = true)
    (a_Ratio_ne_d : PySem.W.findIn K (.ref C_Ratio) "__ne__" = some (some (.ref f_Ratio_ne_d)))
    (i_Ratio_ne_d : PySem.W.isFn K (.ref f_Ratio_ne_d) = true)
    (l_Ratio_ne_d : K.lookup f_Ratio_ne_d = some ⟨oc_Ratio_ne_d, od_Ratio_ne_d, .func (PySem.W.fnOf "__ne__" "Ratio.__ne__" (defArgs s_Ratio_ne_d) (defBody s_Ratio_ne_d) (defScope s_Ratio_ne_d) .none kV_Ratio_ne_d dc_Ratio_ne_d pm_Ratio_ne_d an_Ratio_ne_d cd_Ratio_ne_d ct_Ratio_ne_d), sl_Ratio_ne_d⟩)
    (c_Ratio_ne_d : PySem.W.codeIn K cd_Ratio_ne_d "Ratio.__ne__" = true)
    (k_Ratio_ne_d : PySem.W.keepIn K (.ref f_Ratio_ne_d) = true)
    (a_Ratio_lt_d : PySem.W.findIn K (.ref C_Ratio) "__lt__" = some (some (.ref f_Ratio_lt_d)))
    (i_Ratio_lt_d : PySem.W.isFn K (.ref f_Ratio_lt_d) = true)
    (l_Ratio_lt_d : K.lookup f_Ratio_lt_d = some ⟨oc_Ratio_lt_d, od_Ratio_lt_d, .func (PySem.W.fnOf "__lt__" "Ratio.__lt__" (defArgs s_Ratio_lt_d) (defBody s_Ratio_lt_d) (defScope s_Ratio_lt_d) .none kV_Ratio_lt_d dc_Ratio_lt_d pm_Ratio_lt_d an_Ratio_lt_d cd_Ratio_lt_d ct_Ratio_lt_d), sl_Ratio_lt_d⟩)
    (c_Ratio_lt_d : PySem.W.codeIn K cd_Ratio_lt_d "Ratio.__lt__" = true)
    (k_Ratio_lt_d : PySem.W.keepIn K (.ref f_Ratio_lt_d) = true)
    (a_Ratio_le_d : PySem.W.findIn K (.ref C_Ratio) "__le__" = some (some (.ref f_Ratio_le_d)))
    (i_Ratio_le_d : PySem.W.isFn K (.ref f_Ratio_le_d) = true)
    (l_Ratio_le_d : K.lookup f_Ratio_le_d = some ⟨oc_Ratio_le_d, od_Ratio_le_d, .func (PySem.W.fnOf "__le__" "Ratio.__le__" (defArgs s_Ratio_le_d) (defBody s_Ratio_le_d) (defScope s_Ratio_le_d) .none kV_Ratio_le_d dc_Ratio_le_d pm_Ratio_le_d an_Ratio_le_d cd_Ratio_le_d ct_Ratio_le_d), sl_Ratio_le_d⟩)
    (c_Ratio_le_d : PySem.W.codeIn K cd_Ratio_le_d "Ratio.__le__" = true)
    (k_Ratio_le_d : PySem.W.keepIn K (.ref f_Ratio_le_d) = true)
    (a_Ratio_ge_d : PySem.W.findIn K (.ref C_Ratio) "__ge__" = some (some (.ref f_Ratio_ge_d)))
    (i_Ratio_ge_d : PySem.W.isFn K (.ref f_Ratio_ge_d) = true)
    (l_Ratio_ge_d : K.lookup f_Ratio_ge_d = some ⟨oc_Ratio_ge_d, od_Ratio_ge_d, .func (PySem.W.fnOf "__ge__" "Ratio.__ge__" (defArgs s_Ratio_ge_d) (defBody s_Ratio_ge_d) (defScope s_Ratio_ge_d) .none kV_Ratio_ge_d dc_Ratio_ge_d pm_Ratio_ge_d an_Ratio_ge_d cd_Ratio_ge_d ct_Ratio_ge_d), sl_Ratio_ge_d⟩)
    (c_Ratio_ge_d : PySem.W.codeIn K cd_Ratio_ge_d "Ratio.__ge__" = true)
    (k_Ratio_ge_d : PySem.W.keepIn K (.ref f_Ratio_ge_d) = true)
    (a_Ratio_str_d : PySem.W.findIn K (.ref C_Ratio) "__str__" = some (some (.ref f_Ratio_str_d)))
    (i_Ratio_str_d : PySem.W.isFn K (.ref f_Ratio_str_d) = true)
    (l_Ratio_str_d : K.lookup f_Ratio_str_d = some ⟨oc_Ratio_str_d, od_Ratio_str_d, .func (PySem.W.fnOf "__str__" "Ratio.__str__" (defArgs s_Ratio_str_d) (defBody s_Ratio_str_d) (defScope s_Ratio_str_d) .none kV_Ratio_str_d dc_Ratio_str_d pm_Ratio_str_d an_Ratio_str_d cd_Ratio_str_d ct_Ratio_str_d), sl_Ratio_str_d⟩)
    (c_Ratio_str_d : PySem.W.codeIn K cd_Ratio_str_d "Ratio.__str__" = true)
    (k_Ratio_str_d : PySem.W.keepIn K (.ref f_Ratio_str_d) = true)
    (a_is_number : PySem.W.nsIn K mainGlobals "is_number" = some (some (.ref f_is_number)))
    (l_is_number : K.lookup f_is_number = some ⟨oc_is_number, od_is_number, .func (PySem.W.fnOf "is_number" "is_number" (defArgs s_is_number) (defBody s_is_number) (defScope s_is_number) .none kV_is_number dc_is_number pm_is_number an_is_number cd_is_number ct_is_number), sl_is_number⟩)
    (c_is_number : PySem.W.codeIn K cd_is_number "is_number" = true)
    (k_is_number : PySem.W.keepIn K (.ref f_is_number) = true)
    (a_lead : PySem.W.nsIn K mainGlobals "lead" = some (some (.ref f_lead)))
    (l_lead : K.lookup f_lead = some ⟨oc_lead, od_lead, .func (PySem.W.fnOf "lead" "lead" (defArgs s_lead) (defBody s_lead) (defScope s_lead) .none kV_lead dc_lead pm_lead an_lead cd_lead ct_lead), sl_lead⟩)
    (c_lead : PySem.W.codeIn K cd_lead "lead" = true)
    (k_lead : PySem.W.keepIn K (.ref f_lead) = true)
    (a_in_order : PySem.W.nsIn K mainGlobals "in_order" = some (some (.ref f_in_order)))
    (l_in_order : K.lookup f_in_order = some ⟨oc_in_order, od_in_order, .func (PySem.W.fnOf "in_order" "in_order" (defArgs s_in_order) (defBody s_in_order) (defScope s_in_order) .none kV_in_order dc_in_order pm_in_order an_in_order cd_in_order ct_in_order), sl_in_order⟩)
    (c_in_order : PySem.W.codeIn K cd_in_order "in_order" = true)
    (k_in_order : PySem.W.keepIn K (.ref f_in_order) = true)
    (a_sorted_by : PySem.W.nsIn K mainGlobals "sorted_by" = some (some (.ref f_sorted_by)))
    (l_sorted_by : K.lookup f_sorted_by = some ⟨oc_sorted_by, od_sorted_by, .func (PySem.W.fnOf "sorted_by" "sorted_by" (defArgs s_sorted_by) (defBody s_sorted_by) (defScope s_sorted_by) .none kV_sorted_by dc_sorted_by pm_sorted_by an_sorted_by cd_sorted_by ct_sorted_by), sl_sorted_by⟩)
    (c_sorted_by : PySem.W.codeIn K cd_sorted_by "sorted_by" = true)
    (k_sorted_by : PySem.W.keepIn K (.ref f_sorted_by) = true)
    (a_scale_of : PySem.W.nsIn K mainGlobals "scale_of" = some (some (.ref f_scale_of)))
    (l_scale_of : K.lookup f_scale_of = some ⟨oc_scale_of, od_scale_of, .func (PySem.W.fnOf "scale_of" "scale_of" (defArgs s_scale_of) (defBody s_scale_of) (defScope s_scale_of) .none kV_scale_of dc_scale_of pm_scale_of an_scale_of cd_scale_of ct_scale_of), sl_scale_of⟩)
    (c_scale_of : PySem.W.codeIn K cd_scale_of "scale_of" = true)
    (k_scale_of : PySem.W.keepIn K (.ref f_scale_of) = true)
    (a_scaled : PySem.W.nsIn K mainGlobals "scaled" = some (some (.ref f_scaled)))
    (l_scaled : K.lookup f_scaled = some ⟨oc_scaled, od_scaled, .func (PySem.W.fnOf "scaled" "scaled" (defArgs s_scaled) (defBody s_scaled) (defScope s_scaled) .none kV_scaled dc_scaled pm_scaled an_scaled cd_scaled ct_scaled), sl_scaled⟩)
    (c_scaled : PySem.W.codeIn K cd_scaled "scaled" = true)
    (k_scaled : PySem.W.keepIn K (.ref f_scaled) = true)
    (a_blocks_of : PySem.W.nsIn K mainGlobals "blocks_of" = some (some (.ref f_blocks_of)))
    (l_blocks_of : K.lookup f_blocks_of = some ⟨oc_blocks_of, od_blocks_of, .func (PySem.W.fnOf "blocks_of" "blocks_of" (defArgs s_blocks_of) (defBody s_blocks_of) (defScope s_blocks_of) .none kV_blocks_of dc_blocks_of pm_blocks_of an_blocks_of cd_blocks_of ct_blocks_of), sl_blocks_of⟩)
    (c_blocks_of : PySem.W.codeIn K cd_blocks_of "blocks_of" = true)
    (k_blocks_of : PySem.W.keepIn K (.ref f_blocks_of) = true)
    (a_joined : PySem.W.nsIn K mainGlobals "joined" = some (some (.ref f_joined)))
    (l_joined : K.lookup f_joined = some ⟨oc_joined, od_joined, .func (PySem.W.fnOf "joined" "joined" (defArgs s_joined) (defBody s_joined) (defScope s_joined) .none kV_joined dc_joined pm_joined an_joined cd_joined ct_joined), sl_joined⟩)
    (c_joined : PySem.W.codeIn K cd_joined "joined" = true)
    (k_joined : PySem.W.keepIn K (.ref f_joined) = true)
    (a_touch : PySem.W.nsIn K mainGlobals "touch" = some (some (.ref f_touch)))
    (l_touch : K.lookup f_touch = some ⟨oc_touch, od_touch, .func (PySem.W.fnOf "touch" "touch" (defArgs s_touch) (defBody s_touch) (defScope s_touch) .none kV_touch dc_touch pm_touch an_touch cd_touch ct_touch), sl_touch⟩)
    (c_touch : PySem.W.codeIn K cd_touch "touch" = true)
    (k_touch : PySem.W.keepIn K (.ref f_touch) = true)
    (a_held : PySem.W.nsIn K mainGlobals "held" = some (some (.ref f_held)))
    (l_held : K.lookup f_held = some ⟨oc_held, od_held, .func (PySem.W.fnOf "held" "held" (defArgs s_held) (defBody s_held) (defScope s_held) .none kV_held dc_held pm_held an_held cd_held ct_held), sl_held⟩)
    (c_held : PySem.W.codeIn K cd_held "held" = true)
    (k_held : PySem.W.keepIn K (.ref f_held) = true)
    (a_run_together : PySem.W.nsIn K mainGlobals "run_together" = some (some (.ref f_run_together)))
    (l_run_together : K.lookup f_run_together = some ⟨oc_run_together, od_run_together, .func (PySem.W.fnOf "run_together" "run_together" (defArgs s_run_together) (defBody s_run_together) (defScope s_run_together) (.ref T_run_together) kV_run_together dc_run_together pm_run_together an_run_together cd_run_together ct_run_together), sl_run_together⟩)
    (dl_run_together : K.lookup T_run_together = some to_run_together)
    (dd_run_together : to_run_together.data = .seq ti_run_together.toArray tn_run_together)
    (dv_run_together : Vals [V.non] ti_run_together)
    (c_run_together : PySem.W.codeIn K cd_run_together "run_together" = true)
    (k_run_together : PySem.W.keepIn K (.ref f_run_together) = true)
    (a_Pool_init_d : PySem.W.findIn K (.ref C_Pool) "__init__" = some (some (.ref f_Pool_init_d)))
    (i_Pool_init_d : PySem.W.isFn K (.ref f_Pool_init_d) = true)
    (l_Pool_init_d : K.lookup f_Pool_init_d = some ⟨oc_Pool_init_d, od_Pool_init_d, .func (PySem.W.fnOf "__init__" "Pool.__init__" (defArgs s_Pool_init_d) (defBody s_Pool_init_d) (defScope s_Pool_init_d) .none kV_Pool_init_d dc_Pool_init_d pm_Pool_init_d an_Pool_init_d cd_Pool_init_d ct_Pool_init_d), sl_Pool_init_d⟩)
    (c_Pool_init_d : PySem.W.codeIn K cd_Pool_init_d "Pool.__init__" = true)
    (k_Pool_init_d : PySem.W.keepIn K (.ref f_Pool_init_d) = true)
    (a_Pool_middle : PySem.W.findIn K (.ref C_Pool) "middle" = some (some (.ref p_Pool_middle)))
    (pg_Pool_middle : PySem.W.specialIn K (.ref p_Pool_middle) "__get__" = some (some (.builtin "property.__get__")))
    (pt_Pool_middle : PySem.W.takesIn K (.ref p_Pool_middle) = some true)
    (r_Pool_middle : PySem.W.recIn K p_Pool_middle "property" = some (.ref f_Pool_middle :: rs_Pool_middle))
    (l_Pool_middle : K.lookup f_Pool_middle = some ⟨oc_Pool_middle, od_Pool_middle, .func (PySem.W.fnOf "middle" "Pool.middle" (defArgs s_Pool_middle) (defBody s_Pool_middle) (defScope s_Pool_middle) .none kV_Pool_middle dc_Pool_middle pm_Pool_middle an_Pool_middle cd_Pool_middle ct_Pool_middle), sl_Pool_middle⟩)
    (c_Pool_middle : PySem.W.codeIn K cd_Pool_middle "Pool.middle" = true)
    (k_Pool_middle : PySem.W.keepIn K (.ref f_Pool_middle) = true)
    (a_Pool_volume : PySem.W.findIn K (.ref C_Pool) "volume" = some (some (.ref p_Pool_volume)))
    (pg_Pool_volume : PySem.W.specialIn K (.ref p_Pool_volume) "__get__" = some (some (.builtin "property.__get__")))
    (pt_Pool_volume : PySem.W.takesIn K (.ref p_Pool_volume) = some true)
    (r_Pool_volume : PySem.W.recIn K p_Pool_volume "property" = some (.ref f_Pool_volume :: rs_Pool_volume))
    (l_Pool_volume : K.lookup f_Pool_volume = some ⟨oc_Pool_volume, od_Pool_volume, .func (PySem.W.fnOf "volume" "Pool.volume" (defArgs s_Pool_volume) (defBody s_Pool_volume) (defScope s_Pool_volume) .none kV_Pool_volume dc_Pool_volume pm_Pool_volume an_Pool_volume cd_Pool_volume ct_Pool_volume), sl_Pool_volume⟩)
    (c_Pool_volume : PySem.W.codeIn K cd_Pool_volume "Pool.volume" = true)
    (k_Pool_volume : PySem.W.keepIn K (.ref f_Pool_volume) = true)
    (a_Pool_left : PySem.W.findIn K (.ref C_Pool) "left" = some (some (.ref p_Pool_left)))
    (pg_Pool_left : PySem.W.specialIn K (.ref p_Pool_left) "__get__" = some (some (.builtin "property.__get__")))
    (pt_Pool_left : PySem.W.takesIn K (.ref p_Pool_left) = some true)
    (r_Pool_left : PySem.W.recIn K p_Pool_left "property" = some (.ref f_Pool_left :: rs_Pool_left))
    (l_Pool_left : K.lookup f_Pool_left = some ⟨oc_Pool_left, od_Pool_left, .func (PySem.W.fnOf "left" "Pool.left" (defArgs s_Pool_left) (defBody s_Pool_left) (defScope s_Pool_left) .none kV_Pool_left dc_Pool_left pm_Pool_left an_Pool_left cd_Pool_left ct_Pool_left), sl_Pool_left⟩)
    (c_Pool_left : PySem.W.codeIn K cd_Pool_left "Pool.left" = true)
    (k_Pool_left : PySem.W.keepIn K (.ref f_Pool_left) = true)
    (a_Pool_right : PySem.W.findIn K (.ref C_Pool) "right" = some (some (.ref p_Pool_right)))
    (pg_Pool_right : PySem.W.specialIn K (.ref p_Pool_right) "__get__" = some (some (.builtin "property.__get__")))
    (pt_Pool_right : PySem.W.takesIn K (.ref p_Pool_right) = some true)
    (r_Pool_right : PySem.W.recIn K p_Pool_right "property" = some (.ref f_Pool_right :: rs_Pool_right))
    (l_Pool_right : K.lookup f_Pool_right = some ⟨oc_Pool_right, od_Pool_right, .func (PySem.W.fnOf "right" "Pool.right" (defArgs s_Pool_right) (defBody s_Pool_right) (defScope s_Pool_right) .none kV_Pool_right dc_Pool_right pm_Pool_right an_Pool_right cd_Pool_right ct_Pool_right), sl_Pool_right⟩)
    (c_Pool_right : PySem.W.codeIn K cd_Pool_right "Pool.right" = true)
    (k_Pool_right : PySem.W.keepIn K (.ref f_Pool_right) = true)
    (a_Pool_eq_d : PySem.W.findIn K (.ref C_Pool) "__eq__" = some (some (.ref f_Pool_eq_d)))
    (i_Pool_eq_d : PySem.W.isFn K (.ref f_Pool_eq_d) = true)
    (l_Pool_eq_d : K.lookup f_Pool_eq_d = some ⟨oc_Pool_eq_d, od_Pool_eq_d, .func (PySem.W.fnOf "__eq__" "Pool.__eq__" (defArgs s_Pool_eq_d) (defBody s_Pool_eq_d) (defScope s_Pool_eq_d) .none kV_Pool_eq_d dc_Pool_eq_d pm_Pool_eq_d an_Pool_eq_d cd_Pool_eq_d ct_Pool_eq_d), sl_Pool_eq_d⟩)
    (c_Pool_eq_d : PySem.W.codeIn K cd_Pool_eq_d "Pool.__eq__" = true)
    (k_Pool_eq_d : PySem.W.keepIn K (.ref f_Pool_eq_d) = true)
    (a_Water_init_d : PySem.W.findIn K (.ref C_Water) "__init__" = some (some (.ref f_Water_init_d)))
    (i_Water_init_d : PySem.W.isFn K (.ref f_Water_init_d) = true)
    (l_Water_init_d : K.lookup f_Water_init_d = some ⟨oc_Water_init_d, od_Water_init_d, .func (PySem.W.fnOf "__init__" "Water.__init__" (defArgs s_Water_init_d) (defBody s_Water_init_d) (defScope s_Water_init_d) (.ref T_Water_init_d) kV_Water_init_d dc_Water_init_d pm_Water_init_d an_Water_init_d cd_Water_init_d ct_Water_init_d), sl_Water_init_d⟩)
    (dl_Water_init_d : K.lookup T_Water_init_d = some to_Water_init_d)
    (dd_Water_init_d : to_Water_init_d.data = .seq ti_Water_init_d.toArray tn_Water_init_d)
    (dv_Water_init_d : Vals [V.ref e_empty] ti_Water_init_d)
    (c_Water_init_d : PySem.W.codeIn K cd_Water_init_d "Water.__init__" = true)
    (k_Water_init_d : PySem.W.keepIn K (.ref f_Water_init_d) = true)
    (a_Water_settled : PySem.W.findCls K (.ref C_Water) (.type "type") "settled" = some (.get (.builtin "classmethod.__get__") (.ref p_Water_settled) .none (.ref C_Water)))
    (r_Water_settled : PySem.W.recIn K p_Water_settled "classmethod" = some (.ref f_Water_settled :: rs_Water_settled))
    (i_Water_settled : PySem.W.fnIn K f_Water_settled = true)
    (l_Water_settled : K.lookup f_Water_settled = some ⟨oc_Water_settled, od_Water_settled, .func (PySem.W.fnOf "settled" "Water.settled" (defArgs s_Water_settled) (defBody s_Water_settled) (defScope s_Water_settled) .none kV_Water_settled dc_Water_settled pm_Water_settled an_Water_settled cd_Water_settled ct_Water_settled), sl_Water_settled⟩)
    (c_Water_settled : PySem.W.codeIn K cd_Water_settled "Water.settled" = true)
    (k_Water_settled : PySem.W.keepIn K (.ref f_Water_settled) = true)
    (a_Water_getitem_d : PySem.W.findIn K (.ref C_Water) "__getitem__" = some (some (.ref f_Water_getitem_d)))
    (i_Water_getitem_d : PySem.W.isFn K (.ref f_Water_getitem_d) = true)
    (l_Water_getitem_d : K.lookup f_Water_getitem_d = some ⟨oc_Water_getitem_d, od_Water_getitem_d, .func (PySem.W.fnOf "__getitem__" "Water.__getitem__" (defArgs s_Water_getitem_d) (defBody s_Water_getitem_d) (defScope s_Water_getitem_d) .none kV_Water_getitem_d dc_Water_getitem_d pm_Water_getitem_d an_Water_getitem_d cd_Water_getitem_d ct_Water_getitem_d), sl_Water_getitem_d⟩)
    (c_Water_getitem_d : PySem.W.codeIn K cd_Water_getitem_d "Water.__getitem__" = true)
    (k_Water_getitem_d : PySem.W.keepIn K (.ref f_Water_getitem_d) = true)
    (fn_Water_getitem_d : PySem.W.fnIn K f_Water_getitem_d = true)
    (a_Water_len_d : PySem.W.findIn K (.ref C_Water) "__len__" = some (some (.ref f_Water_len_d)))
    (i_Water_len_d : PySem.W.isFn K (.ref f_Water_len_d) = true)
    (l_Water_len_d : K.lookup f_Water_len_d = some ⟨oc_Water_len_d, od_Water_len_d, .func (PySem.W.fnOf "__len__" "Water.__len__" (defArgs s_Water_len_d) (defBody s_Water_len_d) (defScope s_Water_len_d) .none kV_Water_len_d dc_Water_len_d pm_Water_len_d an_Water_len_d cd_Water_len_d ct_Water_len_d), sl_Water_len_d⟩)
    (c_Water_len_d : PySem.W.codeIn K cd_Water_len_d "Water.__len__" = true)
    (k_Water_len_d : PySem.W.keepIn K (.ref f_Water_len_d) = true)
    (a_Water_eq_d : PySem.W.findIn K (.ref C_Water) "__eq__" = some (some (.ref f_Water_eq_d)))
    (i_Water_eq_d : PySem.W.isFn K (.ref f_Water_eq_d) = true)
    (l_Water_eq_d : K.lookup f_Water_eq_d = some ⟨oc_Water_eq_d, od_Water_eq_d, .func (PySem.W.fnOf "__eq__" "Water.__eq__" (defArgs s_Water_eq_d) (defBody s_Water_eq_d) (defScope s_Water_eq_d) .none kV_Water_eq_d dc_Water_eq_d pm_Water_eq_d an_Water_eq_d cd_Water_eq_d ct_Water_eq_d), sl_Water_eq_d⟩)
    (c_Water_eq_d : PySem.W.codeIn K cd_Water_eq_d "Water.__eq__" = true)
    (k_Water_eq_d : PySem.W.keepIn K (.ref f_Water_eq_d) = true)
    (a_Water_le_d : PySem.W.findIn K (.ref C_Water) "__le__" = some (some (.ref f_Water_le_d)))
    (i_Water_le_d : PySem.W.isFn K (.ref f_Water_le_d) = true)
    (l_Water_le_d : K.lookup f_Water_le_d = some ⟨oc_Water_le_d, od_Water_le_d, .func (PySem.W.fnOf "__le__" "Water.__le__" (defArgs s_Water_le_d) (defBody s_Water_le_d) (defScope s_Water_le_d) .none kV_Water_le_d dc_Water_le_d pm_Water_le_d an_Water_le_d cd_Water_le_d ct_Water_le_d), sl_Water_le_d⟩)
    (c_Water_le_d : PySem.W.codeIn K cd_Water_le_d "Water.__le__" = true)
    (k_Water_le_d : PySem.W.keepIn K (.ref f_Water_le_d) = true)
    (a_Water_lt_d : PySem.W.findIn K (.ref C_Water) "__lt__" = some (some (.ref f_Water_lt_d)))
    (i_Water_lt_d : PySem.W.isFn K (.ref f_Water_lt_d) = true)
    (l_Water_lt_d : K.lookup f_Water_lt_d = some ⟨oc_Water_lt_d, od_Water_lt_d, .func (PySem.W.fnOf "__lt__" "Water.__lt__" (defArgs s_Water_lt_d) (defBody s_Water_lt_d) (defScope s_Water_lt_d) .none kV_Water_lt_d dc_Water_lt_d pm_Water_lt_d an_Water_lt_d cd_Water_lt_d ct_Water_lt_d), sl_Water_lt_d⟩)
    (c_Water_lt_d : PySem.W.codeIn K cd_Water_lt_d "Water.__lt__" = true)
    (k_Water_lt_d : PySem.W.keepIn K (.ref f_Water_lt_d) = true)
    (a_Water_ge_d : PySem.W.findIn K (.ref C_Water) "__ge__" = some (some (.ref f_Water_ge_d)))
    (i_Water_ge_d : PySem.W.isFn K (.ref f_Water_ge_d) = true)
    (l_Water_ge_d : K.lookup f_Water_ge_d = some ⟨oc_Water_ge_d, od_Water_ge_d, .func (PySem.W.fnOf "__ge__" "Water.__ge__" (defArgs s_Water_ge_d) (defBody s_Water_ge_d) (defScope s_Water_ge_d) .none kV_Water_ge_d dc_Water_ge_d pm_Water_ge_d an_Water_ge_d cd_Water_ge_d ct_Water_ge_d), sl_Water_ge_d⟩)
    (c_Water_ge_d : PySem.W.codeIn K cd_Water_ge_d "Water.__ge__" = true)
    (k_Water_ge_d : PySem.W.keepIn K (.ref f_Water_ge_d) = true)
    (a_Water_gt_d : PySem.W.findIn K (.ref C_Water) "__gt__" = some (some (.ref f_Water_gt_d)))
    (i_Water_gt_d : PySem.W.isFn K (.ref f_Water_gt_d) = true)
    (l_Water_gt_d : K.lookup f_Water_gt_d = some ⟨oc_Water_gt_d, od_Water_gt_d, .func (PySem.W.fnOf "__gt__" "Water.__gt__" (defArgs s_Water_gt_d) (defBody s_Water_gt_d) (defScope s_Water_gt_d) .none kV_Water_gt_d dc_Water_gt_d pm_Water_gt_d an_Water_gt_d cd_Water_gt_d ct_Water_gt_d), sl_Water_gt_d⟩)
    (c_Water_gt_d : PySem.W.codeIn K cd_Water_gt_d "Water.__gt__" = true)
    (k_Water_gt_d : PySem.W.keepIn K (.ref f_Water_gt_d) = true)
    (a_Water_str_d : PySem.W.findIn K (.ref C_Water) "__str__" = some (some (.ref f_Water_str_d)))
    (i_Water_str_d : PySem.W.isFn K (.ref f_Water_str_d) = true)
    (l_Water_str_d : K.lookup f_Water_str_d = some ⟨oc_Water_str_d, od_Water_str_d, .func (PySem.W.fnOf "__str__" "Water.__str__" (defArgs s_Water_str_d) (defBody s_Water_str_d) (defScope s_Water_str_d) .none kV_Water_str_d dc_Water_str_d pm_Water_str_d an_Water_str_d cd_Water_str_d ct_Water_str_d), sl_Water_str_d⟩)
    (c_Water_str_d : PySem.W.codeIn K cd_Water_str_d "Water.__str__" = true)
    (k_Water_str_d : PySem.W.keepIn K (.ref f_Water_str_d) = true)
    (a_settled_pools : PySem.W.nsIn K mainGlobals "settled_pools" = some (some (.ref f_settled_pools)))
    (l_settled_pools : K.lookup f_settled_pools = some ⟨oc_settled_pools, od_settled_pools, .func (PySem.W.fnOf "settled_pools" "settled_pools" (defArgs s_settled_pools) (defBody s_settled_pools) (defScope s_settled_pools) .none kV_settled_pools dc_settled_pools pm_settled_pools an_settled_pools cd_settled_pools ct_settled_pools), sl_settled_pools⟩)
    (c_settled_pools : PySem.W.codeIn K cd_settled_pools "settled_pools" = true)
    (k_settled_pools : PySem.W.keepIn K (.ref f_settled_pools) = true)
    (a_lie_within : PySem.W.nsIn K mainGlobals "lie_within" = some (some (.ref f_lie_within)))
    (l_lie_within : K.lookup f_lie_within = some ⟨oc_lie_within, od_lie_within, .func (PySem.W.fnOf "lie_within" "lie_within" (defArgs s_lie_within) (defBody s_lie_within) (defScope s_lie_within) .none kV_lie_within dc_lie_within pm_lie_within an_lie_within cd_lie_within ct_lie_within), sl_lie_within⟩)
    (c_lie_within : PySem.W.codeIn K cd_lie_within "lie_within" = true)
    (k_lie_within : PySem.W.keepIn K (.ref f_lie_within) = true)
    (a_row_of : PySem.W.nsIn K mainGlobals "row_of" = some (some (.ref f_row_of)))
    (l_row_of : K.lookup f_row_of = some ⟨oc_row_of, od_row_of, .func (PySem.W.fnOf "row_of" "row_of" (defArgs s_row_of) (defBody s_row_of) (defScope s_row_of) .none kV_row_of dc_row_of pm_row_of an_row_of cd_row_of ct_row_of), sl_row_of⟩)
    (c_row_of : PySem.W.codeIn K cd_row_of "row_of" = true)
    (k_row_of : PySem.W.keepIn K (.ref f_row_of) = true)
    (a_lw_box : PySem.W.nsIn K mainGlobals "_law_box" = some (some (.ref f_lw_box)))
    (l_lw_box : K.lookup f_lw_box = some ⟨oc_lw_box, od_lw_box, .func (PySem.W.fnOf "_law_box" "_law_box" (defArgs s_lw_box) (defBody s_lw_box) (defScope s_lw_box) .none kV_lw_box dc_lw_box pm_lw_box an_lw_box cd_lw_box ct_lw_box), sl_lw_box⟩)
    (c_lw_box : PySem.W.codeIn K cd_lw_box "_law_box" = true)
    (k_lw_box : PySem.W.keepIn K (.ref f_lw_box) = true)
    (a_lw_take : PySem.W.nsIn K mainGlobals "_law_take" = some (some (.ref f_lw_take)))
    (l_lw_take : K.lookup f_lw_take = some ⟨oc_lw_take, od_lw_take, .func (PySem.W.fnOf "_law_take" "_law_take" (defArgs s_lw_take) (defBody s_lw_take) (defScope s_lw_take) .none kV_lw_take dc_lw_take pm_lw_take an_lw_take cd_lw_take ct_lw_take), sl_lw_take⟩)
    (c_lw_take : PySem.W.codeIn K cd_lw_take "_law_take" = true)
    (k_lw_take : PySem.W.keepIn K (.ref f_lw_take) = true)
    (a_lw_scene : PySem.W.nsIn K mainGlobals "_law_scene" = some (some (.ref f_lw_scene)))
    (l_lw_scene : K.lookup f_lw_scene = some ⟨oc_lw_scene, od_lw_scene, .func (PySem.W.fnOf "_law_scene" "_law_scene" (defArgs s_lw_scene) (defBody s_lw_scene) (defScope s_lw_scene) .none kV_lw_scene dc_lw_scene pm_lw_scene an_lw_scene cd_lw_scene ct_lw_scene), sl_lw_scene⟩)
    (c_lw_scene : PySem.W.codeIn K cd_lw_scene "_law_scene" = true)
    (k_lw_scene : PySem.W.keepIn K (.ref f_lw_scene) = true)
    (a_lw_number : PySem.W.nsIn K mainGlobals "_law_number" = some (some (.ref f_lw_number)))
    (l_lw_number : K.lookup f_lw_number = some ⟨oc_lw_number, od_lw_number, .func (PySem.W.fnOf "_law_number" "_law_number" (defArgs s_lw_number) (defBody s_lw_number) (defScope s_lw_number) .none kV_lw_number dc_lw_number pm_lw_number an_lw_number cd_lw_number ct_lw_number), sl_lw_number⟩)
    (c_lw_number : PySem.W.codeIn K cd_lw_number "_law_number" = true)
    (k_lw_number : PySem.W.keepIn K (.ref f_lw_number) = true)
    (a_lw_is : PySem.W.nsIn K mainGlobals "_law_is" = some (some (.ref f_lw_is)))
    (l_lw_is : K.lookup f_lw_is = some ⟨oc_lw_is, od_lw_is, .func (PySem.W.fnOf "_law_is" "_law_is" (defArgs s_lw_is) (defBody s_lw_is) (defScope s_lw_is) .none kV_lw_is dc_lw_is pm_lw_is an_lw_is cd_lw_is ct_lw_is), sl_lw_is⟩)
    (c_lw_is : PySem.W.codeIn K cd_lw_is "_law_is" = true)
    (k_lw_is : PySem.W.keepIn K (.ref f_lw_is) = true)
    (a_lw_ordered : PySem.W.nsIn K mainGlobals "_law_ordered" = some (some (.ref f_lw_ordered)))
    (l_lw_ordered : K.lookup f_lw_ordered = some ⟨oc_lw_ordered, od_lw_ordered, .func (PySem.W.fnOf "_law_ordered" "_law_ordered" (defArgs s_lw_ordered) (defBody s_lw_ordered) (defScope s_lw_ordered) .none kV_lw_ordered dc_lw_ordered pm_lw_ordered an_lw_ordered cd_lw_ordered ct_lw_ordered), sl_lw_ordered⟩)
    (c_lw_ordered : PySem.W.codeIn K cd_lw_ordered "_law_ordered" = true)
    (k_lw_ordered : PySem.W.keepIn K (.ref f_lw_ordered) = true)
    (a_lw_touch : PySem.W.nsIn K mainGlobals "_law_touch" = some (some (.ref f_lw_touch)))
    (l_lw_touch : K.lookup f_lw_touch = some ⟨oc_lw_touch, od_lw_touch, .func (PySem.W.fnOf "_law_touch" "_law_touch" (defArgs s_lw_touch) (defBody s_lw_touch) (defScope s_lw_touch) .none kV_lw_touch dc_lw_touch pm_lw_touch an_lw_touch cd_lw_touch ct_lw_touch), sl_lw_touch⟩)
    (c_lw_touch : PySem.W.codeIn K cd_lw_touch "_law_touch" = true)
    (k_lw_touch : PySem.W.keepIn K (.ref f_lw_touch) = true)
    (a_lw_pools : PySem.W.nsIn K mainGlobals "_law_pools" = some (some (.ref f_lw_pools)))
    (l_lw_pools : K.lookup f_lw_pools = some ⟨oc_lw_pools, od_lw_pools, .func (PySem.W.fnOf "_law_pools" "_law_pools" (defArgs s_lw_pools) (defBody s_lw_pools) (defScope s_lw_pools) .none kV_lw_pools dc_lw_pools pm_lw_pools an_lw_pools cd_lw_pools ct_lw_pools), sl_lw_pools⟩)
    (c_lw_pools : PySem.W.codeIn K cd_lw_pools "_law_pools" = true)
    (k_lw_pools : PySem.W.keepIn K (.ref f_lw_pools) = true)
    (a_lw_water : PySem.W.nsIn K mainGlobals "_law_water" = some (some (.ref f_lw_water)))
    (l_lw_water : K.lookup f_lw_water = some ⟨oc_lw_water, od_lw_water, .func (PySem.W.fnOf "_law_water" "_law_water" (defArgs s_lw_water) (defBody s_lw_water) (defScope s_lw_water) .none kV_lw_water dc_lw_water pm_lw_water an_lw_water cd_lw_water ct_lw_water), sl_lw_water⟩)
    (c_lw_water : PySem.W.codeIn K cd_lw_water "_law_water" = true)
    (k_lw_water : PySem.W.keepIn K (.ref f_lw_water) = true)
    (a_lw_neighbours : PySem.W.nsIn K mainGlobals "_law_neighbours" = some (some (.ref f_lw_neighbours)))
    (l_lw_neighbours : K.lookup f_lw_neighbours = some ⟨oc_lw_neighbours, od_lw_neighbours, .func (PySem.W.fnOf "_law_neighbours" "_law_neighbours" (defArgs s_lw_neighbours) (defBody s_lw_neighbours) (defScope s_lw_neighbours) .none kV_lw_neighbours dc_lw_neighbours pm_lw_neighbours an_lw_neighbours cd_lw_neighbours ct_lw_neighbours), sl_lw_neighbours⟩)
    (c_lw_neighbours : PySem.W.codeIn K cd_lw_neighbours "_law_neighbours" = true)
    (k_lw_neighbours : PySem.W.keepIn K (.ref f_lw_neighbours) = true)
    (a_lw_says : PySem.W.nsIn K mainGlobals "_law_says" = some (some (.ref f_lw_says)))
    (l_lw_says : K.lookup f_lw_says = some ⟨oc_lw_says, od_lw_says, .func (PySem.W.fnOf "_law_says" "_law_says" (defArgs s_lw_says) (defBody s_lw_says) (defScope s_lw_says) .none kV_lw_says dc_lw_says pm_lw_says an_lw_says cd_lw_says ct_lw_says), sl_lw_says⟩)
    (c_lw_says : PySem.W.codeIn K cd_lw_says "_law_says" = true)
    (k_lw_says : PySem.W.keepIn K (.ref f_lw_says) = true)
    (a_lw_is_water : PySem.W.nsIn K mainGlobals "_law_is_water" = some (some (.ref f_lw_is_water)))
    (l_lw_is_water : K.lookup f_lw_is_water = some ⟨oc_lw_is_water, od_lw_is_water, .func (PySem.W.fnOf "_law_is_water" "_law_is_water" (defArgs s_lw_is_water) (defBody s_lw_is_water) (defScope s_lw_is_water) .none kV_lw_is_water dc_lw_is_water pm_lw_is_water an_lw_is_water cd_lw_is_water ct_lw_is_water), sl_lw_is_water⟩)
    (c_lw_is_water : PySem.W.codeIn K cd_lw_is_water "_law_is_water" = true)
    (k_lw_is_water : PySem.W.keepIn K (.ref f_lw_is_water) = true)
    (a_lw_inside : PySem.W.nsIn K mainGlobals "_law_inside" = some (some (.ref f_lw_inside)))
    (l_lw_inside : K.lookup f_lw_inside = some ⟨oc_lw_inside, od_lw_inside, .func (PySem.W.fnOf "_law_inside" "_law_inside" (defArgs s_lw_inside) (defBody s_lw_inside) (defScope s_lw_inside) .none kV_lw_inside dc_lw_inside pm_lw_inside an_lw_inside cd_lw_inside ct_lw_inside), sl_lw_inside⟩)
    (c_lw_inside : PySem.W.codeIn K cd_lw_inside "_law_inside" = true)
    (k_lw_inside : PySem.W.keepIn K (.ref f_lw_inside) = true)
    (a_lw_equal : PySem.W.nsIn K mainGlobals "_law_equal" = some (some (.ref f_lw_equal)))
    (l_lw_equal : K.lookup f_lw_equal = some ⟨oc_lw_equal, od_lw_equal, .func (PySem.W.fnOf "_law_equal" "_law_equal" (defArgs s_lw_equal) (defBody s_lw_equal) (defScope s_lw_equal) .none kV_lw_equal dc_lw_equal pm_lw_equal an_lw_equal cd_lw_equal ct_lw_equal), sl_lw_equal⟩)
    (c_lw_equal : PySem.W.codeIn K cd_lw_equal "_law_equal" = true)
    (k_lw_equal : PySem.W.keepIn K (.ref f_lw_equal) = true)
    (a_lw_compared : PySem.W.nsIn K mainGlobals "_law_compared" = some (some (.ref f_lw_compared)))
    (l_lw_compared : K.lookup f_lw_compared = some ⟨oc_lw_compared, od_lw_compared, .func (PySem.W.fnOf "_law_compared" "_law_compared" (defArgs s_lw_compared) (defBody s_lw_compared) (defScope s_lw_compared) .none kV_lw_compared dc_lw_compared pm_lw_compared an_lw_compared cd_lw_compared ct_lw_compared), sl_lw_compared⟩)
    (c_lw_compared : PySem.W.codeIn K cd_lw_compared "_law_compared" = true)
    (k_lw_compared : PySem.W.keepIn K (.ref f_lw_compared) = true)
    (a_lw_many_compared : PySem.W.nsIn K mainGlobals "_law_many_compared" = some (some (.ref f_lw_many_compared)))
    (l_lw_many_compared : K.lookup f_lw_many_compared = some ⟨oc_lw_many_compared, od_lw_many_compared, .func (PySem.W.fnOf "_law_many_compared" "_law_many_compared" (defArgs s_lw_many_compared) (defBody s_lw_many_compared) (defScope s_lw_many_compared) .none kV_lw_many_compared dc_lw_many_compared pm_lw_many_compared an_lw_many_compared cd_lw_many_compared ct_lw_many_compared), sl_lw_many_compared⟩)
    (c_lw_many_compared : PySem.W.codeIn K cd_lw_many_compared "_law_many_compared" = true)
    (k_lw_many_compared : PySem.W.keepIn K (.ref f_lw_many_compared) = true)
    (a_law : PySem.W.nsIn K mainGlobals "law" = some (some (.ref f_law)))
    (l_law : K.lookup f_law = some ⟨oc_law, od_law, .func (PySem.W.fnOf "law" "law" (defArgs s_law) (defBody s_law) (defScope s_law) .none kV_law dc_law pm_law an_law cd_law ct_law), sl_law⟩)
    (c_law : PySem.W.codeIn K cd_law "law" = true)
    (k_law : PySem.W.keepIn K (.ref f_law) = true)
    (le_empty : K.lookup e_empty = some eo_empty)
    (ce_empty : eo_empty.cls = .type "tuple")
    (de_empty : eo_empty.data = .seq #[] en_empty)
    (xe_empty : True)
    : ∃ fd : FuncData, (∀ (s : Shared) (v : Value), BindsTo s fd ⟨[v], []⟩ [("_law_script", v)]) ∧ ∀ base : Heap, K.In base → base.Ns mainGlobals mg → FnG P w K mg base CX0 lv fa fd ["_law_script"] (sp K) := by
  have e := hfa.symm.trans (PySem.W.mg_of X G a_law)
  cases e
  let T : Txt K mg := {
    b_len := PySem.W.mg_none_of X G zb_len,
    b_range := PySem.W.mg_none_of X G zb_range,
    b_int := PySem.W.mg_none_of X G zb_int,
    b_str := PySem.W.mg_none_of X G zb_str,
    b_bool := PySem.W.mg_none_of X G zb_bool,
    b_abs := PySem.W.mg_none_of X G zb_abs,
    b_isinstance := PySem.W.mg_none_of X G zb_isinstance,
    b_max := PySem.W.mg_none_of X G zb_max,
    b_min := PySem.W.mg_none_of X G zb_min,
    b_tuple := PySem.W.mg_none_of X G zb_tuple,
    b_sum := PySem.W.mg_none_of X G zb_sum,
    b_zip := PySem.W.mg_none_of X G zb_zip,
    b_enumerate := PySem.W.mg_none_of X G zb_enumerate,
    b_sorted := PySem.W.mg_none_of X G zb_sorted,
    k_COLUMNS := ⟨_, PySem.W.mg_of X G kz_COLUMNS⟩,
    g_gcd := PySem.W.mg_of X G gi_gcd,
    g_lcm := PySem.W.mg_of X G gi_lcm,
    C_PoolError := C_PoolError,
    g_PoolError := PySem.W.mg_of X G gc_PoolError,
    ox_PoolError := ⟨⟨_, _, _, _, _, _, _, _, _, _, _, _, _, _, _, xl_PoolError, xr_PoolError⟩, xs_PoolError, xe_PoolError, xt_PoolError, xk_PoolError⟩,
    xf_PoolError := ⟨xa_PoolError, xg_PoolError, xe_PoolError, xh_PoolError⟩,
    ic_PoolError := xi_PoolError,
    ss_PoolError := xq_PoolError,
    C_InvalidNumber := C_InvalidNumber,
    g_InvalidNumber := PySem.W.mg_of X G gc_InvalidNumber,
    ox_InvalidNumber := ⟨⟨_, _, _, _, _, _, _, _, _, _, _, _, _, _, _, xl_InvalidNumber, xr_InvalidNumber⟩, xs_InvalidNumber, xe_InvalidNumber, xt_InvalidNumber, xk_InvalidNumber⟩,
    xf_InvalidNumber := ⟨xa_InvalidNumber, xg_InvalidNumber, xe_InvalidNumber, xh_InvalidNumber⟩,
    ic_InvalidNumber := xi_InvalidNumber,
    ss_InvalidNumber := xq_InvalidNumber,
    n_InvalidNumber_value := na_InvalidNumber_value,
    C_Touching := C_Touching,
    g_Touching := PySem.W.mg_of X G gc_Touching,
    ox_Touching := ⟨⟨_, _, _, _, _, _, _, _, _, _, _, _, _, _, _, xl_Touching, xr_Touching⟩, xs_Touching, xe_Touching, xt_Touching, xk_Touching⟩,
    xf_Touching := ⟨xa_Touching, xg_Touching, xe_Touching, xh_Touching⟩,
    ic_Touching := xi_Touching,
    ss_Touching := xq_Touching,
    ec_Touching := ⟨xa_Touching, xg_Touching, xe_Touching, xh_Touching, ea_Touching, eb_Touching, et_Touching, em_Touching⟩,
    n_Touching_index := na_Touching_index,
    C_Ratio := C_Ratio,
    g_Ratio := PySem.W.mg_of X G gc_Ratio,
    cl_Ratio := ⟨pg_Ratio, hd_Ratio, po_Ratio, sa_Ratio⟩,
    tc_Ratio := ⟨⟨tca_Ratio, tcb_Ratio, tcc_Ratio, tcd_Ratio⟩, ric_Ratio, rty_Ratio, rss_Ratio⟩,
    rd_Ratio := ⟨rda_Ratio, rdb_Ratio⟩,
    mk_Ratio := mk_Ratio,
    kp_Ratio := kc_Ratio,
    sf_Ratio := sf_Ratio,
    mr_Ratio := ⟨cd_Ratio, mra_Ratio, mrb_Ratio⟩,
    st_Ratio_int := st_Ratio_int,
    st_Ratio_bool := st_Ratio_bool,
    st_Ratio_str := st_Ratio_str,
    st_Ratio_NoneType := st_Ratio_NoneType,
    st_Ratio_tuple := st_Ratio_tuple,
    su_Ratio_int := su_Ratio_int,
    su_Ratio_bool := su_Ratio_bool,
    su_Ratio_tuple := su_Ratio_tuple,
    su_Ratio_str := su_Ratio_str,
    su_Ratio_NoneType := su_Ratio_NoneType,
    fm_Ratio := fmo_Ratio,
    n_Ratio_top := na_Ratio_top,
    n_Ratio_bottom := na_Ratio_bottom,
    C_Pool := C_Pool,
    g_Pool := PySem.W.mg_of X G gc_Pool,
    cl_Pool := ⟨pg_Pool, hd_Pool, po_Pool, sa_Pool⟩,
    tc_Pool := ⟨⟨tca_Pool, tcb_Pool, tcc_Pool, tcd_Pool⟩, ric_Pool, rty_Pool, rss_Pool⟩,
    rd_Pool := ⟨rda_Pool, rdb_Pool⟩,
    mk_Pool := mk_Pool,
    kp_Pool := kc_Pool,
    sf_Pool := sf_Pool,
    mr_Pool := ⟨cd_Pool, mra_Pool, mrb_Pool⟩,
    st_Pool_int := st_Pool_int,
    st_Pool_bool := st_Pool_bool,
    st_Pool_str := st_Pool_str,
    st_Pool_NoneType := st_Pool_NoneType,
    st_Pool_tuple := st_Pool_tuple,
    su_Pool_int := su_Pool_int,
    su_Pool_bool := su_Pool_bool,
    su_Pool_tuple := su_Pool_tuple,
    su_Pool_str := su_Pool_str,
    su_Pool_NoneType := su_Pool_NoneType,
    n_Pool__middle := na_Pool__middle,
    n_Pool__volume := na_Pool__volume,
    n_Pool__left := na_Pool__left,
    n_Pool__right := na_Pool__right,
    C_Water := C_Water,
    g_Water := PySem.W.mg_of X G gc_Water,
    cl_Water := ⟨pg_Water, hd_Water, po_Water, sa_Water⟩,
    tc_Water := ⟨⟨tca_Water, tcb_Water, tcc_Water, tcd_Water⟩, ric_Water, rty_Water, rss_Water⟩,
    rd_Water := ⟨rda_Water, rdb_Water⟩,
    mk_Water := mk_Water,
    kp_Water := kc_Water,
    sf_Water := sf_Water,
    mr_Water := ⟨cd_Water, mra_Water, mrb_Water⟩,
    st_Water_int := st_Water_int,
    st_Water_bool := st_Water_bool,
    st_Water_str := st_Water_str,
    st_Water_NoneType := st_Water_NoneType,
    st_Water_tuple := st_Water_tuple,
    su_Water_int := su_Water_int,
    su_Water_bool := su_Water_bool,
    su_Water_tuple := su_Water_tuple,
    su_Water_str := su_Water_str,
    su_Water_NoneType := su_Water_NoneType,
    ne_Water := neo_Water,
    n_Water__pools := na_Water__pools,
    sx_Touching_PoolError := sx_Touching_PoolError,
    sx_Touching_InvalidNumber := sx_Touching_InvalidNumber,
    f_InvalidNumber_init_d := f_InvalidNumber_init_d,
    d_InvalidNumber_init_d := _,
    F_InvalidNumber_init_d := fun_mk (st := s_InvalidNumber_init_d) l_InvalidNumber_init_d c_InvalidNumber_init_d k_InvalidNumber_init_d,
    B_InvalidNumber_init_d := (fun_mk (st := s_InvalidNumber_init_d) l_InvalidNumber_init_d c_InvalidNumber_init_d k_InvalidNumber_init_d).binds (ps := ["self", "value"]) fun _ _ _ _ _ _ us hl => match us, hl with | [_, _], _ => rfl,
    m_InvalidNumber_init_d := ⟨a_InvalidNumber_init_d, i_InvalidNumber_init_d⟩,
    t_InvalidNumber_init_d := beq_iff_eq.mp i_InvalidNumber_init_d,
    f_Touching_init_d := f_Touching_init_d,
    d_Touching_init_d := _,
    F_Touching_init_d := fun_mk (st := s_Touching_init_d) l_Touching_init_d c_Touching_init_d k_Touching_init_d,
    B_Touching_init_d := (fun_mk (st := s_Touching_init_d) l_Touching_init_d c_Touching_init_d k_Touching_init_d).binds (ps := ["self", "index"]) fun _ _ _ _ _ _ us hl => match us, hl with | [_, _], _ => rfl,
    m_Touching_init_d := ⟨a_Touching_init_d, i_Touching_init_d⟩,
    t_Touching_init_d := beq_iff_eq.mp i_Touching_init_d,
    f_Ratio_init_d := f_Ratio_init_d,
    d_Ratio_init_d := _,
    F_Ratio_init_d := ⟨⟨_, _, _, _, _, _, _, _, _, _, rfl, l_Ratio_init_d, c_Ratio_init_d, .inr ⟨List.cons_ne_nil _ _, T_Ratio_init_d, to_Ratio_init_d, ti_Ratio_init_d, tn_Ratio_init_d, rfl, dl_Ratio_init_d, dd_Ratio_init_d, dv_Ratio_init_d⟩, .inl rfl⟩, k_Ratio_init_d⟩,
    m_Ratio_init_d := ⟨a_Ratio_init_d, i_Ratio_init_d⟩,
    f_Ratio_of := f_Ratio_of,
    d_Ratio_of := _,
    F_Ratio_of := fun_mk (st := s_Ratio_of) l_Ratio_of c_Ratio_of k_Ratio_of,
    B_Ratio_of := (fun_mk (st := s_Ratio_of) l_Ratio_of c_Ratio_of k_Ratio_of).binds (ps := ["cls", "value"]) fun _ _ _ _ _ _ us hl => match us, hl with | [_, _], _ => rfl,
    p_Ratio_of := p_Ratio_of,
    cm_Ratio_of := ⟨a_Ratio_of, ⟨_, r_Ratio_of⟩, i_Ratio_of⟩,
    f_Ratio_over := f_Ratio_over,
    d_Ratio_over := _,
    F_Ratio_over := fun_mk (st := s_Ratio_over) l_Ratio_over c_Ratio_over k_Ratio_over,
    B_Ratio_over := (fun_mk (st := s_Ratio_over) l_Ratio_over c_Ratio_over k_Ratio_over).binds (ps := ["self", "other"]) fun _ _ _ _ _ _ us hl => match us, hl with | [_, _], _ => rfl,
    m_Ratio_over := ⟨a_Ratio_over, i_Ratio_over⟩,
    me_Ratio_over := ⟨a_Ratio_over, i_Ratio_over, k_Ratio_over⟩,
    f_Ratio_add_d := f_Ratio_add_d,
    d_Ratio_add_d := _,
    F_Ratio_add_d := fun_mk (st := s_Ratio_add_d) l_Ratio_add_d c_Ratio_add_d k_Ratio_add_d,
    B_Ratio_add_d := (fun_mk (st := s_Ratio_add_d) l_Ratio_add_d c_Ratio_add_d k_Ratio_add_d).binds (ps := ["self", "other"]) fun _ _ _ _ _ _ us hl => match us, hl with | [_, _], _ => rfl,
    m_Ratio_add_d := ⟨a_Ratio_add_d, i_Ratio_add_d⟩,
    bn_Ratio_add_d := ⟨sf_Ratio, ba_Ratio_add_d, i_Ratio_add_d, ⟨_, br_Ratio_add_d, bp_Ratio_add_d⟩, ⟨_, bl_Ratio_add_d⟩, ⟨_, bo_Ratio_add_d⟩, st_Ratio_int⟩,
    ni_Ratio_add_d := ⟨⟨_, mra_Ratio, mrb_Ratio⟩, n1_Ratio_add_d, n2_Ratio_add_d⟩,
    f_Ratio_sub_d := f_Ratio_sub_d,
    d_Ratio_sub_d := _,
    F_Ratio_sub_d := fun_mk (st := s_Ratio_sub_d) l_Ratio_sub_d c_Ratio_sub_d k_Ratio_sub_d,
    B_Ratio_sub_d := (fun_mk (st := s_Ratio_sub_d) l_Ratio_sub_d c_Ratio_sub_d k_Ratio_sub_d).binds (ps := ["self", "other"]) fun _ _ _ _ _ _ us hl => match us, hl with | [_, _], _ => rfl,
    m_Ratio_sub_d := ⟨a_Ratio_sub_d, i_Ratio_sub_d⟩,
    bn_Ratio_sub_d := ⟨sf_Ratio, ba_Ratio_sub_d, i_Ratio_sub_d, ⟨_, br_Ratio_sub_d, bp_Ratio_sub_d⟩, ⟨_, bl_Ratio_sub_d⟩, ⟨_, bo_Ratio_sub_d⟩, st_Ratio_int⟩,
    ni_Ratio_sub_d := ⟨⟨_, mra_Ratio, mrb_Ratio⟩, n1_Ratio_sub_d, n2_Ratio_sub_d⟩,
    f_Ratio_eq_d := f_Ratio_eq_d,
    d_Ratio_eq_d := _,
    F_Ratio_eq_d := fun_mk (st := s_Ratio_eq_d) l_Ratio_eq_d c_Ratio_eq_d k_Ratio_eq_d,
    B_Ratio_eq_d := (fun_mk (st := s_Ratio_eq_d) l_Ratio_eq_d c_Ratio_eq_d k_Ratio_eq_d).binds (ps := ["self", "other"]) fun _ _ _ _ _ _ us hl => match us, hl with | [_, _], _ => rfl,
    m_Ratio_eq_d := ⟨a_Ratio_eq_d, i_Ratio_eq_d⟩,
    f_Ratio_ne_d := f_Ratio_ne_d,
    d_Ratio_ne_d := _,
    F_Ratio_ne_d := fun_mk (st := s_Ratio_ne_d) l_Ratio_ne_d c_Ratio_ne_d k_Ratio_ne_d,
    B_Ratio_ne_d := (fun_mk (st := s_Ratio_ne_d) l_Ratio_ne_d c_Ratio_ne_d k_Ratio_ne_d).binds (ps := ["self", "other"]) fun _ _ _ _ _ _ us hl => match us, hl with | [_, _], _ => rfl,
    m_Ratio_ne_d := ⟨a_Ratio_ne_d, i_Ratio_ne_d⟩,
    f_Ratio_lt_d := f_Ratio_lt_d,
    d_Ratio_lt_d := _,
    F_Ratio_lt_d := fun_mk (st := s_Ratio_lt_d) l_Ratio_lt_d c_Ratio_lt_d k_Ratio_lt_d,
    B_Ratio_lt_d := (fun_mk (st := s_Ratio_lt_d) l_Ratio_lt_d c_Ratio_lt_d k_Ratio_lt_d).binds (ps := ["self", "other"]) fun _ _ _ _ _ _ us hl => match us, hl with | [_, _], _ => rfl,
    m_Ratio_lt_d := ⟨a_Ratio_lt_d, i_Ratio_lt_d⟩,
    f_Ratio_le_d := f_Ratio_le_d,
    d_Ratio_le_d := _,
    F_Ratio_le_d := fun_mk (st := s_Ratio_le_d) l_Ratio_le_d c_Ratio_le_d k_Ratio_le_d,
    B_Ratio_le_d := (fun_mk (st := s_Ratio_le_d) l_Ratio_le_d c_Ratio_le_d k_Ratio_le_d).binds (ps := ["self", "other"]) fun _ _ _ _ _ _ us hl => match us, hl with | [_, _], _ => rfl,
    m_Ratio_le_d := ⟨a_Ratio_le_d, i_Ratio_le_d⟩,
    f_Ratio_ge_d := f_Ratio_ge_d,
    d_Ratio_ge_d := _,
    F_Ratio_ge_d := fun_mk (st := s_Ratio_ge_d) l_Ratio_ge_d c_Ratio_ge_d k_Ratio_ge_d,
    B_Ratio_ge_d := (fun_mk (st := s_Ratio_ge_d) l_Ratio_ge_d c_Ratio_ge_d k_Ratio_ge_d).binds (ps := ["self", "other"]) fun _ _ _ _ _ _ us hl => match us, hl with | [_, _], _ => rfl,
    m_Ratio_ge_d := ⟨a_Ratio_ge_d, i_Ratio_ge_d⟩,
    f_Ratio_str_d := f_Ratio_str_d,
    d_Ratio_str_d := _,
    F_Ratio_str_d := fun_mk (st := s_Ratio_str_d) l_Ratio_str_d c_Ratio_str_d k_Ratio_str_d,
    B_Ratio_str_d := (fun_mk (st := s_Ratio_str_d) l_Ratio_str_d c_Ratio_str_d k_Ratio_str_d).binds (ps := ["self"]) fun _ _ _ _ _ _ us hl => match us, hl with | [_], _ => rfl,
    m_Ratio_str_d := ⟨a_Ratio_str_d, i_Ratio_str_d⟩,
    f_is_number := f_is_number,
    d_is_number := _,
    F_is_number := fun_mk (st := s_is_number) l_is_number c_is_number k_is_number,
    B_is_number := (fun_mk (st := s_is_number) l_is_number c_is_number k_is_number).binds (ps := ["value"]) fun _ _ _ _ _ _ us hl => match us, hl with | [_], _ => rfl,
    g_is_number := PySem.W.mg_of X G a_is_number,
    f_lead := f_lead,
    d_lead := _,
    F_lead := fun_mk (st := s_lead) l_lead c_lead k_lead,
    B_lead := (fun_mk (st := s_lead) l_lead c_lead k_lead).binds (ps := ["one", "other"]) fun _ _ _ _ _ _ us hl => match us, hl with | [_, _], _ => rfl,
    g_lead := PySem.W.mg_of X G a_lead,
    f_in_order := f_in_order,
    d_in_order := _,
    F_in_order := fun_mk (st := s_in_order) l_in_order c_in_order k_in_order,
    B_in_order := (fun_mk (st := s_in_order) l_in_order c_in_order k_in_order).binds (ps := ["pairs"]) fun _ _ _ _ _ _ us hl => match us, hl with | [_], _ => rfl,
    g_in_order := PySem.W.mg_of X G a_in_order,
    f_sorted_by := f_sorted_by,
    d_sorted_by := _,
    F_sorted_by := fun_mk (st := s_sorted_by) l_sorted_by c_sorted_by k_sorted_by,
    B_sorted_by := (fun_mk (st := s_sorted_by) l_sorted_by c_sorted_by k_sorted_by).binds (ps := ["levels", "items"]) fun _ _ _ _ _ _ us hl => match us, hl with | [_, _], _ => rfl,
    g_sorted_by := PySem.W.mg_of X G a_sorted_by,
    f_scale_of := f_scale_of,
    d_scale_of := _,
    F_scale_of := fun_mk (st := s_scale_of) l_scale_of c_scale_of k_scale_of,
    B_scale_of := (fun_mk (st := s_scale_of) l_scale_of c_scale_of k_scale_of).binds (ps := ["pairs"]) fun _ _ _ _ _ _ us hl => match us, hl with | [_], _ => rfl,
    g_scale_of := PySem.W.mg_of X G a_scale_of,
    f_scaled := f_scaled,
    d_scaled := _,
    F_scaled := fun_mk (st := s_scaled) l_scaled c_scaled k_scaled,
    B_scaled := (fun_mk (st := s_scaled) l_scaled c_scaled k_scaled).binds (ps := ["ratio", "scale"]) fun _ _ _ _ _ _ us hl => match us, hl with | [_, _], _ => rfl,
    g_scaled := PySem.W.mg_of X G a_scaled,
    f_blocks_of := f_blocks_of,
    d_blocks_of := _,
    F_blocks_of := fun_mk (st := s_blocks_of) l_blocks_of c_blocks_of k_blocks_of,
    B_blocks_of := (fun_mk (st := s_blocks_of) l_blocks_of c_blocks_of k_blocks_of).binds (ps := ["pairs", "scale"]) fun _ _ _ _ _ _ us hl => match us, hl with | [_, _], _ => rfl,
    g_blocks_of := PySem.W.mg_of X G a_blocks_of,
    f_joined := f_joined,
    d_joined := _,
    F_joined := fun_mk (st := s_joined) l_joined c_joined k_joined,
    B_joined := (fun_mk (st := s_joined) l_joined c_joined k_joined).binds (ps := ["one", "other"]) fun _ _ _ _ _ _ us hl => match us, hl with | [_, _], _ => rfl,
    g_joined := PySem.W.mg_of X G a_joined,
    f_touch := f_touch,
    d_touch := _,
    F_touch := fun_mk (st := s_touch) l_touch c_touch k_touch,
    B_touch := (fun_mk (st := s_touch) l_touch c_touch k_touch).binds (ps := ["one", "other"]) fun _ _ _ _ _ _ us hl => match us, hl with | [_, _], _ => rfl,
    g_touch := PySem.W.mg_of X G a_touch,
    f_held := f_held,
    d_held := _,
    F_held := fun_mk (st := s_held) l_held c_held k_held,
    B_held := (fun_mk (st := s_held) l_held c_held k_held).binds (ps := ["block", "walls"]) fun _ _ _ _ _ _ us hl => match us, hl with | [_, _], _ => rfl,
    g_held := PySem.W.mg_of X G a_held,
    f_run_together := f_run_together,
    d_run_together := _,
    F_run_together := ⟨⟨_, _, _, _, _, _, _, _, _, _, rfl, l_run_together, c_run_together, .inr ⟨List.cons_ne_nil _ _, T_run_together, to_run_together, ti_run_together, tn_run_together, rfl, dl_run_together, dd_run_together, dv_run_together⟩, .inl rfl⟩, k_run_together⟩,
    g_run_together := PySem.W.mg_of X G a_run_together,
    f_Pool_init_d := f_Pool_init_d,
    d_Pool_init_d := _,
    F_Pool_init_d := fun_mk (st := s_Pool_init_d) l_Pool_init_d c_Pool_init_d k_Pool_init_d,
    B_Pool_init_d := (fun_mk (st := s_Pool_init_d) l_Pool_init_d c_Pool_init_d k_Pool_init_d).binds (ps := ["self", "middle", "volume"]) fun _ _ _ _ _ _ us hl => match us, hl with | [_, _, _], _ => rfl,
    m_Pool_init_d := ⟨a_Pool_init_d, i_Pool_init_d⟩,
    f_Pool_middle := f_Pool_middle,
    d_Pool_middle := _,
    F_Pool_middle := fun_mk (st := s_Pool_middle) l_Pool_middle c_Pool_middle k_Pool_middle,
    B_Pool_middle := (fun_mk (st := s_Pool_middle) l_Pool_middle c_Pool_middle k_Pool_middle).binds (ps := ["self"]) fun _ _ _ _ _ _ us hl => match us, hl with | [_], _ => rfl,
    p_Pool_middle := p_Pool_middle,
    pr_Pool_middle := ⟨a_Pool_middle, pg_Pool_middle, pt_Pool_middle, ⟨_, r_Pool_middle⟩⟩,
    f_Pool_volume := f_Pool_volume,
    d_Pool_volume := _,
    F_Pool_volume := fun_mk (st := s_Pool_volume) l_Pool_volume c_Pool_volume k_Pool_volume,
    B_Pool_volume := (fun_mk (st := s_Pool_volume) l_Pool_volume c_Pool_volume k_Pool_volume).binds (ps := ["self"]) fun _ _ _ _ _ _ us hl => match us, hl with | [_], _ => rfl,
    p_Pool_volume := p_Pool_volume,
    pr_Pool_volume := ⟨a_Pool_volume, pg_Pool_volume, pt_Pool_volume, ⟨_, r_Pool_volume⟩⟩,
    f_Pool_left := f_Pool_left,
    d_Pool_left := _,
    F_Pool_left := fun_mk (st := s_Pool_left) l_Pool_left c_Pool_left k_Pool_left,
    B_Pool_left := (fun_mk (st := s_Pool_left) l_Pool_left c_Pool_left k_Pool_left).binds (ps := ["self"]) fun _ _ _ _ _ _ us hl => match us, hl with | [_], _ => rfl,
    p_Pool_left := p_Pool_left,
    pr_Pool_left := ⟨a_Pool_left, pg_Pool_left, pt_Pool_left, ⟨_, r_Pool_left⟩⟩,
    f_Pool_right := f_Pool_right,
    d_Pool_right := _,
    F_Pool_right := fun_mk (st := s_Pool_right) l_Pool_right c_Pool_right k_Pool_right,
    B_Pool_right := (fun_mk (st := s_Pool_right) l_Pool_right c_Pool_right k_Pool_right).binds (ps := ["self"]) fun _ _ _ _ _ _ us hl => match us, hl with | [_], _ => rfl,
    p_Pool_right := p_Pool_right,
    pr_Pool_right := ⟨a_Pool_right, pg_Pool_right, pt_Pool_right, ⟨_, r_Pool_right⟩⟩,
    f_Pool_eq_d := f_Pool_eq_d,
    d_Pool_eq_d := _,
    F_Pool_eq_d := fun_mk (st := s_Pool_eq_d) l_Pool_eq_d c_Pool_eq_d k_Pool_eq_d,
    B_Pool_eq_d := (fun_mk (st := s_Pool_eq_d) l_Pool_eq_d c_Pool_eq_d k_Pool_eq_d).binds (ps := ["self", "other"]) fun _ _ _ _ _ _ us hl => match us, hl with | [_, _], _ => rfl,
    m_Pool_eq_d := ⟨a_Pool_eq_d, i_Pool_eq_d⟩,
    f_Water_init_d := f_Water_init_d,
    d_Water_init_d := _,
    F_Water_init_d := ⟨⟨_, _, _, _, _, _, _, _, _, _, rfl, l_Water_init_d, c_Water_init_d, .inr ⟨List.cons_ne_nil _ _, T_Water_init_d, to_Water_init_d, ti_Water_init_d, tn_Water_init_d, rfl, dl_Water_init_d, dd_Water_init_d, dv_Water_init_d⟩, .inl rfl⟩, k_Water_init_d⟩,
    m_Water_init_d := ⟨a_Water_init_d, i_Water_init_d⟩,
    f_Water_settled := f_Water_settled,
    d_Water_settled := _,
    F_Water_settled := fun_mk (st := s_Water_settled) l_Water_settled c_Water_settled k_Water_settled,
    B_Water_settled := (fun_mk (st := s_Water_settled) l_Water_settled c_Water_settled k_Water_settled).binds (ps := ["cls", "pools"]) fun _ _ _ _ _ _ us hl => match us, hl with | [_, _], _ => rfl,
    p_Water_settled := p_Water_settled,
    cm_Water_settled := ⟨a_Water_settled, ⟨_, r_Water_settled⟩, i_Water_settled⟩,
    f_Water_getitem_d := f_Water_getitem_d,
    d_Water_getitem_d := _,
    F_Water_getitem_d := fun_mk (st := s_Water_getitem_d) l_Water_getitem_d c_Water_getitem_d k_Water_getitem_d,
    B_Water_getitem_d := (fun_mk (st := s_Water_getitem_d) l_Water_getitem_d c_Water_getitem_d k_Water_getitem_d).binds (ps := ["self", "at"]) fun _ _ _ _ _ _ us hl => match us, hl with | [_, _], _ => rfl,
    m_Water_getitem_d := ⟨a_Water_getitem_d, i_Water_getitem_d⟩,
    fi_Water_getitem_d := fn_Water_getitem_d,
    f_Water_len_d := f_Water_len_d,
    d_Water_len_d := _,
    F_Water_len_d := fun_mk (st := s_Water_len_d) l_Water_len_d c_Water_len_d k_Water_len_d,
    B_Water_len_d := (fun_mk (st := s_Water_len_d) l_Water_len_d c_Water_len_d k_Water_len_d).binds (ps := ["self"]) fun _ _ _ _ _ _ us hl => match us, hl with | [_], _ => rfl,
    m_Water_len_d := ⟨a_Water_len_d, i_Water_len_d⟩,
    f_Water_eq_d := f_Water_eq_d,
    d_Water_eq_d := _,
    F_Water_eq_d := fun_mk (st := s_Water_eq_d) l_Water_eq_d c_Water_eq_d k_Water_eq_d,
    B_Water_eq_d := (fun_mk (st := s_Water_eq_d) l_Water_eq_d c_Water_eq_d k_Water_eq_d).binds (ps := ["self", "other"]) fun _ _ _ _ _ _ us hl => match us, hl with | [_, _], _ => rfl,
    m_Water_eq_d := ⟨a_Water_eq_d, i_Water_eq_d⟩,
    f_Water_le_d := f_Water_le_d,
    d_Water_le_d := _,
    F_Water_le_d := fun_mk (st := s_Water_le_d) l_Water_le_d c_Water_le_d k_Water_le_d,
    B_Water_le_d := (fun_mk (st := s_Water_le_d) l_Water_le_d c_Water_le_d k_Water_le_d).binds (ps := ["self", "other"]) fun _ _ _ _ _ _ us hl => match us, hl with | [_, _], _ => rfl,
    m_Water_le_d := ⟨a_Water_le_d, i_Water_le_d⟩,
    f_Water_lt_d := f_Water_lt_d,
    d_Water_lt_d := _,
    F_Water_lt_d := fun_mk (st := s_Water_lt_d) l_Water_lt_d c_Water_lt_d k_Water_lt_d,
    B_Water_lt_d := (fun_mk (st := s_Water_lt_d) l_Water_lt_d c_Water_lt_d k_Water_lt_d).binds (ps := ["self", "other"]) fun _ _ _ _ _ _ us hl => match us, hl with | [_, _], _ => rfl,
    m_Water_lt_d := ⟨a_Water_lt_d, i_Water_lt_d⟩,
    f_Water_ge_d := f_Water_ge_d,
    d_Water_ge_d := _,
    F_Water_ge_d := fun_mk (st := s_Water_ge_d) l_Water_ge_d c_Water_ge_d k_Water_ge_d,
    B_Water_ge_d := (fun_mk (st := s_Water_ge_d) l_Water_ge_d c_Water_ge_d k_Water_ge_d).binds (ps := ["self", "other"]) fun _ _ _ _ _ _ us hl => match us, hl with | [_, _], _ => rfl,
    m_Water_ge_d := ⟨a_Water_ge_d, i_Water_ge_d⟩,
    f_Water_gt_d := f_Water_gt_d,
    d_Water_gt_d := _,
    F_Water_gt_d := fun_mk (st := s_Water_gt_d) l_Water_gt_d c_Water_gt_d k_Water_gt_d,
    B_Water_gt_d := (fun_mk (st := s_Water_gt_d) l_Water_gt_d c_Water_gt_d k_Water_gt_d).binds (ps := ["self", "other"]) fun _ _ _ _ _ _ us hl => match us, hl with | [_, _], _ => rfl,
    m_Water_gt_d := ⟨a_Water_gt_d, i_Water_gt_d⟩,
    f_Water_str_d := f_Water_str_d,
    d_Water_str_d := _,
    F_Water_str_d := fun_mk (st := s_Water_str_d) l_Water_str_d c_Water_str_d k_Water_str_d,
    B_Water_str_d := (fun_mk (st := s_Water_str_d) l_Water_str_d c_Water_str_d k_Water_str_d).binds (ps := ["self"]) fun _ _ _ _ _ _ us hl => match us, hl with | [_], _ => rfl,
    m_Water_str_d := ⟨a_Water_str_d, i_Water_str_d⟩,
    f_settled_pools := f_settled_pools,
    d_settled_pools := _,
    F_settled_pools := fun_mk (st := s_settled_pools) l_settled_pools c_settled_pools k_settled_pools,
    B_settled_pools := (fun_mk (st := s_settled_pools) l_settled_pools c_settled_pools k_settled_pools).binds (ps := ["pairs"]) fun _ _ _ _ _ _ us hl => match us, hl with | [_], _ => rfl,
    g_settled_pools := PySem.W.mg_of X G a_settled_pools,
    f_lie_within := f_lie_within,
    d_lie_within := _,
    F_lie_within := fun_mk (st := s_lie_within) l_lie_within c_lie_within k_lie_within,
    B_lie_within := (fun_mk (st := s_lie_within) l_lie_within c_lie_within k_lie_within).binds (ps := ["pools", "others"]) fun _ _ _ _ _ _ us hl => match us, hl with | [_, _], _ => rfl,
    g_lie_within := PySem.W.mg_of X G a_lie_within,
    f_row_of := f_row_of,
    d_row_of := _,
    F_row_of := fun_mk (st := s_row_of) l_row_of c_row_of k_row_of,
    B_row_of := (fun_mk (st := s_row_of) l_row_of c_row_of k_row_of).binds (ps := ["pool"]) fun _ _ _ _ _ _ us hl => match us, hl with | [_], _ => rfl,
    g_row_of := PySem.W.mg_of X G a_row_of,
    f_lw_box := f_lw_box,
    d_lw_box := _,
    F_lw_box := fun_mk (st := s_lw_box) l_lw_box c_lw_box k_lw_box,
    B_lw_box := (fun_mk (st := s_lw_box) l_lw_box c_lw_box k_lw_box).binds (ps := ["_law_script", "_law_k"]) fun _ _ _ _ _ _ us hl => match us, hl with | [_, _], _ => rfl,
    g_lw_box := PySem.W.mg_of X G a_lw_box,
    f_lw_take := f_lw_take,
    d_lw_take := _,
    F_lw_take := fun_mk (st := s_lw_take) l_lw_take c_lw_take k_lw_take,
    B_lw_take := (fun_mk (st := s_lw_take) l_lw_take c_lw_take k_lw_take).binds (ps := ["_law_box_here", "_law_many"]) fun _ _ _ _ _ _ us hl => match us, hl with | [_, _], _ => rfl,
    g_lw_take := PySem.W.mg_of X G a_lw_take,
    f_lw_scene := f_lw_scene,
    d_lw_scene := _,
    F_lw_scene := fun_mk (st := s_lw_scene) l_lw_scene c_lw_scene k_lw_scene,
    B_lw_scene := (fun_mk (st := s_lw_scene) l_lw_scene c_lw_scene k_lw_scene).binds (ps := ["_law_box_here", "_law_most"]) fun _ _ _ _ _ _ us hl => match us, hl with | [_, _], _ => rfl,
    g_lw_scene := PySem.W.mg_of X G a_lw_scene,
    f_lw_number := f_lw_number,
    d_lw_number := _,
    F_lw_number := fun_mk (st := s_lw_number) l_lw_number c_lw_number k_lw_number,
    B_lw_number := (fun_mk (st := s_lw_number) l_lw_number c_lw_number k_lw_number).binds (ps := ["_law_box_here", "_law_top", "_law_unit"]) fun _ _ _ _ _ _ us hl => match us, hl with | [_, _, _], _ => rfl,
    g_lw_number := PySem.W.mg_of X G a_lw_number,
    f_lw_is := f_lw_is,
    d_lw_is := _,
    F_lw_is := fun_mk (st := s_lw_is) l_lw_is c_lw_is k_lw_is,
    B_lw_is := (fun_mk (st := s_lw_is) l_lw_is c_lw_is k_lw_is).binds (ps := ["_law_found", "_law_top", "_law_bottom"]) fun _ _ _ _ _ _ us hl => match us, hl with | [_, _, _], _ => rfl,
    g_lw_is := PySem.W.mg_of X G a_lw_is,
    f_lw_ordered := f_lw_ordered,
    d_lw_ordered := _,
    F_lw_ordered := fun_mk (st := s_lw_ordered) l_lw_ordered c_lw_ordered k_lw_ordered,
    B_lw_ordered := (fun_mk (st := s_lw_ordered) l_lw_ordered c_lw_ordered k_lw_ordered).binds (ps := ["_law_drops"]) fun _ _ _ _ _ _ us hl => match us, hl with | [_], _ => rfl,
    g_lw_ordered := PySem.W.mg_of X G a_lw_ordered,
    f_lw_touch := f_lw_touch,
    d_lw_touch := _,
    F_lw_touch := fun_mk (st := s_lw_touch) l_lw_touch c_lw_touch k_lw_touch,
    B_lw_touch := (fun_mk (st := s_lw_touch) l_lw_touch c_lw_touch k_lw_touch).binds (ps := ["_law_one", "_law_other"]) fun _ _ _ _ _ _ us hl => match us, hl with | [_, _], _ => rfl,
    g_lw_touch := PySem.W.mg_of X G a_lw_touch,
    f_lw_pools := f_lw_pools,
    d_lw_pools := _,
    F_lw_pools := fun_mk (st := s_lw_pools) l_lw_pools c_lw_pools k_lw_pools,
    B_lw_pools := (fun_mk (st := s_lw_pools) l_lw_pools c_lw_pools k_lw_pools).binds (ps := ["_law_drops"]) fun _ _ _ _ _ _ us hl => match us, hl with | [_], _ => rfl,
    g_lw_pools := PySem.W.mg_of X G a_lw_pools,
    f_lw_water := f_lw_water,
    d_lw_water := _,
    F_lw_water := fun_mk (st := s_lw_water) l_lw_water c_lw_water k_lw_water,
    B_lw_water := (fun_mk (st := s_lw_water) l_lw_water c_lw_water k_lw_water).binds (ps := ["_law_box_here", "_law_unit", "_law_drops"]) fun _ _ _ _ _ _ us hl => match us, hl with | [_, _, _], _ => rfl,
    g_lw_water := PySem.W.mg_of X G a_lw_water,
    f_lw_neighbours := f_lw_neighbours,
    d_lw_neighbours := _,
    F_lw_neighbours := fun_mk (st := s_lw_neighbours) l_lw_neighbours c_lw_neighbours k_lw_neighbours,
    B_lw_neighbours := (fun_mk (st := s_lw_neighbours) l_lw_neighbours c_lw_neighbours k_lw_neighbours).binds (ps := ["_law_drops"]) fun _ _ _ _ _ _ us hl => match us, hl with | [_], _ => rfl,
    g_lw_neighbours := PySem.W.mg_of X G a_lw_neighbours,
    f_lw_says := f_lw_says,
    d_lw_says := _,
    F_lw_says := fun_mk (st := s_lw_says) l_lw_says c_lw_says k_lw_says,
    B_lw_says := (fun_mk (st := s_lw_says) l_lw_says c_lw_says k_lw_says).binds (ps := ["_law_found", "_law_due"]) fun _ _ _ _ _ _ us hl => match us, hl with | [_, _], _ => rfl,
    g_lw_says := PySem.W.mg_of X G a_lw_says,
    f_lw_is_water := f_lw_is_water,
    d_lw_is_water := _,
    F_lw_is_water := fun_mk (st := s_lw_is_water) l_lw_is_water c_lw_is_water k_lw_is_water,
    B_lw_is_water := (fun_mk (st := s_lw_is_water) l_lw_is_water c_lw_is_water k_lw_is_water).binds (ps := ["_law_found", "_law_unit", "_law_dues"]) fun _ _ _ _ _ _ us hl => match us, hl with | [_, _, _], _ => rfl,
    g_lw_is_water := PySem.W.mg_of X G a_lw_is_water,
    f_lw_inside := f_lw_inside,
    d_lw_inside := _,
    F_lw_inside := fun_mk (st := s_lw_inside) l_lw_inside c_lw_inside k_lw_inside,
    B_lw_inside := (fun_mk (st := s_lw_inside) l_lw_inside c_lw_inside k_lw_inside).binds (ps := ["_law_one", "_law_other"]) fun _ _ _ _ _ _ us hl => match us, hl with | [_, _], _ => rfl,
    g_lw_inside := PySem.W.mg_of X G a_lw_inside,
    f_lw_equal := f_lw_equal,
    d_lw_equal := _,
    F_lw_equal := fun_mk (st := s_lw_equal) l_lw_equal c_lw_equal k_lw_equal,
    B_lw_equal := (fun_mk (st := s_lw_equal) l_lw_equal c_lw_equal k_lw_equal).binds (ps := ["_law_one", "_law_other"]) fun _ _ _ _ _ _ us hl => match us, hl with | [_, _], _ => rfl,
    g_lw_equal := PySem.W.mg_of X G a_lw_equal,
    f_lw_compared := f_lw_compared,
    d_lw_compared := _,
    F_lw_compared := fun_mk (st := s_lw_compared) l_lw_compared c_lw_compared k_lw_compared,
    B_lw_compared := (fun_mk (st := s_lw_compared) l_lw_compared c_lw_compared k_lw_compared).binds (ps := ["_law_one", "_law_other", "_law_mine", "_law_its"]) fun _ _ _ _ _ _ us hl => match us, hl with | [_, _, _, _], _ => rfl,
    g_lw_compared := PySem.W.mg_of X G a_lw_compared,
    f_lw_many_compared := f_lw_many_compared,
    d_lw_many_compared := _,
    F_lw_many_compared := fun_mk (st := s_lw_many_compared) l_lw_many_compared c_lw_many_compared k_lw_many_compared,
    B_lw_many_compared := (fun_mk (st := s_lw_many_compared) l_lw_many_compared c_lw_many_compared k_lw_many_compared).binds (ps := ["_law_box_here"]) fun _ _ _ _ _ _ us hl => match us, hl with | [_], _ => rfl,
    g_lw_many_compared := PySem.W.mg_of X G a_lw_many_compared,
    f_law := fa,
    d_law := _,
    F_law := fun_mk (st := s_law) l_law c_law k_law,
    B_law := (fun_mk (st := s_law) l_law c_law k_law).binds (ps := ["_law_script"]) fun _ _ _ _ _ _ us hl => match us, hl with | [_], _ => rfl,
    g_law := PySem.W.mg_of X G a_law,
    e_empty := e_empty,
    sq_empty := ⟨eo_empty, en_empty, le_empty, ce_empty, de_empty⟩
  }
  exact ⟨T.d_law, fun s v => .of_eq rfl, fun base _ _ => ok_law T⟩
theorem walk {l : PySem.W.OpenLaw} {q : Program} {loose : List Str} {XP : (Str → Option Value) → Heap → Prop} {YP : World → Heap → Prop} {d : DefRec} {K : Params → PySem.W.Frag} {lv : Nat} {sp : SpK} (hn : l.most = some 63) (hdf : d.params.defaults = []) (hr : Room lv callerA)
    (hY : ∀ (w : World) (h : Heap), YP w h → (K w.params).In h)
    (F : ∀ (w : World) (mg : Str → Option Value) (fa : Addr) (h : Heap), (K w.params).In h → h.Ns mainGlobals mg → mg d.name = some (.ref fa) →
      ∃ fd : FuncData, (∀ (s : Shared) (u : Value), BindsTo s fd ⟨[u], []⟩ [("_law_script", u)]) ∧ ∀ base : Heap, (K w.params).In base → base.Ns mainGlobals mg → FnG l.prog w (K w.params) mg base CX0 lv fa fd ["_law_script"] (sp (K w.params)))
    (asks : Asked sp) :
    PySem.W.WalkO q loose XP YP l.row.toRowW d [] (fun f vs => PySem.call f vs) :=
  walkG (n := 63) (k := lv) (x := "_law_script") (sp := fun w => sp (K w.params)) hn (by decide) hdf hr hY F (fun _ _ _ _ hl hS => asks hl hS)
/-! ### ratios: the mathematics -/
def sg (l : Int) : Int := if l < 0 then -1 else 1
def gc (u l : Int) : Int := ((Nat.gcd u.natAbs l.natAbs : Nat) : Int)
/-- the lowest terms of u / l -/
def lo1 (u l : Int) : Int := sg l * u / gc u l
def lo2 (u l : Int) : Int := sg l * l / gc u l
theorem gc_pos {u l : Int} (h : l ≠ 0) : 0 < gc u l := by
  unfold gc
  have : 0 < Nat.gcd u.natAbs l.natAbs := Nat.gcd_pos_of_pos_right _ (by omega)
  omega
theorem gc_dvd1 (u l : Int) : gc u l ∣ u := Int.ofNat_dvd_left.mpr (Nat.gcd_dvd_left _ _)
theorem gc_dvd2 (u l : Int) : gc u l ∣ l := Int.ofNat_dvd_left.mpr (Nat.gcd_dvd_right _ _)
theorem gc_le {u l : Int} (h : l ≠ 0) : gc u l ≤ (l.natAbs : Int) := by
  have : Nat.gcd u.natAbs l.natAbs ≤ l.natAbs := Nat.gcd_le_right _ (by omega)
  unfold gc
  omega
theorem fdiv_neg_of {g k : Int} (hg : 0 < g) : (g * k).fdiv (-g) = -1 * (g * k) / g := by
  have e1 : g * k = -g * -k := by rw [Int.neg_mul_neg]
  have e2 : -1 * (g * k) = g * (-1 * k) := by rw [Int.mul_left_comm]
  rw [e2, Int.mul_ediv_cancel_left _ (by omega), e1, Int.mul_fdiv_cancel_left _ (by omega)]
  omega
theorem fdiv_pos_of {g k : Int} (hg : 0 < g) : (g * k).fdiv g = 1 * (g * k) / g := by
  rw [Int.one_mul, Int.mul_fdiv_cancel_left _ (by omega), Int.mul_ediv_cancel_left _ (by omega)]
theorem lo_neg {u l : Int} (h : l < 0) : u.fdiv (-gc u l) = lo1 u l ∧ l.fdiv (-gc u l) = lo2 u l := by
  have hg : 0 < gc u l := gc_pos (by omega)
  unfold lo1 lo2 sg
  rw [if_pos h]
  obtain ⟨k1, e1⟩ := gc_dvd1 u l
  obtain ⟨k2, e2⟩ := gc_dvd2 u l
  generalize gc u l = g at *
  rw [e1, e2]
  exact ⟨fdiv_neg_of hg, fdiv_neg_of hg⟩
theorem lo_pos {u l : Int} (h : 0 < l) : u.fdiv (gc u l) = lo1 u l ∧ l.fdiv (gc u l) = lo2 u l := by
  have hg : 0 < gc u l := gc_pos (by omega)
  unfold lo1 lo2 sg
  rw [if_neg (by omega)]
  obtain ⟨k1, e1⟩ := gc_dvd1 u l
  obtain ⟨k2, e2⟩ := gc_dvd2 u l
  generalize gc u l = g at *
  rw [e1, e2]
  exact ⟨fdiv_pos_of hg, fdiv_pos_of hg⟩
theorem lo_one (u : Int) : lo1 u 1 = u ∧ lo2 u 1 = 1 := by
  have e : gc u 1 = 1 := by unfold gc; simp
  unfold lo1 lo2
  rw [e]
  simp [sg]
theorem lo2_pos {u l : Int} (h : l ≠ 0) : 0 < lo2 u l := by
  have hg : 0 < gc u l := gc_pos h
  obtain ⟨k, e⟩ := gc_dvd2 u l
  have e2 : sg l * l = gc u l * (sg l * k) := by
    have : sg l * (gc u l * k) = gc u l * (sg l * k) := Int.mul_left_comm ..
    rw [← e] at this
    exact this
  unfold lo2
  rw [e2, Int.mul_ediv_cancel_left _ (by omega)]
  have p1 : 0 < sg l * l := by
    unfold sg
    split <;> omega
  rw [e2] at p1
  exact Int.pos_of_mul_pos_left (by rw [Int.mul_comm]; exact p1) hg
theorem lo2_le {u l : Int} (h : l ≠ 0) : lo2 u l ≤ (l.natAbs : Int) := by
  have hg : 0 < gc u l := gc_pos h
  have e : sg l * l = (l.natAbs : Int) := by
    unfold sg
    split <;> omega
  unfold lo2
  rw [e]
  exact Int.ediv_le_self _ (by omega)
theorem lo1_le {u l : Int} : (lo1 u l).natAbs ≤ u.natAbs := by
  unfold lo1
  have h1 : (sg l * u).natAbs = u.natAbs := by
    unfold sg
    split <;> omega
  rw [← h1]
  exact Int.natAbs_ediv_le_natAbs _ _

/-! ### ratios in the heap -/
def rfs (a b : Int) : List (Str × V) := [("top", V.int a), ("bottom", V.int b)]
theorem tb_ne : ¬ (("top" : Str) = "bottom") := by decide +kernel
theorem bt_ne : ¬ (("bottom" : Str) = "top") := by decide +kernel
theorem rfs_top (a b : Int) : (rfs a b).lookup ("top" : Str) = some (.int a) := by simp [rfs, List.lookup]
theorem rfs_bot (a b : Int) : (rfs a b).lookup ("bottom" : Str) = some (.int b) := by
  have e : (("bottom" : Str) == "top") = false := by decide +kernel
  simp [rfs, List.lookup, e]
theorem rfs_put (a b : Int) : putF "bottom" (.int b) (putF "top" (.int a) []) = rfs a b := by
  show (if ("top" : Str) = "bottom" then _ else _) = _
  rw [if_neg tb_ne]
  rfl
theorem rfs_no {a b : Int} {m : Str} (h1 : (m == ("top" : Str)) = false) (h2 : (m == ("bottom" : Str)) = false) : (rfs a b).lookup m = none := by simp [rfs, List.lookup, h1, h2]
/-- at p stands the ratio a / b -/
def RatAt (C : Addr) (H : Hp) (p : Addr) (a b : Int) : Prop := ∃ dx, H p = some (.ins C dx (rfs a b))
theorem RatAt.same {C p : Addr} {H H' : Hp} {a b : Int} (h : RatAt C H p a b) (s : Same H H') : RatAt C H' p a b := let ⟨dx, e⟩ := h; ⟨dx, s _ _ e⟩
/-- what is wanted of any heap that holds the new ratio beside all that stood -/
def GotR (C : Addr) (H : Hp) (Q : VK) (a b : Int) : Prop := ∀ p H', Same H H' → RatAt C H' p a b → Q (.ref p) H'
theorem same_upd {H : Hp} {p : Addr} {o : HO} (h : H p = none) : Same H (upd H p o) := fun b u e => by rw [upd_ne (ne_of_none e h)]; exact e

/-! ### the promises -/
/-- InvalidNumber.__init__ -/
def spInv (C : Addr) : Sp := fun vs H Q _ => ∃ (a : Addr) (v : V), vs = [.ref a, v] ∧ H a = some (exo a C none) ∧ ∀ dx, H dx = none → dx ≠ a → Q .non (upd (upd H dx (exd dx [("value", v)])) a (exo a C (some dx)))
/-- an InvalidNumber with this value is raised -/
def Bad (CI : Addr) (v : V) (H : Hp) (E : XK) : Prop := ∀ d H', Same H H' → H' d = some (.xd [("value", v)]) → E (.ref CI) (some d) H'
/-- Ratio.__init__ -/
def spInit (C CI : Addr) : Sp := fun vs H Q E => ∃ (p dx : Addr) (u l : Int), vs = [.ref p, .int u, .int l] ∧ H p = some (.ins C dx []) ∧ l.natAbs < 2 ^ 8000 ∧
  (l ≠ 0 → Q .non (upd H p (.ins C dx (rfs (lo1 u l) (lo2 u l))))) ∧ (l = 0 → Bad CI (.int 0) H E)
/-- what is_number answers -/
def NumB (C : Addr) (H : Hp) (v : V) (b : Bool) : Prop :=
  (b = true ∧ ((∃ i, v = .int i) ∨ ∃ p dx fs, v = .ref p ∧ H p = some (.ins C dx fs))) ∨ (b = false ∧ ((∃ x, v = .bl x) ∨ (∃ z, v = .str z) ∨ v = .non ∨ ∃ p xs, v = .ref p ∧ H p = some (.tup xs)))
def spNum (C : Addr) : Sp := fun vs H Q _ => ∃ v b, vs = [v] ∧ NumB C H v b ∧ ∀ H', Same H H' → Q (.bl b) H'
/-- Ratio.of -/
def spOf (C CI : Addr) : Sp := fun vs H Q E => ∃ v, vs = [.ref C, v] ∧ ((∃ i, v = .int i ∧ GotR C H Q i 1) ∨ (∃ p a b, v = .ref p ∧ RatAt C H p a b ∧ ∀ H', Same H H' → Q (.ref p) H') ∨ (NumB C H v false ∧ Bad CI v H E))

theorem vals_rev : ∀ {vs : List V} {us : List Value}, Vals vs us → Vals vs.reverse us.reverse
  | _, _, .nil => .nil
  | _, _, .cons r t => by
    rw [List.reverse_cons, List.reverse_cons]
    exact (vals_rev t).append (.cons r .nil)
/-- an expression's reading, weakened -/
theorem pe_wk {X : Cx} {e : Expr} {t : TE} (h : PE X e t) : PE X e (fun σ H Q => ∃ Q0 : VK, t σ H Q0 ∧ ∀ x H1, Q0 x H1 → Q x H1) :=
  ⟨fun pins s σ H Q I ⟨Q0, h0, k⟩ => thn (h.run pins s σ H Q0 I h0) fun u s1 ⟨v, H1, I1, r, q⟩ => ⟨v, H1, I1, r, k _ _ q⟩⟩
section
variable {P : Program} {w : World} {K : PySem.W.Frag} {mg : Str → Option Value} {base : Heap}
theorem ok_inv (T : Txt K mg) : FnOk P w K mg base CX0 1 T.f_InvalidNumber_init_d T.d_InvalidNumber_init_d ["self", "value"] (spInv T.C_InvalidNumber) := by
  refine T.F_InvalidNumber_init_d.ok sc_InvalidNumber_init_d (fun vs H Q E h => ?_) (fun cdv A outer s H vs Q E hr h => ?_)
  · obtain ⟨a, v, rfl, _⟩ := h; rfl
  · obtain ⟨a, v, rfl, ha, k⟩ := h
    refine ⟨_, pss_one (ps_ost (pv 0) (pv 1)), ?_⟩
    exact ⟨_, rfl, _, rfl, a, T.C_InvalidNumber, rfl, T.ox_InvalidNumber, T.n_InvalidNumber_value, .inl ⟨ha, k⟩⟩
/-- raise InvalidNumber(e) -/
theorem ps_bad {X : Cx} {W : WX} {e : Expr} {te : TE} {p pos pos2 : Pos} (T : Txt X.K X.mg) (hr : Room 2 X.A) (hc : X.calm = true) (tk : Takes X W) (he : PE X e te) (hg : Gl X "InvalidNumber" := by rfl)
    (hs : starEach (e :: []) X.env = (false, eval e X.env) :: starEach [] X.env := by rfl) :
    PS X (.Raise (some (.Call (.Name "InvalidNumber" p) [e] [] pos)) none pos2) (fun _ σ H => te σ H fun v H1 => ∀ d H', Same H1 H' → H' d = some (.xd [("value", v)]) → W (.ref T.C_InvalidNumber) (some d) σ H') := by
  refine ⟨fun pins s σ H D I h => ?_⟩
  refine (ps_raise (W := W) hc tk (pmk_oex (CX := CX0) (dvs := []) T.ox_InvalidNumber T.m_InvalidNumber_init_d.at_ T.t_InvalidNumber_init_d (ok_inv T) hr T.B_InvalidNumber_init_d .nil (fun _ _ _ _ _ _ _ z => z.elim) hg T.g_InvalidNumber (pa_cons (pe_wk he) pa_nil hs) (he := hs))).run pins s σ H D I ?_
  refine ⟨_, h, fun v H1 q => ⟨by show 1 ≤ 1000; decide, fun a na => ⟨a, v, rfl, upd_same, fun dx nx ne => ⟨rfl, dx, [("value", v)], upd_same, by rw [upd_ne ne, upd_same], ?_, ?_⟩⟩⟩⟩
  · rwa [upd_ne ne] at nx
  · have nd : H1 dx = none := by rwa [upd_ne ne] at nx
    refine q dx _ (fun b o e => ?_) upd_same
    rw [upd_ne (ne_of_none e nd), del_ne (ne_of_none e na), upd_ne (ne_of_none e na), upd_ne (ne_of_none e nd), upd_ne (ne_of_none e na)]
    exact e

/-! ### arguments bound -/
theorem Binds.kbn {fd : FuncData} {ps : List Str} {n : Nat} (B : Binds K fd ps []) (hn : ps.length = n) : KBn K fd ps n [] (fun us _ => us) (fun vs _ => vs) :=
  ⟨fun s us ws X l1 l2 => by have z := B s us X (by simpa [hn] using l1); simpa using z, fun r _ => r⟩
/-- Ratio(top, bottom), Ratio(top), Ratio(bottom = .., top = ..) -/
theorem kb_init2 (T : Txt K mg) : ∃ its : List Value, KBn K T.d_Ratio_init_d ["self", "top", "bottom"] 3 [] (fun us _ => us) (fun vs _ => vs) := by
  obtain ⟨its, h⟩ := FunD.kbindsD T.F_Ratio_init_d (ps := ["self", "top", "bottom"]) 3 [] (fun us _ _ => us) (by decide) (fun r _ _ => r) (fun Tt kV doc pm an cdv ct us its ws l1 l2 l3 => by
    match us, its, ws, l1, l2, l3 with
    | [a, b, c], [i], [], _, _, _ => exact ⟨_, rfl, rfl⟩)
  exact ⟨its, h⟩
theorem kb_init1 (T : Txt K mg) : ∃ its : List Value, KBn K T.d_Ratio_init_d ["self", "top", "bottom"] 2 [] (fun us _ => us ++ its) (fun vs _ => vs ++ [V.int 1]) := by
  obtain ⟨its, h⟩ := FunD.kbindsD T.F_Ratio_init_d (ps := ["self", "top", "bottom"]) 2 [] (fun us its _ => us ++ its) (by decide) (fun r r2 _ => r.append r2) (fun Tt kV doc pm an cdv ct us its ws l1 l2 l3 => by
    match us, its, ws, l1, l2, l3 with
    | [a, b], [i], [], _, _, _ => exact ⟨_, rfl, rfl⟩)
  exact ⟨its, h⟩
theorem kb_initK (T : Txt K mg) : ∃ its : List Value, KBn K T.d_Ratio_init_d ["self", "top", "bottom"] 1 ["bottom", "top"] (fun us ws => us ++ ws.reverse) (fun vs zs => vs ++ zs.reverse) := by
  obtain ⟨its, h⟩ := FunD.kbindsD T.F_Ratio_init_d (ps := ["self", "top", "bottom"]) 1 ["bottom", "top"] (fun us _ ws => us ++ ws.reverse) (by decide) (fun {vs ds zs us its ws} r _ r3 => r.append (vals_rev r3)) (fun Tt kV doc pm an cdv ct us its ws l1 l2 l3 => by
    match us, its, ws, l1, l2, l3 with
    | [a], [i], [x, y], _, _, _ => exact ⟨_, rfl, rfl⟩)
  exact ⟨its, h⟩

/-! ### Ratio's defs -/
theorem lenU {u : Int} {n : Nat} (h : u.natAbs < 2 ^ n) (h0 : 0 < n) (h9 : n ≤ 9000) : u.natAbs.log2 < 9000 := Nat.lt_of_lt_of_le (PySem.Flt.log2_lt_of h0 h) h9
theorem ok_init (T : Txt K mg) : FnOk P w K mg base (L2.CX P w) 3 T.f_Ratio_init_d T.d_Ratio_init_d ["self", "top", "bottom"] (spInit T.C_Ratio T.C_InvalidNumber) := by
  refine T.F_Ratio_init_d.ok sc_Ratio_init_d (fun vs H Q E h => ?_) (fun cdv A outer s H vs Q E hr h => ?_)
  · obtain ⟨p, dx, u, l, rfl, _⟩ := h; rfl
  · obtain ⟨p, dx, u, l, rfl, hp, bl, k1, k0⟩ := h
    refine ⟨_, pss_cons (ps_if (pt_cmpR op_eq (pv 2) pe_int (nomark _)) (pss_one (ps_bad (W := fun cls d _ H' => E cls d H') T hr rfl (takes_of rfl rfl rfl rfl) pe_int)) pss_nil)
      (pss_cons (ps_set (i := 3) sc_Ratio_init_d.nd rfl (.inl rfl) (pe_callBfun cr_gcd (by rfl) T.g_gcd (pa_cons (pv 1) (pa_cons (pv 2) pa_nil))))
      (pss_cons (ps_if (pt_cmpR op_lt (pv 2) pe_int (nomark _)) (pss_one (ps_set (i := 3) sc_Ratio_init_d.nd rfl (.inl rfl) (pe_un un_neg (pv 3)))) pss_nil)
      (pss_cons (ps_fld (pv 0) (pe_op op_fdivX (pv 1) (pv 3)) rfl) (pss_one (ps_fld (pv 0) (pe_op op_fdivX (pv 2) (pv 3)) rfl))))), ?_⟩
    refine ⟨_, rfl, rfl, _, rfl, ?_⟩
    refine ite2 (fun c => ?_) (fun c => ?_)
    · have e : l = 0 := by have := of_decide_eq_true c; injection this
      exact k0 e
    · have nz : l ≠ 0 := fun e => c (by rw [e]; exact decide_eq_true rfl)
      have fin : ∀ g : Int, g ≠ 0 → g.natAbs ≤ l.natAbs → u.fdiv g = lo1 u l ∧ l.fdiv g = lo2 u l → sFld K (tVar 0) (tOp (rI CDivX fun i j => .int (i.fdiv j)) (tVar 1) (tVar 3)) "top" { nx := sFld K (tVar 0) (tOp (rI CDivX fun i j => .int (i.fdiv j)) (tVar 2) (tVar 3)) "bottom" { nx := fun _ H' => Q .non H', rt := Q }, rt := Q } [some (.ref p), some (.int u), some (.int l), some (.int g)] H := by
        rintro g gnz gle ⟨e1, e2⟩
        have cd : g ≠ 0 ∧ g.natAbs.log2 < 9000 := ⟨gnz, lenU (Nat.lt_of_le_of_lt gle bl) (by decide) (by decide)⟩
        refine ⟨_, rfl, _, rfl, _, _, rfl, rfl, cd, _, rfl, p, T.C_Ratio, dx, [], rfl, hp, T.cl_Ratio, T.n_Ratio_top, by decide, ?_⟩
        refine ⟨_, rfl, _, rfl, _, _, rfl, rfl, cd, _, rfl, p, T.C_Ratio, dx, _, rfl, upd_same, T.cl_Ratio, T.n_Ratio_bottom, (by show 1 < 1000; decide), ?_⟩
        show Q .non (upd (upd H p _) p (.ins T.C_Ratio dx (putF "bottom" (.int (l.fdiv g)) (putF "top" (.int (u.fdiv g)) []))))
        rw [upd_upd, e1, e2, rfs_put]
        exact k1 nz
      refine ⟨_, rfl, _, rfl, _, _, rfl, ?_⟩
      refine ⟨_, rfl, _, _, rfl, rfl, _, rfl, ?_⟩
      refine ite2 (fun c2 => ?_) (fun c2 => ?_)
      · have neg : l < 0 := of_decide_eq_true c2
        have gp := gc_pos (u := u) nz
        have gl := gc_le (u := u) nz
        refine ⟨_, rfl, _, rfl, ?_⟩
        exact fin (-gc u l) (by omega) (by omega) (lo_neg neg)
      · have pos : 0 < l := by have : ¬ l < 0 := fun z => c2 (decide_eq_true z); omega
        have gp := gc_pos (u := u) nz
        have gl := gc_le (u := u) nz
        exact fin (gc u l) (by omega) (by omega) (lo_pos pos)

/-! isinstance -/
theorem kit_ref {C : Addr} (Ty : TyC K C) {t : String} {b : Bool} (h : PySem.W.subIn K (.type t) (.ref C) = some b) : PySem.W.kitOne K (.type t) (.ref C) = some b := by
  have e : ((PySem.W.clsIn K C).isSome && PySem.W.typeIn K (.ref C) == some (.type "type")) = true := by
    rw [show (PySem.W.clsIn K C).isSome = true from Ty.ic, Ty.ty]
    exact beq_self_eq_true _
  show (if (Value.type t == Value.ref C) = true then some true else if ((PySem.W.clsIn K C).isSome && PySem.W.typeIn K (.ref C) == some (.type "type")) = true then PySem.W.subIn K (.type t) (.ref C) else none) = some b
  rw [if_neg (by simp), if_pos e, h]
theorem kit_self {C : Addr} : PySem.W.kitOne K (.ref C) (.ref C) = some true := if_pos (beq_self_eq_true _)
theorem kit_of_own {C : Addr} {t : String} {b : Bool} (hm : PySem.W.kitMeta t = true) (h : PySem.W.subIn K (.ref C) (.type t) = some b) : PySem.W.kitOne K (.ref C) (.type t) = some b := by
  show (if (Value.ref C == Value.type t) = true then some true else if PySem.W.kitMeta t = true then PySem.W.subIn K (.ref C) (.type t) else none) = some b
  rw [if_neg (by simp), if_pos hm, h]
theorem tyx_ins {C a dx : Addr} {fs : List (Str × V)} {H : Hp} (cl : Cls K C) (Ty : TyC K C) (e : H a = some (.ins C dx fs)) : TyX K H (.ref a) (.ref C) := .base (.ins e cl Ty.at_.1 Ty.at_.2.1 Ty.at_.2.2.1 Ty.at_.2.2.2)
theorem any2 {t c d : Value} {a b : Bool} (h1 : PySem.W.kitOne K t c = some a) (h2 : PySem.W.kitOne K t d = some b) : PySem.W.kitAny K t [c, d] = some (a || b) := by
  unfold PySem.W.kitAny
  rw [h1]
  cases a with
  | true => rfl
  | false =>
    show PySem.W.kitAny K t [d] = some b
    unfold PySem.W.kitAny
    rw [h2]
    cases b <;> rfl
theorem ok_num (T : Txt K mg) : FnOk P w K mg base CX0 1 T.f_is_number T.d_is_number ["value"] (spNum T.C_Ratio) := by
  refine T.F_is_number.ok sc_is_number (fun vs H Q E h => ?_) (fun cdv A outer s H vs Q E hr h => ?_)
  · obtain ⟨v, b, rfl, _⟩ := h; rfl
  · obtain ⟨v, b, rfl, hn, k⟩ := h
    refine ⟨_, pss_one (ps_ret (pe_and (pe_callB call_isiT (by rfl) T.b_isinstance (by decide +kernel) (pa_cons (pv 0) (pa_cons (pe_tup (pa_cons (pe_bltn (v := .ty "int") (u := .type "int") (by rfl) T.b_int (by decide +kernel) rfl) (pa_cons (pe_glob (v := .ref T.C_Ratio) (by rfl) T.g_Ratio rfl) pa_nil))) pa_nil)))
      (pe_one (pe_not (pe_callB call_isi (by rfl) T.b_isinstance (by decide +kernel) (pa_cons (pv 0) (pa_cons (pe_bltn (v := .ty "bool") (u := .type "bool") (by rfl) T.b_bool (by decide +kernel) rfl) pa_nil))))))), ?_⟩
    refine ⟨_, rfl, (by show 2 ≤ sizeLine; decide), fun p hp => ?_⟩
    have sm : Same H (upd H p (.tup [.ty "int", .ref T.C_Ratio])) := same_upd hp
    have two : Paired ClsV [V.ty "int", V.ref T.C_Ratio] [Value.type "int", Value.ref T.C_Ratio] := .cons (.ty _) (.cons (.own _) .nil)
    -- from the value's type, whether it is one of the two classes, whether a bool
    have go : ∀ (t : Value) (a c : Bool), TyX K (upd H p (.tup [.ty "int", .ref T.C_Ratio])) v t → PySem.W.kitAny K t [.type "int", .ref T.C_Ratio] = some a → (a = true → PySem.W.kitOne K t (.type "bool") = some c) → b = (a && !c) →
        rIsiT K [v, .ref p] (upd H p (.tup [.ty "int", .ref T.C_Ratio])) (fun x H1 => ∃ c, x = .bl c ∧ if c = true then tNotV (tCB (rIsi K) (tCons (tVar 0) (tCons (tC (.ty "bool")) tNil))) [some v] H1 Q else Q (.bl false) H1) := by
      intro t a c ty h1 h2 hb
      refine ⟨v, p, _, t, _, a, rfl, upd_same, two, ty, h1, a, rfl, ?_⟩
      cases a with
      | false => exact iteF (by rw [hb] at k; exact k _ sm)
      | true =>
        refine iteT ⟨_, rfl, v, _, t, _, c, rfl, .ty _, ty, h2 rfl, c, rfl, ?_⟩
        rw [hb] at k
        exact k _ sm
    rcases hn with ⟨rfl, ⟨i, rfl⟩ | ⟨q, dx, fs, rfl, e⟩⟩ | ⟨rfl, ⟨x, rfl⟩ | ⟨z, rfl⟩ | rfl | ⟨q, xs, rfl, e⟩⟩
    · exact go (.type "int") true false (.base (.int i)) (any2 (kit_ty (b := "int") (r := true) (by decide +kernel)) (kit_ref T.tc_Ratio T.st_Ratio_int)) (fun _ => kit_ty (by decide +kernel)) rfl
    · exact go (.ref T.C_Ratio) true false (tyx_ins T.cl_Ratio T.tc_Ratio (sm _ _ e)) (any2 (kit_of_own (t := "int") (by decide +kernel) T.su_Ratio_int) kit_self) (fun _ => kit_of_own (t := "bool") (by decide +kernel) T.su_Ratio_bool) rfl
    · exact go (.type "bool") true true (.base (.bl x)) (any2 (kit_ty (b := "int") (r := true) (by decide +kernel)) (kit_ref T.tc_Ratio T.st_Ratio_bool)) (fun _ => kit_ty (by decide +kernel)) rfl
    · exact go (.type "str") false false (.base (.str z)) (any2 (kit_ty (b := "int") (r := false) (by decide +kernel)) (kit_ref T.tc_Ratio T.st_Ratio_str)) (fun q => nomatch q) rfl
    · exact go (.type "NoneType") false false (.base .non) (any2 (kit_ty (b := "int") (r := false) (by decide +kernel)) (kit_ref T.tc_Ratio T.st_Ratio_NoneType)) (fun q => nomatch q) rfl
    · exact go (.type "tuple") false false (.base (.tup (sm _ _ e))) (any2 (kit_ty (b := "int") (r := false) (by decide +kernel)) (kit_ref T.tc_Ratio T.st_Ratio_tuple)) (fun q => nomatch q) rfl

theorem small1 : (1 : Int).natAbs < 2 ^ 8000 := show 1 < 2 ^ 8000 from Nat.one_lt_two_pow (by omega)
/-- Ratio(u, l) from a heap, by the promise of __init__ -/
theorem made_of {C CI : Addr} {H : Hp} {Q : VK} {E : XK} {u l : Int} (bl : l.natAbs < 2 ^ 8000) (k1 : l ≠ 0 → GotR C H Q (lo1 u l) (lo2 u l)) (k0 : l = 0 → Bad CI (.int 0) H E) :
    ∀ x dx, H x = none → H dx = none → dx ≠ x → spInit C CI [.ref x, .int u, .int l] (upd (upd H dx (.own x)) x (.ins C dx [])) (fun v H3 => v = .non ∧ Q (.ref x) H3) E := by
  intro x dx nx ndx ne
  have sm : Same H (upd (upd H dx (.own x)) x (.ins C dx [])) := fun b o e => by
    rw [upd_ne (ne_of_none e nx), upd_ne (ne_of_none e ndx)]; exact e
  refine ⟨x, dx, u, l, rfl, upd_same, bl, fun nz => ⟨rfl, k1 nz x _ (fun b o e => ?_) ⟨dx, upd_same⟩⟩, fun z d H' s' e => k0 z d H' (sm.trans s') e⟩
  rw [upd_ne (ne_of_none e nx)]
  exact sm _ _ e
theorem made_at {C CI : Addr} {H : Hp} {Q' : VK} {E : XK} {u l : Int} (bl : l.natAbs < 2 ^ 8000) (nz : l ≠ 0) {x dx : Addr} (nx : H x = none) (ndx : H dx = none)
    (k : ∀ H', Same H H' → RatAt C H' x (lo1 u l) (lo2 u l) → Q' .non H') : spInit C CI [.ref x, .int u, .int l] (upd (upd H dx (.own x)) x (.ins C dx [])) Q' E := by
  have sm : Same H (upd (upd H dx (.own x)) x (.ins C dx [])) := fun b o e => by
    rw [upd_ne (ne_of_none e nx), upd_ne (ne_of_none e ndx)]; exact e
  exact ⟨x, dx, u, l, rfl, upd_same, bl, fun _ => k _ (fun b o e => by rw [upd_ne (ne_of_none e nx)]; exact sm _ _ e) ⟨dx, upd_same⟩, fun z => absurd z nz⟩
theorem made_bad {C CI : Addr} {H : Hp} {Q' : VK} {E : XK} {u : Int} (k0 : Bad CI (.int 0) H E) {x dx : Addr} (nx : H x = none) (ndx : H dx = none) :
    spInit C CI [.ref x, .int u, .int 0] (upd (upd H dx (.own x)) x (.ins C dx [])) Q' E := by
  have sm : Same H (upd (upd H dx (.own x)) x (.ins C dx [])) := fun b o e => by
    rw [upd_ne (ne_of_none e nx), upd_ne (ne_of_none e ndx)]; exact e
  exact ⟨x, dx, u, 0, rfl, upd_same, Nat.lt_trans (by decide) small1, fun nz => absurd rfl nz, fun _ d H' s' e => k0 d H' (sm.trans s') e⟩
theorem num_isi (T : Txt K mg) {H : Hp} {v : V} (h : NumB T.C_Ratio H v false) : ∃ t, TyX K H v (.type t) ∧ PySem.W.kitOne K (.type t) (.ref T.C_Ratio) = some false := by
  rcases h with ⟨z, _⟩ | ⟨_, ⟨x, rfl⟩ | ⟨z, rfl⟩ | rfl | ⟨q, xs, rfl, e⟩⟩
  · cases z
  · exact ⟨"bool", .base (.bl x), kit_ref T.tc_Ratio T.st_Ratio_bool⟩
  · exact ⟨"str", .base (.str z), kit_ref T.tc_Ratio T.st_Ratio_str⟩
  · exact ⟨"NoneType", .base .non, kit_ref T.tc_Ratio T.st_Ratio_NoneType⟩
  · exact ⟨"tuple", .base (.tup e), kit_ref T.tc_Ratio T.st_Ratio_tuple⟩
theorem ok_of (T : Txt K mg) : FnOk P w K mg base (L2.CX P w) 5 T.f_Ratio_of T.d_Ratio_of ["cls", "value"] (spOf T.C_Ratio T.C_InvalidNumber) := by
  obtain ⟨its, kb⟩ := kb_init1 T
  refine T.F_Ratio_of.okX sc_Ratio_of (fun vs H Q E h => ?_) (fun cdv A outer s H vs Q E hr h => ?_)
  · obtain ⟨v, rfl, _⟩ := h; rfl
  · obtain ⟨v, rfl, h⟩ := h
    refine ⟨_, pss_cons (ps_if (pt_val (pe_callB call_isi (by rfl) T.b_isinstance (by decide +kernel) (pa_cons (pv 1) (pa_cons (pe_glob (v := .ref T.C_Ratio) (by rfl) T.g_Ratio rfl) pa_nil)))) (pss_one (ps_ret (pv 1))) pss_nil)
      (pss_cons (ps_if (pt_not (pt_val (pe_f (E := fun _ => E0) (ok_num T) (hr.mono (by decide)) (by rfl) T.g_is_number T.F_is_number.kp T.B_is_number (fun _ => at0) (pa_cons (pv 1) pa_nil)))) (pss_one (ps_bad (W := fun cls d _ H' => E cls d H') T (hr.mono (by decide)) rfl (takes_of rfl rfl rfl rfl) (pv 1))) pss_nil)
      (pss_one (ps_ret (pe_mkL (i := 0) (E := fun _ => E0) ⟨T.mk_Ratio, T.m_Ratio_init_d.at_, T.m_Ratio_init_d.fn, T.kp_Ratio⟩ (ok_init T) hr rfl (.inl rfl) kb (fun _ => atL) (pa_cons (pv 1) pa_nil))))), ?_⟩
    rcases h with ⟨i, rfl, k⟩ | ⟨p, a, b, rfl, ⟨dx, e⟩, k⟩ | ⟨hn, k⟩
    · refine ⟨_, rfl, _, _, .type "int", _, false, rfl, .own _, .base (.int i), kit_ref T.tc_Ratio T.st_Ratio_int, false, rfl, iteF ?_⟩
      refine ⟨_, rfl, _, true, rfl, .inl ⟨rfl, .inl ⟨i, rfl⟩⟩, fun H1 s1 => ⟨true, rfl, iteF ?_⟩⟩
      refine ⟨rfl, _, rfl, rfl, made_of small1 (fun _ => ?_) (fun z => absurd z (by decide))⟩
      rw [(lo_one i).1, (lo_one i).2]
      exact fun p H2 s2 r => k p H2 (s1.trans s2) r
    · refine ⟨_, rfl, _, _, .ref T.C_Ratio, _, true, rfl, .own _, tyx_ins T.cl_Ratio T.tc_Ratio e, kit_self, true, rfl, iteT ?_⟩
      exact ⟨_, rfl, k _ (Same.refl _)⟩
    · obtain ⟨t, ty, kt⟩ := num_isi T hn
      refine ⟨_, rfl, _, _, .type t, _, false, rfl, .own _, ty, kt, false, rfl, iteF ?_⟩
      exact ⟨_, rfl, v, false, rfl, hn, fun H1 s1 => ⟨false, rfl, iteT ⟨_, rfl, fun d H' s' e => k d H' (s1.trans s') e⟩⟩⟩

/-! texts of ratios -/
def tx (i : Int) : Str := Str.ofString (toString i)
theorem str_assoc (a b c : Str) : a ++ b ++ c = a ++ (b ++ c) := congrArg Str.mk (Array.append_assoc (xs := a.cps) (ys := b.cps) (zs := c.cps))
theorem str_nil (a : Str) : Str.empty ++ a = a := congrArg Str.mk (Array.empty_append (xs := a.cps))
theorem str_nil2 (a : Str) : a ++ Str.empty = a := congrArg Str.mk (Array.append_empty (xs := a.cps))
theorem str_len (a b : Str) : (a ++ b).length = a.length + b.length := Array.size_append (xs := a.cps) (ys := b.cps)
theorem tx_len {i : Int} (h : i.natAbs.log2 < 1920) : (tx i).length ≤ 1921 := PyProof.Rows.int_text_len_1921 h
def ratTx (a b : Int) : Str := if b = 1 then tx a else tx a ++ "/" ++ tx b
def ratRp (a b : Int) : Str := "Ratio(" ++ tx a ++ ", " ++ tx b ++ ")"
def Sm (i : Int) : Prop := i.natAbs.log2 < 1920
def spStr (C : Addr) : Sp := fun vs H Q _ => ∃ p a b, vs = [.ref p] ∧ RatAt C H p a b ∧ Sm a ∧ Sm b ∧ Q (.str (ratTx a b)) H
def spRepr (C : Addr) : Sp := fun vs H Q _ => ∃ p a b, vs = [.ref p] ∧ RatAt C H p a b ∧ Sm a ∧ Sm b ∧ Q (.str (ratRp a b)) H
def spWhole (C : Addr) : Sp := fun vs H Q _ => ∃ p a b, vs = [.ref p] ∧ RatAt C H p a b ∧ Q (.bl (decide (b = 1))) H
def spFloor (C : Addr) : Sp := fun vs H Q _ => ∃ p a b, vs = [.ref p] ∧ RatAt C H p a b ∧ b ≠ 0 ∧ b.natAbs.log2 < 9000 ∧ Q (.int (a.fdiv b)) H
def spBool (C : Addr) : Sp := fun vs H Q _ => ∃ p a b, vs = [.ref p] ∧ RatAt C H p a b ∧ Q (.bl (a != 0)) H
theorem line_le {n : Nat} (h : n ≤ 10000) : n ≤ sizeLine := Nat.le_trans h (by rw [sizeLine_eq]; decide)
theorem ok_str (T : Txt K mg) : FnOk P w K mg base CX0 1 T.f_Ratio_str_d T.d_Ratio_str_d ["self"] (spStr T.C_Ratio) := by
  refine T.F_Ratio_str_d.ok sc_Ratio_str_d (fun vs H Q E ⟨_, _, _, e, _⟩ => by rw [e]; rfl) (fun cdv A outer s H vs Q E hr h => ?_)
  obtain ⟨p, a, b, rfl, ⟨dx, e⟩, sa, sb, k⟩ := h
  refine ⟨_, pss_cons (ps_if (pt_cmpR op_eq (pe_fld (pv 0) rfl) pe_int (nomark _)) (pss_one (ps_ret (pe_callTy call_str_int (by rfl) T.b_str (by decide +kernel) (pa_cons (pe_fld (pv 0) rfl) pa_nil)))) pss_nil)
    (pss_one (ps_ret (pe_joined (.cons (pe_fmt (pe_fld (pv 0) rfl)) (.cons pe_str (.cons (pe_fmt (pe_fld (pv 0) rfl)) .nil)))))), ?_⟩
  refine ⟨_, rfl, p, _, dx, _, _, rfl, e, T.cl_Ratio, T.n_Ratio_bottom, rfs_bot a b, rfl, _, rfl, ?_⟩
  have la := tx_len sa
  have lb := tx_len sb
  unfold ratTx at k
  refine ite2 (fun c => ?_) (fun c => ?_)
  · have e1 : b = 1 := by have z := of_decide_eq_true c; injection z
    rw [if_pos e1] at k
    exact ⟨_, rfl, p, _, dx, _, _, rfl, e, T.cl_Ratio, T.n_Ratio_top, rfs_top a b, _, rfl, sa, k⟩
  · have e1 : ¬ b = 1 := fun z => c (by rw [z]; exact decide_eq_true rfl)
    rw [if_neg e1] at k
    have l1 : ("/" : Str).length = 1 := by decide +kernel
    refine ⟨_, rfl, p, _, dx, _, _, rfl, e, T.cl_Ratio, T.n_Ratio_top, rfs_top a b, .inr ⟨a, rfl, sa, tx a, rfl, line_le (by rw [str_nil]; omega), "/", rfl, line_le (by rw [str_nil, str_len, l1]; omega), ⟨_, rfl, p, _, dx, _, _, rfl, e, T.cl_Ratio, T.n_Ratio_bottom, rfs_bot a b, .inr ⟨b, rfl, sb, tx b, rfl, line_le (by rw [str_nil, str_len, str_len, l1]; omega), ?_⟩⟩⟩⟩
    show Q (.str (Str.empty ++ tx a ++ "/" ++ tx b)) H
    rw [str_nil]
    exact k
end

/-! ### the law's own helpers: draws -/
/-- a box: what is left of a great cell, the seed, the count -/
def BoxL (n s c : Int) : HO := .lst [.int n, .int s, .int c]
def BoxAt (H : Hp) (p : Addr) : Prop := ∃ n s c : Int, H p = some (BoxL n s c) ∧ 0 ≤ n ∧ 0 ≤ s ∧ s < 2147483648
def spBox (K : PySem.W.Frag) : Sp := fun vs H Q _ => ∃ (a : Addr) (ns : List Int) (k : Int), vs = [.ref a, .int k] ∧ SqL K H a (ns.map V.int) ∧ 0 ≤ k ∧ ∀ p H', H p = none → Same H H' → BoxAt H' p → Q (.ref p) H'
/-- a digit is drawn; the box alone changes -/
def spTake : Sp := fun vs H Q _ => ∃ (p : Addr) (m : Int), vs = [.ref p, .int m] ∧ BoxAt H p ∧ 0 < m ∧ m < 1073741824 ∧ ∀ d n s c : Int, 0 ≤ d → d < m → BoxAt (upd H p (BoxL n s c)) p → Q (.int d) (upd H p (BoxL n s c))
theorem at_ints {ns : List Int} {i : Int} (h0 : 0 ≤ i) (h1 : i < (ns.length : Int)) : ∃ z, atI (ns.map V.int) i = some (V.int z) := by
  obtain ⟨j, rfl⟩ : ∃ j : Nat, i = (j : Int) := ⟨i.toNat, by omega⟩
  have hj : j < ns.length := by omega
  exact ⟨ns[j], atI_nat (by rw [List.getElem?_map, List.getElem?_eq_getElem hj]; rfl)⟩
section
variable {P : Program} {w : World} {K : PySem.W.Frag} {mg : Str → Option Value} {base : Heap}
theorem ok_box (T : Txt K mg) : FnOk P w K mg base CX0 1 T.f_lw_box T.d_lw_box ["_law_script", "_law_k"] (spBox K) := by
  refine T.F_lw_box.ok sc_lw_box (fun vs H Q E ⟨_, _, _, e, _⟩ => by rw [e]; rfl) (fun cdv A outer s H vs Q E hr h => ?_)
  obtain ⟨a, ns, k, rfl, hS, h0, fin⟩ := h
  refine ⟨_, pss_cons (ps_set (i := 2) sc_lw_box.nd rfl (.inl rfl) (pe_op op_add (pe_op op_mul pe_int (pv 1)) pe_int))
    (C8.pss_cut (ps_if (pt_cmpR op_lt (pv 1) (pe_callB call_len_seq (by rfl) T.b_len PySem.boot_len (pa_cons (pv 0) pa_nil)) (nomark _))
        (pss_one (ps_set (i := 2) sc_lw_box.nd rfl (.inl rfl) (pe_ix ix_list (pv 0) (pv 1) (fun _ _ => rfl))))
        (pss_one (ps_if (pt_cmpR op_gt (pe_callB call_len_seq (by rfl) T.b_len PySem.boot_len (pa_cons (pv 0) pa_nil)) pe_int (nomark _))
          (pss_one (ps_set (i := 2) sc_lw_box.nd rfl (.inl rfl) (pe_op op_add (pv 2) (pe_op op_mulW (pe_op op_mod (pe_ix ix_list (pv 0) (pe_op op_mod (pv 1) (pe_callB call_len_seq (by rfl) T.b_len PySem.boot_len (pa_cons (pv 0) pa_nil))) (fun _ _ => rfl)) pe_int) pe_int))))
          pss_nil)))
    (pss_cons (ps_set (i := 3) sc_lw_box.nd rfl (.inl rfl) (pe_op op_add (pe_op op_mod (pe_op op_add (pe_op op_mulW (pe_op op_mod (pv 2) pe_int) pe_int) (pe_op op_mul pe_int (pv 1))) pe_int) pe_int))
    (pss_one (ps_ret (pe_lst (pa_cons (pe_ix ix_list (pe_lst (pa_cons pe_int (pa_cons (pv 2) pa_nil))) (pe_callTy call_int1 (by rfl) T.b_int (by decide +kernel) (pa_cons (pe_cmpR op_ge (pv 2) (pe_op op_pow pe_int pe_int) (nomark _)) pa_nil)) (fun _ _ => rfl)) (pa_cons (pv 3) (pa_cons pe_int pa_nil)))))))), ?_⟩
  have small : ∀ {x y : Int}, 0 ≤ x → x < 4294967296 → y.natAbs < 2 ^ 32 → CMulW x y := fun {x y} h1 h2 h3 => wide_mul (a := 32) (b := 32) (by omega) h3 (by decide) (by decide) (by decide)
  refine ⟨_, rfl, _, _, rfl, rfl, .inl ⟨by decide, by decide⟩, _, _, rfl, rfl, ?_⟩
  refine ⟨fun σ' H' => H = H' ∧ ∃ c : Int, σ' = [some (.ref a), some (.int k), some (.int c), none], ?_, ?_⟩
  · refine ⟨_, rfl, _, rfl, a, _, rfl, .inl hS, _, _, rfl, rfl, _, rfl, ?_⟩
    refine ite2 (fun c => ?_) (fun c => ?_)
    · have lt : k < (ns.length : Int) := by have z := of_decide_eq_true c; rw [List.length_map] at z; exact z
      obtain ⟨z, hz⟩ := at_ints h0 lt
      exact ⟨_, rfl, _, rfl, a, _, _, _, rfl, rfl, hS, hz, rfl, z, rfl⟩
    · refine ⟨_, rfl, a, _, rfl, .inl hS, _, _, rfl, rfl, _, rfl, ?_⟩
      refine ite2 (fun c2 => ?_) (fun c2 => ⟨rfl, _, rfl⟩)
      have pos : 0 < ((ns.map V.int).length : Int) := of_decide_eq_true c2
      have e := Int.emod_nonneg k (b := ((ns.map V.int).length : Int)) (by omega)
      have e2 := Int.emod_lt_of_pos k pos
      obtain ⟨z, hz⟩ := at_ints (ns := ns) (i := k % ((ns.map V.int).length : Int)) e (by rw [List.length_map] at e2 ⊢; exact e2)
      refine ⟨_, rfl, _, rfl, _, rfl, _, rfl, a, _, rfl, .inl hS, _, _, rfl, rfl, pos, a, _, _, _, rfl, rfl, hS, hz, _, _, rfl, rfl, (by show (0 : Int) < 2147483629; decide), _, _, rfl, rfl, ?_, _, _, rfl, rfl, rfl, _, rfl⟩
      exact small (Int.emod_nonneg _ (by decide)) (Int.lt_trans (Int.emod_lt_of_pos _ (by decide)) (by decide)) (by decide)
  · rintro _ _ ⟨rfl, c, rfl⟩
    refine ⟨_, rfl, _, _, rfl, rfl, (by show (0 : Int) < 2147483629; decide), _, _, rfl, rfl, ?_, _, rfl, _, _, rfl, rfl, .inl ⟨by decide, by decide⟩, _, _, rfl, rfl, _, _, rfl, rfl, (by show (0 : Int) < 2147483629; decide), _, _, rfl, rfl, ?_⟩
    · exact small (Int.emod_nonneg _ (by decide)) (Int.lt_trans (Int.emod_lt_of_pos _ (by decide)) (by decide)) (by decide)
    have s0 := Int.emod_nonneg (c % 2147483629 * 48271 + 40699 * k) (b := 2147483629) (by decide)
    have s1 := Int.emod_lt_of_pos (c % 2147483629 * 48271 + 40699 * k) (b := 2147483629) (by decide)
    generalize (c % 2147483629 * 48271 + 40699 * k) % 2147483629 = sd at s0 s1
    refine ⟨_, rfl, (by show 2 ≤ sizeLine; decide), fun q hq => ?_⟩
    refine ⟨_, rfl, _, _, rfl, rfl, ⟨by decide, by decide, by decide⟩, _, _, rfl, rfl, .inr ⟨_, rfl, ?_⟩⟩
    have done : ∀ n : Int, 0 ≤ n → tCons (tVar 3) (tCons (tC (.int 0)) tNil) [some (.ref a), some (.int k), some (.int c), some (.int (sd + 1))] (upd H q (.lst [.int 0, .int c])) (fun xs H2 => (V.int n :: xs).length ≤ sizeLine ∧ ∀ p, H2 p = none → Q (.ref p) (upd H2 p (.lst (V.int n :: xs)))) := by
      intro n hn
      refine ⟨_, rfl, (by show 3 ≤ sizeLine; decide), fun p hp => fin p _ ?_ ?_ ⟨n, sd + 1, 0, upd_same, hn, by omega, by omega⟩⟩
      · exact (same_upd hq).free hp
      · exact (same_upd hq).trans (same_upd hp)
    by_cases g : (10 : Int) ^ (18 : Int).toNat ≤ c
    · rw [decide_eq_true g]
      refine ⟨q, [.int 0, .int c], 1, .int c, rfl, rfl, SqL.of upd_same, rfl, done c (Int.le_trans (by decide) g)⟩
    · rw [decide_eq_false g]
      exact ⟨q, [.int 0, .int c], 0, .int 0, rfl, rfl, SqL.of upd_same, rfl, done 0 (by decide)⟩

theorem ok_take (T : Txt K mg) : FnOk P w K mg base CX0 1 T.f_lw_take T.d_lw_take ["_law_box_here", "_law_many"] spTake := by
  refine T.F_lw_take.ok sc_lw_take (fun vs H Q E ⟨_, _, e, _⟩ => by rw [e]; rfl) (fun cdv A outer s H vs Q E hr h => ?_)
  obtain ⟨p, m, rfl, ⟨n, sd, c, hb, n0, s0, s1⟩, m0, m1, fin⟩ := h
  refine ⟨_, pss_cons (ps_if (pt_cmpR op_gt (pe_ix ix_list (pv 0) pe_int (fun _ _ => rfl)) pe_int (nomark _))
      (pss_cons (ps_set (i := 2) sc_lw_take.nd rfl (.inl rfl) (pe_op op_mod (pe_ix ix_list (pv 0) pe_int (fun _ _ => rfl)) (pv 1)))
        (pss_cons (ps_asg (pe_op op_fdivX (pe_ix ix_list (pv 0) pe_int (fun _ _ => rfl)) (pv 1)) (pg_sub (pv 0) pe_int set_list)) (pss_one (ps_ret (pv 2))))) pss_nil)
    (pss_cons (ps_asg (pe_op op_add (pe_ix ix_list (pv 0) pe_int (fun _ _ => rfl)) pe_int) (pg_sub (pv 0) pe_int set_list))
    (pss_cons (ps_set (i := 3) sc_lw_take.nd rfl (.inl rfl) (pe_op op_mod (pe_op op_mul (pe_op op_add (pe_ix ix_list (pv 0) pe_int (fun _ _ => rfl)) (pe_op op_mul pe_int (pe_ix ix_list (pv 0) pe_int (fun _ _ => rfl)))) pe_int) pe_int))
    (pss_cons (ps_asg (pe_op op_add (pe_op op_mod (pe_op op_add (pe_op op_mul (pv 3) pe_int) pe_int) pe_int) pe_int) (pg_sub (pv 0) pe_int set_list))
    (pss_cons (ps_set (i := 4) sc_lw_take.nd rfl (.inl rfl) (pe_op op_add (pe_op op_mul (pv 3) pe_int) (pe_ix ix_list (pv 0) pe_int (fun _ _ => rfl))))
    (pss_one (ps_ret (pe_op op_mod (pe_ifExp (pt_cmpR op_gt (pv 1) (pe_op op_pow pe_int pe_int) (nomark _)) (pe_op op_fdiv (pe_op op_mul (pv 4) (pv 4)) pe_int) (pe_op op_fdiv (pv 4) pe_int)) (pv 1)))))))), ?_⟩
  have L0 : SqL K H p [.int n, .int sd, .int c] := SqL.of hb
  refine ⟨_, rfl, p, _, 0, .int n, rfl, rfl, L0, rfl, _, _, rfl, rfl, _, rfl, ?_⟩
  refine ite2 (fun g => ?_) (fun g => ?_)
  · have pos : 0 < n := of_decide_eq_true g
    refine ⟨_, rfl, p, _, 0, .int n, rfl, rfl, L0, rfl, _, rfl, _, _, rfl, rfl, m0, ?_⟩
    refine ⟨_, rfl, p, _, 0, .int n, rfl, rfl, L0, rfl, _, rfl, _, _, rfl, rfl, ⟨by omega, lenU (n := 30) (by omega) (by decide) (by decide)⟩, ?_⟩
    refine ⟨_, rfl, p, _, 0, 0, rfl, rfl, hb, rfl, ?_⟩
    refine ⟨_, rfl, fin (n % m) (n.fdiv m) sd c (Int.emod_nonneg _ (by omega)) (Int.emod_lt_of_pos _ m0) ⟨_, _, _, upd_same, ?_, s0, s1⟩⟩
    rw [Int.fdiv_eq_ediv_of_nonneg _ (by omega)]
    exact Int.ediv_nonneg n0 (by omega)
  · have z : n = 0 := by have : ¬ 0 < n := fun q => g (decide_eq_true q); omega
    refine ⟨_, rfl, p, _, 2, .int c, rfl, rfl, L0, rfl, _, _, rfl, rfl, _, rfl, p, _, 2, 2, rfl, rfl, hb, rfl, ?_⟩
    have L1 : SqL K (upd H p (.lst [.int n, .int sd, .int (c + 1)])) p [.int n, .int sd, .int (c + 1)] := SqL.of upd_same
    refine ⟨_, rfl, p, _, 1, .int sd, rfl, rfl, L1, rfl, _, rfl, p, _, 2, .int (c + 1), rfl, rfl, L1, rfl, _, _, rfl, rfl, .inl ⟨by decide, by decide⟩, _, _, rfl, rfl, _, _, rfl, rfl, .inr ⟨by decide, by decide⟩, _, _, rfl, rfl, (by show (0 : Int) < 2147483647; decide), ?_⟩
    have f0 := Int.emod_nonneg ((sd + 104743 * (c + 1)) * 69621) (b := 2147483647) (by decide)
    have f1 := Int.emod_lt_of_pos ((sd + 104743 * (c + 1)) * 69621) (b := 2147483647) (by decide)
    obtain ⟨fi, hfi⟩ : ∃ fi, fi = (sd + 104743 * (c + 1)) * 69621 % 2147483647 := ⟨_, rfl⟩
    rw [← hfi] at f0 f1
    have g0 := Int.emod_nonneg (fi * 48271 + 30107) (b := 2147483629) (by decide)
    have g1 := Int.emod_lt_of_pos (fi * 48271 + 30107) (b := 2147483629) (by decide)
    refine ⟨_, rfl, _, _, rfl, rfl, .inr ⟨by decide, by decide⟩, _, _, rfl, rfl, _, _, rfl, rfl, (by show (0 : Int) < 2147483629; decide), _, _, rfl, rfl, _, rfl, p, _, 1, 1, rfl, rfl, upd_same, rfl, ?_⟩
    obtain ⟨gi, hgi⟩ : ∃ gi, gi = (fi * 48271 + 30107) % 2147483629 := ⟨_, rfl⟩
    rw [← hgi] at g0 g1
    subst hfi
    have L2' : SqL K (upd (upd H p (.lst [.int n, .int sd, .int (c + 1)])) p (.lst [.int n, .int (gi + 1), .int (c + 1)])) p [.int n, .int (gi + 1), .int (c + 1)] := SqL.of upd_same
    subst hgi
    refine ⟨_, rfl, _, _, rfl, rfl, .inr ⟨by decide, by decide⟩, _, rfl, p, _, 1, _, rfl, rfl, L2', rfl, _, _, rfl, rfl, ?_⟩
    refine ⟨_, rfl, _, _, rfl, rfl, ⟨by decide, by decide, by decide⟩, _, _, rfl, rfl, _, rfl, ?_⟩
    have ret : ∀ d : Int, 0 ≤ d → d < m → Q (.int d) (upd (upd H p (.lst [.int n, .int sd, .int (c + 1)])) p (.lst [.int n, .int (((sd + 104743 * (c + 1)) * 69621 % 2147483647 * 48271 + 30107) % 2147483629 + 1), .int (c + 1)])) := by
      intro d d0 d1
      rw [upd_upd]
      exact fin d n _ (c + 1) d0 d1 ⟨_, _, _, upd_same, n0, by omega, by omega⟩
    refine ite2 (fun _ => ?_) (fun _ => ?_)
    · refine ⟨_, rfl, _, rfl, _, _, rfl, rfl, .inl ⟨by omega, by omega⟩, _, _, rfl, rfl, ⟨by decide, by decide⟩, _, rfl, _, _, rfl, rfl, m0, ret _ (Int.emod_nonneg _ (by omega)) (Int.emod_lt_of_pos _ m0)⟩
    · exact ⟨_, rfl, _, _, rfl, rfl, ⟨by decide, by decide⟩, _, rfl, _, _, rfl, rfl, m0, ret _ (Int.emod_nonneg _ (by omega)) (Int.emod_lt_of_pos _ m0)⟩

theorem gcd_step {x y : Int} (hx : 0 ≤ x) (hy : 0 < y) : Nat.gcd y.natAbs (x % y).natAbs = Nat.gcd x.natAbs y.natAbs := by
  have e : (x % y).natAbs = x.natAbs % y.natAbs := by
    have e1 : x = (x.natAbs : Int) := by omega
    have e2 : y = (y.natAbs : Int) := by omega
    rw [e1, e2]
    simp only [Int.natAbs_natCast]
    omega
  rw [e, Nat.gcd_comm y.natAbs, ← Nat.gcd_rec, Nat.gcd_comm]
theorem abs_if (i : Int) : (if i < 0 then -i else i) = (i.natAbs : Int) := by
  split <;> omega
def spLow : Sp := fun vs H Q _ => ∃ u l : Int, vs = [.int u, .int l] ∧ l ≠ 0 ∧ l.natAbs < 2 ^ 8000 ∧ ∀ p H', Same H H' → H' p = some (.tup [.int (lo1 u l), .int (lo2 u l)]) → Q (.ref p) H'
def lowM (σ : L2.St) : Nat := match (show Option (Option V) from σ[3]?) with
  | some (some (V.int y)) => y.toNat
  | _ => 0
end
/-! ### small words -/
/-- all that was tracked is as it was, but the box at p -/
def But (p : Addr) (H H' : Hp) : Prop := ∀ b o, b ≠ p → H b = some o → H' b = some o
theorem if_false_ {c : Bool} {A B : Prop} (hc : c = false) (h : B) : if c = true then A else B := by
  rw [hc]
  exact iteF h
theorem But.refl (p : Addr) (H : Hp) : But p H H := fun _ _ _ e => e
theorem But.trans {p : Addr} {H H1 H2 : Hp} (a : But p H H1) (b : But p H1 H2) : But p H H2 := fun c o n e => b c o n (a c o n e)
theorem But.of {p : Addr} {H H' : Hp} (s : Same H H') : But p H H' := fun b o _ e => s b o e
theorem But.upd {p : Addr} {H : Hp} {o : HO} : But p H (upd H p o) := fun b u n e => by rw [upd_ne n]; exact e
theorem BoxAt.same {H H' : Hp} {p : Addr} (h : BoxAt H p) (s : Same H H') : BoxAt H' p := let ⟨n, a, c, e, r⟩ := h; ⟨n, a, c, s _ _ e, r⟩
theorem menu4 {a b c e : V} {d : Int} (h0 : 0 ≤ d) (h1 : d < 4) {p : V → Prop} (pa : p a) (pb : p b) (pc : p c) (pe : p e) : ∃ v, atI [a, b, c, e] d = some v ∧ p v := by
  obtain rfl | rfl | rfl | rfl : d = 0 ∨ d = 1 ∨ d = 2 ∨ d = 3 := by omega
  · exact ⟨a, rfl, pa⟩
  · exact ⟨b, rfl, pb⟩
  · exact ⟨c, rfl, pc⟩
  · exact ⟨e, rfl, pe⟩
theorem menu2 {a b : V} {d : Int} (h0 : 0 ≤ d) (h1 : d < 2) {p : V → Prop} (pa : p a) (pb : p b) : ∃ v, atI [a, b] d = some v ∧ p v := by
  obtain rfl | rfl : d = 0 ∨ d = 1 := by omega
  · exact ⟨a, rfl, pa⟩
  · exact ⟨b, rfl, pb⟩
theorem menu3 {a b c : V} {d : Int} (h0 : 0 ≤ d) (h1 : d < 3) {p : V → Prop} (pa : p a) (pb : p b) (pc : p c) : ∃ v, atI [a, b, c] d = some v ∧ p v := by
  obtain rfl | rfl | rfl : d = 0 ∨ d = 1 ∨ d = 2 := by omega
  · exact ⟨a, rfl, pa⟩
  · exact ⟨b, rfl, pb⟩
  · exact ⟨c, rfl, pc⟩
theorem menu5 {a b c e f : V} {d : Int} (h0 : 0 ≤ d) (h1 : d < 5) {p : V → Prop} (pa : p a) (pb : p b) (pc : p c) (pe : p e) (pf : p f) : ∃ v, atI [a, b, c, e, f] d = some v ∧ p v := by
  obtain rfl | rfl | rfl | rfl | rfl : d = 0 ∨ d = 1 ∨ d = 2 ∨ d = 3 ∨ d = 4 := by omega
  · exact ⟨a, rfl, pa⟩
  · exact ⟨b, rfl, pb⟩
  · exact ⟨c, rfl, pc⟩
  · exact ⟨e, rfl, pe⟩
  · exact ⟨f, rfl, pf⟩
section
variable {P : Program} {w : World} {K : PySem.W.Frag} {mg : Str → Option Value} {base : Heap}
theorem exm_inv (T : Txt K mg) : PySem.W.exmOne K (.ref T.C_InvalidNumber) (.ref T.C_InvalidNumber) = some true := by
  have e1 : (PySem.W.subIn K (.ref T.C_InvalidNumber) (.type "BaseException") == some true) = true := by rw [T.ox_InvalidNumber.exC]; exact beq_self_eq_true _
  have e2 : ((PySem.W.clsIn K T.C_InvalidNumber).isSome && PySem.W.typeIn K (.ref T.C_InvalidNumber) == some (.type "type")) = true := by
    rw [show (PySem.W.clsIn K T.C_InvalidNumber).isSome = true from T.ic_InvalidNumber, T.ox_InvalidNumber.tyC]; exact beq_self_eq_true _
  show (if (PySem.W.subIn K (.ref T.C_InvalidNumber) (.type "BaseException") == some true) = true then (if ((PySem.W.clsIn K T.C_InvalidNumber).isSome && PySem.W.typeIn K (.ref T.C_InvalidNumber) == some (.type "type")) = true then PySem.W.subIn K (.ref T.C_InvalidNumber) (.ref T.C_InvalidNumber) else none) else none) = some true
  rw [if_pos e1, if_pos e2]
  exact T.ss_InvalidNumber
theorem xval (v : V) : List.lookup ("value" : Str) [(("value" : Str), v)] = some v := by simp [List.lookup]
theorem zero_lt_8000 : (0 : Int).natAbs < 2 ^ 8000 := Nat.lt_trans (by decide) small1
theorem sm_of {i : Int} (h : i.natAbs ≤ 1000000000) : Sm i := by
  have : i.natAbs.log2 < 30 := PySem.Flt.log2_lt_of (by decide) (by omega)
  unfold Sm
  omega
theorem big_of {i : Int} (h : i.natAbs ≤ 1000000000) : i.natAbs < 2 ^ 8000 := Nat.lt_of_lt_of_le (show i.natAbs < 2 ^ 30 by omega) (Nat.pow_le_pow_right (by decide) (by decide))
theorem sm_fdiv {a b : Int} (ha : a.natAbs ≤ 1000000000) (hb : 0 < b) : Sm (a.fdiv b) := by
  rw [Int.fdiv_eq_ediv_of_nonneg _ (by omega)]
  exact sm_of (Nat.le_trans (Int.natAbs_ediv_le_natAbs _ _) ha)
theorem but_new {p : Addr} {H H1 H2 : Hp} (n : H p = none) (s : Same H H1) (b : But p H1 H2) : Same H H2 := fun c o e => b c o (ne_of_none e n) (s c o e)
theorem sqT_same {H H' : Hp} {a : Addr} {xs : List V} (s : Same H H') (h : H a = some (.tup xs)) : SqT K H' a xs := SqT.of (s _ _ h)
end

/-! ### lowest terms are the only ones -/
theorem sg_mul {l : Int} (h : l ≠ 0) : sg l * l = (l.natAbs : Int) ∧ (sg l = 1 ∨ sg l = -1) := by
  unfold sg
  split
  · exact ⟨by omega, .inr rfl⟩
  · exact ⟨by omega, .inl rfl⟩
/-- u / l in lowest terms: the cross product, coprime -/
theorem lo_cross {u l : Int} (h : l ≠ 0) : lo1 u l * l = u * lo2 u l := by
  have hg := gc_pos (u := u) h
  obtain ⟨k1, e1⟩ := gc_dvd1 u l
  obtain ⟨k2, e2⟩ := gc_dvd2 u l
  unfold lo1 lo2
  have a1 : sg l * u / gc u l = sg l * k1 := by
    have : sg l * u = gc u l * (sg l * k1) := by rw [Int.mul_left_comm, ← e1]
    rw [this, Int.mul_ediv_cancel_left _ (by omega)]
  have a2 : sg l * l / gc u l = sg l * k2 := by
    have : sg l * l = gc u l * (sg l * k2) := by rw [Int.mul_left_comm, ← e2]
    rw [this, Int.mul_ediv_cancel_left _ (by omega)]
  rw [a1, a2]
  have : sg l * k1 * l = gc u l * k1 * (sg l * k2) := by
    generalize gc u l = g at *
    rw [e2]
    simp only [Int.mul_assoc, Int.mul_comm, Int.mul_left_comm]
  rw [this, ← e1]
theorem lo_cop {u l : Int} (h : l ≠ 0) : Nat.gcd (lo1 u l).natAbs (lo2 u l).natAbs = 1 := by
  have hg := gc_pos (u := u) h
  obtain ⟨k1, e1⟩ := gc_dvd1 u l
  obtain ⟨k2, e2⟩ := gc_dvd2 u l
  have a1 : lo1 u l = sg l * k1 := by
    have : sg l * u = gc u l * (sg l * k1) := by rw [Int.mul_left_comm, ← e1]
    unfold lo1
    rw [this, Int.mul_ediv_cancel_left _ (by omega)]
  have a2 : lo2 u l = sg l * k2 := by
    have : sg l * l = gc u l * (sg l * k2) := by rw [Int.mul_left_comm, ← e2]
    unfold lo2
    rw [this, Int.mul_ediv_cancel_left _ (by omega)]
  have n1 : (lo1 u l).natAbs = k1.natAbs := by
    rw [a1, Int.natAbs_mul]
    rcases (sg_mul h).2 with z | z <;> rw [z] <;> simp
  have n2 : (lo2 u l).natAbs = k2.natAbs := by
    rw [a2, Int.natAbs_mul]
    rcases (sg_mul h).2 with z | z <;> rw [z] <;> simp
  rw [n1, n2]
  have gg : gc u l = (Nat.gcd u.natAbs l.natAbs : Int) := rfl
  have gp : 0 < Nat.gcd u.natAbs l.natAbs := by omega
  have m1 : u.natAbs = Nat.gcd u.natAbs l.natAbs * k1.natAbs := by
    have := congrArg Int.natAbs e1
    rw [Int.natAbs_mul, gg] at this
    simpa using this
  have m2 : l.natAbs = Nat.gcd u.natAbs l.natAbs * k2.natAbs := by
    have := congrArg Int.natAbs e2
    rw [Int.natAbs_mul, gg] at this
    simpa using this
  obtain ⟨g, hg2⟩ : ∃ g, g = Nat.gcd u.natAbs l.natAbs := ⟨_, rfl⟩
  rw [← hg2] at m1 m2 gp
  have z : g = g * Nat.gcd k1.natAbs k2.natAbs := by
    rw [← Nat.gcd_mul_left, ← m1, ← m2]
    exact hg2
  exact Nat.eq_of_mul_eq_mul_left gp (by omega)
theorem cop_unique {p q x y : Int} (hq : 0 < q) (hy : 0 < y) (c1 : Nat.gcd p.natAbs q.natAbs = 1) (c2 : Nat.gcd x.natAbs y.natAbs = 1) (e : p * y = x * q) : p = x ∧ q = y := by
  have en : p.natAbs * y.natAbs = x.natAbs * q.natAbs := by rw [← Int.natAbs_mul, e, Int.natAbs_mul]
  have d1 : q.natAbs ∣ y.natAbs := by
    have : q.natAbs ∣ p.natAbs * y.natAbs := by rw [en]; exact Nat.dvd_mul_left _ _
    exact Nat.Coprime.dvd_of_dvd_mul_left (Nat.Coprime.symm c1) this
  have d2 : y.natAbs ∣ q.natAbs := by
    have : y.natAbs ∣ x.natAbs * q.natAbs := by rw [← en]; exact Nat.dvd_mul_left _ _
    exact Nat.Coprime.dvd_of_dvd_mul_left (Nat.Coprime.symm c2) this
  have qy : q = y := by
    have := Nat.dvd_antisymm d1 d2
    omega
  subst qy
  exact ⟨Int.eq_of_mul_eq_mul_right (by omega) e, rfl⟩
/-- equal fractions have equal lowest terms -/
theorem lo_eq {u l x y : Int} (h : l ≠ 0) (h2 : y ≠ 0) (e : u * y = x * l) : lo1 u l = lo1 x y ∧ lo2 u l = lo2 x y := by
  refine cop_unique (lo2_pos h) (lo2_pos h2) (lo_cop h) (lo_cop h2) ?_
  have a := lo_cross (u := u) h
  have b := lo_cross (u := x) h2
  have s : (l * y) * (lo1 u l * lo2 x y) = (l * y) * (lo1 x y * lo2 u l) := by
    calc (l * y) * (lo1 u l * lo2 x y) = (lo1 u l * l) * (y * lo2 x y) := by simp only [Int.mul_assoc, Int.mul_comm, Int.mul_left_comm]
      _ = (u * lo2 u l) * (y * lo2 x y) := by rw [a]
      _ = (u * y) * (lo2 u l * lo2 x y) := by simp only [Int.mul_assoc, Int.mul_comm, Int.mul_left_comm]
      _ = (x * l) * (lo2 u l * lo2 x y) := by rw [e]
      _ = (x * lo2 x y) * (l * lo2 u l) := by simp only [Int.mul_assoc, Int.mul_comm, Int.mul_left_comm]
      _ = (lo1 x y * y) * (l * lo2 u l) := by rw [b]
      _ = (l * y) * (lo1 x y * lo2 u l) := by simp only [Int.mul_assoc, Int.mul_comm, Int.mul_left_comm]
  exact Int.eq_of_mul_eq_mul_left (Int.mul_ne_zero h h2) s
/-- lowest terms stay -/
theorem lo_of_cop {a b : Int} (hb : 0 < b) (c : Nat.gcd a.natAbs b.natAbs = 1) : lo1 a b = a ∧ lo2 a b = b := by
  have nz : b ≠ 0 := by omega
  exact cop_unique (lo2_pos nz) hb (lo_cop nz) c (by rw [lo_cross nz])

/-! ### numbers: ints and ratios -/
/-- the value v is the number a / b (b positive, lowest terms not asked) -/
def NumV (C : Addr) (H : Hp) (v : V) (a b : Int) : Prop := (v = .int a ∧ b = 1) ∨ ∃ p, v = .ref p ∧ RatAt C H p a b
theorem NumV.same {C : Addr} {H H' : Hp} {v : V} {a b : Int} (h : NumV C H v a b) (s : Same H H') : NumV C H' v a b := by
  rcases h with h | ⟨p, e, r⟩
  · exact .inl h
  · exact .inr ⟨p, e, r.same s⟩
theorem NumV.num {C : Addr} {H : Hp} {v : V} {a b : Int} (h : NumV C H v a b) : NumB C H v true := by
  rcases h with ⟨e, _⟩ | ⟨p, e, dx, r⟩
  · exact .inl ⟨rfl, .inl ⟨a, e⟩⟩
  · exact .inl ⟨rfl, .inr ⟨p, dx, _, e, r⟩⟩
/-- below 2 ^ 2000 -/
def Bd (i : Int) : Prop := i.natAbs < 2 ^ 2000
theorem bd_mulW {i j : Int} (hi : Bd i) (hj : Bd j) : CMulW i j := wide_mul hi hj (by decide) (by decide) (by decide)
theorem bd_mul {i j : Int} (hi : Bd i) (hj : Bd j) : (i * j).natAbs < 2 ^ 4000 := wide_lt hi hj
theorem bd_8000 {i : Int} (h : i.natAbs < 2 ^ 4000) : i.natAbs < 2 ^ 8000 := Nat.lt_trans h (Nat.pow_lt_pow_right (by decide) (by decide))
theorem bd_one : Bd 1 := show 1 < 2 ^ 2000 from Nat.one_lt_two_pow (by decide)
/-- the promise of a binary operator of Ratio that hands back a ratio g (a, b, c, d) -/
def spBin (C : Addr) (g1 g2 : Int → Int → Int → Int → Int) : Sp := fun vs H Q _ => ∃ (p : Addr) (v : V) (a b c d : Int), vs = [.ref p, v] ∧ RatAt C H p a b ∧ NumV C H v c d ∧ Bd a ∧ Bd b ∧ Bd c ∧ Bd d ∧ 0 < b ∧ 0 < d ∧ GotR C H Q (lo1 (g1 a b c d) (g2 a b c d)) (lo2 (g1 a b c d) (g2 a b c d))
def gAdd (a b c d : Int) : Int := a * d + c * b
def gSub (a b c d : Int) : Int := a * d - c * b
def gMul (a _ c _ : Int) : Int := a * c
def gDen (_ b _ d : Int) : Int := b * d
section
variable {P : Program} {w : World} {K : PySem.W.Frag} {mg : Str → Option Value} {base : Heap}
/-- what Ratio.of hands back of a number -/
theorem of_num {C CI : Addr} {H : Hp} {v : V} {a b : Int} {Q : VK} {E : XK} (h : NumV C H v a b) (k : GotR C H Q a b) : spOf C CI [.ref C, v] H Q E := by
  rcases h with ⟨rfl, rfl⟩ | ⟨p, rfl, r⟩
  · exact ⟨_, rfl, .inl ⟨a, rfl, k⟩⟩
  · exact ⟨_, rfl, .inr (.inl ⟨p, a, b, rfl, r, fun H' s => k p H' s (r.same s)⟩)⟩
theorem ok_add (T : Txt K mg) : FnOk P w K mg base CX0 6 T.f_Ratio_add_d T.d_Ratio_add_d ["self", "other"] (spBin T.C_Ratio gAdd gDen) := by
  obtain ⟨its2, kb2⟩ := kb_init2 T
  have kbo := Binds.kbn T.B_Ratio_of (n := 2) rfl
  have M : Mk K T.C_Ratio T.f_Ratio_init_d := ⟨T.mk_Ratio, T.m_Ratio_init_d.at_, T.m_Ratio_init_d.fn, T.kp_Ratio⟩
  refine T.F_Ratio_add_d.ok sc_Ratio_add_d (fun vs H Q E ⟨_, _, _, _, _, _, e, _⟩ => by rw [e]; rfl) (fun cdv A outer s H vs Q E hr h => ?_)
  obtain ⟨p, v, a, b, c, d, rfl, hp, hv, ba, bb, bc, bd, b0, d0, fin⟩ := h
  refine ⟨_, pss_cons (ps_if (pt_not (pt_val (pe_f (E := fun _ => E0) (ok_num T) (hr.mono (by decide)) (by rfl) T.g_is_number T.F_is_number.kp T.B_is_number (fun _ => at0) (pa_cons (pv 1) pa_nil)))) pss_never pss_nil)
    (pss_cons (ps_set (i := 2) sc_Ratio_add_d.nd rfl (.inl rfl) (pe_cmP (n := 1) (E := fun _ => E0) (pe_glob (v := .ref T.C_Ratio) (by rfl) T.g_Ratio rfl) T.rd_Ratio T.cm_Ratio_of (ok_of T) (hr.mono (by decide)) kbo (fun _ => atL) (pa_cons (pv 1) pa_nil)))
    (pss_one (ps_ret (pe_mkP (n := 2) (E := fun _ => E0) M (ok_init T) (hr.mono (by decide)) (by rfl) T.g_Ratio kb2 (fun _ => atL) (pa_cons (pe_op op_add (pe_op op_mulW (pe_fld (pv 0) rfl) (pe_fld (pv 2) rfl)) (pe_op op_mulW (pe_fld (pv 2) rfl) (pe_fld (pv 0) rfl))) (pa_cons (pe_op op_mulW (pe_fld (pv 0) rfl) (pe_fld (pv 2) rfl)) pa_nil)))))), ?_⟩
  refine ⟨_, rfl, v, true, rfl, hv.num, fun H1 s1 => ⟨true, rfl, iteF ?_⟩⟩
  refine ⟨rfl, _, rfl, rfl, of_num (hv.same s1) fun q H2 s2 hq => ?_⟩
  obtain ⟨dx, e⟩ := hp.same (s1.trans s2)
  obtain ⟨dy, e2⟩ := hq
  refine ⟨_, rfl, p, _, dx, _, _, rfl, e, T.cl_Ratio, T.n_Ratio_top, rfs_top a b, _, rfl, q, _, dy, _, _, rfl, e2, T.cl_Ratio, T.n_Ratio_bottom, rfs_bot c d, _, _, rfl, rfl, bd_mulW ba bd, ?_⟩
  refine ⟨_, rfl, q, _, dy, _, _, rfl, e2, T.cl_Ratio, T.n_Ratio_top, rfs_top c d, _, rfl, p, _, dx, _, _, rfl, e, T.cl_Ratio, T.n_Ratio_bottom, rfs_bot a b, _, _, rfl, rfl, bd_mulW bc bb, _, _, rfl, rfl, ?_⟩
  refine ⟨_, rfl, p, _, dx, _, _, rfl, e, T.cl_Ratio, T.n_Ratio_bottom, rfs_bot a b, _, rfl, q, _, dy, _, _, rfl, e2, T.cl_Ratio, T.n_Ratio_bottom, rfs_bot c d, _, _, rfl, rfl, bd_mulW bb bd, rfl, fun m dm nm ndm _ => made_at (bd_8000 (bd_mul bb bd)) (Int.mul_ne_zero (by omega) (by omega)) nm ndm fun H3 s3 hm => ⟨rfl, fin m H3 ((s1.trans s2).trans s3) hm⟩⟩
theorem ok_sub (T : Txt K mg) : FnOk P w K mg base CX0 6 T.f_Ratio_sub_d T.d_Ratio_sub_d ["self", "other"] (spBin T.C_Ratio gSub gDen) := by
  obtain ⟨its2, kb2⟩ := kb_init2 T
  have kbo := Binds.kbn T.B_Ratio_of (n := 2) rfl
  have M : Mk K T.C_Ratio T.f_Ratio_init_d := ⟨T.mk_Ratio, T.m_Ratio_init_d.at_, T.m_Ratio_init_d.fn, T.kp_Ratio⟩
  refine T.F_Ratio_sub_d.ok sc_Ratio_sub_d (fun vs H Q E ⟨_, _, _, _, _, _, e, _⟩ => by rw [e]; rfl) (fun cdv A outer s H vs Q E hr h => ?_)
  obtain ⟨p, v, a, b, c, d, rfl, hp, hv, ba, bb, bc, bd, b0, d0, fin⟩ := h
  refine ⟨_, pss_cons (ps_if (pt_not (pt_val (pe_f (E := fun _ => E0) (ok_num T) (hr.mono (by decide)) (by rfl) T.g_is_number T.F_is_number.kp T.B_is_number (fun _ => at0) (pa_cons (pv 1) pa_nil)))) pss_never pss_nil)
    (pss_cons (ps_set (i := 2) sc_Ratio_sub_d.nd rfl (.inl rfl) (pe_cmP (n := 1) (E := fun _ => E0) (pe_glob (v := .ref T.C_Ratio) (by rfl) T.g_Ratio rfl) T.rd_Ratio T.cm_Ratio_of (ok_of T) (hr.mono (by decide)) kbo (fun _ => atL) (pa_cons (pv 1) pa_nil)))
    (pss_one (ps_ret (pe_mkP (n := 2) (E := fun _ => E0) M (ok_init T) (hr.mono (by decide)) (by rfl) T.g_Ratio kb2 (fun _ => atL) (pa_cons (pe_op op_sub (pe_op op_mulW (pe_fld (pv 0) rfl) (pe_fld (pv 2) rfl)) (pe_op op_mulW (pe_fld (pv 2) rfl) (pe_fld (pv 0) rfl))) (pa_cons (pe_op op_mulW (pe_fld (pv 0) rfl) (pe_fld (pv 2) rfl)) pa_nil)))))), ?_⟩
  refine ⟨_, rfl, v, true, rfl, hv.num, fun H1 s1 => ⟨true, rfl, iteF ?_⟩⟩
  refine ⟨rfl, _, rfl, rfl, of_num (hv.same s1) fun q H2 s2 hq => ?_⟩
  obtain ⟨dx, e⟩ := hp.same (s1.trans s2)
  obtain ⟨dy, e2⟩ := hq
  refine ⟨_, rfl, p, _, dx, _, _, rfl, e, T.cl_Ratio, T.n_Ratio_top, rfs_top a b, _, rfl, q, _, dy, _, _, rfl, e2, T.cl_Ratio, T.n_Ratio_bottom, rfs_bot c d, _, _, rfl, rfl, bd_mulW ba bd, ?_⟩
  refine ⟨_, rfl, q, _, dy, _, _, rfl, e2, T.cl_Ratio, T.n_Ratio_top, rfs_top c d, _, rfl, p, _, dx, _, _, rfl, e, T.cl_Ratio, T.n_Ratio_bottom, rfs_bot a b, _, _, rfl, rfl, bd_mulW bc bb, _, _, rfl, rfl, ?_⟩
  refine ⟨_, rfl, p, _, dx, _, _, rfl, e, T.cl_Ratio, T.n_Ratio_bottom, rfs_bot a b, _, rfl, q, _, dy, _, _, rfl, e2, T.cl_Ratio, T.n_Ratio_bottom, rfs_bot c d, _, _, rfl, rfl, bd_mulW bb bd, rfl, fun m dm nm ndm _ => made_at (bd_8000 (bd_mul bb bd)) (Int.mul_ne_zero (by omega) (by omega)) nm ndm fun H3 s3 hm => ⟨rfl, fin m H3 ((s1.trans s2).trans s3) hm⟩⟩
/-- over, //: the quotient (a d) / (b c) -/
def spOver (C CI : Addr) : Sp := fun vs H Q E => ∃ (p : Addr) (v : V) (a b c d : Int), vs = [.ref p, v] ∧ RatAt C H p a b ∧ NumV C H v c d ∧ Bd a ∧ Bd b ∧ Bd c ∧ Bd d ∧ 0 < b ∧ 0 < d ∧
  (c ≠ 0 → GotR C H Q (lo1 (a * d) (b * c)) (lo2 (a * d) (b * c))) ∧ (c = 0 → Bad CI (.int 0) H E)
def flr (a b c d : Int) : Int := (lo1 (a * d) (b * c)).fdiv (lo2 (a * d) (b * c))
def spFdiv (C CI : Addr) : Sp := fun vs H Q E => ∃ (p : Addr) (v : V) (a b c d : Int), vs = [.ref p, v] ∧ RatAt C H p a b ∧ NumV C H v c d ∧ Bd a ∧ Bd b ∧ Bd c ∧ Bd d ∧ 0 < b ∧ 0 < d ∧
  (c ≠ 0 → ∀ H', Same H H' → Q (.int (flr a b c d)) H') ∧ (c = 0 → Bad CI (.int 0) H E)
theorem ok_over (T : Txt K mg) : FnOk P w K mg base (L2.CX P w) 6 T.f_Ratio_over T.d_Ratio_over ["self", "other"] (spOver T.C_Ratio T.C_InvalidNumber) := by
  obtain ⟨its2, kb2⟩ := kb_init2 T
  have kbo := Binds.kbn T.B_Ratio_of (n := 2) rfl
  have M : Mk K T.C_Ratio T.f_Ratio_init_d := ⟨T.mk_Ratio, T.m_Ratio_init_d.at_, T.m_Ratio_init_d.fn, T.kp_Ratio⟩
  refine T.F_Ratio_over.okX sc_Ratio_over (fun vs H Q E ⟨_, _, _, _, _, _, e, _⟩ => by rw [e]; rfl) (fun cdv A outer s H vs Q E hr h => ?_)
  obtain ⟨p, v, a, b, c, d, rfl, hp, hv, ba, bb, bc, bd, b0, d0, k1, k0⟩ := h
  refine ⟨_, pss_cons (ps_set (i := 2) sc_Ratio_over.nd rfl (.inl rfl) (pe_cmP (n := 1) (E := fun _ => E0) (pe_glob (v := .ref T.C_Ratio) (by rfl) T.g_Ratio rfl) T.rd_Ratio T.cm_Ratio_of (ok_of T) (hr.mono (by decide)) kbo (fun _ => atL) (pa_cons (pv 1) pa_nil)))
    (pss_one (ps_ret (pe_mkP (n := 2) (E := WE fun cls d _ H' => E cls d H') M (ok_init T) (hr.mono (by decide)) (by rfl) T.g_Ratio kb2 (fun σ => passAt (takes_of rfl rfl rfl rfl) σ) (pa_cons (pe_op op_mulW (pe_fld (pv 0) rfl) (pe_fld (pv 2) rfl)) (pa_cons (pe_op op_mulW (pe_fld (pv 0) rfl) (pe_fld (pv 2) rfl)) pa_nil))))), ?_⟩
  refine ⟨rfl, _, rfl, rfl, of_num hv fun q H2 s2 hq => ?_⟩
  obtain ⟨dx, e⟩ := hp.same s2
  obtain ⟨dy, e2⟩ := hq
  refine ⟨_, rfl, p, _, dx, _, _, rfl, e, T.cl_Ratio, T.n_Ratio_top, rfs_top a b, _, rfl, q, _, dy, _, _, rfl, e2, T.cl_Ratio, T.n_Ratio_bottom, rfs_bot c d, _, _, rfl, rfl, bd_mulW ba bd, ?_⟩
  refine ⟨_, rfl, p, _, dx, _, _, rfl, e, T.cl_Ratio, T.n_Ratio_bottom, rfs_bot a b, _, rfl, q, _, dy, _, _, rfl, e2, T.cl_Ratio, T.n_Ratio_top, rfs_top c d, _, _, rfl, rfl, bd_mulW bb bc, rfl, fun m dm nm ndm _ => ?_⟩
  by_cases z : c = 0
  · have zz : b * c = 0 := by rw [z, Int.mul_zero]
    show spInit _ _ [.ref m, .int (a * d), .int (b * c)] _ _ _
    rw [zz]
    exact made_bad (fun d' H' s' e' => k0 z d' H' (s2.trans s') e') nm ndm
  · exact made_at (bd_8000 (bd_mul bb bc)) (Int.mul_ne_zero (by omega) z) nm ndm fun H3 s3 hm => ⟨rfl, k1 z m H3 (s2.trans s3) hm⟩
/-- %: below 2 ^ 200 -/
def Bq (i : Int) : Prop := i.natAbs < 2 ^ 200
theorem bq_bd {i : Int} (h : Bq i) : Bd i := Nat.lt_trans h (Nat.pow_lt_pow_right (by decide) (by decide))
theorem bq_mul {i j : Int} (hi : Bq i) (hj : Bq j) : (i * j).natAbs < 2 ^ 400 := wide_lt hi hj
theorem flr_le {a b c d : Int} (ha : Bq a) (hd : Bq d) (nz : b * c ≠ 0) : (flr a b c d).natAbs < 2 ^ 400 := by
  have p2 := lo2_pos (u := a * d) nz
  unfold flr
  rw [Int.fdiv_eq_ediv_of_nonneg _ (by omega)]
  exact Nat.lt_of_le_of_lt (Nat.le_trans (Int.natAbs_ediv_le_natAbs _ _) lo1_le) (bq_mul ha hd)
theorem bd_lt {i : Int} {n : Nat} (h : i.natAbs < 2 ^ n) (hn : n < 2000) : Bd i := Nat.lt_trans h (Nat.pow_lt_pow_right (by decide) hn)
def spMod (C CI : Addr) : Sp := fun vs H Q E => ∃ (p : Addr) (v : V) (a b c d : Int), vs = [.ref p, v] ∧ RatAt C H p a b ∧ NumV C H v c d ∧ Bq a ∧ Bq b ∧ Bq c ∧ Bq d ∧ 0 < b ∧ 0 < d ∧
  (c ≠ 0 → GotR C H Q (lo1 (a * d - flr a b c d * c * b) (b * d)) (lo2 (a * d - flr a b c d * c * b) (b * d))) ∧ (c = 0 → Bad CI (.int 0) H E)
end

/-! ### the laws' numbers: an int or a ratio, beside its terms -/
theorem pair_len (a b : Int) : (PyData.tuple [.int a, .int b]).shown.length = (tx a).length + (tx b).length + 4 := by
  have h := join_length_add [tx a, tx b] (by simp)
  have e : (PyData.tuple [.int a, .int b]).shown = ("(" : Str) ++ Str.join ", " [tx a, tx b] ++ ((")" : String) : Str) := rfl
  have l1 : ("(" : Str).length = 1 := by decide +kernel
  have l2 : (((")" : String) : Str)).length = 1 := by decide +kernel
  rw [e, str_len, str_len, l1, l2]
  simp [piled] at h
  omega
theorem sm_2000 {i : Int} (h : i.natAbs < 2 ^ 1900) : Sm i := Nat.lt_of_lt_of_le (PySem.Flt.log2_lt_of (by decide) h) (by decide)
/-- terms as the laws draw them -/
structure Tm (a b : Int) : Prop where
  b0 : 0 < b
  b1 : b ≤ 1000
  a1 : a.natAbs ≤ 1000000000
  cp : Nat.gcd a.natAbs b.natAbs = 1
def spNumb (C : Addr) : Sp := fun vs H Q _ => ∃ p : Addr, vs = [.ref p] ∧ BoxAt H p ∧ ∀ t t2 v a b H', Tm a b → NumV C H' v a b → H' t = some (.tup [v, .ref t2]) → H' t2 = some (.tup [.int a, .int b]) → BoxAt H' p → But p H H' → Q (.ref t) H'
/-- found is a ratio with these terms (told by their texts) -/
def spIsR (C : Addr) : Sp := fun vs H Q _ => ∃ (p t : Addr) (a b : Int), vs = [.ref p, .ref t] ∧ RatAt C H p a b ∧ H t = some (.tup [.int a, .int b]) ∧ Sm a ∧ Sm b ∧ ∀ H', Same H H' → Q (.bl true) H'
theorem NumV.but {C p : Addr} {H H' : Hp} {v : V} {a b : Int} (h : NumV C H v a b) (hb : BoxAt H p) (k : But p H H') : NumV C H' v a b := by
  rcases h with h | ⟨q, e, dx, r⟩
  · exact .inl h
  · refine .inr ⟨q, e, dx, k _ _ (fun z => ?_) r⟩
    obtain ⟨_, _, _, y, _⟩ := hb
    rw [z, y] at r
    cases r
theorem RatAt.but {C p q : Addr} {H H' : Hp} {a b : Int} (h : RatAt C H q a b) (hb : BoxAt H p) (k : But p H H') : RatAt C H' q a b := by
  rcases NumV.but (v := .ref q) (.inr ⟨q, rfl, h⟩) hb k with ⟨e, _⟩ | ⟨q', e, r⟩
  · cases e
  · cases e; exact r
theorem tup_but {t p : Addr} {H H' : Hp} {xs : List V} (h : H t = some (.tup xs)) (hb : BoxAt H p) (k : But p H H') : H' t = some (.tup xs) := by
  refine k _ _ (fun z => ?_) h
  obtain ⟨_, _, _, y, _⟩ := hb
  rw [z, y] at h
  cases h
section
variable {P : Program} {w : World} {K : PySem.W.Frag} {mg : Str → Option Value} {base : Heap}
end

/-! ### the order, the signs, the reflected operators -/
/-- what an operator compares: the cross products -/
abbrev Rel := Int → Int → Prop
def spLead (C : Addr) : Sp := fun vs H Q _ => ∃ (p : Addr) (v : V) (a b c d : Int), vs = [.ref p, v] ∧ RatAt C H p a b ∧ NumV C H v c d ∧ Bd a ∧ Bd b ∧ Bd c ∧ Bd d ∧ ∀ H', Same H H' → Q (.int (a * d - c * b)) H'
def spCmp (C : Addr) (R : Rel) : Sp := fun vs H Q _ => ∃ (p : Addr) (v : V) (a b c d : Int) (r : Bool), vs = [.ref p, v] ∧ RatAt C H p a b ∧ NumV C H v c d ∧ Bd a ∧ Bd b ∧ Bd c ∧ Bd d ∧ (r = true ↔ R (a * d) (c * b)) ∧ ∀ H', Same H H' → Q (.bl r) H'
/-- == and !=: anything on the right -/
def spEqn (C : Addr) (n : Bool) : Sp := fun vs H Q _ => ∃ (p : Addr) (v : V) (a b : Int) (r : Bool), vs = [.ref p, v] ∧ RatAt C H p a b ∧
  ((∃ c d, NumV C H v c d ∧ Bd a ∧ Bd b ∧ Bd c ∧ Bd d ∧ (r = true ↔ a * d = c * b)) ∨ (NumB C H v false ∧ r = false)) ∧ ∀ H', Same H H' → Q (.bl (r != n)) H'
def spNeg (C : Addr) : Sp := fun vs H Q _ => ∃ (p : Addr) (a b : Int), vs = [.ref p] ∧ RatAt C H p a b ∧ b ≠ 0 ∧ b.natAbs < 2 ^ 8000 ∧ GotR C H Q (lo1 (-a) b) (lo2 (-a) b)
def spAbs (C : Addr) : Sp := fun vs H Q _ => ∃ (p : Addr) (a b : Int), vs = [.ref p] ∧ RatAt C H p a b ∧ b ≠ 0 ∧ b.natAbs < 2 ^ 8000 ∧ GotR C H Q (lo1 (a.natAbs : Int) b) (lo2 (a.natAbs : Int) b)
def gRsub (a b c d : Int) : Int := -a * d + c * b
theorem rel_of {b : Bool} {p : Prop} [Decidable p] (h : b = true ↔ p) : decide p = b := by
  cases b
  · exact decide_eq_false (fun z => by have := h.mpr z; cases this)
  · exact decide_eq_true (h.mp rfl)
section
variable {P : Program} {w : World} {K : PySem.W.Frag} {mg : Str → Option Value} {base : Heap}
theorem besides (T : Txt K mg) : Besides K T.C_Ratio := by
  refine ⟨fun t h => ?_, fun t h => ?_⟩ <;> simp only [List.mem_cons, List.not_mem_nil, or_false] at h
  · rcases h with rfl | rfl | rfl | rfl | rfl
    · exact T.st_Ratio_int
    · exact T.st_Ratio_bool
    · exact T.st_Ratio_str
    · exact T.st_Ratio_NoneType
    · exact T.st_Ratio_tuple
  · rcases h with rfl | rfl | rfl | rfl | rfl
    · exact T.su_Ratio_int
    · exact T.su_Ratio_bool
    · exact T.su_Ratio_str
    · exact T.su_Ratio_NoneType
    · exact T.su_Ratio_tuple
theorem ok_lead (T : Txt K mg) : FnOk P w K mg base CX0 6 T.f_lead T.d_lead ["one", "other"] (spLead T.C_Ratio) := by
  refine T.F_lead.ok sc_lead (fun vs H Q E ⟨_, _, _, _, _, _, e, _⟩ => by rw [e]; rfl) (fun cdv A outer s H vs Q E hr h => ?_)
  obtain ⟨p, v, a, b, c, d, rfl, hp, hv, ba, bb, bc, bd, fin⟩ := h
  refine ⟨_, pss_cons (ps_if (pt_val (pe_callB call_isi (by rfl) T.b_isinstance (by decide +kernel) (pa_cons (pv 1) (pa_cons (pe_glob (v := .ref T.C_Ratio) (by rfl) T.g_Ratio rfl) pa_nil)))) (pss_one (ps_ret (pe_op op_sub (pe_op op_mulW (pe_fld (pv 0) rfl) (pe_fld (pv 1) rfl)) (pe_op op_mulW (pe_fld (pv 1) rfl) (pe_fld (pv 0) rfl))))) pss_nil)
    (pss_one (ps_ret (pe_op op_sub (pe_fld (pv 0) rfl) (pe_op op_mulW (pv 1) (pe_fld (pv 0) rfl))))), ?_⟩
  obtain ⟨dx, e⟩ := id hp
  rcases hv with ⟨rfl, rfl⟩ | ⟨q, rfl, dy, e2⟩
  · refine ⟨_, rfl, _, _, .type "int", _, false, rfl, .own _, .base (.int c), kit_ref T.tc_Ratio T.st_Ratio_int, false, rfl, iteF ?_⟩
    have h := fin H (Same.refl _)
    rw [Int.mul_one] at h
    exact ⟨_, rfl, p, _, dx, _, _, rfl, e, T.cl_Ratio, T.n_Ratio_top, rfs_top a b, _, rfl, _, rfl, p, _, dx, _, _, rfl, e, T.cl_Ratio, T.n_Ratio_bottom, rfs_bot a b, _, _, rfl, rfl, bd_mulW bc bb, _, _, rfl, rfl, h⟩
  · refine ⟨_, rfl, _, _, .ref T.C_Ratio, _, true, rfl, .own _, tyx_ins T.cl_Ratio T.tc_Ratio e2, kit_self, true, rfl, iteT ?_⟩
    exact ⟨_, rfl, p, _, dx, _, _, rfl, e, T.cl_Ratio, T.n_Ratio_top, rfs_top a b, _, rfl, q, _, dy, _, _, rfl, e2, T.cl_Ratio, T.n_Ratio_bottom, rfs_bot c d, _, _, rfl, rfl, bd_mulW ba bd,
      _, rfl, q, _, dy, _, _, rfl, e2, T.cl_Ratio, T.n_Ratio_top, rfs_top c d, _, rfl, p, _, dx, _, _, rfl, e, T.cl_Ratio, T.n_Ratio_bottom, rfs_bot a b, _, _, rfl, rfl, bd_mulW bc bb, _, _, rfl, rfl, fin _ (Same.refl _)⟩
theorem ok_lt (T : Txt K mg) : FnOk P w K mg base CX0 7 T.f_Ratio_lt_d T.d_Ratio_lt_d ["self", "other"] (spCmp T.C_Ratio fun x y => x < y) := by
  refine T.F_Ratio_lt_d.ok sc_Ratio_lt_d (fun vs H Q E ⟨_, _, _, _, _, _, _, e, _⟩ => by rw [e]; rfl) (fun cdv A outer s H vs Q E hr h => ?_)
  obtain ⟨p, v, a, b, c, d, r, rfl, hp, hv, ba, bb, bc, bd, hR, fin⟩ := h
  refine ⟨_, pss_cons (ps_if (pt_not (pt_val (pe_f (E := fun _ => E0) (ok_num T) (hr.mono (by decide)) (by rfl) T.g_is_number T.F_is_number.kp T.B_is_number (fun _ => at0) (pa_cons (pv 1) pa_nil)))) pss_never pss_nil)
    (pss_one (ps_ret (pe_cmpR op_lt (pe_f (E := fun _ => E0) (ok_lead T) hr (by rfl) T.g_lead T.F_lead.kp T.B_lead (fun _ => at0) (pa_cons (pv 0) (pa_cons (pv 1) pa_nil))) pe_int (nomark _)))), ?_⟩
  refine ⟨_, rfl, v, true, rfl, hv.num, fun H1 s1 => ⟨true, rfl, iteF ?_⟩⟩
  refine ⟨_, rfl, _, rfl, p, v, a, b, c, d, rfl, hp.same s1, hv.same s1, ba, bb, bc, bd, fun H2 s2 => ⟨_, _, rfl, rfl, ?_⟩⟩
  have e : decide (a * d - c * b < 0) = r := rel_of (by rw [hR]; omega)
  show Q (.bl (decide (a * d - c * b < 0))) H2
  rw [e]
  exact fin _ (s1.trans s2)
theorem ok_le (T : Txt K mg) : FnOk P w K mg base CX0 7 T.f_Ratio_le_d T.d_Ratio_le_d ["self", "other"] (spCmp T.C_Ratio fun x y => x ≤ y) := by
  refine T.F_Ratio_le_d.ok sc_Ratio_le_d (fun vs H Q E ⟨_, _, _, _, _, _, _, e, _⟩ => by rw [e]; rfl) (fun cdv A outer s H vs Q E hr h => ?_)
  obtain ⟨p, v, a, b, c, d, r, rfl, hp, hv, ba, bb, bc, bd, hR, fin⟩ := h
  refine ⟨_, pss_cons (ps_if (pt_not (pt_val (pe_f (E := fun _ => E0) (ok_num T) (hr.mono (by decide)) (by rfl) T.g_is_number T.F_is_number.kp T.B_is_number (fun _ => at0) (pa_cons (pv 1) pa_nil)))) pss_never pss_nil)
    (pss_one (ps_ret (pe_cmpR op_le (pe_f (E := fun _ => E0) (ok_lead T) hr (by rfl) T.g_lead T.F_lead.kp T.B_lead (fun _ => at0) (pa_cons (pv 0) (pa_cons (pv 1) pa_nil))) pe_int (nomark _)))), ?_⟩
  refine ⟨_, rfl, v, true, rfl, hv.num, fun H1 s1 => ⟨true, rfl, iteF ?_⟩⟩
  refine ⟨_, rfl, _, rfl, p, v, a, b, c, d, rfl, hp.same s1, hv.same s1, ba, bb, bc, bd, fun H2 s2 => ⟨_, _, rfl, rfl, ?_⟩⟩
  have e : decide (a * d - c * b ≤ 0) = r := rel_of (by rw [hR]; omega)
  show Q (.bl (decide (a * d - c * b ≤ 0))) H2
  rw [e]
  exact fin _ (s1.trans s2)
theorem ok_ge (T : Txt K mg) : FnOk P w K mg base CX0 7 T.f_Ratio_ge_d T.d_Ratio_ge_d ["self", "other"] (spCmp T.C_Ratio fun x y => y ≤ x) := by
  refine T.F_Ratio_ge_d.ok sc_Ratio_ge_d (fun vs H Q E ⟨_, _, _, _, _, _, _, e, _⟩ => by rw [e]; rfl) (fun cdv A outer s H vs Q E hr h => ?_)
  obtain ⟨p, v, a, b, c, d, r, rfl, hp, hv, ba, bb, bc, bd, hR, fin⟩ := h
  refine ⟨_, pss_cons (ps_if (pt_not (pt_val (pe_f (E := fun _ => E0) (ok_num T) (hr.mono (by decide)) (by rfl) T.g_is_number T.F_is_number.kp T.B_is_number (fun _ => at0) (pa_cons (pv 1) pa_nil)))) pss_never pss_nil)
    (pss_one (ps_ret (pe_cmpR op_ge (pe_f (E := fun _ => E0) (ok_lead T) hr (by rfl) T.g_lead T.F_lead.kp T.B_lead (fun _ => at0) (pa_cons (pv 0) (pa_cons (pv 1) pa_nil))) pe_int (nomark _)))), ?_⟩
  refine ⟨_, rfl, v, true, rfl, hv.num, fun H1 s1 => ⟨true, rfl, iteF ?_⟩⟩
  refine ⟨_, rfl, _, rfl, p, v, a, b, c, d, rfl, hp.same s1, hv.same s1, ba, bb, bc, bd, fun H2 s2 => ⟨_, _, rfl, rfl, ?_⟩⟩
  have e : decide (0 ≤ a * d - c * b) = r := rel_of (by rw [hR]; omega)
  show Q (.bl (decide (0 ≤ a * d - c * b))) H2
  rw [e]
  exact fin _ (s1.trans s2)
theorem ok_eq (T : Txt K mg) : FnOk P w K mg base CX0 7 T.f_Ratio_eq_d T.d_Ratio_eq_d ["self", "other"] (spEqn T.C_Ratio false) := by
  refine T.F_Ratio_eq_d.ok sc_Ratio_eq_d (fun vs H Q E ⟨_, _, _, _, _, e, _⟩ => by rw [e]; rfl) (fun cdv A outer s H vs Q E hr h => ?_)
  obtain ⟨p, v, a, b, r, rfl, hp, hv, fin⟩ := h
  refine ⟨_, pss_one (ps_ret (pe_and (pe_f (E := fun _ => E0) (ok_num T) (hr.mono (by decide)) (by rfl) T.g_is_number T.F_is_number.kp T.B_is_number (fun _ => at0) (pa_cons (pv 1) pa_nil))
    (pe_one (pe_cmpR op_eq (pe_f (E := fun _ => E0) (ok_lead T) hr (by rfl) T.g_lead T.F_lead.kp T.B_lead (fun _ => at0) (pa_cons (pv 0) (pa_cons (pv 1) pa_nil))) pe_int (nomark _))))), ?_⟩
  have rn : (r != false) = r := by cases r <;> rfl
  rw [rn] at fin
  rcases hv with ⟨c, d, hv, ba, bb, bc, bd, hR⟩ | ⟨hv, rfl⟩
  · refine ⟨_, rfl, v, true, rfl, hv.num, fun H1 s1 => ⟨true, rfl, iteT ?_⟩⟩
    refine ⟨_, rfl, _, rfl, p, v, a, b, c, d, rfl, hp.same s1, hv.same s1, ba, bb, bc, bd, fun H2 s2 => ⟨rfl, ?_⟩⟩
    have e : decide (V.int (a * d - c * b) = V.int 0) = r := rel_of (by rw [hR, V.int.injEq]; omega)
    show Q (.bl (decide (V.int (a * d - c * b) = V.int 0))) H2
    rw [e]
    exact fin _ (s1.trans s2)
  · exact ⟨_, rfl, v, false, rfl, hv, fun H1 s1 => ⟨false, rfl, iteF (fin _ s1)⟩⟩
theorem side_num {C : Addr} {H : Hp} {v : V} {c d : Int} (h : NumV C H v c d) : (∃ T, Side K C H v T) ∨ ∃ b dy gs, v = .ref b ∧ H b = some (.ins C dy gs) := by
  rcases h with ⟨rfl, _⟩ | ⟨q, rfl, dy, r⟩
  · exact .inl ⟨_, .int _⟩
  · exact .inr ⟨q, dy, _, rfl, r⟩
theorem side_not {C : Addr} {H : Hp} {v : V} (h : NumB C H v false) : ∃ T, Side K C H v T := by
  rcases h with ⟨z, _⟩ | ⟨_, ⟨x, rfl⟩ | ⟨x, rfl⟩ | rfl | ⟨q, xs, rfl, e⟩⟩
  · cases z
  · exact ⟨_, .bl _⟩
  · exact ⟨_, .str _⟩
  · exact ⟨_, .non⟩
  · exact ⟨_, .tup (SqT.of e)⟩
theorem ok_ne (T : Txt K mg) : FnOk P w K mg base CX0 8 T.f_Ratio_ne_d T.d_Ratio_ne_d ["self", "other"] (spEqn T.C_Ratio true) := by
  refine T.F_Ratio_ne_d.ok sc_Ratio_ne_d (fun vs H Q E ⟨_, _, _, _, _, e, _⟩ => by rw [e]; rfl) (fun cdv A outer s H vs Q E hr h => ?_)
  obtain ⟨p, v, a, b, r, rfl, hp, hv, fin⟩ := h
  refine ⟨_, pss_one (ps_ret (pe_not (pe_cmpR (opr_cmp (op := .Eq) (E := E0) (fun _ _ => rfl) (besides T) T.m_Ratio_eq_d (ok_eq T) hr T.B_Ratio_eq_d (fun _ => at0)) (pv 0) (pv 1) (nomark _)))), ?_⟩
  obtain ⟨dx, e⟩ := id hp
  have sd : (∃ t, Side K T.C_Ratio H v t) ∨ ∃ b dy gs, v = .ref b ∧ H b = some (.ins T.C_Ratio dy gs) := by
    rcases hv with ⟨c, d, hv, _⟩ | ⟨hv, _⟩
    · exact side_num hv
    · exact .inl (side_not hv)
  refine ⟨_, rfl, _, rfl, p, dx, _, rfl, e, sd, p, v, a, b, r, rfl, hp, hv, fun H1 s1 => ⟨_, rfl, ?_⟩⟩
  have := fin _ s1
  cases r <;> exact this
end

/-! ### pools -/
def Bn (k : Nat) (i : Int) : Prop := i.natAbs < 2 ^ k
theorem Bn.mul {j k : Nat} {x y : Int} (hx : Bn j x) (hy : Bn k y) : Bn (j + k) (x * y) := wide_lt hx hy
theorem Bn.mono {j k : Nat} {x : Int} (h : Bn j x) (hk : j ≤ k) : Bn k x := Nat.lt_of_lt_of_le h (Nat.pow_le_pow_right (by decide) hk)
theorem Bn.add {k : Nat} {x y : Int} (hx : Bn k x) (hy : Bn k y) : Bn (k + 1) (x + y) := by
  unfold Bn at *
  have : (2 : Nat) ^ (k + 1) = 2 ^ k + 2 ^ k := by rw [Nat.pow_succ]; omega
  omega
theorem Bn.sub {k : Nat} {x y : Int} (hx : Bn k x) (hy : Bn k y) : Bn (k + 1) (x - y) := by
  unfold Bn at *
  have : (2 : Nat) ^ (k + 1) = 2 ^ k + 2 ^ k := by rw [Nat.pow_succ]; omega
  omega
theorem Bn.bd {k : Nat} {x : Int} (h : Bn k x) (hk : k ≤ 2000) : Bd x := Bn.mono h hk
theorem Bn.le {k : Nat} {x y : Int} (h : Bn k y) (hx : x.natAbs ≤ y.natAbs) : Bn k x := Nat.lt_of_le_of_lt hx h
theorem Bn.abs {k : Nat} {x : Int} (h : Bn k x) : Bn k (x.natAbs : Int) := h
theorem bn2 : Bn 2 2 := by unfold Bn; decide
theorem bn1 : Bn 1 1 := by unfold Bn; decide
/-- the new ratio N / D is U / L -/
def Was (N D U L : Int) : Prop := N * L = U * D ∧ 0 < D ∧ Nat.gcd N.natAbs D.natAbs = 1
theorem was_lo {U L : Int} (nz : L ≠ 0) : Was (lo1 U L) (lo2 U L) U L := ⟨lo_cross nz, lo2_pos nz, lo_cop nz⟩
def pfs (m v : Addr × Addr) : List (Str × V) := [("_middle", V.ref m.1), ("_volume", V.ref v.1), ("_left", V.ref m.2), ("_right", V.ref v.2)]
theorem vm_ne : (("_volume" : Str) == "_middle") = false := by decide +kernel
theorem lm_ne : (("_left" : Str) == "_middle") = false := by decide +kernel
theorem lv_ne : (("_left" : Str) == "_volume") = false := by decide +kernel
theorem rm_ne : (("_right" : Str) == "_middle") = false := by decide +kernel
theorem rv_ne : (("_right" : Str) == "_volume") = false := by decide +kernel
theorem rl_ne : (("_right" : Str) == "_left") = false := by decide +kernel
theorem pfs_mid (m v : Addr × Addr) : (pfs m v).lookup ("_middle" : Str) = some (.ref m.1) := by simp [pfs, List.lookup]
theorem pfs_vol (m v : Addr × Addr) : (pfs m v).lookup ("_volume" : Str) = some (.ref v.1) := by simp [pfs, List.lookup, vm_ne]
theorem pfs_left (m v : Addr × Addr) : (pfs m v).lookup ("_left" : Str) = some (.ref m.2) := by simp [pfs, List.lookup, lm_ne, lv_ne]
theorem pfs_right (m v : Addr × Addr) : (pfs m v).lookup ("_right" : Str) = some (.ref v.2) := by simp [pfs, List.lookup, rm_ne, rv_ne, rl_ne]
theorem look_mid {v : V} {r : List (Str × V)} : ((("_middle" : Str), v) :: r).lookup ("_middle" : Str) = some v := by simp [List.lookup]
/-- an end stands at q -/
def EndAt (C : Addr) (H : Hp) (q : Addr) (U L : Int) : Prop := ∃ N D, RatAt C H q N D ∧ Was N D U L
theorem EndAt.same {C q : Addr} {H H' : Hp} {U L : Int} (h : EndAt C H q U L) (s : Same H H') : EndAt C H' q U L := let ⟨N, D, r, w⟩ := h; ⟨N, D, r.same s, w⟩
/-- at p stands the pool with middle a / b and volume c / d, and its ends -/
def PoolAt (CP C : Addr) (H : Hp) (p : Addr) (a b c d : Int) : Prop := ∃ dx m v, H p = some (.ins CP dx (pfs m v)) ∧ (RatAt C H m.1 a b ∧ EndAt C H m.2 (2 * a * d - c * b) (2 * b * d)) ∧ (RatAt C H v.1 c d ∧ EndAt C H v.2 (2 * a * d + c * b) (2 * b * d))
theorem PoolAt.same {CP C p : Addr} {H H' : Hp} {a b c d : Int} (h : PoolAt CP C H p a b c d) (s : Same H H') : PoolAt CP C H' p a b c d := let ⟨dx, m, v, e, r1, r2⟩ := h; ⟨dx, m, v, s _ _ e, ⟨r1.1.same s, r1.2.same s⟩, ⟨r2.1.same s, r2.2.same s⟩⟩
theorem PoolAt.thru {CP C p : Addr} {H H' : Hp} {a b c d : Int} (h : PoolAt CP C H p a b c d) (go : ∀ {x : Addr} {o : HO}, H x = some o → (∀ ys, o ≠ .lst ys) → H' x = some o) : PoolAt CP C H' p a b c d := by
  obtain ⟨dx, m, v, e, ⟨⟨d1, r1⟩, N, D, ⟨d2, r2⟩, w2⟩, ⟨⟨d3, r3⟩, N', D', ⟨d4, r4⟩, w4⟩⟩ := h
  exact ⟨dx, m, v, go e (fun _ z => nomatch z), ⟨⟨d1, go r1 (fun _ z => nomatch z)⟩, N, D, ⟨d2, go r2 (fun _ z => nomatch z)⟩, w2⟩, ⟨⟨d3, go r3 (fun _ z => nomatch z)⟩, N', D', ⟨d4, go r4 (fun _ z => nomatch z)⟩, w4⟩⟩
/-- lowest terms are not more than other ones -/
theorem low_le {a b X M : Int} (hc : Nat.gcd a.natAbs b.natAbs = 1) (x0 : 0 < X) (b0 : 0 < b) (e : a * X = M * b) : a.natAbs ≤ M.natAbs ∧ b ≤ X := by
  have h := congrArg Int.natAbs e
  rw [Int.natAbs_mul, Int.natAbs_mul] at h
  have d1 : b.natAbs ∣ X.natAbs := by
    have : b.natAbs ∣ a.natAbs * X.natAbs := ⟨M.natAbs, by rw [h, Nat.mul_comm]⟩
    exact Nat.Coprime.dvd_of_dvd_mul_left (Nat.Coprime.symm hc) this
  have d2 : b.natAbs ≤ X.natAbs := Nat.le_of_dvd (by omega) d1
  refine ⟨?_, by omega⟩
  obtain ⟨k, hk⟩ := d1
  have hk0 : 0 < k := by
    rcases Nat.eq_zero_or_pos k with z | z
    · rw [z] at hk; omega
    · exact z
  have : a.natAbs * k = M.natAbs := by
    refine Nat.eq_of_mul_eq_mul_right (show 0 < b.natAbs by omega) ?_
    rw [← h, hk, Nat.mul_assoc, Nat.mul_comm k]
  rw [← this]
  exact Nat.le_mul_of_pos_right _ hk0
/-- its terms: positive where they must be, in lowest terms, below 2 ^ n -/
structure Pz (n : Nat) (a b c d : Int) : Prop where
  b0 : 0 < b
  c0 : 0 < c
  d0 : 0 < d
  c1 : Nat.gcd a.natAbs b.natAbs = 1
  c2 : Nat.gcd c.natAbs d.natAbs = 1
  az : Bn n a
  bz : Bn n b
  cz : Bn n c
  dz : Bn n d
/-- a ratio that is U / L, below 2 ^ k -/
def GotP (C : Addr) (H : Hp) (Q : VK) (U L : Int) (k : Nat) : Prop := ∀ q H' N D, Same H H' → RatAt C H' q N D → Was N D U L → Bn k N → Bn k D → Q (.ref q) H'
theorem GotP.got {C : Addr} {H : Hp} {Q : VK} {U L : Int} {k : Nat} (h : GotP C H Q U L k) (nz : L ≠ 0) (hU : Bn k U) (hL : Bn k L) : GotR C H Q (lo1 U L) (lo2 U L) := fun q H' s r =>
  h q H' _ _ s r (was_lo nz) (hU.le lo1_le) (hL.le (by have := lo2_le (u := U) nz; have := lo2_pos (u := U) nz; omega))
def spPInit (CP C CI : Addr) : Sp := fun vs H Q E => ∃ (p dx : Addr) (vm vv : V) (a b c d : Int), vs = [.ref p, vm, vv] ∧ H p = some (.ins CP dx []) ∧ NumV C H vm a b ∧ NumV C H vv c d ∧ Bd c ∧ Bd d ∧ 0 < d ∧
  (0 < c → ∃ n, Bn n a ∧ Bn n b ∧ Bn n c ∧ Bn n d ∧ n ≤ 1900 ∧ 0 < b ∧ ∀ H1, Same H H1 → ∀ H2, PoolAt CP C H2 p a b c d → But p H1 H2 → Q .non H2) ∧ (c ≤ 0 → Bad CI vv H E)
theorem rat_ne {CP C p m dx : Addr} {H : Hp} {a b : Int} (h : RatAt C H m a b) (e : H p = some (.ins CP dx [])) : m ≠ p := fun z => by
  obtain ⟨dm, r⟩ := h
  rw [z, e] at r
  cases r
theorem rat_no {C CP p q m dx : Addr} {H : Hp} {x : Str} {a b : Int} {r : List (Str × V)} (h : RatAt C H q a b) (e : H p = some (.ins CP dx ((x, .ref m) :: r))) : q ≠ p := fun z => by
  obtain ⟨dm, e'⟩ := h
  rw [z, e] at e'
  injection e' with e'
  injection e' with _ _ e3
  unfold rfs at e3
  injection e3 with e4 _
  injection e4 with _ e5
  cases e5
theorem pool_made {CP C CI : Addr} {H : Hp} {Q' : VK} {E : XK} {vm vv : V} {a b c d : Int} {n : Nat} (hm : NumV C H vm a b) (hv : NumV C H vv c d) (ba : Bn n a) (bb : Bn n b) (bc : Bn n c) (bd : Bn n d) (hn : n ≤ 1900) (b0 : 0 < b) (d0 : 0 < d) (c0 : 0 < c) {x dx : Addr} (nx : H x = none) (ndx : H dx = none)
    (k : ∀ H', Same H H' → PoolAt CP C H' x a b c d → Q' .non H') : spPInit CP C CI [.ref x, vm, vv] (upd (upd H dx (.own x)) x (.ins CP dx [])) Q' E := by
  have sm : Same H (upd (upd H dx (.own x)) x (.ins CP dx [])) := fun b o e => by
    rw [upd_ne (ne_of_none e nx), upd_ne (ne_of_none e ndx)]; exact e
  refine ⟨x, dx, vm, vv, a, b, c, d, rfl, upd_same, hm.same sm, hv.same sm, bc.bd (by omega), bd.bd (by omega), d0, fun _ => ⟨n, ba, bb, bc, bd, hn, b0, fun H1 s H2 hP hB => ?_⟩, fun z => absurd z (by omega)⟩
  exact k _ (fun b o e => hB _ _ (ne_of_none e nx) (s _ _ (sm _ _ e))) hP
theorem pool_bad {CP C CI : Addr} {H : Hp} {Q' : VK} {E : XK} {vm vv : V} {a b c d : Int} (hm : NumV C H vm a b) (hv : NumV C H vv c d) (bc : Bd c) (bd : Bd d) (d0 : 0 < d) (c0 : c ≤ 0) {x dx : Addr} (nx : H x = none) (ndx : H dx = none)
    (k : Bad CI vv H E) : spPInit CP C CI [.ref x, vm, vv] (upd (upd H dx (.own x)) x (.ins CP dx [])) Q' E := by
  have sm : Same H (upd (upd H dx (.own x)) x (.ins CP dx [])) := fun b o e => by
    rw [upd_ne (ne_of_none e nx), upd_ne (ne_of_none e ndx)]; exact e
  exact ⟨x, dx, vm, vv, a, b, c, d, rfl, upd_same, hm.same sm, hv.same sm, bc, bd, d0, fun z => absurd z (by omega), fun _ d' H' s' e => k d' H' (sm.trans s') e⟩
section
variable {K : PySem.W.Frag} {C p : Addr} {H : Hp} {v : V} {a b c d : Int} {r : Bool} {Q : VK} {R R' : Rel} {g : Int → Int → Int → Int → Int}
theorem sort_num (hv : NumV C H v c d) : (∃ i, v = .int i) ∨ ∃ q dy gs, v = .ref q ∧ H q = some (.ins C dy gs) := by
  rcases hv with ⟨e, _⟩ | ⟨q, e, dy, r⟩
  · exact .inl ⟨_, e⟩
  · exact .inr ⟨q, dy, _, e, r⟩
theorem ownL (hp : RatAt C H p a b) (hv : NumV C H v c d) (ba : Bd a) (bb : Bd b) (bc : Bd c) (bd : Bd d) (h : r = true ↔ R (a * d) (c * b)) (fin : ∀ H', Same H H' → Q (.bl r) H') : r2Cmp K C (spCmp C R) E0 (.ref p) v H Q := by
  obtain ⟨dx, e⟩ := id hp
  exact ⟨p, dx, _, rfl, e, side_num hv, p, v, a, b, c, d, r, rfl, hp, hv, ba, bb, bc, bd, h, fin⟩
theorem ownE {n : Bool} (hp : RatAt C H p a b) (hv : NumV C H v c d) (ba : Bd a) (bb : Bd b) (bc : Bd c) (bd : Bd d) (h : r = true ↔ a * d = c * b) (fin : ∀ H', Same H H' → Q (.bl (r != n)) H') : r2Cmp K C (spEqn C n) E0 (.ref p) v H Q := by
  obtain ⟨dx, e⟩ := id hp
  exact ⟨p, dx, _, rfl, e, side_num hv, p, v, a, b, r, rfl, hp, .inl ⟨c, d, hv, ba, bb, bc, bd, h⟩, fin⟩
theorem ownP {j k : Nat} (hp : RatAt C H p a b) (hv : NumV C H v c d) (ba : Bn j a) (bb : Bn j b) (bc : Bn j c) (bd : Bn j d) (hj : j ≤ 2000) (b0 : 0 < b) (d0 : 0 < d) (hU : Bn k (g a b c d)) (hL : Bn k (b * d)) (fin : GotP C H Q (g a b c d) (b * d) k) : r2C C (spBin C g gDen) E0 (.ref p) v H Q := by
  obtain ⟨dx, e⟩ := id hp
  exact ⟨p, dx, _, rfl, e, sort_num hv, p, v, a, b, c, d, rfl, hp, hv, ba.bd hj, bb.bd hj, bc.bd hj, bd.bd hj, b0, d0, fin.got (L := b * d) (Int.mul_ne_zero (by omega) (by omega)) hU hL⟩
theorem overP {CI : Addr} {E : XK} {j k : Nat} (hp : RatAt C H p a b) (hv : NumV C H v c d) (ba : Bn j a) (bb : Bn j b) (bc : Bn j c) (bd : Bn j d) (hj : j ≤ 2000) (b0 : 0 < b) (d0 : 0 < d) (cz : c ≠ 0) (hU : Bn k (a * d)) (hL : Bn k (b * c)) (fin : GotP C H Q (a * d) (b * c) k) : spOver C CI [.ref p, v] H Q E :=
  ⟨p, v, a, b, c, d, rfl, hp, hv, ba.bd hj, bb.bd hj, bc.bd hj, bd.bd hj, b0, d0, fun _ => fin.got (Int.mul_ne_zero (by omega) cz) hU hL, fun z => absurd z cz⟩
end
def spMid (CP C : Addr) : Sp := fun vs H Q _ => ∃ (p : Addr) (a b c d : Int), vs = [.ref p] ∧ PoolAt CP C H p a b c d ∧ ∀ m, RatAt C H m a b → Q (.ref m) H
def spVol (CP C : Addr) : Sp := fun vs H Q _ => ∃ (p : Addr) (a b c d : Int), vs = [.ref p] ∧ PoolAt CP C H p a b c d ∧ ∀ m, RatAt C H m c d → Q (.ref m) H
/-- an end: the middle and half the volume -/
def spEnd (CP C : Addr) (g : Int → Int → Int) : Sp := fun vs H Q _ => ∃ (p : Addr) (a b c d : Int) (n : Nat), vs = [.ref p] ∧ PoolAt CP C H p a b c d ∧ Pz n a b c d ∧ n ≤ 200 ∧ GotP C H Q (g (2 * a * d) (c * b)) (2 * b * d) (2 * n + 4)
def two (a b c d a' b' c' d' : Int) : Int := 2 * (a * b' - a' * b).natAbs * (d * d') - (c * d' + c' * d) * (b * b')
def spGap (CP C : Addr) : Sp := fun vs H Q _ => ∃ (p q : Addr) (a b c d a' b' c' d' : Int) (n : Nat), vs = [.ref p, .ref q] ∧ PoolAt CP C H p a b c d ∧ PoolAt CP C H q a' b' c' d' ∧ Pz n a b c d ∧ Pz n a' b' c' d' ∧ n ≤ 200 ∧
  GotP C H Q (two a b c d a' b' c' d') (2 * (b * b') * (d * d')) (4 * n + 12)
def spTouch (CP C : Addr) : Sp := fun vs H Q _ => ∃ (p q : Addr) (a b c d a' b' c' d' : Int) (n : Nat) (r : Bool), vs = [.ref p, .ref q] ∧ PoolAt CP C H p a b c d ∧ PoolAt CP C H q a' b' c' d' ∧ Pz n a b c d ∧ Pz n a' b' c' d' ∧ n ≤ 200 ∧
  (r = true ↔ two a b c d a' b' c' d' ≤ 0) ∧ ∀ H', Same H H' → Q (.bl r) H'
theorem abs_cross {x y u v : Int} (hy : 0 ≤ y) (hv : 0 ≤ v) (e : x * y = u * v) : (x.natAbs : Int) * y = (u.natAbs : Int) * v := by
  have h := congrArg Int.natAbs e
  rw [Int.natAbs_mul, Int.natAbs_mul] at h
  have h2 : ((x.natAbs * y.natAbs : Nat) : Int) = ((u.natAbs * v.natAbs : Nat) : Int) := by rw [h]
  rw [Int.natCast_mul, Int.natCast_mul, Int.natAbs_of_nonneg hy, Int.natAbs_of_nonneg hv] at h2
  exact h2
theorem Was.eq {N D U L U' L' : Int} (h : Was N D U L) (nz : L ≠ 0) (e : U * L' = U' * L) : Was N D U' L' := by
  obtain ⟨h1, h2, h3⟩ := h
  exact ⟨Int.eq_of_mul_eq_mul_right nz (by grind), h2, h3⟩
theorem Was.pos {N D U L : Int} (h : Was N D U L) (l : 0 < L) (u : 0 < U) : 0 < N := by
  obtain ⟨h1, h2, _⟩ := h
  have : 0 < N * L := by rw [h1]; exact Int.mul_pos u h2
  exact Int.pos_of_mul_pos_left this l
theorem Was.nonpos {N D U L : Int} (h : Was N D U L) (l : 0 < L) : N ≤ 0 ↔ U ≤ 0 := by
  obtain ⟨h1, h2, _⟩ := h
  constructor
  · intro hn
    rcases Int.lt_or_le 0 U with u | u
    · have a1 : 0 < U * D := Int.mul_pos u h2
      have a2 : N * L ≤ 0 := Int.mul_nonpos_of_nonpos_of_nonneg hn (by omega)
      omega
    · exact u
  · intro hu
    rcases Int.lt_or_le 0 N with u | u
    · have a1 : 0 < N * L := Int.mul_pos u l
      have a2 : U * D ≤ 0 := Int.mul_nonpos_of_nonpos_of_nonneg hu (by omega)
      omega
    · exact u
/-- a new pool with middle Um / Lm and volume Uv / Lv -/
def GotPool (CP C : Addr) (H : Hp) (Q : VK) (Um Lm Uv Lv : Int) (k : Nat) : Prop := ∀ p H' a b c d, Same H H' → PoolAt CP C H' p a b c d → Pz k a b c d → a * Lm = Um * b → c * Lv = Uv * d → Q (.ref p) H'
def spPAdd (CP C : Addr) : Sp := fun vs H Q _ => ∃ (p q : Addr) (a b c d a' b' c' d' : Int) (n : Nat), vs = [.ref p, .ref q] ∧ PoolAt CP C H p a b c d ∧ PoolAt CP C H q a' b' c' d' ∧ Pz n a b c d ∧ Pz n a' b' c' d' ∧ n ≤ 200 ∧
  GotPool CP C H Q (c * a * (d' * b') + c' * a' * (d * b)) (b * b' * (c * d' + c' * d)) (c * d' + c' * d) (d * d') (6 * n + 3)
def spCont (CP C : Addr) : Sp := fun vs H Q _ => ∃ (p : Addr) (v : V) (a b c d e f : Int) (n : Nat) (r : Bool), vs = [.ref p, v] ∧ PoolAt CP C H p a b c d ∧ NumV C H v e f ∧ Pz n a b c d ∧ n ≤ 200 ∧ Bd e ∧ Bd f ∧ 0 < f ∧
  (r = true ↔ (2 * a * d - c * b) * f ≤ e * (2 * b * d) ∧ e * (2 * b * d) ≤ (2 * a * d + c * b) * f) ∧ ∀ H', Same H H' → Q (.bl r) H'
def spPEq (K : PySem.W.Frag) (CP C : Addr) : Sp := fun vs H Q _ => ∃ (p : Addr) (v : V) (a b c d : Int) (r : Bool), vs = [.ref p, v] ∧ PoolAt CP C H p a b c d ∧
  ((∃ q a' b' c' d' n, v = .ref q ∧ PoolAt CP C H q a' b' c' d' ∧ Pz n a b c d ∧ Pz n a' b' c' d' ∧ n ≤ 1500 ∧ (r = true ↔ a * b' = a' * b ∧ c * d' = c' * d)) ∨ ((∃ t, Side K CP H v t) ∧ r = false)) ∧ ∀ H', Same H H' → Q (.bl r) H'
def poolRp (a b c d : Int) : Str := "Pool(" ++ ratTx a b ++ ", " ++ ratTx c d ++ ")"
def spPRepr (CP C : Addr) : Sp := fun vs H Q _ => ∃ (p : Addr) (a b c d : Int), vs = [.ref p] ∧ PoolAt CP C H p a b c d ∧ Sm a ∧ Sm b ∧ Sm c ∧ Sm d ∧ Q (.str (poolRp a b c d)) H
def spBtw (CP C CI : Addr) : Sp := fun vs H Q E => ∃ (v1 v2 : V) (a b c d : Int) (n : Nat), vs = [.ref CP, v1, v2] ∧ NumV C H v1 a b ∧ NumV C H v2 c d ∧ 0 < b ∧ 0 < d ∧ Bn n a ∧ Bn n b ∧ Bn n c ∧ Bn n d ∧ n ≤ 200 ∧
  (c * b ≤ a * d → Bad CI v2 H E) ∧ (a * d < c * b → GotPool CP C H Q (a * d + c * b) (2 * b * d) (c * b - a * d) (b * d) (2 * n + 5))
theorem cross_half {N3 D3 N4 D4 Z b d : Int} (nz : D3 ≠ 0) (f3 : N3 * (b * d) = Z * D3) (f4 : N4 * (D3 * 2) = N3 * 1 * D4) : N4 * (2 * b * d) = Z * D4 := Int.eq_of_mul_eq_mul_right nz (by grind)
theorem cross4 {N4 D4 N5 D5 N6 D6 X Y W Z : Int} (f4 : N4 * W = X * D4) (f5 : N5 * Z = Y * D5) (f6 : N6 * (D4 * D5) = (N4 * D5 + N5 * D4) * D6) : N6 * (W * Z) * (D4 * D5) = (X * Z + Y * W) * D6 * (D4 * D5) := by grind
theorem cross7 {N3 D3 N6 D6 N7 D7 bb dd Y Z : Int} (f3 : N3 * dd = Y * D3) (f7 : N7 * (D6 * N3) = N6 * D3 * D7) (g6 : N6 * (dd * bb) = Z * D6) : N7 * (bb * Y) * (D6 * N3 * dd) = Z * D7 * (D6 * N3 * dd) := by grind
theorem Was.ge {N D U L e f : Int} (h : Was N D U L) (l : 0 < L) : N * f ≤ e * D ↔ U * f ≤ e * L := by
  obtain ⟨h1, h2, _⟩ := h
  constructor
  · intro hn
    refine Int.le_of_mul_le_mul_right (a := D) ?_ h2
    have := Int.mul_le_mul_of_nonneg_right hn (show 0 ≤ L by omega)
    have e1 : U * f * D = N * f * L := by grind
    have e2 : e * L * D = e * D * L := by grind
    omega
  · intro hn
    refine Int.le_of_mul_le_mul_right (a := L) ?_ l
    have := Int.mul_le_mul_of_nonneg_right hn (show 0 ≤ D by omega)
    have e1 : U * f * D = N * f * L := by grind
    have e2 : e * L * D = e * D * L := by grind
    omega
theorem Was.le {N D U L e f : Int} (h : Was N D U L) (l : 0 < L) : e * D ≤ N * f ↔ e * L ≤ U * f := by
  obtain ⟨h1, h2, _⟩ := h
  constructor
  · intro hn
    refine Int.le_of_mul_le_mul_right (a := D) ?_ h2
    have := Int.mul_le_mul_of_nonneg_right hn (show 0 ≤ L by omega)
    have e1 : U * f * D = N * f * L := by grind
    have e2 : e * L * D = e * D * L := by grind
    omega
  · intro hn
    refine Int.le_of_mul_le_mul_right (a := L) ?_ l
    have := Int.mul_le_mul_of_nonneg_right hn (show 0 ≤ D by omega)
    have e1 : U * f * D = N * f * L := by grind
    have e2 : e * L * D = e * D * L := by grind
    omega
section
variable {K : PySem.W.Frag} {C p : Addr} {H : Hp} {v : V} {a b c d : Int} {r : Bool} {Q : VK} {R R' : Rel}
theorem swapL (hp : RatAt C H p a b) (hv : NumV C H v c d) (ba : Bd a) (bb : Bd b) (bc : Bd c) (bd : Bd d) (h : r = true ↔ R (c * b) (a * d)) (h' : r = true ↔ R' (a * d) (c * b)) (fin : ∀ H', Same H H' → Q (.bl r) H') :
    r2Cmp K C (spCmp C R) E0 v (.ref p) H Q ∨ r2ICmp C (spCmp C R') E0 v (.ref p) H Q := by
  obtain ⟨dx, e⟩ := id hp
  rcases id hv with ⟨rfl, rfl⟩ | ⟨q, rfl, dy, eq⟩
  · exact .inr ⟨c, p, dx, _, rfl, rfl, e, p, .int c, a, b, c, 1, r, rfl, hp, hv, ba, bb, bc, bd, h', fin⟩
  · exact .inl ⟨q, dy, _, rfl, eq, .inr ⟨p, dx, _, rfl, e⟩, q, .ref p, c, d, a, b, r, rfl, ⟨dy, eq⟩, .inr ⟨p, rfl, hp⟩, bc, bd, ba, bb, h, fin⟩
end
section
variable {P : Program} {w : World} {K : PySem.W.Frag} {mg : Str → Option Value} {base : Heap}
theorem ok_pinit (T : Txt K mg) : FnOk P w K mg base (L2.CX P w) 8 T.f_Pool_init_d T.d_Pool_init_d ["self", "middle", "volume"] (spPInit T.C_Pool T.C_Ratio T.C_InvalidNumber) := by
  have kbo := Binds.kbn T.B_Ratio_of (n := 2) rfl
  have kbv := Binds.kbn T.B_Ratio_over (n := 2) rfl
  have nd := sc_Pool_init_d.nd
  refine T.F_Pool_init_d.okX sc_Pool_init_d (fun vs H Q E ⟨_, _, _, _, _, _, _, _, e, _⟩ => by rw [e]; rfl) (fun cdv A outer s H vs Q E hr h => ?_)
  obtain ⟨p, dx, vm, vv, a, b, c, d, rfl, hp, hm, hv, bc, bd, d0, k1, k0⟩ := h
  refine ⟨_, pss_cons (ps_set (i := 3) nd rfl (.inl rfl) (pe_cmP (n := 1) (E := fun _ => E0) (pe_glob (v := .ref T.C_Ratio) (by rfl) T.g_Ratio rfl) T.rd_Ratio T.cm_Ratio_of (ok_of T) (hr.mono (by decide)) kbo (fun _ => atL) (pa_cons (pv 2) pa_nil)))
    (pss_cons (ps_if (pt_cmpR (opr_cmp (op := .LtE) (E := E0) (fun _ _ => rfl) (besides T) T.m_Ratio_le_d (ok_le T) hr T.B_Ratio_le_d (fun _ => at0)) (pv 3) pe_int (nomark _)) (pss_one (ps_bad (W := fun cls d _ H' => E cls d H') T (hr.mono (by decide)) rfl (takes_of rfl rfl rfl rfl) (pv 2))) pss_nil)
    (pss_cons (ps_fld (pv 0) (pe_cmP (n := 1) (E := fun _ => E0) (pe_glob (v := .ref T.C_Ratio) (by rfl) T.g_Ratio rfl) T.rd_Ratio T.cm_Ratio_of (ok_of T) (hr.mono (by decide)) kbo (fun _ => atL) (pa_cons (pv 1) pa_nil)) rfl)
    (pss_cons (ps_fld (pv 0) (pv 3) rfl)
    (pss_cons (ps_set (i := 4) nd rfl (.inl rfl) (pe_meP (n := 1) (E := fun _ => E0) (pv 3) T.cl_Ratio T.me_Ratio_over (ok_over T) (hr.mono (by decide)) kbv (fun _ => atL) (pa_cons pe_int pa_nil)))
    (pss_cons (ps_fld (pv 0) (pe_op (opr_bin (op := .Sub) (E := E0) T.bn_Ratio_sub_d (ok_sub T) (hr.mono (by decide)) T.B_Ratio_sub_d (fun _ => at0)) (pe_fld (pv 0) rfl) (pv 4)) rfl)
    (pss_one (ps_fld (pv 0) (pe_op (opr_bin (op := .Add) (E := E0) T.bn_Ratio_add_d (ok_add T) (hr.mono (by decide)) T.B_Ratio_add_d (fun _ => at0)) (pe_fld (pv 0) rfl) (pv 4)) rfl))))))), ?_⟩
  refine ⟨rfl, _, rfl, rfl, of_num hv fun q H1 s1 hq => ?_⟩
  have b0' : Bd 0 := Nat.pos_of_ne_zero (by simp)
  refine ⟨_, rfl, ownL (r := decide (c ≤ 0)) hq (.inl ⟨rfl, rfl⟩) bc bd b0' bd_one (by simp) fun H2 s2 => ⟨_, rfl, ?_⟩⟩
  have s12 := s1.trans s2
  refine ite2 (fun z => ?_) (fun z => ?_)
  · exact ⟨_, rfl, fun d' H' s' e => k0 (of_decide_eq_true z) d' H' (s12.trans s') e⟩
  · have c0 : 0 < c := by have : ¬ c ≤ 0 := fun y => z (decide_eq_true y); omega
    obtain ⟨n, an, bn, cn, dn, hn, b0, fin⟩ := k1 c0
    refine ⟨rfl, _, rfl, rfl, of_num (hm.same s12) fun m H3 s3 hm3 => ?_⟩
    have s13 := s12.trans s3
    have hp3 := s13 _ _ hp
    have hq3 := hq.same (s2.trans s3)
    have nm := rat_ne hm3 hp3
    have nq := rat_ne hq3 hp3
    refine ⟨_, rfl, p, T.C_Pool, dx, [], rfl, hp3, T.cl_Pool, T.n_Pool__middle, by decide, ?_⟩
    refine ⟨_, rfl, _, rfl, p, T.C_Pool, dx, _, rfl, upd_same, T.cl_Pool, T.n_Pool__volume, (by show 1 < 1000; decide), ?_⟩
    have bt4 : But p H3 (upd (upd H3 p (.ins T.C_Pool dx (putF "_middle" (.ref m) []))) p (.ins T.C_Pool dx (putF "_volume" (.ref q) (putF "_middle" (.ref m) [])))) := by rw [upd_upd]; exact But.upd
    have e4 : (upd (upd H3 p (.ins T.C_Pool dx (putF "_middle" (.ref m) []))) p (.ins T.C_Pool dx (putF "_volume" (.ref q) (putF "_middle" (.ref m) [])))) p = some (.ins T.C_Pool dx [("_middle", .ref m), ("_volume", .ref q)]) := by rw [upd_same]; rfl
    generalize upd (upd H3 p (.ins T.C_Pool dx (putF "_middle" (.ref m) []))) p (.ins T.C_Pool dx (putF "_volume" (.ref q) (putF "_middle" (.ref m) []))) = H4 at *
    have rat_but : ∀ {G G' : Hp} {x : Addr} {i j : Int}, RatAt T.C_Ratio G x i j → x ≠ p → But p G G' → RatAt T.C_Ratio G' x i j := fun ⟨dx, e⟩ nx k => ⟨dx, k _ _ nx e⟩
    have hm4 := rat_but hm3 nm bt4
    have hq4 := rat_but hq3 nq bt4
    obtain ⟨dq, eq4⟩ := id hq4
    refine ⟨_, rfl, q, dq, _, rfl, eq4, rfs_no (by decide +kernel) (by decide +kernel), rfl, ?_⟩
    refine overP (j := n + 2) (k := n + 2) hq4 (.inl ⟨rfl, rfl⟩) (cn.mono (by omega)) (dn.mono (by omega)) (bn2.mono (by omega)) (bn1.mono (by omega)) (by omega) d0 (by decide) (by decide) ((cn.mul bn1).mono (by omega)) (dn.mul bn2) fun h1 H5 N1 D1 s5 hr1 w1 bN bD => ?_
    have e5 := s5 _ _ e4
    have nh := rat_no hr1 e5
    have w10 := w1.2.1
    refine ⟨_, rfl, p, _, dx, _, _, rfl, e5, T.cl_Pool, T.n_Pool__middle, look_mid, _, rfl, ?_⟩
    refine ownP (g := gSub) (j := n + 2) (k := 2 * n + 4) (hm4.same s5) (.inr ⟨h1, rfl, hr1⟩) (an.mono (by omega)) (bn.mono (by omega)) bN bD (by omega) b0 w10 ?_ ((bn.mul bD).mono (by omega)) fun l6 H6 N6 D6 s6 r6 w6 bN6 bD6 => ?_
    · exact (((an.mul bD).mono (k := 2 * n + 3) (by omega)).sub ((bN.mul bn).mono (by omega))).mono (by omega)
    have e6 := s6 _ _ e5
    have nl := rat_no r6 e6
    refine ⟨_, rfl, p, T.C_Pool, dx, _, rfl, e6, T.cl_Pool, T.n_Pool__left, (by show 2 < 1000; decide), ?_⟩
    have e7 : (upd H6 p (.ins T.C_Pool dx (putF "_left" (.ref l6) [("_middle", .ref m), ("_volume", .ref q)]))) p = some (.ins T.C_Pool dx [("_middle", .ref m), ("_volume", .ref q), ("_left", .ref l6)]) := by
      rw [upd_same]
      show some (HO.ins T.C_Pool dx (if ("_middle" : Str) = "_left" then _ else _ :: (if ("_volume" : Str) = "_left" then _ else _))) = _
      rw [if_neg (by decide +kernel), if_neg (by decide +kernel)]
      rfl
    have bt7 : But p H6 (upd H6 p (.ins T.C_Pool dx (putF "_left" (.ref l6) [("_middle", .ref m), ("_volume", .ref q)]))) := But.upd
    generalize upd H6 p (.ins T.C_Pool dx (putF "_left" (.ref l6) [("_middle", .ref m), ("_volume", .ref q)])) = H7 at *
    have s46 := s5.trans s6
    have hm7 := rat_but (hm4.same s46) nm bt7
    have hh7 := rat_but (hr1.same s6) nh bt7
    have hl7 := rat_but r6 nl bt7
    have hq7 := rat_but (hq4.same s46) nq bt7
    refine ⟨_, rfl, p, _, dx, _, _, rfl, e7, T.cl_Pool, T.n_Pool__middle, look_mid, _, rfl, ?_⟩
    refine ownP (g := gAdd) (j := n + 2) (k := 2 * n + 4) hm7 (.inr ⟨h1, rfl, hh7⟩) (an.mono (by omega)) (bn.mono (by omega)) bN bD (by omega) b0 w10 ?_ ((bn.mul bD).mono (by omega)) fun r8 H8 N8 D8 s8 rr w8 bN8 bD8 => ?_
    · exact (((an.mul bD).mono (k := 2 * n + 3) (by omega)).add ((bN.mul bn).mono (by omega))).mono (by omega)
    have e8 := s8 _ _ e7
    have nr := rat_no rr e8
    refine ⟨_, rfl, p, T.C_Pool, dx, _, rfl, e8, T.cl_Pool, T.n_Pool__right, (by show 3 < 1000; decide), ?_⟩
    have e9 : (upd H8 p (.ins T.C_Pool dx (putF "_right" (.ref r8) [("_middle", .ref m), ("_volume", .ref q), ("_left", .ref l6)]))) p = some (.ins T.C_Pool dx (pfs (m, l6) (q, r8))) := by
      rw [upd_same]
      show some (HO.ins T.C_Pool dx (if ("_middle" : Str) = "_right" then _ else _ :: (if ("_volume" : Str) = "_right" then _ else _ :: (if ("_left" : Str) = "_right" then _ else _)))) = _
      rw [if_neg (by decide +kernel), if_neg (by decide +kernel), if_neg (by decide +kernel)]
      rfl
    have bt9 : But p H8 (upd H8 p (.ins T.C_Pool dx (putF "_right" (.ref r8) [("_middle", .ref m), ("_volume", .ref q), ("_left", .ref l6)]))) := But.upd
    generalize upd H8 p (.ins T.C_Pool dx (putF "_right" (.ref r8) [("_middle", .ref m), ("_volume", .ref q), ("_left", .ref l6)])) = H9 at *
    refine fin H3 s13 H9 ⟨dx, (m, l6), (q, r8), e9, ⟨rat_but (hm7.same s8) nm bt9, N6, D6, rat_but (hl7.same s8) nl bt9, ?_⟩, ⟨rat_but (hq7.same s8) nq bt9, N8, D8, rat_but rr nr bt9, ?_⟩⟩ (bt4.trans ((But.of s46).trans (bt7.trans ((But.of s8).trans bt9))))
    · refine w6.eq (Int.mul_ne_zero (by omega) (by omega)) ?_
      obtain ⟨e1, _⟩ := w1
      show gSub a b N1 D1 * (2 * b * d) = _ * (b * D1)
      unfold gSub
      grind
    · refine w8.eq (Int.mul_ne_zero (by omega) (by omega)) ?_
      obtain ⟨e1, _⟩ := w1
      show gAdd a b N1 D1 * (2 * b * d) = _ * (b * D1)
      unfold gAdd
      grind

theorem ok_mid (T : Txt K mg) : FnOk P w K mg base CX0 1 T.f_Pool_middle T.d_Pool_middle ["self"] (spMid T.C_Pool T.C_Ratio) := by
  refine T.F_Pool_middle.ok sc_Pool_middle (fun vs H Q E ⟨_, _, _, _, _, e, _⟩ => by rw [e]; rfl) (fun cdv A outer s H vs Q E hr h => ?_)
  obtain ⟨p, a, b, c, d, rfl, ⟨dx, m, v, e, r1, r2⟩, fin⟩ := h
  exact ⟨_, pss_one (ps_ret (pe_fld (pv 0) rfl)), _, rfl, p, _, dx, _, _, rfl, e, T.cl_Pool, T.n_Pool__middle, pfs_mid m v, fin m.1 r1.1⟩
theorem ok_vol (T : Txt K mg) : FnOk P w K mg base CX0 1 T.f_Pool_volume T.d_Pool_volume ["self"] (spVol T.C_Pool T.C_Ratio) := by
  refine T.F_Pool_volume.ok sc_Pool_volume (fun vs H Q E ⟨_, _, _, _, _, e, _⟩ => by rw [e]; rfl) (fun cdv A outer s H vs Q E hr h => ?_)
  obtain ⟨p, a, b, c, d, rfl, ⟨dx, m, v, e, r1, r2⟩, fin⟩ := h
  exact ⟨_, pss_one (ps_ret (pe_fld (pv 0) rfl)), _, rfl, p, _, dx, _, _, rfl, e, T.cl_Pool, T.n_Pool__volume, pfs_vol m v, fin v.1 r2.1⟩
theorem EndAt.got {C q : Addr} {H : Hp} {U L : Int} {k : Nat} {Q : VK} (h : EndAt C H q U L) (l : 0 < L) (bu : Bn k U) (bl : Bn k L) (fin : GotP C H Q U L k) : Q (.ref q) H := by
  obtain ⟨N, D, r, w⟩ := h
  obtain ⟨h1, h2⟩ := low_le w.2.2 l w.2.1 w.1
  have := w.2.1
  exact fin q H N D (Same.refl _) r w (bu.le h1) (bl.le (by omega))
theorem ok_left (T : Txt K mg) : FnOk P w K mg base CX0 1 T.f_Pool_left T.d_Pool_left ["self"] (spEnd T.C_Pool T.C_Ratio (fun x y => x - y)) := by
  refine T.F_Pool_left.ok sc_Pool_left (fun vs H Q E ⟨_, _, _, _, _, _, e, _⟩ => by rw [e]; rfl) (fun cdv A outer s H vs Q E hr h => ?_)
  obtain ⟨p, a, b, c, d, n, rfl, ⟨dx, m, v, e, r1, r2⟩, z, hn, fin⟩ := h
  refine ⟨_, pss_one (ps_ret (pe_fld (pv 0) rfl)), _, rfl, p, _, dx, _, _, rfl, e, T.cl_Pool, T.n_Pool__left, pfs_left m v, ?_⟩
  refine r1.2.got (k := 2 * n + 4) (Int.mul_pos (Int.mul_pos (by decide) z.b0) z.d0) ?_ ((((bn2.mul z.bz).mul z.dz)).mono (by omega)) fin
  exact ((((bn2.mul z.az).mul z.dz).mono (k := 2 * n + 3) (by omega)).sub ((z.cz.mul z.bz).mono (by omega))).mono (by omega)
theorem ok_right_ (T : Txt K mg) : FnOk P w K mg base CX0 1 T.f_Pool_right T.d_Pool_right ["self"] (spEnd T.C_Pool T.C_Ratio (fun x y => x + y)) := by
  refine T.F_Pool_right.ok sc_Pool_right (fun vs H Q E ⟨_, _, _, _, _, _, e, _⟩ => by rw [e]; rfl) (fun cdv A outer s H vs Q E hr h => ?_)
  obtain ⟨p, a, b, c, d, n, rfl, ⟨dx, m, v, e, r1, r2⟩, z, hn, fin⟩ := h
  refine ⟨_, pss_one (ps_ret (pe_fld (pv 0) rfl)), _, rfl, p, _, dx, _, _, rfl, e, T.cl_Pool, T.n_Pool__right, pfs_right m v, ?_⟩
  refine r2.2.got (k := 2 * n + 4) (Int.mul_pos (Int.mul_pos (by decide) z.b0) z.d0) ?_ ((((bn2.mul z.bz).mul z.dz)).mono (by omega)) fin
  exact ((((bn2.mul z.az).mul z.dz).mono (k := 2 * n + 3) (by omega)).add ((z.cz.mul z.bz).mono (by omega))).mono (by omega)
theorem op_leB {X : Cx} (T : Txt X.K X.mg) (hr : Room 7 X.A) : OpR X (compareOp .LtE) (fun x y H Q => r2Cmp X.K T.C_Ratio (spCmp T.C_Ratio fun x y => x ≤ y) E0 x y H Q ∨ r2ICmp T.C_Ratio (spCmp T.C_Ratio fun x y => y ≤ x) E0 x y H Q) :=
  OpR.or (opr_cmp (fun _ _ => rfl) (besides T) T.m_Ratio_le_d (ok_le T) hr T.B_Ratio_le_d (fun _ => at0))
    (opr_icmp (fun _ _ => rfl) PySem.F.slot_int_le PySem.F.entry_int_le PySem.F.args_int_le_2 (besides T) T.m_Ratio_ge_d (ok_ge T) hr T.B_Ratio_ge_d (fun _ => at0))
theorem besidesP (T : Txt K mg) : Besides K T.C_Pool := by
  refine ⟨fun t h => ?_, fun t h => ?_⟩ <;> simp only [List.mem_cons, List.not_mem_nil, or_false] at h
  · rcases h with rfl | rfl | rfl | rfl | rfl
    · exact T.st_Pool_int
    · exact T.st_Pool_bool
    · exact T.st_Pool_str
    · exact T.st_Pool_NoneType
    · exact T.st_Pool_tuple
  · rcases h with rfl | rfl | rfl | rfl | rfl
    · exact T.su_Pool_int
    · exact T.su_Pool_bool
    · exact T.su_Pool_str
    · exact T.su_Pool_NoneType
    · exact T.su_Pool_tuple
theorem side_isi {C CP : Addr} {H : Hp} {v : V} {t : String} (Ty : TyC K C) (B : Besides K C) (h : Side K CP H v t) : TyX K H v (.type t) ∧ PySem.W.kitOne K (.type t) (.ref C) = some false := by
  refine ⟨?_, kit_ref Ty (B.st t h.mem)⟩
  cases h with
  | int i => exact .base (.int i)
  | bl b => exact .base (.bl b)
  | str z => exact .base (.str z)
  | non => exact .base .non
  | tup hq =>
    rcases hq with (e | ⟨o, e⟩) | ⟨o, its, n, e, c, _⟩
    · exact .base (.tup e)
    · exact .fTuple e
    · exact .kTuple e c
theorem ok_peq (T : Txt K mg) : FnOk P w K mg base CX0 9 T.f_Pool_eq_d T.d_Pool_eq_d ["self", "other"] (spPEq K T.C_Pool T.C_Ratio) := by
  refine T.F_Pool_eq_d.ok sc_Pool_eq_d (fun vs H Q E ⟨_, _, _, _, _, _, _, e, _⟩ => by rw [e]; rfl) (fun cdv A outer s H vs Q E hr h => ?_)
  obtain ⟨p, v, a, b, c, d, r, rfl, hp, hv, fin⟩ := h
  refine ⟨_, pss_one (ps_ret (pe_and (pe_callB call_isi (by rfl) T.b_isinstance (by decide +kernel) (pa_cons (pv 1) (pa_cons (pe_glob (v := .ref T.C_Pool) (by rfl) T.g_Pool rfl) pa_nil))) (pe_and (pe_cmpR (opr_cmp (op := .Eq) (E := E0) (fun _ _ => rfl) (besides T) T.m_Ratio_eq_d (ok_eq T) (hr.mono (by decide)) T.B_Ratio_eq_d (fun _ => at0)) (pe_prop (E := E0) (pv 0) T.cl_Pool T.pr_Pool_middle (ok_mid T) (hr.mono (by decide)) T.B_Pool_middle .nil pass0 rfl) (pe_prop (E := E0) (pv 1) T.cl_Pool T.pr_Pool_middle (ok_mid T) (hr.mono (by decide)) T.B_Pool_middle .nil pass0 rfl) (nomark _)) (pe_one (pe_cmpR (opr_cmp (op := .Eq) (E := E0) (fun _ _ => rfl) (besides T) T.m_Ratio_eq_d (ok_eq T) (hr.mono (by decide)) T.B_Ratio_eq_d (fun _ => at0)) (pe_prop (E := E0) (pv 0) T.cl_Pool T.pr_Pool_volume (ok_vol T) (hr.mono (by decide)) T.B_Pool_volume .nil pass0 rfl) (pe_prop (E := E0) (pv 1) T.cl_Pool T.pr_Pool_volume (ok_vol T) (hr.mono (by decide)) T.B_Pool_volume .nil pass0 rfl) (nomark _)))))), ?_⟩
  obtain ⟨dx, m0, v0, ep, _, _⟩ := id hp
  rcases hv with ⟨q, a', b', c', d', n, rfl, hq, z, z', hn, hR⟩ | ⟨⟨t, sd⟩, rfl⟩
  · obtain ⟨dy, m1, v1, eq, _, _⟩ := id hq
    refine ⟨_, rfl, _, _, .ref T.C_Pool, _, true, rfl, .own _, tyx_ins T.cl_Pool T.tc_Pool eq, kit_self, true, rfl, iteT ?_⟩
    refine ⟨_, rfl, p, dx, _, rfl, ep, p, a, b, c, d, rfl, hp, fun m rm => ?_⟩
    refine ⟨_, rfl, q, dy, _, rfl, eq, q, a', b', c', d', rfl, hq, fun m' rm' => ?_⟩
    refine ownE (r := decide (a * b' = a' * b)) rm (.inr ⟨m', rfl, rm'⟩) (z.az.bd (by omega)) (z.bz.bd (by omega)) (z'.az.bd (by omega)) (z'.bz.bd (by omega)) (by simp) fun H1 s1 => ⟨_, rfl, ?_⟩
    by_cases y : a * b' = a' * b
    · rw [decide_eq_true y]
      refine iteT ?_
      refine ⟨_, rfl, p, dx, _, rfl, s1 _ _ ep, p, a, b, c, d, rfl, hp.same s1, fun u ru => ?_⟩
      refine ⟨_, rfl, q, dy, _, rfl, s1 _ _ eq, q, a', b', c', d', rfl, hq.same s1, fun u' ru' => ?_⟩
      refine ownE (r := r) ru (.inr ⟨u', rfl, ru'⟩) (z.cz.bd (by omega)) (z.dz.bd (by omega)) (z'.cz.bd (by omega)) (z'.dz.bd (by omega)) (by rw [hR]; exact ⟨fun h => h.2, fun h => ⟨y, h⟩⟩) fun H2 s2 => ?_
      have e : (r != false) = r := by cases r <;> rfl
      rw [e]
      exact fin _ (s1.trans s2)
    · rw [decide_eq_false y]
      have rf : r = false := Bool.eq_false_iff.mpr fun h => y (hR.mp h).1
      rw [rf] at fin
      exact iteF (fin _ s1)
  · obtain ⟨ty, kt⟩ := side_isi T.tc_Pool (besidesP T) sd
    exact ⟨_, rfl, _, _, .type t, _, false, rfl, .own _, ty, kt, false, rfl, iteF (fin _ (Same.refl _))⟩
end

/-! ### numbers, pools and drops as the laws about water make them -/
/-- a number as the law makes it: U / L -/
def spNo (C : Addr) : Sp := fun vs H Q _ => ∃ (p : Addr) (U L : Int), vs = [.ref p, .int U, .int L] ∧ BoxAt H p ∧ 0 < L ∧ L.natAbs < 2 ^ 60 ∧ ∀ v N D H', NumV C H' v N D → Was N D U L → N.natAbs ≤ U.natAbs → D ≤ L → BoxAt H' p → But p H H' → Q v H'
def spIs6 (C : Addr) : Sp := fun vs H Q _ => ∃ (p : Addr) (N D U L : Int) (r : Bool), vs = [.ref p, .int U, .int L] ∧ RatAt C H p N D ∧ Bd N ∧ Bd D ∧ Bd U ∧ Bd L ∧ (r = true ↔ N * L = U * D) ∧ Q (.bl r) H
def spSays : Sp := fun vs H Q _ => ∃ (b c : Bool), vs = [.bl b, .bl c] ∧ Q (.bl (b == c)) H
section
variable {P : Program} {w : World} {K : PySem.W.Frag} {mg : Str → Option Value} {base : Heap}
theorem ok_no (T : Txt K mg) : FnOk P w K mg base CX0 5 T.f_lw_number T.d_lw_number ["_law_box_here", "_law_top", "_law_unit"] (spNo T.C_Ratio) := by
  obtain ⟨its2, kb2⟩ := kb_init2 T
  have M : Mk K T.C_Ratio T.f_Ratio_init_d := ⟨T.mk_Ratio, T.m_Ratio_init_d.at_, T.m_Ratio_init_d.fn, T.kp_Ratio⟩
  refine T.F_lw_number.ok sc_lw_number (fun vs H Q E ⟨_, _, _, e, _⟩ => by rw [e]; rfl) (fun cdv A outer s H vs Q E hr h => ?_)
  obtain ⟨p, U, L, rfl, hb, L0, Lz, fin⟩ := h
  refine ⟨_, pss_cons (ps_if (PW.pt (pw_and (pt_cmpR op_eq (pe_op op_mod (pv 1) (pv 2)) pe_int (nomark _)) (pw_and1 (pt_cmpR op_eq (pe_f (E := fun _ => E0) (ok_take T) (hr.mono (by decide)) (by rfl) T.g_lw_take T.F_lw_take.kp T.B_lw_take (fun _ => at0) (pa_cons (pv 0) (pa_cons pe_int pa_nil))) pe_int (nomark _)))))
      (pss_one (ps_ret (pe_op op_fdivX (pv 1) (pv 2)))) pss_nil)
    (pss_one (ps_ret (pe_mkP (n := 2) (E := fun _ => E0) M (ok_init T) hr (by rfl) T.g_Ratio kb2 (fun _ => atL) (pa_cons (pv 1) (pa_cons (pv 2) pa_nil))))), ?_⟩
  have nz : L ≠ 0 := by omega
  have bl : L.natAbs < 2 ^ 8000 := Nat.lt_trans Lz (Nat.pow_lt_pow_right (by decide) (by decide))
  have l2 : lo2 U L ≤ L := by have := lo2_le (u := U) nz; omega
  refine ⟨_, rfl, _, rfl, _, _, rfl, rfl, L0, rfl, _, rfl, ?_⟩
  refine ite2 (fun c => ?_) (fun c => ?_)
  · have e0 : U % L = 0 := by have z := of_decide_eq_true c; injection z
    refine ⟨_, rfl, p, 2, rfl, hb, by decide, by decide, fun d n sd cc d0 d1 hb1 => ⟨rfl, _, rfl, ?_⟩⟩
    refine ite2 (fun c2 => ?_) (fun c2 => ?_)
    · refine ⟨_, rfl, _, rfl, _, _, rfl, rfl, ⟨nz, lenU (n := 60) Lz (by decide) (by decide)⟩, ?_⟩
      have ev : U.fdiv L * L = U := by
        rw [Int.fdiv_eq_ediv_of_nonneg _ (by omega)]
        exact Int.ediv_mul_cancel (Int.dvd_of_emod_eq_zero e0)
      refine fin _ (U.fdiv L) 1 _ (.inl ⟨rfl, rfl⟩) ⟨by rw [ev]; omega, by decide, by simp⟩ ?_ (by omega) hb1 But.upd
      rw [Int.fdiv_eq_ediv_of_nonneg _ (by omega)]
      exact Int.natAbs_ediv_le_natAbs _ _
    · refine ⟨_, rfl, _, rfl, rfl, fun m dm nm ndm _ => made_at bl nz nm ndm fun H2 s2 hm => ⟨rfl, ?_⟩⟩
      exact fin _ _ _ _ (.inr ⟨m, rfl, hm⟩) (was_lo nz) lo1_le l2 (hb1.same s2) (But.upd.trans (But.of s2))
  · refine ⟨_, rfl, _, rfl, rfl, fun m dm nm ndm _ => made_at bl nz nm ndm fun H2 s2 hm => ⟨rfl, ?_⟩⟩
    exact fin _ _ _ _ (.inr ⟨m, rfl, hm⟩) (was_lo nz) lo1_le l2 (hb.same s2) (But.of s2)
theorem ok_is6 (T : Txt K mg) : FnOk P w K mg base CX0 1 T.f_lw_is T.d_lw_is ["_law_found", "_law_top", "_law_bottom"] (spIs6 T.C_Ratio) := by
  refine T.F_lw_is.ok sc_lw_is (fun vs H Q E ⟨_, _, _, _, _, _, e, _⟩ => by rw [e]; rfl) (fun cdv A outer s H vs Q E hr h => ?_)
  obtain ⟨p, N, D, U, L, r, rfl, ⟨dx, e⟩, bN, bD, bU, bL, hR, fin⟩ := h
  refine ⟨_, pss_one (ps_ret (pe_and (pe_callB call_isi (by rfl) T.b_isinstance (by decide +kernel) (pa_cons (pv 0) (pa_cons (pe_glob (v := .ref T.C_Ratio) (by rfl) T.g_Ratio rfl) pa_nil)))
    (pe_one (pe_cmpR op_eq (pe_op op_mulW (pe_fld (pv 0) rfl) (pv 2)) (pe_op op_mulW (pv 1) (pe_fld (pv 0) rfl)) (nomark _))))), ?_⟩
  refine ⟨_, rfl, _, _, .ref T.C_Ratio, _, true, rfl, .own _, tyx_ins T.cl_Ratio T.tc_Ratio e, kit_self, true, rfl, iteT ?_⟩
  refine ⟨_, rfl, p, _, dx, _, _, rfl, e, T.cl_Ratio, T.n_Ratio_top, rfs_top N D, _, rfl, _, _, rfl, rfl, bd_mulW bN bL, _, rfl, _, rfl, p, _, dx, _, _, rfl, e, T.cl_Ratio, T.n_Ratio_bottom, rfs_bot N D, _, _, rfl, rfl, bd_mulW bU bD, rfl, ?_⟩
  have e2 : decide (V.int (N * L) = V.int (U * D)) = r := rel_of (by rw [hR, V.int.injEq])
  show Q (.bl (decide (V.int (N * L) = V.int (U * D)))) H
  rw [e2]
  exact fin
theorem ok_says (T : Txt K mg) : FnOk P w K mg base CX0 1 T.f_lw_says T.d_lw_says ["_law_found", "_law_due"] spSays := by
  refine T.F_lw_says.ok sc_lw_says (fun vs H Q E ⟨_, _, e, _⟩ => by rw [e]; rfl) (fun cdv A outer s H vs Q E hr h => ?_)
  obtain ⟨b, c, rfl, fin⟩ := h
  refine ⟨_, pss_one (ps_ret (pe_and (pe_callB call_isi (by rfl) T.b_isinstance (by decide +kernel) (pa_cons (pv 0) (pa_cons (pe_bltn (v := .ty "bool") (u := .type "bool") (by rfl) T.b_bool (by decide +kernel) rfl) pa_nil)))
    (pe_one (pe_cmpR op_eq (pv 0) (pv 1) (nomark _))))), ?_⟩
  refine ⟨_, rfl, _, _, .type "bool", _, true, rfl, .ty _, .base (.bl b), kit_ty (by decide +kernel), true, rfl, iteT ⟨_, rfl, _, rfl, rfl, ?_⟩⟩
  have e : decide (V.bl b = V.bl c) = (b == c) := by cases b <;> cases c <;> simp
  show Q (.bl (decide (V.bl b = V.bl c))) H
  rw [e]
  exact fin
/-- the two pools beside their drops -/
structure Dr (CP C : Addr) (H : Hp) (q t : Addr) (L a b c d S V : Int) : Prop where
  at_ : PoolAt CP C H q a b c d
  tu : H t = some (.tup [.int S, .int V])
  z : Pz 50 a b c d
  e1 : a * L = S * b
  e2 : c * L = V * d
  V0 : 0 < V
  Sz : Bn 50 S
  Vz : Bn 50 V
theorem Dr.same {CP C : Addr} {H H' : Hp} {q t : Addr} {L a b c d S V : Int} (h : Dr CP C H q t L a b c d S V) (s : Same H H') : Dr CP C H' q t L a b c d S V := ⟨h.at_.same s, s _ _ h.tu, h.z, h.e1, h.e2, h.V0, h.Sz, h.Vz⟩
theorem Dr.but {CP C : Addr} {H H' : Hp} {q t p : Addr} {L a b c d S V : Int} (h : Dr CP C H q t L a b c d S V) (hb : BoxAt H p) (k : But p H H') : Dr CP C H' q t L a b c d S V := by
  refine ⟨?_, tup_but h.tu hb k, h.z, h.e1, h.e2, h.V0, h.Sz, h.Vz⟩
  obtain ⟨dx, m, v, e, r1, r2⟩ := h.at_
  refine ⟨dx, m, v, k _ _ (fun z => ?_) e, ⟨r1.1.but hb k, let ⟨N, D, r, w⟩ := r1.2; ⟨N, D, r.but hb k, w⟩⟩, ⟨r2.1.but hb k, let ⟨N, D, r, w⟩ := r2.2; ⟨N, D, r.but hb k, w⟩⟩⟩
  obtain ⟨_, _, _, y, _⟩ := hb
  rw [z, y] at e
  cases e
def DropAt (H : Hp) (t : Addr) : Prop := ∃ S W : Int, H t = some (.tup [.int S, .int W]) ∧ 0 < W ∧ W ≤ 5000 ∧ S.natAbs ≤ 600000000
end
section
variable {K : PySem.W.Frag} {CP C : Addr} {H : Hp} {v : V} {a b : Int} {Q : VK}
/-- a drop beside its pool -/
def DrX (CP C : Addr) (H : Hp) (L : Int) (q t : Addr) : Prop := ∃ a b c d S V, Dr CP C H q t L a b c d S V
theorem DrX.butL {H' : Hp} {q t p : Addr} {L : Int} {xs : List L2.V} (h : DrX CP C H L q t) (hl : H p = some (.lst xs)) (k : But p H H') : DrX CP C H' L q t := by
  obtain ⟨a, b, c, d, S, V, hat, tu, z, e1, e2, V0, Sz, Vz⟩ := h
  have go : ∀ {x : Addr} {o : HO}, H x = some o → (∀ ys, o ≠ .lst ys) → H' x = some o := fun {x o} e n => k _ _ (fun z => by rw [z, hl] at e; cases e; exact n _ rfl) e
  exact ⟨a, b, c, d, S, V, hat.thru go, go tu (fun _ z => nomatch z), z, e1, e2, V0, Sz, Vz⟩
theorem DrX.but {H' : Hp} {q t p : Addr} {L : Int} (h : DrX CP C H L q t) (hb : BoxAt H p) (k : But p H H') : DrX CP C H' L q t := by
  obtain ⟨n, s, c, e, _⟩ := hb
  exact h.butL e k
theorem DropAt.but {H' : Hp} {t p : Addr} (h : DropAt H t) (hb : BoxAt H p) (k : But p H H') : DropAt H' t := by
  obtain ⟨S, W, e, r⟩ := h
  exact ⟨S, W, tup_but e hb k, r⟩
theorem lst_but {t p : Addr} {H H' : Hp} {xs : List L2.V} (h : H t = some (.lst xs)) (n : t ≠ p) (k : But p H H') : H' t = some (.lst xs) := k _ _ n h
theorem box_ne {p q : Addr} (hb : BoxAt H p) (hq : H q = none) : q ≠ p := fun z => by
  obtain ⟨_, _, _, e, _⟩ := hb
  rw [z, e] at hq; cases hq
end

/-! ### waters -/
theorem ref_get {ts : List Addr} {i : Nat} {x : V} (h : (ts.map V.ref)[i]? = some x) : ∃ t, ts[i]? = some t ∧ x = .ref t := by
  rw [List.getElem?_map] at h
  cases e : ts[i]? with
  | none => rw [e] at h; cases h
  | some t => rw [e] at h; cases h; exact ⟨t, rfl, rfl⟩
theorem get_ref {ts : List Addr} {i : Nat} {t : Addr} (h : ts[i]? = some t) : (ts.map V.ref)[i]? = some (V.ref t) := by
  rw [List.getElem?_map, h]; rfl
theorem Same.seqT {K : PySem.W.Frag} {H H' : Hp} {a : Addr} {xs : List V} (e : Same H H') (h : SqT K H a xs) : SqT K H' a xs := by
  rcases h with (h | ⟨o, h⟩) | h
  · exact .inl (.inl (e _ _ h))
  · exact .inl (.inr ⟨o, e _ _ h⟩)
  · exact .inr h
theorem SqT.updI {K : PySem.W.Frag} {H : Hp} {a p : Addr} {xs : List V} {o : HO} {C dx : Addr} {fs : List (Str × V)} (h : SqT K H a xs) (hp : H p = some (.ins C dx fs)) : SqT K (upd H p o) a xs := by
  rcases h with (h | ⟨u, h⟩) | h
  · exact .inl (.inl (by rw [upd_ne (fun z => by rw [z, hp] at h; cases h)]; exact h))
  · exact .inl (.inr ⟨u, by rw [upd_ne (fun z => by rw [z, hp] at h; cases h)]; exact h⟩)
  · exact .inr h
/-- at w stands a water with these pools, from the left -/
def WatAt (K : PySem.W.Frag) (CW : Addr) (H : Hp) (w : Addr) (qs : List Addr) : Prop := ∃ dx t, H w = some (.ins CW dx [("_pools", V.ref t)]) ∧ SqT K H t (qs.map V.ref)
theorem WatAt.same {K : PySem.W.Frag} {CW w : Addr} {H H' : Hp} {qs : List Addr} (h : WatAt K CW H w qs) (s : Same H H') : WatAt K CW H' w qs := let ⟨dx, t, e, q⟩ := h; ⟨dx, t, s _ _ e, Same.seqT s q⟩
theorem wfs (t : Addr) : ([("_pools", V.ref t)] : List (Str × V)).lookup ("_pools" : Str) = some (.ref t) := by simp [List.lookup]
/-- the first place from 1 on at which t holds, below n -/
def FirstAt (t : Nat → Prop) (n : Nat) (r : Option Nat) : Prop := match r with
  | none => ∀ j, 1 ≤ j → j < n → ¬ t j
  | some a => 1 ≤ a ∧ a < n ∧ t a ∧ ∀ j, 1 ≤ j → j < a → ¬ t j
theorem FirstAt.hit {t : Nat → Prop} {n a : Nat} {r : Option Nat} (h : FirstAt t n r) (h1 : 1 ≤ a) (h2 : a < n) (ha : t a) (hj : ∀ j, 1 ≤ j → j < a → ¬ t j) : r = some a := by
  cases r with
  | none => exact absurd ha (h a h1 h2)
  | some b =>
    obtain ⟨b1, b2, tb, hb⟩ := h
    rcases Nat.lt_trichotomy a b with l | l | l
    · exact absurd ha (hb a h1 l)
    · rw [l]
    · exact absurd tb (hj b b1 l)
theorem FirstAt.miss {t : Nat → Prop} {n : Nat} {r : Option Nat} (h : FirstAt t n r) (hj : ∀ j, 1 ≤ j → j < n → ¬ t j) : r = none := by
  cases r with
  | none => rfl
  | some b => exact absurd h.2.2.1 (hj b h.1 h.2.1)
theorem FirstAt.ex (t : Nat → Prop) (n : Nat) : ∃ r, FirstAt t n r := by
  induction n with
  | zero => exact ⟨none, fun j _ z => absurd z (Nat.not_lt_zero _)⟩
  | succ n ih =>
    obtain ⟨r, h⟩ := ih
    cases r with
    | some a => exact ⟨some a, h.1, Nat.lt_succ_of_lt h.2.1, h.2.2⟩
    | none =>
      by_cases q : 1 ≤ n ∧ t n
      · exact ⟨some n, q.1, Nat.lt_succ_self _, q.2, fun j h1 h2 => h j h1 h2⟩
      · exact ⟨none, fun j h1 h2 tj => by
          rcases Nat.lt_or_ge j n with l | l
          · exact h j h1 l tj
          · obtain rfl : j = n := by omega
            exact q ⟨h1, tj⟩⟩
/-- a pool's terms -/
structure Qd where
  a : Int
  b : Int
  c : Int
  d : Int
/-- the pool of z reaches the one of y to its left, or lies left of it -/
def Qd.tch (y z : Qd) : Prop := (2 * z.a * z.d - z.c * z.b) * (2 * y.b * y.d) ≤ (2 * y.a * y.d + y.c * y.b) * (2 * z.b * z.d)
instance (y z : Qd) : Decidable (y.tch z) := by unfold Qd.tch; exact inferInstance
def tchP (ps : List Qd) (j : Nat) : Prop := ∃ y z, ps[j - 1]? = some y ∧ ps[j]? = some z ∧ y.tch z
/-- pools at these places, with these terms below 2 ^ n -/
def PlsAt (CP C : Addr) (H : Hp) (n : Nat) (qs : List Addr) (ps : List Qd) : Prop := ps.length = qs.length ∧ ∀ (i : Nat) (q : Addr) (z : Qd), qs[i]? = some q → ps[i]? = some z → PoolAt CP C H q z.a z.b z.c z.d ∧ Pz n z.a z.b z.c z.d
theorem PlsAt.same {CP C : Addr} {H H' : Hp} {n : Nat} {qs : List Addr} {ps : List Qd} (h : PlsAt CP C H n qs ps) (s : Same H H') : PlsAt CP C H' n qs ps := ⟨h.1, fun i q z e1 e2 => let ⟨a, b⟩ := h.2 i q z e1 e2; ⟨a.same s, b⟩⟩
theorem PlsAt.at_ {CP C : Addr} {H : Hp} {n i : Nat} {qs : List Addr} {ps : List Qd} (h : PlsAt CP C H n qs ps) (hi : i < qs.length) : ∃ q z, qs[i]? = some q ∧ ps[i]? = some z ∧ PoolAt CP C H q z.a z.b z.c z.d ∧ Pz n z.a z.b z.c z.d := by
  have e1 : qs[i]? = some qs[i] := List.getElem?_eq_getElem hi
  have e2 : ps[i]? = some (ps[i]'(by rw [h.1]; exact hi)) := List.getElem?_eq_getElem _
  exact ⟨_, _, e1, e2, h.2 i _ _ e1 e2⟩
/-- comparing two ratios by what they are -/
theorem Was.cmp {N D U L N' D' U' L' : Int} (h : Was N D U L) (l : 0 < L) (h' : Was N' D' U' L') (l' : 0 < L') : N * D' ≤ N' * D ↔ U * L' ≤ U' * L := by
  rw [h.ge l (e := N') (f := D')]
  obtain ⟨e, d0, _⟩ := h'
  -- U * D' ≤ N' * L, N' * L' = U' * D'
  constructor
  · intro q
    have q2 := Int.mul_le_mul_of_nonneg_right q (show 0 ≤ L' by omega)
    have q3 : U * L' * D' ≤ U' * L * D' := by
      have a1 : U * D' * L' = U * L' * D' := by grind
      have a2 : N' * L * L' = U' * L * D' := by grind
      omega
    exact Int.le_of_mul_le_mul_right q3 d0
  · intro q
    have q2 := Int.mul_le_mul_of_nonneg_right q (show 0 ≤ D' by omega)
    have q3 : U * D' * L' ≤ N' * L * L' := by
      have a1 : U * D' * L' = U * L' * D' := by grind
      have a2 : N' * L * L' = U' * L * D' := by grind
      omega
    exact Int.le_of_mul_le_mul_right q3 l'
/-- a Touching with this index is raised -/
def BadT (CT : Addr) (i : Int) (H : Hp) (E : XK) : Prop := ∀ d H', Same H H' → H' d = some (.xd [("index", V.int i)]) → E (.ref CT) (some d) H'
/-- Touching.__init__ -/
def spTou (C : Addr) : Sp := fun vs H Q _ => ∃ (a : Addr) (v : V), vs = [.ref a, v] ∧ H a = some (exo a C none) ∧ ∀ dx, H dx = none → dx ≠ a → Q .non (upd (upd H dx (exd dx [("index", v)])) a (exo a C (some dx)))
def spWInit (K : PySem.W.Frag) (CW CP C CT : Addr) : Sp := fun vs H Q E => ∃ (p dx t : Addr) (qs : List Addr) (ps : List Qd) (n : Nat) (r : Option Nat), vs = [.ref p, .ref t] ∧ H p = some (.ins CW dx []) ∧ (SqL K H t (qs.map V.ref) ∨ SqT K H t (qs.map V.ref)) ∧ qs.length ≤ 1000000 ∧
  PlsAt CP C H n qs ps ∧ n ≤ 200 ∧ FirstAt (tchP ps) ps.length r ∧
  (r = none → ∀ H1 u, Same H H1 → SqT K H1 u (qs.map V.ref) → Q .non (upd H1 p (.ins CW dx [("_pools", V.ref u)]))) ∧ (∀ j, r = some j → BadT CT (j : Nat) H E)
def spWLen (K : PySem.W.Frag) (CW : Addr) : Sp := fun vs H Q _ => ∃ (w : Addr) (qs : List Addr), vs = [.ref w] ∧ WatAt K CW H w qs ∧ Q (.int (qs.length : Nat)) H
def spWGet (K : PySem.W.Frag) (CW : Addr) : Sp := fun vs H Q _ => ∃ (w : Addr) (qs : List Addr) (i : Nat) (q : Addr), vs = [.ref w, .int i] ∧ WatAt K CW H w qs ∧ qs[i]? = some q ∧ Q (.ref q) H
section
variable {P : Program} {w : World} {K : PySem.W.Frag} {mg : Str → Option Value} {base : Heap}
theorem ok_tou (T : Txt K mg) : FnOk P w K mg base CX0 1 T.f_Touching_init_d T.d_Touching_init_d ["self", "index"] (spTou T.C_Touching) := by
  refine T.F_Touching_init_d.ok sc_Touching_init_d (fun vs H Q E h => ?_) (fun cdv A outer s H vs Q E hr h => ?_)
  · obtain ⟨a, v, rfl, _⟩ := h; rfl
  · obtain ⟨a, v, rfl, ha, k⟩ := h
    refine ⟨_, pss_one (ps_ost (pv 0) (pv 1)), ?_⟩
    exact ⟨_, rfl, _, rfl, a, T.C_Touching, rfl, T.ox_Touching, T.n_Touching_index, .inl ⟨ha, k⟩⟩
/-- raise Touching(e) -/
theorem ps_tou {X : Cx} {W : WX} {e : Expr} {te : TE} {p pos pos2 : Pos} (T : Txt X.K X.mg) (hr : Room 2 X.A) (hc : X.calm = true) (tk : Takes X W) (he : PE X e te) (hg : Gl X "Touching" := by rfl)
    (hs : starEach (e :: []) X.env = (false, eval e X.env) :: starEach [] X.env := by rfl) :
    PS X (.Raise (some (.Call (.Name "Touching" p) [e] [] pos)) none pos2) (fun _ σ H => te σ H fun v H1 => ∀ d H', Same H1 H' → H' d = some (.xd [("index", v)]) → W (.ref T.C_Touching) (some d) σ H') := by
  refine ⟨fun pins s σ H D I h => ?_⟩
  refine (ps_raise (W := W) hc tk (pmk_oex (CX := CX0) (dvs := []) T.ox_Touching T.m_Touching_init_d.at_ T.t_Touching_init_d (ok_tou T) hr T.B_Touching_init_d .nil (fun _ _ _ _ _ _ _ z => z.elim) hg T.g_Touching (pa_cons (pe_wk he) pa_nil hs) (he := hs))).run pins s σ H D I ?_
  refine ⟨_, h, fun v H1 q => ⟨by show 1 ≤ 1000; decide, fun a na => ⟨a, v, rfl, upd_same, fun dx nx ne => ⟨rfl, dx, [("index", v)], upd_same, by rw [upd_ne ne, upd_same], ?_, ?_⟩⟩⟩⟩
  · rwa [upd_ne ne] at nx
  · have nd : H1 dx = none := by rwa [upd_ne ne] at nx
    refine q dx _ (fun b o e => ?_) upd_same
    rw [upd_ne (ne_of_none e nd), del_ne (ne_of_none e na), upd_ne (ne_of_none e na), upd_ne (ne_of_none e nd), upd_ne (ne_of_none e na)]
    exact e
theorem ok_wlen (T : Txt K mg) : FnOk P w K mg base CX0 1 T.f_Water_len_d T.d_Water_len_d ["self"] (spWLen K T.C_Water) := by
  refine T.F_Water_len_d.ok sc_Water_len_d (fun vs H Q E ⟨_, _, e, _⟩ => by rw [e]; rfl) (fun cdv A outer s H vs Q E hr h => ?_)
  obtain ⟨w, qs, rfl, ⟨dx, t, e, q⟩, fin⟩ := h
  refine ⟨_, pss_one (ps_ret (pe_callB call_len_seq (by rfl) T.b_len PySem.boot_len (pa_cons (pe_fld (pv 0) rfl) pa_nil))), ?_⟩
  refine ⟨_, rfl, w, _, dx, _, _, rfl, e, T.cl_Water, T.n_Water__pools, wfs t, t, _, rfl, .inr q, ?_⟩
  rw [List.length_map]
  exact fin
theorem ok_wget (T : Txt K mg) : FnOk P w K mg base CX0 1 T.f_Water_getitem_d T.d_Water_getitem_d ["self", "at"] (spWGet K T.C_Water) := by
  refine T.F_Water_getitem_d.ok sc_Water_getitem_d (fun vs H Q E ⟨_, _, _, _, e, _⟩ => by rw [e]; rfl) (fun cdv A outer s H vs Q E hr h => ?_)
  obtain ⟨w, qs, i, x, rfl, ⟨dx, t, e, q⟩, hx, fin⟩ := h
  refine ⟨_, pss_cons (ps_if (pt_not (pt_chain op_le op_lt pe_int (pv 1) (pe_callB call_len_seq (by rfl) T.b_len PySem.boot_len (pa_cons (pe_fld (pv 0) rfl) pa_nil)))) pss_never pss_nil)
    (pss_one (ps_ret (pe_ix ix_tup (pe_fld (pv 0) rfl) (pv 1) (fun _ _ => rfl)))), ?_⟩
  have lt : i < qs.length := (List.getElem?_eq_some_iff.mp hx).1
  refine ⟨_, rfl, _, _, rfl, rfl, _, rfl, (if_pos (decide_eq_true (by omega))).mpr ?_⟩
  refine ⟨_, rfl, w, _, dx, _, _, rfl, e, T.cl_Water, T.n_Water__pools, wfs t, t, _, rfl, .inr q, _, _, rfl, rfl, _, rfl, ?_⟩
  rw [decide_eq_true (show (i : Int) < ((qs.map V.ref).length : Nat) by rw [List.length_map]; omega)]
  refine iteF ⟨_, rfl, w, _, dx, _, _, rfl, e, T.cl_Water, T.n_Water__pools, wfs t, _, rfl, t, _, i, .ref x, rfl, rfl, q, atI_nat (by rw [List.getElem?_map, hx]; rfl), fin⟩
theorem ok_winit (T : Txt K mg) : FnOk P w K mg base (L2.CX P w) 9 T.f_Water_init_d T.d_Water_init_d ["self", "pools"] (spWInit K T.C_Water T.C_Pool T.C_Ratio T.C_Touching) := by
  have nd := sc_Water_init_d.nd
  refine T.F_Water_init_d.ok sc_Water_init_d (fun vs H Q E ⟨_, _, _, _, _, _, _, e, _⟩ => by rw [e]; rfl) (fun cdv A outer s H vs Q E hr h => ?_)
  obtain ⟨p, dx, t, qs, ps, n, r, rfl, hp, hq, few, hP, hn, hF, k1, k2⟩ := h
  refine ⟨_, pss_cons (ps_for (passes_of rfl) rfl (pi_range2 (by rfl) T.b_range (pa_cons pe_int (pa_cons (pe_callB call_len_seq (by rfl) T.b_len PySem.boot_len (pa_cons (pv 1) pa_nil)) pa_nil))) (pg_name (i := 2) nd rfl (.inl rfl))
      (pss_one (ps_if (pt_cmpR (opr_cmp (op := .LtE) (E := E0) (fun _ _ => rfl) (besides T) T.m_Ratio_le_d (ok_le T) (hr.mono (by decide)) T.B_Ratio_le_d (fun _ => at0))
          (pe_prop (E := E0) (pe_ix (ix_list.or ix_tup) (pv 1) (pv 2) (fun _ _ => rfl)) T.cl_Pool T.pr_Pool_left (ok_left T) (hr.mono (by decide)) T.B_Pool_left .nil pass0 rfl)
          (pe_prop (E := E0) (pe_ix (ix_list.or ix_tup) (pv 1) (pe_op op_sub (pv 2) pe_int) (fun _ _ => rfl)) T.cl_Pool T.pr_Pool_right (ok_right_ T) (hr.mono (by decide)) T.B_Pool_right .nil pass0 rfl) (nomark _))
        (pss_one (ps_tou (W := fun cls d _ H' => E cls d H') T (hr.mono (by decide)) rfl (takes_of rfl rfl rfl rfl) (pv 2))) pss_nil)))
    (pss_one (ps_fld (pv 0) (pe_callTy call_tuple_of (by rfl) T.b_tuple (by decide +kernel) (pa_cons (pv 1) pa_nil)) rfl)), ?_⟩
  have ixs : ∀ {G : Hp} {i : Int} {x : V} {R : VK}, Same H G → atI (qs.map V.ref) i = some x → R x G → rIxL K (.ref t) (.int i) G R ∨ rIxT K (.ref t) (.int i) G R := fun {G i x R} s e q => by
    rcases hq with h | h
    · exact .inl ⟨t, _, i, x, rfl, rfl, s.seq h, e, q⟩
    · exact .inr ⟨t, _, i, x, rfl, rfl, Same.seqT s h, e, q⟩
  have ln : (qs.map V.ref).length = qs.length := List.length_map _
  refine ⟨_, rfl, t, _, rfl, hq, _, _, rfl, (by rw [ln]; exact ⟨by decide, by decide, by omega, by omega⟩), for_range (lo := 1) (n := ((((qs.map V.ref).length : Nat) : Int) - 1).toNat)
    (fun i σ' H' => Same H H' ∧ (∀ j, 1 ≤ j → j < i + 1 → ¬ tchP ps j) ∧ ∃ v2 : Option V, σ' = [some (.ref p), some (.ref t), v2]) ⟨Same.refl _, fun j h1 h2 => absurd h2 (by omega), _, rfl⟩ ?_ ?_⟩
  · rintro i σ' H1 hi ⟨s1, no, v2, rfl⟩
    rw [ln] at hi
    obtain ⟨q1, z, eq1, ez, hp1, z1⟩ := (hP.same s1).at_ (i := i + 1) (by omega)
    obtain ⟨q0, y, eq0, ey, hp0, z0⟩ := (hP.same s1).at_ (i := i) (by omega)
    obtain ⟨dq1, _, _, e1, _⟩ := id hp1
    obtain ⟨dq0, _, _, e0, _⟩ := id hp0
    have at1 : atI (qs.map V.ref) (1 + (i : Int)) = some (.ref q1) := by
      rw [show (1 + (i : Int)) = ((i + 1 : Nat) : Int) by omega]
      exact atI_nat (by rw [List.getElem?_map, eq1]; rfl)
    have at0' : atI (qs.map V.ref) (1 + (i : Int) - 1) = some (.ref q0) := by
      rw [show (1 + (i : Int) - 1) = ((i : Nat) : Int) by omega]
      exact atI_nat (by rw [List.getElem?_map, eq0]; rfl)
    refine ⟨_, rfl, _, rfl, ixs s1 at1 ⟨q1, dq1, _, rfl, e1, q1, z.a, z.b, z.c, z.d, n, rfl, hp1, z1, hn, fun g1 G1 N1 D1 s2 r1 w1 bN1 bD1 => ?_⟩⟩
    refine ⟨_, rfl, _, rfl, _, _, rfl, rfl, ixs (s1.trans s2) at0' ⟨q0, dq0, _, rfl, s2 _ _ e0, q0, y.a, y.b, y.c, y.d, n, rfl, hp0.same s2, z0, hn, fun g0 G0 N0 D0 s3 r0 w0 bN0 bD0 => ?_⟩⟩
    have l1 : 0 < 2 * z.b * z.d := Int.mul_pos (Int.mul_pos (by decide) z1.b0) z1.d0
    have l0 : 0 < 2 * y.b * y.d := Int.mul_pos (Int.mul_pos (by decide) z0.b0) z0.d0
    have cm : N1 * D0 ≤ N0 * D1 ↔ y.tch z := Was.cmp w1 l1 w0 l0
    have iff : tchP ps (i + 1) ↔ y.tch z := ⟨fun ⟨y', z', e', e'', h⟩ => by
      rw [show i + 1 - 1 = i by omega, ey] at e'
      rw [ez] at e''
      cases e'; cases e''
      exact h, fun h => ⟨y, z, by rw [show i + 1 - 1 = i by omega]; exact ey, ez, h⟩⟩
    refine ownL (r := decide (y.tch z)) (r1.same s3) (.inr ⟨g0, rfl, r0⟩) (bN1.bd (by omega)) (bD1.bd (by omega)) (bN0.bd (by omega)) (bD0.bd (by omega)) (by rw [decide_eq_true_iff]; exact cm.symm) fun G s4 => ⟨_, rfl, ?_⟩
    have sG := ((s1.trans s2).trans s3).trans s4
    refine ite2 (fun c => ?_) (fun c => ?_)
    · have tj : tchP ps (i + 1) := iff.mpr (of_decide_eq_true c)
      refine ⟨_, rfl, fun d H' s' e => k2 (i + 1) (hF.hit (by omega) (by rw [hP.1]; omega) tj no) d H' (sG.trans s') ?_⟩
      rw [show ((i + 1 : Nat) : Int) = 1 + (i : Int) by omega]
      exact e
    · refine ⟨sG, fun j h1 h2 tj => ?_, _, rfl⟩
      rcases Nat.lt_or_ge j (i + 1) with l | l
      · exact no j h1 l tj
      · obtain rfl : j = i + 1 := by omega
        exact c (decide_eq_true (iff.mp tj))
  · rintro σ' H1 ⟨s1, no, v2, rfl⟩
    have rn : r = none := hF.miss fun j h1 h2 => no j h1 (by rw [hP.1] at h2; rw [ln]; omega)
    have hp1 := s1 _ _ hp
    refine ⟨_, rfl, t, qs.map V.ref, rfl, ?_⟩
    rcases hq with h | h
    · refine .inl ⟨s1.seq h, fun u hu => ⟨_, rfl, p, T.C_Water, dx, [], rfl, same_upd hu _ _ hp1, T.cl_Water, T.n_Water__pools, by decide, ?_⟩⟩
      exact k1 rn _ u (s1.trans (same_upd hu)) (SqT.of upd_same)
    · refine .inr ⟨Same.seqT s1 h, ⟨_, rfl, p, T.C_Water, dx, [], rfl, hp1, T.cl_Water, T.n_Water__pools, by decide, ?_⟩⟩
      exact k1 rn _ t s1 (Same.seqT s1 h)
end
section
variable {K : PySem.W.Frag} {mg : Str → Option Value}
/-- Water(pools), Water(), Water(pools = ..) -/
theorem kb_wat (T : Txt K mg) : ∃ its : List Value, KBn K T.d_Water_init_d ["self", "pools"] 2 [] (fun us _ => us) (fun vs _ => vs) := by
  obtain ⟨its, h⟩ := FunD.kbindsD T.F_Water_init_d (ps := ["self", "pools"]) 2 [] (fun us _ _ => us) (List.cons_ne_nil _ _) (fun r _ _ => r) (fun Tt kV doc pm an cdv ct us its ws l1 l2 l3 => by
    match us, its, ws, l1, l2, l3 with
    | [a, b], [i], [], _, _, _ => exact ⟨_, rfl, rfl⟩)
  exact ⟨its, h⟩
theorem b_wat0 (T : Txt K mg) : ∃ ds, Vals [V.ref T.e_empty] ds ∧ Binds K T.d_Water_init_d ["self", "pools"] ds := by
  refine FunD.binds1 T.F_Water_init_d (ps := ["self", "pools"]) 1 0 (List.cons_ne_nil _ _) rfl (fun Tt kV doc pm an cdv ct us its l1 l2 => ?_)
  match us, its, l1, l2 with
  | [a], [i], _, _ => exact ⟨_, rfl, rfl⟩
theorem kb_watK (T : Txt K mg) : ∃ its : List Value, KBn K T.d_Water_init_d ["self", "pools"] 1 ["pools"] (fun us ws => us ++ ws) (fun vs zs => vs ++ zs) := by
  obtain ⟨its, h⟩ := FunD.kbindsD T.F_Water_init_d (ps := ["self", "pools"]) 1 ["pools"] (fun us _ ws => us ++ ws) (List.cons_ne_nil _ _) (fun r _ r3 => r.append r3) (fun Tt kV doc pm an cdv ct us its ws l1 l2 l3 => by
    match us, its, ws, l1, l2, l3 with
    | [a], [i], [x], _, _, _ => exact ⟨_, rfl, rfl⟩)
  exact ⟨its, h⟩
theorem sq_of_empty (T : Txt K mg) (H : Hp) : SqT K H T.e_empty [] := by
  obtain ⟨o, n, l, c, d⟩ := T.sq_empty
  exact .inr ⟨o, #[], n, l, c, d, Nat.zero_le _, .nil⟩
/-- a new water of these pools -/
theorem wat_made {CW CP C CT : Addr} {H : Hp} {Q' : VK} {E : XK} {t x dx : Addr} {qs : List Addr} {ps : List Qd} {n : Nat} {r : Option Nat} (hq : SqL K H t (qs.map V.ref) ∨ SqT K H t (qs.map V.ref)) (few : qs.length ≤ 1000000) (hP : PlsAt CP C H n qs ps) (hn : n ≤ 200) (hF : FirstAt (tchP ps) ps.length r)
    (nx : H x = none) (ndx : H dx = none) (k : r = none → ∀ H', Same H H' → WatAt K CW H' x qs → Q' .non H') (kb : ∀ j, r = some j → BadT CT (j : Nat) H E) :
    spWInit K CW CP C CT [.ref x, .ref t] (upd (upd H dx (.own x)) x (.ins CW dx [])) Q' E := by
  have sm : Same H (upd (upd H dx (.own x)) x (.ins CW dx [])) := fun b o e => by
    rw [upd_ne (ne_of_none e nx), upd_ne (ne_of_none e ndx)]; exact e
  refine ⟨x, dx, t, qs, ps, n, r, rfl, upd_same, hq.elim (fun h => .inl (sm.seq h)) (fun h => .inr (Same.seqT sm h)), few, hP.same sm, hn, hF, fun e H1 u s hu => ?_, fun j e d H' s' ed => kb j e d H' (sm.trans s') ed⟩
  have ex := s _ _ upd_same
  exact k e _ (fun b o e => by rw [upd_ne (ne_of_none e nx)]; exact s _ _ (sm _ _ e)) ⟨dx, u, upd_same, SqT.updI hu ex⟩
end

/-! ### the laws' look at a water -/
/-- t says what the pool with the terms z is: its moment and its volume, in parts of L -/
def DueAt (H : Hp) (L : Int) (z : Qd) (t : Addr) : Prop := ∃ M W : Int, H t = some (.tup [.int M, .int W]) ∧ z.a * (W * L) = M * z.b ∧ z.c * L = W * z.d ∧ Bn 500 M ∧ Bn 500 W
theorem DueAt.same {H H' : Hp} {L : Int} {z : Qd} {t : Addr} (h : DueAt H L z t) (s : Same H H') : DueAt H' L z t := let ⟨M, W, e, r⟩ := h; ⟨M, W, s _ _ e, r⟩
def spIsW (K : PySem.W.Frag) (CW CP C : Addr) : Sp := fun vs H Q _ => ∃ (w l : Addr) (L : Int) (qs ts : List Addr) (ps : List Qd) (n : Nat), vs = [.ref w, .int L, .ref l] ∧ WatAt K CW H w qs ∧ PlsAt CP C H n qs ps ∧ n ≤ 200 ∧ Bn 100 L ∧
  H l = some (.lst (ts.map V.ref)) ∧ ts.length = qs.length ∧ qs.length ≤ 1000000 ∧ (∀ (i : Nat) (z : Qd) (t : Addr), ps[i]? = some z → ts[i]? = some t → DueAt H L z t) ∧ ∀ H', Same H H' → Q (.bl true) H'
section
variable {P : Program} {w : World} {K : PySem.W.Frag} {mg : Str → Option Value} {base : Heap}
theorem ok_isw (T : Txt K mg) : FnOk P w K mg base CX0 4 T.f_lw_is_water T.d_lw_is_water ["_law_found", "_law_unit", "_law_dues"] (spIsW K T.C_Water T.C_Pool T.C_Ratio) := by
  have nd := sc_lw_is_water.nd
  refine T.F_lw_is_water.ok sc_lw_is_water (fun vs H Q E ⟨_, _, _, _, _, _, _, e, _⟩ => by rw [e]; rfl) (fun cdv A outer s H vs Q E hr h => ?_)
  obtain ⟨w, l, L, qs, ts, ps, n, rfl, hW, hP, hn, Lz, hl, len, few, due, fin⟩ := h
  refine ⟨_, pss_cons (ps_if (PW.pt (pw_or (pt_not (pt_val (pe_callB call_isi (by rfl) T.b_isinstance (by decide +kernel) (pa_cons (pv 0) (pa_cons (pe_glob (v := .ref T.C_Water) (by rfl) T.g_Water rfl) pa_nil)))))
        (pw_or1 (pt_cmpR op_ne (pe_callB (call_lenO T.m_Water_len_d (ok_wlen T) (hr.mono (by decide)) T.B_Water_len_d) (by rfl) T.b_len PySem.boot_len (pa_cons (pv 0) pa_nil)) (pe_callB call_len_seq (by rfl) T.b_len PySem.boot_len (pa_cons (pv 2) pa_nil)) (nomark _))))) (pss_one (ps_ret pe_bl)) pss_nil)
    (pss_cons (ps_for PassesOwn.never rfl (pi_enum (by rfl) T.b_enumerate (pa_cons (pv 2) pa_nil)) (pg_tup rfl (pgs_cons (pg_name (i := 3) nd rfl (.inl rfl)) (pgs_cons (pg_tup rfl (pgs_cons (pg_name (i := 4) nd rfl (.inl rfl)) (pgs_cons (pg_name (i := 5) nd rfl (.inl rfl)) pgs_nil))) pgs_nil)))
      (pss_one (ps_if (PW.pt (pw_or (pt_not (pt_val (pe_f (E := fun _ => E0) (ok_is6 T) (hr.mono (by decide)) (by rfl) T.g_lw_is T.F_lw_is.kp T.B_lw_is (fun _ => at0) (pa_cons (pe_prop (E := E0) (pe_ixO T.m_Water_getitem_d T.fi_Water_getitem_d (ok_wget T) (hr.mono (by decide)) T.B_Water_getitem_d (pv 0) (pv 3)) T.cl_Pool T.pr_Pool_middle (ok_mid T) (hr.mono (by decide)) T.B_Pool_middle .nil pass0 rfl) (pa_cons (pv 4) (pa_cons (pe_op op_mulW (pv 5) (pv 1)) pa_nil))))))
        (pw_or1 (pt_not (pt_val (pe_f (E := fun _ => E0) (ok_is6 T) (hr.mono (by decide)) (by rfl) T.g_lw_is T.F_lw_is.kp T.B_lw_is (fun _ => at0) (pa_cons (pe_prop (E := E0) (pe_ixO T.m_Water_getitem_d T.fi_Water_getitem_d (ok_wget T) (hr.mono (by decide)) T.B_Water_getitem_d (pv 0) (pv 3)) T.cl_Pool T.pr_Pool_volume (ok_vol T) (hr.mono (by decide)) T.B_Pool_volume .nil pass0 rfl) (pa_cons (pv 5) (pa_cons (pv 1) pa_nil))))))))) (pss_one (ps_ret pe_bl)) pss_nil)))
    (pss_one (ps_ret pe_bl))), ?_⟩
  obtain ⟨dw, tw, ew, _⟩ := id hW
  refine ⟨_, rfl, _, _, .ref T.C_Water, _, true, rfl, .own _, tyx_ins T.cl_Water T.tc_Water ew, kit_self, true, rfl, iteF ?_⟩
  refine ⟨_, rfl, w, dw, _, rfl, ew, w, qs, rfl, hW, ⟨qs.length, rfl, by omega⟩, _, rfl, l, _, rfl, .inl (SqL.of hl), rfl, _, rfl, if_false_ (by rw [List.length_map, len]; simp) ?_⟩
  refine ⟨_, rfl, l, _, rfl, SqL.of hl, for_it (walk_enum (xs := ts.map V.ref)) (fun i σ' H' => Same H H' ∧ ∃ v3 v4 v5 : Option V, σ' = [some (.ref w), some (.int L), some (.ref l), v3, v4, v5]) ⟨Same.refl _, _, _, _, rfl⟩ (fun i σ' H' _ ⟨s, _⟩ => SqL.of (s _ _ hl)) ?_ (fun σ' H' ⟨s, _⟩ => fin _ s)⟩
  rintro i x σ' H1 H2 hi ⟨s1, v3, v4, v5, rfl⟩ ⟨tz, x1, x2, rfl, nz, rfl, e1, e2⟩
  cases e1
  rw [List.length_map] at hi
  obtain ⟨t, et, rfl⟩ := ref_get e2
  obtain ⟨q, z, eq, ez, hp, hz⟩ := hP.at_ (i := i) (by omega)
  obtain ⟨M, W, tu, d1, d2, Mz, Wz⟩ := due i z t ez et
  have s2 : Same H (upd H1 tz (.tup [.int (i : Nat), .ref t])) := s1.trans (same_upd nz)
  refine ⟨tz, _, rfl, SqT.of upd_same, rfl, _, _, rfl, _, _, rfl, t, _, rfl, SqT.of (s2 _ _ tu), rfl, _, _, rfl, _, _, rfl, rfl, rfl, ?_⟩
  have hW2 := hW.same s2
  have ew2 := s2 _ _ ew
  have hp2 := (hP.2 i q z eq ez).1.same s2
  obtain ⟨dq, _, _, epq, _⟩ := id hp2
  have zb : ∀ {k : Nat} {x : Int}, k ≤ 2000 → Bn k x → Bd x := fun hk h => h.bd hk
  refine ⟨_, rfl, _, rfl, w, dw, _, rfl, ew2, w, qs, i, q, rfl, hW2, eq, q, dq, _, rfl, epq, q, z.a, z.b, z.c, z.d, rfl, hp2, fun m rm => ⟨_, rfl, _, rfl, _, rfl, _, _, rfl, rfl, bd_mulW (zb (by decide) Wz) (zb (by decide) Lz), m, z.a, z.b, M, W * L, true, rfl, rm, zb (by omega) hz.az, zb (by omega) hz.bz, zb (by decide) Mz, zb (by decide) (Wz.mul Lz), ⟨fun _ => d1, fun _ => rfl⟩, true, rfl, iteF ?_⟩⟩
  refine ⟨_, rfl, _, rfl, w, dw, _, rfl, ew2, w, qs, i, q, rfl, hW2, eq, q, dq, _, rfl, epq, q, z.a, z.b, z.c, z.d, rfl, hp2, fun m rm => ⟨_, rfl, _, rfl, m, z.c, z.d, W, L, true, rfl, rm, zb (by omega) hz.cz, zb (by omega) hz.dz, zb (by decide) Wz, zb (by decide) Lz, ⟨fun _ => d2, fun _ => rfl⟩, true, rfl, iteF ?_⟩⟩
  exact ⟨s2, _, _, _, rfl⟩
end

/-! ### rows of ratios put in order -/
/-- moment and volume: the middle is the moment by the volume -/
abbrev DD := Int × Int
def wd (x : DD) : Int := max x.2 1
theorem wd_pos (x : DD) : 0 < wd x := by unfold wd; omega
theorem wd_eq {x : DD} (h : 0 < x.2) : wd x = x.2 := by unfold wd; omega
theorem frac_le {m1 m2 m3 w1 w2 w3 : Int} (p1 : 0 < w1) (p2 : 0 < w2) (p3 : 0 < w3) (h : m1 * w2 ≤ m2 * w1) (h' : m2 * w3 ≤ m3 * w2) : m1 * w3 ≤ m3 * w1 ∧ (m1 * w3 = m3 * w1 → m1 * w2 = m2 * w1 ∧ m2 * w3 = m3 * w2) := by
  have a1 := Int.mul_le_mul_of_nonneg_right h (show 0 ≤ w3 by omega)
  have a2 := Int.mul_le_mul_of_nonneg_right h' (show 0 ≤ w1 by omega)
  have e1 : m1 * w2 * w3 = m1 * w3 * w2 := Int.mul_right_comm _ _ _
  have e2 : m2 * w3 * w1 = m2 * w1 * w3 := Int.mul_right_comm _ _ _
  have e3 : m3 * w2 * w1 = m3 * w1 * w2 := Int.mul_right_comm _ _ _
  refine ⟨Int.le_of_mul_le_mul_right (by omega) p2, fun q => ?_⟩
  have q2 : m1 * w3 * w2 = m3 * w1 * w2 := by rw [q]
  exact ⟨Int.eq_of_mul_eq_mul_right (show w3 ≠ 0 by omega) (by omega), Int.eq_of_mul_eq_mul_right (show w1 ≠ 0 by omega) (by omega)⟩
def leD (x y : DD) : Bool := decide (x.1 * wd y < y.1 * wd x ∨ (x.1 * wd y = y.1 * wd x ∧ x.2 ≤ y.2))
theorem leD_iff {x y : DD} : leD x y = true ↔ x.1 * wd y < y.1 * wd x ∨ (x.1 * wd y = y.1 * wd x ∧ x.2 ≤ y.2) := decide_eq_true_iff
theorem leD_trans {x y z : DD} (h : leD x y = true) (h' : leD y z = true) : leD x z = true := by
  rw [leD_iff] at *
  obtain ⟨h1, h2⟩ := frac_le (wd_pos x) (wd_pos y) (wd_pos z) (show x.1 * wd y ≤ y.1 * wd x by omega) (show y.1 * wd z ≤ z.1 * wd y by omega)
  by_cases q : x.1 * wd z = z.1 * wd x
  · obtain ⟨q1, q2⟩ := h2 q
    omega
  · omega
theorem leD_not {x y : DD} (h : ¬ leD x y = true) : leD y x = true := by
  rw [leD_iff] at *; omega
def posD (l : List DD) (d : DD) : Nat := l.countP (fun x => leD x d)
def insD (l : List DD) (d : DD) : List DD := l.take (posD l d) ++ d :: l.drop (posD l d)
def ordD (ds : List DD) : List DD := ds.foldl insD []
def SrtD (l : List DD) : Prop := ∀ (i j : Nat) (x y : DD), i < j → l[i]? = some x → l[j]? = some y → leD x y = true
/-- where the rows up to k are not behind d and those from k on are, d's place is k -/
theorem posD_eq : ∀ {l : List DD} {d : DD} {k : Nat}, k ≤ l.length → (∀ i x, i < k → l[i]? = some x → leD x d = true) → (∀ i x, k ≤ i → l[i]? = some x → ¬ leD x d = true) → posD l d = k
  | [], d, k, hk, _, _ => by
    have : k = 0 := by simpa using hk
    subst this; rfl
  | x :: l, d, 0, _, _, h2 => by
    unfold posD
    refine List.countP_eq_zero.mpr fun y hy => ?_
    obtain ⟨i, hi, e⟩ := List.mem_iff_getElem.mp hy
    exact h2 i y (Nat.zero_le _) (by rw [List.getElem?_eq_getElem hi, e])
  | x :: l, d, k + 1, hk, h1, h2 => by
    have ih := posD_eq (l := l) (d := d) (k := k) (by simpa using hk) (fun i y hi e => h1 (i + 1) y (by omega) (by simpa using e)) (fun i y hi e => h2 (i + 1) y (by omega) (by simpa using e))
    have hx := h1 0 x (Nat.succ_pos _) rfl
    unfold posD at *
    rw [List.countP_cons, ih, if_pos hx]
theorem insD_len (l : List DD) (d : DD) : (insD l d).length = l.length + 1 := by
  have : posD l d ≤ l.length := List.countP_le_length
  unfold insD
  rw [List.length_append, List.length_cons, List.length_take, List.length_drop]
  omega
/-- the place of each row behind an insertion -/
theorem ins_get {α : Type} {l : List α} {d x : α} {k i : Nat} (hk : k ≤ l.length) : (l.take k ++ d :: l.drop k)[i]? = some x ↔ (i < k ∧ l[i]? = some x) ∨ (i = k ∧ x = d) ∨ (k < i ∧ l[i - 1]? = some x) := by
  have lt : (l.take k).length = k := by rw [List.length_take]; omega
  rcases Nat.lt_trichotomy i k with h | h | h
  · rw [List.getElem?_append_left (by omega), List.getElem?_take, if_pos h]
    constructor
    · exact fun e => .inl ⟨h, e⟩
    · rintro (⟨_, e⟩ | ⟨e, _⟩ | ⟨e, _⟩) <;> first | exact e | omega
  · rw [List.getElem?_append_right (by omega), lt, h, Nat.sub_self]
    constructor
    · intro e; cases e; exact .inr (.inl ⟨rfl, rfl⟩)
    · rintro (⟨e, _⟩ | ⟨_, e⟩ | ⟨e, _⟩)
      · omega
      · rw [e]; rfl
      · omega
  · rw [List.getElem?_append_right (by omega), lt]
    obtain ⟨m, rfl⟩ : ∃ m, i = k + 1 + m := ⟨i - (k + 1), by omega⟩
    have e1 : k + 1 + m - k = m + 1 := by omega
    have e2 : k + 1 + m - 1 = k + m := by omega
    rw [e1, e2, List.getElem?_cons_succ, List.getElem?_drop]
    constructor
    · exact fun e => .inr (.inr ⟨by omega, e⟩)
    · rintro (⟨e, _⟩ | ⟨e, _⟩ | ⟨_, e⟩) <;> first | exact e | omega
theorem insD_get {l : List DD} {d x : DD} {i : Nat} : (insD l d)[i]? = some x ↔ (i < posD l d ∧ l[i]? = some x) ∨ (i = posD l d ∧ x = d) ∨ (posD l d < i ∧ l[i - 1]? = some x) := ins_get List.countP_le_length
/-- of sorted rows the first ones are those not behind d -/
theorem srt_pos {l : List DD} {d : DD} (h : SrtD l) : (∀ i x, i < posD l d → l[i]? = some x → leD x d = true) ∧ (∀ i x, posD l d ≤ i → l[i]? = some x → ¬ leD x d = true) := by
  have key : ∃ k, k ≤ l.length ∧ (∀ i x, i < k → l[i]? = some x → leD x d = true) ∧ (∀ i x, k ≤ i → l[i]? = some x → ¬ leD x d = true) := by
    induction l with
    | nil => exact ⟨0, Nat.le_refl _, fun i x h => absurd h (Nat.not_lt_zero _), fun i x _ e => by simp at e⟩
    | cons y l ih =>
      have h' : SrtD l := fun i j x z hij e1 e2 => h (i + 1) (j + 1) x z (by omega) (by simpa using e1) (by simpa using e2)
      by_cases hy : leD y d = true
      · obtain ⟨k, h1, h2, h3⟩ := ih h'
        refine ⟨k + 1, by simpa using h1, fun i x hi e => ?_, fun i x hi e => ?_⟩
        · cases i with
          | zero => cases e; exact hy
          | succ i => exact h2 i x (by omega) (by simpa using e)
        · cases i with
          | zero => omega
          | succ i => exact h3 i x (by omega) (by simpa using e)
      · refine ⟨0, Nat.zero_le _, fun i x h => absurd h (Nat.not_lt_zero _), fun i x _ e z => ?_⟩
        cases i with
        | zero => cases e; exact hy z
        | succ i => exact hy (leD_trans (h 0 (i + 1) y x (by omega) rfl e) z)
  obtain ⟨k, h1, h2, h3⟩ := key
  rw [posD_eq h1 h2 h3]
  exact ⟨h2, h3⟩
theorem SrtD.ins {l : List DD} {d : DD} (h : SrtD l) : SrtD (insD l d) := by
  obtain ⟨h1, h2⟩ := srt_pos (d := d) h
  intro i j x y hij e1 e2
  rw [insD_get] at e1 e2
  rcases e1 with ⟨a1, e1⟩ | ⟨a1, rfl⟩ | ⟨a1, e1⟩
  · rcases e2 with ⟨a2, e2⟩ | ⟨a2, rfl⟩ | ⟨a2, e2⟩
    · exact h i j x y hij e1 e2
    · exact h1 i x a1 e1
    · exact h i (j - 1) x y (by omega) e1 e2
  · rcases e2 with ⟨a2, e2⟩ | ⟨a2, rfl⟩ | ⟨a2, e2⟩
    · omega
    · omega
    · exact leD_not (h2 (j - 1) y (by omega) e2)
  · rcases e2 with ⟨a2, e2⟩ | ⟨a2, rfl⟩ | ⟨a2, e2⟩
    · omega
    · omega
    · exact h (i - 1) (j - 1) x y (by omega) e1 e2
theorem SrtD.nil : SrtD [] := fun i j x y _ e => by simp at e
theorem srt_fold : ∀ (ds : List DD) {l : List DD}, SrtD l → SrtD (ds.foldl insD l)
  | [], _, h => h
  | d :: ds, _, h => srt_fold ds h.ins
theorem ordD_srt (ds : List DD) : SrtD (ordD ds) := srt_fold ds SrtD.nil
theorem ordD_snoc (ds : List DD) (d : DD) : ordD (ds ++ [d]) = insD (ordD ds) d := by unfold ordD; rw [List.foldl_append]; rfl
theorem ordD_len (ds : List DD) : (ordD ds).length = ds.length := by
  have : ∀ (ds l : List DD), (ds.foldl insD l).length = l.length + ds.length := by
    intro ds
    induction ds with
    | nil => intro l; rfl
    | cons d ds ih => intro l; rw [List.foldl_cons, ih, insD_len, List.length_cons]; omega
  rw [ordD, this]; simp
theorem ordD_mem {ds : List DD} {x : DD} : x ∈ ordD ds ↔ x ∈ ds := by
  have : ∀ (ds l : List DD), x ∈ ds.foldl insD l ↔ x ∈ l ∨ x ∈ ds := by
    intro ds
    induction ds with
    | nil => intro l; simp
    | cons d ds ih =>
      intro l
      rw [List.foldl_cons, ih]
      have e : x ∈ insD l d ↔ x ∈ l ∨ x = d := by
        unfold insD
        rw [List.mem_append, List.mem_cons]
        have h := List.take_append_drop (posD l d) l
        constructor
        · rintro (h1 | h1 | h1)
          · exact .inl (List.mem_of_mem_take h1)
          · exact .inr h1
          · exact .inl (List.mem_of_mem_drop h1)
        · rintro (h1 | h1)
          · rw [← h, List.mem_append] at h1
            rcases h1 with h1 | h1
            · exact .inl h1
            · exact .inr (.inr h1)
          · exact .inr (.inl h1)
      rw [e, List.mem_cons]
      constructor
      · rintro ((h1 | h1) | h1)
        · exact .inl h1
        · exact .inr (.inl h1)
        · exact .inr (.inr h1)
      · rintro (h1 | h1 | h1)
        · exact .inl (.inl h1)
        · exact .inl (.inr h1)
        · exact .inr h1
  rw [ordD, this]; simp
theorem insD_perm (l : List DD) (d : DD) : (insD l d).Perm (d :: l) := by
  unfold insD
  have h := List.perm_middle (a := d) (l₁ := l.take (posD l d)) (l₂ := l.drop (posD l d))
  rwa [List.take_append_drop] at h
theorem ordD_perm (ds : List DD) : (ordD ds).Perm ds := by
  have : ∀ (ds l : List DD), (ds.foldl insD l).Perm (l ++ ds) := by
    intro ds
    induction ds with
    | nil => intro l; simp
    | cons d ds ih =>
      intro l
      rw [List.foldl_cons]
      refine (ih _).trans ?_
      refine ((insD_perm l d).append_right ds).trans ?_
      exact (List.perm_middle (a := d) (l₁ := l) (l₂ := ds)).symm
  exact this ds []
/-! in memory -/
theorem RatAt.butL {C q p : Addr} {H H' : Hp} {a b : Int} {xs : List V} (h : RatAt C H q a b) (hl : H p = some (.lst xs)) (k : But p H H') : RatAt C H' q a b := let ⟨dx, e⟩ := h; ⟨dx, k _ _ (fun z => by rw [z, hl] at e; cases e) e⟩
theorem eqL {a b a' b' L S S' : Int} (l : L ≠ 0) (nb : b * b' ≠ 0) (e1 : a * L = S * b) (e1' : a' * L = S' * b') : a * b' = a' * b ↔ S = S' := by
  constructor
  · intro h
    refine Int.eq_of_mul_eq_mul_right nb ?_
    have : a * b' * L = a' * b * L := by rw [h]
    grind
  · intro h
    refine Int.eq_of_mul_eq_mul_right l ?_
    subst h
    grind
theorem ltL {a b a' b' L S S' : Int} (l : 0 < L) (b0 : 0 < b) (b0' : 0 < b') (e1 : a * L = S * b) (e1' : a' * L = S' * b') : a * b' < a' * b ↔ S < S' := by
  have nb : 0 < b * b' := Int.mul_pos b0 b0'
  have h : (a' * b - a * b') * L = (S' - S) * (b * b') := by grind
  constructor
  · intro q
    have h2 : 0 < (S' - S) * (b * b') := by rw [← h]; exact Int.mul_pos (by omega) l
    have := Int.pos_of_mul_pos_left h2 nb
    omega
  · intro q
    have h2 : 0 < (a' * b - a * b') * L := by rw [h]; exact Int.mul_pos (by omega) nb
    have := Int.pos_of_mul_pos_left h2 l
    omega
theorem mid_key {a b a' b' L M M' W W' : Int} (e1 : a * (W * L) = M * b) (e1' : a' * (W' * L) = M' * b') : (a' * b - a * b') * (W * W' * L) = (M' * W - M * W') * (b * b') := by grind
theorem ltM {a b a' b' L M M' W W' : Int} (l : 0 < L) (w : 0 < W) (w' : 0 < W') (b0 : 0 < b) (b0' : 0 < b') (e1 : a * (W * L) = M * b) (e1' : a' * (W' * L) = M' * b') : (a * b' < a' * b ↔ M * W' < M' * W) ∧ (a * b' = a' * b ↔ M * W' = M' * W) := by
  have nb : 0 < b * b' := Int.mul_pos b0 b0'
  have nl : 0 < W * W' * L := Int.mul_pos (Int.mul_pos w w') l
  have h := mid_key e1 e1'
  refine ⟨⟨fun q => ?_, fun q => ?_⟩, fun q => ?_, fun q => ?_⟩
  · have h2 : 0 < (M' * W - M * W') * (b * b') := by rw [← h]; exact Int.mul_pos (by omega) nl
    have := Int.pos_of_mul_pos_left h2 nb
    omega
  · have h2 : 0 < (a' * b - a * b') * (W * W' * L) := by rw [h]; exact Int.mul_pos (by omega) nb
    have := Int.pos_of_mul_pos_left h2 nl
    omega
  · have h2 : (M' * W - M * W') * (b * b') = 0 := by rw [← h, show a' * b - a * b' = 0 by omega, Int.zero_mul]
    rcases Int.mul_eq_zero.mp h2 with z | z <;> omega
  · have h2 : (a' * b - a * b') * (W * W' * L) = 0 := by rw [h, show M' * W - M * W' = 0 by omega, Int.zero_mul]
    rcases Int.mul_eq_zero.mp h2 with z | z <;> omega
theorem vol_pos {c d L W : Int} (c0 : 0 < c) (l : 0 < L) (d0 : 0 < d) (e : c * L = W * d) : 0 < W := by
  have h : 0 < W * d := by rw [← e]; exact Int.mul_pos c0 l
  exact Int.pos_of_mul_pos_left h d0
theorem RatAt.uniq {C p : Addr} {H : Hp} {a b a' b' : Int} (h : RatAt C H p a b) (h' : RatAt C H p a' b') : a = a' ∧ b = b' := by
  obtain ⟨dx, e⟩ := h
  obtain ⟨dy, e'⟩ := h'
  rw [e] at e'
  injection e' with e'
  injection e' with _ _ e'
  unfold rfs at e'
  injection e' with e1 e2
  injection e2 with e2 _
  injection e1 with _ e1
  injection e2 with _ e2
  injection e1 with e1
  injection e2 with e2
  exact ⟨e1, e2⟩
theorem eqc_rat {C p q : Addr} {H : Hp} {a b c d : Int} {R : Bool → Hp → Prop} (hp : RatAt C H p a b) (hq : RatAt C H q c d) (ba : Bd a) (bb : Bd b) (bc : Bd c) (bd : Bd d) (k : ∀ H', Same H H' → R (decide (a * d = c * b)) H') : eqc (spEqn C false) p q H R := by
  refine ⟨fun e => ?_, fun _ => ⟨p, .ref q, a, b, decide (a * d = c * b), rfl, hp, .inl ⟨c, d, .inr ⟨q, rfl, hq⟩, ba, bb, bc, bd, by simp⟩, fun H' s => ⟨_, rfl, ?_⟩⟩⟩
  · subst e
    obtain ⟨rfl, rfl⟩ := hp.uniq hq
    have := k H (Same.refl _)
    rwa [decide_eq_true rfl] at this
  · have e : (decide (a * d = c * b) != false) = decide (a * d = c * b) := by cases decide (a * d = c * b) <;> rfl
    rw [e]
    exact k H' s
theorem RatAt.ins {C p : Addr} {H : Hp} {a b : Int} (h : RatAt C H p a b) : ∃ dx fs, H p = some (.ins C dx fs) := let ⟨dx, e⟩ := h; ⟨dx, _, e⟩

/-! ### pools that run together, by moment and volume -/
def tchD (t f : DD) : Bool := decide (2 * (f.1 * t.2 - t.1 * f.2) ≤ t.2 * f.2 * (t.2 + f.2))
def addD (t f : DD) : DD := (t.1 + f.1, t.2 + f.2)
/-- one more pool falls; the last one stands first in the list -/
def pushD : List DD → DD → List DD
  | [], f => [f]
  | t :: st, f => if tchD t f = true then pushD st (addD t f) else f :: t :: st
def stkD (ds : List DD) : List DD := ds.foldl pushD []
def polD (ds : List DD) : List DD := (stkD ds).reverse
def leM (t f : DD) : Prop := t.1 * f.2 ≤ f.1 * t.2
theorem leM.trans {x y z : DD} (h : leM x y) (h' : leM y z) (px : 0 < x.2) (py : 0 < y.2) (pz : 0 < z.2) : leM x z := (frac_le px py pz h h').1
theorem leM.add_l {t f : DD} (h : leM t f) : leM t (addD t f) := by
  unfold leM addD at *
  have e1 : t.1 * (t.2 + f.2) = t.1 * t.2 + t.1 * f.2 := Int.mul_add _ _ _
  have e2 : (t.1 + f.1) * t.2 = t.1 * t.2 + f.1 * t.2 := Int.add_mul _ _ _
  show t.1 * (t.2 + f.2) ≤ (t.1 + f.1) * t.2
  omega
theorem leM.add_r {t f x : DD} (h : leM t x) (h' : leM f x) : leM (addD t f) x := by
  unfold leM addD at *
  have e1 : (t.1 + f.1) * x.2 = t.1 * x.2 + f.1 * x.2 := Int.add_mul _ _ _
  have e2 : x.1 * (t.2 + f.2) = x.1 * t.2 + x.1 * f.2 := Int.mul_add _ _ _
  show (t.1 + f.1) * x.2 ≤ x.1 * (t.2 + f.2)
  omega
/-- they stand apart, from the last one to the first -/
def Apt : List DD → Prop
  | [] => True
  | [f] => 0 < f.2
  | f :: t :: st => 0 < f.2 ∧ leM t f ∧ tchD t f = false ∧ Apt (t :: st)
theorem Apt.pos : ∀ {st : List DD} {f : DD}, Apt (f :: st) → 0 < f.2
  | [], _, h => h
  | _ :: _, _, h => h.1
theorem Apt.tl : ∀ {st : List DD} {f : DD}, Apt (f :: st) → Apt st
  | [], _, _ => trivial
  | _ :: _, _, h => h.2.2.2
theorem Apt.le : ∀ {st : List DD} {f t : DD}, Apt (f :: t :: st) → leM t f := fun h => h.2.1
/-- the last one lies not behind f -/
def TopLe (st : List DD) (f : DD) : Prop := ∀ t, st.head? = some t → leM t f
theorem TopLe.add {t f : DD} {st : List DD} (h : Apt (t :: st)) (hf : 0 < f.2) (l : leM t f) : TopLe st (addD t f) := fun t' e => by
  cases st with
  | nil => cases e
  | cons u st =>
    cases e
    have p := h.tl.pos
    have q : 0 < (addD t f).2 := Int.add_pos h.pos hf
    exact (h.le).trans l.add_l p h.pos q
/-- the state of the while loop: what stands, what falls, the drop that fell -/
structure Fal (st : List DD) (f x : DD) : Prop where
  apt : Apt st
  pos : 0 < f.2
  top : TopLe st f
  le : leM f x
  px : 0 < x.2
theorem Fal.tpos {t f x : DD} {st : List DD} (h : Fal (t :: st) f x) : 0 < t.2 := h.apt.pos
theorem Fal.merge {t f x : DD} {st : List DD} (h : Fal (t :: st) f x) : Fal st (addD t f) x :=
  ⟨h.apt.tl, Int.add_pos h.tpos h.pos, TopLe.add h.apt h.pos (h.top t rfl), ((h.top t rfl).trans h.le h.tpos h.pos h.px).add_r h.le, h.px⟩
theorem Fal.rest {f x : DD} {st : List DD} (h : Fal st f x) (no : ∀ t, st.head? = some t → tchD t f = false) : Apt (f :: st) ∧ TopLe (f :: st) x := by
  refine ⟨?_, fun t e => by cases e; exact h.le⟩
  cases st with
  | nil => exact h.pos
  | cons t st => exact ⟨h.pos, h.top t rfl, no t rfl, h.apt⟩
theorem Fal.push {x : DD} : ∀ {st : List DD} {f : DD}, Fal st f x → Apt (pushD st f) ∧ TopLe (pushD st f) x
  | [], f, h => h.rest fun t e => by cases e
  | t :: st, f, h => by
    unfold pushD
    by_cases c : tchD t f = true
    · rw [if_pos c]
      exact Fal.push h.merge
    · rw [if_neg c]
      exact h.rest fun u e => by cases e; exact Bool.eq_false_iff.mpr c
/-- the size of what stands -/
def sz1 (l : List DD) : Nat := (l.map fun x => x.1.natAbs).sum
def sz2 (l : List DD) : Nat := (l.map fun x => x.2.natAbs).sum
theorem sz1_cons (x : DD) (l : List DD) : sz1 (x :: l) = x.1.natAbs + sz1 l := by unfold sz1; rw [List.map_cons, List.sum_cons]
theorem sz2_cons (x : DD) (l : List DD) : sz2 (x :: l) = x.2.natAbs + sz2 l := by unfold sz2; rw [List.map_cons, List.sum_cons]
theorem sz1_push : ∀ (st : List DD) (f : DD), sz1 (pushD st f) ≤ sz1 (f :: st)
  | [], f => Nat.le_refl _
  | t :: st, f => by
    unfold pushD
    by_cases c : tchD t f = true
    · rw [if_pos c]
      refine Nat.le_trans (sz1_push st (addD t f)) ?_
      rw [sz1_cons, sz1_cons, sz1_cons]
      show (t.1 + f.1).natAbs + sz1 st ≤ _
      omega
    · rw [if_neg c]; exact Nat.le_refl _
theorem sz2_push : ∀ (st : List DD) (f : DD), sz2 (pushD st f) ≤ sz2 (f :: st)
  | [], f => Nat.le_refl _
  | t :: st, f => by
    unfold pushD
    by_cases c : tchD t f = true
    · rw [if_pos c]
      refine Nat.le_trans (sz2_push st (addD t f)) ?_
      rw [sz2_cons, sz2_cons, sz2_cons]
      show (t.2 + f.2).natAbs + sz2 st ≤ _
      omega
    · rw [if_neg c]; exact Nat.le_refl _
theorem push_len : ∀ (st : List DD) (f : DD), (pushD st f).length ≤ st.length + 1
  | [], f => Nat.le_refl _
  | t :: st, f => by
    unfold pushD
    by_cases c : tchD t f = true
    · rw [if_pos c]
      have := push_len st (addD t f)
      rw [List.length_cons]
      omega
    · rw [if_neg c]; simp
theorem stkD_snoc (ds : List DD) (d : DD) : stkD (ds ++ [d]) = pushD (stkD ds) d := by unfold stkD; rw [List.foldl_append]; rfl
theorem sz1_app (l m : List DD) : sz1 (l ++ m) = sz1 l + sz1 m := by unfold sz1; rw [List.map_append, List.sum_append]
theorem sz2_app (l m : List DD) : sz2 (l ++ m) = sz2 l + sz2 m := by unfold sz2; rw [List.map_append, List.sum_append]
theorem stk_sz (ds : List DD) : sz1 (stkD ds) ≤ sz1 ds ∧ sz2 (stkD ds) ≤ sz2 ds ∧ (stkD ds).length ≤ ds.length := by
  have key : ∀ (ds st : List DD), sz1 (ds.foldl pushD st) ≤ sz1 st + sz1 ds ∧ sz2 (ds.foldl pushD st) ≤ sz2 st + sz2 ds ∧ (ds.foldl pushD st).length ≤ st.length + ds.length := by
    intro ds
    induction ds with
    | nil => intro st; exact ⟨Nat.le_add_right _ _, Nat.le_add_right _ _, Nat.le_add_right _ _⟩
    | cons d ds ih =>
      intro st
      rw [List.foldl_cons]
      obtain ⟨h1, h2, h3⟩ := ih (pushD st d)
      have a1 := sz1_push st d
      have a2 := sz2_push st d
      have a3 := push_len st d
      rw [sz1_cons] at *
      rw [sz2_cons] at *
      rw [List.length_cons]
      omega
  have := key ds []
  rw [show sz1 ([] : List DD) = 0 from rfl, show sz2 ([] : List DD) = 0 from rfl, show ([] : List DD).length = 0 from rfl, Nat.zero_add, Nat.zero_add, Nat.zero_add] at this
  exact this
/-- of sorted drops with volumes: what stands is apart, and not behind the drops to come -/
theorem stk_apt {ds : List DD} (hs : SrtD ds) (hp : ∀ (i : Nat) (x : DD), ds[i]? = some x → 0 < x.2) : ∀ k, k ≤ ds.length → Apt (stkD (ds.take k)) ∧ ∀ x, ds[k]? = some x → TopLe (stkD (ds.take k)) x
  | 0, _ => ⟨trivial, fun x _ t e => by cases e⟩
  | k + 1, hk => by
    obtain ⟨h1, h2⟩ := stk_apt hs hp k (by omega)
    have e1 : ds[k]? = some ds[k] := List.getElem?_eq_getElem (by omega)
    have F : Fal (stkD (ds.take k)) ds[k] ds[k] := ⟨h1, hp k _ e1, h2 _ e1, Int.le_refl _, hp k _ e1⟩
    obtain ⟨g1, g2⟩ := F.push
    have e : stkD (ds.take (k + 1)) = pushD (stkD (ds.take k)) ds[k] := by rw [← stkD_snoc, List.take_succ_eq_append_getElem (by omega)]
    rw [e]
    refine ⟨g1, fun x ex t et => ?_⟩
    have pt : 0 < t.2 := by
      cases q : pushD (stkD (ds.take k)) ds[k] with
      | nil => rw [q] at et; cases et
      | cons u r => rw [q] at et g1; cases et; exact g1.pos
    have l := leD_iff.mp (hs k (k + 1) _ _ (by omega) e1 ex)
    rw [wd_eq (hp _ _ e1), wd_eq (hp _ _ ex)] at l
    exact (g2 t et).trans (show ds[k].1 * x.2 ≤ x.1 * ds[k].2 by omega) pt (hp _ _ e1) (hp _ _ ex)
/-- neighbours among what stands -/
theorem Apt.at_ : ∀ {l : List DD} {i : Nat} {f t : DD}, Apt l → l[i]? = some f → l[i + 1]? = some t → leM t f ∧ tchD t f = false ∧ 0 < f.2 ∧ 0 < t.2
  | f :: t :: st, 0, _, _, h, e1, e2 => by cases e1; cases e2; exact ⟨h.2.1, h.2.2.1, h.1, h.tl.pos⟩
  | f :: t :: st, i + 1, _, _, h, e1, e2 => Apt.at_ h.tl (by simpa using e1) (by simpa using e2)
  | [f], 0, _, _, _, _, e2 => by simp at e2
  | [f], i + 1, _, _, _, e1, _ => by simp at e1
/-! in memory -/
/-- a pool with this moment and this volume, in parts -/
def MwAt (CP C : Addr) (H : Hp) (L : Int) (q : Addr) (x : DD) : Prop := ∃ a b c d, PoolAt CP C H q a b c d ∧ 0 < b ∧ 0 < c ∧ 0 < d ∧ Nat.gcd a.natAbs b.natAbs = 1 ∧ Nat.gcd c.natAbs d.natAbs = 1 ∧ a * (x.2 * L) = x.1 * b ∧ c * L = x.2 * d
theorem MwAt.same {CP C : Addr} {H H' : Hp} {L : Int} {q : Addr} {x : DD} (h : MwAt CP C H L q x) (s : Same H H') : MwAt CP C H' L q x := let ⟨a, b, c, d, h1, r⟩ := h; ⟨a, b, c, d, h1.same s, r⟩
def Szd (n : Nat) (L : Int) (x : DD) : Prop := x.1.natAbs < 2 ^ n ∧ x.2.natAbs * L.natAbs < 2 ^ n
theorem MwAt.terms {CP C : Addr} {H : Hp} {L : Int} {q : Addr} {x : DD} {n : Nat} (h : MwAt CP C H L q x) (l : 0 < L) (z : Szd n L x) : 0 < x.2 ∧ ∃ a b c d, PoolAt CP C H q a b c d ∧ Pz n a b c d ∧ a * (x.2 * L) = x.1 * b ∧ c * L = x.2 * d := by
  obtain ⟨a, b, c, d, hp, b0, c0, d0, g1, g2, e1, e2⟩ := h
  have w := vol_pos c0 l d0 e2
  have wl : 0 < x.2 * L := Int.mul_pos w l
  obtain ⟨h1, h2⟩ := low_le g1 wl b0 e1
  obtain ⟨h3, h4⟩ := low_le g2 l d0 e2
  have nm : (x.2 * L).natAbs = x.2.natAbs * L.natAbs := Int.natAbs_mul _ _
  have z2 := z.2
  have z1 := z.1
  have zx : x.2.natAbs ≤ x.2.natAbs * L.natAbs := Nat.le_mul_of_pos_right _ (by omega)
  have zl : L.natAbs ≤ x.2.natAbs * L.natAbs := Nat.le_mul_of_pos_left _ (by omega)
  exact ⟨w, a, b, c, d, hp, ⟨b0, c0, d0, g1, g2, by show a.natAbs < _; omega, by show b.natAbs < _; omega, by show c.natAbs < _; omega, by show d.natAbs < _; omega⟩, e1, e2⟩
theorem two_key {a b c d a' b' c' d' L M W M' W' : Int} (e1 : a * (W' * L) = M' * b) (e2 : c * L = W' * d) (e1' : a' * (W * L) = M * b') (e2' : c' * L = W * d') :
    (2 * (a * b' - a' * b) * (d * d') - (c * d' + c' * d) * (b * b')) * (W * W' * L) = (b * b' * (d * d')) * (2 * (M' * W - M * W') - W * W' * (W + W')) := by
  have h := mid_key (a := a') (b := b') (a' := a) (b' := b) (M := M) (M' := M') (W := W) (W' := W') (L := L) e1' e1
  have h2 : (c * d' + c' * d) * L = (W + W') * (d * d') := by grind
  have : (2 * (a * b' - a' * b) * (d * d') - (c * d' + c' * d) * (b * b')) * (W * W' * L) = 2 * ((a * b' - a' * b) * (W * W' * L)) * (d * d') - ((c * d' + c' * d) * L) * (W * W') * (b * b') := by grind
  rw [this, h, h2]
  grind
theorem touch_iff {a b c d a' b' c' d' L : Int} {t f : DD} (l : 0 < L) (w : 0 < t.2) (w' : 0 < f.2) (b0 : 0 < b) (d0 : 0 < d) (b0' : 0 < b') (d0' : 0 < d') (le : leM t f) (e1 : a * (f.2 * L) = f.1 * b) (e2 : c * L = f.2 * d) (e1' : a' * (t.2 * L) = t.1 * b') (e2' : c' * L = t.2 * d') :
    two a b c d a' b' c' d' ≤ 0 ↔ tchD t f = true := by
  have k := two_key e1 e2 e1' e2'
  have nb : 0 < b' * b := Int.mul_pos b0' b0
  have nl : 0 < t.2 * f.2 * L := Int.mul_pos (Int.mul_pos w w') l
  have nn : 0 < b * b' * (d * d') := Int.mul_pos (Int.mul_pos b0 b0') (Int.mul_pos d0 d0')
  have pos : 0 ≤ a * b' - a' * b := by
    rcases Int.lt_or_le (a * b' - a' * b) 0 with z | z
    · exfalso
      have q := (ltM l w' w b0 b0' e1 e1').1.mp (by omega)
      unfold leM at le
      omega
    · exact z
  have ab : 2 * (((a * b' - a' * b).natAbs : Nat) : Int) * (d * d') = 2 * (a * b' - a' * b) * (d * d') := by rw [Int.natAbs_of_nonneg pos]
  unfold two tchD
  rw [decide_eq_true_iff, ab]
  rw [Int.mul_comm] at k
  constructor
  · intro h
    rcases Int.lt_or_le 0 (2 * (f.1 * t.2 - t.1 * f.2) - t.2 * f.2 * (t.2 + f.2)) with z | z
    · have p1 := Int.mul_pos nn z
      rw [← k] at p1
      have p2 := Int.pos_of_mul_pos_left (by rw [Int.mul_comm]; exact p1) nl
      omega
    · omega
  · intro h
    rcases Int.lt_or_le 0 (2 * (a * b' - a' * b) * (d * d') - (c * d' + c' * d) * (b * b')) with z | z
    · have p1 := Int.mul_pos nl z
      rw [k] at p1
      have p2 := Int.pos_of_mul_pos_left (by rw [Int.mul_comm]; exact p1) nn
      omega
    · exact z
theorem qd_key {a b c d a' b' c' d' L M W M' W' : Int} (e1 : a * (W' * L) = M' * b) (e2 : c * L = W' * d) (e1' : a' * (W * L) = M * b') (e2' : c' * L = W * d') :
    ((2 * a * d - c * b) * (2 * b' * d') - (2 * a' * d' + c' * b') * (2 * b * d)) * (W * W' * L) = (2 * (b * b' * (d * d'))) * (2 * (M' * W - M * W') - W * W' * (W + W')) := by
  have h := two_key e1 e2 e1' e2'
  have : ((2 * a * d - c * b) * (2 * b' * d') - (2 * a' * d' + c' * b') * (2 * b * d)) = 2 * (2 * (a * b' - a' * b) * (d * d') - (c * d' + c' * d) * (b * b')) := by grind
  rw [this, Int.mul_assoc, h]
  grind
/-- the same, as a water asks it -/
theorem qtch_iff {y z : Qd} {L : Int} {t f : DD} (l : 0 < L) (w : 0 < t.2) (w' : 0 < f.2) (b0 : 0 < z.b) (d0 : 0 < z.d) (b0' : 0 < y.b) (d0' : 0 < y.d) (e1 : z.a * (f.2 * L) = f.1 * z.b) (e2 : z.c * L = f.2 * z.d) (e1' : y.a * (t.2 * L) = t.1 * y.b) (e2' : y.c * L = t.2 * y.d) :
    y.tch z ↔ tchD t f = true := by
  have k := qd_key e1 e2 e1' e2'
  have nl : 0 < t.2 * f.2 * L := Int.mul_pos (Int.mul_pos w w') l
  have nn : 0 < 2 * (z.b * y.b * (z.d * y.d)) := Int.mul_pos (by decide) (Int.mul_pos (Int.mul_pos b0 b0') (Int.mul_pos d0 d0'))
  unfold Qd.tch tchD
  rw [decide_eq_true_iff]
  rw [Int.mul_comm] at k
  constructor
  · intro h
    rcases Int.lt_or_le 0 (2 * (f.1 * t.2 - t.1 * f.2) - t.2 * f.2 * (t.2 + f.2)) with q | q
    · have p1 := Int.mul_pos nn q
      rw [← k] at p1
      have p2 := Int.pos_of_mul_pos_left (by rw [Int.mul_comm]; exact p1) nl
      omega
    · omega
  · intro h
    rcases Int.lt_or_le 0 ((2 * z.a * z.d - z.c * z.b) * (2 * y.b * y.d) - (2 * y.a * y.d + y.c * y.b) * (2 * z.b * z.d)) with q | q
    · have p1 := Int.mul_pos nl q
      rw [k] at p1
      have p2 := Int.pos_of_mul_pos_left (by rw [Int.mul_comm]; exact p1) nn
      omega
    · omega
theorem add_mid {a b c d a' b' c' d' N D L M W M' W' : Int} (l : L ≠ 0) (u : b * b' * (c * d' + c' * d) ≠ 0) (e1 : a * (W' * L) = M' * b) (e2 : c * L = W' * d) (e1' : a' * (W * L) = M * b') (e2' : c' * L = W * d')
    (e : N * (b * b' * (c * d' + c' * d)) = (c * a * (d' * b') + c' * a' * (d * b)) * D) : N * ((W + W') * L) = (M + M') * D := by
  have h1 : (c * a * (d' * b') + c' * a' * (d * b)) * L * L = (M + M') * (b * b' * (d * d')) := by grind
  have h2 : (c * d' + c' * d) * L = (W + W') * (d * d') := by grind
  refine Int.eq_of_mul_eq_mul_right u (Int.eq_of_mul_eq_mul_right l ?_)
  have h3 : N * ((W + W') * L) * (b * b' * (c * d' + c' * d)) * L = (N * (b * b' * (c * d' + c' * d))) * (W + W') * L * L := by grind
  have h4 : (M + M') * D * (b * b' * (c * d' + c' * d)) * L = (M + M') * D * (b * b') * ((c * d' + c' * d) * L) := by grind
  rw [h3, e, h4, h2]
  have h5 : (c * a * (d' * b') + c' * a' * (d * b)) * D * (W + W') * L * L = ((c * a * (d' * b') + c' * a' * (d * b)) * L * L) * (D * (W + W')) := by grind
  rw [h5, h1]
  grind
theorem add_vol {c d c' d' N D L W W' : Int} (l : L ≠ 0) (u : d * d' ≠ 0) (e2 : c * L = W' * d) (e2' : c' * L = W * d') (e : N * (d * d') = (c * d' + c' * d) * D) : N * L = (W + W') * D := by
  have h2 : (c * d' + c' * d) * L = (W + W') * (d * d') := by grind
  refine Int.eq_of_mul_eq_mul_right u ?_
  have h3 : N * L * (d * d') = (N * (d * d')) * L := by grind
  rw [h3, e]
  have h4 : (c * d' + c' * d) * D * L = ((c * d' + c' * d) * L) * D := by grind
  rw [h4, h2]
  grind
section
variable {X : Cx} {tg l : Expr} {wi wj : TI}
theorem pi_or (h : PI X tg l wi) (h' : PI X tg l wj) : PI X tg l (fun σ H R => wi σ H R ∨ wj σ H R) := ⟨fun pins s σ H R I q => q.elim (h.run pins s σ H R I) (h'.run pins s σ H R I)⟩
end
theorem sz1_mem {l : List DD} {x : DD} (h : x ∈ l) : x.1.natAbs ≤ sz1 l := by
  induction l with
  | nil => cases h
  | cons y l ih =>
    rw [sz1_cons]
    rcases List.mem_cons.mp h with e | e
    · rw [e]; omega
    · have := ih e; omega
theorem sz2_mem {l : List DD} {x : DD} (h : x ∈ l) : x.2.natAbs ≤ sz2 l := by
  induction l with
  | nil => cases h
  | cons y l ih =>
    rw [sz2_cons]
    rcases List.mem_cons.mp h with e | e
    · rw [e]; omega
    · have := ih e; omega
theorem sz_ord (ds : List DD) : sz1 (ordD ds) = sz1 ds ∧ sz2 (ordD ds) = sz2 ds := by
  have ins : ∀ (l : List DD) (d : DD), sz1 (insD l d) = sz1 l + d.1.natAbs ∧ sz2 (insD l d) = sz2 l + d.2.natAbs := fun l d => by
    have h := List.take_append_drop (posD l d) l
    have h1 : sz1 l = sz1 (l.take (posD l d)) + sz1 (l.drop (posD l d)) := by rw [← sz1_app, h]
    have h2 : sz2 l = sz2 (l.take (posD l d)) + sz2 (l.drop (posD l d)) := by rw [← sz2_app, h]
    unfold insD
    rw [sz1_app, sz2_app, sz1_cons, sz2_cons]
    omega
  have key : ∀ (ds l : List DD), sz1 (ds.foldl insD l) = sz1 l + sz1 ds ∧ sz2 (ds.foldl insD l) = sz2 l + sz2 ds := by
    intro ds
    induction ds with
    | nil => intro l; exact ⟨rfl, rfl⟩
    | cons d ds ih =>
      intro l
      rw [List.foldl_cons]
      obtain ⟨h1, h2⟩ := ih (insD l d)
      obtain ⟨h3, h4⟩ := ins l d
      rw [sz1_cons, sz2_cons]
      omega
  have := key ds []
  rw [show sz1 ([] : List DD) = 0 from rfl, show sz2 ([] : List DD) = 0 from rfl, Nat.zero_add, Nat.zero_add] at this
  exact this
def MwsAt (CP C : Addr) (H : Hp) (L : Int) (qs : List Addr) (ds : List DD) : Prop := ds.length = qs.length ∧ ∀ (i : Nat) (q : Addr) (x : DD), qs[i]? = some q → ds[i]? = some x → MwAt CP C H L q x
theorem MwsAt.same {CP C : Addr} {H H' : Hp} {L : Int} {qs : List Addr} {ds : List DD} (h : MwsAt CP C H L qs ds) (s : Same H H') : MwsAt CP C H' L qs ds := ⟨h.1, fun i q x e1 e2 => (h.2 i q x e1 e2).same s⟩
/-- all of them together below 2 ^ n parts -/
def Szs (n : Nat) (L : Int) (ds : List DD) : Prop := sz1 ds < 2 ^ n ∧ sz2 ds * L.natAbs < 2 ^ n
theorem Szs.at_ {n : Nat} {L : Int} {ds : List DD} {x : DD} (h : Szs n L ds) (m : x ∈ ds) : Szd n L x := ⟨Nat.lt_of_le_of_lt (sz1_mem m) h.1, Nat.lt_of_le_of_lt (Nat.mul_le_mul_right _ (sz2_mem m)) h.2⟩
theorem pfs_nm {m v : Addr × Addr} {n : Str} (h1 : (n == ("_middle" : Str)) = false) (h2 : (n == ("_volume" : Str)) = false) (h3 : (n == ("_left" : Str)) = false) (h4 : (n == ("_right" : Str)) = false) : (pfs m v).lookup n = none := by simp [pfs, List.lookup, h1, h2, h3, h4]
theorem seq_or {K : PySem.W.Frag} {i : Nat} {σ : L2.St} {H : Hp} {a : Addr} {xs : List V} {R : It → Hp → Prop} (e : σ[i]? = some (some (.ref a))) (h : SqL K H a xs ∨ SqT K H a xs)
    (k : ∀ (J : It) (G : Hp → Prop), Walk J xs.length G (YAt xs) → (∀ H', Same H H' → G H') → R J H) : iList K (tVar i) σ H R ∨ iTup K (tVar i) σ H R := by
  rcases h with h | h
  · exact .inl ⟨_, e, a, rfl, ⟨_, h⟩, k _ _ walk_list fun H' s => s.seq h⟩
  · exact .inr ⟨_, e, a, rfl, ⟨_, h⟩, k _ _ walk_tup fun H' s => Same.seqT s h⟩
theorem PoolAt.butL' {CP C q p : Addr} {H H' : Hp} {a b c d : Int} {xs : List V} (h : PoolAt CP C H q a b c d) (hl : H p = some (.lst xs)) (k : But p H H') : PoolAt CP C H' q a b c d := by
  obtain ⟨dx, m, v, e, ⟨r1, N, D, r2, w2⟩, ⟨r3, N', D', r4, w4⟩⟩ := h
  exact ⟨dx, m, v, k _ _ (fun z => by rw [z, hl] at e; cases e) e, ⟨r1.butL hl k, N, D, r2.butL hl k, w2⟩, ⟨r3.butL hl k, N', D', r4.butL hl k, w4⟩⟩
theorem MwAt.butL {CP C p : Addr} {H H' : Hp} {L : Int} {q : Addr} {x : DD} {xs : List V} (h : MwAt CP C H L q x) (hl : H p = some (.lst xs)) (k : But p H H') : MwAt CP C H' L q x := by
  obtain ⟨a, b, c, d, hp, r⟩ := h
  exact ⟨a, b, c, d, hp.butL' hl k, r⟩
theorem MwsAt.butL {CP C p : Addr} {H H' : Hp} {L : Int} {qs : List Addr} {ds : List DD} {xs : List V} (h : MwsAt CP C H L qs ds) (hl : H p = some (.lst xs)) (k : But p H H') : MwsAt CP C H' L qs ds := ⟨h.1, fun i q x e1 e2 => (h.2 i q x e1 e2).butL hl k⟩
theorem MwsAt.cons {CP C : Addr} {H : Hp} {L : Int} {q : Addr} {x : DD} {qs : List Addr} {ds : List DD} : MwsAt CP C H L (q :: qs) (x :: ds) ↔ MwAt CP C H L q x ∧ MwsAt CP C H L qs ds := by
  constructor
  · exact fun h => ⟨h.2 0 q x rfl rfl, by have := h.1; simpa using this, fun i q' x' e1 e2 => h.2 (i + 1) q' x' (by simpa using e1) (by simpa using e2)⟩
  · rintro ⟨h1, h2, h3⟩
    refine ⟨by rw [List.length_cons, List.length_cons, h2], fun i q' x' e1 e2 => ?_⟩
    cases i with
    | zero => cases e1; cases e2; exact h1
    | succ i => exact h3 i q' x' (by simpa using e1) (by simpa using e2)
theorem MwsAt.rev {CP C : Addr} {H : Hp} {L : Int} {qs : List Addr} {ds : List DD} (h : MwsAt CP C H L qs ds) : MwsAt CP C H L qs.reverse ds.reverse := by
  refine ⟨by rw [List.length_reverse, List.length_reverse, h.1], fun i q x e1 e2 => ?_⟩
  have l1 : i < qs.reverse.length := (List.getElem?_eq_some_iff.mp e1).1
  rw [List.length_reverse] at l1
  rw [List.getElem?_reverse l1] at e1
  rw [List.getElem?_reverse (by rw [h.1]; exact l1), h.1] at e2
  exact h.2 _ q x e1 e2
/-- the pools' terms -/
theorem MwsAt.terms {CP C : Addr} {H : Hp} {L : Int} {n : Nat} (l : 0 < L) : ∀ {qs : List Addr} {ds : List DD}, MwsAt CP C H L qs ds → (∀ x ∈ ds, Szd n L x) → ∃ ps : List Qd, PlsAt CP C H n qs ps ∧
    ∀ (i : Nat) (z : Qd) (x : DD), ps[i]? = some z → ds[i]? = some x → z.a * (x.2 * L) = x.1 * z.b ∧ z.c * L = x.2 * z.d
  | [], [], _, _ => ⟨[], ⟨rfl, fun i q z e => by simp at e⟩, fun i z x e => by simp at e⟩
  | [], _ :: _, h, _ => by have := h.1; simp at this
  | _ :: _, [], h, _ => by have := h.1; simp at this
  | q :: qs, x :: ds, h, hs => by
    obtain ⟨h1, h2⟩ := MwsAt.cons.mp h
    obtain ⟨ps, h3, h4⟩ := MwsAt.terms l h2 fun y hy => hs y (List.mem_cons_of_mem _ hy)
    obtain ⟨_, a, b, c, d, hp, hz, e1, e2⟩ := h1.terms l (hs x List.mem_cons_self)
    refine ⟨⟨a, b, c, d⟩ :: ps, ⟨by rw [List.length_cons, List.length_cons, h3.1], fun i q' z g1 g2 => ?_⟩, fun i z y g1 g2 => ?_⟩
    · cases i with
      | zero => cases g1; cases g2; exact ⟨hp, hz⟩
      | succ i => exact h3.2 i q' z (by simpa using g1) (by simpa using g2)
    · cases i with
      | zero => cases g1; cases g2; exact ⟨e1, e2⟩
      | succ i => exact h4 i z y (by simpa using g1) (by simpa using g2)
theorem Apt.rev {st : List DD} {j : Nat} {t f : DD} (h : Apt st) (e1 : st.reverse[j]? = some t) (e2 : st.reverse[j + 1]? = some f) : leM t f ∧ tchD t f = false ∧ 0 < f.2 ∧ 0 < t.2 := by
  have l2 : j + 1 < st.reverse.length := (List.getElem?_eq_some_iff.mp e2).1
  rw [List.length_reverse] at l2
  rw [List.getElem?_reverse (by omega)] at e1
  rw [List.getElem?_reverse l2] at e2
  exact Apt.at_ (i := st.length - 1 - (j + 1)) h e2 (by rw [show st.length - 1 - (j + 1) + 1 = st.length - 1 - j by omega]; exact e1)
/-- apart as they stand, a water takes them -/
theorem apt_first {L : Int} {st : List DD} {ps : List Qd} (l : 0 < L) (h : Apt st) (hp : ps.length = st.length) (hz : ∀ z ∈ ps, 0 < z.b ∧ 0 < z.d) (he : ∀ (i : Nat) (z : Qd) (x : DD), ps[i]? = some z → st.reverse[i]? = some x → z.a * (x.2 * L) = x.1 * z.b ∧ z.c * L = x.2 * z.d) : FirstAt (tchP ps) ps.length none := by
  intro j h1 h2 ⟨y, z, ey, ez, ht⟩
  obtain ⟨k, rfl⟩ : ∃ k, j = k + 1 := ⟨j - 1, by omega⟩
  rw [Nat.add_sub_cancel] at ey
  have lr : st.reverse.length = st.length := List.length_reverse
  have et : st.reverse[k]? = some st.reverse[k] := List.getElem?_eq_getElem (by omega)
  have ef : st.reverse[k + 1]? = some st.reverse[k + 1] := List.getElem?_eq_getElem (by omega)
  obtain ⟨_, no, pf, pt⟩ := h.rev et ef
  obtain ⟨a1, a2⟩ := he _ _ _ ez ef
  obtain ⟨b1, b2⟩ := he _ _ _ ey et
  obtain ⟨zy1, zy2⟩ := hz y (List.mem_of_getElem? ey)
  obtain ⟨zz1, zz2⟩ := hz z (List.mem_of_getElem? ez)
  have := (qtch_iff l pt pf zz1 zz2 zy1 zy2 a1 a2 b1 b2).mp ht
  rw [no] at this
  cases this
theorem Szs.merge {n : Nat} {L : Int} {t f : DD} {st : List DD} (h : Szs n L (f :: t :: st)) : Szs n L (addD t f :: st) := by
  obtain ⟨h1, h2⟩ := h
  rw [sz1_cons, sz1_cons] at h1
  rw [sz2_cons, sz2_cons] at h2
  refine ⟨?_, ?_⟩
  · rw [sz1_cons]
    show (t.1 + f.1).natAbs + sz1 st < _
    omega
  · refine Nat.lt_of_le_of_lt (Nat.mul_le_mul_right _ ?_) h2
    rw [sz2_cons]
    show (t.2 + f.2).natAbs + sz2 st ≤ _
    omega

/-! ### rows of ratios, their scale, their order -/
/-- rows (m, v) of ratios with these terms -/
def RowsQ (C : Addr) (H : Hp) (rs : List Addr) (ps : List Qd) : Prop := ps.length = rs.length ∧ ∀ (i : Nat) (r : Addr) (z : Qd), rs[i]? = some r → ps[i]? = some z → ∃ m v, H r = some (.tup [.ref m, .ref v]) ∧ RatAt C H m z.a z.b ∧ RatAt C H v z.c z.d
theorem RowsQ.same {C : Addr} {H H' : Hp} {rs : List Addr} {ps : List Qd} (h : RowsQ C H rs ps) (s : Same H H') : RowsQ C H' rs ps := ⟨h.1, fun i r z e1 e2 => let ⟨m, v, e, r1, r2⟩ := h.2 i r z e1 e2; ⟨m, v, s _ _ e, r1.same s, r2.same s⟩⟩
/-- one row -/
def RowQ (C : Addr) (H : Hp) (r : Addr) (z : Qd) : Prop := ∃ m v, H r = some (.tup [.ref m, .ref v]) ∧ RatAt C H m z.a z.b ∧ RatAt C H v z.c z.d
theorem RowQ.butL {C p : Addr} {H H' : Hp} {r : Addr} {z : Qd} {xs : List V} (h : RowQ C H r z) (hl : H p = some (.lst xs)) (k : But p H H') : RowQ C H' r z := let ⟨m, v, e, r1, r2⟩ := h; ⟨m, v, k _ _ (fun z => by rw [z, hl] at e; cases e) e, r1.butL hl k, r2.butL hl k⟩
theorem RowsQ.butL {C p : Addr} {H H' : Hp} {rs : List Addr} {ps : List Qd} {xs : List V} (h : RowsQ C H rs ps) (hl : H p = some (.lst xs)) (k : But p H H') : RowsQ C H' rs ps := ⟨h.1, fun i r z e1 e2 => RowQ.butL (h.2 i r z e1 e2) hl k⟩
theorem RowsQ.snoc {C : Addr} {H : Hp} {rs : List Addr} {ps : List Qd} {r : Addr} {z : Qd} (h : RowsQ C H rs ps) (hr : RowQ C H r z) : RowsQ C H (rs ++ [r]) (ps ++ [z]) := by
  refine ⟨by rw [List.length_append, List.length_append, h.1]; rfl, fun i v c e1 e2 => ?_⟩
  rcases Nat.lt_or_ge i rs.length with q | q
  · rw [List.getElem?_append_left q] at e1
    rw [List.getElem?_append_left (by rw [h.1]; exact q)] at e2
    exact h.2 i v c e1 e2
  · rw [List.getElem?_append_right q] at e1
    rw [List.getElem?_append_right (by rw [h.1]; exact q), h.1] at e2
    obtain z : i - rs.length = 0 := by
      have := (List.getElem?_eq_some_iff.mp e1).1
      simp at this
      omega
    rw [z] at e1 e2
    cases e1
    cases e2
    exact hr
/-- the bottoms divide Z -/
def DenZ (Z : Int) (ps : List Qd) : Prop := ∀ z ∈ ps, 0 < z.b ∧ 0 < z.d ∧ z.b ∣ Z ∧ z.d ∣ Z
/-- the terms z are the drop x in parts of 1 / L -/
def QdX (L : Int) (z : Qd) (x : DD) : Prop := z.a * (x.2 * L) = x.1 * z.b ∧ z.c * L = x.2 * z.d ∧ 0 < x.2
def QdsX (n : Nat) (L : Int) (ps : List Qd) (ds : List DD) : Prop := ps.length = ds.length ∧ ∀ (i : Nat) (z : Qd) (x : DD), ps[i]? = some z → ds[i]? = some x → QdX L z x ∧ Bn n z.a ∧ Bn n z.b ∧ Bn n z.c ∧ Bn n z.d
/-- scaled: k parts of 1 / S are the ratio a / b -/
def spSca (C : Addr) : Sp := fun vs H Q _ => ∃ (m : Addr) (a b S : Int), vs = [.ref m, .int S] ∧ RatAt C H m a b ∧ 0 < b ∧ b ∣ S ∧ 0 < S ∧ Bn 8000 a ∧ Bn 8000 S ∧ ∀ k : Int, k * b = a * S → Q (.int k) H
def spScl (K : PySem.W.Frag) (C : Addr) : Sp := fun vs H Q _ => ∃ (l : Addr) (rs : List Addr) (ps : List Qd) (Z : Int), vs = [.ref l] ∧ (SqL K H l (rs.map V.ref) ∨ SqT K H l (rs.map V.ref)) ∧ RowsQ C H rs ps ∧ DenZ Z ps ∧ 0 < Z ∧ Lz Z.natAbs ∧
  ∀ S H', Same H H' → 0 < S → S ∣ Z → DenZ S ps → Q (.int S) H'
section
variable {P : Program} {w : World} {K : PySem.W.Frag} {mg : Str → Option Value} {base : Heap}
theorem ok_sca (T : Txt K mg) : FnOk P w K mg base CX0 1 T.f_scaled T.d_scaled ["ratio", "scale"] (spSca T.C_Ratio) := by
  refine T.F_scaled.ok sc_scaled (fun vs H Q E ⟨_, _, _, _, e, _⟩ => by rw [e]; rfl) (fun cdv A outer s H vs Q E hr h => ?_)
  obtain ⟨m, a, b, S, rfl, ⟨dx, e⟩, b0, dv, S0, za, zs, fin⟩ := h
  refine ⟨_, pss_one (ps_ret (pe_op op_mulW (pe_fld (pv 0) rfl) (pe_op op_fdivX (pv 1) (pe_fld (pv 0) rfl)))), ?_⟩
  have bs : b ≤ S := Int.le_of_dvd S0 dv
  have zb : Bn 8000 b := zs.le (by omega)
  obtain ⟨k, rfl⟩ := dv
  have ed : (b * k).fdiv b = k := Int.mul_fdiv_cancel_left _ (by omega)
  have zk : Bn 8000 k := zs.le (by rw [Int.natAbs_mul]; exact Nat.le_mul_of_pos_left _ (by omega))
  refine ⟨_, rfl, m, _, dx, _, _, rfl, e, T.cl_Ratio, T.n_Ratio_top, rfs_top a b, _, rfl, _, rfl, m, _, dx, _, _, rfl, e, T.cl_Ratio, T.n_Ratio_bottom, rfs_bot a b, _, _, rfl, rfl, ⟨by omega, lenU zb (by decide) (by decide)⟩, _, _, rfl, rfl, ?_, ?_⟩
  · rw [ed]; exact wide_mul za zk (by decide) (by decide) (by decide)
  · show Q (.int (a * (b * k).fdiv b)) H
    rw [ed]
    exact fin (a * k) (by rw [Int.mul_assoc, Int.mul_comm k b])
theorem ok_scl (T : Txt K mg) : FnOk P w K mg base CX0 1 T.f_scale_of T.d_scale_of ["pairs"] (spScl K T.C_Ratio) := by
  have nd := sc_scale_of.nd
  refine T.F_scale_of.ok sc_scale_of (fun vs H Q E ⟨_, _, _, _, e, _⟩ => by rw [e]; rfl) (fun cdv A outer s H vs Q E hr h => ?_)
  obtain ⟨l, rs, ps, Z, rfl, hl, hR, hZ, Z0, Zl, fin⟩ := h
  refine ⟨_, pss_cons (ps_set (i := 1) nd rfl (.inl rfl) pe_int)
    (pss_cons (ps_for PassesOwn.never rfl (pi_or (pi_list (pv 0)) (pi_tup (pv 0))) (pg_tup rfl (pgs_cons (pg_name (i := 2) nd rfl (.inl rfl)) (pgs_cons (pg_name (i := 3) nd rfl (.inl rfl)) pgs_nil)))
      (pss_one (ps_set (i := 1) nd rfl (.inl rfl) (pe_callBfun cr_lcm3 (by rfl) T.g_lcm (pa_cons (pv 1) (pa_cons (pe_fld (pv 2) rfl) (pa_cons (pe_fld (pv 3) rfl) pa_nil)))))))
    (pss_one (ps_ret (pv 1)))), ?_⟩
  refine seq_or rfl hl fun J Gp wk hG => for_it wk (fun i σ' G => Same H G ∧ ∃ (S : Int) (v2 v3 : Option V), σ' = [some (.ref l), some (.int S), v2, v3] ∧ 0 < S ∧ S ∣ Z ∧ DenZ S (ps.take i))
    ⟨Same.refl _, 1, _, _, rfl, by decide, Int.one_dvd _, fun z hz => by simp at hz⟩ (fun i σ' G _ h => hG _ h.1) ?_ ?_
  · rintro i x σ' G G' hi ⟨sG, S, v2, v3, rfl, S0, SZ, hD⟩ ⟨rfl, hx⟩
    obtain ⟨r, er, rfl⟩ := ref_get hx
    have hi2 : i < ps.length := by rw [hR.1]; exact (List.getElem?_eq_some_iff.mp er).1
    have ez : ps[i]? = some ps[i] := List.getElem?_eq_getElem hi2
    have ht : ps.take (i + 1) = ps.take i ++ [ps[i]] := List.take_succ_eq_append_getElem hi2
    generalize ps[i] = z at ez ht
    obtain ⟨m, v, e, ⟨d1, r1⟩, ⟨d2, r2⟩⟩ := (hR.same sG).2 i r z er ez
    obtain ⟨b0, d0, bz, dz⟩ := hZ z (List.mem_of_getElem? ez)
    refine ⟨r, _, rfl, SqT.of e, rfl, _, _, rfl, _, _, rfl, rfl, _, rfl, _, rfl, m, _, d1, _, _, rfl, r1, T.cl_Ratio, T.n_Ratio_bottom, rfs_bot _ _, _, rfl, v, _, d2, _, _, rfl, r2, T.cl_Ratio, T.n_Ratio_bottom, rfs_bot _ _, ?_⟩
    refine ⟨S, z.b, z.d, Z, rfl, S0, b0, d0, SZ, bz, dz, Z0, Zl, fun R R0 RZ rs rb rd => ⟨sG, R, _, _, rfl, R0, RZ, fun y hy => ?_⟩⟩
    rw [ht, List.mem_append, List.mem_singleton] at hy
    rcases hy with hy | rfl
    · obtain ⟨a1, a2, a3, a4⟩ := hD y hy
      exact ⟨a1, a2, Int.dvd_trans a3 rs, Int.dvd_trans a4 rs⟩
    · exact ⟨b0, d0, rb, rd⟩
  · rintro σ' G ⟨sG, S, v2, v3, rfl, S0, SZ, hD⟩
    rw [List.length_map, ← hR.1, List.take_length] at hD
    exact ⟨_, rfl, fin S G sG S0 SZ hD⟩
end
/-! sorted by levels -/
/-- place i ahead of place j -/
def RelI (ls : List Int) (i j : Nat) : Prop := ls.getD i 0 < ls.getD j 0 ∨ (ls.getD i 0 = ls.getD j 0 ∧ i ≤ j)
def rankI (ls : List Int) (N i : Nat) : Int := ls.getD i 0 * (N : Int) + (i : Int)
theorem rank_mod {ls : List Int} {N i : Nat} (h : i < N) : (rankI ls N i).fmod (N : Int) = (i : Int) := by
  unfold rankI
  rw [Int.fmod_eq_emod_of_nonneg _ (by omega), Int.add_comm, Int.add_mul_emod_self_right]
  exact Int.emod_eq_of_lt (by omega) (by omega)
theorem rank_le {ls : List Int} {N i j : Nat} (hi : i < N) (hj : j < N) (h : rankI ls N i ≤ rankI ls N j) : RelI ls i j := by
  unfold rankI at h
  unfold RelI
  generalize ls.getD i 0 = x at *
  generalize ls.getD j 0 = y at *
  rcases Int.lt_trichotomy x y with q | q | q
  · exact .inl q
  · subst q; exact .inr ⟨rfl, by omega⟩
  · exfalso
    have : (y + 1) * (N : Int) ≤ x * (N : Int) := Int.mul_le_mul_of_nonneg_right (by omega) (by omega)
    rw [Int.add_mul, Int.one_mul] at this
    omega
theorem map_range_id {α : Type} {N : Nat} {f : Nat → α} {l : List α} (hl : l.length = N) (h : ∀ i, i < N → l[i]? = some (f i)) : (List.range N).map f = l := by
  refine List.ext_getElem? fun i => ?_
  by_cases q : i < N
  · rw [h i q, List.getElem?_map, List.getElem?_range q]; rfl
  · rw [List.getElem?_eq_none (by rw [List.length_map, List.length_range]; omega), List.getElem?_eq_none (by omega)]
theorem srt_idx {ls : List Int} {N : Nat} {ns : List Int} (hp : ns.Perm ((List.range N).map (rankI ls N))) (hs : ns.Pairwise (· ≤ ·)) :
    (∀ r ∈ ns, ∃ i, i < N ∧ r = rankI ls N i) ∧ (ns.map fun r => (r.fmod (N : Int)).toNat).Perm (List.range N) ∧ (ns.map fun r => (r.fmod (N : Int)).toNat).Pairwise (RelI ls) := by
  have h1 : ∀ r ∈ ns, ∃ i, i < N ∧ r = rankI ls N i := fun r hr => by
    obtain ⟨i, hi, e⟩ := List.mem_map.mp (hp.mem_iff.mp hr)
    exact ⟨i, List.mem_range.mp hi, e.symm⟩
  refine ⟨h1, ?_, ?_⟩
  · have h2 := hp.map fun r => (r.fmod (N : Int)).toNat
    rw [List.map_map] at h2
    have e : (List.range N).map ((fun r => (r.fmod (N : Int)).toNat) ∘ rankI ls N) = List.range N := map_range_id List.length_range fun i hi => by
      rw [List.getElem?_range hi]
      show some i = some ((rankI ls N i).fmod (N : Int)).toNat
      rw [rank_mod hi]; rfl
    rw [e] at h2
    exact h2
  · rw [List.pairwise_map]
    refine hs.imp_of_mem fun {r r'} hr hr' h => ?_
    obtain ⟨i, hi, rfl⟩ := h1 r hr
    obtain ⟨j, hj, rfl⟩ := h1 r' hr'
    rw [rank_mod hi, rank_mod hj, Int.toNat_natCast, Int.toNat_natCast]
    exact rank_le hi hj h
def spSrt (K : PySem.W.Frag) : Sp := fun vs H Q _ => ∃ (lv it : Addr) (ls : List Int) (xs : List V), vs = [.ref lv, .ref it] ∧ SqL K H lv (ls.map V.int) ∧ (SqL K H it xs ∨ SqT K H it xs) ∧ ls.length = xs.length ∧ xs.length ≤ 1000 ∧ (∀ x ∈ ls, Bn 9000 x) ∧
  ∀ p H' (idx : List Nat), Same H H' → H p = none → idx.Perm (List.range xs.length) → idx.Pairwise (RelI ls) → H' p = some (.lst (idx.map fun i => xs.getD i .non)) → Q (.ref p) H'
section
variable {P : Program} {w : World} {K : PySem.W.Frag} {mg : Str → Option Value} {base : Heap}
theorem ok_srt (T : Txt K mg) : FnOk P w K mg base CX0 1 T.f_sorted_by T.d_sorted_by ["levels", "items"] (spSrt K) := by
  have nd := sc_sorted_by.nd
  refine T.F_sorted_by.ok sc_sorted_by (fun vs H Q E ⟨_, _, _, _, e, _⟩ => by rw [e]; rfl) (fun cdv A outer s H vs Q E hr h => ?_)
  obtain ⟨lv, it, ls, xs, rfl, hl, hx, hlen, few, bnd, fin⟩ := h
  refine ⟨_, pss_cons (ps_set (i := 2) nd rfl (.inr rfl) (pe_callB call_len_seq (by rfl) T.b_len PySem.boot_len (pa_cons (pv 1) pa_nil)))
    (pss_cons (ps_set (i := 3) nd rfl (.inl rfl) (pe_callB cr_sortedI (by rfl) T.b_sorted (by decide +kernel) (pa_cons
      (pe_lc (own := [("at", 4), ("level", 5)]) (g := gTup K 2 (gCons (gName 4) (gCons (gName 5) gNil))) (tt := tYes)
        (te := tCB (fun xs H Q => (∃ i, xs = [.int i] ∧ Q (.int i) H) ∨ ∃ k, xs = [.bl k] ∧ Q (.int (if k then 1 else 0)) H) (tCons (tOp (rI0 fun i j => .int (i + j)) (tOp (rI CMulW fun i j => .int (i * j)) (tVar 5) (tVar 2)) (tVar 4)) tNil)) rfl nd (pi_enum (by rfl) T.b_enumerate (pa_cons (pv 0) pa_nil))
        (blkOk_by (own := [("at", 4), ("level", 5)]) (N := ["levels", "items", "many", "ranks", "at", "level", "rank"]) (sc := defScope s_sorted_by) (by decide +kernel)) (fun _ _ _ _ _ => pg_tup rfl (pgs_cons (pg_name (i := 4) nd rfl (.inl rfl)) (pgs_cons (pg_name (i := 5) nd rfl (.inl rfl)) pgs_nil))) (fun _ _ _ _ _ => pts_nil)
        (fun _ _ _ _ _ => pe_callTy call_int1 (by rfl) T.b_int (by decide +kernel) (pa_cons (pe_op op_add (pe_op op_mulW (pv 5) (pv 2)) (pv 4)) pa_nil))) pa_nil)))
    (pss_one (ps_ret (pe_lc (own := [("rank", 6)]) (g := gName 6) (tt := tYes) (te := tOp (fun x y H Q => rIxL K x y H Q ∨ rIxT K x y H Q) (tVar 1) (tOp (rI (fun _ j => j ≠ 0) fun i j => .int (i.fmod j)) (tVar 6) (tVar 2))) rfl nd (pi_list (pv 3))
        (blkOk_by (own := [("rank", 6)]) (N := ["levels", "items", "many", "ranks", "at", "level", "rank"]) (sc := defScope s_sorted_by) (by decide +kernel)) (fun _ _ _ _ _ => pg_name (i := 6) nd rfl (.inl rfl)) (fun _ _ _ _ _ => pts_nil)
        (fun _ _ _ _ _ => pe_ix (ix_list.or ix_tup) (pv 1) (pe_op op_modN (pv 6) (pv 2)) (fun _ _ => rfl)))))), ?_⟩
  refine ⟨_, rfl, it, _, rfl, hx, ?_⟩
  generalize hN : xs.length = N at *
  refine ⟨_, rfl, lv, _, rfl, hl, fun D hD => lc_it (walk_enum (xs := ls.map V.int)) (fun k G => Same H G ∧ G D = some (.lst ((List.range k).map fun i => V.int (rankI ls N i))))
    ⟨same_upd hD, upd_same⟩ (fun k G _ h => h.1.seq hl) ?_ ?_⟩
  · rintro k x G G' hk ⟨sG, eD⟩ ⟨tz, x1, x2, rfl, nz, rfl, e1, e2⟩
    cases e1
    rw [List.length_map] at hk
    replace e2 : (ls.map V.int)[k]? = some x2 := e2
    rw [List.getElem?_map] at e2
    have el : ls[k]? = some (ls.getD k 0) := by rw [List.getD_eq_getElem?_getD, List.getElem?_eq_getElem hk]; rfl
    rw [el] at e2
    cases e2
    have bl := bnd _ (List.mem_of_getElem? el)
    refine ⟨tz, _, rfl, SqT.of upd_same, rfl, _, _, rfl, _, _, rfl, rfl, rfl, ?_⟩
    unfold tYes
    have nD : tz ≠ D := fun z => by rw [z, eD] at nz; cases nz
    refine iteT ⟨_, rfl, _, rfl, _, _, rfl, rfl, wide_mul bl (show Bn 30 (N : Int) from Nat.lt_of_le_of_lt (show ((N : Int)).natAbs ≤ 1000 by omega) (by decide)) (by decide) (by decide) (by decide), _, rfl, _, _, rfl, rfl, .inl ⟨_, rfl, _, (by rw [upd_ne (Ne.symm nD)]; exact eD), by rw [List.length_map, List.length_range]; exact small1000 (by omega), fun b o e => ?_, ?_⟩⟩
    · rw [upd_ne (ne_of_none e hD), upd_ne (ne_of_none (sG _ _ e) nz)]; exact sG _ _ e
    · rw [upd_same, List.range_succ, List.map_append]; rfl
  · rintro G ⟨sG, eD⟩
    rw [List.length_map] at eD
    refine ⟨D, (List.range ls.length).map (rankI ls N), rfl, SqL.of (by rw [eD, List.map_map]; rfl), fun ns p hperm hsort hp => ?_⟩
    rw [hlen] at hperm
    obtain ⟨h1, h2, h3⟩ := srt_idx hperm hsort
    have s1 := sG.trans (same_upd (o := .lst (ns.map V.int)) hp)
    have e1 : (upd G p (.lst (ns.map V.int))) p = some (.lst (ns.map V.int)) := upd_same
    generalize upd G p (.lst (ns.map V.int)) = G1 at *
    have hN2 : ns.length = N := by rw [hperm.length_eq, List.length_map, List.length_range]
    refine ⟨_, rfl, p, rfl, ⟨_, SqL.of e1⟩, fun D2 hD2 => lc_list (K := K) (a := p) (xs := ns.map V.int) (fun k G' => Same G1 G' ∧ G' D2 = some (.lst ((ns.take k).map fun r => xs.getD (r.fmod (N : Int)).toNat .non)))
      ⟨same_upd hD2, upd_same⟩ (fun k G' _ h => SqL.of (h.1 _ _ e1)) ?_ ?_⟩
    · rintro k y G' hy ⟨s', eD2⟩
      rw [List.getElem?_map] at hy
      cases er : ns[k]? with
      | none => rw [er] at hy; cases hy
      | some r =>
        rw [er] at hy
        cases hy
        have hk : k < ns.length := (List.getElem?_eq_some_iff.mp er).1
        obtain ⟨i, hi, rfl⟩ := h1 r (List.mem_of_getElem? er)
        have em : (rankI ls N i).fmod (N : Int) = (i : Int) := rank_mod hi
        have ex : xs[i]? = some (xs.getD i .non) := by rw [List.getD_eq_getElem?_getD, List.getElem?_eq_getElem (by omega)]; rfl
        have sx := s1.trans s'
        refine ⟨rfl, ?_⟩
        unfold tYes
        refine iteT ⟨_, rfl, _, rfl, _, rfl, _, _, rfl, rfl, by omega, ?_⟩
        have fin2 : ∀ x, x = xs.getD i V.non → ∃ acc : List V, G' D2 = some (.lst acc) ∧ acc.length < sizeLine ∧ (Same G1 (upd G' D2 (.lst (acc ++ [x]))) ∧ (upd G' D2 (.lst (acc ++ [x]))) D2 = some (.lst ((ns.take (k + 1)).map fun r => xs.getD (r.fmod (N : Int)).toNat .non))) := fun x hx => by
          refine ⟨_, eD2, by rw [List.length_map, List.length_take]; exact small1000 (by omega), fun b o e => ?_, ?_⟩
          · rw [upd_ne (ne_of_none e hD2)]; exact s' _ _ e
          · rw [upd_same, List.take_succ_eq_append_getElem hk, List.map_append]
            have : ns[k] = rankI ls N i := by rw [List.getElem?_eq_getElem hk] at er; exact Option.some.inj er
            rw [this]
            show _ = some (HO.lst (_ ++ [xs.getD ((rankI ls N i).fmod (N : Int)).toNat V.non]))
            rw [em, Int.toNat_natCast, hx]
        have ex2 : atI xs ((rankI ls N i).fmod (N : Int)) = some (xs.getD i .non) := by rw [em]; exact atI_nat ex
        rcases hx with hx | hx
        · exact .inl ⟨it, _, _, _, rfl, rfl, sx.seq hx, ex2, fin2 _ rfl⟩
        · exact .inr ⟨it, _, _, _, rfl, rfl, Same.seqT sx hx, ex2, fin2 _ rfl⟩
    · rintro G2 ⟨s2, eD2⟩
      rw [List.length_map, List.take_length] at eD2
      refine fin D2 G2 (ns.map fun r => (r.fmod (N : Int)).toNat) (s1.trans s2) ?_ h2 h3 (by rw [eD2, List.map_map]; rfl)
      cases q : H D2 with
      | none => rfl
      | some o => rw [s1 _ _ q] at hD2; cases hD2
end
theorem ord_two {l1 l2 : List Int} {N : Nat} {i1 i2 : List Nat} (hp1 : i1.Perm (List.range N)) (hs1 : i1.Pairwise (RelI l2)) (hp2 : i2.Perm (List.range N)) (hs2 : i2.Pairwise (RelI (i1.map fun i => l1.getD i 0))) :
    (i2.map fun j => i1.getD j 0).Perm (List.range N) ∧ (i2.map fun j => i1.getD j 0).Pairwise (fun i j => l1.getD i 0 < l1.getD j 0 ∨ (l1.getD i 0 = l1.getD j 0 ∧ l2.getD i 0 ≤ l2.getD j 0)) := by
  have len1 : i1.length = N := by rw [hp1.length_eq, List.length_range]
  have gd : ∀ {α : Type} (l : List α) (d : α) (i : Nat), i < l.length → l[i]? = some (l.getD i d) := fun l d i h => by rw [List.getD_eq_getElem?_getD, List.getElem?_eq_getElem h]; rfl
  refine ⟨?_, ?_⟩
  · have h := hp2.map fun j => i1.getD j 0
    rw [map_range_id len1 fun i hi => gd i1 0 i (by omega)] at h
    exact h.trans hp1
  · rw [List.pairwise_map]
    refine hs2.imp_of_mem fun {p q} hp hq h => ?_
    have hp' : p < i1.length := by rw [len1]; exact List.mem_range.mp (hp2.mem_iff.mp hp)
    have hq' : q < i1.length := by rw [len1]; exact List.mem_range.mp (hp2.mem_iff.mp hq)
    have e : ∀ {p : Nat}, p < i1.length → (i1.map fun i => l1.getD i 0).getD p 0 = l1.getD (i1.getD p 0) 0 := fun {p} h => by
      rw [List.getD_eq_getElem?_getD, List.getElem?_map, gd i1 0 p h]; rfl
    unfold RelI at h
    rw [e hp', e hq'] at h
    rcases h with h | ⟨h, hle⟩
    · exact .inl h
    · refine .inr ⟨h, ?_⟩
      rcases Nat.lt_or_ge p q with z | z
      · have := List.pairwise_iff_getElem.mp hs1 p q hp' hq' z
        have e1 : i1[p] = i1.getD p 0 := Option.some.inj (by rw [← gd i1 0 p hp', List.getElem?_eq_getElem hp'])
        have e2 : i1[q] = i1.getD q 0 := Option.some.inj (by rw [← gd i1 0 q hq', List.getElem?_eq_getElem hq'])
        rw [e1, e2] at this
        rcases this with t | t <;> omega
      · obtain rfl : p = q := by omega
        exact Int.le_refl _
theorem ord_of {ds ds' : List DD} (hp : ds'.Perm ds) (hs : ds'.Pairwise (fun x y => leD x y = true)) : ds' = ordD ds := by
  refine List.Perm.eq_of_pairwise (le := fun x y => leD x y = true) (fun a b _ _ h1 h2 => ?_) hs ?_ (hp.trans (ordD_perm ds).symm)
  · rw [leD_iff] at h1 h2
    have wa := wd_pos a
    have e1 : a.1 * wd b = b.1 * wd a := by omega
    have e2 : a.2 = b.2 := by omega
    have e3 : wd a = wd b := by unfold wd; rw [e2]
    rw [e3] at e1
    have e4 : a.1 = b.1 := Int.eq_of_mul_eq_mul_right (by have := wd_pos b; omega) e1
    exact Prod.ext e4 e2
  · exact List.pairwise_iff_getElem.mpr fun i j hi hj hij => ordD_srt ds i j _ _ hij (List.getElem?_eq_getElem hi) (List.getElem?_eq_getElem hj)
def lv1 (S : Int) (z : Qd) : Int := z.a * (S / z.b)
def lv2 (S : Int) (z : Qd) : Int := z.c * (S / z.d)
theorem lv1_eq {S : Int} {z : Qd} (h : z.b ∣ S) : lv1 S z * z.b = z.a * S := by unfold lv1; rw [Int.mul_assoc, Int.ediv_mul_cancel h]
theorem lv2_eq {S : Int} {z : Qd} (h : z.d ∣ S) : lv2 S z * z.d = z.c * S := by unfold lv2; rw [Int.mul_assoc, Int.ediv_mul_cancel h]
theorem getD_some {α : Type} {l : List α} {i : Nat} {x d : α} (h : l[i]? = some x) : l.getD i d = x := by rw [List.getD_eq_getElem?_getD, h]; rfl
theorem get_some {α : Type} {l : List α} (d : α) {i : Nat} (h : i < l.length) : l[i]? = some (l.getD i d) := by rw [List.getD_eq_getElem?_getD, List.getElem?_eq_getElem h]; rfl
/-- a list by its places, put in another order -/
theorem map_idx {α β : Type} {N : Nat} {l : List α} {idx : List Nat} {a : α} {b : β} {f : α → β} (hl : l.length = N) (hm : ∀ i ∈ idx, i < N) : (idx.map fun i => (l.map f).getD i b) = (idx.map fun i => l.getD i a).map f := by
  rw [List.map_map]
  refine List.map_congr_left fun i hi => ?_
  have h := get_some a (show i < l.length by rw [hl]; exact hm i hi)
  show (l.map f).getD i b = f (l.getD i a)
  exact getD_some (by rw [List.getElem?_map, h]; rfl)
theorem lv_un {k b a S X : Int} (b0 : 0 < b) (h : k * b = a * S) (h' : X * b = a * S) : k = X := Int.eq_of_mul_eq_mul_right (by omega) (h.trans h'.symm)
theorem lv_bn {k b a S : Int} {n m : Nat} (b0 : 0 < b) (h : k * b = a * S) (ba : Bn n a) (bs : Bn m S) : Bn (n + m) k := by
  refine (ba.mul bs).le ?_
  rw [← h, Int.natAbs_mul]
  exact Nat.le_mul_of_pos_right _ (by omega)
def DenZ.mono {S Z : Int} {ps : List Qd} (h : DenZ S ps) (hz : S ∣ Z) : DenZ Z ps := fun z m => let ⟨a, b, c, d⟩ := h z m; ⟨a, b, Int.dvd_trans c hz, Int.dvd_trans d hz⟩
/-- the levels are the drop in parts of 1 / S -/
theorem lv_x {S L : Int} {z : Qd} {x : DD} (h : QdX L z x) (b0 : 0 < z.b) (d0 : 0 < z.d) (hb : z.b ∣ S) (hd : z.d ∣ S) : lv1 S z * (x.2 * L) = x.1 * S ∧ lv2 S z * L = x.2 * S := by
  obtain ⟨e1, e2, _⟩ := h
  have f1 := lv1_eq hb
  have f2 := lv2_eq hd
  refine ⟨Int.eq_of_mul_eq_mul_right (show z.b ≠ 0 by omega) ?_, Int.eq_of_mul_eq_mul_right (show z.d ≠ 0 by omega) ?_⟩
  · generalize lv1 S z = k at *; grind
  · generalize lv2 S z = k at *; grind
theorem lv_le {S L : Int} {z z' : Qd} {x y : DD} (S0 : 0 < S) (L0 : 0 < L) (hx : 0 < x.2) (hy : 0 < y.2) (h : lv1 S z * (x.2 * L) = x.1 * S ∧ lv2 S z * L = x.2 * S) (h' : lv1 S z' * (y.2 * L) = y.1 * S ∧ lv2 S z' * L = y.2 * S)
    (hl : lv1 S z < lv1 S z' ∨ (lv1 S z = lv1 S z' ∧ lv2 S z ≤ lv2 S z')) : leD x y = true := by
  rw [leD_iff, wd_eq hx, wd_eq hy]
  have m1 := ltM L0 hx hy S0 S0 h.1 h'.1
  have m2 := ltL L0 S0 S0 h'.2 h.2
  generalize lv1 S z = a at *
  generalize lv1 S z' = a' at *
  generalize lv2 S z = b at *
  generalize lv2 S z' = b' at *
  rcases hl with hl | ⟨rfl, hl⟩
  · exact .inl (m1.1.mp (Int.mul_lt_mul_of_pos_right hl S0))
  · refine .inr ⟨m1.2.mp rfl, ?_⟩
    rcases Int.lt_or_le y.2 x.2 with q | q
    · have := m2.mpr q
      have := Int.mul_le_mul_of_nonneg_right hl (show 0 ≤ S by omega)
      omega
    · exact q
def spOrd (K : PySem.W.Frag) (C : Addr) : Sp := fun vs H Q _ => ∃ (l : Addr) (rs : List Addr) (ps : List Qd) (ds : List DD) (n : Nat) (L Z : Int), vs = [.ref l] ∧ (SqL K H l (rs.map V.ref) ∨ SqT K H l (rs.map V.ref)) ∧ RowsQ C H rs ps ∧ QdsX n L ps ds ∧ DenZ Z ps ∧ 0 < L ∧ 0 < Z ∧ Bn 4000 Z ∧ n ≤ 1500 ∧ rs.length ≤ 1000 ∧
  ∀ p H' rs' ps', Same H H' → H p = none → H' p = some (.lst (rs'.map V.ref)) → RowsQ C H' rs' ps' → QdsX n L ps' (ordD ds) → (∀ (i : Nat) (r : Addr) (z : Qd), rs'[i]? = some r → ps'[i]? = some z → ∃ j : Nat, rs[j]? = some r ∧ ps[j]? = some z) → Q (.ref p) H'
section
variable {P : Program} {w : World} {K : PySem.W.Frag} {mg : Str → Option Value} {base : Heap}
theorem ok_ord (T : Txt K mg) : FnOk P w K mg base CX0 3 T.f_in_order T.d_in_order ["pairs"] (spOrd K T.C_Ratio) := by
  have nd := sc_in_order.nd
  refine T.F_in_order.ok sc_in_order (fun vs H Q E ⟨_, _, _, _, _, _, _, e, _⟩ => by rw [e]; rfl) (fun cdv A outer s H vs Q E hr h => ?_)
  obtain ⟨l, rs, ps, ds, n, L, Z, rfl, hl, hR, hX, hZ, L0, Z0, Zb, hn, few, fin⟩ := h
  refine ⟨_, pss_cons (ps_set (i := 1) nd rfl (.inr rfl) (pe_f (E := fun _ => E0) (ok_scl T) (hr.mono (by decide)) (by rfl) T.g_scale_of T.F_scale_of.kp T.B_scale_of (fun _ => at0) (pa_cons (pv 0) pa_nil)))
    (pss_cons (ps_set (i := 2) nd rfl (.inl rfl) (pe_f (E := fun _ => E0) (ok_srt T) (hr.mono (by decide)) (by rfl) T.g_sorted_by T.F_sorted_by.kp T.B_sorted_by (fun _ => at0) (pa_cons
        (pe_lc (own := [("_", 3), ("second", 4)]) (g := gTup K 2 (gCons (gName 3) (gCons (gName 4) gNil))) (tt := tYes) (te := tCl (spSca T.C_Ratio) (fun _ => E0) (tCons (tVar 4) (tCons (tVar 1) tNil))) rfl nd (pi_or (pi_list (pv 0)) (pi_tup (pv 0)))
          (blkOk_by (own := [("_", 3), ("second", 4)]) (N := ["pairs", "scale", "rows", "_", "second", "first"]) (sc := defScope s_in_order) (by decide +kernel)) (fun _ _ _ _ _ => pg_tup rfl (pgs_cons (pg_name (i := 3) nd rfl (.inl rfl)) (pgs_cons (pg_name (i := 4) nd rfl (.inl rfl)) pgs_nil))) (fun _ _ _ _ _ => pts_nil)
          (fun _ _ _ _ _ => pe_f (E := fun _ => E0) (ok_sca T) (hr.mono (by decide)) (by rfl) T.g_scaled T.F_scaled.kp T.B_scaled (fun _ => at0) (pa_cons (pv 4) (pa_cons (pv 1) pa_nil)))) (pa_cons (pv 0) pa_nil))))
    (pss_one (ps_ret (pe_f (E := fun _ => E0) (ok_srt T) (hr.mono (by decide)) (by rfl) T.g_sorted_by T.F_sorted_by.kp T.B_sorted_by (fun _ => at0) (pa_cons
        (pe_lc (own := [("first", 5), ("_", 3)]) (g := gTup K 2 (gCons (gName 5) (gCons (gName 3) gNil))) (tt := tYes) (te := tCl (spSca T.C_Ratio) (fun _ => E0) (tCons (tVar 5) (tCons (tVar 1) tNil))) rfl nd (pi_list (pv 2))
          (blkOk_by (own := [("first", 5), ("_", 3)]) (N := ["pairs", "scale", "rows", "_", "second", "first"]) (sc := defScope s_in_order) (by decide +kernel)) (fun _ _ _ _ _ => pg_tup rfl (pgs_cons (pg_name (i := 5) nd rfl (.inl rfl)) (pgs_cons (pg_name (i := 3) nd rfl (.inl rfl)) pgs_nil))) (fun _ _ _ _ _ => pts_nil)
          (fun _ _ _ _ _ => pe_f (E := fun _ => E0) (ok_sca T) (hr.mono (by decide)) (by rfl) T.g_scaled T.F_scaled.kp T.B_scaled (fun _ => at0) (pa_cons (pv 5) (pa_cons (pv 1) pa_nil)))) (pa_cons (pv 2) pa_nil)))))), ?_⟩
  refine ⟨_, rfl, l, rs, ps, Z, rfl, hl, hR, hZ, Z0, Nat.lt_of_lt_of_le Zb (Nat.pow_le_pow_right (by decide) (by decide)), fun S G0 s0 S0 SZ hD => ?_⟩
  have Sb : Bn 4000 S := Zb.le (by have := Int.le_of_dvd Z0 SZ; omega)
  have gd : ∀ {α : Type} (l : List α) (d : α) (i : Nat), i < l.length → l[i]? = some (l.getD i d) := fun l d i h => by rw [List.getD_eq_getElem?_getD, List.getElem?_eq_getElem h]; rfl
  have hl0 : SqL K G0 l (rs.map V.ref) ∨ SqT K G0 l (rs.map V.ref) := hl.elim (fun h => .inl (s0.seq h)) (fun h => .inr (Same.seqT s0 h))
  have hR0 := hR.same s0
  have lds : ps.length = ds.length := hX.1
  -- the volumes' levels
  refine seq_or rfl hl0 fun J Gp wk hG D hD0 => lc_it wk (fun k G => Same G0 G ∧ G D = some (.lst (((ps.take k).map (lv2 S)).map V.int)))
    ⟨same_upd hD0, upd_same⟩ (fun k G _ h => hG _ h.1) ?_ ?_
  · rintro k x G G' hk ⟨sG, eD⟩ ⟨rfl, hx⟩
    obtain ⟨r, er, rfl⟩ := ref_get hx
    have hk2 : k < ps.length := by rw [hR.1]; exact (List.getElem?_eq_some_iff.mp er).1
    have ez : ps[k]? = some ps[k] := List.getElem?_eq_getElem hk2
    have ht : ps.take (k + 1) = ps.take k ++ [ps[k]] := List.take_succ_eq_append_getElem hk2
    generalize ps[k] = z at ez ht
    obtain ⟨m, v, e, r1, r2⟩ := (hR0.same sG).2 k r z er ez
    obtain ⟨b0, d0, bz, dz⟩ := hD z (List.mem_of_getElem? ez)
    obtain ⟨_, za, zb, zc, zd⟩ := hX.2 k z _ ez (List.getElem?_eq_getElem (by omega))
    refine ⟨r, _, rfl, SqT.of e, rfl, _, _, rfl, _, _, rfl, rfl, rfl, ?_⟩
    unfold tYes
    refine iteT ⟨_, rfl, _, rfl, v, z.c, z.d, S, rfl, r2, d0, dz, S0, zc.mono (by omega), Sb.mono (by decide), fun j hj => ?_⟩
    obtain rfl := lv_un d0 hj (lv2_eq dz)
    refine ⟨_, eD, by rw [List.length_map, List.length_map, List.length_take]; exact small1000 (by have := hR.1; omega), fun b o e => ?_, ?_⟩
    · rw [upd_ne (ne_of_none e hD0)]; exact sG _ _ e
    · rw [upd_same, ht, List.map_append, List.map_append]; rfl
  rintro G1 ⟨s1, eD⟩
  rw [List.length_map, ← hR.1, List.take_length] at eD
  have lr : rs.length = ps.length := hR.1.symm
  have s01 := s0.trans s1
  have hl1 : SqL K G1 l (rs.map V.ref) ∨ SqT K G1 l (rs.map V.ref) := hl.elim (fun h => .inl (s01.seq h)) (fun h => .inr (Same.seqT s01 h))
  have bnd : ∀ {k b a : Int}, 0 < b → k * b = a * S → Bn n a → Bn 9000 k := fun b0 h ba => (lv_bn b0 h ba Sb).mono (by omega)
  refine ⟨_, rfl, D, l, ps.map (lv2 S), rs.map V.ref, rfl, SqL.of eD, hl1, by rw [List.length_map, List.length_map, lr], by rw [List.length_map]; exact few, fun x hx => ?_, fun p1 G2 i1 s2 n1 perm1 srt1 e1 => ?_⟩
  · obtain ⟨z, hz, rfl⟩ := List.mem_map.mp hx
    obtain ⟨i, hi, rfl⟩ := List.mem_iff_getElem.mp hz
    obtain ⟨b0, d0, bz, dz⟩ := hD _ hz
    obtain ⟨_, za, zb, zc, zd⟩ := hX.2 i _ _ (List.getElem?_eq_getElem hi) (List.getElem?_eq_getElem (by omega))
    exact bnd d0 (lv2_eq dz) zc
  rw [List.length_map, lr] at perm1
  have m1 : ∀ i ∈ i1, i < ps.length := fun i hi => List.mem_range.mp (perm1.mem_iff.mp hi)
  have len1 : i1.length = ps.length := by rw [perm1.length_eq, List.length_range]
  rw [map_idx (a := 0) lr m1] at e1
  have s02 := s01.trans s2
  have hR2 := hR.same s02
  generalize hrs1 : (i1.map fun i => rs.getD i 0) = rs1 at e1
  have len2 : rs1.length = ps.length := by rw [← hrs1, List.length_map, len1]
  have gl1 : ∀ {i : Nat} {z : Qd}, ps[i]? = some z → (ps.map (lv1 S)).getD i 0 = lv1 S z := fun {i z} h => getD_some (by rw [List.getElem?_map, h]; rfl)
  -- the middles' levels
  refine ⟨_, rfl, p1, rfl, ⟨_, SqL.of e1⟩, fun D2 hD2 => lc_list (K := K) (a := p1) (xs := rs1.map V.ref) (fun k G => Same G2 G ∧ G D2 = some (.lst (((i1.take k).map fun i => (ps.map (lv1 S)).getD i 0).map V.int)))
    ⟨same_upd hD2, upd_same⟩ (fun k G _ h => SqL.of (h.1 _ _ e1)) ?_ ?_⟩
  · rintro k x G hx ⟨sG, eD2⟩
    obtain ⟨r, er, rfl⟩ := ref_get hx
    have hk2 : k < i1.length := by rw [len1, ← len2]; exact (List.getElem?_eq_some_iff.mp er).1
    have ei : i1[k]? = some i1[k] := List.getElem?_eq_getElem hk2
    have ht : i1.take (k + 1) = i1.take k ++ [i1[k]] := List.take_succ_eq_append_getElem hk2
    generalize i1[k] = i at ei ht
    have hi := m1 i (List.mem_of_getElem? ei)
    rw [← hrs1, List.getElem?_map, ei] at er
    replace er : rs.getD i 0 = r := Option.some.inj er
    have er2 : rs[i]? = some r := by rw [← er]; exact get_some 0 (by omega)
    have ez : ps[i]? = some ps[i] := List.getElem?_eq_getElem hi
    generalize ps[i] = z at ez
    obtain ⟨m, v, e, r1, r2⟩ := (hR2.same sG).2 i r z er2 ez
    obtain ⟨b0, d0, bz, dz⟩ := hD z (List.mem_of_getElem? ez)
    obtain ⟨_, za, zb, zc, zd⟩ := hX.2 i z _ ez (List.getElem?_eq_getElem (by omega))
    refine ⟨r, _, rfl, SqT.of e, rfl, _, _, rfl, _, _, rfl, rfl, rfl, ?_⟩
    unfold tYes
    refine iteT ⟨_, rfl, _, rfl, m, z.a, z.b, S, rfl, r1, b0, bz, S0, za.mono (by omega), Sb.mono (by decide), fun j hj => ?_⟩
    obtain rfl := lv_un b0 hj (lv1_eq bz)
    refine ⟨_, eD2, by rw [List.length_map, List.length_map, List.length_take]; exact small1000 (by omega), fun b o e => ?_, ?_⟩
    · rw [upd_ne (ne_of_none e hD2)]; exact sG _ _ e
    · rw [upd_same, ht, List.map_append, List.map_append]
      show _ = some (HO.lst (_ ++ [V.int ((ps.map (lv1 S)).getD i 0)]))
      rw [gl1 ez]
  rintro G3 ⟨s3, eD2⟩
  rw [List.length_map, len2, ← len1, List.take_length] at eD2
  refine ⟨_, rfl, D2, p1, i1.map fun i => (ps.map (lv1 S)).getD i 0, rs1.map V.ref, rfl, SqL.of eD2, .inl (SqL.of (s3 _ _ e1)), by rw [List.length_map, List.length_map, len1, len2], by rw [List.length_map]; omega, fun x hx => ?_, fun p2 G4 i2 s4 n2 perm2 srt2 e2 => ?_⟩
  · obtain ⟨i, hi, rfl⟩ := List.mem_map.mp hx
    have hi := m1 i hi
    have ez : ps[i]? = some ps[i] := List.getElem?_eq_getElem hi
    rw [gl1 ez]
    obtain ⟨b0, d0, bz, dz⟩ := hD _ (List.mem_of_getElem? ez)
    obtain ⟨_, za, zb, zc, zd⟩ := hX.2 i _ _ ez (List.getElem?_eq_getElem (by omega))
    exact bnd b0 (lv1_eq bz) za
  rw [List.length_map, len2] at perm2
  have m2 : ∀ i ∈ i2, i < ps.length := fun i hi => List.mem_range.mp (perm2.mem_iff.mp hi)
  obtain ⟨perm, srt⟩ := ord_two perm1 srt1 perm2 srt2
  have s24 := s3.trans s4
  have s04 := s02.trans s24
  have hrs : (i2.map fun i => rs1.getD i 0) = ((i2.map fun j => i1.getD j 0).map fun i => rs.getD i 0) := by
    rw [List.map_map]
    refine List.map_congr_left fun j hj => ?_
    show rs1.getD j 0 = rs.getD (i1.getD j 0) 0
    rw [← hrs1]
    exact getD_some (by rw [List.getElem?_map, get_some 0 (show j < i1.length by rw [len1]; exact m2 j hj)]; rfl)
  rw [map_idx (a := 0) len2 m2, hrs] at e2
  generalize (i2.map fun j => i1.getD j 0) = idx at *
  have mi : ∀ i ∈ idx, i < ps.length := fun i hi => List.mem_range.mp (perm.mem_iff.mp hi)
  have z0 : Qd := ⟨0, 1, 1, 1⟩
  have at2 : ∀ {k : Nat} {r : Addr} {z : Qd}, (idx.map fun i => rs.getD i 0)[k]? = some r → (idx.map fun i => ps.getD i z0)[k]? = some z → ∃ j : Nat, idx[k]? = some j ∧ rs[j]? = some r ∧ ps[j]? = some z := fun {k r z} h1 h2 => by
    rw [List.getElem?_map] at h1 h2
    cases q : idx[k]? with
    | none => rw [q] at h1; cases h1
    | some j =>
      rw [q] at h1 h2
      cases h1
      cases h2
      have hj := mi j (List.mem_of_getElem? q)
      exact ⟨j, rfl, get_some 0 (by omega), get_some z0 hj⟩
  have hds : (idx.map fun i => ds.getD i (0, 0)) = ordD ds := by
    refine ord_of ?_ ?_
    · have h := perm.map fun i => ds.getD i ((0, 0) : DD)
      rwa [map_range_id lds.symm fun i hi => get_some (0, 0) (by omega)] at h
    · rw [List.pairwise_map]
      refine srt.imp_of_mem fun {i j} hi hj h => ?_
      have hi := mi i hi
      have hj := mi j hj
      have ei : ps[i]? = some ps[i] := List.getElem?_eq_getElem hi
      have ej : ps[j]? = some ps[j] := List.getElem?_eq_getElem hj
      have gl2 : ∀ {i : Nat} {z : Qd}, ps[i]? = some z → (ps.map (lv2 S)).getD i 0 = lv2 S z := fun {i z} h => getD_some (by rw [List.getElem?_map, h]; rfl)
      rw [gl1 ei, gl1 ej, gl2 ei, gl2 ej] at h
      obtain ⟨bi, di, bzi, dzi⟩ := hD _ (List.mem_of_getElem? ei)
      obtain ⟨bj, dj, bzj, dzj⟩ := hD _ (List.mem_of_getElem? ej)
      obtain ⟨xi, _⟩ := hX.2 i _ _ ei (get_some (0, 0) (by omega))
      obtain ⟨xj, _⟩ := hX.2 j _ _ ej (get_some (0, 0) (by omega))
      exact lv_le S0 L0 xi.2.2 xj.2.2 (lv_x xi bi di bzi dzi) (lv_x xj bj dj bzj dzj) h
  refine fin p2 G4 (idx.map fun i => rs.getD i 0) (idx.map fun i => ps.getD i z0) s04 ?_ e2 ⟨by rw [List.length_map, List.length_map], fun k r z h1 h2 => ?_⟩ ⟨by rw [← hds, List.length_map, List.length_map], fun k z x h1 h2 => ?_⟩ fun k r z h1 h2 => ?_
  · cases q : H p2 with
    | none => rfl
    | some o => rw [s3 _ _ (s02 _ _ q)] at n2; cases n2
  · obtain ⟨j, _, er, ez⟩ := at2 h1 h2
    exact (hR.same s04).2 j r z er ez
  · have hk : k < idx.length := by have := (List.getElem?_eq_some_iff.mp h1).1; rwa [List.length_map] at this
    obtain ⟨j, ej, er, ez⟩ := at2 (r := rs.getD idx[k] 0) (by rw [List.getElem?_map, List.getElem?_eq_getElem hk]; rfl) h1
    rw [← hds, List.getElem?_map, ej] at h2
    cases h2
    have hj := mi j (List.mem_of_getElem? ej)
    exact hX.2 j z _ ez (get_some (0, 0) (by omega))
  · obtain ⟨j, _, er, ez⟩ := at2 h1 h2
    exact ⟨j, er, ez⟩
end

/-! ### blocks -/
/-- a block: its first and last drop, its moment and its volume -/
structure Bk where
  f : Int
  l : Int
  x : DD
def joinB (t g : Bk) : Bk := ⟨t.f, g.l, addD t.x g.x⟩
def pushB : List Bk → Bk → List Bk
  | [], g => [g]
  | t :: st, g => if tchD t.x g.x = true then pushB st (joinB t g) else g :: t :: st
def stkB (bs : List Bk) : List Bk := bs.foldl pushB []
theorem pushB_x : ∀ (st : List Bk) (g : Bk), (pushB st g).map Bk.x = pushD (st.map Bk.x) g.x
  | [], g => rfl
  | t :: st, g => by
    unfold pushB
    rw [List.map_cons]
    unfold pushD
    by_cases c : tchD t.x g.x = true
    · rw [if_pos c, if_pos c, pushB_x st]; rfl
    · rw [if_neg c, if_neg c]; rfl
theorem stkB_x (bs : List Bk) : (stkB bs).map Bk.x = stkD (bs.map Bk.x) := by
  have : ∀ (bs st : List Bk), (bs.foldl pushB st).map Bk.x = (bs.map Bk.x).foldl pushD (st.map Bk.x) := by
    intro bs
    induction bs with
    | nil => intro st; rfl
    | cons b bs ih => intro st; rw [List.map_cons, List.foldl_cons, List.foldl_cons, ih, pushB_x]
  exact this bs []
theorem stkB_snoc (bs : List Bk) (b : Bk) : stkB (bs ++ [b]) = pushB (stkB bs) b := by unfold stkB; rw [List.foldl_append]; rfl
/-- in memory: a tuple of first, last, volume, pull in parts of 1 / S -/
def BkAt (H : Hp) (S L : Int) (u : Addr) (b : Bk) : Prop := ∃ A Pl : Int, H u = some (.tup [.int b.f, .int b.l, .int A, .int Pl]) ∧ A * L = b.x.2 * S ∧ Pl * (L * L) = 2 * b.x.1 * (S * S)
theorem BkAt.same {H H' : Hp} {S L : Int} {u : Addr} {b : Bk} (h : BkAt H S L u b) (s : Same H H') : BkAt H' S L u b := let ⟨A, Pl, e, r⟩ := h; ⟨A, Pl, s _ _ e, r⟩
theorem BkAt.butL {H H' : Hp} {S L : Int} {u p : Addr} {b : Bk} {xs : List V} (h : BkAt H S L u b) (hl : H p = some (.lst xs)) (k : But p H H') : BkAt H' S L u b := let ⟨A, Pl, e, r⟩ := h; ⟨A, Pl, k _ _ (fun z => by rw [z, hl] at e; cases e) e, r⟩
def BksAt (H : Hp) (S L : Int) (us : List Addr) (bs : List Bk) : Prop := bs.length = us.length ∧ ∀ (i : Nat) (u : Addr) (b : Bk), us[i]? = some u → bs[i]? = some b → BkAt H S L u b
theorem BksAt.same {H H' : Hp} {S L : Int} {us : List Addr} {bs : List Bk} (h : BksAt H S L us bs) (s : Same H H') : BksAt H' S L us bs := ⟨h.1, fun i u b e1 e2 => (h.2 i u b e1 e2).same s⟩
theorem BksAt.butL {H H' : Hp} {S L : Int} {us : List Addr} {bs : List Bk} {p : Addr} {xs : List V} (h : BksAt H S L us bs) (hl : H p = some (.lst xs)) (k : But p H H') : BksAt H' S L us bs := ⟨h.1, fun i u b e1 e2 => (h.2 i u b e1 e2).butL hl k⟩
theorem BksAt.cons {H : Hp} {S L : Int} {u : Addr} {b : Bk} {us : List Addr} {bs : List Bk} : BksAt H S L (u :: us) (b :: bs) ↔ BkAt H S L u b ∧ BksAt H S L us bs := by
  constructor
  · exact fun h => ⟨h.2 0 u b rfl rfl, by have := h.1; simpa using this, fun i q' x' e1 e2 => h.2 (i + 1) q' x' (by simpa using e1) (by simpa using e2)⟩
  · rintro ⟨h1, h2, h3⟩
    refine ⟨by rw [List.length_cons, List.length_cons, h2], fun i q' x' e1 e2 => ?_⟩
    cases i with
    | zero => cases e1; cases e2; exact h1
    | succ i => exact h3 i q' x' (by simpa using e1) (by simpa using e2)
theorem BksAt.rev {H : Hp} {S L : Int} {us : List Addr} {bs : List Bk} (h : BksAt H S L us bs) : BksAt H S L us.reverse bs.reverse := by
  refine ⟨by rw [List.length_reverse, List.length_reverse, h.1], fun i q x e1 e2 => ?_⟩
  have l1 : i < us.reverse.length := (List.getElem?_eq_some_iff.mp e1).1
  rw [List.length_reverse] at l1
  rw [List.getElem?_reverse l1] at e1
  rw [List.getElem?_reverse (by rw [h.1]; exact l1), h.1] at e2
  exact h.2 _ q x e1 e2
/-- bounds of a block's numbers -/
theorem bk_bn {S L A Pl : Int} {x : DD} {n : Nat} (L0 : 0 < L) (e1 : A * L = x.2 * S) (e2 : Pl * (L * L) = 2 * x.1 * (S * S)) (b1 : Bn n x.1) (b2 : Bn n x.2) (bs : Bn 4000 S) : Bn (n + 4000) A ∧ Bn (n + 8002) Pl := by
  refine ⟨((b2.mul bs).mono (by omega)).le ?_, ((((bn2.mul b1).mul (bs.mul bs))).mono (by omega)).le ?_⟩
  · rw [← e1, Int.natAbs_mul]; exact Nat.le_mul_of_pos_right _ (by omega)
  · rw [← e2, Int.natAbs_mul, Int.natAbs_mul]; exact Nat.le_mul_of_pos_right _ (Nat.mul_pos (by omega) (by omega))
theorem touchB {S L A P A' P' : Int} {t g : DD} (S0 : 0 < S) (L0 : 0 < L) (e1 : A * L = t.2 * S) (e2 : P * (L * L) = 2 * t.1 * (S * S)) (e1' : A' * L = g.2 * S) (e2' : P' * (L * L) = 2 * g.1 * (S * S)) :
    decide ((P' - A' * A') * A ≤ (P + A * A) * A') = tchD t g := by
  have l3 : 0 < L * L * L := Int.mul_pos (Int.mul_pos L0 L0) L0
  have s3 : 0 < S * S * S := Int.mul_pos (Int.mul_pos S0 S0) S0
  have k : ((P + A * A) * A' - (P' - A' * A') * A) * (L * L * L) = (t.2 * g.2 * (t.2 + g.2) - 2 * (g.1 * t.2 - t.1 * g.2)) * (S * S * S) := by
    have h1 : ((P + A * A) * A' - (P' - A' * A') * A) * (L * L * L) = (P * (L * L) + (A * L) * (A * L)) * (A' * L) - (P' * (L * L) - (A' * L) * (A' * L)) * (A * L) := by grind
    rw [h1, e1, e2, e1', e2']
    grind
  unfold tchD
  rw [decide_eq_decide]
  constructor
  · intro h
    rcases Int.lt_or_le (t.2 * g.2 * (t.2 + g.2)) (2 * (g.1 * t.2 - t.1 * g.2)) with z | z
    · have p1 : (t.2 * g.2 * (t.2 + g.2) - 2 * (g.1 * t.2 - t.1 * g.2)) * (S * S * S) < 0 := Int.mul_neg_of_neg_of_pos (by omega) s3
      have p2 : 0 ≤ ((P + A * A) * A' - (P' - A' * A') * A) * (L * L * L) := Int.mul_nonneg (by omega) (by omega)
      omega
    · exact z
  · intro h
    rcases Int.lt_or_le ((P + A * A) * A') ((P' - A' * A') * A) with z | z
    · have p1 : ((P + A * A) * A' - (P' - A' * A') * A) * (L * L * L) < 0 := Int.mul_neg_of_neg_of_pos (by omega) l3
      have p2 : 0 ≤ (t.2 * g.2 * (t.2 + g.2) - 2 * (g.1 * t.2 - t.1 * g.2)) * (S * S * S) := Int.mul_nonneg (by omega) (by omega)
      omega
    · exact z
def spBt : Sp := fun vs H Q _ => ∃ (u v : Addr) (t g : Bk) (S L : Int), vs = [.ref u, .ref v] ∧ BkAt H S L u t ∧ BkAt H S L v g ∧ 0 < S ∧ 0 < L ∧ Bn 4000 S ∧ Bn 300 t.x.1 ∧ Bn 300 t.x.2 ∧ Bn 300 g.x.1 ∧ Bn 300 g.x.2 ∧ Q (.bl (tchD t.x g.x)) H
def spJn : Sp := fun vs H Q _ => ∃ (u v : Addr) (t g : Bk) (S L : Int), vs = [.ref u, .ref v] ∧ BkAt H S L u t ∧ BkAt H S L v g ∧ ∀ q H', Same H H' → BkAt H' S L q (joinB t g) → Q (.ref q) H'
def spHeld : Sp := fun vs H Q _ => ∃ (u : Addr), vs = [.ref u, .non] ∧ Q (.ref u) H
section
variable {P : Program} {w : World} {K : PySem.W.Frag} {mg : Str → Option Value} {base : Heap}
theorem ok_bt (T : Txt K mg) : FnOk P w K mg base CX0 1 T.f_touch T.d_touch ["one", "other"] spBt := by
  have nd := sc_touch.nd
  refine T.F_touch.ok sc_touch (fun vs H Q E ⟨_, _, _, _, _, _, e, _⟩ => by rw [e]; rfl) (fun cdv A outer s H vs Q E hr h => ?_)
  obtain ⟨u, v, t, g, S, L, rfl, ⟨At, Pt, et, a1, a2⟩, ⟨Ag, Pg, eg, b1, b2⟩, S0, L0, Sb, t1, t2, g1, g2, fin⟩ := h
  refine ⟨_, pss_cons (ps_asg (pv 0) (pg_tup rfl (pgs_cons (pg_name (i := 2) nd rfl (.inl rfl)) (pgs_cons (pg_name (i := 2) nd rfl (.inl rfl)) (pgs_cons (pg_name (i := 3) nd rfl (.inl rfl)) (pgs_cons (pg_name (i := 4) nd rfl (.inl rfl)) pgs_nil))))))
    (pss_cons (ps_asg (pv 1) (pg_tup rfl (pgs_cons (pg_name (i := 2) nd rfl (.inl rfl)) (pgs_cons (pg_name (i := 2) nd rfl (.inl rfl)) (pgs_cons (pg_name (i := 5) nd rfl (.inl rfl)) (pgs_cons (pg_name (i := 6) nd rfl (.inl rfl)) pgs_nil))))))
    (pss_one (ps_ret (pe_cmpR op_ge (pe_op op_mulW (pe_op op_add (pv 4) (pe_op op_mulW (pv 3) (pv 3))) (pv 5)) (pe_op op_mulW (pe_op op_sub (pv 6) (pe_op op_mulW (pv 5) (pv 5))) (pv 3)) (nomark _))))), ?_⟩
  obtain ⟨za, zp⟩ := bk_bn L0 a1 a2 t1 t2 Sb
  obtain ⟨za', zp'⟩ := bk_bn L0 b1 b2 g1 g2 Sb
  have mw : ∀ {j k : Nat} {x y : Int}, Bn (j + 1) x → Bn (k + 1) y → j + k ≤ 900000 → CMulW x y := fun hx hy h => wide_mul hx hy (by omega) (by omega) (by omega)
  refine ⟨_, rfl, u, _, rfl, SqT.of et, rfl, _, _, rfl, _, _, rfl, _, _, rfl, _, _, rfl, rfl, ?_⟩
  refine ⟨_, rfl, v, _, rfl, SqT.of eg, rfl, _, _, rfl, _, _, rfl, _, _, rfl, _, _, rfl, rfl, ?_⟩
  have m1 : Bn 20000 (At * At) := (za.mul za).mono (by decide)
  have m2 : Bn 20000 (Ag * Ag) := (za'.mul za').mono (by decide)
  have m3 : Bn 20001 (Pt + At * At) := (zp.mono (by decide)).add m1
  have m4 : Bn 20001 (Pg - Ag * Ag) := (zp'.mono (by decide)).sub m2
  have r := touchB S0 L0 a1 a2 b1 b2
  rw [← r] at fin
  exact ⟨_, rfl, _, rfl, _, rfl, _, _, rfl, rfl, mw za za (by decide), _, _, rfl, rfl, _, rfl, _, _, rfl, rfl, mw m3 za' (by decide), _, rfl, _, rfl, _, rfl, _, _, rfl, rfl, mw za' za' (by decide), _, _, rfl, rfl, _, rfl, _, _, rfl, rfl, mw m4 za (by decide), _, _, rfl, rfl, fin⟩
theorem ok_jn (T : Txt K mg) : FnOk P w K mg base CX0 1 T.f_joined T.d_joined ["one", "other"] spJn := by
  have nd := sc_joined.nd
  refine T.F_joined.ok sc_joined (fun vs H Q E ⟨_, _, _, _, _, _, e, _⟩ => by rw [e]; rfl) (fun cdv A outer s H vs Q E hr h => ?_)
  obtain ⟨u, v, t, g, S, L, rfl, ⟨At, Pt, et, a1, a2⟩, ⟨Ag, Pg, eg, b1, b2⟩, fin⟩ := h
  refine ⟨_, pss_cons (ps_asg (pv 0) (pg_tup rfl (pgs_cons (pg_name (i := 2) nd rfl (.inl rfl)) (pgs_cons (pg_name (i := 3) nd rfl (.inl rfl)) (pgs_cons (pg_name (i := 4) nd rfl (.inl rfl)) (pgs_cons (pg_name (i := 5) nd rfl (.inl rfl)) pgs_nil))))))
    (pss_cons (ps_asg (pv 1) (pg_tup rfl (pgs_cons (pg_name (i := 3) nd rfl (.inl rfl)) (pgs_cons (pg_name (i := 6) nd rfl (.inl rfl)) (pgs_cons (pg_name (i := 7) nd rfl (.inl rfl)) (pgs_cons (pg_name (i := 8) nd rfl (.inl rfl)) pgs_nil))))))
    (pss_one (ps_ret (pe_tup (by exact (pa_cons (pv 2) (pa_cons (pv 6) (pa_cons (pe_op op_add (pv 4) (pv 7)) (pa_cons (pe_op op_add (pv 5) (pv 8)) pa_nil))))))))), ?_⟩
  refine ⟨_, rfl, u, _, rfl, SqT.of et, rfl, _, _, rfl, _, _, rfl, _, _, rfl, _, _, rfl, rfl, ?_⟩
  refine ⟨_, rfl, v, _, rfl, SqT.of eg, rfl, _, _, rfl, _, _, rfl, _, _, rfl, _, _, rfl, rfl, ?_⟩
  refine ⟨_, rfl, _, rfl, _, rfl, _, rfl, _, _, rfl, rfl, _, rfl, _, rfl, _, _, rfl, rfl, (by show 4 ≤ sizeLine; decide), fun q hq => ?_⟩
  refine fin q _ (same_upd hq) ⟨At + Ag, Pt + Pg, upd_same, ?_, ?_⟩
  · show _ = (t.x.2 + g.x.2) * S
    rw [Int.add_mul, Int.add_mul, a1, b1]
  · show _ = 2 * (t.x.1 + g.x.1) * (S * S)
    rw [Int.add_mul, a2, b2, Int.mul_add, Int.add_mul]
theorem ok_held (T : Txt K mg) : FnOk P w K mg base CX0 1 T.f_held T.d_held ["block", "walls"] spHeld := by
  refine T.F_held.ok sc_held (fun vs H Q E ⟨_, e, _⟩ => by rw [e]; rfl) (fun cdv A outer s H vs Q E hr h => ?_)
  obtain ⟨u, rfl, fin⟩ := h
  refine ⟨_, pss_cons (ps_if (pt_cmpR op_isN (pv 1) pe_non (nomark _)) (pss_one (ps_ret (pv 0))) pss_nil) pss_never, ?_⟩
  exact ⟨_, rfl, rfl, _, rfl, iteT ⟨_, rfl, fin⟩⟩
end
/-- the blocks of the drops, each alone -/
def ownB (ds : List DD) : List Bk := ds.mapIdx fun i x => ⟨(i : Int), (i : Int), x⟩
theorem ownB_x (ds : List DD) : (ownB ds).map Bk.x = ds := by
  refine List.ext_getElem? fun i => ?_
  unfold ownB
  rw [List.getElem?_map, List.getElem?_mapIdx]
  cases ds[i]? <;> rfl
theorem ownB_get {ds : List DD} {i : Nat} {x : DD} (h : ds[i]? = some x) : (ownB ds)[i]? = some ⟨(i : Int), (i : Int), x⟩ := by
  unfold ownB
  rw [List.getElem?_mapIdx, h]; rfl
theorem ownB_len (ds : List DD) : (ownB ds).length = ds.length := by unfold ownB; rw [List.length_mapIdx]
theorem take_get {α : Type} {l : List α} {i : Nat} {x : α} (h : l[i]? = some x) : l.take (i + 1) = l.take i ++ [x] := by
  have hi : i < l.length := (List.getElem?_eq_some_iff.mp h).1
  rw [List.take_succ_eq_append_getElem hi]
  rw [List.getElem?_eq_getElem hi] at h
  rw [Option.some.inj h]
/-- a list of addresses, one longer -/
theorem BksAt.snoc {H : Hp} {S L : Int} {us : List Addr} {bs : List Bk} {u : Addr} {b : Bk} (h : BksAt H S L us bs) (hu : BkAt H S L u b) : BksAt H S L (us ++ [u]) (bs ++ [b]) := by
  refine ⟨by rw [List.length_append, List.length_append, h.1]; rfl, fun i v c e1 e2 => ?_⟩
  rcases Nat.lt_or_ge i us.length with q | q
  · rw [List.getElem?_append_left q] at e1
    rw [List.getElem?_append_left (by rw [h.1]; exact q)] at e2
    exact h.2 i v c e1 e2
  · rw [List.getElem?_append_right q] at e1
    rw [List.getElem?_append_right (by rw [h.1]; exact q), h.1] at e2
    obtain z : i - us.length = 0 := by
      have := (List.getElem?_eq_some_iff.mp e1).1
      simp at this
      omega
    rw [z] at e1 e2
    cases e1
    cases e2
    exact hu
theorem blk_pull {S L A k : Int} {x : DD} (hx : 0 < x.2) (L0 : 0 < L) (e1 : A * L = x.2 * S) (e2 : k * (x.2 * L) = x.1 * S) : 2 * A * k * (L * L) = 2 * x.1 * (S * S) := by
  refine Int.eq_of_mul_eq_mul_right (show x.2 ≠ 0 by omega) ?_
  have h : 2 * A * k * (L * L) * x.2 = 2 * (A * L) * (k * (x.2 * L)) := by grind
  rw [h, e1, e2]
  grind
def spBlks (K : PySem.W.Frag) (C : Addr) : Sp := fun vs H Q _ => ∃ (l : Addr) (rs : List Addr) (ps : List Qd) (ds : List DD) (n : Nat) (L S : Int), vs = [.ref l, .int S] ∧ SqL K H l (rs.map V.ref) ∧ RowsQ C H rs ps ∧ QdsX n L ps ds ∧ DenZ S ps ∧ 0 < L ∧ 0 < S ∧ Bn 4000 S ∧ n ≤ 1500 ∧ rs.length ≤ 1000 ∧
  ∀ p H' us, Same H H' → H p = none → H' p = some (.lst (us.map V.ref)) → BksAt H' S L us (ownB ds) → Q (.ref p) H'
section
variable {P : Program} {w : World} {K : PySem.W.Frag} {mg : Str → Option Value} {base : Heap}
theorem ok_blks (T : Txt K mg) : FnOk P w K mg base CX0 2 T.f_blocks_of T.d_blocks_of ["pairs", "scale"] (spBlks K T.C_Ratio) := by
  have nd := sc_blocks_of.nd
  refine T.F_blocks_of.ok sc_blocks_of (fun vs H Q E ⟨_, _, _, _, _, _, _, e, _⟩ => by rw [e]; rfl) (fun cdv A outer s H vs Q E hr h => ?_)
  obtain ⟨l, rs, ps, ds, n, L, S, rfl, hl, hR, hX, hD, L0, S0, Sb, hn, few, fin⟩ := h
  refine ⟨_, pss_cons (ps_set (i := 2) nd rfl (.inl rfl) (pe_lst pa_nil))
    (pss_cons (ps_for PassesOwn.never rfl (pi_enum (by rfl) T.b_enumerate (pa_cons (pv 0) pa_nil)) (pg_tup rfl (pgs_cons (pg_name (i := 3) nd rfl (.inl rfl)) (pgs_cons (pg_tup rfl (pgs_cons (pg_name (i := 4) nd rfl (.inl rfl)) (pgs_cons (pg_name (i := 5) nd rfl (.inl rfl)) pgs_nil))) pgs_nil)))
      (pss_cons (ps_set (i := 6) nd rfl (.inl rfl) (pe_f (E := fun _ => E0) (ok_sca T) (hr.mono (by decide)) (by rfl) T.g_scaled T.F_scaled.kp T.B_scaled (fun _ => at0) (pa_cons (pv 5) (pa_cons (pv 1) pa_nil))))
      (pss_one (ps_expr (pe_bm PySem.F.plainAttrs_list PySem.F.slot_list_append PySem.F.type_list_append mt_append (pv 2) (pa_cons (pe_tup (by exact (pa_cons (pv 3) (pa_cons (pv 3) (pa_cons (pv 6) (pa_cons (pe_op op_mulW (pe_op op_mulW pe_int (pv 6)) (pe_f (E := fun _ => E0) (ok_sca T) (hr.mono (by decide)) (by rfl) T.g_scaled T.F_scaled.kp T.B_scaled (fun _ => at0) (pa_cons (pv 4) (pa_cons (pv 1) pa_nil)))) pa_nil)))))) pa_nil))))))
    (pss_one (ps_ret (pv 2)))), ?_⟩
  refine ⟨Nat.zero_le _, fun p hp => ?_⟩
  have pH : ∀ {G : Hp} {xs : List V}, Same H G → Same H (upd G p (.lst xs)) := fun {G xs} s b o e => by
    rw [upd_ne (fun z => by rw [z, hp] at e; cases e)]; exact s _ _ e
  have s0 : Same H (upd H p (.lst [])) := same_upd hp
  refine ⟨_, rfl, l, _, rfl, s0.seq hl, for_it (walk_enum (xs := rs.map V.ref)) (fun i σ' G => Same H G ∧ ∃ (us : List Addr) (v3 v4 v5 v6 : Option V), σ' = [some (.ref l), some (.int S), some (.ref p), v3, v4, v5, v6] ∧ G p = some (.lst (us.map V.ref)) ∧ BksAt G S L us ((ownB ds).take i))
    ⟨s0, [], _, _, _, _, rfl, upd_same, rfl, fun i u b e => by simp at e⟩ (fun i σ' G _ h => h.1.seq hl) ?_ ?_⟩
  · rintro i x σ' G G' hi ⟨sG, us, v3, v4, v5, v6, rfl, ep, hU⟩ ⟨tz, x1, x2, rfl, nz, rfl, e1, e2⟩
    cases e1
    rw [List.length_map] at hi
    obtain ⟨r, er, rfl⟩ := ref_get e2
    have sz : Same G (upd G tz (.tup [.int (i : Nat), .ref r])) := same_upd nz
    have hi2 : i < ps.length := by rw [hR.1]; exact hi
    have hi3 : i < ds.length := by have := hX.1; omega
    have ez : ps[i]? = some ps[i] := List.getElem?_eq_getElem hi2
    generalize ps[i] = z at ez
    have ex : ds[i]? = some ds[i] := List.getElem?_eq_getElem hi3
    generalize ds[i] = xd at ex
    obtain ⟨m, v, e, r1, r2⟩ := (hR.same (sG.trans sz)).2 i r z er ez
    obtain ⟨b0, d0, bz, dz⟩ := hD z (List.mem_of_getElem? ez)
    obtain ⟨qx, za, zb, zc, zd⟩ := hX.2 i z xd ez ex
    obtain ⟨f1, f2⟩ := lv_x qx b0 d0 bz dz
    have s2 := sG.trans sz
    have za1 : Bn 8000 (2 * lv2 S z) := (bn2.mul (lv_bn d0 (lv2_eq dz) zc Sb)).mono (by omega)
    have zk : Bn 8000 (lv1 S z) := (lv_bn b0 (lv1_eq bz) za Sb).mono (by omega)
    have zl : Bn 8000 (lv2 S z) := (lv_bn d0 (lv2_eq dz) zc Sb).mono (by omega)
    have ep2 : (upd G tz (.tup [.int (i : Nat), .ref r])) p = some (.lst (us.map V.ref)) := sz _ _ ep
    have hU2 := hU.same sz
    have etz : (upd G tz (.tup [.int (i : Nat), .ref r])) tz = some (.tup [.int (i : Nat), .ref r]) := upd_same
    have lenu : us.length = i := by rw [← hU.1, List.length_take, ownB_len]; omega
    generalize upd G tz (.tup [.int (i : Nat), .ref r]) = G2 at *
    refine ⟨tz, _, rfl, SqT.of etz, rfl, _, _, rfl, _, _, rfl, r, _, rfl, SqT.of e, rfl, _, _, rfl, _, _, rfl, rfl, rfl, ?_⟩
    refine ⟨_, rfl, _, rfl, v, z.c, z.d, S, rfl, r2, d0, dz, S0, zc.mono (by omega), Sb.mono (by decide), fun j hj => ?_⟩
    obtain rfl := lv_un d0 hj (lv2_eq dz)
    refine ⟨_, rfl, .inl ⟨rfl, _, SqL.of ep2⟩, _, rfl, _, rfl, _, rfl, _, rfl, _, _, rfl, rfl, wide_mul (bn2.mono (k := 8000) (by decide)) zl (by decide) (by decide) (by decide), _, rfl, _, rfl, m, z.a, z.b, S, rfl, r1, b0, bz, S0, za.mono (by omega), Sb.mono (by decide), fun j hj => ?_⟩
    obtain rfl := lv_un b0 hj (lv1_eq bz)
    refine ⟨_, _, rfl, rfl, wide_mul za1 zk (by decide) (by decide) (by decide), (by show 4 ≤ sizeLine; decide), fun u hu => ?_⟩
    have su := same_upd (o := .tup [.int (i : Nat), .int (i : Nat), .int (lv2 S z), .int (2 * lv2 S z * lv1 S z)]) hu
    refine ⟨p, _, _, rfl, rfl, su _ _ ep2, by rw [List.length_map, lenu]; exact small1000 (by omega), ?_⟩
    refine ⟨pH (s2.trans su), us ++ [u], _, _, _, _, rfl, by rw [upd_same, List.map_append]; rfl, ?_⟩
    rw [take_get (ownB_get ex)]
    exact ((hU2.same su).butL (su _ _ ep2) But.upd).snoc ((show BkAt _ S L u ⟨(i : Int), (i : Int), xd⟩ from ⟨_, _, upd_same, f2, blk_pull qx.2.2 L0 f2 f1⟩).butL (su _ _ ep2) But.upd)
  · rintro σ' G ⟨sG, us, v3, v4, v5, v6, rfl, ep, hU⟩
    rw [List.length_map, show rs.length = (ownB ds).length by rw [ownB_len, ← hX.1, hR.1], List.take_length] at hU
    exact ⟨_, rfl, fin p G us sG hp ep hU⟩
end
theorem take_sz {n : Nat} {L : Int} {ds : List DD} {i : Nat} {x : DD} (h : Szs n L ds) (e : ds[i]? = some x) : Szs n L (x :: stkD (ds.take i)) := by
  have hi : i < ds.length := (List.getElem?_eq_some_iff.mp e).1
  have hx : ds[i] = x := by rw [List.getElem?_eq_getElem hi] at e; exact Option.some.inj e
  have t := List.take_append_drop (i + 1) ds
  obtain ⟨g1, g2, _⟩ := stk_sz (ds.take i)
  have h6 : sz1 ds = sz1 (ds.take (i + 1)) + sz1 (ds.drop (i + 1)) := by rw [← sz1_app, t]
  have h7 : sz2 ds = sz2 (ds.take (i + 1)) + sz2 (ds.drop (i + 1)) := by rw [← sz2_app, t]
  rw [List.take_succ_eq_append_getElem hi, hx, sz1_app, sz1_cons] at h6
  rw [List.take_succ_eq_append_getElem hi, hx, sz2_app, sz2_cons] at h7
  refine ⟨Nat.lt_of_le_of_lt ?_ h.1, Nat.lt_of_le_of_lt (Nat.mul_le_mul_right _ ?_) h.2⟩
  · rw [sz1_cons]; omega
  · rw [sz2_cons]; omega
theorem pushB_len : ∀ (st : List Bk) (g : Bk), (pushB st g).length ≤ st.length + 1
  | [], g => Nat.le_refl _
  | t :: st, g => by
    unfold pushB
    by_cases c : tchD t.x g.x = true
    · rw [if_pos c]
      have := pushB_len st (joinB t g)
      rw [List.length_cons]
      omega
    · rw [if_neg c]; simp
def spRunT (K : PySem.W.Frag) : Sp := fun vs H Q _ => ∃ (l : Addr) (us : List Addr) (bs : List Bk) (n : Nat) (S L : Int), vs = [.ref l, .non] ∧ SqL K H l (us.map V.ref) ∧ BksAt H S L us bs ∧ 0 < S ∧ 0 < L ∧ Bn 4000 S ∧ Szs n L (bs.map Bk.x) ∧ n ≤ 300 ∧ us.length ≤ 1000 ∧
  ∀ p H' us', Same H H' → H p = none → H' p = some (.lst (us'.map V.ref)) → BksAt H' S L us' (stkB bs).reverse → Q (.ref p) H'
theorem Szd.bn2 {x : DD} {n : Nat} {L : Int} (h : Szd n L x) (L0 : 0 < L) : Bn n x.1 ∧ Bn n x.2 := ⟨h.1, Nat.lt_of_le_of_lt (Nat.le_mul_of_pos_right _ (by omega)) h.2⟩
section
variable {P : Program} {w : World} {K : PySem.W.Frag} {mg : Str → Option Value} {base : Heap}
theorem kb_run1 (T : Txt K mg) : ∃ its : List Value, KBn K T.d_run_together ["blocks", "walls"] 1 [] (fun us _ => us ++ its) (fun vs _ => vs ++ [V.non]) := by
  obtain ⟨its, h⟩ := FunD.kbindsD T.F_run_together (ps := ["blocks", "walls"]) 1 [] (fun us its _ => us ++ its) (by decide) (fun r r2 _ => r.append r2) (fun Tt kV doc pm an cdv ct us its ws l1 l2 l3 => by
    match us, its, ws, l1, l2, l3 with
    | [a], [i], [], _, _, _ => exact ⟨_, rfl, rfl⟩)
  exact ⟨its, h⟩
theorem ok_rt (T : Txt K mg) : FnOk P w K mg base CX0 2 T.f_run_together T.d_run_together ["blocks", "walls"] (spRunT K) := by
  have nd := sc_run_together.nd
  refine T.F_run_together.ok sc_run_together (fun vs H Q E ⟨_, _, _, _, _, _, e, _⟩ => by rw [e]; rfl) (fun cdv A outer s H vs Q E hr h => ?_)
  obtain ⟨l, us, bs, n, S, L, rfl, hl, hB, S0, L0, Sb, sz, hn, few, fin⟩ := h
  refine ⟨_, pss_cons (ps_set (i := 2) nd rfl (.inl rfl) (pe_lst pa_nil))
    (pss_cons (ps_for (passes_of rfl) rfl (pi_list (pv 0)) (pg_name (i := 3) nd rfl (.inl rfl))
      (pss_cons (ps_set (i := 4) nd rfl (.inl rfl) (pe_f (E := fun _ => E0) (ok_held T) (hr.mono (by decide)) (by rfl) T.g_held T.F_held.kp T.B_held (fun _ => at0) (pa_cons (pv 3) (pa_cons (pv 1) pa_nil))))
      (C8.pss_cut (ps_while (passes_of rfl) (PW.pt (pw_and (pt_truth (pv 2) (fun _ => rfl)) (pw_and1 (pt_val (pe_f (E := fun _ => E0) (ok_bt T) (hr.mono (by decide)) (by rfl) T.g_touch T.F_touch.kp T.B_touch (fun _ => at0) (pa_cons (pe_ix ix_list (pv 2) (pe_un un_neg pe_int) (fun _ _ => rfl)) (pa_cons (pv 4) pa_nil)))))))
          (pss_one (ps_set (i := 4) nd rfl (.inl rfl) (pe_f (E := fun _ => E0) (ok_held T) (hr.mono (by decide)) (by rfl) T.g_held T.F_held.kp T.B_held (fun _ => at0) (pa_cons (pe_f (E := fun _ => E0) (ok_jn T) (hr.mono (by decide)) (by rfl) T.g_joined T.F_joined.kp T.B_joined (fun _ => at0) (pa_cons (pe_bm0 PySem.F.plainAttrs_list PySem.F.slot_list_pop PySem.F.type_list_pop mt_pop (pv 2)) (pa_cons (pv 4) pa_nil))) (pa_cons (pv 1) pa_nil))))))
      (pss_one (ps_expr (pe_bm PySem.F.plainAttrs_list PySem.F.slot_list_append PySem.F.type_list_append mt_append (pv 2) (pa_cons (pv 4) pa_nil)))))))
    (pss_one (ps_ret (pv 2)))), ?_⟩
  refine ⟨Nat.zero_le _, fun p hp => ?_⟩
  have pH : ∀ {G : Hp} {xs : List V}, Same H G → Same H (upd G p (.lst xs)) := fun {G xs} s b o e => by
    rw [upd_ne (fun z => by rw [z, hp] at e; cases e)]; exact s _ _ e
  have s0 : Same H (upd H p (.lst [])) := same_upd hp
  have lm : (bs.map Bk.x).length = us.length := by rw [List.length_map, hB.1]
  refine ⟨_, rfl, l, rfl, ⟨_, s0.seq hl⟩, for_list (xs := us.map V.ref) (fun i σ' G => Same H G ∧ ∃ (st : List Addr) (v3 v4 : Option V), σ' = [some (.ref l), some .non, some (.ref p), v3, v4] ∧ G p = some (.lst (st.reverse.map V.ref)) ∧ BksAt G S L st (stkB (bs.take i)))
    ⟨s0, [], _, _, rfl, upd_same, rfl, fun i u b e => by simp at e⟩ (fun i σ' G _ h => h.1.seq hl) ?_ ?_⟩
  · rintro i x0 σ' G hx ⟨sG, st0, v3, v4, rfl, ep, hS⟩
    obtain ⟨u, eu, rfl⟩ := ref_get hx
    have hi : i < bs.length := by rw [hB.1]; exact (List.getElem?_eq_some_iff.mp eu).1
    have eb : bs[i]? = some bs[i] := List.getElem?_eq_getElem hi
    generalize bs[i] = b at eb
    have push : stkB (bs.take (i + 1)) = pushB (stkB (bs.take i)) b := by rw [take_get eb, stkB_snoc]
    have em : (bs.map Bk.x)[i]? = some b.x := by rw [List.getElem?_map, eb]; rfl
    have zs0 := take_sz sz em
    rw [← List.map_take, ← stkB_x] at zs0
    have len0 : (stkB (bs.take i)).length ≤ 1000 := by
      have h1 := (stk_sz ((bs.map Bk.x).take i)).2.2
      rw [List.length_take, ← List.map_take, ← stkB_x, List.length_map] at h1
      omega
    generalize hst : stkB (bs.take i) = stk at *
    have hb := (hB.2 i u b eu eb).same sG
    refine ⟨_, rfl, _, rfl, u, rfl, ?_⟩
    refine ⟨fun σ2 G4 => Same H G4 ∧ ∃ (qs' : List Addr) (st : List Bk) (fa : Addr) (fb : Bk) (w3 : Option V), σ2 = [some (.ref l), some .non, some (.ref p), w3, some (.ref fa)] ∧ G4 p = some (.lst (qs'.reverse.map V.ref)) ∧ BksAt G4 S L qs' st ∧ BkAt G4 S L fa fb ∧ pushB stk b = fb :: st ∧ st.length ≤ 1000, ?_, ?_⟩
    · refine ⟨fun k σ2 G4 => Same H G4 ∧ ∃ (qs' : List Addr) (st : List Bk) (fa : Addr) (fb : Bk) (w3 : Option V), σ2 = [some (.ref l), some .non, some (.ref p), w3, some (.ref fa)] ∧ G4 p = some (.lst (qs'.reverse.map V.ref)) ∧ BksAt G4 S L qs' st ∧ BkAt G4 S L fa fb ∧ pushB stk b = pushB st fb ∧ Szs n L ((fb :: st).map Bk.x) ∧ k = st.length ∧ st.length ≤ 1000,
        ⟨stk.length, sG, st0, stk, u, b, _, rfl, ep, hS, hb, rfl, zs0, rfl, len0⟩, ?_⟩
      rintro k σ2 G4 ⟨s4, qs', st, fa, fb, w3, rfl, ep4, hS4, hf4, hpush, z4, rfl, few4⟩
      cases st with
      | nil =>
        obtain rfl : qs' = [] := by have := hS4.1; simpa using this.symm
        refine ⟨_, rfl, false, .inl ⟨_, SqL.of ep4, rfl⟩, iteF (iteF ⟨s4, [], [], fa, fb, _, rfl, ep4, hS4, hf4, hpush, Nat.zero_le _⟩)⟩
      | cons t st =>
        cases qs' with
        | nil => have := hS4.1; simp at this
        | cons q qs' =>
          obtain ⟨hq4, hS5⟩ := BksAt.cons.mp hS4
          have lastv : ((q :: qs').reverse.map V.ref) = qs'.reverse.map V.ref ++ [V.ref q] := by rw [List.reverse_cons, List.map_append]; rfl
          rw [lastv] at ep4
          obtain ⟨bf1, bf2⟩ := (z4.at_ (x := fb.x) (by simp)).bn2 L0
          obtain ⟨bt1, bt2⟩ := (z4.at_ (x := t.x) (by simp)).bn2 L0
          refine ⟨_, rfl, true, .inl ⟨_, SqL.of ep4, by simp⟩, iteT ?_⟩
          refine ⟨_, rfl, _, rfl, p, _, _, .ref q, rfl, rfl, SqL.of ep4, atI_last _ _, _, rfl, q, fa, t, fb, S, L, rfl, hq4, hf4, S0, L0, Sb, bt1.mono hn, bt2.mono hn, bf1.mono hn, bf2.mono hn, _, rfl, ?_⟩
          refine ite2 (fun ht => ?_) (fun ht => ?_)
          · -- they run together
            refine ⟨fun σ' G' => Same H G' ∧ ∃ (qs' : List Addr) (st' : List Bk) (fa : Addr) (fb : Bk) (w3 : Option V), σ' = [some (.ref l), some .non, some (.ref p), w3, some (.ref fa)] ∧ G' p = some (.lst (qs'.reverse.map V.ref)) ∧ BksAt G' S L qs' st' ∧ BkAt G' S L fa fb ∧ pushB stk b = pushB st' fb ∧ Szs n L ((fb :: st').map Bk.x) ∧ st.length = st'.length ∧ st'.length ≤ 1000, fun σ' G' h => ⟨st.length, Nat.lt_succ_self _, h⟩, ?_⟩
            refine ⟨_, rfl, .inl ⟨rfl, _, SqL.of ep4⟩, p, _, .ref q, rfl, rfl, ep4, by simp, ?_⟩
            rw [List.dropLast_concat]
            have bt : But p G4 (upd G4 p (.lst (qs'.reverse.map V.ref))) := But.upd
            refine ⟨_, rfl, q, fa, t, fb, S, L, rfl, hq4.butL ep4 bt, hf4.butL ep4 bt, fun j G7 s7 hj => ⟨_, rfl, j, rfl, ?_⟩⟩
            refine ⟨(pH s4).trans s7, qs', st, j, joinB t fb, _, rfl, s7 _ _ upd_same, (hS5.butL ep4 bt).same s7, hj, ?_, ?_, rfl, by simp at few4; omega⟩
            · rw [hpush]
              show (if tchD t.x fb.x = true then pushB st (joinB t fb) else _) = _
              rw [if_pos ht]
            · exact z4.merge
          · refine ⟨s4, q :: qs', t :: st, fa, fb, _, rfl, by rw [lastv]; exact ep4, hS4, hf4, ?_, few4⟩
            rw [hpush]
            show (if tchD t.x fb.x = true then pushB st (joinB t fb) else _) = _
            rw [if_neg ht]
    · rintro σ2 G4 ⟨s4, qs', st, fa, fb, w3, rfl, ep4, hS4, hf4, hpush, few4⟩
      have bt : But p G4 (upd G4 p (.lst (qs'.reverse.map V.ref ++ [V.ref fa]))) := But.upd
      refine ⟨_, rfl, .inl ⟨rfl, _, SqL.of ep4⟩, _, rfl, p, _, _, rfl, rfl, ep4, by rw [List.length_map, List.length_reverse, ← hS4.1]; exact small1000 few4, ?_⟩
      refine ⟨pH s4, fa :: qs', _, _, rfl, by rw [upd_same, List.reverse_cons, List.map_append]; rfl, ?_⟩
      rw [push, hpush]
      exact BksAt.cons.mpr ⟨hf4.butL ep4 bt, hS4.butL ep4 bt⟩
  · rintro σ' G ⟨sG, st, v3, v4, rfl, ep, hS⟩
    rw [List.length_map, ← hB.1, List.take_length] at hS
    exact ⟨_, rfl, fin p G st.reverse sG hp ep hS.rev⟩
end
theorem pushD_pos : ∀ {st : List DD} {f : DD}, (∀ x ∈ st, 0 < x.2) → 0 < f.2 → ∀ x ∈ pushD st f, 0 < x.2
  | [], f, _, hf, x, hx => by rw [List.mem_singleton.mp hx]; exact hf
  | t :: st, f, h, hf, x, hx => by
    unfold pushD at hx
    by_cases c : tchD t f = true
    · rw [if_pos c] at hx
      exact pushD_pos (st := st) (fun y hy => h y (List.mem_cons_of_mem _ hy)) (Int.add_pos (h t List.mem_cons_self) hf) x hx
    · rw [if_neg c] at hx
      rcases List.mem_cons.mp hx with rfl | hx
      · exact hf
      · exact h x hx
theorem stkD_pos {ds : List DD} (h : ∀ x ∈ ds, 0 < x.2) : ∀ x ∈ stkD ds, 0 < x.2 := by
  have : ∀ (ds st : List DD), (∀ x ∈ ds, 0 < x.2) → (∀ x ∈ st, 0 < x.2) → ∀ x ∈ ds.foldl pushD st, 0 < x.2 := by
    intro ds
    induction ds with
    | nil => intro st _ h2; exact h2
    | cons d ds ih =>
      intro st h1 h2
      rw [List.foldl_cons]
      exact ih _ (fun x hx => h1 x (List.mem_cons_of_mem _ hx)) (pushD_pos h2 (h1 d List.mem_cons_self))
  exact this ds [] h fun x hx => by cases hx
theorem MwsAt.snoc {CP C : Addr} {H : Hp} {L : Int} {qs : List Addr} {ds : List DD} {q : Addr} {x : DD} (h : MwsAt CP C H L qs ds) (hq : MwAt CP C H L q x) : MwsAt CP C H L (qs ++ [q]) (ds ++ [x]) := by
  refine ⟨by rw [List.length_append, List.length_append, h.1]; rfl, fun i v c e1 e2 => ?_⟩
  rcases Nat.lt_or_ge i qs.length with q | q
  · rw [List.getElem?_append_left q] at e1
    rw [List.getElem?_append_left (by rw [h.1]; exact q)] at e2
    exact h.2 i v c e1 e2
  · rw [List.getElem?_append_right q] at e1
    rw [List.getElem?_append_right (by rw [h.1]; exact q), h.1] at e2
    obtain z : i - qs.length = 0 := by
      have := (List.getElem?_eq_some_iff.mp e1).1
      simp at this
      omega
    rw [z] at e1 e2
    cases e1
    cases e2
    exact hq
theorem vol_pos' {A L W S : Int} (w : 0 < W) (s : 0 < S) (l : 0 < L) (e : A * L = W * S) : 0 < A := by
  have : 0 < A * L := by rw [e]; exact Int.mul_pos w s
  exact Int.pos_of_mul_pos_left this l
theorem stp_key {N D A P S L M W : Int} (S0 : S ≠ 0) (hA : A * L = W * S) (hP : P * (L * L) = 2 * M * (S * S)) (h : N * (2 * A * S) = P * D) : N * (W * L) = M * D := by
  refine Int.eq_of_mul_eq_mul_right (show 2 * (S * S) ≠ 0 by have := Int.mul_ne_zero S0 S0; omega) ?_
  have e : N * (W * L) * (2 * (S * S)) = N * (2 * (W * S) * S) * L := by grind
  rw [e, ← hA]
  have e2 : N * (2 * (A * L) * S) * L = N * (2 * A * S) * (L * L) := by grind
  rw [e2, h]
  have e3 : P * D * (L * L) = P * (L * L) * D := by grind
  rw [e3, hP]
  grind
def spStp (K : PySem.W.Frag) (CP C : Addr) : Sp := fun vs H Q _ => ∃ (l : Addr) (rs : List Addr) (ps : List Qd) (ds : List DD) (n : Nat) (L Z : Int), vs = [.ref l] ∧ SqL K H l (rs.map V.ref) ∧ RowsQ C H rs ps ∧ QdsX n L ps ds ∧ DenZ Z ps ∧ 0 < L ∧ 0 < Z ∧ Bn 3500 Z ∧ Szs n L ds ∧ n ≤ 200 ∧ rs.length ≤ 1000 ∧
  ∀ p H' ws, Same H H' → H p = none → H' p = some (.lst (ws.map V.ref)) → MwsAt CP C H' L ws (polD ds) → Q (.ref p) H'
section
variable {P : Program} {w : World} {K : PySem.W.Frag} {mg : Str → Option Value} {base : Heap}
theorem ok_stp (T : Txt K mg) : FnOk P w K mg base CX0 10 T.f_settled_pools T.d_settled_pools ["pairs"] (spStp K T.C_Pool T.C_Ratio) := by
  have nd := sc_settled_pools.nd
  obtain ⟨its2, kb2⟩ := kb_init2 T
  obtain ⟨its, kbr⟩ := kb_run1 T
  have kbi := Binds.kbn T.B_Pool_init_d (n := 3) rfl
  have M : Mk K T.C_Ratio T.f_Ratio_init_d := ⟨T.mk_Ratio, T.m_Ratio_init_d.at_, T.m_Ratio_init_d.fn, T.kp_Ratio⟩
  have MP : Mk K T.C_Pool T.f_Pool_init_d := ⟨T.mk_Pool, T.m_Pool_init_d.at_, T.m_Pool_init_d.fn, T.kp_Pool⟩
  refine T.F_settled_pools.ok sc_settled_pools (fun vs H Q E ⟨_, _, _, _, _, _, _, e, _⟩ => by rw [e]; rfl) (fun cdv A outer s H vs Q E hr h => ?_)
  obtain ⟨l, rs, ps, ds, n, L, Z, rfl, hl, hR, hX, hZ, L0, Z0, Zb, sz, hn, few, fin⟩ := h
  refine ⟨_, pss_cons (ps_set (i := 1) nd rfl (.inr rfl) (pe_f (E := fun _ => E0) (ok_scl T) (hr.mono (by decide)) (by rfl) T.g_scale_of T.F_scale_of.kp T.B_scale_of (fun _ => at0) (pa_cons (pv 0) pa_nil)))
    (pss_cons (ps_set (i := 2) nd rfl (.inl rfl) (pe_fP (E := fun _ => E0) (ok_rt T) (hr.mono (by decide)) (by rfl) T.g_run_together T.F_run_together.kp kbr (fun _ => at0) (pa_cons (pe_f (E := fun _ => E0) (ok_blks T) (hr.mono (by decide)) (by rfl) T.g_blocks_of T.F_blocks_of.kp T.B_blocks_of (fun _ => at0) (pa_cons (pv 0) (pa_cons (pv 1) pa_nil))) pa_nil)))
    (pss_one (ps_ret (pe_lc (own := [("_", 3), ("volume", 4), ("pull", 5)]) (g := gTup K 4 (gCons (gName 3) (gCons (gName 3) (gCons (gName 4) (gCons (gName 5) gNil))))) (tt := tYes)
        (te := tMk T.C_Pool 2 (spPInit T.C_Pool T.C_Ratio T.C_InvalidNumber) (fun vs _ => vs) (fun _ => E0) (tCons (tMk T.C_Ratio 2 (spInit T.C_Ratio T.C_InvalidNumber) (fun vs _ => vs) (fun _ => E0) (tCons (tVar 5) (tCons (tOp (rI CMulW fun i j => .int (i * j)) (tOp (rI CMulW fun i j => .int (i * j)) (tC (.int 2)) (tVar 4)) (tVar 1)) tNil)) tNil) (tCons (tMk T.C_Ratio 2 (spInit T.C_Ratio T.C_InvalidNumber) (fun vs _ => vs) (fun _ => E0) (tCons (tVar 4) (tCons (tVar 1) tNil)) tNil) tNil)) tNil) rfl nd (pi_list (pv 2))
        (blkOk_by (own := [("_", 3), ("volume", 4), ("pull", 5)]) (N := ["pairs", "scale", "blocks", "_", "volume", "pull"]) (sc := defScope s_settled_pools) (by decide +kernel)) (fun _ _ _ _ _ => pg_tup rfl (pgs_cons (pg_name (i := 3) nd rfl (.inl rfl)) (pgs_cons (pg_name (i := 3) nd rfl (.inl rfl)) (pgs_cons (pg_name (i := 4) nd rfl (.inl rfl)) (pgs_cons (pg_name (i := 5) nd rfl (.inl rfl)) pgs_nil))))) (fun _ _ _ _ _ => pts_nil)
        (fun _ _ _ _ _ => pe_mkP (n := 2) (E := fun _ => E0) MP (ok_pinit T) (hr.mono (by decide)) (by rfl) T.g_Pool kbi (fun _ => atL) (pa_cons (pe_mkP (n := 2) (E := fun _ => E0) M (ok_init T) (hr.mono (by decide)) (by rfl) T.g_Ratio kb2 (fun _ => atL) (pa_cons (pv 5) (pa_cons (pe_op op_mulW (pe_op op_mulW pe_int (pv 4)) (pv 1)) pa_nil))) (pa_cons (pe_mkP (n := 2) (E := fun _ => E0) M (ok_init T) (hr.mono (by decide)) (by rfl) T.g_Ratio kb2 (fun _ => atL) (pa_cons (pv 4) (pa_cons (pv 1) pa_nil))) pa_nil))))))), ?_⟩
  refine ⟨_, rfl, l, rs, ps, Z, rfl, .inl hl, hR, hZ, Z0, Nat.lt_of_lt_of_le Zb (Nat.pow_le_pow_right (by decide) (by decide)), fun S G0 s0 S0 SZ hD => ?_⟩
  have Sb : Bn 3500 S := Zb.le (by have := Int.le_of_dvd Z0 SZ; omega)
  refine ⟨_, rfl, _, rfl, l, rs, ps, ds, n, L, S, rfl, s0.seq hl, hR.same s0, hX, hD, L0, S0, Sb.mono (by decide), by omega, few, fun b0 G1 us s1 n1 e1 hB => ?_⟩
  have lb : us.length = ds.length := by rw [← hB.1, ownB_len]
  refine ⟨rfl, b0, us, ownB ds, n, S, L, rfl, SqL.of e1, hB, S0, L0, Sb.mono (by decide), by rw [ownB_x]; exact sz, by omega, by rw [lb, ← hX.1, hR.1]; exact few, fun p2 G2 ts s2 n2 e2 hT => ?_⟩
  have s02 := s0.trans (s1.trans s2)
  have lt : ts.length = (stkB (ownB ds)).length := by rw [← hT.1, List.length_reverse]
  have xs : (stkB (ownB ds)).reverse.map Bk.x = polD ds := by rw [List.map_reverse, stkB_x, ownB_x]; rfl
  have few2 : ts.length ≤ 1000 := by
    have h := (stk_sz ds).2.2
    have e : (stkB (ownB ds)).length = (stkD ds).length := by have := congrArg List.length (stkB_x (ownB ds)); rw [List.length_map, ownB_x] at this; exact this
    have := hX.1
    have := hR.1
    omega
  have szp : Szs n L (polD ds) := by
    obtain ⟨h1, h2, _⟩ := stk_sz ds
    have r1 : sz1 (polD ds) = sz1 (stkD ds) := by unfold sz1 polD; rw [List.map_reverse, List.sum_reverse]
    have r2 : sz2 (polD ds) = sz2 (stkD ds) := by unfold sz2 polD; rw [List.map_reverse, List.sum_reverse]
    exact ⟨by rw [r1]; exact Nat.lt_of_le_of_lt h1 sz.1, by rw [r2]; exact Nat.lt_of_le_of_lt (Nat.mul_le_mul_right _ h2) sz.2⟩
  have posP : ∀ x ∈ polD ds, 0 < x.2 := by
    have hp : ∀ x ∈ ds, 0 < x.2 := fun x hx => by
      obtain ⟨i, hi, rfl⟩ := List.mem_iff_getElem.mp hx
      have ez : ps[i]? = some (ps[i]'(by rw [hX.1]; exact hi)) := List.getElem?_eq_getElem _
      exact (hX.2 i _ _ ez (List.getElem?_eq_getElem hi)).1.2.2
    exact fun x hx => stkD_pos hp x (List.mem_reverse.mp hx)
  refine ⟨_, rfl, p2, rfl, ⟨_, SqL.of e2⟩, fun D hD0 => lc_list (K := K) (a := p2) (xs := ts.map V.ref) (fun k G => Same G2 G ∧ ∃ ws : List Addr, G D = some (.lst (ws.map V.ref)) ∧ MwsAt T.C_Pool T.C_Ratio G L ws ((polD ds).take k))
    ⟨same_upd hD0, [], upd_same, rfl, fun i q x e => by simp at e⟩ (fun k G _ h => SqL.of (h.1 _ _ e2)) ?_ ?_⟩
  · rintro k y G hy ⟨sG, ws, eD, hW⟩
    obtain ⟨t, et, rfl⟩ := ref_get hy
    have hk : k < (stkB (ownB ds)).reverse.length := by rw [hT.1]; exact (List.getElem?_eq_some_iff.mp et).1
    have eb : (stkB (ownB ds)).reverse[k]? = some (stkB (ownB ds)).reverse[k] := List.getElem?_eq_getElem hk
    generalize (stkB (ownB ds)).reverse[k] = b at eb
    obtain ⟨A, Pl, e, a1, a2⟩ := (hT.2 k t b et eb).same sG
    have ex : (polD ds)[k]? = some b.x := by rw [← xs, List.getElem?_map, eb]; rfl
    have px := posP b.x (List.mem_of_getElem? ex)
    have zx := szp.at_ (List.mem_of_getElem? ex)
    have A0 : 0 < A := vol_pos' px S0 L0 a1
    obtain ⟨bx1, bx2⟩ := zx.bn2 L0
    have wl0 : 0 < b.x.2 * L := Int.mul_pos px L0
    have bwl : Bn n (b.x.2 * L) := by unfold Bn; rw [Int.natAbs_mul]; exact zx.2
    have bL : Bn n L := bwl.le (by rw [Int.natAbs_mul]; exact Nat.le_mul_of_pos_left _ (by omega))
    obtain ⟨bA, bP⟩ := bk_bn L0 a1 a2 bx1 bx2 (Sb.mono (by decide))
    have bA' : Bn (n + 3500) A := ((bx2.mul Sb)).le (by rw [← a1, Int.natAbs_mul]; exact Nat.le_mul_of_pos_right _ (by omega))
    have l1 : Bn 8000 (2 * A * S) := ((bn2.mul bA').mul Sb).mono (by omega)
    have l1n : 2 * A * S ≠ 0 := Int.mul_ne_zero (by omega) (by omega)
    have mw : ∀ {j k : Nat} {x y : Int}, Bn (j + 1) x → Bn (k + 1) y → j + k ≤ 900000 → CMulW x y := fun hx hy h => wide_mul hx hy (by omega) (by omega) (by omega)
    have dl : ((polD ds).take (k + 1)) = (polD ds).take k ++ [b.x] := take_get ex
    refine ⟨t, _, rfl, SqT.of e, rfl, _, _, rfl, _, _, rfl, _, _, rfl, _, _, rfl, rfl, rfl, ?_⟩
    unfold tYes
    refine iteT ⟨_, rfl, _, rfl, _, _, rfl, rfl, mw (j := 7999) (k := 7999) (bn2.mono (by decide)) (bA.mono (by omega)) (by decide), _, rfl, _, _, rfl, rfl, mw (j := 7999) (k := 7999) ((bn2.mul bA).mono (by omega)) (Sb.mono (by decide)) (by decide), rfl, fun m dm nm ndm _ => made_at l1 l1n nm ndm fun H3 s3 hm => ⟨rfl, ?_⟩⟩
    refine ⟨_, rfl, _, rfl, rfl, fun v dv nv ndv _ => made_at (Sb.mono (by decide) : Bn 8000 S) (by omega) nv ndv fun H4 s4 hv => ⟨rfl, ?_⟩⟩
    have c1 := lo_cross (u := Pl) l1n
    have g1 := lo_cop (u := Pl) l1n
    have p1 := lo2_pos (u := Pl) l1n
    have c2 := lo_cross (u := A) (show S ≠ 0 by omega)
    have g2 := lo_cop (u := A) (show S ≠ 0 by omega)
    have p2 := lo2_pos (u := A) (show S ≠ 0 by omega)
    have f1 := stp_key (by omega) a1 a2 c1
    have f2 : lo1 A S * L = b.x.2 * lo2 A S := Int.eq_of_mul_eq_mul_right (show S ≠ 0 by omega) (by
      have e1 : lo1 A S * L * S = lo1 A S * S * L := by grind
      rw [e1, c2]
      have e2 : A * lo2 A S * L = A * L * lo2 A S := by grind
      rw [e2, a1]; grind)
    generalize lo1 Pl (2 * A * S) = N1 at *
    generalize lo2 Pl (2 * A * S) = D1 at *
    generalize lo1 A S = N2 at *
    generalize lo2 A S = D2 at *
    have n2 : 0 < N2 := by
      have : 0 < N2 * L := by rw [f2]; exact Int.mul_pos px p2
      exact Int.pos_of_mul_pos_left this L0
    obtain ⟨q1, q2⟩ := low_le g1 wl0 p1 f1
    obtain ⟨q3, q4⟩ := low_le g2 L0 p2 f2
    refine ⟨rfl, fun x dx nx ndx _ => pool_made (n := n) (.inr ⟨m, rfl, hm.same s4⟩) (.inr ⟨v, rfl, hv⟩) (bx1.le q1) (bwl.le (by omega)) (bx2.le q3) (bL.le (by omega)) (by omega) p1 p2 n2 nx ndx fun H5 s5 hP => ⟨rfl, ?_⟩⟩
    have s35 := s3.trans (s4.trans s5)
    have eD5 := s35 _ _ eD
    have lw : ws.length ≤ 1000 := by have := hW.1; rw [List.length_take] at this; have := hT.1; omega
    refine ⟨_, eD5, by rw [List.length_map]; exact small1000 lw, fun b o e => ?_, ws ++ [x], by rw [upd_same, List.map_append]; rfl, ?_⟩
    · rw [upd_ne (ne_of_none e hD0)]; exact s35 _ _ (sG _ _ e)
    · rw [dl]
      exact ((hW.same s35).butL eD5 But.upd).snoc (MwAt.butL ⟨N1, D1, N2, D2, hP, p1, n2, p2, g1, g2, f1, f2⟩ eD5 But.upd)
  · rintro G3 ⟨s3, ws, eD, hW⟩
    rw [List.length_map, lt, show (stkB (ownB ds)).length = (polD ds).length by have := congrArg List.length xs; rw [List.length_map, List.length_reverse] at this; exact this, List.take_length] at hW
    refine fin D G3 ws (s02.trans s3) ?_ eD hW
    cases q : H D with
    | none => rfl
    | some o => rw [s02 _ _ q] at hD0; cases hD0
end
theorem den_of {a b S L : Int} (hc : Nat.gcd a.natAbs b.natAbs = 1) (e : a * L = S * b) : b ∣ L := by
  have h := congrArg Int.natAbs e
  rw [Int.natAbs_mul, Int.natAbs_mul] at h
  have : b.natAbs ∣ a.natAbs * L.natAbs := ⟨S.natAbs, by rw [h, Nat.mul_comm]⟩
  exact Int.natAbs_dvd_natAbs.mp (Nat.Coprime.dvd_of_dvd_mul_left (Nat.Coprime.symm hc) this)
theorem PoolAt.uniq {CP C p : Addr} {H : Hp} {a b c d a' b' c' d' : Int} (h : PoolAt CP C H p a b c d) (h' : PoolAt CP C H p a' b' c' d') : a = a' ∧ b = b' ∧ c = c' ∧ d = d' := by
  obtain ⟨dx, m, v, e, ⟨r1, _⟩, ⟨r2, _⟩⟩ := h
  obtain ⟨dy, m', v', e', ⟨r1', _⟩, ⟨r2', _⟩⟩ := h'
  rw [e] at e'
  injection e' with e'
  injection e' with _ _ e'
  unfold pfs at e'
  injection e' with e1 e2
  injection e2 with e2 e3
  injection e1 with _ e1
  injection e2 with _ e2
  injection e1 with e1
  injection e2 with e2
  rw [← e1] at r1'
  rw [← e2] at r2'
  obtain ⟨h1, h2⟩ := r1.uniq r1'
  obtain ⟨h3, h4⟩ := r2.uniq r2'
  exact ⟨h1, h2, h3, h4⟩
/-- the bottoms of the pools' terms divide Z -/
def DenP (CP C : Addr) (H : Hp) (qs : List Addr) (Z : Int) : Prop := ∀ q ∈ qs, ∀ a b c d : Int, PoolAt CP C H q a b c d → b ∣ Z ∧ d ∣ Z
def spSet (K : PySem.W.Frag) (CW CP C : Addr) : Sp := fun vs H Q _ => ∃ (l : Addr) (qs : List Addr) (ds : List DD) (n : Nat) (L Z : Int), vs = [.ref CW, .ref l] ∧ (SqL K H l (qs.map V.ref) ∨ SqT K H l (qs.map V.ref)) ∧ MwsAt CP C H L qs ds ∧ 0 < L ∧ Szs n L ds ∧ n ≤ 200 ∧ qs.length ≤ 1000 ∧ 0 < Z ∧ Bn 3500 Z ∧ DenP CP C H qs Z ∧
  ∀ w H' rs, Same H H' → WatAt K CW H' w rs → MwsAt CP C H' L rs (polD (ordD ds)) → Q (.ref w) H'
section
variable {P : Program} {w : World} {K : PySem.W.Frag} {mg : Str → Option Value} {base : Heap}
theorem ok_set (T : Txt K mg) : FnOk P w K mg base CX0 11 T.f_Water_settled T.d_Water_settled ["cls", "pools"] (spSet K T.C_Water T.C_Pool T.C_Ratio) := by
  have nd := sc_Water_settled.nd
  have MW : Mk K T.C_Water T.f_Water_init_d := ⟨T.mk_Water, T.m_Water_init_d.at_, T.m_Water_init_d.fn, T.kp_Water⟩
  obtain ⟨its, kbw⟩ := kb_wat T
  refine T.F_Water_settled.ok sc_Water_settled (fun vs H Q E ⟨_, _, _, _, _, _, e, _⟩ => by rw [e]; rfl) (fun cdv A outer s H vs Q E hr h => ?_)
  obtain ⟨l, qs, ds, n, L, Z, rfl, hl, hM, L0, sz, hn, few, Z0, Zb, hZ, fin⟩ := h
  refine ⟨_, pss_one (ps_ret (pe_mkL (i := 0) (E := fun _ => E0) MW (ok_winit T) (hr.mono (by decide)) rfl (.inl rfl) kbw (fun _ => atL) (pa_cons
      (pe_f (E := fun _ => E0) (ok_stp T) (hr.mono (by decide)) (by rfl) T.g_settled_pools T.F_settled_pools.kp T.B_settled_pools (fun _ => at0) (pa_cons
        (pe_f (E := fun _ => E0) (ok_ord T) (hr.mono (by decide)) (by rfl) T.g_in_order T.F_in_order.kp T.B_in_order (fun _ => at0) (pa_cons
          (pe_lc (own := [("pool", 2)]) (g := gName 2) (tt := tYes) (te := tTup (tCons (tProp T.C_Pool (spMid T.C_Pool T.C_Ratio) [] E0 (tVar 2)) (tCons (tProp T.C_Pool (spVol T.C_Pool T.C_Ratio) [] E0 (tVar 2)) tNil))) rfl nd (pi_or (pi_list (pv 1)) (pi_tup (pv 1)))
            (blkOk_by (own := [("pool", 2)]) (N := ["cls", "pools", "pool"]) (sc := defScope s_Water_settled) (by decide +kernel)) (fun _ _ _ _ _ => pg_name (i := 2) nd rfl (.inl rfl)) (fun _ _ _ _ _ => pts_nil)
            (fun _ _ _ _ _ => pe_tup (pa_cons (pe_prop (E := E0) (pv 2) T.cl_Pool T.pr_Pool_middle (ok_mid T) (hr.mono (by decide)) T.B_Pool_middle .nil pass0 rfl) (pa_cons (pe_prop (E := E0) (pv 2) T.cl_Pool T.pr_Pool_volume (ok_vol T) (hr.mono (by decide)) T.B_Pool_volume .nil pass0 rfl) pa_nil)))) pa_nil)) pa_nil)) pa_nil))), ?_⟩
  obtain ⟨ps, hP, hE⟩ := hM.terms (n := n) L0 fun x hx => sz.at_ hx
  have lps : ps.length = qs.length := hP.1
  have lds : ds.length = qs.length := hM.1
  refine ⟨rfl, seq_or rfl hl fun J Gp wk hG D hD => lc_it wk (fun k G => Same H G ∧ ∃ us : List Addr, G D = some (.lst (us.map V.ref)) ∧ RowsQ T.C_Ratio G us (ps.take k))
    ⟨same_upd hD, [], upd_same, rfl, fun i u x e => by simp at e⟩ (fun _ G _ h => hG _ h.1) ?_ ?_⟩
  · rintro k x G H' hk ⟨sG, us, eD, hR⟩ ⟨rfl, hx⟩
    obtain ⟨q, eq, rfl⟩ := ref_get hx
    have hk2 : k < ps.length := by rw [lps]; exact (List.getElem?_eq_some_iff.mp eq).1
    have ez : ps[k]? = some ps[k] := List.getElem?_eq_getElem hk2
    generalize ps[k] = z at ez
    obtain ⟨hp0, hz⟩ := hP.2 k q z eq ez
    have hp := hp0.same sG
    obtain ⟨dx, m0, v0, ep, _, _⟩ := id hp
    refine ⟨rfl, ?_⟩
    unfold tYes
    refine iteT ⟨_, rfl, q, dx, _, rfl, ep, q, z.a, z.b, z.c, z.d, rfl, hp, fun m rm => ⟨_, rfl, q, dx, _, rfl, ep, q, z.a, z.b, z.c, z.d, rfl, hp, fun v rv => ⟨(by show 2 ≤ sizeLine; decide), fun u hu => ?_⟩⟩⟩
    have su := same_upd (o := .tup [.ref m, .ref v]) hu
    have eD2 := su _ _ eD
    have lu : us.length ≤ 1000 := by have := hR.1; rw [List.length_take] at this; omega
    refine ⟨us.map V.ref, eD2, by rw [List.length_map]; exact small1000 lu, fun b o e => ?_, us ++ [u], by rw [upd_same, List.map_append]; rfl, ?_⟩
    · rw [upd_ne (ne_of_none e hD)]
      exact su _ _ (sG _ _ e)
    · rw [take_get ez]
      exact (hR.same su |>.butL eD2 But.upd).snoc (RowQ.butL ⟨m, v, upd_same, rm.same su, rv.same su⟩ eD2 But.upd)
  rintro G ⟨sG, us, eD, hR⟩
  rw [List.length_map, ← lps, List.take_length] at hR
  have lus : us.length = qs.length := by rw [← hR.1, lps]
  have hX : QdsX n L ps ds := ⟨by rw [lps, lds], fun i z x e1 e2 => by
    have hi : i < qs.length := by rw [← lps]; exact (List.getElem?_eq_some_iff.mp e1).1
    obtain ⟨h1, hz⟩ := hP.2 i _ z (List.getElem?_eq_getElem hi) e1
    obtain ⟨e3, e4⟩ := hE i z x e1 e2
    exact ⟨⟨e3, e4, vol_pos hz.c0 L0 hz.d0 e4⟩, hz.az, hz.bz, hz.cz, hz.dz⟩⟩
  have hDZ : DenZ Z ps := fun z hz => by
    obtain ⟨i, hi, rfl⟩ := List.mem_iff_getElem.mp hz
    have hq : i < qs.length := by rw [← lps]; exact hi
    obtain ⟨h1, h2⟩ := hP.2 i _ _ (List.getElem?_eq_getElem hq) (List.getElem?_eq_getElem hi)
    obtain ⟨h3, h4⟩ := hZ _ (List.getElem_mem hq) _ _ _ _ h1
    exact ⟨h2.b0, h2.d0, h3, h4⟩
  refine ⟨D, us, ps, ds, n, L, Z, rfl, .inl (SqL.of eD), hR, hX, hDZ, L0, Z0, Zb.mono (by decide), by omega, by omega, fun U G1 us1 ps1 s1 nU eU hR1 hX1 hmem => ?_⟩
  have hDZ1 : DenZ Z ps1 := fun z hz => by
    obtain ⟨i, hi, rfl⟩ := List.mem_iff_getElem.mp hz
    have hu : i < us1.length := by rw [← hR1.1]; exact hi
    obtain ⟨j, _, ej⟩ := hmem i _ _ (List.getElem?_eq_getElem hu) (List.getElem?_eq_getElem hi)
    exact hDZ _ (List.mem_of_getElem? ej)
  have lu1 : us1.length ≤ 1000 := by have h1 := hR1.1; have h2 := hX1.1; rw [ordD_len] at h2; omega
  have szo : Szs n L (ordD ds) := by
    obtain ⟨h1, h2⟩ := sz_ord ds
    exact ⟨by rw [h1]; exact sz.1, by rw [h2]; exact sz.2⟩
  have posO : ∀ (i : Nat) (x : DD), (ordD ds)[i]? = some x → 0 < x.2 := fun i x e => by
    have hi : i < ps1.length := by rw [hX1.1]; exact (List.getElem?_eq_some_iff.mp e).1
    exact (hX1.2 i _ x (List.getElem?_eq_getElem hi) e).1.2.2
  refine ⟨U, us1, ps1, ordD ds, n, L, Z, rfl, SqL.of eU, hR1, hX1, hDZ1, L0, Z0, Zb, szo, hn, lu1, fun W G2 ws s2 nW eW hW => ?_⟩
  have s02 := sG.trans (s1.trans s2)
  have ap := (stk_apt (ordD_srt ds) posO (ordD ds).length (Nat.le_refl _)).1
  rw [List.take_length] at ap
  have szp : ∀ x ∈ polD (ordD ds), Szd n L x := fun x hx => by
    obtain ⟨h1, h2, _⟩ := stk_sz (ordD ds)
    have z : Szs n L (stkD (ordD ds)) := ⟨Nat.lt_of_le_of_lt h1 szo.1, Nat.lt_of_le_of_lt (Nat.mul_le_mul_right _ h2) szo.2⟩
    exact z.at_ (List.mem_reverse.mp hx)
  obtain ⟨ps2, hP2, he2⟩ := hW.terms (n := n) L0 szp
  have lws : ws.length ≤ 1000 := by
    have h1 := hW.1
    have h2 := (stk_sz (ordD ds)).2.2
    have h3 : (polD (ordD ds)).length = (stkD (ordD ds)).length := by unfold polD; rw [List.length_reverse]
    rw [ordD_len] at h2
    omega
  refine ⟨rfl, fun x dx nx ndx _ => wat_made (n := n) (r := none) (.inl (SqL.of eW)) (by omega) hP2 hn ?_ nx ndx (fun _ H' s' hWt => ⟨rfl, fin x H' ws (s02.trans s') hWt (hW.same s')⟩) fun j e => by cases e⟩
  refine apt_first L0 ap (by rw [hP2.1, ← hW.1]; unfold polD; rw [List.length_reverse]) (fun z hz => ?_) he2
  obtain ⟨i, hi, ei⟩ := List.mem_iff_getElem.mp hz
  have hi2 : i < ws.length := by rw [← hP2.1]; exact hi
  have := (hP2.2 i _ z (List.getElem?_eq_getElem hi2) (by rw [List.getElem?_eq_getElem hi, ei])).2
  exact ⟨this.b0, this.d0⟩
end

/-! ### rows of drops (shared by the laws) -/
theorem menuL {xs : List V} {p : V → Prop} {d : Int} (h : ∀ x ∈ xs, p x) (h0 : 0 ≤ d) (h1 : d < (xs.length : Nat)) : ∃ v, atI xs d = some v ∧ p v := by
  obtain ⟨j, rfl⟩ : ∃ j : Nat, d = (j : Int) := ⟨d.toNat, by omega⟩
  have hj : j < xs.length := by omega
  exact ⟨xs[j], atI_nat (List.getElem?_eq_getElem hj), h _ (List.getElem_mem hj)⟩
theorem drops_data {K : PySem.W.Frag} {H : Hp} : ∀ {ts : List Addr}, (∀ t ∈ ts, ∃ S W : Int, H t = some (.tup [.int S, .int W])) → ∃ dds, DpAll K H (ts.map V.ref) dds ∧ dds.length = ts.length ∧ PyData.canLayAll0 dds = true ∧ PyData.depthAll dds ≤ 1
  | [], _ => ⟨[], .nil, rfl, rfl, by decide⟩
  | t :: ts, h => by
    obtain ⟨dds, h1, h2, h3, h4⟩ := drops_data (ts := ts) fun u hu => h u (List.mem_cons_of_mem _ hu)
    obtain ⟨S, W, e⟩ := h t List.mem_cons_self
    refine ⟨.tuple [.int S, .int W] :: dds, .cons (.tup (SqT.of e) (.cons (.int _) (.cons (.int _) .nil))) h1, by simp [h2], ?_, ?_⟩
    · show (PyData.canLay0 (.tuple [.int S, .int W]) && PyData.canLayAll0 dds) = true
      rw [h3]; rfl
    · show max (PyData.depth (.tuple [.int S, .int W])) (PyData.depthAll dds) ≤ 1
      have : PyData.depth (.tuple [.int S, .int W]) = 1 := rfl
      omega
theorem data_shaped {dds : List PyData} (h3 : PyData.canLayAll0 dds = true) (h4 : PyData.depthAll dds ≤ 1) : SeqAt.shaped (.list dds) = true := by
  show (PyData.canLay0 (.list dds) && decide (PyData.depth (.list dds) ≤ 64)) = true
  have e1 : PyData.canLay0 (.list dds) = true := h3
  have e2 : PyData.depth (.list dds) = PyData.depthAll dds + 1 := rfl
  rw [e1, e2, decide_eq_true (by omega)]; rfl
theorem data_nil {dds : List PyData} : PyData.eqv (.list dds) (.list []) = decide (dds.length = 0) := by
  cases dds with
  | nil => rfl
  | cons d dds => rfl
/-- drops at these places -/
def DrpsAt (H : Hp) (ts : List Addr) (ds : List (Int × Int)) : Prop := ds.length = ts.length ∧ ∀ (i : Nat) (t : Addr) (S W : Int), ts[i]? = some t → ds[i]? = some (S, W) → H t = some (.tup [.int S, .int W]) ∧ 0 < W ∧ W ≤ 5000 ∧ S.natAbs ≤ 600000000
theorem DrpsAt.same {H H' : Hp} {ts : List Addr} {ds : List (Int × Int)} (h : DrpsAt H ts ds) (s : Same H H') : DrpsAt H' ts ds := ⟨h.1, fun i t S W e1 e2 => let ⟨a, b⟩ := h.2 i t S W e1 e2; ⟨s _ _ a, b⟩⟩
theorem DrpsAt.but {H H' : Hp} {ts : List Addr} {ds : List (Int × Int)} {p : Addr} (h : DrpsAt H ts ds) (hb : BoxAt H p) (k : But p H H') : DrpsAt H' ts ds := ⟨h.1, fun i t S W e1 e2 => let ⟨a, b⟩ := h.2 i t S W e1 e2; ⟨tup_but a hb k, b⟩⟩
theorem DrpsAt.at_ {H : Hp} {ts : List Addr} {ds : List (Int × Int)} {i : Nat} (h : DrpsAt H ts ds) (hi : i < ts.length) : ∃ t S W, ts[i]? = some t ∧ ds[i]? = some (S, W) ∧ H t = some (.tup [.int S, .int W]) ∧ 0 < W ∧ W ≤ 5000 ∧ S.natAbs ≤ 600000000 := by
  have e1 : ts[i]? = some ts[i] := List.getElem?_eq_getElem hi
  have e2 : ds[i]? = some (ds[i]'(by rw [h.1]; exact hi)) := List.getElem?_eq_getElem _
  exact ⟨_, _, _, e1, e2, h.2 i _ _ _ e1 e2⟩
theorem DrpsAt.updL {H : Hp} {ts : List Addr} {ds : List (Int × Int)} {l : Addr} {xs ys : List V} (h : DrpsAt H ts ds) (hl : H l = some (.lst xs)) : DrpsAt (upd H l (.lst ys)) ts ds := ⟨h.1, fun i t S W e1 e2 => let ⟨a, b⟩ := h.2 i t S W e1 e2; ⟨by rw [upd_ne (fun z => by rw [z, hl] at a; cases a)]; exact a, b⟩⟩
theorem DrpsAt.snoc {H : Hp} {ts : List Addr} {ds : List (Int × Int)} {n : Addr} {S W : Int} (h : DrpsAt H ts ds) (hn : H n = none) (W0 : 0 < W) (W1 : W ≤ 5000) (Sz : S.natAbs ≤ 600000000) : DrpsAt (upd H n (.tup [.int S, .int W])) (ts ++ [n]) (ds ++ [(S, W)]) := by
  refine ⟨by simp [h.1], fun i t S' W' e1 e2 => ?_⟩
  rcases Nat.lt_or_ge i ts.length with hi | hi
  · rw [List.getElem?_append_left hi] at e1
    rw [List.getElem?_append_left (by rw [h.1]; exact hi)] at e2
    obtain ⟨a, b⟩ := h.2 i t S' W' e1 e2
    exact ⟨same_upd hn _ _ a, b⟩
  · rw [List.getElem?_append_right hi] at e1
    rw [List.getElem?_append_right (by rw [h.1]; exact hi)] at e2
    obtain rfl : i = ts.length := by
      have := (List.getElem?_eq_some_iff.mp e1).1
      simp at this
      omega
    rw [Nat.sub_self] at e1
    rw [h.1, Nat.sub_self] at e2
    cases e1; cases e2
    exact ⟨upd_same, W0, W1, Sz⟩
theorem DrpsAt.data {K : PySem.W.Frag} {H : Hp} {ts : List Addr} {ds : List (Int × Int)} (h : DrpsAt H ts ds) : ∃ dds, DpAll K H (ts.map V.ref) dds ∧ dds.length = ts.length ∧ PyData.canLayAll0 dds = true ∧ PyData.depthAll dds ≤ 1 := drops_data fun t ht => by
  obtain ⟨i, hi, e⟩ := List.mem_iff_getElem.mp ht
  obtain ⟨t', S, W, e1, _, e2, _⟩ := h.at_ hi
  rw [List.getElem?_eq_getElem hi, e] at e1
  cases e1
  exact ⟨S, W, e2⟩
theorem last_at {ts : List Addr} (h : ts ≠ []) : ∃ tl, atI (ts.map V.ref) (-1) = some (.ref tl) ∧ ts[ts.length - 1]? = some tl := by
  rcases List.eq_nil_or_concat ts with e | ⟨us, u, rfl⟩
  · exact absurd e h
  · refine ⟨u, ?_, by simp⟩
    rw [List.concat_eq_append, List.map_append]
    exact atI_last _ _
def spMom : Sp := fun vs H Q _ => ∃ (l : Addr) (ts : List Addr) (ds : List (Int × Int)), vs = [.ref l] ∧ H l = some (.lst (ts.map V.ref)) ∧ DrpsAt H ts ds ∧ ts.length ≤ 1000 ∧
  ∀ p H' (us : List Addr), Same H H' → H' p = some (.lst (us.map V.ref)) → us.length = ts.length → (∀ (i : Nat) (u : Addr) (S W : Int), us[i]? = some u → ds[i]? = some (S, W) → H' u = some (.tup [.int (S * W), .int W])) → Q (.ref p) H'
section
variable {P : Program} {w : World} {K : PySem.W.Frag} {mg : Str → Option Value} {base : Heap}
end
theorem PoolAt.butL {CP C q p : Addr} {H H' : Hp} {a b c d : Int} {xs : List V} (h : PoolAt CP C H q a b c d) (hl : H p = some (.lst xs)) (k : But p H H') : PoolAt CP C H' q a b c d := by
  have go : ∀ {x : Addr} {o : HO}, H x = some o → (∀ ys, o ≠ .lst ys) → H' x = some o := fun {x o} e n => k _ _ (fun z => by rw [z, hl] at e; cases e; exact n _ rfl) e
  exact h.thru go
theorem PlsAt.butL {CP C p : Addr} {H H' : Hp} {n : Nat} {qs : List Addr} {ps : List Qd} {xs : List V} (h : PlsAt CP C H n qs ps) (hl : H p = some (.lst xs)) (k : But p H H') : PlsAt CP C H' n qs ps := ⟨h.1, fun i q z e1 e2 => let ⟨a, b⟩ := h.2 i q z e1 e2; ⟨a.butL hl k, b⟩⟩
theorem DrpsAt.butL {H H' : Hp} {ts : List Addr} {ds : List (Int × Int)} {p : Addr} {xs : List V} (h : DrpsAt H ts ds) (hl : H p = some (.lst xs)) (k : But p H H') : DrpsAt H' ts ds := ⟨h.1, fun i t S W e1 e2 => let ⟨a, b⟩ := h.2 i t S W e1 e2; ⟨k _ _ (fun z => by rw [z, hl] at a; cases a) a, b⟩⟩
theorem BoxAt.butL {H H' : Hp} {p l : Addr} (h : BoxAt H p) (n : p ≠ l) (k : But l H H') : BoxAt H' p := let ⟨a, b, c, e, r⟩ := h; ⟨a, b, c, k _ _ n e, r⟩
theorem WatAt.butL {K : PySem.W.Frag} {CW w l : Addr} {H H' : Hp} {qs : List Addr} {xs : List V} (h : WatAt K CW H w qs) (hl : H l = some (.lst xs)) (k : But l H H') : WatAt K CW H' w qs := by
  obtain ⟨dx, t, e, q⟩ := h
  refine ⟨dx, t, k _ _ (fun z => by rw [z, hl] at e; cases e) e, ?_⟩
  rcases q with (q | ⟨o, q⟩) | q
  · exact .inl (.inl (k _ _ (fun z => by rw [z, hl] at q; cases q) q))
  · exact .inl (.inr ⟨o, k _ _ (fun z => by rw [z, hl] at q; cases q) q⟩)
  · exact .inr q
/-- the text of a pool -/
def Qd.tx (z : Qd) : Str := poolRp z.a z.b z.c z.d
theorem ratTx_len {a b : Int} (ha : Sm a) (hb : Sm b) : (ratTx a b).length ≤ 3843 := by
  have := tx_len ha
  have := tx_len hb
  have l1 : ("/" : Str).length = 1 := by decide +kernel
  unfold ratTx
  split
  · omega
  · rw [str_len, str_len]; omega
theorem poolRp_len {a b c d : Int} (ha : Sm a) (hb : Sm b) (hc : Sm c) (hd : Sm d) : (poolRp a b c d).length ≤ 7700 := by
  have h1 := ratTx_len ha hb
  have h2 := ratTx_len hc hd
  have l1 : ("Pool(" : Str).length = 5 := by decide +kernel
  have l2 : (", " : Str).length = 2 := by decide +kernel
  have l3 : (")" : Str).length = 1 := by decide +kernel
  unfold poolRp
  rw [str_len, str_len, str_len, str_len]
  omega
theorem listText_len : ∀ ts : List Str, (listText ts).length ≤ piled ts + 2
  | [] => by decide +kernel
  | t :: r => by
    have h := textFrom_length_pos r 1 (("[" : Str) ++ (if (0 : Nat) > 0 then ", " else "" : String) ++ t) (Nat.succ_pos 0)
    have e : ((("[" : Str) ++ (if (0 : Nat) > 0 then ", " else "" : String) ++ t)).length = 1 + t.length := by
      rw [strLen_append, strLen_append]; rfl
    have hX : (listText (t :: r)).length = (textFrom 1 (("[" : Str) ++ (if (0 : Nat) > 0 then ", " else "" : String) ++ t) r).length + 1 := by
      show (textFrom 1 (("[" : Str) ++ (if (0 : Nat) > 0 then ", " else "" : String) ++ t) r ++ "]").length = _
      rw [strLen_append]; rfl
    rw [hX, h, e, piled_cons]
    omega
theorem piled_le {m : Nat} : ∀ {ts : List Str}, (∀ t ∈ ts, t.length ≤ m) → piled ts ≤ ts.length * (m + 2)
  | [], _ => by simp [piled]
  | t :: r, h => by
    have ih := piled_le (m := m) (ts := r) fun u hu => h u (List.mem_cons_of_mem _ hu)
    have := h t List.mem_cons_self
    rw [piled_cons, List.length_cons, Nat.succ_mul]
    omega
theorem sm_n {n : Nat} {i : Int} (h : Bn n i) (hn : n ≤ 1900) : Sm i := sm_2000 (Bn.mono h hn)
theorem tells_pools {CP C : Addr} {H : Hp} {n : Nat} {qs : List Addr} {ps : List Qd} (h : PlsAt CP C H n qs ps) (hn : n ≤ 1900) : Tells CP (spPRepr CP C) H qs (ps.map Qd.tx) := by
  refine ⟨by rw [List.length_map, h.1], fun i q t e1 e2 => ?_⟩
  rw [List.getElem?_map] at e2
  cases e : ps[i]? with
  | none => rw [e] at e2; cases e2
  | some z =>
    rw [e] at e2
    cases e2
    obtain ⟨hp, hz⟩ := h.2 i q z e1 e
    obtain ⟨dx, _, _, eq, _⟩ := id hp
    exact ⟨⟨dx, _, eq⟩, fun Q' q' => ⟨q, z.a, z.b, z.c, z.d, rfl, hp, sm_n hz.az hn, sm_n hz.bz hn, sm_n hz.cz hn, sm_n hz.dz hn, q'⟩⟩
theorem pools_tx_len {CP C : Addr} {H : Hp} {n : Nat} {qs : List Addr} {ps : List Qd} (h : PlsAt CP C H n qs ps) (hn : n ≤ 1900) (few : qs.length ≤ 1000) : (listText (ps.map Qd.tx)).length ≤ sizeLine := by
  have h1 := listText_len (ps.map Qd.tx)
  have h2 := piled_le (m := 7700) (ts := ps.map Qd.tx) fun t ht => by
    obtain ⟨z, hz, rfl⟩ := List.mem_map.mp ht
    obtain ⟨i, hi, e⟩ := List.mem_iff_getElem.mp hz
    have e1 : ps[i]? = some z := by rw [List.getElem?_eq_getElem hi, e]
    obtain ⟨_, hq⟩ := h.2 i _ z (List.getElem?_eq_getElem (by rw [← h.1]; exact hi)) e1
    exact poolRp_len (sm_n hq.az hn) (sm_n hq.bz hn) (sm_n hq.cz hn) (sm_n hq.dz hn)
  rw [List.length_map, h.1] at h2
  rw [sizeLine_eq]
  have : qs.length * (7700 + 2) ≤ 1000 * 7702 := Nat.mul_le_mul few (Nat.le_refl _)
  omega

/-! ### the laws' rows and pools -/
def leX (x y : DD) : Bool := decide (x.1 < y.1 ∨ (x.1 = y.1 ∧ x.2 ≤ y.2))
def posX (l : List DD) (d : DD) : Nat := l.countP fun x => leX x d
def insX (l : List DD) (d : DD) : List DD := l.take (posX l d) ++ d :: l.drop (posX l d)
def ordX (ds : List DD) : List DD := ds.foldl insX []
def mom (x : DD) : DD := (x.1 * x.2, x.2)
theorem leD_mom {x y : DD} (hx : 0 < x.2) (hy : 0 < y.2) : leD (mom x) (mom y) = leX x y := by
  have k : 0 < x.2 * y.2 := Int.mul_pos hx hy
  have e1 : x.1 * x.2 * y.2 = x.1 * (x.2 * y.2) := Int.mul_assoc _ _ _
  have e2 : y.1 * y.2 * x.2 = y.1 * (x.2 * y.2) := by rw [Int.mul_assoc, Int.mul_comm y.2]
  have w1 : wd (mom x) = x.2 := wd_eq (x := mom x) hx
  have w2 : wd (mom y) = y.2 := wd_eq (x := mom y) hy
  have i1 : x.1 * (x.2 * y.2) < y.1 * (x.2 * y.2) ↔ x.1 < y.1 := ⟨fun h => Int.lt_of_mul_lt_mul_right h (by omega), fun h => Int.mul_lt_mul_of_pos_right h k⟩
  have i2 : x.1 * (x.2 * y.2) = y.1 * (x.2 * y.2) ↔ x.1 = y.1 := ⟨fun h => Int.eq_of_mul_eq_mul_right (by omega) h, fun h => by rw [h]⟩
  unfold leD leX
  rw [w1, w2]
  show decide (x.1 * x.2 * y.2 < y.1 * y.2 * x.2 ∨ (x.1 * x.2 * y.2 = y.1 * y.2 * x.2 ∧ x.2 ≤ y.2)) = _
  rw [e1, e2]
  simp only [i1, i2]
theorem pos_mom {l : List DD} {d : DD} (hl : ∀ x ∈ l, 0 < x.2) (hd : 0 < d.2) : posD (l.map mom) (mom d) = posX l d := by
  unfold posD posX
  rw [List.countP_map]
  refine List.countP_congr fun x hx => ?_
  show leD (mom x) (mom d) = true ↔ _
  rw [leD_mom (hl x hx) hd]
theorem ins_mom {l : List DD} {d : DD} (hl : ∀ x ∈ l, 0 < x.2) (hd : 0 < d.2) : insD (l.map mom) (mom d) = (insX l d).map mom := by
  unfold insD insX
  rw [pos_mom hl hd, List.map_append, List.map_cons, List.map_take, List.map_drop]
theorem insX_mem {l : List DD} {d x : DD} : x ∈ insX l d ↔ x ∈ l ∨ x = d := by
  unfold insX
  rw [List.mem_append, List.mem_cons]
  have h := List.take_append_drop (posX l d) l
  constructor
  · rintro (h1 | h1 | h1)
    · exact .inl (List.mem_of_mem_take h1)
    · exact .inr h1
    · exact .inl (List.mem_of_mem_drop h1)
  · rintro (h1 | h1)
    · rw [← h, List.mem_append] at h1
      rcases h1 with h1 | h1
      · exact .inl h1
      · exact .inr (.inr h1)
    · exact .inr (.inl h1)
theorem ord_mom {ds : List DD} (h : ∀ x ∈ ds, 0 < x.2) : ordD (ds.map mom) = (ordX ds).map mom := by
  have key : ∀ (ds l : List DD), (∀ x ∈ ds, 0 < x.2) → (∀ x ∈ l, 0 < x.2) → (ds.map mom).foldl insD (l.map mom) = (ds.foldl insX l).map mom := by
    intro ds
    induction ds with
    | nil => intro l _ _; rfl
    | cons d ds ih =>
      intro l h1 h2
      rw [List.map_cons, List.foldl_cons, List.foldl_cons, ins_mom h2 (h1 d List.mem_cons_self)]
      refine ih _ (fun x hx => h1 x (List.mem_cons_of_mem _ hx)) fun x hx => ?_
      rcases insX_mem.mp hx with e | e
      · exact h2 x e
      · rw [e]; exact h1 d List.mem_cons_self
  exact key ds [] h fun x hx => by cases hx
theorem ordX_snoc (ds : List DD) (d : DD) : ordX (ds ++ [d]) = insX (ordX ds) d := by unfold ordX; rw [List.foldl_append]; rfl
theorem insX_len (l : List DD) (d : DD) : (insX l d).length = l.length + 1 := by
  have : posX l d ≤ l.length := List.countP_le_length
  unfold insX
  rw [List.length_append, List.length_cons, List.length_take, List.length_drop]
  omega
theorem ordX_len (ds : List DD) : (ordX ds).length = ds.length := by
  have : ∀ (ds l : List DD), (ds.foldl insX l).length = l.length + ds.length := by
    intro ds
    induction ds with
    | nil => intro l; rfl
    | cons d ds ih => intro l; rw [List.foldl_cons, ih, insX_len, List.length_cons]; omega
  rw [ordX, this]; simp
theorem insX_get {l : List DD} {d x : DD} {i : Nat} : (insX l d)[i]? = some x ↔ (i < posX l d ∧ l[i]? = some x) ∨ (i = posX l d ∧ x = d) ∨ (posX l d < i ∧ l[i - 1]? = some x) := ins_get List.countP_le_length
def TupsAt (H : Hp) (ts : List Addr) (ds : List DD) : Prop := ds.length = ts.length ∧ ∀ (i : Nat) (t : Addr) (x : DD), ts[i]? = some t → ds[i]? = some x → H t = some (.tup [.int x.1, .int x.2])
theorem TupsAt.same {H H' : Hp} {ts : List Addr} {ds : List DD} (h : TupsAt H ts ds) (s : Same H H') : TupsAt H' ts ds := ⟨h.1, fun i t x e1 e2 => s _ _ (h.2 i t x e1 e2)⟩
/-- of the first k rows those not behind d, one by one -/
theorem count_step {l : List DD} {d x : DD} {k : Nat} (h : l[k]? = some x) : (l.take (k + 1)).countP (fun y => leX y d) = (l.take k).countP (fun y => leX y d) + if leX x d = true then 1 else 0 := by
  have hk : k < l.length := (List.getElem?_eq_some_iff.mp h).1
  have e : l[k] = x := by rw [List.getElem?_eq_getElem hk] at h; exact Option.some.inj h
  rw [List.take_succ_eq_append_getElem hk, List.countP_append, e, List.countP_cons, List.countP_nil, Nat.zero_add]
theorem cut_to {xs : List V} {k : Nat} (h : k ≤ xs.length) : cutV xs none (some (k : Int)) = xs.take k := by
  unfold cutV
  rw [HT.sIx_none, HT.sIx_nat, Nat.sub_zero, List.drop_zero, Nat.min_eq_left h]
theorem cut_from {xs : List V} {k : Nat} (h : k ≤ xs.length) : cutV xs (some (k : Int)) none = xs.drop k := by
  unfold cutV
  rw [HT.sIx_none, HT.sIx_nat, Nat.min_eq_left h]
  exact List.take_of_length_le (by rw [List.length_drop]; exact Nat.le_refl _)
theorem ix0 {a : V} {r : List V} : atI (a :: r) 0 = some a := atI_nat (j := 0) rfl
theorem ix1 {a b : V} {r : List V} : atI (a :: b :: r) 1 = some b := atI_nat (j := 1) rfl
def spTch : Sp := fun vs H Q _ => ∃ (t f : Addr) (x y : DD) (r1 r2 : List V), vs = [.ref t, .ref f] ∧ H t = some (.tup (.int x.1 :: .int x.2 :: r1)) ∧ H f = some (.tup (.int y.1 :: .int y.2 :: r2)) ∧ Bn 300 x.1 ∧ Bn 300 x.2 ∧ Bn 300 y.1 ∧ Bn 300 y.2 ∧ Q (.bl (tchD x y)) H
def spOrdL : Sp := fun vs H Q _ => ∃ (l : Addr) (ts : List Addr) (ds : List DD), vs = [.ref l] ∧ H l = some (.lst (ts.map V.ref)) ∧ TupsAt H ts ds ∧ ts.length ≤ 1000 ∧
  ∀ p H' ts', Same H H' → H' p = some (.lst (ts'.map V.ref)) → TupsAt H' ts' (ordX ds) → (∀ i, H i ≠ none → i ≠ p) → Q (.ref p) H'
section
variable {P : Program} {w : World} {K : PySem.W.Frag} {mg : Str → Option Value} {base : Heap}
theorem ok_tch (T : Txt K mg) : FnOk P w K mg base CX0 1 T.f_lw_touch T.d_lw_touch ["_law_one", "_law_other"] spTch := by
  have nd := sc_lw_touch.nd
  refine T.F_lw_touch.ok sc_lw_touch (fun vs H Q E ⟨_, _, _, _, _, _, e, _⟩ => by rw [e]; rfl) (fun cdv A outer s H vs Q E hr h => ?_)
  obtain ⟨t, f, x, y, r1, r2, rfl, ht, hf, b1, b2, b3, b4, fin⟩ := h
  refine ⟨_, pss_cons (ps_set (i := 2) nd rfl (.inl rfl) (pe_op op_sub (pe_op op_mulW (pe_ix ix_tup (pv 1) pe_int (fun _ _ => rfl)) (pe_ix ix_tup (pv 0) pe_int (fun _ _ => rfl))) (pe_op op_mulW (pe_ix ix_tup (pv 0) pe_int (fun _ _ => rfl)) (pe_ix ix_tup (pv 1) pe_int (fun _ _ => rfl)))))
    (pss_one (ps_ret (pe_cmpR op_le (pe_op op_mulW pe_int (pv 2)) (pe_op op_mulW (pe_op op_mulW (pe_ix ix_tup (pv 0) pe_int (fun _ _ => rfl)) (pe_ix ix_tup (pv 1) pe_int (fun _ _ => rfl))) (pe_op op_add (pe_ix ix_tup (pv 0) pe_int (fun _ _ => rfl)) (pe_ix ix_tup (pv 1) pe_int (fun _ _ => rfl)))) (nomark _)))), ?_⟩
  have w1 := b1.bd (by decide); have w2 := b2.bd (by decide); have w3 := b3.bd (by decide); have w4 := b4.bd (by decide)
  have d1 : Bn 601 (y.1 * x.2 - x.1 * y.2) := ((b3.mul b2).mono (by decide)).sub ((b1.mul b4).mono (by decide))
  have d2 : Bn 601 (x.2 * y.2) := (b2.mul b4).mono (by decide)
  have d3 : Bn 301 (x.2 + y.2) := b2.add b4
  refine ⟨_, rfl, f, _, 0, _, rfl, rfl, SqT.of hf, ix0, _, rfl, t, _, 1, _, rfl, rfl, SqT.of ht, ix1, _, _, rfl, rfl, bd_mulW w3 w2, ?_⟩
  refine ⟨_, rfl, t, _, 0, _, rfl, rfl, SqT.of ht, ix0, _, rfl, f, _, 1, _, rfl, rfl, SqT.of hf, ix1, _, _, rfl, rfl, bd_mulW w1 w4, _, _, rfl, rfl, ?_⟩
  refine ⟨_, rfl, _, _, rfl, rfl, bd_mulW (bn2.bd (by decide)) (d1.bd (by decide)), ?_⟩
  refine ⟨_, rfl, t, _, 1, _, rfl, rfl, SqT.of ht, ix1, _, rfl, f, _, 1, _, rfl, rfl, SqT.of hf, ix1, _, _, rfl, rfl, bd_mulW w2 w4, ?_⟩
  exact ⟨_, rfl, t, _, 1, _, rfl, rfl, SqT.of ht, ix1, _, rfl, f, _, 1, _, rfl, rfl, SqT.of hf, ix1, _, _, rfl, rfl, _, _, rfl, rfl, bd_mulW (d2.bd (by decide)) (d3.bd (by decide)), _, _, rfl, rfl, fin⟩
theorem ok_ordl (T : Txt K mg) : FnOk P w K mg base CX0 1 T.f_lw_ordered T.d_lw_ordered ["_law_drops"] spOrdL := by
  have nd := sc_lw_ordered.nd
  refine T.F_lw_ordered.ok sc_lw_ordered (fun vs H Q E ⟨_, _, _, e, _⟩ => by rw [e]; rfl) (fun cdv A outer s H vs Q E hr h => ?_)
  obtain ⟨l, ts, ds, rfl, hl, hT, few, fin⟩ := h
  refine ⟨_, pss_cons (ps_set (i := 1) nd rfl (.inl rfl) (pe_lst pa_nil))
    (pss_cons (ps_for PassesOwn.never rfl (pi_list (pv 0)) (pg_name (i := 2) nd rfl (.inr rfl))
      (pss_cons (ps_set (i := 3) nd rfl (.inl rfl) (pe_callB call_len_seq (by rfl) T.b_len PySem.boot_len (pa_cons
          (pe_lc (own := [("_law_one", 4)]) (g := gName 4) (tt := tOr (tTest (tOp (rI0 fun i j => .bl (decide (i < j))) (tOp (rIxT K) (tVar 4) (tC (.int 0))) (tOp (rIxT K) (tVar 2) (tC (.int 0)))))
              (tAnd (tTest (tOp rEq (tOp (rIxT K) (tVar 4) (tC (.int 0))) (tOp (rIxT K) (tVar 2) (tC (.int 0))))) (tTest (tOp (rI0 fun i j => .bl (decide (i ≤ j))) (tOp (rIxT K) (tVar 4) (tC (.int 1))) (tOp (rIxT K) (tVar 2) (tC (.int 1))))))) (te := tVar 4) rfl nd (pi_list (pv 1))
            (blkOk_by (own := [("_law_one", 4)]) (N := ["_law_drops", "_law_found", "_law_drop", "_law_at", "_law_one"]) (sc := defScope s_lw_ordered) (by decide +kernel)) (fun _ _ _ _ _ => pg_name (i := 4) nd rfl (.inl rfl))
            (fun _ _ _ _ _ => pts_one (PW.pt (pw_or (pt_cmpR op_lt (pe_ix ix_tup (pv 4) pe_int (fun _ _ => rfl)) (pe_ix ix_tup (pv 2) pe_int (fun _ _ => rfl)) (nomark _))
              (pw_or1 (PW.pt (pw_and (pt_cmpR op_eq (pe_ix ix_tup (pv 4) pe_int (fun _ _ => rfl)) (pe_ix ix_tup (pv 2) pe_int (fun _ _ => rfl)) (nomark _)) (pw_and1 (pt_cmpR op_le (pe_ix ix_tup (pv 4) pe_int (fun _ _ => rfl)) (pe_ix ix_tup (pv 2) pe_int (fun _ _ => rfl)) (nomark _)))))))))
            (fun _ _ _ _ _ => pv 4)) pa_nil)))
      (pss_one (ps_set (i := 1) nd rfl (.inl rfl) (pe_op op_cat (pe_op op_cat (pe_slice sl_list (pv 1) po_none (po_some (pv 3))) (pe_lst (pa_cons (pv 2) pa_nil))) (pe_slice sl_list (pv 1) (po_some (pv 3)) po_none))))))
    (pss_one (ps_ret (pv 1)))), ?_⟩
  refine ⟨Nat.zero_le _, fun p0 hp0 => ?_⟩
  have s0 : Same H (upd H p0 (.lst [])) := same_upd hp0
  refine ⟨_, rfl, l, rfl, ⟨_, SqL.of (s0 _ _ hl)⟩, for_list (xs := ts.map V.ref) (fun i σ' G => Same H G ∧ ∃ (p : Addr) (us : List Addr) (v2 v3 v4 : Option V), σ' = [some (.ref l), some (.ref p), v2, v3, v4] ∧ H p = none ∧ G p = some (.lst (us.map V.ref)) ∧ TupsAt G us (ordX (ds.take i)))
    ⟨s0, p0, [], _, _, _, rfl, hp0, upd_same, rfl, fun i t x e => by simp at e⟩ (fun i σ' G _ h => SqL.of (h.1 _ _ hl)) ?_ ?_⟩
  · rintro i x0 σ' G hx ⟨sG, p, us, v2, v3, v4, rfl, hp, ep, hU⟩
    obtain ⟨t, et, rfl⟩ := ref_get hx
    have hi : i < ds.length := by rw [hT.1]; exact (List.getElem?_eq_some_iff.mp et).1
    have ed : ds[i]? = some ds[i] := List.getElem?_eq_getElem hi
    generalize hxd : ds[i] = d at ed
    have td := sG _ _ (hT.2 i t d et ed)
    have hlen : us.length = i := by rw [← hU.1, ordX_len, List.length_take]; omega
    have hle : i ≤ 1000 := by rw [hT.1] at hi; omega
    -- those not behind d
    refine ⟨_, rfl, p, rfl, ⟨_, SqL.of ep⟩, fun D hD => lc_list (K := K) (a := p) (xs := us.map V.ref) (fun k G' => Same G G' ∧ ∃ acc : List V, G' D = some (.lst acc) ∧ acc.length = ((ordX (ds.take i)).take k).countP (fun y => leX y d))
      ⟨same_upd hD, [], upd_same, rfl⟩ (fun _ G' _ h => SqL.of (h.1 _ _ ep)) ?_ ?_⟩
    · rintro k y0 G' hy ⟨s', acc, eD, ea⟩
      obtain ⟨u, eu, rfl⟩ := ref_get hy
      have hk : k < (ordX (ds.take i)).length := by rw [hU.1]; exact (List.getElem?_eq_some_iff.mp eu).1
      have ek : (ordX (ds.take i))[k]? = some (ordX (ds.take i))[k] := List.getElem?_eq_getElem hk
      generalize (ordX (ds.take i))[k] = y at ek
      have tu := s' _ _ (hU.2 k u y eu ek)
      have td' := s' _ _ td
      have step := count_step (d := d) ek
      have lt : acc.length < sizeLine := by
        have h1 : ((ordX (ds.take i)).take k).countP (fun y => leX y d) ≤ ((ordX (ds.take i)).take k).length := List.countP_le_length
        rw [List.length_take] at h1
        rw [hU.1, hlen] at hk
        exact small1000 (by omega)
      have done : ∀ b : Bool, b = leX y d → (if b = true then ∃ acc', G' D = some (.lst acc') ∧ acc'.length < sizeLine ∧ (Same G (upd G' D (.lst (acc' ++ [V.ref u]))) ∧ ∃ acc : List V, (upd G' D (.lst (acc' ++ [V.ref u]))) D = some (.lst acc) ∧ acc.length = ((ordX (ds.take i)).take (k + 1)).countP (fun y => leX y d))
          else (Same G G' ∧ ∃ acc : List V, G' D = some (.lst acc) ∧ acc.length = ((ordX (ds.take i)).take (k + 1)).countP (fun y => leX y d))) := fun b hb => by
        subst hb
        refine ite2 (fun c => ?_) (fun c => ?_)
        · refine ⟨acc, eD, lt, fun b o e => ?_, _, upd_same, ?_⟩
          · rw [upd_ne (ne_of_none e hD)]; exact s' _ _ e
          · rw [List.length_append, ea, step, if_pos c]; rfl
        · exact ⟨s', acc, eD, by rw [ea, step, if_neg c]; rfl⟩
      refine ⟨rfl, _, rfl, u, _, 0, _, rfl, rfl, SqT.of tu, ix0, _, rfl, t, _, 0, _, rfl, rfl, SqT.of td', ix0, _, _, rfl, rfl, _, rfl, ?_⟩
      by_cases c1 : y.1 < d.1
      · rw [decide_eq_true c1]
        refine iteT ?_
        have := done true (by unfold leX; rw [decide_eq_true (.inl c1)])
        rw [if_pos rfl] at this
        exact iteT ⟨_, rfl, this⟩
      · rw [decide_eq_false c1]
        refine iteF ⟨_, rfl, u, _, 0, _, rfl, rfl, SqT.of tu, ix0, _, rfl, t, _, 0, _, rfl, rfl, SqT.of td', ix0, rfl, _, rfl, ?_⟩
        by_cases c2 : y.1 = d.1
        · rw [decide_eq_true (congrArg V.int c2)]
          refine iteT ⟨_, rfl, u, _, 1, _, rfl, rfl, SqT.of tu, ix1, _, rfl, t, _, 1, _, rfl, rfl, SqT.of td', ix1, _, _, rfl, rfl, _, rfl, ?_⟩
          have := done (decide (y.2 ≤ d.2)) (by unfold leX; simp [c2])
          by_cases c3 : y.2 ≤ d.2
          · rw [decide_eq_true c3] at this ⊢
            rw [if_pos rfl] at this
            exact iteT ⟨_, rfl, this⟩
          · rw [decide_eq_false c3] at this ⊢
            rw [if_neg Bool.false_ne_true] at this
            exact iteF this
        · rw [decide_eq_false (fun z => c2 (V.int.inj z))]
          refine iteF ?_
          have := done false (by unfold leX; simp [c1, c2])
          rw [if_neg Bool.false_ne_true] at this
          exact iteF this
    · rintro G1 ⟨s1, acc, eD, ea⟩
      rw [List.length_map, ← hU.1, List.take_length] at ea
      have ep1 := s1 _ _ ep
      have hpos : posX (ordX (ds.take i)) d ≤ us.length := by rw [← hU.1]; exact List.countP_le_length
      refine ⟨_, _, rfl, .inl (SqL.of eD), ?_⟩
      have hpe : (ordX (ds.take i)).countP (fun y => leX y d) = posX (ordX (ds.take i)) d := rfl
      rw [ea, hpe]
      generalize hkp : posX (ordX (ds.take i)) d = k at hpos
      have ln : (us.map V.ref).length = us.length := List.length_map _
      have lt : ∀ n : Nat, n ≤ 2000 → n ≤ sizeLine := fun n h => Nat.le_trans h (by rw [sizeLine_eq]; decide)
      refine ⟨_, rfl, _, rfl, _, rfl, p, _, rfl, SqL.of ep1, fun q1 hq1 => ⟨_, rfl, (by show 1 ≤ sizeLine; decide), fun q2 hq2 => ?_⟩⟩
      have n12 : q1 ≠ q2 := fun z => by rw [z, upd_same] at hq2; cases hq2
      have u2 : (upd (upd G1 q1 (.lst (cutV (us.map V.ref) none (some (k : Int))))) q2 (.lst [V.ref t])) q1 = some (.lst ((us.map V.ref).take k)) := by rw [upd_ne n12, upd_same, cut_to (by omega)]
      have g1 : Same G1 (upd (upd G1 q1 (.lst (cutV (us.map V.ref) none (some (k : Int))))) q2 (.lst [V.ref t])) := (same_upd hq1).trans (same_upd hq2)
      have e2' : (upd (upd G1 q1 (.lst (cutV (us.map V.ref) none (some (k : Int))))) q2 (.lst [V.ref t])) q2 = some (.lst [V.ref t]) := upd_same
      generalize upd (upd G1 q1 (.lst (cutV (us.map V.ref) none (some (k : Int))))) q2 (.lst [V.ref t]) = G2 at *
      refine ⟨q1, q2, _, _, rfl, rfl, u2, e2', lt _ (by rw [List.length_take]; show min k _ + 1 ≤ _; omega), fun q3 hq3 => ?_⟩
      have g2 := same_upd (o := .lst ((us.map V.ref).take k ++ [V.ref t])) hq3
      have e3 : (upd G2 q3 (.lst ((us.map V.ref).take k ++ [V.ref t]))) q3 = some (.lst ((us.map V.ref).take k ++ [V.ref t])) := upd_same
      generalize upd G2 q3 (.lst ((us.map V.ref).take k ++ [V.ref t])) = G3 at *
      refine ⟨_, rfl, _, rfl, _, rfl, p, _, rfl, SqL.of (g2 _ _ (g1 _ _ ep1)), fun q4 hq4 => ?_⟩
      have g3 := same_upd (o := .lst (cutV (us.map V.ref) (some (k : Int)) none)) hq4
      have e4 : (upd G3 q4 (.lst (cutV (us.map V.ref) (some (k : Int)) none))) q4 = some (.lst ((us.map V.ref).drop k)) := by rw [upd_same, cut_from (by omega)]
      generalize upd G3 q4 (.lst (cutV (us.map V.ref) (some (k : Int)) none)) = G4 at *
      refine ⟨q3, q4, _, _, rfl, rfl, g3 _ _ e3, e4, lt _ (by rw [List.length_append, List.length_take, List.length_drop]; show min k _ + 1 + _ ≤ _; omega), fun q5 hq5 => ?_⟩
      have g5 := same_upd (o := .lst ((us.map V.ref).take k ++ [V.ref t] ++ (us.map V.ref).drop k)) hq5
      have s15 := (s1.trans (g1.trans (g2.trans (g3.trans g5))))
      refine ⟨sG.trans s15, q5, us.take k ++ t :: us.drop k, _, _, _, rfl, ?_, ?_, ?_⟩
      · cases q : H q5 with
        | none => rfl
        | some o => rw [g3 _ _ (g2 _ _ (g1 _ _ (s1 _ _ (sG _ _ q))))] at hq5; cases hq5
      · rw [upd_same, List.map_append, List.map_cons, List.map_take, List.map_drop, List.append_assoc]; rfl
      · have e : ordX (ds.take (i + 1)) = insX (ordX (ds.take i)) d := by rw [← ordX_snoc, List.take_succ_eq_append_getElem hi, hxd]
        rw [e]
        refine ⟨?_, fun j r' x' e1 e2 => s15 _ _ ?_⟩
        · rw [insX_len, hU.1, List.length_append, List.length_cons, List.length_take, List.length_drop]; omega
        · rw [insX_get, hkp] at e2
          rw [ins_get hpos] at e1
          rcases e2 with ⟨a, e2⟩ | ⟨a, rfl⟩ | ⟨a, e2⟩
          · rcases e1 with ⟨b, e1⟩ | ⟨b, rfl⟩ | ⟨b, e1⟩
            · exact hU.2 j r' x' e1 e2
            · omega
            · omega
          · rcases e1 with ⟨b, e1⟩ | ⟨b, rfl⟩ | ⟨b, e1⟩
            · omega
            · exact td
            · omega
          · rcases e1 with ⟨b, e1⟩ | ⟨b, rfl⟩ | ⟨b, e1⟩
            · omega
            · omega
            · exact hU.2 (j - 1) r' x' e1 e2
  · rintro σ' G ⟨sG, p, us, v2, v3, v4, rfl, hp, ep, hU⟩
    rw [List.length_map, ← hT.1, List.take_length] at hU
    exact ⟨_, rfl, fin p G us sG ep hU (fun i hi z => hi (by rw [z]; exact hp))⟩
end
def QdsAt (H : Hp) (us : List Addr) (xs : List DD) : Prop := xs.length = us.length ∧ ∀ (i : Nat) (u : Addr) (x : DD), us[i]? = some u → xs[i]? = some x → ∃ f g : Int, H u = some (.tup [.int x.1, .int x.2, .int f, .int g])
theorem QdsAt.same {H H' : Hp} {us : List Addr} {xs : List DD} (h : QdsAt H us xs) (s : Same H H') : QdsAt H' us xs := ⟨h.1, fun i u x e1 e2 => let ⟨f, g, e⟩ := h.2 i u x e1 e2; ⟨f, g, s _ _ e⟩⟩
theorem QdsAt.butL {H H' : Hp} {us : List Addr} {xs : List DD} {p : Addr} {ys : List V} (h : QdsAt H us xs) (hl : H p = some (.lst ys)) (k : But p H H') : QdsAt H' us xs := ⟨h.1, fun i u x e1 e2 => let ⟨f, g, e⟩ := h.2 i u x e1 e2; ⟨f, g, k _ _ (fun z => by rw [z, hl] at e; cases e) e⟩⟩
theorem QdsAt.cons {H : Hp} {u : Addr} {x : DD} {us : List Addr} {xs : List DD} : QdsAt H (u :: us) (x :: xs) ↔ (∃ f g : Int, H u = some (.tup [.int x.1, .int x.2, .int f, .int g])) ∧ QdsAt H us xs := by
  constructor
  · exact fun h => ⟨h.2 0 u x rfl rfl, by have := h.1; simpa using this, fun i q' x' e1 e2 => h.2 (i + 1) q' x' (by simpa using e1) (by simpa using e2)⟩
  · rintro ⟨h1, h2, h3⟩
    refine ⟨by rw [List.length_cons, List.length_cons, h2], fun i q' x' e1 e2 => ?_⟩
    cases i with
    | zero => cases e1; cases e2; exact h1
    | succ i => exact h3 i q' x' (by simpa using e1) (by simpa using e2)
theorem QdsAt.rev {H : Hp} {us : List Addr} {xs : List DD} (h : QdsAt H us xs) : QdsAt H us.reverse xs.reverse := by
  refine ⟨by rw [List.length_reverse, List.length_reverse, h.1], fun i q x e1 e2 => ?_⟩
  have l1 : i < us.reverse.length := (List.getElem?_eq_some_iff.mp e1).1
  rw [List.length_reverse] at l1
  rw [List.getElem?_reverse l1] at e1
  rw [List.getElem?_reverse (by rw [h.1]; exact l1), h.1] at e2
  exact h.2 _ q x e1 e2
theorem quads_data {K : PySem.W.Frag} {H : Hp} : ∀ {ts : List Addr}, (∀ t ∈ ts, ∃ a b c d : Int, H t = some (.tup [.int a, .int b, .int c, .int d])) → ∃ dds, DpAll K H (ts.map V.ref) dds ∧ dds.length = ts.length ∧ PyData.canLayAll0 dds = true ∧ PyData.depthAll dds ≤ 1
  | [], _ => ⟨[], .nil, rfl, rfl, by decide⟩
  | t :: ts, h => by
    obtain ⟨dds, h1, h2, h3, h4⟩ := quads_data (ts := ts) fun u hu => h u (List.mem_cons_of_mem _ hu)
    obtain ⟨a, b, c, d, e⟩ := h t List.mem_cons_self
    refine ⟨.tuple [.int a, .int b, .int c, .int d] :: dds, .cons (.tup (SqT.of e) (.cons (.int _) (.cons (.int _) (.cons (.int _) (.cons (.int _) .nil))))) h1, by simp [h2], ?_, ?_⟩
    · show (PyData.canLay0 (.tuple [.int a, .int b, .int c, .int d]) && PyData.canLayAll0 dds) = true
      rw [h3]; rfl
    · show max (PyData.depth (.tuple [.int a, .int b, .int c, .int d])) (PyData.depthAll dds) ≤ 1
      have : PyData.depth (.tuple [.int a, .int b, .int c, .int d]) = 1 := rfl
      omega
theorem QdsAt.data {K : PySem.W.Frag} {H : Hp} {us : List Addr} {xs : List DD} (h : QdsAt H us xs) : ∃ dds, DpAll K H (us.map V.ref) dds ∧ dds.length = us.length ∧ PyData.canLayAll0 dds = true ∧ PyData.depthAll dds ≤ 1 := quads_data fun t ht => by
  obtain ⟨i, hi, e⟩ := List.mem_iff_getElem.mp ht
  have hx : xs[i]? = some (xs[i]'(by rw [h.1]; exact hi)) := List.getElem?_eq_getElem _
  obtain ⟨f, g, e2⟩ := h.2 i t _ (by rw [List.getElem?_eq_getElem hi, e]) hx
  exact ⟨_, _, f, g, e2⟩
theorem Szd.bn {x : DD} {n : Nat} (h : Szd n 1 x) : Bn n x.1 ∧ Bn n x.2 := ⟨h.1, by have := h.2; unfold Bn; rw [show (1 : Int).natAbs = 1 from rfl, Nat.mul_one] at this; exact this⟩
theorem ix2 {a b c : V} {r : List V} : atI (a :: b :: c :: r) 2 = some c := atI_nat (j := 2) rfl
def spPools : Sp := fun vs H Q _ => ∃ (l : Addr) (ts : List Addr) (ds : List DD), vs = [.ref l] ∧ H l = some (.lst (ts.map V.ref)) ∧ TupsAt H ts ds ∧ ts.length ≤ 1000 ∧ Szs 300 1 (ds.map mom) ∧ (∀ x ∈ ds, Bn 300 x.1 ∧ Bn 300 x.2) ∧
  ∀ p H' us, Same H H' → H p = none → H' p = some (.lst (us.map V.ref)) → QdsAt H' us (polD (ds.map mom)) → Q (.ref p) H'
section
variable {P : Program} {w : World} {K : PySem.W.Frag} {mg : Str → Option Value} {base : Heap}
theorem ok_pls (T : Txt K mg) : FnOk P w K mg base CX0 2 T.f_lw_pools T.d_lw_pools ["_law_drops"] spPools := by
  have nd := sc_lw_pools.nd
  refine T.F_lw_pools.ok sc_lw_pools (fun vs H Q E ⟨_, _, _, e, _⟩ => by rw [e]; rfl) (fun cdv A outer s H vs Q E hr h => ?_)
  obtain ⟨l, ts, ds, rfl, hl, hT, few, sz, bnd, fin⟩ := h
  refine ⟨_, pss_cons (ps_set (i := 1) nd rfl (.inl rfl) (pe_lst pa_nil))
    (pss_cons (ps_for PassesOwn.never rfl (pi_enum (by rfl) T.b_enumerate (pa_cons (pv 0) pa_nil)) (pg_tup rfl (pgs_cons (pg_name (i := 2) nd rfl (.inl rfl)) (pgs_cons (pg_tup rfl (pgs_cons (pg_name (i := 3) nd rfl (.inl rfl)) (pgs_cons (pg_name (i := 4) nd rfl (.inl rfl)) pgs_nil))) pgs_nil)))
      (pss_cons (ps_set (i := 5) nd rfl (.inl rfl) (pe_tup (by exact (pa_cons (pe_op op_mulW (pv 3) (pv 4)) (pa_cons (pv 4) (pa_cons (pv 2) (pa_cons (pv 2) pa_nil)))))))
      (C8.pss_cut (ps_while PassesOwn.never (PW.pt (pw_and (pt_cmpR (op_neD hr.units) (pv 1) (pe_lst pa_nil) (nomark _)) (pw_and1 (pt_val (pe_f (E := fun _ => E0) (ok_tch T) (hr.mono (by decide)) (by rfl) T.g_lw_touch T.F_lw_touch.kp T.B_lw_touch (fun _ => at0) (pa_cons (pe_ix ix_list (pv 1) (pe_un un_neg pe_int) (fun _ _ => rfl)) (pa_cons (pv 5) pa_nil)))))))
        (pss_cons (ps_set (i := 6) nd rfl (.inl rfl) (pe_bm0 PySem.F.plainAttrs_list PySem.F.slot_list_pop PySem.F.type_list_pop mt_pop (pv 1)))
        (pss_one (ps_set (i := 5) nd rfl (.inl rfl) (pe_tup (by exact (pa_cons (pe_op op_add (pe_ix ix_tup (pv 6) pe_int (fun _ _ => rfl)) (pe_ix ix_tup (pv 5) pe_int (fun _ _ => rfl))) (pa_cons (pe_op op_add (pe_ix ix_tup (pv 6) pe_int (fun _ _ => rfl)) (pe_ix ix_tup (pv 5) pe_int (fun _ _ => rfl))) (pa_cons (pe_ix ix_tup (pv 6) pe_int (fun _ _ => rfl)) (pa_cons (pv 2) pa_nil))))))))))
      (pss_one (ps_expr (pe_bm PySem.F.plainAttrs_list PySem.F.slot_list_append PySem.F.type_list_append mt_append (pv 1) (pa_cons (pv 5) pa_nil)))))))
    (pss_one (ps_ret (pv 1)))), ?_⟩
  refine ⟨Nat.zero_le _, fun p hp => ?_⟩
  have s0 : Same H (upd H p (.lst [])) := same_upd hp
  have pH : ∀ {G : Hp} {xs : List V}, Same H G → Same H (upd G p (.lst xs)) := fun {G xs} s b o e => by
    rw [upd_ne (fun z => by rw [z, hp] at e; cases e)]; exact s _ _ e
  have lm : (ds.map mom).length = ts.length := by rw [List.length_map, hT.1]
  refine ⟨_, rfl, l, _, rfl, SqL.of (s0 _ _ hl), for_it (walk_enum (xs := ts.map V.ref)) (fun i σ' G => Same H G ∧ ∃ (qs : List Addr) (v2 v3 v4 v5 v6 : Option V), σ' = [some (.ref l), some (.ref p), v2, v3, v4, v5, v6] ∧ G p = some (.lst (qs.reverse.map V.ref)) ∧ QdsAt G qs (stkD ((ds.map mom).take i)))
    ⟨s0, [], _, _, _, _, _, rfl, upd_same, rfl, fun i t x e => by simp at e⟩ (fun i σ' G _ h => SqL.of (h.1 _ _ hl)) ?_ ?_⟩
  · rintro i x σ' G1 G2 hi ⟨sG, qs, v2, v3, v4, v5, v6, rfl, ep, hQ⟩ ⟨tz, x1, x2, rfl, nz, rfl, e1, e2⟩
    cases e1
    rw [List.length_map] at hi
    obtain ⟨t, et, rfl⟩ := ref_get e2
    have ed : ds[i]? = some (ds[i]'(by rw [hT.1]; exact hi)) := List.getElem?_eq_getElem _
    generalize ds[i]'(by rw [hT.1]; exact hi) = d at ed
    have em : (ds.map mom)[i]? = some (mom d) := by rw [List.getElem?_map, ed]; rfl
    have him : i < (ds.map mom).length := by rw [lm]; exact hi
    have push : stkD ((ds.map mom).take (i + 1)) = pushD (stkD ((ds.map mom).take i)) (mom d) := by
      rw [← stkD_snoc, List.take_succ_eq_append_getElem him]
      rw [List.getElem?_eq_getElem him] at em
      rw [Option.some.inj em]
    have zs0 := take_sz sz em
    obtain ⟨bd1, bd2⟩ := bnd d (List.mem_of_getElem? ed)
    have len0 : (stkD ((ds.map mom).take i)).length ≤ 1000 := by
      have := (stk_sz ((ds.map mom).take i)).2.2
      rw [List.length_take] at this
      omega
    have sz2' : Same G1 (upd G1 tz (.tup [.int (i : Nat), .ref t])) := same_upd nz
    have s2 := sG.trans sz2'
    have tu := s2 _ _ (hT.2 i t d et ed)
    refine ⟨tz, _, rfl, SqT.of upd_same, rfl, _, _, rfl, _, _, rfl, t, _, rfl, SqT.of tu, rfl, _, _, rfl, _, _, rfl, rfl, rfl, ?_⟩
    have ep2 := sz2' _ _ ep
    have hQ2 := hQ.same sz2'
    generalize upd G1 tz (.tup [.int (i : Nat), .ref t]) = G3 at *
    refine ⟨_, rfl, _, rfl, _, _, rfl, rfl, bd_mulW (bd1.bd (by decide)) (bd2.bd (by decide)), _, rfl, _, rfl, _, rfl, (by show 4 ≤ sizeLine; decide), fun u hu => ?_⟩
    have su := same_upd (o := .tup [.int (d.1 * d.2), .int d.2, .int (i : Nat), .int (i : Nat)]) hu
    have s4 := s2.trans su
    have eu : (upd G3 u (.tup [.int (d.1 * d.2), .int d.2, .int (i : Nat), .int (i : Nat)])) u = some (.tup [.int (mom d).1, .int (mom d).2, .int (i : Nat), .int (i : Nat)]) := upd_same
    have ep4 := su _ _ ep2
    have hQ4 := hQ2.same su
    generalize upd G3 u (.tup [.int (d.1 * d.2), .int d.2, .int (i : Nat), .int (i : Nat)]) = G4 at *
    generalize stkD ((ds.map mom).take i) = stk at *
    generalize mom d = xd at *
    refine ⟨fun σ2 G => Same H G ∧ ∃ (qs' : List Addr) (st : List DD) (fa : Addr) (fd : DD) (f g : Int) (w3 w4 w6 : Option V), σ2 = [some (.ref l), some (.ref p), some (.int (i : Nat)), w3, w4, some (.ref fa), w6] ∧ G p = some (.lst (qs'.reverse.map V.ref)) ∧ QdsAt G qs' st ∧ G fa = some (.tup [.int fd.1, .int fd.2, .int f, .int g]) ∧ pushD stk xd = fd :: st ∧ st.length ≤ 1000, ?_, ?_⟩
    · refine ⟨fun k σ2 G => Same H G ∧ ∃ (qs' : List Addr) (st : List DD) (fa : Addr) (fd : DD) (f g : Int) (w3 w4 w6 : Option V), σ2 = [some (.ref l), some (.ref p), some (.int (i : Nat)), w3, w4, some (.ref fa), w6] ∧ G p = some (.lst (qs'.reverse.map V.ref)) ∧ QdsAt G qs' st ∧ G fa = some (.tup [.int fd.1, .int fd.2, .int f, .int g]) ∧ pushD stk xd = pushD st fd ∧ Szs 300 1 (fd :: st) ∧ k = st.length ∧ st.length ≤ 1000,
        ⟨stk.length, s4, qs, stk, u, xd, _, _, _, _, _, rfl, ep4, hQ4, eu, rfl, zs0, rfl, len0⟩, ?_⟩
      rintro k σ2 G ⟨sG5, qs', st, fa, fd, f, g, w3, w4, w6, rfl, ep5, hQ5, efa, hpush, z5, rfl, few5⟩
      refine ⟨_, rfl, Nat.zero_le _, fun ne hne => ?_⟩
      have se := same_upd (o := .lst []) hne
      obtain ⟨dds, hdp, dl, dc, dd⟩ := ((hQ5.same se).rev).data (K := K)
      refine ⟨.list dds, .list [], .lst (SqL.of (se _ _ ep5)) hdp, .lst (SqL.of upd_same) .nil, data_shaped dc dd, rfl, _, rfl, ?_⟩
      rw [data_nil, dl, List.length_reverse]
      have s6 := sG5.trans se
      have ep6 := se _ _ ep5
      have hQ6 := hQ5.same se
      have efa6 := se _ _ efa
      generalize upd G ne (.lst []) = G6 at *
      cases st with
      | nil =>
        obtain rfl : qs' = [] := by have := hQ5.1; simpa using this.symm
        refine iteF (iteF ⟨s6, [], [], fa, fd, f, g, _, _, _, rfl, ep6, hQ6, efa6, hpush, Nat.zero_le _⟩)
      | cons t st =>
        cases qs' with
        | nil => have := hQ5.1; simp at this
        | cons q qs' =>
          have c1 : (!decide ((q :: qs').length = 0)) = true := by simp
          rw [c1]
          obtain ⟨⟨f', g', eq6⟩, hQ7⟩ := QdsAt.cons.mp hQ6
          have lastv : ((q :: qs').reverse.map V.ref) = qs'.reverse.map V.ref ++ [V.ref q] := by rw [List.reverse_cons, List.map_append]; rfl
          rw [lastv] at ep6
          obtain ⟨a1, a2⟩ := (z5.at_ (List.mem_cons_self)).bn
          obtain ⟨b1, b2⟩ := (z5.at_ (List.mem_cons_of_mem _ List.mem_cons_self)).bn
          refine iteT ⟨_, rfl, _, rfl, p, _, _, .ref q, rfl, rfl, SqL.of ep6, atI_last _ _, _, rfl, q, fa, t, fd, _, _, rfl, eq6, efa6, b1, b2, a1, a2, _, rfl, ?_⟩
          refine ite2 (fun ht => ?_) (fun ht => ?_)
          · refine ⟨fun σ' G => Same H G ∧ ∃ (qs' : List Addr) (st' : List DD) (fa : Addr) (fd : DD) (f g : Int) (w3 w4 w6 : Option V), σ' = [some (.ref l), some (.ref p), some (.int (i : Nat)), w3, w4, some (.ref fa), w6] ∧ G p = some (.lst (qs'.reverse.map V.ref)) ∧ QdsAt G qs' st' ∧ G fa = some (.tup [.int fd.1, .int fd.2, .int f, .int g]) ∧ pushD stk xd = pushD st' fd ∧ Szs 300 1 (fd :: st') ∧ st.length = st'.length ∧ st'.length ≤ 1000, fun σ' G' h => ⟨st.length, Nat.lt_succ_self _, h⟩, ?_⟩
            refine ⟨_, rfl, .inl ⟨rfl, _, SqL.of ep6⟩, p, _, .ref q, rfl, rfl, ep6, by simp, ?_⟩
            rw [List.dropLast_concat]
            have bt : But p G6 (upd G6 p (.lst (qs'.reverse.map V.ref))) := But.upd
            have go : ∀ {x : Addr} {xs : List V}, G6 x = some (.tup xs) → (upd G6 p (.lst (qs'.reverse.map V.ref))) x = some (.tup xs) := fun e => bt _ _ (fun z => by rw [z, ep6] at e; cases e) e
            have eq7 := go eq6
            have ef7 := go efa6
            have s7 := pH (xs := qs'.reverse.map V.ref) s6
            have ep7 : (upd G6 p (.lst (qs'.reverse.map V.ref))) p = some (.lst (qs'.reverse.map V.ref)) := upd_same
            have hQ8 := hQ7.butL ep6 bt
            generalize upd G6 p (.lst (qs'.reverse.map V.ref)) = G7 at *
            refine ⟨_, rfl, q, _, 0, _, rfl, rfl, SqT.of eq7, ix0, _, rfl, fa, _, 0, _, rfl, rfl, SqT.of ef7, ix0, _, _, rfl, rfl, _, rfl, q, _, 1, _, rfl, rfl, SqT.of eq7, ix1, _, rfl, fa, _, 1, _, rfl, rfl, SqT.of ef7, ix1, _, _, rfl, rfl, _, rfl, q, _, 2, _, rfl, rfl, SqT.of eq7, ix2, _, rfl, (by show 4 ≤ sizeLine; decide), fun u2 hu2 => ?_⟩
            have s8 := same_upd (o := .tup [.int (t.1 + fd.1), .int (t.2 + fd.2), .int f', .int (i : Nat)]) hu2
            refine ⟨s7.trans s8, qs', st, u2, addD t fd, _, _, _, _, _, rfl, s8 _ _ ep7, hQ8.same s8, upd_same, ?_, z5.merge, rfl, by simp at few5; omega⟩
            rw [hpush]
            show (if tchD t fd = true then pushD st (addD t fd) else _) = _
            rw [if_pos ht]
          · refine ⟨s6, q :: qs', t :: st, fa, fd, _, _, _, _, _, rfl, by rw [lastv]; exact ep6, hQ6, efa6, ?_, few5⟩
            rw [hpush]
            show (if tchD t fd = true then pushD st (addD t fd) else _) = _
            rw [if_neg ht]
    · rintro σ2 G ⟨sG5, qs', st, fa, fd, f, g, w3, w4, w6, rfl, ep5, hQ5, efa, hpush, few5⟩
      have bt : But p G (upd G p (.lst (qs'.reverse.map V.ref ++ [V.ref fa]))) := But.upd
      refine ⟨_, rfl, .inl ⟨rfl, _, SqL.of ep5⟩, _, rfl, p, _, _, rfl, rfl, ep5, by rw [List.length_map, List.length_reverse, ← hQ5.1]; exact small1000 few5, ?_⟩
      refine ⟨pH sG5, fa :: qs', _, _, _, _, _, rfl, by rw [upd_same, List.reverse_cons, List.map_append]; rfl, ?_⟩
      rw [push, hpush]
      exact QdsAt.cons.mpr ⟨⟨f, g, bt _ _ (fun z => by rw [z, ep5] at efa; cases efa) efa⟩, hQ5.butL ep5 bt⟩
  · rintro σ' G ⟨sG, qs, v2, v3, v4, v5, v6, rfl, ep, hQ⟩
    rw [List.length_map, ← lm, List.take_length] at hQ
    exact ⟨_, rfl, fin p G _ sG hp ep hQ.rev⟩
end

/-! ### in whatever order pools run together, the same stand in the end -/
def Dst (p q : DD) (w : Int) : Prop := 2 * (q.1 * p.2 - p.1 * q.2) ≤ p.2 * q.2 * w
theorem tch_dst {p q : DD} : tchD p q = true ↔ Dst p q (p.2 + q.2) := by unfold tchD Dst; rw [decide_eq_true_iff]
theorem Dst.mono {p q : DD} {w w' : Int} (h : Dst p q w) (l : w ≤ w') (hp : 0 < p.2) (hq : 0 < q.2) : Dst p q w' :=
  Int.le_trans h (Int.mul_le_mul_of_nonneg_left l (Int.le_of_lt (Int.mul_pos hp hq)))
theorem cancel_le {a b k : Int} (hk : 0 < k) (h : k * a ≤ k * b) : a ≤ b := Int.le_of_mul_le_mul_left h hk
theorem Dst.left {p q b : DD} {w : Int} (h : Dst p q w) (l : leM p b) (hp : 0 < p.2) (hq : 0 < q.2) (hb : 0 < b.2) : Dst b q w := by
  unfold Dst leM at *
  refine cancel_le hp ?_
  have h1 := Int.mul_le_mul_of_nonneg_left h (Int.le_of_lt hb)
  have h2 := Int.mul_le_mul_of_nonneg_left l (show 0 ≤ 2 * q.2 by omega)
  have e1 : p.2 * (2 * (q.1 * b.2 - b.1 * q.2)) = b.2 * (2 * (q.1 * p.2 - p.1 * q.2)) + (2 * q.2 * (p.1 * b.2) - 2 * q.2 * (b.1 * p.2)) := by grind
  have e2 : p.2 * (b.2 * q.2 * w) = b.2 * (p.2 * q.2 * w) := by grind
  rw [e1, e2]
  omega
theorem Dst.right {p q c : DD} {w : Int} (h : Dst p q w) (l : leM c q) (hp : 0 < p.2) (hq : 0 < q.2) (hc : 0 < c.2) : Dst p c w := by
  unfold Dst leM at *
  refine cancel_le hq ?_
  have h1 := Int.mul_le_mul_of_nonneg_left h (Int.le_of_lt hc)
  have h2 := Int.mul_le_mul_of_nonneg_left l (show 0 ≤ 2 * p.2 by omega)
  have e1 : q.2 * (2 * (c.1 * p.2 - p.1 * c.2)) = c.2 * (2 * (q.1 * p.2 - p.1 * q.2)) + (2 * p.2 * (c.1 * q.2) - 2 * p.2 * (q.1 * c.2)) := by grind
  have e2 : q.2 * (p.2 * c.2 * w) = c.2 * (p.2 * q.2 * w) := by grind
  rw [e1, e2]
  omega
theorem Dst.rest {p q b : DD} {w1 w2 : Int} (h : Dst p q w2) (no : ¬ Dst p b w1) (hp : 0 < p.2) (hq : 0 < q.2) (hb : 0 < b.2) : Dst b q (w2 - w1) := by
  unfold Dst at *
  refine cancel_le hp ?_
  have h1 := Int.mul_le_mul_of_nonneg_left h (Int.le_of_lt hb)
  have h2 := Int.mul_le_mul_of_nonneg_left (show p.2 * b.2 * w1 ≤ 2 * (b.1 * p.2 - p.1 * b.2) by omega) (Int.le_of_lt hq)
  have e1 : p.2 * (2 * (q.1 * b.2 - b.1 * q.2)) = b.2 * (2 * (q.1 * p.2 - p.1 * q.2)) - q.2 * (2 * (b.1 * p.2 - p.1 * b.2)) := by grind
  have e2 : p.2 * (b.2 * q.2 * (w2 - w1)) = b.2 * (p.2 * q.2 * w2) - q.2 * (p.2 * b.2 * w1) := by grind
  rw [e1, e2]
  omega
theorem tch_l {t p q : DD} (ht : 0 < t.2) (hp : 0 < p.2) (hq : 0 < q.2) (h1 : tchD t p = true) (h2 : tchD p q = true) : tchD (addD t p) q = true := by
  rw [tch_dst] at *
  unfold Dst addD at *
  show 2 * (q.1 * (t.2 + p.2) - (t.1 + p.1) * q.2) ≤ (t.2 + p.2) * q.2 * (t.2 + p.2 + q.2)
  refine cancel_le hp ?_
  have g1 := Int.mul_le_mul_of_nonneg_left h1 (Int.le_of_lt hq)
  have g2 := Int.mul_le_mul_of_nonneg_left h2 (show 0 ≤ t.2 + p.2 by omega)
  have e1 : p.2 * (2 * (q.1 * (t.2 + p.2) - (t.1 + p.1) * q.2)) = (t.2 + p.2) * (2 * (q.1 * p.2 - p.1 * q.2)) + q.2 * (2 * (p.1 * t.2 - t.1 * p.2)) := by grind
  have e2 : p.2 * ((t.2 + p.2) * q.2 * (t.2 + p.2 + q.2)) = (t.2 + p.2) * (p.2 * q.2 * (p.2 + q.2)) + q.2 * (t.2 * p.2 * (t.2 + p.2)) := by grind
  rw [e1, e2]
  omega
theorem tch_r {t p q : DD} (ht : 0 < t.2) (hp : 0 < p.2) (hq : 0 < q.2) (h1 : tchD t p = true) (h2 : tchD p q = true) : tchD t (addD p q) = true := by
  rw [tch_dst] at *
  unfold Dst addD at *
  show 2 * ((p.1 + q.1) * t.2 - t.1 * (p.2 + q.2)) ≤ t.2 * (p.2 + q.2) * (t.2 + (p.2 + q.2))
  refine cancel_le hp ?_
  have g1 := Int.mul_le_mul_of_nonneg_left h1 (show 0 ≤ p.2 + q.2 by omega)
  have g2 := Int.mul_le_mul_of_nonneg_left h2 (Int.le_of_lt ht)
  have e1 : p.2 * (2 * ((p.1 + q.1) * t.2 - t.1 * (p.2 + q.2))) = (p.2 + q.2) * (2 * (p.1 * t.2 - t.1 * p.2)) + t.2 * (2 * (q.1 * p.2 - p.1 * q.2)) := by grind
  have e2 : p.2 * (t.2 * (p.2 + q.2) * (t.2 + (p.2 + q.2))) = (p.2 + q.2) * (t.2 * p.2 * (t.2 + p.2)) + t.2 * (p.2 * q.2 * (p.2 + q.2)) := by grind
  rw [e1, e2]
  omega
def PosD (l : List DD) : Prop := ∀ x ∈ l, 0 < x.2
theorem addD_comm (p q : DD) : addD p q = addD q p := by unfold addD; rw [Int.add_comm p.1, Int.add_comm p.2]
theorem addD_assoc (p q r : DD) : addD (addD p q) r = addD p (addD q r) := by unfold addD; simp [Int.add_assoc]
theorem push_pos : ∀ {st : List DD} {f : DD}, PosD st → 0 < f.2 → PosD (pushD st f)
  | [], f, _, hf => fun x hx => by
    unfold pushD at hx
    rw [List.mem_singleton.mp hx]; exact hf
  | t :: st, f, h, hf => by
    unfold pushD
    by_cases c : tchD t f = true
    · rw [if_pos c]
      exact push_pos (fun x hx => h x (List.mem_cons_of_mem _ hx)) (Int.add_pos (h t List.mem_cons_self) hf)
    · rw [if_neg c]
      intro x hx
      rcases List.mem_cons.mp hx with e | e
      · rw [e]; exact hf
      · exact h x e
theorem fold_pos : ∀ {ds st : List DD}, PosD ds → PosD st → PosD (ds.foldl pushD st)
  | [], _, _, h => h
  | d :: ds, st, h, h' => by
    rw [List.foldl_cons]
    exact fold_pos (fun x hx => h x (List.mem_cons_of_mem _ hx)) (push_pos h' (h d List.mem_cons_self))
theorem push_two : ∀ {st : List DD} {p q : DD}, PosD st → 0 < p.2 → 0 < q.2 → tchD p q = true → pushD (pushD st p) q = pushD st (addD p q)
  | [], p, q, _, _, _, h => by
    show pushD [p] q = [addD p q]
    unfold pushD
    rw [if_pos h]
    rfl
  | t :: st, p, q, hs, hp, hq, h => by
    have ht := hs t List.mem_cons_self
    have hs' : PosD st := fun x hx => hs x (List.mem_cons_of_mem _ hx)
    by_cases c : tchD t p = true
    · have e1 : pushD (t :: st) p = pushD st (addD t p) := by rw [pushD, if_pos c]
      have e2 : pushD (t :: st) (addD p q) = pushD st (addD t (addD p q)) := by rw [pushD, if_pos (tch_r ht hp hq c h)]
      rw [e1, e2, push_two hs' (Int.add_pos ht hp) hq (tch_l ht hp hq c h), addD_assoc]
    · have e1 : pushD (t :: st) p = p :: t :: st := by rw [pushD, if_neg c]
      rw [e1]
      show (if tchD p q = true then pushD (t :: st) (addD p q) else _) = _
      rw [if_pos h]
theorem stk_two {A C : List DD} {p q : DD} (hA : PosD A) (hp : 0 < p.2) (hq : 0 < q.2) (h : tchD p q = true) : stkD (A ++ p :: q :: C) = stkD (A ++ addD p q :: C) := by
  unfold stkD
  rw [List.foldl_append, List.foldl_append, List.foldl_cons, List.foldl_cons, List.foldl_cons, push_two (fold_pos hA fun x hx => by cases hx) hp hq h]
def sumD (l : List DD) : DD := l.foldr addD (0, 0)
theorem sumD_cons (x : DD) (l : List DD) : sumD (x :: l) = addD x (sumD l) := rfl
theorem addD_zero (x : DD) : addD x (0, 0) = x := by unfold addD; simp
theorem sumD_perm {l m : List DD} (h : l.Perm m) : sumD l = sumD m := by
  induction h with
  | nil => rfl
  | cons x _ ih => rw [sumD_cons, sumD_cons, ih]
  | swap x y l => rw [sumD_cons, sumD_cons, sumD_cons, sumD_cons, ← addD_assoc, ← addD_assoc, addD_comm x y]
  | trans _ _ ih1 ih2 => rw [ih1, ih2]
theorem sumD_app (l m : List DD) : sumD (l ++ m) = addD (sumD l) (sumD m) := by
  induction l with
  | nil => show sumD m = addD (0, 0) (sumD m); rw [addD_comm, addD_zero]
  | cons x l ih => rw [List.cons_append, sumD_cons, sumD_cons, ih, addD_assoc]
instance (x y : DD) : Decidable (leM x y) := by unfold leM; exact inferInstance
theorem leM.refl (x : DD) : leM x x := Int.le_refl _
theorem leM.tot (x y : DD) : leM x y ∨ leM y x := Int.le_total _ _
/-- two that touch, and all between them -/
theorem stk_between : ∀ (n : Nat) {A B C : List DD} {p q : DD}, B.length = n → PosD A → PosD B → 0 < p.2 → 0 < q.2 → B.Pairwise leM → (∀ b ∈ B, leM p b ∧ leM b q) → leM p q → tchD p q = true → stkD (A ++ p :: (B ++ q :: C)) = stkD (A ++ sumD (p :: (B ++ [q])) :: C)
  | 0, A, B, C, p, q, hn, hA, hB, hp, hq, _, _, _, h => by
    obtain rfl : B = [] := List.length_eq_zero_iff.mp hn
    show stkD (A ++ p :: q :: C) = stkD (A ++ addD p (addD q (0, 0)) :: C)
    rw [addD_zero, stk_two hA hp hq h]
  | n + 1, A, B, C, p, q, hn, hA, hB, hp, hq, hw, hb, hpq, h => by
    cases B with
    | nil => simp at hn
    | cons b B =>
      have pb := hB b List.mem_cons_self
      obtain ⟨l1, l2⟩ := hb b List.mem_cons_self
      obtain ⟨w1, w2⟩ := List.pairwise_cons.mp hw
      by_cases c : tchD p b = true
      · show stkD (A ++ p :: b :: (B ++ q :: C)) = _
        rw [stk_two hA hp pb c]
        have pp : 0 < (addD p b).2 := Int.add_pos hp pb
        have lp : leM (addD p b) b := l1.add_r (leM.refl b)
        rw [stk_between n (by simpa using hn) hA (fun x hx => hB x (List.mem_cons_of_mem _ hx)) pp hq w2 (fun x hx => ⟨lp.trans (w1 x hx) pp pb (hB x (List.mem_cons_of_mem _ hx)), (hb x (List.mem_cons_of_mem _ hx)).2⟩) (lp.trans l2 pp pb hq)
          (tch_dst.mpr (((tch_dst.mp h).left l1.add_l hp hq pp).mono (by show p.2 + q.2 ≤ p.2 + b.2 + q.2; omega) pp hq))]
        rw [show sumD (addD p b :: (B ++ [q])) = sumD (p :: (b :: B ++ [q])) from by rw [sumD_cons, sumD_cons, List.cons_append, sumD_cons, addD_assoc]]
      · obtain ⟨B', cc, e⟩ : ∃ B' cc, b :: B = B' ++ [cc] := ⟨(b :: B).dropLast, (b :: B).getLast (List.cons_ne_nil _ _), (List.dropLast_concat_getLast _).symm⟩
        have hB' := hB
        rw [e] at hB' hb hw hn ⊢
        obtain ⟨w3, _, w4⟩ := List.pairwise_append.mp hw
        have pc : 0 < cc.2 := hB' cc (by simp)
        obtain ⟨m1, m2⟩ := hb cc (by simp)
        have bc : leM b cc := by
          have : b ∈ B' ++ [cc] := by rw [← e]; exact List.mem_cons_self
          rcases List.mem_append.mp this with z | z
          · exact w4 b z cc (by simp)
          · rw [List.mem_singleton.mp z]; exact leM.refl _
        have tc : tchD cc q = true := tch_dst.mpr ((((tch_dst.mp h).rest (fun z => c (tch_dst.mpr z)) hp hq pb).mono (w' := cc.2 + q.2) (by omega) pb hq).left bc pb hq pc)
        have e2 : A ++ p :: (B' ++ [cc] ++ q :: C) = (A ++ p :: B') ++ cc :: q :: C := by simp
        have hA2 : PosD (A ++ p :: B') := fun x hx => by
          rcases List.mem_append.mp hx with z | z
          · exact hA x z
          · rcases List.mem_cons.mp z with z | z
            · rw [z]; exact hp
            · exact hB' x (List.mem_append_left _ z)
        rw [e2, stk_two hA2 pc hq tc]
        have e3 : (A ++ p :: B') ++ addD cc q :: C = A ++ p :: (B' ++ addD cc q :: C) := by simp
        have pq' : 0 < (addD cc q).2 := Int.add_pos pc hq
        have lq : leM cc (addD cc q) := m2.add_l
        have lq2 : leM (addD cc q) q := m2.add_r (leM.refl q)
        rw [e3, stk_between n (by simpa using hn) hA (fun x hx => hB' x (List.mem_append_left _ hx)) hp pq' w3 (fun x hx => ⟨(hb x (List.mem_append_left _ hx)).1, (w4 x hx cc (by simp)).trans lq (hB' x (List.mem_append_left _ hx)) pc pq'⟩) (m1.trans lq hp pc pq')
          (tch_dst.mpr (((tch_dst.mp h).right lq2 hp hq pq').mono (by show p.2 + q.2 ≤ p.2 + (cc.2 + q.2); omega) hp pq'))]
        rw [show sumD (p :: (B' ++ [addD cc q])) = sumD (p :: (B' ++ [cc] ++ [q])) from by rw [sumD_cons, sumD_cons, sumD_app, sumD_app, sumD_app, addD_assoc]; simp [sumD, addD_zero]]
/-- one that touches all beside it -/
theorem stk_right : ∀ (B : List DD) {A C : List DD} {x : DD}, PosD A → PosD B → 0 < x.2 → B.Pairwise leM → (∀ c ∈ B, leM x c ∧ tchD x c = true) → stkD (A ++ x :: (B ++ C)) = stkD (A ++ sumD (x :: B) :: C)
  | [], A, C, x, _, _, _, _, _ => by
    show stkD (A ++ x :: C) = stkD (A ++ addD x (0, 0) :: C)
    rw [addD_zero]
  | c :: B, A, C, x, hA, hB, hx, hw, h => by
    have pc := hB c List.mem_cons_self
    obtain ⟨l, t⟩ := h c List.mem_cons_self
    obtain ⟨w1, w2⟩ := List.pairwise_cons.mp hw
    have pp : 0 < (addD x c).2 := Int.add_pos hx pc
    have hB' : PosD B := fun y hy => hB y (List.mem_cons_of_mem _ hy)
    show stkD (A ++ x :: c :: (B ++ C)) = _
    rw [stk_two hA hx pc t]
    rw [stk_right B hA hB' pp w2 fun y hy => ?_]
    · rw [show sumD (addD x c :: B) = sumD (x :: c :: B) from by rw [sumD_cons, sumD_cons, sumD_cons, addD_assoc]]
    · obtain ⟨ly, ty⟩ := h y (List.mem_cons_of_mem _ hy)
      exact ⟨(l.add_r (leM.refl c)).trans (w1 y hy) pp pc (hB' y hy), tch_dst.mpr (((tch_dst.mp ty).left l.add_l hx (hB' y hy) pp).mono (by show x.2 + y.2 ≤ x.2 + c.2 + y.2; omega) pp (hB' y hy))⟩
theorem stk_around : ∀ (B1 : List DD) {A B2 C : List DD} {x : DD}, PosD A → PosD B1 → PosD B2 → 0 < x.2 → B1.Pairwise (fun b a => leM a b) → B2.Pairwise leM → (∀ b ∈ B1, leM b x ∧ tchD b x = true) → (∀ c ∈ B2, leM x c ∧ tchD x c = true) → stkD (A ++ (B1.reverse ++ x :: (B2 ++ C))) = stkD (A ++ sumD (B1.reverse ++ x :: B2) :: C)
  | [], A, B2, C, x, hA, _, h2, hx, _, w2, _, c2 => stk_right B2 hA h2 hx w2 c2
  | b :: B1, A, B2, C, x, hA, h1, h2, hx, w1, w2, c1, c2 => by
    have pb := h1 b List.mem_cons_self
    have h1' : PosD B1 := fun y hy => h1 y (List.mem_cons_of_mem _ hy)
    obtain ⟨l, t⟩ := c1 b List.mem_cons_self
    obtain ⟨w3, w4⟩ := List.pairwise_cons.mp w1
    have pp : 0 < (addD b x).2 := Int.add_pos pb hx
    have lx : leM (addD b x) x := l.add_r (leM.refl x)
    have hA2 : PosD (A ++ B1.reverse) := fun y hy => by
      rcases List.mem_append.mp hy with z | z
      · exact hA y z
      · exact h1' y (List.mem_reverse.mp z)
    have e1 : A ++ ((b :: B1).reverse ++ x :: (B2 ++ C)) = (A ++ B1.reverse) ++ b :: x :: (B2 ++ C) := by simp
    have e2 : (A ++ B1.reverse) ++ addD b x :: (B2 ++ C) = A ++ (B1.reverse ++ addD b x :: (B2 ++ C)) := by simp
    rw [e1, stk_two hA2 pb hx t, e2, stk_around B1 hA h1' h2 pp w4 w2 (fun y hy => ?_) (fun y hy => ?_)]
    · rw [show sumD (B1.reverse ++ addD b x :: B2) = sumD ((b :: B1).reverse ++ x :: B2) from by rw [List.reverse_cons, List.append_assoc, sumD_app, sumD_app, sumD_cons]; show _ = addD _ (addD b (addD x (sumD B2))); rw [addD_assoc]]
    · obtain ⟨ly, ty⟩ := c1 y (List.mem_cons_of_mem _ hy)
      exact ⟨(w3 y hy).trans l.add_l (h1' y hy) pb pp, tch_dst.mpr (((tch_dst.mp ty).right lx (h1' y hy) hx pp).mono (by show y.2 + x.2 ≤ y.2 + (b.2 + x.2); omega) (h1' y hy) pp)⟩
    · obtain ⟨ly, ty⟩ := c2 y hy
      exact ⟨lx.trans ly pp hx (h2 y hy), tch_l pb hx (h2 y hy) t ty⟩
/-! ties -/
theorem tch_tie {a x : DD} (ha : 0 < a.2) (hx : 0 < x.2) (h : leM x a) : tchD a x = true := by
  rw [tch_dst]
  unfold Dst leM at *
  have : 0 < a.2 * x.2 * (a.2 + x.2) := Int.mul_pos (Int.mul_pos ha hx) (Int.add_pos ha hx)
  omega
theorem stk_bubble : ∀ (A : List DD) {Z C : List DD} {x : DD}, PosD Z → PosD A → 0 < x.2 → (∀ a ∈ A, leM a x ∧ leM x a) → stkD (Z ++ (A ++ x :: C)) = stkD (Z ++ x :: (A ++ C))
  | [], _, _, _, _, _, _, _ => rfl
  | a :: A, Z, C, x, hZ, hA, hx, h => by
    have pa := hA a List.mem_cons_self
    obtain ⟨l1, l2⟩ := h a List.mem_cons_self
    have hZ2 : PosD (Z ++ [a]) := fun y hy => by
      rcases List.mem_append.mp hy with z | z
      · exact hZ y z
      · rw [List.mem_singleton.mp z]; exact pa
    have e1 : Z ++ (a :: A ++ x :: C) = (Z ++ [a]) ++ (A ++ x :: C) := by simp
    have e2 : (Z ++ [a]) ++ x :: (A ++ C) = Z ++ a :: x :: (A ++ C) := by simp
    rw [e1, stk_bubble A hZ2 (fun y hy => hA y (List.mem_cons_of_mem _ hy)) hx fun y hy => h y (List.mem_cons_of_mem _ hy), e2, stk_two hZ pa hx (tch_tie pa hx l2), addD_comm, ← stk_two hZ hx pa (tch_tie hx pa l1)]
    rfl
theorem stk_perm : ∀ (l1 : List DD) {l2 Z : List DD}, l1.Perm l2 → PosD Z → PosD l1 → l1.Pairwise leM → l2.Pairwise leM → stkD (Z ++ l1) = stkD (Z ++ l2)
  | [], l2, Z, hp, _, _, _, _ => by rw [List.nil_perm.mp hp]
  | x :: l1, l2, Z, hp, hZ, h1, w1, w2 => by
    obtain ⟨A, C, rfl⟩ := List.append_of_mem (hp.mem_iff.mp List.mem_cons_self)
    obtain ⟨w3, w4⟩ := List.pairwise_cons.mp w1
    have px := h1 x List.mem_cons_self
    have hp2 : l1.Perm (A ++ C) := (hp.trans List.perm_middle).cons_inv
    have hA : PosD A := fun y hy => h1 y (hp.mem_iff.mpr (List.mem_append_left _ hy))
    obtain ⟨w5, w6, w7⟩ := List.pairwise_append.mp w2
    rw [stk_bubble A hZ hA px fun a ha => ⟨w7 a ha x List.mem_cons_self, w3 a (hp2.mem_iff.mpr (List.mem_append_left _ ha))⟩]
    have hZ2 : PosD (Z ++ [x]) := fun y hy => by
      rcases List.mem_append.mp hy with z | z
      · exact hZ y z
      · rw [List.mem_singleton.mp z]; exact px
    have e1 : Z ++ x :: l1 = (Z ++ [x]) ++ l1 := by simp
    have e2 : Z ++ x :: (A ++ C) = (Z ++ [x]) ++ (A ++ C) := by simp
    rw [e1, e2]
    refine stk_perm l1 hp2 hZ2 (fun y hy => h1 y (List.mem_cons_of_mem _ hy)) w4 (List.pairwise_append.mpr ⟨w5, (List.pairwise_cons.mp w6).2, fun a ha c hc => w7 a ha c (List.mem_cons_of_mem _ hc)⟩)
theorem srt_pair {l : List DD} (h : SrtD l) (hp : PosD l) : l.Pairwise leM := by
  rw [List.pairwise_iff_getElem]
  intro i j hi hj hij
  have := leD_iff.mp (h i j _ _ hij (List.getElem?_eq_getElem hi) (List.getElem?_eq_getElem hj))
  rw [wd_eq (hp _ (List.getElem_mem hi)), wd_eq (hp _ (List.getElem_mem hj))] at this
  unfold leM
  omega
theorem PosD.perm {l m : List DD} (h : PosD l) (p : l.Perm m) : PosD m := fun x hx => h x (p.mem_iff.mpr hx)
/-- what stands does not hang on the order in which equals come -/
theorem pol_perm {l m : List DD} (h : PosD l) (p : l.Perm m) (w : m.Pairwise leM) : stkD (ordD l) = stkD m := by
  have h1 : PosD (ordD l) := h.perm (ordD_perm l).symm
  exact stk_perm (ordD l) (Z := []) ((ordD_perm l).trans p) (fun x hx => by cases hx) h1 (srt_pair (ordD_srt l) h1) w
theorem pol_perm2 {l m : List DD} (h : PosD l) (p : l.Perm m) : polD (ordD l) = polD (ordD m) := by
  unfold polD
  have hm := h.perm p
  rw [pol_perm h (p.trans (ordD_perm m).symm) (srt_pair (ordD_srt m) (hm.perm (ordD_perm m).symm))]
/-- two that touch may run together first -/
theorem pol_join {l R : List DD} {p q : DD} (h : PosD l) (pm : l.Perm (p :: q :: R)) (lpq : leM p q) (t : tchD p q = true) : stkD (ordD l) = stkD (ordD (R ++ [addD p q])) := by
  have h2 := h.perm pm
  have pp := h2 p List.mem_cons_self
  have pq := h2 q (by simp)
  have hR : PosD R := fun x hx => h2 x (by simp [hx])
  have px : 0 < (addD p q).2 := Int.add_pos pp pq
  have lpx : leM p (addD p q) := lpq.add_l
  have lxq : leM (addD p q) q := lpq.add_r (leM.refl q)
  have hr : PosD (ordD R) := hR.perm (ordD_perm R).symm
  have wr := srt_pair (ordD_srt R) hr
  let dl : DD → Bool := fun y => decide (leM p y)
  let dr : DD → Bool := fun y => decide (leM y q)
  let dx : DD → Bool := fun y => decide (leM y (addD p q))
  obtain ⟨A, hA⟩ : ∃ A, A = (ordD R).filter (fun y => !dl y) := ⟨_, rfl⟩
  obtain ⟨B0, hB0⟩ : ∃ B0, B0 = (ordD R).filter dl := ⟨_, rfl⟩
  obtain ⟨B, hB⟩ : ∃ B, B = B0.filter dr := ⟨_, rfl⟩
  obtain ⟨C, hC⟩ : ∃ C, C = B0.filter (fun y => !dr y) := ⟨_, rfl⟩
  obtain ⟨B1, hB1⟩ : ∃ B1, B1 = B.filter dx := ⟨_, rfl⟩
  obtain ⟨B2, hB2⟩ : ∃ B2, B2 = B.filter (fun y => !dx y) := ⟨_, rfl⟩
  have no : ∀ {a b : DD}, (!decide (leM a b)) = true → leM b a := fun {a b} z => by
    have : ¬ leM a b := by simpa using z
    exact (leM.tot a b).elim (fun w => absurd w this) id
  have mA : ∀ a ∈ A, 0 < a.2 ∧ leM a p := fun a ha => by
    rw [hA, List.mem_filter] at ha
    exact ⟨hr a ha.1, no ha.2⟩
  have mB0 : ∀ b ∈ B0, 0 < b.2 ∧ leM p b := fun b hb => by
    rw [hB0, List.mem_filter] at hb
    exact ⟨hr b hb.1, of_decide_eq_true hb.2⟩
  have mB : ∀ b ∈ B, 0 < b.2 ∧ leM p b ∧ leM b q := fun b hb => by
    rw [hB, List.mem_filter] at hb
    exact ⟨(mB0 b hb.1).1, (mB0 b hb.1).2, of_decide_eq_true hb.2⟩
  have mC : ∀ c ∈ C, 0 < c.2 ∧ leM q c := fun c hc => by
    rw [hC, List.mem_filter] at hc
    exact ⟨(mB0 c hc.1).1, no hc.2⟩
  have m1 : ∀ b ∈ B1, (0 < b.2 ∧ leM p b ∧ leM b q) ∧ leM b (addD p q) := fun b hb => by
    rw [hB1, List.mem_filter] at hb
    exact ⟨mB b hb.1, of_decide_eq_true hb.2⟩
  have m2 : ∀ b ∈ B2, (0 < b.2 ∧ leM p b ∧ leM b q) ∧ leM (addD p q) b := fun b hb => by
    rw [hB2, List.mem_filter] at hb
    exact ⟨mB b hb.1, no hb.2⟩
  have wA : A.Pairwise leM := by rw [hA]; exact wr.filter _
  have wB0 : B0.Pairwise leM := by rw [hB0]; exact wr.filter _
  have wB : B.Pairwise leM := by rw [hB]; exact wB0.filter _
  have wC : C.Pairwise leM := by rw [hC]; exact wB0.filter _
  have w1 : B1.Pairwise leM := by rw [hB1]; exact wB.filter _
  have w2 : B2.Pairwise leM := by rw [hB2]; exact wB.filter _
  have pBC : (B ++ C).Perm B0 := by rw [hB, hC]; exact List.filter_append_perm _ _
  have p12 : (B1 ++ B2).Perm B := by rw [hB1, hB2]; exact List.filter_append_perm _ _
  have pR : (A ++ B0).Perm R := by
    rw [hA, hB0]
    exact (List.perm_append_comm.trans (List.filter_append_perm _ _)).trans (ordD_perm R)
  have pABC : (A ++ (B ++ C)).Perm R := (pBC.append_left A).trans pR
  -- the first row
  have a1 : l.Perm (A ++ p :: (B ++ q :: C)) := by
    refine pm.trans ?_
    refine List.Perm.symm ?_
    refine List.perm_middle.trans (List.Perm.cons p ?_)
    have e : A ++ (B ++ q :: C) = (A ++ B) ++ q :: C := by simp
    rw [e]
    refine List.perm_middle.trans (List.Perm.cons q ?_)
    rw [List.append_assoc]
    exact pABC
  have ws1 : (A ++ p :: (B ++ q :: C)).Pairwise leM := by
    refine List.pairwise_append.mpr ⟨wA, List.pairwise_cons.mpr ⟨fun y hy => ?_, List.pairwise_append.mpr ⟨wB, List.pairwise_cons.mpr ⟨fun y hy => (mC y hy).2, wC⟩, fun b hb y hy => ?_⟩⟩, fun a ha y hy => ?_⟩
    · rcases List.mem_append.mp hy with z | z
      · exact (mB y z).2.1
      · rcases List.mem_cons.mp z with z | z
        · rw [z]; exact lpq
        · exact lpq.trans (mC y z).2 pp pq (mC y z).1
    · rcases List.mem_cons.mp hy with z | z
      · rw [z]; exact (mB b hb).2.2
      · exact (mB b hb).2.2.trans (mC y z).2 (mB b hb).1 pq (mC y z).1
    · obtain ⟨pa, la⟩ := mA a ha
      rcases List.mem_cons.mp hy with z | z
      · rw [z]; exact la
      · rcases List.mem_append.mp z with z | z
        · exact la.trans (mB y z).2.1 pa pp (mB y z).1
        · rcases List.mem_cons.mp z with z | z
          · rw [z]; exact la.trans lpq pa pp pq
          · exact (la.trans lpq pa pp pq).trans (mC y z).2 pa pq (mC y z).1
  -- the second row
  have a2 : (R ++ [addD p q]).Perm (A ++ (B1 ++ addD p q :: (B2 ++ C))) := by
    refine List.perm_append_comm.trans ?_
    refine List.Perm.symm ?_
    have e : A ++ (B1 ++ addD p q :: (B2 ++ C)) = (A ++ B1) ++ addD p q :: (B2 ++ C) := by simp
    rw [e]
    refine List.perm_middle.trans (List.Perm.cons _ ?_)
    have e2 : A ++ B1 ++ (B2 ++ C) = A ++ ((B1 ++ B2) ++ C) := by simp
    rw [e2]
    exact ((p12.append_right C).append_left A).trans pABC
  have ws2 : (A ++ (B1 ++ addD p q :: (B2 ++ C))).Pairwise leM := by
    refine List.pairwise_append.mpr ⟨wA, List.pairwise_append.mpr ⟨w1, List.pairwise_cons.mpr ⟨fun y hy => ?_, List.pairwise_append.mpr ⟨w2, wC, fun b hb y hy => ?_⟩⟩, fun b hb y hy => ?_⟩, fun a ha y hy => ?_⟩
    · rcases List.mem_append.mp hy with z | z
      · exact (m2 y z).2
      · exact lxq.trans (mC y z).2 px pq (mC y z).1
    · exact (m2 b hb).1.2.2.trans (mC y hy).2 (m2 b hb).1.1 pq (mC y hy).1
    · have pb := (m1 b hb).1.1
      rcases List.mem_cons.mp hy with z | z
      · rw [z]; exact (m1 b hb).2
      · rcases List.mem_append.mp z with z | z
        · exact (m1 b hb).2.trans (m2 y z).2 pb px (m2 y z).1.1
        · exact (m1 b hb).1.2.2.trans (mC y z).2 pb pq (mC y z).1
    · obtain ⟨pa, la⟩ := mA a ha
      rcases List.mem_append.mp hy with z | z
      · exact la.trans (m1 y z).1.2.1 pa pp (m1 y z).1.1
      · rcases List.mem_cons.mp z with z | z
        · rw [z]; exact la.trans lpx pa pp px
        · rcases List.mem_append.mp z with z | z
          · exact la.trans (m2 y z).1.2.1 pa pp (m2 y z).1.1
          · exact (la.trans lpq pa pp pq).trans (mC y z).2 pa pq (mC y z).1
  have hR2 : PosD (R ++ [addD p q]) := fun y hy => by
    rcases List.mem_append.mp hy with z | z
    · exact hR y z
    · rw [List.mem_singleton.mp z]; exact px
  have dpq := tch_dst.mp t
  have x2 : (addD p q).2 = p.2 + q.2 := rfl
  rw [pol_perm h a1 ws1, pol_perm hR2 a2 ws2, stk_between _ rfl (fun a ha => (mA a ha).1) (fun b hb => (mB b hb).1) pp pq wB (fun b hb => (mB b hb).2) lpq t]
  have ar := stk_around B1.reverse (A := A) (B2 := B2) (C := C) (x := addD p q) (fun a ha => (mA a ha).1) (fun b hb => (m1 b (List.mem_reverse.mp hb)).1.1) (fun b hb => (m2 b hb).1.1) px (List.pairwise_reverse.mpr w1) w2
    (fun b hb => by
      obtain ⟨⟨pb, l1, l2⟩, l3⟩ := m1 b (List.mem_reverse.mp hb)
      exact ⟨l3, tch_dst.mpr (((dpq.left l1 pp pq pb).right lxq pb pq px).mono (by omega) pb px)⟩)
    (fun c hc => by
      obtain ⟨⟨pc, l1, l2⟩, l3⟩ := m2 c hc
      exact ⟨l3, tch_dst.mpr (((dpq.left lpx pp pq px).right l2 px pq pc).mono (by omega) px pc)⟩)
  rw [List.reverse_reverse] at ar
  rw [ar]
  have es : sumD (p :: (B ++ [q])) = sumD (B1 ++ addD p q :: B2) := by
    rw [sumD_cons p, sumD_app, ← sumD_perm p12, sumD_app, sumD_app, sumD_cons (addD p q) B2]
    generalize sumD B1 = s1
    generalize sumD B2 = s2
    show addD p (addD (addD s1 s2) (addD q (0, 0))) = _
    rw [addD_zero]
    unfold addD
    refine Prod.ext ?_ ?_
    · show p.1 + (s1.1 + s2.1 + q.1) = s1.1 + (p.1 + q.1 + s2.1); omega
    · show p.2 + (s1.2 + s2.2 + q.2) = s1.2 + (p.2 + q.2 + s2.2); omega
  rw [es]
/-- where none touch, they stand as they are -/
theorem stk_apart : ∀ {l : List DD}, l.Pairwise (fun t f => tchD t f = false) → stkD l = l.reverse := by
  have key : ∀ (l st : List DD), (∀ t, st.head? = some t → ∀ f, l.head? = some f → tchD t f = false) → l.Pairwise (fun t f => tchD t f = false) → l.foldl pushD st = l.reverse ++ st := by
    intro l
    induction l with
    | nil => intro st _ _; rfl
    | cons f l ih =>
      intro st h w
      obtain ⟨w1, w2⟩ := List.pairwise_cons.mp w
      have e : pushD st f = f :: st := by
        cases st with
        | nil => rfl
        | cons t st => rw [pushD, if_neg (by rw [h t rfl f rfl]; exact Bool.false_ne_true)]
      rw [List.foldl_cons, e, ih (f :: st) (fun t et g eg => ?_) w2, List.reverse_cons, List.append_assoc]
      · rfl
      · cases et
        cases l with
        | nil => cases eg
        | cons g' l => cases eg; exact w1 _ List.mem_cons_self
  intro l w
  have := key l [] (fun t et => by cases et) w
  rw [List.append_nil] at this
  exact this
theorem szs_of {L : Int} (hL : L.natAbs ≤ 2000) : ∀ {ds : List DD}, (∀ x ∈ ds, 0 < x.2 ∧ x.2 ≤ 5000 ∧ x.1.natAbs ≤ 600000000) → sz1 (ds.map mom) ≤ ds.length * 3000000000000 ∧ sz2 (ds.map mom) ≤ ds.length * 5000
  | [], _ => ⟨Nat.le_refl _, Nat.le_refl _⟩
  | x :: ds, h => by
    obtain ⟨h1, h2⟩ := szs_of hL (ds := ds) fun y hy => h y (List.mem_cons_of_mem _ hy)
    obtain ⟨a, b, c⟩ := h x List.mem_cons_self
    rw [List.map_cons, sz1_cons, sz2_cons, List.length_cons]
    have e : (mom x).1.natAbs ≤ 3000000000000 := by
      show (x.1 * x.2).natAbs ≤ _
      rw [Int.natAbs_mul]
      exact Nat.mul_le_mul c (show x.2.natAbs ≤ 5000 by omega)
    have e2 : (mom x).2.natAbs ≤ 5000 := by show x.2.natAbs ≤ _; omega
    omega
/-- pools of drops in parts of 1 / L: L is a multiple of their bottoms -/
theorem szs_100 {L : Int} {ds : List DD} (hL : L.natAbs ≤ 2000) (few : ds.length ≤ 1000) (h : ∀ x ∈ ds, 0 < x.2 ∧ x.2 ≤ 5000 ∧ x.1.natAbs ≤ 600000000) : Szs 100 L (ds.map mom) := by
  obtain ⟨h1, h2⟩ := szs_of hL h
  refine ⟨?_, ?_⟩
  · refine Nat.lt_of_le_of_lt (Nat.le_trans h1 (Nat.mul_le_mul_right _ few)) (by decide)
  · refine Nat.lt_of_le_of_lt (Nat.mul_le_mul (Nat.le_trans h2 (Nat.mul_le_mul_right _ few)) hL) (by decide)
theorem Szs.mono {n m : Nat} {L : Int} {ds : List DD} (h : Szs n L ds) (k : n ≤ m) : Szs m L ds := ⟨Nat.lt_of_lt_of_le h.1 (Nat.pow_le_pow_right (by decide) k), Nat.lt_of_lt_of_le h.2 (Nat.pow_le_pow_right (by decide) k)⟩
theorem Szs.one {n : Nat} {L : Int} {ds : List DD} (h : Szs n L ds) (l : 0 < L) : Szs n 1 ds := ⟨h.1, Nat.lt_of_le_of_lt (Nat.mul_le_mul_left _ (show (1 : Int).natAbs ≤ L.natAbs by omega)) h.2⟩
theorem sz_perm {l m : List DD} (p : l.Perm m) : sz1 l = sz1 m ∧ sz2 l = sz2 m := ⟨(p.map _).sum_nat, (p.map _).sum_nat⟩
theorem pol_sz {n : Nat} {L : Int} {ds : List DD} (h : Szs n L ds) : Szs n L (polD (ordD ds)) ∧ (polD (ordD ds)).length ≤ ds.length := by
  obtain ⟨h1, h2, h3⟩ := stk_sz (ordD ds)
  obtain ⟨h4, h5⟩ := sz_ord ds
  have e := sz_perm (List.reverse_perm (stkD (ordD ds)))
  unfold polD
  refine ⟨⟨by rw [e.1]; exact Nat.lt_of_le_of_lt (by omega) h.1, by rw [e.2]; exact Nat.lt_of_le_of_lt (Nat.mul_le_mul_right _ (by omega)) h.2⟩, ?_⟩
  rw [List.length_reverse]
  rw [ordD_len] at h3
  exact h3
theorem mw_of {CP C : Addr} {G : Hp} {L S W : Int} {q : Addr} {a b c d : Int} (hP : PoolAt CP C G q a b c d) (hz : Pz 50 a b c d) (e1 : a * L = S * b) (e2 : c * L = W * d) : MwAt CP C G L q (mom (S, W)) :=
  ⟨a, b, c, d, hP, hz.b0, hz.c0, hz.d0, hz.c1, hz.c2, by show a * (W * L) = S * W * b; grind, e2⟩
theorem cut2 {K : PySem.W.Frag} {H : Hp} {u : Addr} {a b f g : Int} {Q : VK} (e : H u = some (.tup [.int a, .int b, .int f, .int g])) (k : ∀ p, H p = none → Q (.ref p) (upd H p (.tup [.int a, .int b]))) : rSlT K (.ref u) none (some 2) H Q :=
  ⟨u, _, rfl, SqT.of e, fun z => absurd z.2 (by show ¬ (HT.sIx 4 4 (some 2) = 4); decide), k⟩
theorem ordX_mem {ds : List DD} {x : DD} : x ∈ ordX ds ↔ x ∈ ds := by
  have : ∀ (ds l : List DD), x ∈ ds.foldl insX l ↔ x ∈ l ∨ x ∈ ds := by
    intro ds
    induction ds with
    | nil => intro l; simp
    | cons d ds ih =>
      intro l
      rw [List.foldl_cons, ih, insX_mem, List.mem_cons, or_assoc]
  rw [ordX, this]; simp

/-! ### law helpers: apart, mixed -/
def aptD (x y : DD) : Int := 2 * ((y.1 * x.2 - x.1 * y.2).natAbs : Int) - x.2 * y.2 * (x.2 + y.2)
theorem apt_le {x y : DD} (hx : 0 < x.2) (hy : 0 < y.2) : aptD x y ≤ 0 ↔ (tchD x y = true ∧ tchD y x = true) := by
  unfold aptD tchD
  rw [decide_eq_true_iff, decide_eq_true_iff]
  have e1 : y.2 * x.2 * (y.2 + x.2) = x.2 * y.2 * (x.2 + y.2) := by rw [Int.mul_comm y.2, Int.add_comm y.2]
  rw [e1]
  generalize x.2 * y.2 * (x.2 + y.2) = k
  generalize y.1 * x.2 = a
  generalize x.1 * y.2 = b
  omega
def spApt : Sp := fun vs H Q _ => ∃ (t f : Addr) (x y : DD) (r1 r2 : List V), vs = [.ref t, .ref f] ∧ H t = some (.tup (.int x.1 :: .int x.2 :: r1)) ∧ H f = some (.tup (.int y.1 :: .int y.2 :: r2)) ∧ Bn 300 x.1 ∧ Bn 300 x.2 ∧ Bn 300 y.1 ∧ Bn 300 y.2 ∧ Q (.int (aptD x y)) H
theorem TupsAt.but {H H' : Hp} {ts : List Addr} {ds : List DD} {p : Addr} (h : TupsAt H ts ds) (hb : BoxAt H p) (k : But p H H') : TupsAt H' ts ds := ⟨h.1, fun i t x e1 e2 => tup_but (h.2 i t x e1 e2) hb k⟩
theorem TupsAt.butL {H H' : Hp} {ts : List Addr} {ds : List DD} {p : Addr} {ys : List V} (h : TupsAt H ts ds) (hl : H p = some (.lst ys)) (k : But p H H') : TupsAt H' ts ds := ⟨h.1, fun i t x e1 e2 => k _ _ (fun z => by have e := h.2 i t x e1 e2; rw [z, hl] at e; cases e) (h.2 i t x e1 e2)⟩
theorem TupsAt.data {K : PySem.W.Frag} {H : Hp} {us : List Addr} {xs : List DD} (h : TupsAt H us xs) : ∃ dds, DpAll K H (us.map V.ref) dds ∧ dds.length = us.length ∧ PyData.canLayAll0 dds = true ∧ PyData.depthAll dds ≤ 1 := drops_data fun t ht => by
  obtain ⟨i, hi, e⟩ := List.mem_iff_getElem.mp ht
  have hx : xs[i]? = some (xs[i]'(by rw [h.1]; exact hi)) := List.getElem?_eq_getElem _
  exact ⟨_, _, h.2 i t _ (by rw [List.getElem?_eq_getElem hi, e]) hx⟩
theorem TupsAt.erase {H : Hp} {ts : List Addr} {ds : List DD} {k : Nat} (h : TupsAt H ts ds) : TupsAt H (ts.eraseIdx k) (ds.eraseIdx k) := by
  refine ⟨by rw [List.length_eraseIdx, List.length_eraseIdx, h.1], fun i t x e1 e2 => ?_⟩
  rw [List.getElem?_eraseIdx] at e1 e2
  by_cases c : i < k
  · rw [if_pos c] at e1 e2; exact h.2 i t x e1 e2
  · rw [if_neg c] at e1 e2; exact h.2 (i + 1) t x e1 e2
theorem TupsAt.snoc {H : Hp} {ts : List Addr} {ds : List DD} {t : Addr} {x : DD} (h : TupsAt H ts ds) (e : H t = some (.tup [.int x.1, .int x.2])) : TupsAt H (ts ++ [t]) (ds ++ [x]) := by
  refine ⟨by rw [List.length_append, List.length_append, h.1]; rfl, fun i t' x' e1 e2 => ?_⟩
  rcases Nat.lt_or_ge i ts.length with hi | hi
  · rw [List.getElem?_append_left hi] at e1
    rw [List.getElem?_append_left (by rw [h.1]; exact hi)] at e2
    exact h.2 i t' x' e1 e2
  · rw [List.getElem?_append_right hi] at e1
    rw [List.getElem?_append_right (by rw [h.1]; exact hi), h.1] at e2
    obtain rfl : i = ts.length := by
      have := (List.getElem?_eq_some_iff.mp e1).1
      simp at this
      omega
    rw [Nat.sub_self] at e1 e2
    cases e1; cases e2
    exact e
theorem eras_map : ∀ (us : List Addr) (k : Nat), (us.map V.ref).eraseIdx k = (us.eraseIdx k).map V.ref
  | [], _ => rfl
  | _ :: _, 0 => rfl
  | u :: us, k + 1 => by
    show V.ref u :: (us.map V.ref).eraseIdx k = V.ref u :: (us.eraseIdx k).map V.ref
    rw [eras_map us k]
theorem eras_perm {α : Type} : ∀ {l : List α} {k : Nat} {x : α}, l[k]? = some x → (x :: l.eraseIdx k).Perm l
  | [], k, x, h => by simp at h
  | y :: l, 0, x, h => by cases h; exact List.Perm.refl _
  | y :: l, k + 1, x, h => by
    have := eras_perm (l := l) (k := k) (x := x) (by simpa using h)
    exact (List.Perm.swap y x _).trans (this.cons y)
def spMix : Sp := fun vs H Q _ => ∃ (p l : Addr) (ts : List Addr) (ds : List DD), vs = [.ref p, .ref l] ∧ BoxAt H p ∧ H l = some (.lst (ts.map V.ref)) ∧ TupsAt H ts ds ∧ ts.length ≤ 1000 ∧
  ∀ q H' ts' ds', BoxAt H' p → But p H H' → H q = none → H' q = some (.lst (ts'.map V.ref)) → TupsAt H' ts' ds' → ds.Perm ds' → Q (.ref q) H'
section
variable {P : Program} {w : World} {K : PySem.W.Frag} {mg : Str → Option Value} {base : Heap}
end

/-! ### the scene of drops -/
theorem drops_dataS {K : PySem.W.Frag} {H : Hp} : ∀ {ts : List Addr}, (∀ t ∈ ts, ∃ S W : Int, H t = some (.tup [.int S, .int W])) → ∃ dds, (∀ H', Same H H' → DpAll K H' (ts.map V.ref) dds) ∧ dds.length = ts.length ∧ PyData.canLayAll0 dds = true ∧ PyData.depthAll dds ≤ 1
  | [], _ => ⟨[], fun _ _ => .nil, rfl, rfl, by decide⟩
  | t :: ts, h => by
    obtain ⟨dds, h1, h2, h3, h4⟩ := drops_dataS (ts := ts) fun u hu => h u (List.mem_cons_of_mem _ hu)
    obtain ⟨S, W, e⟩ := h t List.mem_cons_self
    refine ⟨.tuple [.int S, .int W] :: dds, fun H' s => .cons (.tup (SqT.of (s _ _ e)) (.cons (.int _) (.cons (.int _) .nil))) (h1 H' s), by simp [h2], ?_, ?_⟩
    · show (PyData.canLay0 (.tuple [.int S, .int W]) && PyData.canLayAll0 dds) = true
      rw [h3]; rfl
    · show max (PyData.depth (.tuple [.int S, .int W])) (PyData.depthAll dds) ≤ 1
      have : PyData.depth (.tuple [.int S, .int W]) = 1 := rfl
      omega
theorem tups_of {H : Hp} : ∀ {ts : List Addr}, (∀ t ∈ ts, DropAt H t) → ∃ ds : List DD, TupsAt H ts ds ∧ ∀ x ∈ ds, 0 < x.2 ∧ x.2 ≤ 5000 ∧ x.1.natAbs ≤ 600000000
  | [], _ => ⟨[], ⟨rfl, fun i t x e => by simp at e⟩, fun x hx => by cases hx⟩
  | t :: ts, h => by
    obtain ⟨ds, h1, h2⟩ := tups_of (ts := ts) fun u hu => h u (List.mem_cons_of_mem _ hu)
    obtain ⟨S, W, e, r⟩ := h t List.mem_cons_self
    refine ⟨(S, W) :: ds, ⟨by rw [List.length_cons, List.length_cons, h1.1], fun i u x e1 e2 => ?_⟩, fun x hx => ?_⟩
    · cases i with
      | zero => cases e1; cases e2; exact e
      | succ i => exact h1.2 i u x (by simpa using e1) (by simpa using e2)
    · rcases List.mem_cons.mp hx with z | z
      · rw [z]; exact r
      · exact h2 x z
section
variable {P : Program} {w : World} {K : PySem.W.Frag} {mg : Str → Option Value} {base : Heap}
def spScene : Sp := fun vs H Q _ => ∃ (p : Addr) (mo : Int), vs = [.ref p, .int mo] ∧ 0 ≤ mo ∧ mo ≤ 40 ∧ BoxAt H p ∧ ∀ u l (ts : List Addr) (L : Int) H', H' u = some (.tup [.int L, .ref l]) → H' l = some (.lst (ts.map V.ref)) → (ts.length : Int) ≤ mo → H l = none → (∀ t ∈ ts, DropAt H' t) → 0 < L → L ≤ 1001 → BoxAt H' p → But p H H' → Q (.ref u) H'
theorem ok_scene (T : Txt K mg) : FnOk P w K mg base CX0 2 T.f_lw_scene T.d_lw_scene ["_law_box_here", "_law_most"] spScene := by
  have nd := sc_lw_scene.nd
  refine T.F_lw_scene.ok sc_lw_scene (fun vs H Q E ⟨_, _, e, _⟩ => by rw [e]; rfl) (fun cdv A outer s H vs Q E hr h => ?_)
  obtain ⟨p, mo, rfl, mo0, mo1, hb, fin⟩ := h
  refine ⟨_, pss_cons (ps_set (i := 2) nd rfl (.inl rfl) (pe_ix ix_list (pe_lst (pa_cons pe_int (pa_cons pe_int (pa_cons pe_int (pa_cons (pe_op op_add pe_int (pe_f (E := fun _ => E0) (ok_take T) (hr.mono (by decide)) (by rfl) T.g_lw_take T.F_lw_take.kp T.B_lw_take (fun _ => at0) (pa_cons (pv 0) (pa_cons pe_int pa_nil)))) pa_nil))))) (pe_f (E := fun _ => E0) (ok_take T) (hr.mono (by decide)) (by rfl) T.g_lw_take T.F_lw_take.kp T.B_lw_take (fun _ => at0) (pa_cons (pv 0) (pa_cons pe_int pa_nil))) (fun _ _ => rfl)))
    (pss_cons (ps_par (i := 3) (j := 4) rfl nd rfl rfl (by decide) rfl rfl (pa_cons (pe_f (E := fun _ => E0) (ok_take T) (hr.mono (by decide)) (by rfl) T.g_lw_take T.F_lw_take.kp T.B_lw_take (fun _ => at0) (pa_cons (pv 0) (pa_cons (pe_op op_add (pv 1) pe_int) pa_nil))) (pa_cons (pe_lst pa_nil) pa_nil)) (by rfl))
    (pss_cons (ps_set (i := 5) nd rfl (.inl rfl) (pe_ix ix_list (pe_lst (pa_cons pe_int (pa_cons pe_int (pa_cons pe_int pa_nil)))) (pe_f (E := fun _ => E0) (ok_take T) (hr.mono (by decide)) (by rfl) T.g_lw_take T.F_lw_take.kp T.B_lw_take (fun _ => at0) (pa_cons (pv 0) (pa_cons pe_int pa_nil))) (fun _ _ => rfl)))
    (pss_cons (ps_for PassesOwn.never rfl (pi_range1 (by rfl) T.b_range (pa_cons (pv 3) pa_nil)) (pg_name (i := 6) nd rfl (.inl rfl))
      (pss_cons (ps_par (i := 7) (j := 8) rfl nd rfl rfl (by decide) rfl rfl (pa_cons (pe_op op_add pe_int (pe_f (E := fun _ => E0) (ok_take T) (hr.mono (by decide)) (by rfl) T.g_lw_take T.F_lw_take.kp T.B_lw_take (fun _ => at0) (pa_cons (pv 0) (pa_cons (pe_ix ix_list (pe_lst (pa_cons pe_int (pa_cons pe_int (pa_cons pe_int pa_nil)))) (pe_f (E := fun _ => E0) (ok_take T) (hr.mono (by decide)) (by rfl) T.g_lw_take T.F_lw_take.kp T.B_lw_take (fun _ => at0) (pa_cons (pv 0) (pa_cons pe_int pa_nil))) (fun _ _ => rfl)) pa_nil)))) (pa_cons (pe_f (E := fun _ => E0) (ok_take T) (hr.mono (by decide)) (by rfl) T.g_lw_take T.F_lw_take.kp T.B_lw_take (fun _ => at0) (pa_cons (pv 0) (pa_cons pe_int pa_nil))) pa_nil)) (by rfl))
      (pss_cons (ps_set (i := 9) nd rfl (.inl rfl) (pe_op op_sub (pe_f (E := fun _ => E0) (ok_take T) (hr.mono (by decide)) (by rfl) T.g_lw_take T.F_lw_take.kp T.B_lw_take (fun _ => at0) (pa_cons (pv 0) (pa_cons (pe_op op_add (pe_op op_mul pe_int (pv 5)) pe_int) pa_nil))) (pv 5)))
      (C8.pss_cut (ps_if (PW.pt (pw_and (pt_cmpR op_lt (pv 8) pe_int (nomark _)) (pw_and1 (pt_cmpR (op_neD hr.units) (pv 4) (pe_lst pa_nil) (nomark _)))))
        (pss_cons (ps_asg (pe_ix ix_list (pv 4) (pe_un un_neg pe_int) (fun _ _ => rfl)) (pg_tup rfl (pgs_cons (pg_name (i := 10) nd rfl (.inl rfl)) (pgs_cons (pg_name (i := 11) nd rfl (.inl rfl)) pgs_nil))))
        (pss_cons (ps_set (i := 7) nd rfl (.inl rfl) (pe_op op_add (pv 7) (pe_op op_mod (pe_op op_add (pv 7) (pv 11)) pe_int)))
        (pss_cons (ps_set (i := 12) nd rfl (.inl rfl) (pe_op op_fdivX (pe_op op_add (pv 7) (pv 11)) pe_int))
        (pss_one (ps_set (i := 9) nd rfl (.inl rfl) (pe_op op_add (pv 10) (pe_ix ix_list (pe_lst (pa_cons pe_int (pa_cons (pv 12) (pa_cons (pe_op op_add (pv 12) pe_int) pa_nil)))) (pv 8) (fun _ _ => rfl)))))))) pss_nil)
      (pss_one (ps_expr (pe_bm PySem.F.plainAttrs_list PySem.F.slot_list_append PySem.F.type_list_append mt_append (pv 4) (pa_cons (pe_tup (pa_cons (pv 9) (pa_cons (pv 7) pa_nil))) pa_nil))))))))
    (pss_one (ps_ret (pe_tup (pa_cons (pv 2) (pa_cons (pv 4) pa_nil)))))))), ?_⟩
  have nbox : ∀ {G : Hp} {q : Addr}, BoxAt G p → G q = none → p ≠ q := fun hb hq => by obtain ⟨_, _, _, e, _⟩ := hb; exact ne_of_none e hq
  refine ⟨_, rfl, p, 1000, rfl, hb, by decide, by decide, fun d n sd c d0 d1 hb1 => ⟨_, _, rfl, rfl, (by show 4 ≤ sizeLine; decide), fun q hq => ?_⟩⟩
  refine ⟨_, rfl, p, 4, rfl, hb1.same (same_upd hq), by decide, by decide, fun d' n' sd' c' d0' d1' hb2 => ?_⟩
  obtain ⟨v, hv, u, rfl, u0, u1⟩ := menu4 (p := fun v => ∃ z : Int, v = .int z ∧ 0 < z ∧ z ≤ 1001) d0' d1' (a := .int 1) (b := .int 2) (c := .int 6) (e := .int (1 + d)) ⟨_, rfl, by decide, by decide⟩ ⟨_, rfl, by decide, by decide⟩ ⟨_, rfl, by decide, by decide⟩ ⟨_, rfl, by omega, by omega⟩
  refine ⟨q, _, _, _, rfl, rfl, SqL.of (by rw [upd_ne (nbox hb1 hq).symm]; exact upd_same), hv, ?_⟩
  refine ⟨_, rfl, _, rfl, _, _, rfl, rfl, p, mo + 1, rfl, hb2, by omega, by omega, fun m n2 sd2 c2 m0 m1 hb3 => ⟨Nat.zero_le _, fun l hl => ⟨_, _, rfl, ?_⟩⟩⟩
  have k3 : But p H (upd (upd (upd (upd H p (BoxL n sd c)) q (.lst [.int 1, .int 2, .int 6, .int (1 + d)])) p (BoxL n' sd' c')) p (BoxL n2 sd2 c2)) := ((But.upd.trans (But.of (same_upd hq))).trans But.upd).trans But.upd
  generalize upd (upd (upd (upd H p _) q _) p _) p _ = G3 at hl hb3 k3
  have Hl : H l = none := by
    cases e : H l with
    | none => rfl
    | some o => have := k3 l o (nbox hb3 hl).symm e; rw [hl] at this; cases this
  refine ⟨(by show 3 ≤ sizeLine; decide), fun q3 hq3 => ?_⟩
  have hb4 := (hb3.same (same_upd (o := .lst []) hl)).same (same_upd (o := .lst [.int 4, .int 30, .int 500000000]) hq3)
  refine ⟨_, rfl, p, 3, rfl, hb4, by decide, by decide, fun dw n4 sd4 c4 w0 w1 hb5 => ?_⟩
  obtain ⟨v, hv, wd, rfl, wd0, wd1⟩ := menu3 (p := fun v => ∃ z : Int, v = .int z ∧ 0 < z ∧ z ≤ 500000000) w0 w1 (a := .int 4) (b := .int 30) (c := .int 500000000) ⟨_, rfl, by decide, by decide⟩ ⟨_, rfl, by decide, by decide⟩ ⟨_, rfl, by decide, by decide⟩
  refine ⟨q3, _, _, _, rfl, rfl, SqL.of (by rw [upd_ne (nbox (hb3.same (same_upd hl)) hq3).symm]; exact upd_same), hv, ?_⟩
  have npl : p ≠ l := nbox hb3 hl
  have l5 : upd (upd (upd G3 l (.lst [])) q3 (.lst [.int 4, .int 30, .int 500000000])) p (BoxL n4 sd4 c4) l = some (.lst []) := by
    rw [upd_ne npl.symm, upd_ne (ne_of_none upd_same hq3)]; exact upd_same
  have k5 : But p H (upd (upd (upd G3 l (.lst [])) q3 (.lst [.int 4, .int 30, .int 500000000])) p (BoxL n4 sd4 c4)) := ((k3.trans (But.of (same_upd hl))).trans (But.of (same_upd hq3))).trans But.upd
  generalize upd (upd (upd G3 l (.lst [])) q3 _) p _ = G5 at hb5 l5 k5
  refine ⟨_, rfl, _, rfl, by omega, by omega, for_range (lo := 0) (fun j σ' G => BoxAt G p ∧ But p H G ∧ ∃ ts : List Addr, G l = some (.lst (ts.map V.ref)) ∧ ts.length = j ∧ (∀ t ∈ ts, ∃ S W : Int, G t = some (.tup [.int S, .int W]) ∧ 0 < W ∧ W ≤ 1001 ∧ S.natAbs ≤ 500000000 + 2000 * j) ∧
      ∃ w6 w7 w8 w9 w10 w11 w12 : Option V, σ' = [some (.ref p), some (.int mo), some (.int u), some (.int m), some (.ref l), some (.int wd), w6, w7, w8, w9, w10, w11, w12])
    ⟨hb5, k5, [], l5, rfl, (fun _ h => nomatch h), _, _, _, _, _, _, _, rfl⟩ ?_ ?_⟩
  rotate_left
  · rintro σ' G ⟨hbG, kG, ts, el, len, dr, w6, w7, w8, w9, w10, w11, w12, rfl⟩
    refine ⟨_, rfl, _, rfl, (by show 2 ≤ sizeLine; decide), fun t0 ht0 => ?_⟩
    refine fin t0 l ts u _ upd_same (same_upd ht0 _ _ el) (by omega) Hl (fun t ht => ?_) u0 u1 (hbG.same (same_upd ht0)) (kG.trans (But.of (same_upd ht0)))
    obtain ⟨S, W, e, W0, W1, Sz⟩ := dr t ht
    exact ⟨S, W, same_upd ht0 _ _ e, W0, by omega, by omega⟩
  rintro j σ' G hj ⟨hbG, kG, ts, el, len, dr, w6, w7, w8, w9, w10, w11, w12, rfl⟩
  refine ⟨_, rfl, (by show 3 ≤ sizeLine; decide), fun q5 hq5 => ?_⟩
  refine ⟨_, rfl, p, 3, rfl, hbG.same (same_upd hq5), by decide, by decide, fun e n6 sd6 c6 e0 e1 hb6 => ?_⟩
  obtain ⟨v, hv, zz, rfl, z0, z1⟩ := menu3 (p := fun v => ∃ z : Int, v = .int z ∧ 0 < z ∧ z ≤ 1000) e0 e1 (a := .int 4) (b := .int 12) (c := .int 1000) ⟨_, rfl, by decide, by decide⟩ ⟨_, rfl, by decide, by decide⟩ ⟨_, rfl, by decide, by decide⟩
  refine ⟨q5, _, _, _, rfl, rfl, SqL.of (by rw [upd_ne (nbox hbG hq5).symm]; exact upd_same), hv, ?_⟩
  refine ⟨p, zz, rfl, hb6, z0, by omega, fun vol n7 sd7 c7 vol0 vol1 hb7 => ⟨_, _, rfl, rfl, ?_⟩⟩
  refine ⟨_, rfl, p, 5, rfl, hb7, by decide, by decide, fun f n8 sd8 c8 f0 f1 hb8 => ⟨_, _, rfl, ?_⟩⟩
  refine ⟨_, rfl, _, rfl, _, _, rfl, rfl, .inl ⟨by decide, by decide⟩, _, _, rfl, rfl, p, 2 * wd + 1, rfl, hb8, by omega, by omega, fun sp n9 sd9 c9 sp0 sp1 hb9 => ⟨_, rfl, _, _, rfl, rfl, ?_⟩⟩
  have k9 : But p G (upd (upd (upd (upd (upd G q5 (.lst [.int 4, .int 12, .int 1000])) p (BoxL n6 sd6 c6)) p (BoxL n7 sd7 c7)) p (BoxL n8 sd8 c8)) p (BoxL n9 sd9 c9)) := (((((But.of (same_upd hq5)).trans But.upd).trans But.upd).trans But.upd).trans But.upd)
  generalize upd (upd (upd (upd (upd G q5 _) p _) p _) p _) p _ = G9 at hb9 k9
  have el9 : G9 l = some (.lst (ts.map V.ref)) := k9 l _ npl.symm el
  have dr9 : ∀ t ∈ ts, ∃ S W : Int, G9 t = some (.tup [.int S, .int W]) ∧ 0 < W ∧ W ≤ 1001 ∧ S.natAbs ≤ 500000000 + 2000 * j := fun t ht => by
    obtain ⟨S, W, e, r⟩ := dr t ht
    exact ⟨S, W, tup_but e hbG k9, r⟩
  refine ⟨fun σ' G' => Same G9 G' ∧ ∃ (W S : Int) (o10 o11 o12 : Option V), 0 < W ∧ W ≤ 1001 ∧ S.natAbs ≤ 500000000 + 2000 * (j + 1) ∧ σ' = [some (.ref p), some (.int mo), some (.int u), some (.int m), some (.ref l), some (.int wd), some (.int (0 + (j : Int))), some (.int W), some (.int f), some (.int S), o10, o11, o12], ?_, ?_⟩
  · have out : ∀ G', Same G9 G' → Same G9 G' ∧ ∃ (W S : Int) (o10 o11 o12 : Option V), 0 < W ∧ W ≤ 1001 ∧ S.natAbs ≤ 500000000 + 2000 * (j + 1) ∧ [some (V.ref p), some (.int mo), some (.int u), some (.int m), some (.ref l), some (.int wd), some (.int (0 + (j : Int))), some (.int (1 + vol)), some (.int f), some (.int (sp - wd)), w10, w11, w12] = [some (.ref p), some (.int mo), some (.int u), some (.int m), some (.ref l), some (.int wd), some (.int (0 + (j : Int))), some (.int W), some (.int f), some (.int S), o10, o11, o12] :=
      fun G' s => ⟨s, 1 + vol, sp - wd, _, _, _, by omega, by omega, by omega, rfl⟩
    have pk : ts = [] ∨ ∃ tl ds, atI (ts.map V.ref) (-1) = some (.ref tl) ∧ tl ∈ ts ∧ (∀ G', Same G9 G' → DpAll K G' (ts.map V.ref) ds) ∧ SeqAt.shaped (.list ds) = true ∧ PyData.eqv (.list ds) (.list []) = false := by
      by_cases z : ts = []
      · exact .inl z
      · obtain ⟨tl, hat, htl⟩ := last_at z
        have key : ∀ G', Same G9 G' → ∀ t ∈ ts, ∃ S W : Int, G' t = some (.tup [.int S, .int W]) := fun G' s t ht => by
          obtain ⟨S, W, e, _⟩ := dr9 t ht
          exact ⟨S, W, s _ _ e⟩
        have all : ∃ dds : List PyData, (∀ G', Same G9 G' → DpAll K G' (ts.map V.ref) dds) ∧ dds.length = ts.length ∧ PyData.canLayAll0 dds = true ∧ PyData.depthAll dds ≤ 1 := drops_dataS (fun t ht => by
          obtain ⟨S, W, e, _⟩ := dr9 t ht
          exact ⟨S, W, e⟩)
        obtain ⟨dds, d1, d2, d3, d4⟩ := all
        refine .inr ⟨tl, dds, hat, List.mem_of_getElem? htl, d1, data_shaped d3 d4, ?_⟩
        rw [data_nil, d2]
        exact decide_eq_false fun w => z (List.length_eq_zero_iff.mp w)
    refine ⟨_, rfl, _, _, rfl, rfl, _, rfl, ?_⟩
    refine ite2 (fun cf => ?_) (fun _ => iteF (out _ (Same.refl _)))
    refine ⟨_, rfl, Nat.zero_le _, fun e he => ?_⟩
    rcases pk with rfl | ⟨tl, ds, hat, htl, hdp, hsh, hne⟩
    · exact ⟨.list [], .list [], .lst (SqL.of (same_upd he _ _ el9)) .nil, .lst (SqL.of upd_same) .nil, rfl, rfl, _, rfl, if_false_ (by rw [SeqAt.eqv_refl _ rfl]; rfl) (out _ (same_upd he))⟩
    · refine ⟨.list ds, .list [], .lst (SqL.of (same_upd he _ _ el9)) (hdp _ (same_upd he)), .lst (SqL.of upd_same) .nil, hsh, rfl, _, rfl, (if_pos (by rw [hne]; rfl)).mpr ?_⟩
      obtain ⟨S0, W0, et, W00, W01, Sz0⟩ := dr9 tl htl
      have f3 : f < 3 := of_decide_eq_true cf
      refine ⟨_, rfl, _, rfl, l, _, -1, _, rfl, rfl, SqL.of (same_upd he _ _ el9), hat, tl, _, rfl, SqT.of (same_upd he _ _ et), rfl, _, _, rfl, _, _, rfl, rfl, ?_⟩
      have e2 := Int.emod_nonneg (1 + vol + W0) (b := 2) (by decide)
      have e3 := Int.emod_lt_of_pos (1 + vol + W0) (b := 2) (by decide)
      refine ⟨_, rfl, _, rfl, _, rfl, _, _, rfl, rfl, _, _, rfl, rfl, (by show (0 : Int) < 2; decide), _, _, rfl, rfl, ?_⟩
      refine ⟨_, rfl, _, rfl, _, _, rfl, rfl, _, _, rfl, rfl, ⟨by decide, by decide⟩, ?_⟩
      refine ⟨_, rfl, _, rfl, _, rfl, _, _, rfl, rfl, (by show 3 ≤ sizeLine; decide), fun qh hqh => ?_⟩
      have hf2 : (1 + vol + (1 + vol + W0) % 2 + W0).fdiv 2 ≤ 1002 ∧ 0 ≤ (1 + vol + (1 + vol + W0) % 2 + W0).fdiv 2 := by
        rw [Int.fdiv_eq_ediv_of_nonneg _ (by decide)]; omega
      obtain ⟨v, hv, z, rfl, y0, y1⟩ := menu3 (p := fun v => ∃ z : Int, v = .int z ∧ 0 ≤ z ∧ z ≤ 1003) f0 f3 (a := .int 0) (b := .int ((1 + vol + (1 + vol + W0) % 2 + W0).fdiv 2)) (c := .int ((1 + vol + (1 + vol + W0) % 2 + W0).fdiv 2 + 1)) ⟨_, rfl, by decide, by decide⟩ ⟨_, rfl, hf2.2, by have := hf2.1; omega⟩ ⟨_, rfl, by have := hf2.2; omega, by have := hf2.1; omega⟩
      refine ⟨_, rfl, qh, _, _, _, rfl, rfl, SqL.of upd_same, hv, _, _, rfl, rfl, ?_⟩
      exact ⟨(same_upd he).trans (same_upd hqh), 1 + vol + (1 + vol + W0) % 2, S0 + z, _, _, _, by omega, by omega, by omega, rfl⟩
  rintro _ G' ⟨sG, W, S, o10, o11, o12, W0, W1, Sz, rfl⟩
  refine ⟨_, rfl, .inl ⟨rfl, _, SqL.of (sG _ _ el9)⟩, _, rfl, _, rfl, (by show 2 ≤ sizeLine; decide), fun tn htn => ?_⟩
  have elN := same_upd (o := .tup [.int S, .int W]) htn _ _ (sG _ _ el9)
  refine ⟨l, _, _, rfl, rfl, elN, (by rw [List.length_map, len]; exact Nat.lt_of_lt_of_le (show j < 50 by omega) (by rw [sizeLine_eq]; decide)), ?_⟩
  have sN := sG.trans (same_upd (o := .tup [.int S, .int W]) htn)
  refine ⟨?_, fun b o n e => ?_, ts ++ [tn], ?_, ?_, fun t ht => ?_, _, _, _, _, _, _, _, rfl⟩
  · obtain ⟨n, s0, c0, e, r⟩ := hb9.same sN
    exact ⟨n, s0, c0, by rw [upd_ne npl]; exact e, r⟩
  · rw [upd_ne (ne_of_none e Hl)]
    exact ((kG.trans k9).trans (But.of sN)) b o n e
  · rw [upd_same, List.map_append]; rfl
  · rw [List.length_append, len]; rfl
  · have mem : ∃ S' W' : Int, upd G' tn (.tup [.int S, .int W]) t = some (.tup [.int S', .int W']) ∧ 0 < W' ∧ W' ≤ 1001 ∧ S'.natAbs ≤ 500000000 + 2000 * (j + 1) := by
      rcases List.mem_append.mp ht with h | h
      · obtain ⟨S', W', e, a1, a2, a3⟩ := dr9 t h
        exact ⟨S', W', sN _ _ e, a1, a2, by omega⟩
      · rw [List.mem_singleton.mp h]
        exact ⟨S, W, upd_same, W0, W1, Sz⟩
    obtain ⟨S', W', e, r⟩ := mem
    refine ⟨S', W', ?_, r⟩
    rw [upd_ne (fun z => by rw [z, elN] at e; cases e)]
    exact e
end

/-! ### what runs together step by step -/
inductive Rd : List DD → List DD → Prop
  | perm {l m : List DD} : l.Perm m → Rd l m
  | step {p q : DD} {l R m : List DD} : l.Perm (p :: q :: R) → leM p q → tchD p q = true → Rd (R ++ [addD p q]) m → Rd l m
theorem Rd.refl (l : List DD) : Rd l l := .perm (List.Perm.refl _)
theorem Rd.pre {l m n : List DD} (h : l.Perm m) (r : Rd m n) : Rd l n := by
  cases r with
  | perm g => exact .perm (h.trans g)
  | step a b c d => exact .step (h.trans a) b c d
theorem Rd.trans {l m n : List DD} (h : Rd l m) (r : Rd m n) : Rd l n := by
  induction h with
  | perm g => exact r.pre g
  | step a b c _ ih => exact .step a b c (ih r)
theorem Rd.cons {l m : List DD} (x : DD) (h : Rd l m) : Rd (x :: l) (x :: m) := by
  induction h with
  | perm g => exact .perm (g.cons x)
  | @step p q l R m a b c _ ih =>
    refine .step (R := x :: R) ((a.cons x).trans ?_) b c ih
    exact (List.Perm.swap p x _).trans ((List.Perm.swap q x R).cons p)
theorem Rd.app {l m : List DD} (h : Rd l m) : ∀ Z : List DD, Rd (Z ++ l) (Z ++ m)
  | [] => h
  | z :: Z => (Rd.app h Z).cons z
theorem Rd.two {l m l' m' : List DD} (h : Rd l m) (h' : Rd l' m') : Rd (l ++ l') (m ++ m') :=
  (Rd.app h' l).trans ((Rd.pre List.perm_append_comm (Rd.app h m')).trans (.perm List.perm_append_comm))
theorem Rd.push {x : DD} : ∀ {st : List DD} {f : DD}, Fal st f x → Rd (f :: st) (pushD st f)
  | [], f, _ => Rd.refl _
  | t :: st, f, h => by
    unfold pushD
    by_cases c : tchD t f = true
    · rw [if_pos c]
      exact .step (List.Perm.swap t f st) (h.top t rfl) c (Rd.pre List.perm_append_comm (Rd.push h.merge))
    · rw [if_neg c]
      exact Rd.refl _
theorem Rd.stk {ds : List DD} (hs : SrtD ds) (hp : ∀ (i : Nat) (x : DD), ds[i]? = some x → 0 < x.2) : ∀ k, k ≤ ds.length → Rd (ds.take k) (stkD (ds.take k))
  | 0, _ => Rd.refl _
  | k + 1, hk => by
    have e1 : ds[k]? = some ds[k] := List.getElem?_eq_getElem (by omega)
    obtain ⟨h1, h2⟩ := stk_apt hs hp k (by omega)
    have F : Fal (stkD (ds.take k)) ds[k] ds[k] := ⟨h1, hp k _ e1, h2 _ e1, Int.le_refl _, hp k _ e1⟩
    rw [List.take_succ_eq_append_getElem (by omega), stkD_snoc]
    exact (Rd.two (Rd.stk hs hp k (by omega)) (Rd.refl _)).trans (Rd.pre List.perm_append_comm (Rd.push F))
theorem Rd.pol' {X : List DD} (h : PosD X) : Rd X (polD (ordD X)) := by
  have h1 : PosD (ordD X) := h.perm (ordD_perm X).symm
  have := Rd.stk (ordD_srt X) (fun i x e => h1 x (List.mem_of_getElem? e)) (ordD X).length (Nat.le_refl _)
  rw [List.take_length] at this
  exact (Rd.pre (ordD_perm X).symm this).trans (.perm (List.reverse_perm _).symm)
theorem Rd.pos {l m : List DD} (h : Rd l m) : PosD l → PosD m := by
  induction h with
  | perm g => exact fun p => p.perm g
  | @step p q l R m a b c _ ih =>
    intro hp
    have h2 := hp.perm a
    refine ih fun x hx => ?_
    rcases List.mem_append.mp hx with hx | hx
    · exact h2 x (by simp [hx])
    · rw [List.mem_singleton.mp hx]
      exact Int.add_pos (h2 p (by simp)) (h2 q (by simp))
theorem Rd.pol {l m : List DD} (h : Rd l m) : PosD l → polD (ordD l) = polD (ordD m) := by
  induction h with
  | perm g => exact fun p => pol_perm2 p g
  | @step p q l R m a b c d ih =>
    intro hp
    have h2 := hp.perm a
    have h3 : PosD (R ++ [addD p q]) := fun x hx => by
      rcases List.mem_append.mp hx with hx | hx
      · exact h2 x (by simp [hx])
      · rw [List.mem_singleton.mp hx]
        exact Int.add_pos (h2 p (by simp)) (h2 q (by simp))
    rw [← ih h3]
    unfold polD
    rw [pol_join hp a b c]
theorem Rd.sum {l m : List DD} (h : Rd l m) : sumD l = sumD m := by
  induction h with
  | perm g => exact sumD_perm g
  | @step p q l R m a b c d ih =>
    rw [← ih, sumD_perm a, sumD_app, sumD_cons, sumD_cons, sumD_cons, show sumD [] = (0, 0) from rfl, addD_zero, ← addD_assoc, addD_comm]
theorem PosD.app {l m : List DD} (h : PosD l) (g : PosD m) : PosD (l ++ m) := fun x hx => (List.mem_append.mp hx).elim (h x) (g x)
theorem absorb {X Y : List DD} (h : PosD X) (g : PosD Y) : polD (ordD (polD (ordD X) ++ polD (ordD Y))) = polD (ordD (X ++ Y)) :=
  ((Rd.two (Rd.pol' h) (Rd.pol' g)).pol (h.app g)).symm
theorem pol_again {X : List DD} (h : PosD X) : polD (ordD (polD (ordD X))) = polD (ordD X) := ((Rd.pol' h).pol h).symm
theorem pol_pos {X : List DD} (h : PosD X) : PosD (polD (ordD X)) := (Rd.pol' h).pos h
/-! ### one pool within another one -/
def LeftLe (y x : DD) : Prop := (2 * y.1 - y.2 * y.2) * x.2 ≤ (2 * x.1 - x.2 * x.2) * y.2
def RightLe (x y : DD) : Prop := (2 * x.1 + x.2 * x.2) * y.2 ≤ (2 * y.1 + y.2 * y.2) * x.2
structure Lies (x y : DD) : Prop where
  l : LeftLe y x
  r : RightLe x y
theorem fr_trans {a b c x y z : Int} (px : 0 < x) (py : 0 < y) (pz : 0 < z) (h : a * y ≤ b * x) (g : b * z ≤ c * y) : a * z ≤ c * x := (frac_le px py pz h g).1
theorem Lies.refl (x : DD) : Lies x x := ⟨Int.le_refl _, Int.le_refl _⟩
theorem Lies.trans {x y z : DD} (px : 0 < x.2) (py : 0 < y.2) (pz : 0 < z.2) (h : Lies x y) (g : Lies y z) : Lies x z := ⟨fr_trans pz py px g.l h.l, fr_trans px py pz h.r g.r⟩
theorem lies_p {p q : DD} (hp : 0 < p.2) (hq : 0 < q.2) (l : leM p q) (t : tchD p q = true) : Lies p (addD p q) := by
  rw [tch_dst] at t
  unfold Dst at t
  unfold leM at l
  obtain ⟨a, v⟩ := p
  obtain ⟨b, w⟩ := q
  simp only at hp hq l t
  refine ⟨?_, ?_⟩
  · show (2 * (a + b) - (v + w) * (v + w)) * v ≤ (2 * a - v * v) * (v + w)
    have e : (2 * a - v * v) * (v + w) - (2 * (a + b) - (v + w) * (v + w)) * v = v * w * (v + w) - 2 * (b * v - a * w) := by grind
    omega
  · show (2 * a + v * v) * (v + w) ≤ (2 * (a + b) + (v + w) * (v + w)) * v
    have e : (2 * (a + b) + (v + w) * (v + w)) * v - (2 * a + v * v) * (v + w) = 2 * (b * v - a * w) + v * w * (v + w) := by grind
    have := Int.mul_pos (Int.mul_pos hp hq) (show 0 < v + w by omega)
    omega
theorem lies_q {p q : DD} (hp : 0 < p.2) (hq : 0 < q.2) (l : leM p q) (t : tchD p q = true) : Lies q (addD p q) := by
  rw [tch_dst] at t
  unfold Dst at t
  unfold leM at l
  obtain ⟨a, v⟩ := p
  obtain ⟨b, w⟩ := q
  simp only at hp hq l t
  refine ⟨?_, ?_⟩
  · show (2 * (a + b) - (v + w) * (v + w)) * w ≤ (2 * b - w * w) * (v + w)
    have e : (2 * b - w * w) * (v + w) - (2 * (a + b) - (v + w) * (v + w)) * w = 2 * (b * v - a * w) + v * w * (v + w) := by grind
    have := Int.mul_pos (Int.mul_pos hp hq) (show 0 < v + w by omega)
    omega
  · show (2 * b + w * w) * (v + w) ≤ (2 * (a + b) + (v + w) * (v + w)) * w
    have e : (2 * (a + b) + (v + w) * (v + w)) * w - (2 * b + w * w) * (v + w) = v * w * (v + w) - 2 * (b * v - a * w) := by grind
    omega
theorem Rd.lies {l m : List DD} (h : Rd l m) : PosD l → ∀ x ∈ l, ∃ y ∈ m, Lies x y := by
  induction h with
  | perm g => exact fun _ x hx => ⟨x, g.mem_iff.mp hx, .refl x⟩
  | @step p q l R m a b c d ih =>
    intro hp x hx
    have h2 := hp.perm a
    have pp := h2 p (by simp)
    have pq := h2 q (by simp)
    have h3 : PosD (R ++ [addD p q]) := fun x hx => by
      rcases List.mem_append.mp hx with hx | hx
      · exact h2 x (by simp [hx])
      · rw [List.mem_singleton.mp hx]
        exact Int.add_pos pp pq
    have hm := d.pos h3
    have big : ∀ z, 0 < z.2 → Lies z (addD p q) → ∃ y ∈ m, Lies z y := fun z pz lz => by
      obtain ⟨y, hy, ly⟩ := ih h3 (addD p q) (by simp)
      exact ⟨y, hy, lz.trans pz (Int.add_pos pp pq) (hm y hy) ly⟩
    have hx2 := a.mem_iff.mp hx
    rcases List.mem_cons.mp hx2 with rfl | hx2
    · exact big _ pp (lies_p pp pq b c)
    · rcases List.mem_cons.mp hx2 with rfl | hx2
      · exact big _ pq (lies_q pp pq b c)
      · exact ih h3 x (by simp [hx2])
/-- the pools of a part lie within pools of the whole -/
theorem pol_lies {X Y : List DD} (h : PosD X) (g : PosD Y) : ∀ x ∈ polD (ordD X), ∃ y ∈ polD (ordD (X ++ Y)), Lies x y := fun x hx => by
  have h1 := pol_pos h
  have h2 := h1.app g
  obtain ⟨y, hy, ly⟩ := (Rd.pol' h2).lies h2 x (List.mem_append_left _ hx)
  rw [show polD (ordD (polD (ordD X) ++ Y)) = polD (ordD (X ++ Y)) from ((Rd.two (Rd.pol' h) (Rd.refl Y)).pol (h.app g)).symm] at hy
  exact ⟨y, hy, ly⟩
theorem pol_lies1 {X : List DD} (h : PosD X) : ∀ x ∈ X, ∃ y ∈ polD (ordD X), Lies x y := (Rd.pol' h).lies h
/-- what stands is apart: each ends before the next begins -/
def Before (t f : DD) : Prop := (2 * t.1 + t.2 * t.2) * f.2 < (2 * f.1 - f.2 * f.2) * t.2
theorem before_of {t f : DD} (no : tchD t f = false) : Before t f := by
  unfold tchD at no
  have no := of_decide_eq_false no
  unfold Before
  obtain ⟨a, v⟩ := t
  obtain ⟨b, w⟩ := f
  simp only at no ⊢
  have e : (2 * b - w * w) * v - (2 * a + v * v) * w = 2 * (b * v - a * w) - v * w * (v + w) := by grind
  omega
theorem Before.trans {t f g : DD} (pt : 0 < t.2) (pf : 0 < f.2) (pg : 0 < g.2) (h : Before t f) (k : Before f g) : Before t g := by
  unfold Before at *
  have sq := Int.mul_pos pf pf
  have h2 : (2 * t.1 + t.2 * t.2) * f.2 < (2 * f.1 + f.2 * f.2) * t.2 := by
    have : (2 * f.1 - f.2 * f.2) * t.2 ≤ (2 * f.1 + f.2 * f.2) * t.2 := Int.mul_le_mul_of_nonneg_right (by omega) (Int.le_of_lt pt)
    omega
  have a1 := Int.mul_lt_mul_of_pos_right h2 pg
  have a2 := Int.mul_lt_mul_of_pos_right k pt
  refine Int.lt_of_mul_lt_mul_left (a := f.2) ?_ (Int.le_of_lt pf)
  have e1 : f.2 * ((2 * t.1 + t.2 * t.2) * g.2) = (2 * t.1 + t.2 * t.2) * f.2 * g.2 := by grind
  have e2 : f.2 * ((2 * g.1 - g.2 * g.2) * t.2) = (2 * g.1 - g.2 * g.2) * f.2 * t.2 := by grind
  have e3 : (2 * f.1 + f.2 * f.2) * t.2 * g.2 = (2 * f.1 + f.2 * f.2) * g.2 * t.2 := by grind
  rw [e1, e2]
  omega
theorem apt_before : ∀ {st : List DD}, Apt st → st.Pairwise (fun f t => Before t f)
  | [], _ => .nil
  | [f], _ => List.pairwise_singleton _ _
  | f :: t :: st, h => by
    have ih := apt_before h.tl
    have pf := h.pos
    have pt := h.tl.pos
    have b1 := before_of h.2.2.1
    refine List.pairwise_cons.mpr ⟨fun g hg => ?_, ih⟩
    rcases List.mem_cons.mp hg with rfl | hg
    · exact b1
    · have pg : 0 < g.2 := by
        obtain ⟨i, hi, rfl⟩ := List.mem_iff_getElem.mp hg
        have := Apt.at_ (i := i) h.tl (List.getElem?_eq_getElem (by simp; omega)) (by rw [List.getElem?_cons_succ]; exact List.getElem?_eq_getElem hi)
        exact this.2.2.2
      exact ((List.pairwise_cons.mp ih).1 g hg).trans pg pt pf b1
theorem pol_before {X : List DD} (h : PosD X) : (polD (ordD X)).Pairwise Before := by
  have h1 : PosD (ordD X) := h.perm (ordD_perm X).symm
  have := (stk_apt (ordD_srt X) (fun i x e => h1 x (List.mem_of_getElem? e)) (ordD X).length (Nat.le_refl _)).1
  rw [List.take_length] at this
  unfold polD
  rw [List.pairwise_reverse]
  exact apt_before this

/-! ### waters of pools that ran together -/
def prW : List DD → Int
  | [] => 1
  | x :: l => x.2 * prW l
theorem prW_dvd : ∀ {l : List DD} {x : DD}, x ∈ l → x.2 ∣ prW l
  | y :: l, x, h => by
    rcases List.mem_cons.mp h with rfl | h
    · exact ⟨prW l, rfl⟩
    · exact Int.dvd_trans (prW_dvd h) ⟨y.2, Int.mul_comm _ _⟩
theorem prW_pos : ∀ {l : List DD}, PosD l → 0 < prW l
  | [], _ => by decide
  | y :: l, h => Int.mul_pos (h y (by simp)) (prW_pos fun x hx => h x (by simp [hx]))
theorem prW_bn {n : Nat} : ∀ {l : List DD}, (∀ x ∈ l, Bn n x.2) → Bn (n * l.length + 1) (prW l)
  | [], _ => by show (1 : Int).natAbs < 2 ^ (n * 0 + 1); rw [Nat.mul_zero]; decide
  | y :: l, h => ((h y (by simp)).mul (prW_bn fun x hx => h x (by simp [hx]))).mono (by rw [List.length_cons, Nat.mul_succ]; omega)
/-- small enough for all that is asked of it -/
structure Fine (L : Int) (ds : List DD) : Prop where
  pos : PosD ds
  sz : Szs 60 L ds
  few : ds.length ≤ 50
  l0 : 0 < L
  l1 : Bn 60 L
theorem Fine.pol {L : Int} {ds : List DD} (h : Fine L ds) : Fine L (polD (ordD ds)) := ⟨pol_pos h.pos, (pol_sz h.sz).1, Nat.le_trans (pol_sz h.sz).2 h.few, h.l0, h.l1⟩
theorem sz_app (l m : List DD) : sz1 (l ++ m) = sz1 l + sz1 m ∧ sz2 (l ++ m) = sz2 l + sz2 m := by
  unfold sz1 sz2
  rw [List.map_append, List.map_append, List.sum_append, List.sum_append]
  exact ⟨rfl, rfl⟩
theorem Fine.perm {L : Int} {ds es : List DD} (h : Fine L ds) (p : ds.Perm es) : Fine L es := by
  obtain ⟨e1, e2⟩ := sz_perm p
  exact ⟨h.pos.perm p, ⟨by rw [← e1]; exact h.sz.1, by rw [← e2]; exact h.sz.2⟩, by rw [← p.length_eq]; exact h.few, h.l0, h.l1⟩
theorem Fine.left {L : Int} {X Y : List DD} (h : Fine L (X ++ Y)) : Fine L X := by
  obtain ⟨e1, e2⟩ := sz_app X Y
  refine ⟨fun x hx => h.pos x (List.mem_append_left _ hx), ⟨Nat.lt_of_le_of_lt (by omega) h.sz.1, Nat.lt_of_le_of_lt (Nat.mul_le_mul_right _ (by omega)) h.sz.2⟩, ?_, h.l0, h.l1⟩
  have := h.few
  rw [List.length_append] at this
  omega
theorem Fine.right {L : Int} {X Y : List DD} (h : Fine L (X ++ Y)) : Fine L Y := (h.perm List.perm_append_comm).left
theorem Fine.two {L : Int} {X Y : List DD} (h : Fine L (X ++ Y)) : Fine L (polD (ordD X) ++ polD (ordD Y)) := by
  obtain ⟨e1, e2⟩ := sz_app X Y
  obtain ⟨f1, f2⟩ := sz_app (polD (ordD X)) (polD (ordD Y))
  have hx := h.left; have hy := h.right
  obtain ⟨a1, a2, a3⟩ := stk_sz (ordD X)
  obtain ⟨b1, b2, b3⟩ := stk_sz (ordD Y)
  obtain ⟨c1, c2⟩ := sz_ord X
  obtain ⟨d1, d2⟩ := sz_ord Y
  have e := sz_perm (List.reverse_perm (stkD (ordD X)))
  have e' := sz_perm (List.reverse_perm (stkD (ordD Y)))
  have l1 : (polD (ordD X)).length ≤ X.length := by unfold polD; rw [List.length_reverse]; rw [ordD_len] at a3; exact a3
  have l2 : (polD (ordD Y)).length ≤ Y.length := by unfold polD; rw [List.length_reverse]; rw [ordD_len] at b3; exact b3
  have g1 : sz1 (polD (ordD X)) ≤ sz1 X := by unfold polD; rw [e.1]; omega
  have g2 : sz2 (polD (ordD X)) ≤ sz2 X := by unfold polD; rw [e.2]; omega
  have g3 : sz1 (polD (ordD Y)) ≤ sz1 Y := by unfold polD; rw [e'.1]; omega
  have g4 : sz2 (polD (ordD Y)) ≤ sz2 Y := by unfold polD; rw [e'.2]; omega
  refine ⟨hx.pol.pos.app hy.pol.pos, ⟨Nat.lt_of_le_of_lt (by omega) h.sz.1, Nat.lt_of_le_of_lt (Nat.mul_le_mul_right _ (by omega)) h.sz.2⟩, ?_, h.l0, h.l1⟩
  have := h.few
  rw [List.length_append] at *
  omega
theorem Fine.bn {L : Int} {ds : List DD} (h : Fine L ds) {x : DD} (hx : x ∈ ds) : Bn 60 x.1 ∧ Bn 60 x.2 := ((h.sz.at_ hx).bn2 h.l0)
theorem den_any {CP C : Addr} {H : Hp} {L : Int} {qs : List Addr} {ds : List DD} (hM : MwsAt CP C H L qs ds) (h : Fine L ds) : 0 < L * prW ds ∧ Bn 3500 (L * prW ds) ∧ DenP CP C H qs (L * prW ds) := by
  refine ⟨Int.mul_pos h.l0 (prW_pos h.pos), (h.l1.mul (prW_bn (n := 60) fun x hx => (h.bn hx).2)).mono (by have := h.few; omega), fun q hq a b c d hP => ?_⟩
  obtain ⟨i, hi, rfl⟩ := List.mem_iff_getElem.mp hq
  have hd : i < ds.length := by rw [hM.1]; exact hi
  obtain ⟨a', b', c', d', hP', _, _, _, g1, g2, e1, e2⟩ := hM.2 i _ _ (List.getElem?_eq_getElem hi) (List.getElem?_eq_getElem hd)
  obtain ⟨rfl, rfl, rfl, rfl⟩ := hP.uniq hP'
  have m := prW_dvd (List.getElem_mem hd)
  refine ⟨Int.dvd_trans (den_of g1 e1) ?_, Int.dvd_trans (den_of g2 e2) ⟨_, rfl⟩⟩
  obtain ⟨k, ek⟩ := m
  exact ⟨k, by rw [ek]; simp only [Int.mul_assoc, Int.mul_comm, Int.mul_left_comm]⟩
/-- a water of what ran together of X -/
def WOf (K : PySem.W.Frag) (CW CP C : Addr) (H : Hp) (L : Int) (w : Addr) (X : List DD) : Prop := ∃ rs, WatAt K CW H w rs ∧ MwsAt CP C H L rs (polD (ordD X))
theorem WOf.same {K : PySem.W.Frag} {CW CP C w : Addr} {H H' : Hp} {L : Int} {X : List DD} (h : WOf K CW CP C H L w X) (s : Same H H') : WOf K CW CP C H' L w X := let ⟨rs, a, b⟩ := h; ⟨rs, a.same s, b.same s⟩
theorem MwsAt.app {CP C : Addr} {H : Hp} {L : Int} {qs rs : List Addr} {xs ys : List DD} (h : MwsAt CP C H L qs xs) (g : MwsAt CP C H L rs ys) : MwsAt CP C H L (qs ++ rs) (xs ++ ys) := by
  refine ⟨by rw [List.length_append, List.length_append, h.1, g.1], fun i q x e1 e2 => ?_⟩
  rcases Nat.lt_or_ge i qs.length with c | c
  · rw [List.getElem?_append_left c] at e1
    rw [List.getElem?_append_left (by rw [h.1]; exact c)] at e2
    exact h.2 i q x e1 e2
  · rw [List.getElem?_append_right c] at e1
    rw [List.getElem?_append_right (by rw [h.1]; exact c), h.1] at e2
    exact g.2 _ q x e1 e2
/-- Water.settled of pools of these moments -/
theorem set_any {K : PySem.W.Frag} {CW CP C : Addr} {H : Hp} {l : Addr} {qs : List Addr} {ds : List DD} {L : Int} {Q : VK} {E : XK} (hl : SqL K H l (qs.map V.ref) ∨ SqT K H l (qs.map V.ref)) (hM : MwsAt CP C H L qs ds) (h : Fine L ds)
    (fin : ∀ w H', Same H H' → WOf K CW CP C H' L w ds → Q (.ref w) H') : spSet K CW CP C [.ref CW, .ref l] H Q E := by
  obtain ⟨h1, h2, h3⟩ := den_any hM h
  exact ⟨l, qs, ds, 60, L, L * prW ds, rfl, hl, hM, h.l0, h.sz, by decide, by have := h.few; have := hM.1; omega, h1, h2, h3, fun w H' rs s a b => fin w H' s ⟨rs, a, b⟩⟩
def spWAdd (K : PySem.W.Frag) (CW CP C : Addr) : Sp := fun vs H Q _ => ∃ (a b : Addr) (L : Int) (X Y : List DD), vs = [.ref a, .ref b] ∧ WOf K CW CP C H L a X ∧ WOf K CW CP C H L b Y ∧ Fine L (X ++ Y) ∧
  ∀ w H', Same H H' → WOf K CW CP C H' L w (X ++ Y) → Q (.ref w) H'
section
variable {P : Program} {w : World} {K : PySem.W.Frag} {mg : Str → Option Value} {base : Heap}
end

/-! ### pools within pools -/
def spLie (K : PySem.W.Frag) (CP C : Addr) : Sp := fun vs H Q _ => ∃ (t u : Addr) (qs rs : List Addr) (L : Int) (xs ys : List DD), vs = [.ref t, .ref u] ∧ SqT K H t (qs.map V.ref) ∧ SqT K H u (rs.map V.ref) ∧ MwsAt CP C H L qs xs ∧ MwsAt CP C H L rs ys ∧ Fine L xs ∧ Fine L ys ∧ xs.Pairwise Before ∧ ys.Pairwise Before ∧ (∀ x ∈ xs, ∃ y ∈ ys, Lies x y) ∧
  ∀ H', Same H H' → Q (.bl true) H'
def spWLe (K : PySem.W.Frag) (CW CP C : Addr) : Sp := fun vs H Q _ => ∃ (a b : Addr) (L : Int) (X Y : List DD), vs = [.ref a, .ref b] ∧ WOf K CW CP C H L a X ∧ WOf K CW CP C H L b Y ∧ Fine L X ∧ Fine L Y ∧ (∀ x ∈ polD (ordD X), ∃ y ∈ polD (ordD Y), Lies x y) ∧
  ∀ H', Same H H' → Q (.bl true) H'
theorem end_r {a b c d L : Int} {x : DD} (l : 0 < L) (w : 0 < x.2) (e1 : a * (x.2 * L) = x.1 * b) (e2 : c * L = x.2 * d) : (2 * a * d + c * b) * (2 * x.2 * L) = (2 * x.1 + x.2 * x.2) * (2 * b * d) := by grind
theorem end_l {a b c d L : Int} {x : DD} (l : 0 < L) (w : 0 < x.2) (e1 : a * (x.2 * L) = x.1 * b) (e2 : c * L = x.2 * d) : (2 * a * d - c * b) * (2 * x.2 * L) = (2 * x.1 - x.2 * x.2) * (2 * b * d) := by grind
/-- .right of a pool -/
theorem right_of {CP C : Addr} {H : Hp} {L : Int} {q : Addr} {x : DD} {Q : VK} {E : XK} (l : 0 < L) (z : Szd 60 L x) (h : MwAt CP C H L q x)
    (k : ∀ g H' N D, Same H H' → RatAt C H' g N D → Was N D (2 * x.1 + x.2 * x.2) (2 * x.2 * L) → Bn 124 N → Bn 124 D → Q (.ref g) H') : spEnd CP C (fun x y => x + y) [.ref q] H Q E := by
  obtain ⟨w, a, b, c, d, hP, z1, e1, e2⟩ := h.terms l z
  have nz : 2 * b * d ≠ 0 := Int.ne_of_gt (Int.mul_pos (Int.mul_pos (by decide) z1.b0) z1.d0)
  exact ⟨q, a, b, c, d, 60, rfl, hP, z1, by decide, fun g H' N D s r w1 bN bD => k g H' N D s r (w1.eq nz (end_r l w e1 e2)) bN bD⟩
theorem left_of {CP C : Addr} {H : Hp} {L : Int} {q : Addr} {x : DD} {Q : VK} {E : XK} (l : 0 < L) (z : Szd 60 L x) (h : MwAt CP C H L q x)
    (k : ∀ g H' N D, Same H H' → RatAt C H' g N D → Was N D (2 * x.1 - x.2 * x.2) (2 * x.2 * L) → Bn 124 N → Bn 124 D → Q (.ref g) H') : spEnd CP C (fun x y => x - y) [.ref q] H Q E := by
  obtain ⟨w, a, b, c, d, hP, z1, e1, e2⟩ := h.terms l z
  have nz : 2 * b * d ≠ 0 := Int.ne_of_gt (Int.mul_pos (Int.mul_pos (by decide) z1.b0) z1.d0)
  exact ⟨q, a, b, c, d, 60, rfl, hP, z1, by decide, fun g H' N D s r w1 bN bD => k g H' N D s r (w1.eq nz (end_l l w e1 e2)) bN bD⟩
theorem scale_le {p q x y L : Int} (l : 0 < L) : p * (2 * y * L) ≤ q * (2 * x * L) ↔ p * y ≤ q * x := by
  have e1 : p * (2 * y * L) = p * y * (2 * L) := by simp only [Int.mul_assoc, Int.mul_comm, Int.mul_left_comm]
  have e2 : q * (2 * x * L) = q * x * (2 * L) := by simp only [Int.mul_assoc, Int.mul_comm, Int.mul_left_comm]
  rw [e1, e2]
  exact ⟨fun h => Int.le_of_mul_le_mul_right h (by omega), fun h => Int.mul_le_mul_of_nonneg_right h (by omega)⟩
theorem mw_insx {CP C : Addr} {H : Hp} {L : Int} {q : Addr} {x : DD} (h : MwAt CP C H L q x) : ∃ dx fs, H q = some (.ins CP dx fs) := by
  obtain ⟨a, b, c, d, ⟨dx, m, v, e, _⟩, _⟩ := h
  exact ⟨dx, _, e⟩
theorem Before.right {x y : DD} (px : 0 < x.2) (py : 0 < y.2) (h : Before x y) : RightLe x y := by
  unfold Before at h
  unfold RightLe
  have sq := Int.mul_pos (Int.mul_pos py py) px
  have e1 : (2 * y.1 - y.2 * y.2) * x.2 = 2 * y.1 * x.2 - y.2 * y.2 * x.2 := by grind
  have e2 : (2 * y.1 + y.2 * y.2) * x.2 = 2 * y.1 * x.2 + y.2 * y.2 * x.2 := by grind
  omega
theorem RightLe.trans {x y z : DD} (px : 0 < x.2) (py : 0 < y.2) (pz : 0 < z.2) (h : RightLe x y) (g : RightLe y z) : RightLe x z := fr_trans px py pz h g
/-- the first that does not end before x is the one that holds it -/
theorem first_holds {ys : List DD} {x : DD} {j k : Nat} {y z : DD} (px : 0 < x.2) (hy : PosD ys) (hb : ys.Pairwise Before) (ej : ys[j]? = some y) (ek : ys[k]? = some z) (jk : j ≤ k) (hr : RightLe x y) (h : Lies x z) : LeftLe y x := by
  rcases Nat.lt_or_ge j k with lt | ge
  · exfalso
    obtain ⟨hj, rfl⟩ := List.getElem?_eq_some_iff.mp ej
    obtain ⟨hk, rfl⟩ := List.getElem?_eq_some_iff.mp ek
    have b := List.pairwise_iff_getElem.mp hb j k hj hk lt
    have py := hy _ (List.getElem_mem hj)
    have pz := hy _ (List.getElem_mem hk)
    obtain ⟨h1, h2⟩ := h
    unfold LeftLe at h1
    unfold RightLe at hr
    unfold Before at b
    generalize ys[j] = y at *
    generalize ys[k] = z at *
    have b1 := Int.mul_lt_mul_of_pos_right b px
    have h3 := Int.mul_le_mul_of_nonneg_right h1 (Int.le_of_lt py)
    have r1 := Int.mul_le_mul_of_nonneg_right hr (Int.le_of_lt pz)
    have sq := Int.mul_pos (Int.mul_pos (Int.mul_pos px px) pz) py
    have g1 : (2 * z.1 - z.2 * z.2) * y.2 * x.2 = (2 * z.1 - z.2 * z.2) * x.2 * y.2 := by grind
    have g2 : (2 * x.1 - x.2 * x.2) * z.2 * y.2 = 2 * x.1 * z.2 * y.2 - x.2 * x.2 * z.2 * y.2 := by grind
    have g3 : (2 * x.1 + x.2 * x.2) * y.2 * z.2 = 2 * x.1 * z.2 * y.2 + x.2 * x.2 * z.2 * y.2 := by grind
    have g4 : (2 * y.1 + y.2 * y.2) * x.2 * z.2 = (2 * y.1 + y.2 * y.2) * z.2 * x.2 := by grind
    omega
  · obtain rfl : j = k := by omega
    rw [ej] at ek
    cases ek
    exact h.l

/-! ### the laws' waters and their neighbours -/
theorem Same.back {H G : Hp} {a : Addr} (s : Same H G) (h : G a = none) : H a = none := by
  cases e : H a with
  | none => rfl
  | some o => rw [s a o e] at h; cases h
def DropsOk (ds : List DD) : Prop := ∀ x ∈ ds, 0 < x.2 ∧ x.2 ≤ 5000 ∧ x.1.natAbs ≤ 700000000
theorem szs_ok : ∀ {ds : List DD}, DropsOk ds → sz1 (ds.map mom) ≤ ds.length * 3500000000000 ∧ sz2 (ds.map mom) ≤ ds.length * 5000
  | [], _ => ⟨Nat.le_refl _, Nat.le_refl _⟩
  | x :: ds, h => by
    obtain ⟨h1, h2⟩ := szs_ok (ds := ds) fun y hy => h y (List.mem_cons_of_mem _ hy)
    obtain ⟨a, b, c⟩ := h x List.mem_cons_self
    rw [List.map_cons, sz1_cons, sz2_cons, List.length_cons]
    have e : (mom x).1.natAbs ≤ 3500000000000 := by
      show (x.1 * x.2).natAbs ≤ _
      rw [Int.natAbs_mul]
      exact Nat.mul_le_mul c (show x.2.natAbs ≤ 5000 by omega)
    have e2 : (mom x).2.natAbs ≤ 5000 := by show x.2.natAbs ≤ _; omega
    omega
theorem fine_drops {L : Int} {ds : List DD} (L0 : 0 < L) (L1 : L ≤ 1001) (few : ds.length ≤ 50) (h : DropsOk ds) : Fine L (ds.map mom) := by
  have hL : L.natAbs ≤ 2000 := by omega
  obtain ⟨h1, h2⟩ := szs_ok h
  refine ⟨fun y hy => ?_, ⟨?_, ?_⟩, by rw [List.length_map]; exact few, L0, Nat.lt_of_le_of_lt hL (by decide)⟩
  · obtain ⟨x, hx, rfl⟩ := List.mem_map.mp hy
    exact (h x hx).1
  · exact Nat.lt_of_le_of_lt (Nat.le_trans h1 (Nat.mul_le_mul_right _ few)) (by decide)
  · exact Nat.lt_of_le_of_lt (Nat.mul_le_mul (Nat.le_trans h2 (Nat.mul_le_mul_right _ few)) hL) (by decide)
def spLwWater (K : PySem.W.Frag) (CW CP C : Addr) : Sp := fun vs H Q _ => ∃ (p l : Addr) (L : Int) (ts : List Addr) (ds : List DD), vs = [.ref p, .int L, .ref l] ∧ BoxAt H p ∧ H l = some (.lst (ts.map V.ref)) ∧ l ≠ p ∧ TupsAt H ts ds ∧ DropsOk ds ∧ ds.length ≤ 50 ∧ 0 < L ∧ L ≤ 1001 ∧
  ∀ w H', BoxAt H' p → But p H H' → WOf K CW CP C H' L w (ds.map mom) → Q (.ref w) H'
def spNeigh : Sp := fun vs H Q _ => ∃ (l : Addr) (ts : List Addr) (ds : List DD), vs = [.ref l] ∧ H l = some (.lst (ts.map V.ref)) ∧ TupsAt H ts ds ∧ DropsOk ds ∧ ds.length ≤ 50 ∧
  ∀ q H' us, Same H H' → H q = none → H' q = some (.lst (us.map V.ref)) → TupsAt H' us (polD (ordD (ds.map mom))) → Q (.ref q) H'
theorem MwsAt.bx {CP C : Addr} {H H' : Hp} {L : Int} {qs : List Addr} {M : List DD} {p : Addr} (h : MwsAt CP C H L qs M) (hb : BoxAt H p) (k : But p H H') : MwsAt CP C H' L qs M := let ⟨_, _, _, e, _⟩ := hb; h.butL e k
section
variable {P : Program} {w : World} {K : PySem.W.Frag} {mg : Str → Option Value} {base : Heap}
theorem ok_lwater (T : Txt K mg) : FnOk P w K mg base CX0 12 T.f_lw_water T.d_lw_water ["_law_box_here", "_law_unit", "_law_drops"] (spLwWater K T.C_Water T.C_Pool T.C_Ratio) := by
  have nd := sc_lw_water.nd
  have kbs := Binds.kbn T.B_Water_settled (n := 2) rfl
  have kbi := Binds.kbn T.B_Pool_init_d (n := 3) rfl
  have MP : Mk K T.C_Pool T.f_Pool_init_d := ⟨T.mk_Pool, T.m_Pool_init_d.at_, T.m_Pool_init_d.fn, T.kp_Pool⟩
  refine T.F_lw_water.ok sc_lw_water (fun vs H Q E ⟨_, _, _, _, _, e, _⟩ => by rw [e]; rfl) (fun cdv A outer s H vs Q E hr h => ?_)
  obtain ⟨p, l, L, ts, ds, rfl, hb, hl, nlp, hT, hD, few, L0, L1, fin⟩ := h
  refine ⟨_, pss_cons (ps_setLc (i := 3) (own := [("_law_drop", 4)]) (g := gName 4) (tt := tYes) (te := tMk T.C_Pool 2 (spPInit T.C_Pool T.C_Ratio T.C_InvalidNumber) (fun vs _ => vs) (fun _ => E0)
          (tCons (tCl (spNo T.C_Ratio) (fun _ => E0) (tCons (tVar 0) (tCons (tOp (rIxT K) (tVar 4) (tC (.int 0))) (tCons (tVar 1) tNil)))) (tCons (tCl (spNo T.C_Ratio) (fun _ => E0) (tCons (tVar 0) (tCons (tOp (rIxT K) (tVar 4) (tC (.int 1))) (tCons (tVar 1) tNil)))) tNil)) tNil) rfl nd rfl rfl (sw_true rfl rfl rfl (by decide +kernel))
        (pi_list (pv 2))
        (blkOk_by (own := [("_law_drop", 4)]) (N := ["_law_box_here", "_law_unit", "_law_drops", "_law_some", "_law_drop"]) (sc := defScope s_lw_water) (by decide +kernel)) (fun _ _ _ _ _ => pg_name (i := 4) nd rfl (Or.inl rfl)) (fun _ _ _ _ _ => pts_nil)
        (fun _ _ _ _ _ => pe_mkP (n := 2) (E := fun _ => E0) MP (ok_pinit T) (hr.mono (by decide)) (by rfl) T.g_Pool kbi (fun _ => atL)
          (pa_cons (pe_f (E := fun _ => E0) (ok_no T) (hr.mono (by decide)) (by rfl) T.g_lw_number T.F_lw_number.kp T.B_lw_number (fun _ => at0) (by exact (pa_cons (pv 0) (pa_cons (pe_ix ix_tup (pv 4) pe_int (fun _ _ => rfl)) (pa_cons (pv 1) pa_nil)))))
          (pa_cons (pe_f (E := fun _ => E0) (ok_no T) (hr.mono (by decide)) (by rfl) T.g_lw_number T.F_lw_number.kp T.B_lw_number (fun _ => at0) (by exact (pa_cons (pv 0) (pa_cons (pe_ix ix_tup (pv 4) pe_int (fun _ _ => rfl)) (pa_cons (pv 1) pa_nil))))) pa_nil))))
    (pss_one (ps_ret (pe_cmP (n := 1) (E := fun _ => E0) (pe_glob (v := .ref T.C_Water) (by rfl) T.g_Water rfl) T.rd_Water T.cm_Water_settled (ok_set T) hr kbs (fun _ => at0)
      (pa_cons (pe_ix ix_list (pe_lst (pa_cons (pv 3) (pa_cons (pe_callTy call_tuple_of (by rfl) T.b_tuple (by decide +kernel) (pa_cons (pv 3) pa_nil)) pa_nil))) (pe_f (E := fun _ => E0) (ok_take T) (hr.mono (by decide)) (by rfl) T.g_lw_take T.F_lw_take.kp T.B_lw_take (fun _ => at0) (pa_cons (pv 0) (pa_cons pe_int pa_nil))) (fun _ _ => rfl)) pa_nil)))), ?_⟩
  have lds : ds.length = ts.length := hT.1
  have hF : Fine L (ds.map mom) := fine_drops L0 L1 few hD
  generalize hM0 : ds.map mom = M at *
  have lM : M.length = ts.length := by rw [← hM0, List.length_map, lds]
  have bL : Bn 50 L := Nat.lt_of_le_of_lt (show L.natAbs ≤ 1001 by omega) (by decide)
  have Lz6 : L.natAbs < 2 ^ 60 := Nat.lt_trans bL (Nat.pow_lt_pow_right (by decide) (by decide))
  refine ⟨_, rfl, l, rfl, ⟨_, SqL.of hl⟩, fun D hD => lc_list (K := K) (a := l) (xs := ts.map V.ref) (fun k G' => (BoxAt G' p ∧ But p H G') ∧ ∃ qs : List Addr, qs.length = k ∧ G' D = some (.lst (qs.map V.ref)) ∧ MwsAt T.C_Pool T.C_Ratio G' L qs (M.take k))
      ⟨⟨hb.same (same_upd hD), But.of (same_upd hD)⟩, [], rfl, upd_same, rfl, fun i q x e => by simp at e⟩ (fun _ G' _ h => SqL.of (h.1.2 _ _ nlp hl)) ?_ ?_⟩
  · rintro k x G' hx' ⟨⟨hb', k'⟩, qs, lq, eD3, hM⟩
    have nDp : D ≠ p := box_ne hb hD
    obtain ⟨t, et, rfl⟩ := ref_get hx'
    have hk : k < ds.length := by rw [lds]; exact (List.getElem?_eq_some_iff.mp et).1
    have ek : ds[k]? = some ds[k] := List.getElem?_eq_getElem hk
    generalize ds[k] = y at ek
    obtain ⟨y0, y1, y2⟩ := (by assumption : DropsOk ds) y (List.mem_of_getElem? ek)
    have ty := (hT.but hb k').2 k t y et ek
    have ekM : M[k]? = some (mom y) := by rw [← hM0, List.getElem?_map, ek]; rfl
    have Sz : Bn 50 y.1 := Nat.lt_of_le_of_lt y2 (by decide)
    have Vz : Bn 50 y.2 := Nat.lt_of_le_of_lt (show y.2.natAbs ≤ 5000 by omega) (by decide)
    refine ⟨rfl, ?_⟩
    unfold tYes
    refine iteT ⟨_, rfl, _, rfl, t, _, 0, .int y.1, rfl, rfl, SqT.of ty, rfl, _, rfl, p, y.1, L, rfl, hb', L0, Lz6, fun v1 N1 D1 G1 n1 w1 z1 d1 hb1 b1 => ?_⟩
    have ty1 := tup_but ty hb' b1
    refine ⟨_, rfl, _, rfl, t, _, 1, .int y.2, rfl, rfl, SqT.of ty1, rfl, _, rfl, p, y.2, L, rfl, hb1, L0, Lz6, fun v2 N2 D2 G2 n2 w2 z2 d2 hb2 b2 => ?_⟩
    have c0 := w2.pos L0 y0
    obtain ⟨e1, p1, c1⟩ := w1
    obtain ⟨e2, p2, c2⟩ := w2
    have D1z : Bn 50 D1 := bL.le (by omega)
    have D2z : Bn 50 D2 := bL.le (by omega)
    refine ⟨rfl, fun x dx nx ndx _ => pool_made (n1.but hb1 b2) n2 (Sz.le z1) D1z (Vz.le z2) D2z (by decide) p1 p2 c0 nx ndx fun G3 s3 hP => ⟨rfl, ?_⟩⟩
    have k3 : But p G' G3 := (b1.trans b2).trans (But.of s3)
    have hb3 := hb2.same s3
    have eD4 := k3 _ _ nDp eD3
    have bt : But D G3 (upd G3 D (.lst (qs.map V.ref ++ [.ref x]))) := But.upd
    refine ⟨_, eD4, by rw [List.length_map, lq]; exact small1000 (by omega), ⟨hb3.butL (Ne.symm nDp) bt, fun bb o n e => ?_⟩, qs ++ [x], by rw [List.length_append, lq]; rfl, by rw [upd_same, List.map_append]; rfl, ?_⟩
    · rw [upd_ne (ne_of_none e hD)]
      exact k3 _ _ n (k' _ _ n e)
    · rw [take_get ekM]
      exact ((MwsAt.bx hM hb' k3).butL eD4 bt).snoc ((mw_of hP ⟨p1, c0, p2, c1, c2, Sz.le z1, D1z, Vz.le z2, D2z⟩ e1 e2).butL eD4 bt)
  rintro G5 ⟨⟨hb5, k5⟩, qs, lq, eD, hM⟩
  have nDp : D ≠ p := box_ne hb hD
  rw [List.length_map] at lq
  rw [List.length_map, ← lM, List.take_length] at hM
  have lqs : qs.length ≤ 1000 := by omega
  refine ⟨rfl, _, rfl, _, rfl, D, qs.map V.ref, rfl, .inl ⟨SqL.of eD, fun u hu => ?_⟩⟩
  have su := same_upd (o := .tup (qs.map V.ref)) hu
  have eu : (upd G5 u (.tup (qs.map V.ref))) u = some (.tup (qs.map V.ref)) := upd_same
  have eD6 := su _ _ eD
  have hM6 := hM.same su
  have hb6 := hb5.same su
  generalize upd G5 u (.tup (qs.map V.ref)) = G6 at *
  refine ⟨(by show 2 ≤ sizeLine; decide), fun li hli => ?_⟩
  have sl := same_upd (o := .lst [.ref D, .ref u]) hli
  have eli : (upd G6 li (.lst [.ref D, .ref u])) li = some (.lst [.ref D, .ref u]) := upd_same
  have nli : li ≠ p := box_ne hb6 hli
  have eu7 := sl _ _ eu
  have eD7 := sl _ _ eD6
  have hM7 := hM6.same sl
  have hb7 := hb6.same sl
  generalize upd G6 li (.lst [.ref D, .ref u]) = G7 at *
  refine ⟨_, rfl, p, 2, rfl, hb7, by decide, by decide, fun d n sd c d0 d1 hb8 => ?_⟩
  have k8 : But p G7 (upd G7 p (BoxL n sd c)) := But.upd
  have eu8 := tup_but eu7 hb7 k8
  have eD8 := k8 _ _ nDp eD7
  have el8 := k8 _ _ nli eli
  have hM8 := MwsAt.bx hM7 hb7 k8
  have kk : But p H (upd G7 p (BoxL n sd c)) := k5.trans ((But.of (su.trans sl)).trans k8)
  generalize upd G7 p (BoxL n sd c) = G8 at *
  obtain rfl | rfl : d = 0 ∨ d = 1 := by omega
  · exact ⟨li, _, 0, .ref D, rfl, rfl, SqL.of el8, rfl, rfl, set_any (.inl (SqL.of eD8)) hM8 hF fun w G9 s9 hw => fin w G9 (hb8.same s9) (kk.trans (But.of s9)) hw⟩
  · exact ⟨li, _, 1, .ref u, rfl, rfl, SqL.of el8, rfl, rfl, set_any (.inr (SqT.of eu8)) hM8 hF fun w G9 s9 hw => fin w G9 (hb8.same s9) (kk.trans (But.of s9)) hw⟩
theorem ok_neigh (T : Txt K mg) : FnOk P w K mg base CX0 3 T.f_lw_neighbours T.d_lw_neighbours ["_law_drops"] spNeigh := by
  have nd := sc_lw_neighbours.nd
  refine T.F_lw_neighbours.ok sc_lw_neighbours (fun vs H Q E ⟨_, _, _, e, _⟩ => by rw [e]; rfl) (fun cdv A outer s H vs Q E hr h => ?_)
  obtain ⟨l, ts, ds, rfl, hl, hT, hD, few, fin⟩ := h
  refine ⟨_, pss_one (ps_ret (pe_lc (own := [("_law_pool", 1)]) (g := gName 1) (tt := tYes) (te := tSl (rSlT K) (tVar 1) tNoPart (tPart (tC (.int 2)))) rfl nd
        (pi_list (pe_f (E := fun _ => E0) (ok_pls T) hr (by rfl) T.g_lw_pools T.F_lw_pools.kp T.B_lw_pools (fun _ => at0) (pa_cons (pe_f (E := fun _ => E0) (ok_ordl T) (hr.mono (by decide)) (by rfl) T.g_lw_ordered T.F_lw_ordered.kp T.B_lw_ordered (fun _ => at0) (pa_cons (pv 0) pa_nil)) pa_nil)))
        (blkOk_by (own := [("_law_pool", 1)]) (N := ["_law_drops", "_law_pool"]) (sc := defScope s_lw_neighbours) (by decide +kernel)) (fun _ _ _ _ _ => pg_name (i := 1) nd rfl (.inl rfl)) (fun _ _ _ _ _ => pts_nil)
        (fun _ _ _ _ _ => pe_slice sl_tup (pv 1) po_none (po_some pe_int)))), ?_⟩
  have lds : ds.length = ts.length := hT.1
  have hpos : ∀ x ∈ ds, 0 < x.2 := fun x hx => (hD x hx).1
  have hF : Fine 1 (ds.map mom) := fine_drops (by decide) (by decide) few hD
  have szo : Szs 300 1 ((ordX ds).map mom) := by
    rw [← ord_mom hpos]
    obtain ⟨e1, e2⟩ := sz_ord (ds.map mom)
    exact (show Szs 60 1 (ordD (ds.map mom)) from ⟨by rw [e1]; exact hF.sz.1, by rw [e2]; exact hF.sz.2⟩).mono (by decide)
  have bno : ∀ x ∈ ordX ds, Bn 300 x.1 ∧ Bn 300 x.2 := fun x hx => by
    obtain ⟨e1, e2, e3⟩ := hD x (ordX_mem.mp hx)
    exact ⟨Nat.lt_of_le_of_lt e3 (by decide), by show x.2.natAbs < _; exact Nat.lt_of_le_of_lt (show x.2.natAbs ≤ 5000 by omega) (by decide)⟩
  refine ⟨_, rfl, l, ts, ds, rfl, hl, hT, by omega, fun p3 G6 ts' s6 ep3 hT3 _ => ?_⟩
  refine ⟨p3, ts', ordX ds, rfl, ep3, hT3, by rw [← hT3.1, ordX_len]; omega, szo, bno, fun p4 G7 us4 s7 hp4 ep4 hQ => ⟨p4, rfl, ⟨_, SqL.of ep4⟩, fun D2 hD2 => ?_⟩⟩
  rw [← ord_mom hpos] at hQ
  have s67 := s6.trans s7
  generalize hX : polD (ordD (ds.map mom)) = X at *
  have lX : X.length ≤ 50 := by rw [← hX]; exact hF.pol.few
  refine lc_list (K := K) (a := p4) (xs := us4.map V.ref) (fun k G => Same G7 G ∧ ∃ vs : List Addr, vs.length = k ∧ G D2 = some (.lst (vs.map V.ref)) ∧ TupsAt G vs (X.take k))
    ⟨same_upd hD2, [], rfl, upd_same, rfl, fun i t x e => by simp at e⟩ (fun _ G _ h => SqL.of (h.1 _ _ ep4)) ?_ ?_
  · rintro k x G8 hx ⟨s8, vs, lv, eD2, hV⟩
    obtain ⟨u, eu, rfl⟩ := ref_get hx
    have hk : k < X.length := by rw [hQ.1]; exact (List.getElem?_eq_some_iff.mp eu).1
    have ek : X[k]? = some X[k] := List.getElem?_eq_getElem hk
    have tk := take_get ek
    generalize X[k] = y at ek tk
    obtain ⟨f, g, eu8⟩ := hQ.2 k u y eu ek
    refine ⟨rfl, ?_⟩
    unfold tYes
    refine iteT ⟨_, rfl, _, rfl, cut2 (s8 _ _ eu8) fun tn htn => ?_⟩
    have sn := same_upd (o := .tup [.int y.1, .int y.2]) htn
    have eDn := sn _ _ eD2
    have bt : But D2 (upd G8 tn (.tup [.int y.1, .int y.2])) (upd (upd G8 tn (.tup [.int y.1, .int y.2])) D2 (.lst (vs.map V.ref ++ [.ref tn]))) := But.upd
    refine ⟨_, eDn, by rw [List.length_map, lv]; exact small1000 (by omega), fun bb o e => ?_, vs ++ [tn], by rw [List.length_append, lv]; rfl, by rw [upd_same, List.map_append]; rfl, ?_⟩
    · rw [upd_ne (ne_of_none e hD2)]; exact sn _ _ (s8 _ _ e)
    · rw [tk]
      exact ((hV.same sn).snoc upd_same).butL eDn bt
  · rintro G8 ⟨s8, vs, lv, eD2, hV⟩
    rw [List.length_map, ← hQ.1, List.take_length] at hV
    exact fin D2 G8 vs (s67.trans s8) (Same.back s67 hD2) eD2 hV
end

/-! ### pools within pools, yes or no -/
instance (y x : DD) : Decidable (LeftLe y x) := by unfold LeftLe; exact inferInstance
instance (x y : DD) : Decidable (RightLe x y) := by unfold RightLe; exact inferInstance
def liesB (x y : DD) : Bool := decide (LeftLe y x) && decide (RightLe x y)
theorem liesB_iff {x y : DD} : liesB x y = true ↔ Lies x y := by
  unfold liesB
  rw [Bool.and_eq_true, decide_eq_true_iff, decide_eq_true_iff]
  exact ⟨fun h => ⟨h.1, h.2⟩, fun h => ⟨h.l, h.r⟩⟩
def insB (xs ys : List DD) : Bool := xs.all fun x => ys.any fun y => liesB x y
theorem insB_true {xs ys : List DD} (h : ∀ x ∈ xs, ∃ y ∈ ys, Lies x y) : insB xs ys = true := by
  unfold insB
  rw [List.all_eq_true]
  intro x hx
  obtain ⟨y, hy, l⟩ := h x hx
  exact List.any_eq_true.mpr ⟨y, hy, liesB_iff.mpr l⟩
theorem insB_false {xs ys : List DD} {x : DD} (hx : x ∈ xs) (h : ∀ y ∈ ys, ¬ Lies x y) : insB xs ys = false := by
  refine Bool.eq_false_iff.mpr fun z => ?_
  unfold insB at z
  obtain ⟨y, hy, l⟩ := List.any_eq_true.mp (List.all_eq_true.mp z x hx)
  exact h y hy (liesB_iff.mp l)
def spLieD (K : PySem.W.Frag) (CP C : Addr) : Sp := fun vs H Q _ => ∃ (t u : Addr) (qs rs : List Addr) (L : Int) (xs ys : List DD), vs = [.ref t, .ref u] ∧ SqT K H t (qs.map V.ref) ∧ SqT K H u (rs.map V.ref) ∧ MwsAt CP C H L qs xs ∧ MwsAt CP C H L rs ys ∧ Fine L xs ∧ Fine L ys ∧ xs.Pairwise Before ∧ ys.Pairwise Before ∧
  ∀ H', Same H H' → Q (.bl (insB xs ys)) H'
section
variable {P : Program} {w : World} {K : PySem.W.Frag} {mg : Str → Option Value} {base : Heap}
theorem ok_lieD (T : Txt K mg) : FnOk P w K mg base CX0 9 T.f_lie_within T.d_lie_within ["pools", "others"] (spLieD K T.C_Pool T.C_Ratio) := by
  have nd := sc_lie_within.nd
  refine T.F_lie_within.ok sc_lie_within (fun vs H Q E ⟨_, _, _, _, _, _, _, e, _⟩ => by rw [e]; rfl) (fun cdv A outer s H vs Q E hr h => ?_)
  obtain ⟨t, u, qs, rs, L, xs, ys, rfl, ht, hu, hX, hY, fX, fY, bX, bY, fin⟩ := h
  refine ⟨_, pss_cons (ps_set (i := 2) nd rfl (.inl rfl) pe_int)
    (pss_cons (ps_for PassesOwn.never rfl (pi_tup (pv 0)) (pg_name (i := 3) nd rfl (.inl rfl))
      (C8.pss_cut (ps_while PassesOwn.never (PW.pt (pw_and (pt_cmpR op_lt (pv 2) (pe_callB call_len_seq (by rfl) T.b_len PySem.boot_len (pa_cons (pv 1) pa_nil)) (nomark _))
          (pw_and1 (pt_cmpR (opr_cmp (op := .Lt) (E := E0) (fun _ _ => rfl) (besides T) T.m_Ratio_lt_d (ok_lt T) (hr.mono (by decide)) T.B_Ratio_lt_d (fun _ => at0))
            (pe_prop (E := E0) (pe_ix ix_tup (pv 1) (pv 2) (fun _ _ => rfl)) T.cl_Pool T.pr_Pool_right (ok_right_ T) (hr.mono (by decide)) T.B_Pool_right .nil pass0 rfl)
            (pe_prop (E := E0) (pv 3) T.cl_Pool T.pr_Pool_right (ok_right_ T) (hr.mono (by decide)) T.B_Pool_right .nil pass0 rfl) (nomark _)))))
          (pss_one (ps_set (i := 2) nd rfl (.inl rfl) (pe_op op_add (pv 2) pe_int))))
      (pss_one (ps_if (PW.pt (pw_or (pt_cmpR op_eq (pv 2) (pe_callB call_len_seq (by rfl) T.b_len PySem.boot_len (pa_cons (pv 1) pa_nil)) (nomark _))
          (pw_or1 (pt_cmpR (opr_cmp (op := .Lt) (E := E0) (fun _ _ => rfl) (besides T) T.m_Ratio_lt_d (ok_lt T) (hr.mono (by decide)) T.B_Ratio_lt_d (fun _ => at0))
            (pe_prop (E := E0) (pv 3) T.cl_Pool T.pr_Pool_left (ok_left T) (hr.mono (by decide)) T.B_Pool_left .nil pass0 rfl)
            (pe_prop (E := E0) (pe_ix ix_tup (pv 1) (pv 2) (fun _ _ => rfl)) T.cl_Pool T.pr_Pool_left (ok_left T) (hr.mono (by decide)) T.B_Pool_left .nil pass0 rfl) (nomark _)))))
        (pss_one (ps_ret pe_bl)) pss_nil))))
    (pss_one (ps_ret pe_bl))), ?_⟩
  have lrs : (rs.map V.ref).length = ys.length := by rw [List.length_map, hY.1]
  -- right_i < right_j in Python's words
  have two : ∀ {N D N' D' : Int} {x y : DD}, 0 < x.2 → 0 < y.2 → Was N D (2 * y.1 + y.2 * y.2) (2 * y.2 * L) → Was N' D' (2 * x.1 + x.2 * x.2) (2 * x.2 * L) → (N * D' < N' * D ↔ ¬ RightLe x y) := fun {N D N' D' x y} px py h1 h2 => by
    have l1 : 0 < 2 * y.2 * L := Int.mul_pos (by omega) fX.l0
    have l2 : 0 < 2 * x.2 * L := Int.mul_pos (by omega) fX.l0
    have := Was.cmp h2 l2 h1 l1
    rw [scale_le fX.l0] at this
    unfold RightLe
    omega
  have twoL : ∀ {N D N' D' : Int} {x y : DD}, 0 < x.2 → 0 < y.2 → Was N D (2 * x.1 - x.2 * x.2) (2 * x.2 * L) → Was N' D' (2 * y.1 - y.2 * y.2) (2 * y.2 * L) → (N * D' < N' * D ↔ ¬ LeftLe y x) := fun {N D N' D' x y} px py h1 h2 => by
    have l1 : 0 < 2 * x.2 * L := Int.mul_pos (by omega) fX.l0
    have l2 : 0 < 2 * y.2 * L := Int.mul_pos (by omega) fX.l0
    have := Was.cmp h2 l2 h1 l1
    rw [scale_le fX.l0] at this
    unfold LeftLe
    omega
  refine ⟨_, rfl, t, rfl, ⟨_, ht⟩, for_tup (xs := qs.map V.ref) (fun i σ' G => Same H G ∧ ∃ (j : Nat) (v3 : Option V), σ' = [some (.ref t), some (.ref u), some (.int (j : Nat)), v3] ∧ j ≤ ys.length ∧ (∀ (i' : Nat) (x : DD), i' < i → xs[i']? = some x → ∃ y ∈ ys, Lies x y) ∧ ∀ (i' : Nat) (x : DD) (j' : Nat) (y : DD), i ≤ i' → xs[i']? = some x → j' < j → ys[j']? = some y → ¬ RightLe x y)
    ⟨Same.refl _, 0, _, rfl, Nat.zero_le _, fun i' x h _ => absurd h (Nat.not_lt_zero _), fun i' x j' y _ _ h _ => absurd h (Nat.not_lt_zero _)⟩ (fun i σ' G _ h => Same.seqT h.1 ht) ?_ ?_⟩
  · rintro i x0 σ' G hx ⟨sG, j, v3, rfl, jle, done, below⟩
    obtain ⟨q, eq, rfl⟩ := ref_get hx
    have hi : i < xs.length := by rw [hX.1]; exact (List.getElem?_eq_some_iff.mp eq).1
    have ex : xs[i]? = some xs[i] := List.getElem?_eq_getElem hi
    have mx := List.getElem_mem hi
    generalize xs[i] = x at ex mx
    have px := fX.pos x mx
    have zx := fX.sz.at_ mx
    have hq := hX.2 i q x eq ex
    refine ⟨fun σ2 G4 => Same H G4 ∧ ∃ (j : Nat), σ2 = [some (.ref t), some (.ref u), some (.int (j : Nat)), some (.ref q)] ∧ j ≤ ys.length ∧ (∀ y, ys[j]? = some y → RightLe x y) ∧ ∀ (i' : Nat) (x : DD) (j' : Nat) (y : DD), i ≤ i' → xs[i']? = some x → j' < j → ys[j']? = some y → ¬ RightLe x y, ?_, ?_⟩
    · refine ⟨fun m σ2 G4 => Same H G4 ∧ ∃ (j : Nat), σ2 = [some (.ref t), some (.ref u), some (.int (j : Nat)), some (.ref q)] ∧ j ≤ ys.length ∧ m = ys.length - j ∧ ∀ (i' : Nat) (x : DD) (j' : Nat) (y : DD), i ≤ i' → xs[i']? = some x → j' < j → ys[j']? = some y → ¬ RightLe x y,
        ⟨ys.length - j, sG, j, rfl, jle, rfl, below⟩, ?_⟩
      rintro m σ2 G4 ⟨s4, j, rfl, jle, rfl, below⟩
      refine ⟨_, rfl, _, rfl, u, _, rfl, .inr (Same.seqT s4 hu), ?_⟩
      rw [lrs]
      refine ⟨_, _, rfl, rfl, _, rfl, ?_⟩
      by_cases hj : j < ys.length
      case neg =>
        rw [decide_eq_false (show ¬ (j : Int) < (ys.length : Nat) by omega)]
        refine iteF (iteF ⟨s4, j, rfl, jle, fun y ey => absurd (List.getElem?_eq_some_iff.mp ey).1 hj, below⟩)
      have ej : ys[j]? = some ys[j] := List.getElem?_eq_getElem hj
      have my := List.getElem_mem hj
      generalize ys[j] = y at ej my
      have py := fY.pos y my
      have zy := fY.sz.at_ my
      have hr1 : j < rs.length := by rw [← hY.1]; exact hj
      have er : rs[j]? = some rs[j] := List.getElem?_eq_getElem hr1
      generalize rs[j] = r at er
      have hmr := (hY.2 j r y er ej).same s4
      obtain ⟨dr, fr, err⟩ := mw_insx hmr
      rw [decide_eq_true (show (j : Int) < (ys.length : Nat) by omega)]
      refine iteT ?_
      refine ⟨_, rfl, _, rfl, u, _, j, .ref r, rfl, rfl, Same.seqT s4 hu, atI_nat (get_ref er), r, dr, fr, rfl, err, right_of fY.l0 zy hmr fun g1 G5 N D s5 r1 w1 bN bD => ?_⟩
      have s45 := s4.trans s5
      have hq5 := hq.same s45
      obtain ⟨dq, fq, eqq⟩ := mw_insx hq5
      refine ⟨_, rfl, q, dq, fq, rfl, eqq, right_of fX.l0 zx hq5 fun g2 G6 N' D' s6 r2 w2 bN' bD' => ?_⟩
      refine ownL (r := decide (N * D' < N' * D)) (r1.same s6) (.inr ⟨g2, rfl, r2⟩) (bN.bd (by decide)) (bD.bd (by decide)) (bN'.bd (by decide)) (bD'.bd (by decide)) (by simp) fun G7 s7 => ⟨_, rfl, ?_⟩
      have s47 := s45.trans (s6.trans s7)
      refine ite2 (fun c => ?_) (fun c => ?_)
      · have c := (two px py w1 w2).mp (of_decide_eq_true c)
        refine ⟨fun σ2 G4 => Same H G4 ∧ ∃ (j' : Nat), σ2 = [some (.ref t), some (.ref u), some (.int (j' : Nat)), some (.ref q)] ∧ j' ≤ ys.length ∧ ys.length - (j + 1) = ys.length - j' ∧ ∀ (i' : Nat) (x : DD) (j'' : Nat) (y : DD), i ≤ i' → xs[i']? = some x → j'' < j' → ys[j'']? = some y → ¬ RightLe x y, fun σ' G' h => ⟨ys.length - (j + 1), by omega, h⟩, ?_⟩
        refine ⟨_, rfl, _, _, rfl, rfl, s47, j + 1, by rw [Int.natCast_add]; rfl, by omega, rfl, fun i' x' j'' y' h1 h2 h3 h4 hR => ?_⟩
        rcases Nat.lt_or_ge j'' j with lt | ge
        · exact below i' x' j'' y' h1 h2 lt h4 hR
        · obtain rfl : j'' = j := by omega
          rw [ej] at h4
          cases h4
          rcases Nat.lt_or_ge i i' with li | gi
          · obtain ⟨h5, rfl⟩ := List.getElem?_eq_some_iff.mp h2
            obtain ⟨h6, e6⟩ := List.getElem?_eq_some_iff.mp ex
            have b := List.pairwise_iff_getElem.mp bX i i' h6 h5 li
            rw [e6] at b
            have px' := fX.pos _ (List.getElem_mem h5)
            exact c ((b.right px px').trans px px' py hR)
          · obtain rfl : i = i' := by omega
            rw [ex] at h2
            cases h2
            exact c hR
      · have c : RightLe x y := by
          by_cases z : RightLe x y
          · exact z
          · exact absurd (decide_eq_true ((two px py w1 w2).mpr z)) c
        exact ⟨s47, j, rfl, jle, fun y' ey' => by rw [ej] at ey'; cases ey'; exact c, below⟩
    · rintro σ2 G4 ⟨s4, j, rfl, jle, cR, below⟩
      refine ⟨_, rfl, _, rfl, u, _, rfl, .inr (Same.seqT s4 hu), ?_⟩
      rw [lrs]
      refine ⟨rfl, _, rfl, ?_⟩
      by_cases hj : j < ys.length
      case neg =>
        rw [show decide (V.int (j : Nat) = V.int (ys.length : Nat)) = true from decide_eq_true (by rw [show j = ys.length by omega])]
        refine iteT (iteT ?_)
        rw [← insB_false mx (ys := ys) fun y hy l => ?_]
        · exact fin _ s4
        · obtain ⟨k, hk, rfl⟩ := List.mem_iff_getElem.mp hy
          exact below i x k _ (Nat.le_refl _) ex (by omega) (List.getElem?_eq_getElem hk) l.r
      have ej : ys[j]? = some ys[j] := List.getElem?_eq_getElem hj
      have my := List.getElem_mem hj
      generalize ys[j] = y at ej my
      have c := cR y ej
      have py := fY.pos y my
      have zy := fY.sz.at_ my
      have hr1 : j < rs.length := by rw [← hY.1]; exact hj
      have er : rs[j]? = some rs[j] := List.getElem?_eq_getElem hr1
      generalize rs[j] = r at er
      have hq4 := hq.same s4
      obtain ⟨dq, fq, eqq⟩ := mw_insx hq4
      rw [show decide (V.int (j : Nat) = V.int (ys.length : Nat)) = false from decide_eq_false (fun z => by injection z with z; omega)]
      refine iteF ?_
      refine ⟨_, rfl, q, dq, fq, rfl, eqq, left_of fX.l0 zx hq4 fun g1 G5 N D s5 r1 w1 bN bD => ?_⟩
      have s45 := s4.trans s5
      have hm5 := (hY.2 j r y er ej).same s45
      obtain ⟨dr, fr, err⟩ := mw_insx hm5
      refine ⟨_, rfl, _, rfl, u, _, j, .ref r, rfl, rfl, Same.seqT s45 hu, atI_nat (get_ref er), r, dr, fr, rfl, err, left_of fY.l0 zy hm5 fun g2 G6 N' D' s6 r2 w2 bN' bD' => ?_⟩
      refine ownL (r := decide (N * D' < N' * D)) (r1.same s6) (.inr ⟨g2, rfl, r2⟩) (bN.bd (by decide)) (bD.bd (by decide)) (bN'.bd (by decide)) (bD'.bd (by decide)) (by simp) fun G7 s7 => ⟨_, rfl, ?_⟩
      have s47 := s45.trans (s6.trans s7)
      refine ite2 (fun cc => ?_) (fun cc => ?_)
      · have nl := (twoL px py w1 w2).mp (of_decide_eq_true cc)
        rw [← insB_false mx (ys := ys) fun z hz l => ?_]
        · exact fin _ s47
        · obtain ⟨k, hk, rfl⟩ := List.mem_iff_getElem.mp hz
          have ek := List.getElem?_eq_getElem hk
          rcases Nat.lt_or_ge k j with lt | ge
          · exact below i x k _ (Nat.le_refl _) ex lt ek l.r
          · exact nl (first_holds px fY.pos bY ej ek ge c l)
      · have ll : LeftLe y x := by
          by_cases z : LeftLe y x
          · exact z
          · exact absurd (decide_eq_true ((twoL px py w1 w2).mpr z)) cc
        refine ⟨s47, j, _, rfl, jle, fun i' x' h1 h2 => ?_, fun i' x' j' y' h1 h2 h3 h4 => below i' x' j' y' (by omega) h2 h3 h4⟩
        rcases Nat.lt_or_ge i' i with lt | ge
        · exact done i' x' lt h2
        · obtain rfl : i' = i := by omega
          rw [ex] at h2
          cases h2
          exact ⟨y, my, ll, c⟩
  · rintro σ' G ⟨sG, j, v3, rfl, _, done, _⟩
    rw [List.length_map, ← hX.1] at done
    rw [← insB_true (xs := xs) (ys := ys) fun x hx => ?_]
    · exact fin G sG
    · obtain ⟨i, hi, rfl⟩ := List.mem_iff_getElem.mp hx
      exact done i _ hi (List.getElem?_eq_getElem hi)
end

/-! ### comparisons of waters -/
theorem mw_iff {a b c d a' b' c' d' L : Int} {x y : DD} (l : 0 < L) (b0 : 0 < b) (d0 : 0 < d) (b0' : 0 < b') (d0' : 0 < d') (wx : 0 < x.2) (wy : 0 < y.2) (e1 : a * (x.2 * L) = x.1 * b) (e2 : c * L = x.2 * d) (e1' : a' * (y.2 * L) = y.1 * b') (e2' : c' * L = y.2 * d') :
    (a * b' = a' * b ∧ c * d' = c' * d) ↔ x = y := by
  have n1 : b * b' ≠ 0 := Int.mul_ne_zero (by omega) (by omega)
  have n2 : d * d' ≠ 0 := Int.mul_ne_zero (by omega) (by omega)
  obtain ⟨x1, x2⟩ := x
  obtain ⟨y1, y2⟩ := y
  simp only at wx wy e1 e2 e1' e2'
  constructor
  · rintro ⟨h1, h2⟩
    have v : x2 = y2 := by
      refine Int.eq_of_mul_eq_mul_right n2 ?_
      have g1 : x2 * (d * d') = c * d' * L := by rw [show x2 * (d * d') = x2 * d * d' by simp only [Int.mul_assoc], ← e2]; simp only [Int.mul_assoc, Int.mul_comm, Int.mul_left_comm]
      have g2 : y2 * (d * d') = c' * d * L := by rw [show y2 * (d * d') = y2 * d' * d by simp only [Int.mul_assoc, Int.mul_comm, Int.mul_left_comm], ← e2']; simp only [Int.mul_assoc, Int.mul_comm, Int.mul_left_comm]
      rw [g1, g2, h2]
    subst v
    have u : x1 = y1 := by
      refine Int.eq_of_mul_eq_mul_right n1 ?_
      have g1 : x1 * (b * b') = a * b' * (x2 * L) := by rw [show x1 * (b * b') = x1 * b * b' by simp only [Int.mul_assoc], ← e1]; simp only [Int.mul_assoc, Int.mul_comm, Int.mul_left_comm]
      have g2 : y1 * (b * b') = a' * b * (x2 * L) := by rw [show y1 * (b * b') = y1 * b' * b by simp only [Int.mul_assoc, Int.mul_comm, Int.mul_left_comm], ← e1']; simp only [Int.mul_assoc, Int.mul_comm, Int.mul_left_comm]
      rw [g1, g2, h1]
    rw [u]
  · intro e
    cases e
    have wl : x2 * L ≠ 0 := Int.mul_ne_zero (by omega) (by omega)
    refine ⟨Int.eq_of_mul_eq_mul_right wl ?_, Int.eq_of_mul_eq_mul_right (show L ≠ 0 by omega) ?_⟩
    · have g1 : a * b' * (x2 * L) = x1 * b * b' := by rw [← e1]; simp only [Int.mul_assoc, Int.mul_comm, Int.mul_left_comm]
      have g2 : a' * b * (x2 * L) = x1 * b' * b := by rw [← e1']; simp only [Int.mul_assoc, Int.mul_comm, Int.mul_left_comm]
      rw [g1, g2]; simp only [Int.mul_assoc, Int.mul_comm, Int.mul_left_comm]
    · have g1 : c * d' * L = x2 * d * d' := by rw [← e2]; simp only [Int.mul_assoc, Int.mul_comm, Int.mul_left_comm]
      have g2 : c' * d * L = x2 * d' * d := by rw [← e2']; simp only [Int.mul_assoc, Int.mul_comm, Int.mul_left_comm]
      rw [g1, g2]; simp only [Int.mul_assoc, Int.mul_comm, Int.mul_left_comm]
theorem eq_poolsD {K : PySem.W.Frag} {CP C : Addr} {H : Hp} {L : Int} {p q : Addr} {x y : DD} {R : Bool → Hp → Prop} (l : 0 < L) (zx : Szd 60 L x) (zy : Szd 60 L y) (hp : MwAt CP C H L p x) (hq : MwAt CP C H L q y) (k : ∀ H', Same H H' → R (decide (x = y)) H') : eqc (spPEq K CP C) p q H R := by
  obtain ⟨w, a, b, c, d, h1, z1, e1, e2⟩ := hp.terms l zx
  obtain ⟨w', a', b', c', d', h1', z1', e1', e2'⟩ := hq.terms l zy
  have iff := mw_iff l z1.b0 z1.d0 z1'.b0 z1'.d0 w w' e1 e2 e1' e2'
  refine ⟨fun e => ?_, fun _ => ?_⟩
  · subst e
    obtain ⟨f1, f2, f3, f4⟩ := h1.uniq h1'
    have xy := iff.mp ⟨by rw [f1, f2], by rw [f3, f4]⟩
    rw [show true = decide (x = y) from (decide_eq_true xy).symm]
    exact k H (Same.refl _)
  · exact ⟨p, .ref q, a, b, c, d, decide (x = y), rfl, h1, .inl ⟨q, a', b', c', d', 60, rfl, h1', z1, z1', by decide, by rw [decide_eq_true_iff]; exact iff.symm⟩, fun H' s => ⟨_, rfl, k H' s⟩⟩
theorem mw_insA {CP C : Addr} {H : Hp} {L : Int} {qs : List Addr} {ds : List DD} (h : MwsAt CP C H L qs ds) : ∀ q ∈ qs, ∃ dx fs, H q = some (.ins CP dx fs) := fun q hq => by
  obtain ⟨i, hi, rfl⟩ := List.mem_iff_getElem.mp hq
  obtain ⟨a, b, c, d, ⟨dx, m, v, e, _⟩, _⟩ := h.2 i _ _ (List.getElem?_eq_getElem hi) (List.getElem?_eq_getElem (show i < ds.length by rw [h.1]; exact hi))
  exact ⟨dx, _, e⟩
theorem all_eq {l m : List DD} : (decide (l.length = m.length) && (List.range (min l.length m.length)).all fun i => decide (l[i]? = m[i]?)) = decide (l = m) := by
  rw [Bool.eq_iff_iff, Bool.and_eq_true, decide_eq_true_iff, decide_eq_true_iff, List.all_eq_true]
  constructor
  · rintro ⟨h1, h2⟩
    refine List.ext_getElem? fun i => ?_
    rcases Nat.lt_or_ge i l.length with lt | ge
    · exact of_decide_eq_true (h2 i (List.mem_range.mpr (by omega)))
    · rw [List.getElem?_eq_none ge, List.getElem?_eq_none (by omega)]
  · rintro rfl
    exact ⟨rfl, fun i _ => decide_eq_true rfl⟩
abbrev PX (X : List DD) : List DD := polD (ordD X)
def spWLeD (K : PySem.W.Frag) (CW CP C : Addr) : Sp := fun vs H Q _ => ∃ (a b : Addr) (L : Int) (X Y : List DD), vs = [.ref a, .ref b] ∧ WOf K CW CP C H L a X ∧ WOf K CW CP C H L b Y ∧ Fine L X ∧ Fine L Y ∧ ∀ H', Same H H' → Q (.bl (insB (PX X) (PX Y))) H'
def spWEqD (K : PySem.W.Frag) (CW CP C : Addr) : Sp := fun vs H Q _ => ∃ (a : Addr) (v : V) (L : Int) (X : List DD) (r : Bool), vs = [.ref a, v] ∧ WOf K CW CP C H L a X ∧ Fine L X ∧
  ((∃ b Y, v = .ref b ∧ WOf K CW CP C H L b Y ∧ Fine L Y ∧ r = decide (PX X = PX Y)) ∨ ((∃ t, Side K CW H v t) ∧ r = false)) ∧ ∀ H', Same H H' → Q (.bl r) H'
def spWRel (K : PySem.W.Frag) (CW CP C : Addr) (f : List DD → List DD → Bool) : Sp := fun vs H Q _ => ∃ (a b : Addr) (L : Int) (X Y : List DD), vs = [.ref a, .ref b] ∧ WOf K CW CP C H L a X ∧ WOf K CW CP C H L b Y ∧ Fine L X ∧ Fine L Y ∧ ∀ H', Same H H' → Q (.bl (f (PX X) (PX Y))) H'
def ltB (xs ys : List DD) : Bool := insB xs ys && !decide (xs = ys)
theorem WOf.insX {K : PySem.W.Frag} {CW CP C w : Addr} {H : Hp} {L : Int} {X : List DD} (h : WOf K CW CP C H L w X) : ∃ dx fs, H w = some (.ins CW dx fs) := let ⟨_, ⟨dx, _, e, _⟩, _⟩ := h; ⟨dx, _, e⟩
theorem besidesW {K : PySem.W.Frag} {mg : Str → Option Value} (T : Txt K mg) : Besides K T.C_Water := by
  refine ⟨fun t h => ?_, fun t h => ?_⟩ <;> simp only [List.mem_cons, List.not_mem_nil, or_false] at h
  · rcases h with rfl | rfl | rfl | rfl | rfl
    · exact T.st_Water_int
    · exact T.st_Water_bool
    · exact T.st_Water_str
    · exact T.st_Water_NoneType
    · exact T.st_Water_tuple
  · rcases h with rfl | rfl | rfl | rfl | rfl
    · exact T.su_Water_int
    · exact T.su_Water_bool
    · exact T.su_Water_str
    · exact T.su_Water_NoneType
    · exact T.su_Water_tuple
section
variable {P : Program} {w : World} {K : PySem.W.Frag} {mg : Str → Option Value} {base : Heap}
theorem ok_wleD (T : Txt K mg) : FnOk P w K mg base CX0 10 T.f_Water_le_d T.d_Water_le_d ["self", "other"] (spWRel K T.C_Water T.C_Pool T.C_Ratio insB) := by
  refine T.F_Water_le_d.ok sc_Water_le_d (fun vs H Q E ⟨_, _, _, _, _, e, _⟩ => by rw [e]; rfl) (fun cdv A outer s H vs Q E hr h => ?_)
  obtain ⟨a, b, L, X, Y, rfl, ⟨qs, ⟨dx, t, ea, qt⟩, hX⟩, ⟨rs, ⟨dy, u, eb, qu⟩, hY⟩, fX, fY, fin⟩ := h
  refine ⟨_, pss_cons (ps_if (pt_not (pt_val (pe_callB call_isi (by rfl) T.b_isinstance (by decide +kernel) (pa_cons (pv 1) (pa_cons (pe_glob (v := .ref T.C_Water) (by rfl) T.g_Water rfl) pa_nil))))) pss_never pss_nil)
    (pss_one (ps_ret (pe_f (E := fun _ => E0) (ok_lieD T) hr (by rfl) T.g_lie_within T.F_lie_within.kp T.B_lie_within (fun _ => at0) (pa_cons (pe_fld (pv 0) rfl) (pa_cons (pe_fld (pv 1) rfl) pa_nil))))), ?_⟩
  refine ⟨_, rfl, _, _, .ref T.C_Water, _, true, rfl, .own _, tyx_ins T.cl_Water T.tc_Water eb, kit_self, true, rfl, iteF ?_⟩
  exact ⟨_, rfl, a, _, dx, _, _, rfl, ea, T.cl_Water, T.n_Water__pools, wfs t, _, rfl, b, _, dy, _, _, rfl, eb, T.cl_Water, T.n_Water__pools, wfs u, t, u, qs, rs, L, _, _, rfl, qt, qu, hX, hY, fX.pol, fY.pol, pol_before fX.pos, pol_before fY.pos, fin⟩
theorem ok_weqD (T : Txt K mg) : FnOk P w K mg base CX0 12 T.f_Water_eq_d T.d_Water_eq_d ["self", "other"] (spWEqD K T.C_Water T.C_Pool T.C_Ratio) := by
  refine T.F_Water_eq_d.ok sc_Water_eq_d (fun vs H Q E ⟨_, _, _, _, _, e, _⟩ => by rw [e]; rfl) (fun cdv A outer s H vs Q E hr h => ?_)
  obtain ⟨a, v, L, X, r, rfl, ⟨qs, ⟨dx, t, ea, qt⟩, hX⟩, hF, hv, fin⟩ := h
  refine ⟨_, pss_one (ps_ret (pe_and (pe_callB call_isi (by rfl) T.b_isinstance (by decide +kernel) (pa_cons (pv 1) (pa_cons (pe_glob (v := .ref T.C_Water) (by rfl) T.g_Water rfl) pa_nil)))
    (pe_one (pe_cmpR (op_eqT T.m_Pool_eq_d (ok_peq T) T.B_Pool_eq_d (hr.mono (by decide))) (pe_fld (pv 0) rfl) (pe_fld (pv 1) rfl) (nomark _))))), ?_⟩
  rcases hv with ⟨b, Y, rfl, ⟨rs, ⟨dy, u, eb, qu⟩, hY⟩, hG, rfl⟩ | ⟨⟨t', sd⟩, rfl⟩
  · refine ⟨_, rfl, _, _, .ref T.C_Water, _, true, rfl, .own _, tyx_ins T.cl_Water T.tc_Water eb, kit_self, true, rfl, iteT ?_⟩
    refine ⟨_, rfl, a, _, dx, _, _, rfl, ea, T.cl_Water, T.n_Water__pools, wfs t, _, rfl, b, _, dy, _, _, rfl, eb, T.cl_Water, T.n_Water__pools, wfs u, t, u, qs, rs, fun i => decide ((PX X)[i]? = (PX Y)[i]?), rfl, rfl, qt, qu, mw_insA hX, mw_insA hY, fun i p q e1 e2 H1 s1 => ?_, fun H' s' => ?_⟩
    · have hi : i < (PX X).length := by rw [hX.1]; exact (List.getElem?_eq_some_iff.mp e1).1
      have hj : i < (PX Y).length := by rw [hY.1]; exact (List.getElem?_eq_some_iff.mp e2).1
      have ex := List.getElem?_eq_getElem hi
      have ey := List.getElem?_eq_getElem hj
      refine eq_poolsD hF.l0 (hF.pol.sz.at_ (List.getElem_mem hi)) (hG.pol.sz.at_ (List.getElem_mem hj)) ((hX.2 i p _ e1 ex).same s1) ((hY.2 i q _ e2 ey).same s1) fun H' s' => ⟨?_, s'⟩
      show decide ((PX X)[i] = (PX Y)[i]) = decide ((PX X)[i]? = (PX Y)[i]?)
      rw [ex, ey, Bool.eq_iff_iff, decide_eq_true_iff, decide_eq_true_iff]
      exact ⟨fun h => by rw [h], fun h => Option.some.inj h⟩
    · rw [← hX.1, ← hY.1, all_eq]
      exact fin H' s'
  · obtain ⟨ty, kt⟩ := side_isi T.tc_Water (besidesW T) sd
    exact ⟨_, rfl, _, _, .type t', _, false, rfl, .own _, ty, kt, false, rfl, iteF (fin _ (Same.refl _))⟩
theorem leR {X : Cx} (T : Txt X.K X.mg) (hr : Room 10 X.A) : OpR X (compareOp .LtE) (r2Cmp X.K T.C_Water (spWRel X.K T.C_Water T.C_Pool T.C_Ratio insB) E0) :=
  opr_cmp (op := .LtE) (E := E0) (fun _ _ => rfl) (besidesW T) T.m_Water_le_d (ok_wleD T) hr T.B_Water_le_d (fun _ => at0)
theorem eqR {X : Cx} (T : Txt X.K X.mg) (hr : Room 12 X.A) : OpR X (compareOp .Eq) (r2Cmp X.K T.C_Water (spWEqD X.K T.C_Water T.C_Pool T.C_Ratio) E0) :=
  opr_cmp (op := .Eq) (E := E0) (fun _ _ => rfl) (besidesW T) T.m_Water_eq_d (ok_weqD T) hr T.B_Water_eq_d (fun _ => at0)
theorem ok_wlt (T : Txt K mg) : FnOk P w K mg base CX0 13 T.f_Water_lt_d T.d_Water_lt_d ["self", "other"] (spWRel K T.C_Water T.C_Pool T.C_Ratio ltB) := by
  refine T.F_Water_lt_d.ok sc_Water_lt_d (fun vs H Q E ⟨_, _, _, _, _, e, _⟩ => by rw [e]; rfl) (fun cdv A outer s H vs Q E hr h => ?_)
  obtain ⟨a, b, L, X, Y, rfl, hX, hY, fX, fY, fin⟩ := h
  refine ⟨_, pss_cons (ps_if (pt_not (pt_val (pe_callB call_isi (by rfl) T.b_isinstance (by decide +kernel) (pa_cons (pv 1) (pa_cons (pe_glob (v := .ref T.C_Water) (by rfl) T.g_Water rfl) pa_nil))))) pss_never pss_nil)
    (pss_one (ps_ret (pe_and (pe_cmpR (leR T (hr.mono (by decide))) (pv 0) (pv 1) (nomark _)) (pe_one (pe_not (pe_cmpR (eqR T hr) (pv 0) (pv 1) (nomark _))))))), ?_⟩
  obtain ⟨dx, fx, ea⟩ := hX.insX
  obtain ⟨dy, fy, eb⟩ := hY.insX
  refine ⟨_, rfl, _, _, .ref T.C_Water, _, true, rfl, .own _, tyx_ins T.cl_Water T.tc_Water eb, kit_self, true, rfl, iteF ?_⟩
  refine ⟨_, rfl, _, rfl, a, dx, fx, rfl, ea, .inr ⟨b, dy, fy, rfl, eb⟩, a, b, L, X, Y, rfl, hX, hY, fX, fY, fun H1 s1 => ⟨_, rfl, ?_⟩⟩
  by_cases c : insB (PX X) (PX Y) = true
  · rw [c]
    refine iteT ⟨_, rfl, _, rfl, a, dx, fx, rfl, s1 _ _ ea, .inr ⟨b, dy, fy, rfl, s1 _ _ eb⟩, a, .ref b, L, X, _, rfl, hX.same s1, fX, .inl ⟨b, Y, rfl, hY.same s1, fY, rfl⟩, fun H2 s2 => ⟨_, rfl, ?_⟩⟩
    have := fin H2 (s1.trans s2)
    unfold ltB at this
    rw [c, Bool.true_and] at this
    exact this
  · have c := Bool.eq_false_iff.mpr c
    rw [c]
    refine iteF ?_
    have := fin H1 s1
    unfold ltB at this
    rw [c, Bool.false_and] at this
    exact this
theorem ltR {X : Cx} (T : Txt X.K X.mg) (hr : Room 13 X.A) : OpR X (compareOp .Lt) (r2Cmp X.K T.C_Water (spWRel X.K T.C_Water T.C_Pool T.C_Ratio ltB) E0) :=
  opr_cmp (op := .Lt) (E := E0) (fun _ _ => rfl) (besidesW T) T.m_Water_lt_d (ok_wlt T) hr T.B_Water_lt_d (fun _ => at0)
theorem ok_wge (T : Txt K mg) : FnOk P w K mg base CX0 11 T.f_Water_ge_d T.d_Water_ge_d ["self", "other"] (spWRel K T.C_Water T.C_Pool T.C_Ratio fun xs ys => insB ys xs) := by
  refine T.F_Water_ge_d.ok sc_Water_ge_d (fun vs H Q E ⟨_, _, _, _, _, e, _⟩ => by rw [e]; rfl) (fun cdv A outer s H vs Q E hr h => ?_)
  obtain ⟨a, b, L, X, Y, rfl, hX, hY, fX, fY, fin⟩ := h
  refine ⟨_, pss_cons (ps_if (pt_not (pt_val (pe_callB call_isi (by rfl) T.b_isinstance (by decide +kernel) (pa_cons (pv 1) (pa_cons (pe_glob (v := .ref T.C_Water) (by rfl) T.g_Water rfl) pa_nil))))) pss_never pss_nil)
    (pss_one (ps_ret (pe_cmpR (leR T hr) (pv 1) (pv 0) (nomark _)))), ?_⟩
  obtain ⟨dx, fx, ea⟩ := hX.insX
  obtain ⟨dy, fy, eb⟩ := hY.insX
  refine ⟨_, rfl, _, _, .ref T.C_Water, _, true, rfl, .own _, tyx_ins T.cl_Water T.tc_Water eb, kit_self, true, rfl, iteF ?_⟩
  exact ⟨_, rfl, _, rfl, b, dy, fy, rfl, eb, .inr ⟨a, dx, fx, rfl, ea⟩, b, a, L, Y, X, rfl, hY, hX, fY, fX, fin⟩
theorem ok_wgt (T : Txt K mg) : FnOk P w K mg base CX0 14 T.f_Water_gt_d T.d_Water_gt_d ["self", "other"] (spWRel K T.C_Water T.C_Pool T.C_Ratio fun xs ys => ltB ys xs) := by
  refine T.F_Water_gt_d.ok sc_Water_gt_d (fun vs H Q E ⟨_, _, _, _, _, e, _⟩ => by rw [e]; rfl) (fun cdv A outer s H vs Q E hr h => ?_)
  obtain ⟨a, b, L, X, Y, rfl, hX, hY, fX, fY, fin⟩ := h
  refine ⟨_, pss_cons (ps_if (pt_not (pt_val (pe_callB call_isi (by rfl) T.b_isinstance (by decide +kernel) (pa_cons (pv 1) (pa_cons (pe_glob (v := .ref T.C_Water) (by rfl) T.g_Water rfl) pa_nil))))) pss_never pss_nil)
    (pss_one (ps_ret (pe_cmpR (ltR T hr) (pv 1) (pv 0) (nomark _)))), ?_⟩
  obtain ⟨dx, fx, ea⟩ := hX.insX
  obtain ⟨dy, fy, eb⟩ := hY.insX
  refine ⟨_, rfl, _, _, .ref T.C_Water, _, true, rfl, .own _, tyx_ins T.cl_Water T.tc_Water eb, kit_self, true, rfl, iteF ?_⟩
  exact ⟨_, rfl, _, rfl, b, dy, fy, rfl, eb, .inr ⟨a, dx, fx, rfl, ea⟩, b, a, L, Y, X, rfl, hY, hX, fY, fX, fin⟩
end

/-! ### waters as texts -/
theorem rj_len {z : Str} (h : z.length ≤ 4000) : (Txt.rjust z 12).length ≤ 4012 := by
  unfold Txt.rjust
  split
  · omega
  · rw [PySem.size_padded]
    omega
def spRow (CP C : Addr) : Sp := fun vs H Q _ => ∃ (q : Addr) (a b c d : Int) (n : Nat), vs = [.ref q] ∧ PoolAt CP C H q a b c d ∧ Pz n a b c d ∧ n ≤ 200 ∧ ∀ z H', z.length ≤ 20000 → Same H H' → Q (.str z) H'
def spWStr (K : PySem.W.Frag) (CW CP C : Addr) : Sp := fun vs H Q _ => ∃ (a : Addr) (L : Int) (X : List DD), vs = [.ref a] ∧ WOf K CW CP C H L a X ∧ Fine L X ∧ ∀ z H', Same H H' → Q (.str z) H'
section
variable {P : Program} {w : World} {K : PySem.W.Frag} {mg : Str → Option Value} {base : Heap}
theorem ok_row (T : Txt K mg) : FnOk P w K mg base CX0 4 T.f_row_of T.d_row_of ["pool"] (spRow T.C_Pool T.C_Ratio) := by
  have nd := sc_row_of.nd
  obtain ⟨tk, hK⟩ := T.k_COLUMNS
  refine T.F_row_of.ok sc_row_of (fun vs H Q E ⟨_, _, _, _, _, _, e, _⟩ => by rw [e]; rfl) (fun cdv A outer s H vs Q E hr h => ?_)
  obtain ⟨q, a, b, c, d, n, rfl, hP, z, hn, fin⟩ := h
  refine ⟨_, pss_one (ps_ret (pe_bm PySem.F.plainAttrs_str PySem.F.slot_str_join PySem.F.type_str_join mt_join pe_str (pa_cons
      (pe_lc (own := [("number", 1)]) (g := gName 1) (tt := tYes) (te := tBM K "str" (fun x xs H Q => ∃ (a : Str) (i : Int), x = .str a ∧ xs = [.int i] ∧ PadOk i = true ∧ Q (.str (Txt.rjust a i)) H) (tCB (rc1O T.C_Ratio (spStr T.C_Ratio) E0 fun v => ∃ z, v = .str z) (tCons (tVar 1) tNil)) (tCons (tC (.int 12)) tNil)) rfl nd
        (pi_tup (pe_tup (by exact (pa_cons (pe_prop (E := E0) (pv 0) T.cl_Pool T.pr_Pool_left (ok_left T) (hr.mono (by decide)) T.B_Pool_left .nil pass0 rfl) (pa_cons (pe_prop (E := E0) (pv 0) T.cl_Pool T.pr_Pool_right (ok_right_ T) (hr.mono (by decide)) T.B_Pool_right .nil pass0 rfl)
          (pa_cons (pe_prop (E := E0) (pv 0) T.cl_Pool T.pr_Pool_volume (ok_vol T) (hr.mono (by decide)) T.B_Pool_volume .nil pass0 rfl) pa_nil))))))
        (blkOk_by (own := [("number", 1)]) (N := ["pool", "number"]) (sc := defScope s_row_of) (by decide +kernel)) (fun _ _ _ _ _ => pg_name (i := 1) nd rfl (.inl rfl)) (fun _ _ _ _ _ => pts_nil)
        (fun _ _ _ _ _ => pe_bm PySem.F.plainAttrs_str PySem.F.slot_str_rjust PySem.F.type_str_rjust mt_rjust (pe_callTy (call_strO (E := E0) T.m_Ratio_str_d (ok_str T) hr T.B_Ratio_str_d pass0) (by rfl) T.b_str (by decide +kernel) (pa_cons (pv 1) pa_nil)) (pa_cons (pe_glob (v := .int 12) (by rfl) hK ⟨_, rfl⟩) pa_nil))) pa_nil))), ?_⟩
  have tl : ∀ {x y : Int}, Bn 500 x → Bn 500 y → (ratTx x y).length ≤ 4000 := fun {x y} hx hy => by
    have := ratTx_len (sm_n hx (by decide)) (sm_n hy (by decide))
    omega
  obtain ⟨dx, m0, v0, ep, _, _⟩ := id hP
  have az := z.az; have bz := z.bz; have cz := z.cz; have dz := z.dz
  refine ⟨rfl, ?_⟩
  refine ⟨_, rfl, q, dx, _, rfl, ep, q, a, b, c, d, n, rfl, hP, z, hn, fun g1 G1 N1 D1 s1 r1 w1 bN1 bD1 => ?_⟩
  refine ⟨_, rfl, q, dx, _, rfl, s1 _ _ ep, q, a, b, c, d, n, rfl, hP.same s1, z, hn, fun g2 G2 N2 D2 s2 r2 w2 bN2 bD2 => ?_⟩
  have s12 := s1.trans s2
  refine ⟨_, rfl, q, dx, _, rfl, s12 _ _ ep, q, a, b, c, d, rfl, hP.same s12, fun g3 r3 => ⟨(by show 3 ≤ sizeLine; decide), fun tp htp => ?_⟩⟩
  have sT := same_upd (o := .tup [.ref g1, .ref g2, .ref g3]) htp
  have eT : (upd G2 tp (.tup [.ref g1, .ref g2, .ref g3])) tp = some (.tup [.ref g1, .ref g2, .ref g3]) := upd_same
  have three : ∀ (k : Nat) (g : Addr), [g1, g2, g3][k]? = some g → ∃ N D, RatAt T.C_Ratio (upd G2 tp (.tup [.ref g1, .ref g2, .ref g3])) g N D ∧ Bn 500 N ∧ Bn 500 D := fun k g e => by
    rcases k with _ | _ | _ | k
    · cases e; exact ⟨N1, D1, (r1.same s2).same sT, bN1.mono (by omega), bD1.mono (by omega)⟩
    · cases e; exact ⟨N2, D2, r2.same sT, bN2.mono (by omega), bD2.mono (by omega)⟩
    · cases e; exact ⟨c, d, r3.same sT, cz.mono (by omega), dz.mono (by omega)⟩
    · simp at e
  have s0 := s12.trans sT
  generalize upd G2 tp (.tup [.ref g1, .ref g2, .ref g3]) = G3 at *
  refine ⟨tp, rfl, ⟨_, SqT.of eT⟩, fun D hD => lc_it (walk_tup (xs := [g1, g2, g3].map V.ref)) (fun k G => Same G3 G ∧ ∃ ys : List Str, G D = some (.lst (ys.map V.str)) ∧ ys.length = k ∧ ∀ y ∈ ys, y.length ≤ 4012)
    ⟨same_upd hD, [], upd_same, rfl, fun y hy => by cases hy⟩ (fun _ G _ h => Same.seqT h.1 (SqT.of eT)) ?_ ?_⟩
  · rintro k x G H' hk ⟨sG, ys, eD, ly, small⟩ ⟨rfl, hx⟩
    obtain ⟨g, eg, rfl⟩ := ref_get hx
    obtain ⟨N, D', rg, bN, bD⟩ := three k g eg
    have rg' := rg.same sG
    obtain ⟨dg, eg'⟩ := id rg'
    have tlen := tl bN bD
    refine ⟨rfl, ?_⟩
    unfold tYes
    refine iteT ⟨_, rfl, g, dg, _, rfl, eg', g, N, D', rfl, rg', sm_n bN (by decide), sm_n bD (by decide), ⟨_, rfl⟩, ?_⟩
    refine ⟨rfl, ratTx N D', 12, rfl, rfl, by decide, ys.map V.str, eD, by rw [List.length_map, ly]; exact small1000 (by have : k < 3 := (List.getElem?_eq_some_iff.mp eg).1; omega), fun bb o e => ?_, ys ++ [Txt.rjust (ratTx N D') 12], by rw [upd_same, List.map_append]; rfl, by rw [List.length_append, ly]; rfl, fun y hy => ?_⟩
    · rw [upd_ne (ne_of_none e hD)]
      exact sG _ _ e
    · rcases List.mem_append.mp hy with hy | hy
      · exact small y hy
      · rw [List.mem_singleton.mp hy]
        exact rj_len tlen
  rintro G ⟨sG, ys, eD, ly, small⟩
  have sum3 : (ys.map (·.length)).sum ≤ 3 * 4012 := by
    have key : ∀ l : List Str, (∀ y ∈ l, y.length ≤ 4012) → (l.map (·.length)).sum ≤ l.length * 4012 := by
      intro l
      induction l with
      | nil => intro _; exact Nat.le_refl _
      | cons x l ih =>
        intro h
        have h1 := h x List.mem_cons_self
        have h2 := ih fun y hy => h y (List.mem_cons_of_mem _ hy)
        rw [List.map_cons, List.sum_cons, List.length_cons, Nat.succ_mul]
        omega
    have := key ys small
    rw [ly] at this
    exact this
  have l3 : ys.length = 3 := ly
  have lsp : (" " : Str).length = 1 := by decide +kernel
  refine ⟨_, D, ys, rfl, rfl, .inl (SqL.of eD), by rw [lsp]; omega, ?_⟩
  refine fin _ G ?_ (s0.trans sG)
  show (PySem.Builtin.Str.glued (" " : Str) ys).length ≤ 20000
  rw [PySem.size_glued, lsp]
  omega
theorem ok_wstr (T : Txt K mg) : FnOk P w K mg base CX0 6 T.f_Water_str_d T.d_Water_str_d ["self"] (spWStr K T.C_Water T.C_Pool T.C_Ratio) := by
  have nd := sc_Water_str_d.nd
  refine T.F_Water_str_d.ok sc_Water_str_d (fun vs H Q E ⟨_, _, _, e, _⟩ => by rw [e]; rfl) (fun cdv A outer s H vs Q E hr h => ?_)
  obtain ⟨a, L, X, rfl, ⟨qs, ⟨dx, t, ea, qt⟩, hX⟩, hF, fin⟩ := h
  refine ⟨_, pss_cons (ps_if (pt_not (pt_truth (pe_fld (pv 0) rfl) (fun _ => rfl))) (pss_one (ps_ret pe_str)) pss_nil)
    (pss_one (ps_ret (pe_bm PySem.F.plainAttrs_str PySem.F.slot_str_join PySem.F.type_str_join mt_join pe_str (pa_cons
      (pe_lc (own := [("pool", 1)]) (g := gName 1) (tt := tYes) (te := tCl (spRow T.C_Pool T.C_Ratio) (fun _ => E0) (tCons (tVar 1) tNil)) rfl nd (pi_tup (pe_fld (pv 0) rfl))
        (blkOk_by (own := [("pool", 1)]) (N := ["self", "pool"]) (sc := defScope s_Water_str_d) (by decide +kernel)) (fun _ _ _ _ _ => pg_name (i := 1) nd rfl (.inl rfl)) (fun _ _ _ _ _ => pts_nil)
        (fun _ _ _ _ _ => pe_f (E := fun _ => E0) (ok_row T) (hr.mono (by decide)) (by rfl) T.g_row_of T.F_row_of.kp T.B_row_of (fun _ => at0) (pa_cons (pv 1) pa_nil))) pa_nil)))), ?_⟩
  have hP := hF.pol
  have lX : (polD (ordD X)).length ≤ 50 := hP.few
  refine ⟨_, rfl, a, _, dx, _, _, rfl, ea, T.cl_Water, T.n_Water__pools, wfs t, !(qs.map V.ref).isEmpty, .inr (.inl ⟨_, qt, rfl⟩), ?_⟩
  cases qs with
  | nil => exact iteT (fin _ _ (Same.refl _))
  | cons q0 qs =>
    refine iteF ⟨rfl, ?_⟩
    refine ⟨_, rfl, a, _, dx, _, _, rfl, ea, T.cl_Water, T.n_Water__pools, wfs t, t, rfl, ⟨_, qt⟩, fun D hD => lc_it walk_tup (fun k G => Same H G ∧ ∃ ys : List Str, G D = some (.lst (ys.map V.str)) ∧ ys.length = k ∧ ∀ y ∈ ys, y.length ≤ 20000)
      ⟨same_upd hD, [], upd_same, rfl, fun y hy => by cases hy⟩ (fun _ G _ h => Same.seqT h.1 qt) ?_ ?_⟩
    · rintro k x G H' hk ⟨sG, ys, eD, ly, small⟩ ⟨rfl, hx⟩
      obtain ⟨q, eq, rfl⟩ := ref_get hx
      have hk2 : k < (polD (ordD X)).length := by rw [hX.1]; exact (List.getElem?_eq_some_iff.mp eq).1
      have ex := List.getElem?_eq_getElem hk2
      obtain ⟨wy, a1, b, c, d, hq, z, e1, e2⟩ := ((hX.2 k q _ eq ex).same sG).terms hF.l0 (hP.sz.at_ (List.getElem_mem hk2))
      refine ⟨rfl, ?_⟩
      unfold tYes
      refine iteT ⟨_, rfl, q, a1, b, c, d, 60, rfl, hq, z, by decide, fun tx G' ltx s' => ?_⟩
      have eD' := s' _ _ eD
      refine ⟨ys.map V.str, eD', by rw [List.length_map, ly]; exact small1000 (by omega), fun bb o e => ?_, ys ++ [tx], by rw [upd_same, List.map_append]; rfl, by rw [List.length_append, ly]; rfl, fun y hy => ?_⟩
      · rw [upd_ne (ne_of_none e hD)]
        exact s' _ _ (sG _ _ e)
      · rcases List.mem_append.mp hy with hy | hy
        · exact small y hy
        · rw [List.mem_singleton.mp hy]
          exact ltx
    rintro G ⟨sG, ys, eD, ly, small⟩
    rw [List.length_map, ← hX.1] at ly
    have key : ∀ l : List Str, (∀ y ∈ l, y.length ≤ 20000) → (l.map (·.length)).sum ≤ l.length * 20000 := by
      intro l
      induction l with
      | nil => intro _; exact Nat.le_refl _
      | cons x l ih =>
        intro h
        have h1 := h x List.mem_cons_self
        have h2 := ih fun y hy => h y (List.mem_cons_of_mem _ hy)
        rw [List.map_cons, List.sum_cons, List.length_cons, Nat.succ_mul]
        omega
    have big := key ys small
    have lsp : ("\n" : Str).length = 1 := by decide +kernel
    refine ⟨_, D, ys, rfl, rfl, .inl (SqL.of eD), by rw [lsp]; omega, fin _ G sG⟩
end

/-! ### the laws' own comparison of pools -/
theorem lies_far {x y : DD} : liesB x y = decide (2 * (if x.1 * y.2 - y.1 * x.2 < 0 then -(x.1 * y.2 - y.1 * x.2) else x.1 * y.2 - y.1 * x.2) ≤ (y.2 - x.2) * y.2 * x.2) := by
  rw [Bool.eq_iff_iff, liesB_iff, decide_eq_true_iff]
  obtain ⟨a, v⟩ := x
  obtain ⟨b, w⟩ := y
  have e1 : (2 * a - v * v) * w - (2 * b - w * w) * v = 2 * (a * w - b * v) + (w - v) * w * v := by grind
  have e2 : (2 * b + w * w) * v - (2 * a + v * v) * w = (w - v) * w * v - 2 * (a * w - b * v) := by grind
  constructor
  · rintro ⟨h1, h2⟩
    unfold LeftLe at h1
    unfold RightLe at h2
    simp only at h1 h2 ⊢
    split <;> omega
  · intro h
    simp only at h
    refine ⟨?_, ?_⟩
    · show (2 * b - w * w) * v ≤ (2 * a - v * v) * w
      split at h <;> omega
    · show (2 * a + v * v) * w ≤ (2 * b + w * w) * v
      split at h <;> omega
def spIns : Sp := fun vs H Q _ => ∃ (l m : Addr) (ts us : List Addr) (xs ys : List DD), vs = [.ref l, .ref m] ∧ H l = some (.lst (ts.map V.ref)) ∧ H m = some (.lst (us.map V.ref)) ∧ TupsAt H ts xs ∧ TupsAt H us ys ∧ Fine 1 xs ∧ Fine 1 ys ∧ ∀ H', Same H H' → Q (.bl (insB xs ys)) H'
def spEqL : Sp := fun vs H Q _ => ∃ (l m : Addr) (ts us : List Addr) (xs ys : List DD), vs = [.ref l, .ref m] ∧ H l = some (.lst (ts.map V.ref)) ∧ H m = some (.lst (us.map V.ref)) ∧ TupsAt H ts xs ∧ TupsAt H us ys ∧ Fine 1 xs ∧ Fine 1 ys ∧ ∀ H', Same H H' → Q (.bl (decide (xs = ys))) H'
theorem inV_bl {bs : List Bool} : inV (.bl true) (bs.map V.bl) = bs.any id := by
  unfold inV
  rw [List.any_map]
  congr 1
  funext b
  cases b <;> rfl
section
variable {P : Program} {w : World} {K : PySem.W.Frag} {mg : Str → Option Value} {base : Heap}
theorem ok_ins (T : Txt K mg) : FnOk P w K mg base CX0 1 T.f_lw_inside T.d_lw_inside ["_law_one", "_law_other"] spIns := by
  have nd := sc_lw_inside.nd
  refine T.F_lw_inside.ok sc_lw_inside (fun vs H Q E ⟨_, _, _, _, _, _, e, _⟩ => by rw [e]; rfl) (fun cdv A outer s H vs Q E hr h => ?_)
  obtain ⟨l, m, ts, us, xs, ys, rfl, hl, hm, hT, hU, fX, fY, fin⟩ := h
  refine ⟨_, pss_cons (ps_for PassesOwn.never rfl (pi_list (pv 0)) (pg_tup rfl (pgs_cons (pg_name (i := 2) nd rfl (.inl rfl)) (pgs_cons (pg_name (i := 3) nd rfl (.inl rfl)) pgs_nil)))
      (pss_cons (ps_set (i := 4) nd rfl (.inl rfl) (pe_lst pa_nil))
      (C8.pss_cut (ps_for PassesOwn.never rfl (pi_list (pv 1)) (pg_tup rfl (pgs_cons (pg_name (i := 5) nd rfl (.inl rfl)) (pgs_cons (pg_name (i := 6) nd rfl (.inl rfl)) pgs_nil)))
        (pss_cons (ps_set (i := 7) nd rfl (.inl rfl) (pe_callB call_abs (by rfl) T.b_abs (by decide +kernel) (pa_cons (pe_op op_sub (pe_op op_mulW (pv 2) (pv 6)) (pe_op op_mulW (pv 5) (pv 3))) pa_nil)))
        (pss_one (ps_expr (pe_bm PySem.F.plainAttrs_list PySem.F.slot_list_append PySem.F.type_list_append mt_append (pv 4) (pa_cons (pe_cmpR op_le (pe_op op_mulW pe_int (pv 7)) (pe_op op_mulW (pe_op op_mulW (pe_op op_sub (pv 6) (pv 3)) (pv 6)) (pv 3)) (nomark _)) pa_nil))))))
      (pss_one (ps_if (pt_cmpR op_notIn_seq pe_bl (pv 4) (by rfl)) (pss_one (ps_ret pe_bl)) pss_nil)))))
    (pss_one (ps_ret pe_bl)), ?_⟩
  have lU : us.length = ys.length := hU.1.symm
  have fewY := fY.few
  refine ⟨_, rfl, l, rfl, ⟨_, SqL.of hl⟩, for_list (xs := ts.map V.ref) (fun i σ G => Same H G ∧ (∀ (i' : Nat) (x : DD), i' < i → xs[i']? = some x → ∃ y ∈ ys, Lies x y) ∧ ∃ v2 v3 v4 v5 v6 v7 : Option V, σ = [some (.ref l), some (.ref m), v2, v3, v4, v5, v6, v7])
    ⟨Same.refl _, fun i' x h _ => absurd h (Nat.not_lt_zero _), _, _, _, _, _, _, rfl⟩ (fun i σ G _ h => SqL.of (h.1 _ _ hl)) ?_ ?_⟩
  · rintro i x0 σ G hx ⟨sG, done, v2, v3, v4, v5, v6, v7, rfl⟩
    obtain ⟨t, et, rfl⟩ := ref_get hx
    have hi : i < xs.length := by rw [hT.1]; exact (List.getElem?_eq_some_iff.mp et).1
    have ex : xs[i]? = some xs[i] := List.getElem?_eq_getElem hi
    have mx := List.getElem_mem hi
    generalize xs[i] = x at ex mx
    obtain ⟨bx1, bx2⟩ := fX.bn mx
    refine ⟨t, _, rfl, SqT.of (sG _ _ (hT.2 i t x et ex)), rfl, _, _, rfl, _, _, rfl, rfl, Nat.zero_le _, fun p hp => ?_⟩
    have sp := same_upd (o := .lst []) hp
    have pH : ∀ {G' : Hp} {zs : List V}, Same H G' → Same H (upd G' p (.lst zs)) := fun {G' zs} s b o e => by
      rw [upd_ne (fun z => by have := sG _ _ (by rw [z] at e; exact e); rw [hp] at this; cases this)]; exact s _ _ e
    refine ⟨fun σ G' => Same H G' ∧ ∃ (bs : List Bool) (v5 v6 v7 : Option V), σ = [some (.ref l), some (.ref m), some (.int x.1), some (.int x.2), some (.ref p), v5, v6, v7] ∧ G' p = some (.lst (bs.map V.bl)) ∧ bs = ys.map fun y => liesB x y, ?_, ?_⟩
    · refine ⟨_, rfl, m, rfl, ⟨_, SqL.of ((sG.trans sp) _ _ hm)⟩, for_list (xs := us.map V.ref) (fun k σ G' => Same H G' ∧ ∃ (bs : List Bool) (v5 v6 v7 : Option V), σ = [some (.ref l), some (.ref m), some (.int x.1), some (.int x.2), some (.ref p), v5, v6, v7] ∧ G' p = some (.lst (bs.map V.bl)) ∧ bs = (ys.take k).map fun y => liesB x y)
        ⟨sG.trans sp, [], _, _, _, rfl, upd_same, rfl⟩ (fun k σ G' _ h => SqL.of (h.1 _ _ hm)) ?_ ?_⟩
      · rintro k x0 σ G' hx2 ⟨sG', bs, v5, v6, v7, rfl, eb, hbs⟩
        obtain ⟨u, eu, rfl⟩ := ref_get hx2
        have hk : k < ys.length := by rw [hU.1]; exact (List.getElem?_eq_some_iff.mp eu).1
        have ey : ys[k]? = some ys[k] := List.getElem?_eq_getElem hk
        have my := List.getElem_mem hk
        have tk := take_get ey
        generalize ys[k] = y at ey my tk
        obtain ⟨by1, by2⟩ := fY.bn my
        have d1 : Bn 121 (x.1 * y.2 - y.1 * x.2) := ((bx1.mul by2).mono (k := 120) (by decide)).sub ((by1.mul bx2).mono (by decide))
        have d2 : Bn 121 (if x.1 * y.2 - y.1 * x.2 < 0 then -(x.1 * y.2 - y.1 * x.2) else x.1 * y.2 - y.1 * x.2) := by
          unfold Bn at *
          split <;> omega
        have d3 : Bn 61 (y.2 - x.2) := by2.sub bx2
        have d4 : Bn 121 ((y.2 - x.2) * y.2) := (d3.mul by2).mono (by decide)
        refine ⟨u, _, rfl, SqT.of (sG' _ _ (hU.2 k u y eu ey)), rfl, _, _, rfl, _, _, rfl, rfl, ?_⟩
        refine ⟨_, rfl, _, rfl, _, _, rfl, rfl, bd_mulW (bx1.bd (by decide)) (by2.bd (by decide)), _, rfl, _, rfl, _, _, rfl, rfl, bd_mulW (by1.bd (by decide)) (bx2.bd (by decide)), _, _, rfl, rfl, _, rfl, ?_⟩
        refine ⟨_, rfl, .inl ⟨rfl, _, SqL.of eb⟩, _, rfl, _, _, rfl, rfl, bd_mulW (bn2.bd (by decide)) (d2.bd (by decide)), _, rfl, _, rfl, _, _, rfl, rfl, _, rfl, _, _, rfl, rfl, bd_mulW (d3.bd (by decide)) (by2.bd (by decide)), _, rfl, _, _, rfl, rfl, bd_mulW (d4.bd (by decide)) (bx2.bd (by decide)), _, _, rfl, rfl, ?_⟩
        refine ⟨p, _, _, rfl, rfl, eb, by rw [List.length_map, hbs, List.length_map, List.length_take]; exact small1000 (by omega), ?_⟩
        refine ⟨pH sG', bs ++ [liesB x y], _, _, _, rfl, ?_, by rw [tk, List.map_append, hbs]; rfl⟩
        rw [upd_same, List.map_append, lies_far]
        rfl
      · rintro σ G' ⟨sG', bs, v5, v6, v7, rfl, eb, hbs⟩
        rw [List.length_map, lU, List.take_length] at hbs
        exact ⟨sG', bs, _, _, _, rfl, eb, hbs⟩
    · rintro σ G' ⟨sG', bs, v5, v6, v7, rfl, eb, hbs⟩
      refine ⟨_, rfl, p, _, rfl, .inl (SqL.of eb), rfl, ?_, _, rfl, ?_⟩
      · rw [List.all_map]
        exact List.all_eq_true.mpr fun b _ => rfl
      · show (if (!inV (.bl true) (bs.map V.bl)) = true then _ else _)
        rw [inV_bl]
        by_cases c : ∃ y ∈ ys, Lies x y
        · have e : bs.any id = true := by
            obtain ⟨y, hy, ly⟩ := c
            rw [hbs, List.any_map]
            exact List.any_eq_true.mpr ⟨y, hy, liesB_iff.mpr ly⟩
          rw [e]
          refine iteF ⟨sG', fun i' x' h1 h2 => ?_, _, _, _, _, _, _, rfl⟩
          rcases Nat.lt_or_ge i' i with lt | ge
          · exact done i' x' lt h2
          · obtain rfl : i' = i := by omega
            rw [ex] at h2
            cases h2
            exact c
        · have e : bs.any id = false := by
            refine Bool.eq_false_iff.mpr fun z => c ?_
            rw [hbs, List.any_map] at z
            obtain ⟨y, hy, ly⟩ := List.any_eq_true.mp z
            exact ⟨y, hy, liesB_iff.mp ly⟩
          rw [e]
          refine iteT ?_
          rw [← insB_false mx (ys := ys) fun y hy ly => c ⟨y, hy, ly⟩]
          exact fin _ sG'
  · rintro σ G ⟨sG, done, v2, v3, v4, v5, v6, v7, rfl⟩
    rw [List.length_map, ← hT.1] at done
    rw [← insB_true (xs := xs) (ys := ys) fun x hx => ?_]
    · exact fin G sG
    · obtain ⟨i, hi, rfl⟩ := List.mem_iff_getElem.mp hx
      exact done i _ hi (List.getElem?_eq_getElem hi)
theorem ok_eql (T : Txt K mg) : FnOk P w K mg base CX0 1 T.f_lw_equal T.d_lw_equal ["_law_one", "_law_other"] spEqL := by
  have nd := sc_lw_equal.nd
  refine T.F_lw_equal.ok sc_lw_equal (fun vs H Q E ⟨_, _, _, _, _, _, e, _⟩ => by rw [e]; rfl) (fun cdv A outer s H vs Q E hr h => ?_)
  obtain ⟨l, m, ts, us, xs, ys, rfl, hl, hm, hT, hU, fX, fY, fin⟩ := h
  refine ⟨_, pss_cons (ps_if (pt_cmpR op_ne (pe_callB call_len_seq (by rfl) T.b_len PySem.boot_len (pa_cons (pv 0) pa_nil)) (pe_callB call_len_seq (by rfl) T.b_len PySem.boot_len (pa_cons (pv 1) pa_nil)) (nomark _)) (pss_one (ps_ret pe_bl)) pss_nil)
    (pss_cons (ps_for PassesOwn.never rfl (pi_zip (by rfl) T.b_zip (pa_cons (pv 0) (pa_cons (pv 1) pa_nil))) (pg_tup rfl (pgs_cons (pg_tup rfl (pgs_cons (pg_name (i := 2) nd rfl (.inl rfl)) (pgs_cons (pg_name (i := 3) nd rfl (.inl rfl)) pgs_nil))) (pgs_cons (pg_tup rfl (pgs_cons (pg_name (i := 4) nd rfl (.inl rfl)) (pgs_cons (pg_name (i := 5) nd rfl (.inl rfl)) pgs_nil))) pgs_nil)))
      (pss_one (ps_if (PW.pt (pw_or (pt_cmpR op_ne (pv 2) (pv 4) (nomark _)) (pw_or1 (pt_cmpR op_ne (pv 3) (pv 5) (nomark _))))) (pss_one (ps_ret pe_bl)) pss_nil)))
    (pss_one (ps_ret pe_bl))), ?_⟩
  refine ⟨_, rfl, l, _, rfl, .inl (SqL.of hl), _, rfl, m, _, rfl, .inl (SqL.of hm), rfl, _, rfl, ?_⟩
  rw [List.length_map, List.length_map, ← hT.1, ← hU.1]
  by_cases ll : xs.length = ys.length
  · rw [show (!decide (V.int (xs.length : Nat) = V.int (ys.length : Nat))) = false by rw [ll]; simp]
    refine iteF ?_
    have l1 : ts.length = us.length := by rw [← hT.1, ← hU.1]; exact ll
    refine ⟨_, rfl, _, rfl, l, m, _, _, rfl, SqL.of hl, SqL.of hm, for_it (walk_zip (xs := ts.map V.ref) (ys := us.map V.ref) (n := xs.length) (by rw [List.length_map, List.length_map, ← hT.1, ← hU.1, ll, Nat.min_self])) (fun i σ G => Same H G ∧ (∀ (i' : Nat), i' < i → xs[i']? = ys[i']?) ∧ ∃ v2 v3 v4 v5 : Option V, σ = [some (.ref l), some (.ref m), v2, v3, v4, v5])
      ⟨Same.refl _, fun i' h => absurd h (Nat.not_lt_zero _), _, _, _, _, rfl⟩ (fun i σ G _ h => ⟨SqL.of (h.1 _ _ hl), SqL.of (h.1 _ _ hm)⟩) ?_ ?_⟩
    · rintro i x0 σ G G' hi ⟨sG, done, v2, v3, v4, v5, rfl⟩ ⟨tz, a1, a2, rfl, nz, rfl, e1, e2⟩
      obtain ⟨t, et, rfl⟩ := ref_get e1
      obtain ⟨u, eu, rfl⟩ := ref_get e2
      have ex : xs[i]? = some xs[i] := List.getElem?_eq_getElem hi
      have hj : i < ys.length := by rw [← ll]; exact hi
      have ey : ys[i]? = some ys[i] := List.getElem?_eq_getElem hj
      generalize xs[i] = x at ex
      generalize ys[i] = y at ey
      have sz := same_upd (o := .tup [.ref t, .ref u]) nz
      have s2 := sG.trans sz
      have etz : (upd G tz (.tup [.ref t, .ref u])) tz = some (.tup [.ref t, .ref u]) := upd_same
      generalize upd G tz (.tup [.ref t, .ref u]) = G2 at *
      refine ⟨tz, _, rfl, SqT.of etz, rfl, _, _, rfl, t, _, rfl, SqT.of (s2 _ _ (hT.2 i t x et ex)), rfl, _, _, rfl, _, _, rfl, rfl, _, _, rfl, u, _, rfl, SqT.of (s2 _ _ (hU.2 i u y eu ey)), rfl, _, _, rfl, _, _, rfl, rfl, rfl, ?_⟩
      refine ⟨_, rfl, _, rfl, rfl, _, rfl, ?_⟩
      have bad : x ≠ y → Q (.bl false) G2 := fun ne => by
        have : decide (xs = ys) = false := decide_eq_false fun z => ne (by rw [z, ey] at ex; exact (Option.some.inj ex).symm)
        have f := fin G2 s2
        rw [this] at f
        exact f
      by_cases c1 : x.1 = y.1
      · rw [show (!decide (V.int x.1 = V.int y.1)) = false by rw [c1]; simp]
        refine iteF ⟨_, rfl, _, rfl, rfl, _, rfl, ?_⟩
        by_cases c2 : x.2 = y.2
        · rw [show (!decide (V.int x.2 = V.int y.2)) = false by rw [c2]; simp]
          refine iteF ⟨s2, fun i' h => ?_, _, _, _, _, rfl⟩
          rcases Nat.lt_or_ge i' i with lt | ge
          · exact done i' lt
          · obtain rfl : i' = i := by omega
            rw [ex, ey, Prod.ext c1 c2]
        · rw [show (!decide (V.int x.2 = V.int y.2)) = true by simp [c2]]
          exact iteT (bad fun z => c2 (by rw [z]))
      · rw [show (!decide (V.int x.1 = V.int y.1)) = true by simp [c1]]
        exact iteT (iteT (bad fun z => c1 (by rw [z])))
    · rintro σ G ⟨sG, done, v2, v3, v4, v5, rfl⟩
      have : xs = ys := List.ext_getElem? fun i => by
        rcases Nat.lt_or_ge i xs.length with lt | ge
        · exact done i lt
        · rw [List.getElem?_eq_none ge, List.getElem?_eq_none (by omega)]
      have f := fin G sG
      rw [decide_eq_true this] at f
      exact f
  · rw [show (!decide (V.int (xs.length : Nat) = V.int (ys.length : Nat))) = true by simp; omega]
    refine iteT ?_
    have f := fin H (Same.refl _)
    rw [decide_eq_false (fun z => ll (by rw [z]))] at f
    exact f
end

/-! ### all comparisons of two waters -/
def spCmpd (K : PySem.W.Frag) (CW CP C : Addr) : Sp := fun vs H Q _ => ∃ (a b l m : Addr) (ts us : List Addr) (L : Int) (X Y : List DD), vs = [.ref a, .ref b, .ref l, .ref m] ∧ WOf K CW CP C H L a X ∧ WOf K CW CP C H L b Y ∧ Fine L X ∧ Fine L Y ∧ Fine 1 X ∧ Fine 1 Y ∧
  H l = some (.lst (ts.map V.ref)) ∧ H m = some (.lst (us.map V.ref)) ∧ TupsAt H ts (PX X) ∧ TupsAt H us (PX Y) ∧ ∀ H', Same H H' → Q (.bl true) H'
theorem and_not {σ : L2.St} {H : Hp} {Q : VK} {i j : Nat} {c d : Bool} (e : σ[i]? = some (some (.bl c))) (e2 : σ[j]? = some (some (.bl d))) (h : Q (.bl (c && !d)) H) : tAndV (tVar i) (tNotV (tVar j)) σ H Q := by
  refine ⟨_, e, c, rfl, ?_⟩
  cases c with
  | true => exact iteT ⟨_, e2, d, rfl, h⟩
  | false => exact iteF h
section
variable {P : Program} {w : World} {K : PySem.W.Frag} {mg : Str → Option Value} {base : Heap}
theorem ok_cmpd (T : Txt K mg) : FnOk P w K mg base CX0 15 T.f_lw_compared T.d_lw_compared ["_law_one", "_law_other", "_law_mine", "_law_its"] (spCmpd K T.C_Water T.C_Pool T.C_Ratio) := by
  have nd := sc_lw_compared.nd
  refine T.F_lw_compared.ok sc_lw_compared (fun vs H Q E ⟨_, _, _, _, _, _, _, _, _, e, _⟩ => by rw [e]; rfl) (fun cdv A outer s H vs Q E hr h => ?_)
  obtain ⟨a, b, l, m, ts, us, L, X, Y, rfl, hX, hY, fX, fY, gX, gY, hl, hm, hT, hU, fin⟩ := h
  refine ⟨_, pss_cons (ps_par3 (i := 4) (j := 5) (l := 6) rfl nd rfl rfl rfl (by decide) (by decide) (by decide) rfl rfl rfl
      (pa_cons (pe_f (E := fun _ => E0) (ok_ins T) (hr.mono (by decide)) (by rfl) T.g_lw_inside T.F_lw_inside.kp T.B_lw_inside (fun _ => at0) (pa_cons (pv 2) (pa_cons (pv 3) pa_nil)))
      (pa_cons (pe_f (E := fun _ => E0) (ok_ins T) (hr.mono (by decide)) (by rfl) T.g_lw_inside T.F_lw_inside.kp T.B_lw_inside (fun _ => at0) (pa_cons (pv 3) (pa_cons (pv 2) pa_nil)))
      (pa_cons (pe_f (E := fun _ => E0) (ok_eql T) (hr.mono (by decide)) (by rfl) T.g_lw_equal T.F_lw_equal.kp T.B_lw_equal (fun _ => at0) (pa_cons (pv 2) (pa_cons (pv 3) pa_nil))) pa_nil))) (by rfl))
    (pss_cons (ps_if (PW.pt (pw_or (pt_not (pt_val (pe_f (E := fun _ => E0) (ok_says T) (hr.mono (by decide)) (by rfl) T.g_lw_says T.F_lw_says.kp T.B_lw_says (fun _ => at0) (pa_cons (pe_cmpR (leR T (hr.mono (by decide))) (pv 0) (pv 1) (nomark _)) (pa_cons (pv 4) pa_nil)))))
        (pw_or1 (pt_not (pt_val (pe_f (E := fun _ => E0) (ok_says T) (hr.mono (by decide)) (by rfl) T.g_lw_says T.F_lw_says.kp T.B_lw_says (fun _ => at0) (pa_cons (pe_cmpR (opr_cmp (op := .GtE) (E := E0) (fun _ _ => rfl) (besidesW T) T.m_Water_ge_d (ok_wge T) (hr.mono (by decide)) T.B_Water_ge_d (fun _ => at0)) (pv 0) (pv 1) (nomark _)) (pa_cons (pv 5) pa_nil)))))))) (pss_one (ps_ret pe_bl)) pss_nil)
    (pss_cons (ps_if (PW.pt (pw_or (pt_not (pt_val (pe_f (E := fun _ => E0) (ok_says T) (hr.mono (by decide)) (by rfl) T.g_lw_says T.F_lw_says.kp T.B_lw_says (fun _ => at0) (pa_cons (pe_cmpR (ltR T (hr.mono (by decide))) (pv 0) (pv 1) (nomark _)) (pa_cons (pe_and (pv 4) (pe_one (pe_not (pv 6)))) pa_nil)))))
        (pw_or1 (pt_not (pt_val (pe_f (E := fun _ => E0) (ok_says T) (hr.mono (by decide)) (by rfl) T.g_lw_says T.F_lw_says.kp T.B_lw_says (fun _ => at0) (pa_cons (pe_cmpR (opr_cmp (op := .Gt) (E := E0) (fun _ _ => rfl) (besidesW T) T.m_Water_gt_d (ok_wgt T) hr T.B_Water_gt_d (fun _ => at0)) (pv 0) (pv 1) (nomark _)) (pa_cons (pe_and (pv 5) (pe_one (pe_not (pv 6)))) pa_nil)))))))) (pss_one (ps_ret pe_bl)) pss_nil)
    (pss_one (ps_ret (pe_and (pe_f (E := fun _ => E0) (ok_says T) (hr.mono (by decide)) (by rfl) T.g_lw_says T.F_lw_says.kp T.B_lw_says (fun _ => at0) (pa_cons (pe_cmpR (eqR T (hr.mono (by decide))) (pv 0) (pv 1) (nomark _)) (pa_cons (pv 6) pa_nil)))
      (pe_one (pe_f (E := fun _ => E0) (ok_says T) (hr.mono (by decide)) (by rfl) T.g_lw_says T.F_lw_says.kp T.B_lw_says (fun _ => at0) (pa_cons (pe_cmpR (opr_neE (E := E0) (besidesW T) T.ne_Water T.tc_Water.at_.2.2.2 T.m_Water_eq_d (ok_weqD T) (hr.mono (by decide)) T.B_Water_eq_d (fun _ => at0)) (pv 0) (pv 1) (nomark _)) (pa_cons (pe_not (pv 6)) pa_nil))))))))), ?_⟩
  have fXp := gX.pol
  have fYp := gY.pol
  obtain ⟨dx, fx, ea⟩ := hX.insX
  obtain ⟨dy, fy, eb⟩ := hY.insX
  refine ⟨_, rfl, _, rfl, l, m, ts, us, PX X, PX Y, rfl, hl, hm, hT, hU, fXp, fYp, fun H1 s1 => ?_⟩
  refine ⟨_, rfl, _, rfl, m, l, us, ts, PX Y, PX X, rfl, s1 _ _ hm, s1 _ _ hl, hU.same s1, hT.same s1, fYp, fXp, fun H2 s2 => ?_⟩
  have s12 := s1.trans s2
  refine ⟨_, rfl, _, rfl, l, m, ts, us, PX X, PX Y, rfl, s12 _ _ hl, s12 _ _ hm, hT.same s12, hU.same s12, fXp, fYp, fun H3 s3 => ⟨_, _, _, rfl, ?_⟩⟩
  have s13 := s12.trans s3
  have says : ∀ (b : Bool), (b == b) = true := fun b => by cases b <;> rfl
  refine ⟨_, rfl, _, rfl, a, dx, fx, rfl, s13 _ _ ea, .inr ⟨b, dy, fy, rfl, s13 _ _ eb⟩, a, b, L, X, Y, rfl, hX.same s13, hY.same s13, fX, fY, fun H4 s4 => ⟨_, rfl, _, _, rfl, _, rfl, ?_⟩⟩
  rw [says]
  have s14 := s13.trans s4
  refine iteF ⟨_, rfl, _, rfl, a, dx, fx, rfl, s14 _ _ ea, .inr ⟨b, dy, fy, rfl, s14 _ _ eb⟩, a, b, L, X, Y, rfl, hX.same s14, hY.same s14, fX, fY, fun H5 s5 => ⟨_, rfl, _, _, rfl, _, rfl, ?_⟩⟩
  rw [says]
  have s15 := s14.trans s5
  refine iteF ⟨_, rfl, _, rfl, a, dx, fx, rfl, s15 _ _ ea, .inr ⟨b, dy, fy, rfl, s15 _ _ eb⟩, a, b, L, X, Y, rfl, hX.same s15, hY.same s15, fX, fY, fun H6 s6 => and_not rfl rfl ⟨_, _, rfl, _, rfl, ?_⟩⟩
  rw [show (ltB (PX X) (PX Y) == (insB (PX X) (PX Y) && !decide (PX X = PX Y))) = true from says _]
  have s16 := s15.trans s6
  refine iteF ⟨_, rfl, _, rfl, a, dx, fx, rfl, s16 _ _ ea, .inr ⟨b, dy, fy, rfl, s16 _ _ eb⟩, a, b, L, X, Y, rfl, hX.same s16, hY.same s16, fX, fY, fun H7 s7 => and_not rfl rfl ⟨_, _, rfl, _, rfl, ?_⟩⟩
  have sym : decide (PX Y = PX X) = decide (PX X = PX Y) := by
    rw [Bool.eq_iff_iff, decide_eq_true_iff, decide_eq_true_iff]
    exact ⟨Eq.symm, Eq.symm⟩
  rw [show (ltB (PX Y) (PX X) == (insB (PX Y) (PX X) && !decide (PX X = PX Y))) = true by unfold ltB; rw [sym]; exact says _]
  have s17 := s16.trans s7
  refine iteF ⟨_, rfl, _, rfl, a, dx, fx, rfl, s17 _ _ ea, .inr ⟨b, dy, fy, rfl, s17 _ _ eb⟩, a, .ref b, L, X, _, rfl, hX.same s17, fX, .inl ⟨b, Y, rfl, hY.same s17, fY, rfl⟩, fun H8 s8 => ⟨_, rfl, _, _, rfl, _, rfl, ?_⟩⟩
  rw [says]
  have s18 := s17.trans s8
  refine iteT ⟨_, rfl, _, rfl, a, dx, fx, b, dy, fy, rfl, rfl, s18 _ _ ea, s18 _ _ eb, a, .ref b, L, X, _, rfl, hX.same s18, fX, .inl ⟨b, Y, rfl, hY.same s18, fY, rfl⟩, fun H9 s9 => ⟨_, rfl, _, rfl, _, rfl, _, _, rfl, ?_⟩⟩
  rw [says]
  exact fin H9 (s18.trans s9)
end

/-! ### many pools of which one differs -/
def spMany : Sp := fun vs H Q _ => ∃ (p : Addr), vs = [.ref p] ∧ BoxAt H p ∧ ∀ H', BoxAt H' p → But p H H' → Q (.bl true) H'
theorem TupsAt.app {H : Hp} {ts us : List Addr} {ds es : List DD} (h : TupsAt H ts ds) (g : TupsAt H us es) : TupsAt H (ts ++ us) (ds ++ es) := by
  refine ⟨by rw [List.length_append, List.length_append, h.1, g.1], fun i q x e1 e2 => ?_⟩
  rcases Nat.lt_or_ge i ts.length with c | c
  · rw [List.getElem?_append_left c] at e1
    rw [List.getElem?_append_left (by rw [h.1]; exact c)] at e2
    exact h.2 i q x e1 e2
  · rw [List.getElem?_append_right c] at e1
    rw [List.getElem?_append_right (by rw [h.1]; exact c), h.1] at e2
    exact g.2 _ q x e1 e2
theorem TupsAt.take {H : Hp} {ts : List Addr} {ds : List DD} (h : TupsAt H ts ds) (k : Nat) : TupsAt H (ts.take k) (ds.take k) := by
  refine ⟨by rw [List.length_take, List.length_take, h.1], fun i w X e1 e2 => ?_⟩
  rw [List.getElem?_take] at e1 e2
  by_cases c : i < k
  · rw [if_pos c] at e1 e2; exact h.2 i w X e1 e2
  · rw [if_neg c] at e1; cases e1
theorem TupsAt.drop {H : Hp} {ts : List Addr} {ds : List DD} (h : TupsAt H ts ds) (k : Nat) : TupsAt H (ts.drop k) (ds.drop k) := by
  refine ⟨by rw [List.length_drop, List.length_drop, h.1], fun i w X e1 e2 => ?_⟩
  rw [List.getElem?_drop] at e1 e2
  exact h.2 _ w X e1 e2
theorem DropsOk.sub {ds es : List DD} (h : DropsOk ds) (s : ∀ x ∈ es, x ∈ ds) : DropsOk es := fun x hx => h x (s x hx)
section
variable {P : Program} {w : World} {K : PySem.W.Frag} {mg : Str → Option Value} {base : Heap}
theorem ok_many (T : Txt K mg) : FnOk P w K mg base CX0 16 T.f_lw_many_compared T.d_lw_many_compared ["_law_box_here"] spMany := by
  have nd := sc_lw_many_compared.nd
  refine T.F_lw_many_compared.ok sc_lw_many_compared (fun vs H Q E ⟨_, e, _⟩ => by rw [e]; rfl) (fun cdv A outer s H vs Q E hr h => ?_)
  obtain ⟨p, rfl, hb, fin⟩ := h
  refine ⟨_, pss_cons (ps_par (i := 1) (j := 2) rfl nd rfl rfl (by decide) rfl rfl (pa_cons (pe_op op_add pe_int (pe_f (E := fun _ => E0) (ok_take T) (hr.mono (by decide)) (by rfl) T.g_lw_take T.F_lw_take.kp T.B_lw_take (fun _ => at0) (pa_cons (pv 0) (pa_cons pe_int pa_nil)))) (pa_cons pe_int pa_nil)) (by rfl))
    (pss_cons (ps_setLc (i := 3) (own := [("_law_place", 4)]) (g := gName 4) (tt := tYes) (te := tTup (tCons (tOp (rI CMulW fun i j => .int (i * j)) (tC (.int 20)) (tVar 4)) (tCons (tOp (rI0 fun i j => .int (i + j)) (tC (.int 3)) (tOp (rI CMulW fun i j => .int (i * j)) (tC (.int 2)) (tCl spTake (fun _ => E0) (tCons (tVar 0) (tCons (tC (.int 4)) tNil))))) tNil))) rfl nd rfl rfl (sw_true rfl rfl rfl (by decide +kernel))
        (pi_range1 (by rfl) T.b_range (pa_cons (pv 1) pa_nil))
        (blkOk_by (own := [("_law_place", 4)]) (N := ["_law_box_here", "_law_many", "_law_at", "_law_drops", "_law_place", "_law_spot", "_law_volume", "_law_near", "_law_others", "_law_one", "_law_other"]) (sc := defScope s_lw_many_compared) (by decide +kernel)) (fun _ _ _ _ _ => pg_name (i := 4) nd rfl (Or.inl rfl)) (fun _ _ _ _ _ => pts_nil)
        (fun _ _ _ _ _ => pe_tup (by exact (pa_cons (pe_op op_mulW pe_int (pv 4)) (pa_cons (pe_op op_add pe_int (pe_op op_mulW pe_int (pe_f (E := fun _ => E0) (ok_take T) (hr.mono (by decide)) (by rfl) T.g_lw_take T.F_lw_take.kp T.B_lw_take (fun _ => at0) (pa_cons (pv 0) (pa_cons pe_int pa_nil))))) pa_nil)))))
    (pss_cons (ps_set (i := 2) nd rfl (.inl rfl) (pe_ix ix_list (pe_lst (pa_cons (pe_op op_sub (pv 1) pe_int) (pa_cons (pe_f (E := fun _ => E0) (ok_take T) (hr.mono (by decide)) (by rfl) T.g_lw_take T.F_lw_take.kp T.B_lw_take (fun _ => at0) (pa_cons (pv 0) (pa_cons (pv 1) pa_nil))) pa_nil))) (pe_f (E := fun _ => E0) (ok_take T) (hr.mono (by decide)) (by rfl) T.g_lw_take T.F_lw_take.kp T.B_lw_take (fun _ => at0) (pa_cons (pv 0) (pa_cons pe_int pa_nil))) (fun _ _ => rfl)))
    (pss_cons (ps_asg (pe_ix ix_list (pv 3) (pv 2) (fun _ _ => rfl)) (pg_tup rfl (pgs_cons (pg_name (i := 5) nd rfl (.inl rfl)) (pgs_cons (pg_name (i := 6) nd rfl (.inl rfl)) pgs_nil))))
    (pss_cons (ps_for PassesOwn.never rfl (pi_tup (pe_tup (by exact (pa_cons (pe_lst (pa_cons (pe_tup (by exact (pa_cons (pe_op op_add (pv 5) pe_int) (pa_cons (pv 6) pa_nil)))) pa_nil)) (pa_cons (pe_lst (pa_cons (pe_tup (by exact (pa_cons (pv 5) (pa_cons (pe_op op_add (pv 6) pe_int) pa_nil)))) pa_nil))
          (pa_cons (pe_lst (pa_cons (pe_tup (by exact (pa_cons (pv 5) (pa_cons (pe_op op_sub (pv 6) pe_int) pa_nil)))) pa_nil)) (pa_cons (pe_lst (pa_cons (pe_tup (by exact (pa_cons (pv 5) (pa_cons (pv 6) pa_nil)))) pa_nil)) (pa_cons (pe_lst pa_nil) pa_nil))))))) ) (pg_name (i := 7) nd rfl (.inl rfl))
        (pss_cons (ps_set (i := 8) nd rfl (.inl rfl) (pe_op op_cat (pe_op op_cat (pe_slice sl_list (pv 3) po_none (po_some (pv 2))) (pv 7)) (pe_slice sl_list (pv 3) (po_some (pe_op op_add (pv 2) pe_int)) po_none)))
        (pss_cons (ps_par (i := 9) (j := 10) rfl nd rfl rfl (by decide) rfl rfl (pa_cons (pe_f (E := fun _ => E0) (ok_lwater T) (hr.mono (by decide)) (by rfl) T.g_lw_water T.F_lw_water.kp T.B_lw_water (fun _ => at0) (pa_cons (pv 0) (pa_cons pe_int (pa_cons (pv 3) pa_nil))))
            (pa_cons (pe_f (E := fun _ => E0) (ok_lwater T) (hr.mono (by decide)) (by rfl) T.g_lw_water T.F_lw_water.kp T.B_lw_water (fun _ => at0) (pa_cons (pv 0) (pa_cons pe_int (pa_cons (pv 8) pa_nil)))) pa_nil)) (by rfl))
        (pss_one (ps_if (pt_not (pt_val (pe_f (E := fun _ => E0) (ok_cmpd T) hr (by rfl) T.g_lw_compared T.F_lw_compared.kp T.B_lw_compared (fun _ => at0) (pa_cons (pv 9) (pa_cons (pv 10) (pa_cons (pe_f (E := fun _ => E0) (ok_neigh T) (hr.mono (by decide)) (by rfl) T.g_lw_neighbours T.F_lw_neighbours.kp T.B_lw_neighbours (fun _ => at0) (pa_cons (pv 3) pa_nil))
            (pa_cons (pe_f (E := fun _ => E0) (ok_neigh T) (hr.mono (by decide)) (by rfl) T.g_lw_neighbours T.F_lw_neighbours.kp T.B_lw_neighbours (fun _ => at0) (pa_cons (pv 8) pa_nil)) pa_nil))))))) (pss_one (ps_ret pe_bl)) pss_nil)))))
    (pss_one (ps_ret pe_bl)))))), ?_⟩
  refine ⟨_, rfl, p, 24, rfl, hb, by decide, by decide, fun d n sd c d0 d1 hb1 => ⟨_, _, rfl, rfl, _, _, rfl, ?_⟩⟩
  have k1 : But p H (upd H p (BoxL n sd c)) := But.upd
  generalize upd H p (BoxL n sd c) = H1 at *
  obtain ⟨k, rfl⟩ : ∃ k : Nat, d = (k : Int) := ⟨d.toNat, by omega⟩
  have k24 : k < 24 := by omega
  have en : (17 + (k : Int)).toNat = 17 + k := by omega
  refine ⟨_, rfl, _, rfl, by omega, by omega, fun D hD => ?_⟩
  rw [en]
  have nDp : D ≠ p := box_ne hb1 hD
  refine lc_range (lo := 0) (n := 17 + k) (fun i G => (BoxAt G p ∧ But p H1 G) ∧ ∃ (ts : List Addr) (ds : List DD), ts.length = i ∧ G D = some (.lst (ts.map V.ref)) ∧ TupsAt G ts ds ∧ ∀ x ∈ ds, 3 ≤ x.2 ∧ x.2 ≤ 9 ∧ x.1.natAbs ≤ 1000)
    ⟨⟨hb1.same (same_upd hD), But.of (same_upd hD)⟩, [], [], rfl, upd_same, ⟨rfl, fun i t x e => by simp at e⟩, fun x hx => by cases hx⟩ ?_ ?_
  · rintro i G hi ⟨⟨hbG, kG⟩, ts, ds, lt, eD, hT, ok⟩
    refine ⟨rfl, ?_⟩
    unfold tYes
    have small : ∀ {z : Int}, z.natAbs ≤ 1000 → Bd z := fun h => (show Bn 10 _ from Nat.lt_of_le_of_lt h (by decide)).bd (by decide)
    refine iteT ⟨_, rfl, _, _, rfl, rfl, bd_mulW (small (by decide)) (small (by omega)), _, rfl, p, 4, rfl, hbG, by decide, by decide, fun d n sd c d0 d1 hb2 => ⟨_, _, rfl, rfl, bd_mulW (small (by decide)) (small (by omega)), _, _, rfl, rfl, (by show 2 ≤ sizeLine; decide), fun t ht => ?_⟩⟩
    have k2 : But p G (upd G p (BoxL n sd c)) := But.upd
    have eD2 := k2 _ _ nDp eD
    have hT2 := hT.but hbG k2
    have kG2 := kG.trans k2
    generalize upd G p (BoxL n sd c) = G2 at *
    have st := same_upd (o := .tup [.int (20 * (0 + (i : Int))), .int (3 + 2 * d)]) ht
    have eD3 := st _ _ eD2
    have hT3 := hT2.same st
    have et : (upd G2 t (.tup [.int (20 * (0 + (i : Int))), .int (3 + 2 * d)])) t = some (.tup [.int (20 * (0 + (i : Int))), .int (3 + 2 * d)]) := upd_same
    have hb3 := hb2.same st
    have kG3 := kG2.trans (But.of st)
    generalize upd G2 t (.tup [.int (20 * (0 + (i : Int))), .int (3 + 2 * d)]) = G3 at *
    have bt : But D G3 (upd G3 D (.lst (ts.map V.ref ++ [.ref t]))) := But.upd
    refine ⟨_, eD3, by rw [List.length_map, lt]; exact small1000 (by omega), ⟨hb3.butL (Ne.symm nDp) bt, fun bb o n e => ?_⟩, ts ++ [t], ds ++ [(20 * (0 + (i : Int)), 3 + 2 * d)], by rw [List.length_append, lt]; rfl, by rw [upd_same, List.map_append]; rfl, (hT3.snoc (x := (20 * (0 + (i : Int)), 3 + 2 * d)) et).butL eD3 bt, fun x hx => ?_⟩
    · rw [upd_ne (ne_of_none e hD)]
      exact kG3 _ _ n e
    · rcases List.mem_append.mp hx with hx | hx
      · exact ok x hx
      · rw [List.mem_singleton.mp hx]
        refine ⟨?_, ?_, ?_⟩
        · show 3 ≤ 3 + 2 * d; omega
        · show 3 + 2 * d ≤ 9; omega
        · show (20 * (0 + (i : Int))).natAbs ≤ 1000; omega
  rintro G1 ⟨⟨hbG, kG⟩, ts, ds, lts, eD, hT, ok⟩
  have lds : ds.length = 17 + k := by rw [hT.1, lts]
  have okD : DropsOk ds := fun x hx => by
    obtain ⟨h1, h2, h3⟩ := ok x hx
    exact ⟨by omega, by omega, by omega⟩
  refine ⟨_, rfl, _, _, rfl, rfl, _, rfl, _, rfl, p, 17 + (k : Int), rfl, hbG, by omega, by omega, fun d n sd c d0 d1 hb2 => ⟨(by show 2 ≤ sizeLine; decide), fun li hli => ?_⟩⟩
  have k2 : But p G1 (upd G1 p (BoxL n sd c)) := But.upd
  have eD2 := k2 _ _ nDp eD
  have hT2 := hT.but hbG k2
  have kG2 := k1.trans (kG.trans k2)
  generalize upd G1 p (BoxL n sd c) = G2 at *
  have sl := same_upd (o := .lst [.int (17 + (k : Int) - 1), .int d]) hli
  have eli : (upd G2 li (.lst [.int (17 + (k : Int) - 1), .int d])) li = some (.lst [.int (17 + (k : Int) - 1), .int d]) := upd_same
  have nli : li ≠ p := box_ne hb2 hli
  have eD3 := sl _ _ eD2
  have hT3 := hT2.same sl
  have hb3 := hb2.same sl
  have kG3 := kG2.trans (But.of sl)
  generalize upd G2 li (.lst [.int (17 + (k : Int) - 1), .int d]) = G3 at *
  refine ⟨_, rfl, p, 2, rfl, hb3, by decide, by decide, fun d2 n sd c e0 e1 hb4 => ?_⟩
  have k4 : But p G3 (upd G3 p (BoxL n sd c)) := But.upd
  have eli4 := k4 _ _ nli eli
  have eD4 := k4 _ _ nDp eD3
  have hT4 := hT3.but hb3 k4
  have kG4 := kG3.trans k4
  generalize upd G3 p (BoxL n sd c) = G4 at *
  obtain ⟨v, hv, z, rfl, z0, z1⟩ := menuL (xs := [.int (17 + (k : Int) - 1), .int d]) (p := fun v => ∃ z : Int, v = .int z ∧ 0 ≤ z ∧ z < 17 + k) (fun x hx => by
    simp only [List.mem_cons, List.not_mem_nil, or_false] at hx
    rcases hx with rfl | rfl
    · exact ⟨_, rfl, by omega, by omega⟩
    · exact ⟨_, rfl, d0, d1⟩) e0 e1
  refine ⟨li, _, d2, .int z, rfl, rfl, SqL.of eli4, hv, ?_⟩
  obtain ⟨j, rfl⟩ : ∃ j : Nat, z = (j : Int) := ⟨z.toNat, by omega⟩
  have hj : j < ts.length := by omega
  have et := List.getElem?_eq_getElem hj
  generalize ts[j] = t at et
  have hjd : j < ds.length := by omega
  have ed := List.getElem?_eq_getElem hjd
  have md := List.getElem_mem hjd
  generalize ds[j] = y at ed md
  obtain ⟨y1, y2, y3⟩ := ok y md
  refine ⟨_, rfl, _, rfl, D, _, j, .ref t, rfl, rfl, SqL.of eD4, atI_nat (get_ref et), t, _, rfl, SqT.of (hT4.2 j t y et ed), rfl, _, _, rfl, _, _, rfl, rfl, ?_⟩
  -- the five lists
  refine ⟨_, rfl, _, _, rfl, rfl, _, rfl, (by show 2 ≤ sizeLine; decide), fun t0 ht0 => ⟨(by show 1 ≤ sizeLine; decide), fun n0 hn0 => ?_⟩⟩
  have q0 := same_upd (o := .tup [.int (y.1 + 1), .int y.2]) ht0
  have m0 : (upd G4 t0 (.tup [.int (y.1 + 1), .int y.2])) t0 = some (.tup [.int (y.1 + 1), .int y.2]) := upd_same
  have r0 := same_upd (o := .lst [.ref t0]) hn0
  have u0 : (upd (upd G4 t0 (.tup [.int (y.1 + 1), .int y.2])) n0 (.lst [.ref t0])) n0 = some (.lst [.ref t0]) := upd_same
  have m0 := r0 _ _ m0
  have S0 := q0.trans r0
  generalize upd (upd G4 t0 (.tup [.int (y.1 + 1), .int y.2])) n0 (.lst [.ref t0]) = K0 at *
  refine ⟨_, rfl, _, rfl, _, _, rfl, rfl, (by show 2 ≤ sizeLine; decide), fun t1 ht1 => ⟨(by show 1 ≤ sizeLine; decide), fun n1 hn1 => ?_⟩⟩
  have q1 := same_upd (o := .tup [.int y.1, .int (y.2 + 2)]) ht1
  have m1 : (upd K0 t1 (.tup [.int y.1, .int (y.2 + 2)])) t1 = some (.tup [.int y.1, .int (y.2 + 2)]) := upd_same
  have r1 := same_upd (o := .lst [.ref t1]) hn1
  have u1 : (upd (upd K0 t1 (.tup [.int y.1, .int (y.2 + 2)])) n1 (.lst [.ref t1])) n1 = some (.lst [.ref t1]) := upd_same
  have m1 := r1 _ _ m1
  have S1 := q1.trans r1
  have m0 := S1 _ _ m0; have u0 := S1 _ _ u0
  have S0 := S0.trans S1
  generalize upd (upd K0 t1 (.tup [.int y.1, .int (y.2 + 2)])) n1 (.lst [.ref t1]) = K1 at *
  refine ⟨_, rfl, _, rfl, _, _, rfl, rfl, (by show 2 ≤ sizeLine; decide), fun t2 ht2 => ⟨(by show 1 ≤ sizeLine; decide), fun n2 hn2 => ?_⟩⟩
  have q2 := same_upd (o := .tup [.int y.1, .int (y.2 - 2)]) ht2
  have m2 : (upd K1 t2 (.tup [.int y.1, .int (y.2 - 2)])) t2 = some (.tup [.int y.1, .int (y.2 - 2)]) := upd_same
  have r2 := same_upd (o := .lst [.ref t2]) hn2
  have u2 : (upd (upd K1 t2 (.tup [.int y.1, .int (y.2 - 2)])) n2 (.lst [.ref t2])) n2 = some (.lst [.ref t2]) := upd_same
  have m2 := r2 _ _ m2
  have S2 := q2.trans r2
  have m0 := S2 _ _ m0; have u0 := S2 _ _ u0; have m1 := S2 _ _ m1; have u1 := S2 _ _ u1
  have S0 := S0.trans S2
  generalize upd (upd K1 t2 (.tup [.int y.1, .int (y.2 - 2)])) n2 (.lst [.ref t2]) = K2 at *
  refine ⟨_, rfl, _, rfl, (by show 2 ≤ sizeLine; decide), fun t3 ht3 => ⟨(by show 1 ≤ sizeLine; decide), fun n3 hn3 => ?_⟩⟩
  have q3 := same_upd (o := .tup [.int y.1, .int y.2]) ht3
  have m3 : (upd K2 t3 (.tup [.int y.1, .int y.2])) t3 = some (.tup [.int y.1, .int y.2]) := upd_same
  have r3 := same_upd (o := .lst [.ref t3]) hn3
  have u3 : (upd (upd K2 t3 (.tup [.int y.1, .int y.2])) n3 (.lst [.ref t3])) n3 = some (.lst [.ref t3]) := upd_same
  have m3 := r3 _ _ m3
  have S3 := q3.trans r3
  have m0 := S3 _ _ m0; have u0 := S3 _ _ u0; have m1 := S3 _ _ m1; have u1 := S3 _ _ u1; have m2 := S3 _ _ m2; have u2 := S3 _ _ u2
  have S0 := S0.trans S3
  generalize upd (upd K2 t3 (.tup [.int y.1, .int y.2])) n3 (.lst [.ref t3]) = K3 at *
  refine ⟨Nat.zero_le _, fun n4 hn4 => ⟨(by show 5 ≤ sizeLine; decide), fun tp htp => ?_⟩⟩
  have S4 := same_upd (o := .lst []) hn4
  have u4 : (upd K3 n4 (.lst [])) n4 = some (.lst []) := upd_same
  have S5 := same_upd (o := .tup [.ref n0, .ref n1, .ref n2, .ref n3, .ref n4]) htp
  have etp : (upd (upd K3 n4 (.lst [])) tp (.tup [.ref n0, .ref n1, .ref n2, .ref n3, .ref n4])) tp = some (.tup [.ref n0, .ref n1, .ref n2, .ref n3, .ref n4]) := upd_same
  have u4 := S5 _ _ u4
  have S45 := S4.trans S5
  have m0 := S45 _ _ m0; have u0 := S45 _ _ u0; have m1 := S45 _ _ m1; have u1 := S45 _ _ u1; have m2 := S45 _ _ m2; have u2 := S45 _ _ u2; have m3 := S45 _ _ m3; have u3 := S45 _ _ u3
  have S0 := S0.trans S45
  generalize upd (upd K3 n4 (.lst [])) tp (.tup [.ref n0, .ref n1, .ref n2, .ref n3, .ref n4]) = K5 at *
  have one : ∀ {u : Addr} {a b : Int}, K5 u = some (.tup [.int a, .int b]) → TupsAt K5 [u] [(a, b)] := fun {u a b} e => ⟨rfl, fun i q x e1 e2 => by
    rcases i with _ | i
    · cases e1; cases e2; exact e
    · simp at e1⟩
  have near : ∀ (k : Nat) (u : Addr), [n0, n1, n2, n3, n4][k]? = some u → ∃ (us : List Addr) (es : List DD), K5 u = some (.lst (us.map V.ref)) ∧ TupsAt K5 us es ∧ DropsOk es ∧ es.length ≤ 1 := fun k u e => by
    have dk : ∀ {a b : Int}, 0 < b → b ≤ 11 → a.natAbs ≤ 1001 → DropsOk [(a, b)] := fun {a b} h1 h2 h3 x hx => by
      rw [List.mem_singleton.mp hx]
      exact ⟨h1, by show b ≤ 5000; omega, by show a.natAbs ≤ 700000000; omega⟩
    rcases k with _ | _ | _ | _ | _ | k
    · cases e; exact ⟨[t0], _, u0, one m0, dk (by omega) (by omega) (by omega), Nat.le_refl _⟩
    · cases e; exact ⟨[t1], _, u1, one m1, dk (by omega) (by omega) (by omega), Nat.le_refl _⟩
    · cases e; exact ⟨[t2], _, u2, one m2, dk (by omega) (by omega) (by omega), Nat.le_refl _⟩
    · cases e; exact ⟨[t3], _, u3, one m3, dk (by omega) (by omega) (by omega), Nat.le_refl _⟩
    · cases e; exact ⟨[], [], u4, ⟨rfl, fun i q x e => by simp at e⟩, (show DropsOk [] from fun x hx => by cases hx), Nat.zero_le _⟩
    · simp at e
  have hb5 := hb4.same S0
  have eD5 := S0 _ _ eD4
  have hT5 := hT4.same S0
  have kG5 := kG4.trans (But.of S0)
  refine ⟨tp, rfl, ⟨_, SqT.of etp⟩, for_tup (xs := [n0, n1, n2, n3, n4].map V.ref) (fun i σ G => (BoxAt G p ∧ But p K5 G) ∧ ∃ v7 v8 v9 v10 : Option V, σ = [some (.ref p), some (.int (17 + (k : Int))), some (.int (j : Nat)), some (.ref D), none, some (.int y.1), some (.int y.2), v7, v8, v9, v10])
    ⟨⟨hb5, But.of (Same.refl _)⟩, _, _, _, _, rfl⟩ (fun i σ G _ h => SqT.of (tup_but etp hb5 h.1.2)) ?_ ?_⟩
  · rintro i x0 σ G hx ⟨⟨hb, kK⟩, v7, v8, v9, v10, rfl⟩
    obtain ⟨u, eu, rfl⟩ := ref_get hx
    obtain ⟨us, es, enl, hEs, okE, lE⟩ := near i u eu
    have nup : u ≠ p := fun z => by
      obtain ⟨_, _, _, e, _⟩ := hb5
      rw [← z, enl] at e
      unfold BoxL at e
      injection e with e
      injection e with e
      rcases us with _ | ⟨u', us⟩
      · cases e
      · injection e with e _; cases e
    have enl2 := kK _ _ nup enl
    have hEs2 := hEs.but hb5 kK
    have eD6 := kK _ _ nDp eD5
    have hT6 := hT5.but hb5 kK
    have ln : (ts.map V.ref).length = ts.length := List.length_map _
    have lt : ∀ n : Nat, n ≤ 2000 → n ≤ sizeLine := fun n h => Nat.le_trans h (by rw [sizeLine_eq]; decide)
    have lu : us.length ≤ 1 := by rw [← hEs.1]; exact lE
    refine ⟨_, rfl, _, rfl, _, rfl, D, _, rfl, SqL.of eD6, fun a1 ha1 => ?_⟩
    have g1 := same_upd (o := .lst (cutV (ts.map V.ref) none (some (j : Int)))) ha1
    have w1 : (upd G a1 (.lst (cutV (ts.map V.ref) none (some (j : Int))))) a1 = some (.lst ((ts.map V.ref).take j)) := by rw [upd_same, cut_to (by omega)]
    generalize upd G a1 (.lst (cutV (ts.map V.ref) none (some (j : Int)))) = G1 at *
    refine ⟨_, rfl, a1, u, _, _, rfl, rfl, w1, g1 _ _ enl2, lt _ (by rw [List.length_take, ln, List.length_map]; show min j _ + _ ≤ _; omega), fun a3 ha3 => ?_⟩
    have g3 := same_upd (o := .lst ((ts.map V.ref).take j ++ us.map V.ref)) ha3
    have w3 : (upd G1 a3 (.lst ((ts.map V.ref).take j ++ us.map V.ref))) a3 = some (.lst ((ts.map V.ref).take j ++ us.map V.ref)) := upd_same
    generalize upd G1 a3 (.lst ((ts.map V.ref).take j ++ us.map V.ref)) = G3 at *
    have s13 := g1.trans g3
    refine ⟨_, rfl, _, rfl, _, _, rfl, rfl, _, rfl, D, _, rfl, SqL.of (s13 _ _ eD6), fun a4 ha4 => ?_⟩
    have ec : cutV (ts.map V.ref) (some ((j : Int) + 1)) none = (ts.map V.ref).drop (j + 1) := by
      rw [show ((j : Int) + 1) = ((j + 1 : Nat) : Int) by omega]
      exact cut_from (by omega)
    have g4 := same_upd (o := .lst (cutV (ts.map V.ref) (some ((j : Int) + 1)) none)) ha4
    have w4 : (upd G3 a4 (.lst (cutV (ts.map V.ref) (some ((j : Int) + 1)) none))) a4 = some (.lst ((ts.map V.ref).drop (j + 1))) := by rw [upd_same, ec]
    generalize upd G3 a4 (.lst (cutV (ts.map V.ref) (some ((j : Int) + 1)) none)) = G4 at *
    refine ⟨a3, a4, _, _, rfl, rfl, g4 _ _ w3, w4, lt _ (by rw [List.length_append, List.length_take, List.length_drop, ln, List.length_map]; show min j _ + _ + _ ≤ _; omega), fun a5 ha5 => ?_⟩
    have g5 := same_upd (o := .lst ((ts.map V.ref).take j ++ us.map V.ref ++ (ts.map V.ref).drop (j + 1))) ha5
    have w5 : (upd G4 a5 (.lst ((ts.map V.ref).take j ++ us.map V.ref ++ (ts.map V.ref).drop (j + 1)))) a5 = some (.lst ((ts.take j ++ us ++ ts.drop (j + 1)).map V.ref)) := by rw [upd_same, List.map_append, List.map_append, List.map_take, List.map_drop]
    have s15 := s13.trans (g4.trans g5)
    have hb6 := hb.same s15
    have na5 : a5 ≠ p := box_ne (hb.same (s13.trans g4)) ha5
    generalize upd G4 a5 (.lst ((ts.map V.ref).take j ++ us.map V.ref ++ (ts.map V.ref).drop (j + 1))) = G5 at *
    have hO : TupsAt G5 (ts.take j ++ us ++ ts.drop (j + 1)) (ds.take j ++ es ++ ds.drop (j + 1)) := (((hT6.same s15).take j).app (hEs2.same s15)).app ((hT6.same s15).drop (j + 1))
    have okO : DropsOk (ds.take j ++ es ++ ds.drop (j + 1)) := fun x hx => by
      rcases List.mem_append.mp hx with hx | hx
      · rcases List.mem_append.mp hx with hx | hx
        · exact okD x (List.mem_of_mem_take hx)
        · exact okE x hx
      · exact okD x (List.mem_of_mem_drop hx)
    have lO : (ds.take j ++ es ++ ds.drop (j + 1)).length ≤ 50 := by
      rw [List.length_append, List.length_append, List.length_take, List.length_drop]
      omega
    have lD : ds.length ≤ 50 := by omega
    generalize ts.take j ++ us ++ ts.drop (j + 1) = os at *
    generalize ds.take j ++ es ++ ds.drop (j + 1) = od at *
    have eD7 := s15 _ _ eD6
    have hT7 := hT6.same s15
    refine ⟨_, rfl, _, rfl, p, D, 2, ts, ds, rfl, hb6, eD7, nDp, hT7, okD, lD, by decide, by decide, fun wa G6 hb7 k7 hwa => ?_⟩
    have w6 := k7 _ _ na5 w5
    have hO6 := hO.but hb6 k7
    refine ⟨_, rfl, _, rfl, p, a5, 2, os, od, rfl, hb7, w6, na5, hO6, okO, lO, by decide, by decide, fun wb G7 hb8 k8 hwb => ⟨_, _, rfl, ?_⟩⟩
    have hwa8 : WOf K T.C_Water T.C_Pool T.C_Ratio G7 2 wa (ds.map mom) := by
      obtain ⟨_, _, _, ebx, _⟩ := id hb7
      obtain ⟨rs, h1, h2⟩ := hwa
      exact ⟨rs, h1.butL ebx k8, h2.butL ebx k8⟩
    have eD8 := k8 _ _ nDp (k7 _ _ nDp eD7)
    have hT8 := (hT7.but hb6 k7).but hb7 k8
    have w8 := k8 _ _ na5 w6
    have hO8 := hO6.but hb7 k8
    refine ⟨_, rfl, _, rfl, _, rfl, D, ts, ds, rfl, eD8, hT8, okD, lD, fun l1 G8 us1 s8 hl1 el1 hU1 => ?_⟩
    refine ⟨_, rfl, a5, os, od, rfl, s8 _ _ w8, hO8.same s8, okO, lO, fun l2 G9 us2 s9 hl2 el2 hU2 => ?_⟩
    have s89 := s8.trans s9
    have f2 : ∀ {ds : List DD}, DropsOk ds → ds.length ≤ 50 → Fine 2 (ds.map mom) ∧ Fine 1 (ds.map mom) := fun h l => ⟨fine_drops (by decide) (by decide) l h, fine_drops (by decide) (by decide) l h⟩
    refine ⟨wa, wb, l1, l2, us1, us2, 2, _, _, rfl, hwa8.same s89, hwb.same s89, (f2 okD lD).1, (f2 okO lO).1, (f2 okD lD).2, (f2 okO lO).2, s9 _ _ el1, el2, hU1.same s9, hU2, fun G10 s10 => ⟨_, rfl, iteF ?_⟩⟩
    have sf := s89.trans s10
    exact ⟨⟨hb8.same sf, ((kK.trans (But.of s15)).trans (k7.trans k8)).trans (But.of sf)⟩, _, _, _, _, rfl⟩
  · rintro σ G ⟨⟨hb, kK⟩, v7, v8, v9, v10, rfl⟩
    exact fin G hb (kG5.trans kK)
end

/-! ### the law -/
theorem isw_pre2 {CP C : Addr} {G : Hp} {L : Int} {rs us : List Addr} {xs : List DD} (hM : MwsAt CP C G L rs xs) (L0 : 0 < L) (sz : Szs 100 L xs) (hT : TupsAt G us xs) (few : rs.length ≤ 1000) :
    ∃ ps : List Qd, PlsAt CP C G 100 rs ps ∧ us.length = rs.length ∧ rs.length ≤ 1000000 ∧ ∀ (i : Nat) (z : Qd) (t : Addr), ps[i]? = some z → us[i]? = some t → DueAt G L z t := by
  obtain ⟨ps, hP, he⟩ := hM.terms (n := 100) L0 fun x hx => sz.at_ hx
  refine ⟨ps, hP, by rw [← hT.1, hM.1], by omega, fun i z t e1 e2 => ?_⟩
  have hi : i < xs.length := by rw [hT.1]; exact (List.getElem?_eq_some_iff.mp e2).1
  have ex : xs[i]? = some xs[i] := List.getElem?_eq_getElem hi
  generalize xs[i] = x at ex
  obtain ⟨f1, f2⟩ := he i z x e1 ex
  have zx := (sz.one L0).at_ (List.mem_of_getElem? ex)
  exact ⟨x.1, x.2, hT.2 i t x e2 ex, f1, f2, zx.bn.1.mono (by decide), zx.bn.2.mono (by decide)⟩
def spLaw (K : PySem.W.Frag) : Sp := fun vs H Q _ => ∃ (a : Addr) (ns : List Int), vs = [.ref a] ∧ SqL K H a (ns.map V.int) ∧ ns.length ≤ 63 ∧ ∀ H', Q (.bl true) H'
abbrev lawLevel : Nat := 20
section
variable {X : Cx} {CX : CXT} {k : Nat} {C f : Addr} {fd : FuncData} {ps : List Str} {sp : Sp} {E : XK}
/-- an instance of C != a text: by its own == -/
theorem opr_neS (B : Besides X.K C) (hne : PySem.W.findIn X.K (.ref C) "__ne__" = some (some (.builtin "object.__ne__"))) (hm : PySem.W.mroIn X.K C (.type "object") = some true) (S : Spc X.K C "__eq__" f) (F : FnOk X.prog X.w X.K X.mg X.base CX k f fd ps sp) (hr : Room (k + 1) X.A) (hb : Binds X.K fd ps []) (hx : ∀ σ, PassesAt CX X σ E) :
    OpR X (compareOp .NotEq) (fun x y H Q => ∃ a dx fs z, x = .ref a ∧ y = .str z ∧ H a = some (.ins C dx fs) ∧ sp [x, y] H (fun v H' => ∃ r, v = .bl r ∧ Q (.bl (!r)) H') E) := by
  rintro pn s σ H x y v u Q I rx ry ⟨a, dx, fs, z, rfl, rfl, ea, q⟩
  obtain ⟨t, rfl⟩ := ry
  cases rx
  obtain ⟨od, J⟩ := inst_of I ea
  have sb := (sub_self hr).in1
  refine rc_neE (by have := hr.units; omega) (by have := sb.room.units; omega) I.kIn J (.of_pure rfl) (tb := .type "str") (by unfold PySem.W.notFirst; rw [B.st "str" (by simp)]; simp) hne hm S.at_ S.fn (thn (run_at sb F hb (hx σ) I (show Vals [V.ref a, V.str z] [Value.ref a, Value.str z t] from .cons rfl (.cons ⟨t, rfl⟩ .nil)) q) fun u s' w => ?_)
  obtain ⟨vv, H', I', r', ⟨r, rfl, q'⟩⟩ := w
  cases r'
  exact ⟨r, rfl, .bl (!r), H', I', rfl, q'⟩
end
theorem neSide {X : Cx} (T : Txt X.K X.mg) (hr : Room 13 X.A) : OpR X (compareOp .NotEq) (fun x y H Q => ∃ a dx fs z, x = .ref a ∧ y = .str z ∧ H a = some (.ins T.C_Water dx fs) ∧ spWEqD X.K T.C_Water T.C_Pool T.C_Ratio [x, y] H (fun v H' => ∃ r, v = .bl r ∧ Q (.bl (!r)) H') E0) :=
  opr_neS (besidesW T) T.ne_Water T.tc_Water.at_.2.2.2 T.m_Water_eq_d (ok_weqD T) hr T.B_Water_eq_d (fun _ => at0)
section
variable {P : Program} {w : World} {K : PySem.W.Frag} {mg : Str → Option Value} {base : Heap}
theorem ok_law (T : Txt K mg) : FnG P w K mg base CX0 lawLevel T.f_law T.d_law ["_law_script"] (spLaw K) := by
  refine go0 T.F_law sc_law (fun vs H Q E ⟨_, _, e, _⟩ => by rw [e]; rfl) (fun cdv A outer s H vs Q E gg hr h => ?_)
  obtain ⟨a, ns, rfl, hS, hl, fin⟩ := h
  have nd := sc_law.nd
  refine ⟨_, pss_cons (ps_for PassesOwn.never rfl (pi_range1 (by rfl) T.b_range (pa_cons (pe_callB (call_max2 rfl) (by rfl) T.b_max (by decide +kernel) (pa_cons pe_int (pa_cons (pe_callB (call_min2 rfl) (by rfl) T.b_min (by decide +kernel) (pa_cons pe_int (pa_cons (pe_callB call_len_seq (by rfl) T.b_len PySem.boot_len (pa_cons (pv 0) pa_nil)) pa_nil))) pa_nil))) pa_nil)) (pg_name (i := 1) nd rfl (.inl rfl))
      (pss_cons (ps_set (i := 2) nd rfl (.inr rfl) (pe_f (E := fun _ => E0) (ok_box T) (hr.mono (by decide)) (by rfl) T.g_lw_box T.F_lw_box.kp T.B_lw_box (fun _ => at0) (pa_cons (pv 0) (pa_cons (pv 1) pa_nil))))
      (pss_cons (ps_asg (pe_f (E := fun _ => E0) (ok_scene T) (hr.mono (by decide)) (by rfl) T.g_lw_scene T.F_lw_scene.kp T.B_lw_scene (fun _ => at0) (pa_cons (pv 2) (pa_cons pe_int pa_nil))) (pg_tup rfl (pgs_cons (pg_name (i := 3) nd rfl (.inr rfl)) (pgs_cons (pg_name (i := 4) nd rfl (.inl rfl)) pgs_nil))))
      (pss_cons (ps_setLc (i := 5) (own := [("_law_turn", 6)]) (g := gName 6) (tt := tYes) (te := tTup (tCons (tOp (rI0 fun i j => .int (i - j)) (tCl spTake (fun _ => E0) (tCons (tVar 2) (tCons (tC (.int 61)) tNil))) (tC (.int 30))) (tCons (tOp (rI0 fun i j => .int (i + j)) (tC (.int 1)) (tCl spTake (fun _ => E0) (tCons (tVar 2) (tCons (tC (.int 12)) tNil)))) tNil))) rfl nd rfl rfl (sw_true rfl rfl rfl (by decide +kernel))
            (pi_range1 (by rfl) T.b_range (pa_cons (pe_f (E := fun _ => E0) (ok_take T) (hr.mono (by decide)) (by rfl) T.g_lw_take T.F_lw_take.kp T.B_lw_take (fun _ => at0) (pa_cons (pv 2) (pa_cons pe_int pa_nil))) pa_nil))
            (blkOk_by (own := [("_law_turn", 6)]) (N := ["_law_script", "_law_k", "_law_box_here", "_law_unit", "_law_drops", "_law_more", "_law_turn", "_law_moved", "_law_drop", "_law_some", "_law_waters", "_law_one", "_law_lists", "_law_mine", "_law_other", "_law_its"]) (sc := defScope s_law) (by decide +kernel)) (fun _ _ _ _ _ => pg_name (i := 6) nd rfl (Or.inl rfl)) (fun _ _ _ _ _ => pts_nil)
            (fun _ _ _ _ _ => pe_tup (by exact (pa_cons (pe_op op_sub (pe_f (E := fun _ => E0) (ok_take T) (hr.mono (by decide)) (by rfl) T.g_lw_take T.F_lw_take.kp T.B_lw_take (fun _ => at0) (pa_cons (pv 2) (pa_cons pe_int pa_nil))) pe_int) (pa_cons (pe_op op_add pe_int (pe_f (E := fun _ => E0) (ok_take T) (hr.mono (by decide)) (by rfl) T.g_lw_take T.F_lw_take.kp T.B_lw_take (fun _ => at0) (pa_cons (pv 2) (pa_cons pe_int pa_nil)))) pa_nil)))))
      (pss_cons (ps_setLc (i := 7) (own := [("_law_drop", 8)]) (g := gName 8) (tt := tYes) (te := tTup (tCons (tOp (rI0 fun i j => .int (i - j)) (tOp (rI0 fun i j => .int (i + j)) (tOp (rIxT K) (tVar 8) (tC (.int 0))) (tCl spTake (fun _ => E0) (tCons (tVar 2) (tCons (tC (.int 3)) tNil)))) (tC (.int 1))) (tCons (tOp (rIxT K) (tVar 8) (tC (.int 1))) tNil))) rfl nd rfl rfl (sw_true rfl rfl rfl (by decide +kernel))
            (pi_list (pv 4))
            (blkOk_by (own := [("_law_drop", 8)]) (N := ["_law_script", "_law_k", "_law_box_here", "_law_unit", "_law_drops", "_law_more", "_law_turn", "_law_moved", "_law_drop", "_law_some", "_law_waters", "_law_one", "_law_lists", "_law_mine", "_law_other", "_law_its"]) (sc := defScope s_law) (by decide +kernel)) (fun _ _ _ _ _ => pg_name (i := 8) nd rfl (Or.inl rfl)) (fun _ _ _ _ _ => pts_nil)
            (fun _ _ _ _ _ => pe_tup (by exact (pa_cons (pe_op op_sub (pe_op op_add (pe_ix ix_tup (pv 8) pe_int (fun _ _ => rfl)) (pe_f (E := fun _ => E0) (ok_take T) (hr.mono (by decide)) (by rfl) T.g_lw_take T.F_lw_take.kp T.B_lw_take (fun _ => at0) (pa_cons (pv 2) (pa_cons pe_int pa_nil)))) pe_int) (pa_cons (pe_ix ix_tup (pv 8) pe_int (fun _ _ => rfl)) pa_nil)))))
      (pss_cons (ps_set (i := 9) nd rfl (.inl rfl) (pe_lst (by exact (pa_cons (pv 4) (pa_cons
            (pe_lc (own := [("_law_drop", 8)]) (g := gName 8) (tt := tTest (tOp (rI0 fun i j => .bl (decide (j < i))) (tCl spTake (fun _ => E0) (tCons (tVar 2) (tCons (tC (.int 3)) tNil))) (tC (.int 0)))) (te := tVar 8) rfl nd (pi_list (pv 4))
              (blkOk_by (own := [("_law_drop", 8)]) (N := ["_law_script", "_law_k", "_law_box_here", "_law_unit", "_law_drops", "_law_more", "_law_turn", "_law_moved", "_law_drop", "_law_some", "_law_waters", "_law_one", "_law_lists", "_law_mine", "_law_other", "_law_its"]) (sc := defScope s_law) (by decide +kernel)) (fun _ _ _ _ _ => pg_name (i := 8) nd rfl (Or.inl rfl)) (fun _ _ _ _ _ => pts_one (pt_cmpR op_gt (pe_f (E := fun _ => E0) (ok_take T) (hr.mono (by decide)) (by rfl) T.g_lw_take T.F_lw_take.kp T.B_lw_take (fun _ => at0) (pa_cons (pv 2) (pa_cons pe_int pa_nil))) pe_int (nomark _)))
              (fun _ _ _ _ _ => pv 8))
            (pa_cons (pe_op op_cat (pv 4) (pv 5)) (pa_cons (pv 7) (pa_cons (pe_lst pa_nil) pa_nil))))))))
      (pss_cons (ps_setLc (i := 10) (own := [("_law_one", 11)]) (g := gName 11) (tt := tYes) (te := tCl (spLwWater K T.C_Water T.C_Pool T.C_Ratio) (fun _ => E0) (tCons (tVar 2) (tCons (tVar 3) (tCons (tVar 11) tNil)))) rfl nd rfl rfl (sw_true rfl rfl rfl (by decide +kernel))
            (pi_list (pv 9))
            (blkOk_by (own := [("_law_one", 11)]) (N := ["_law_script", "_law_k", "_law_box_here", "_law_unit", "_law_drops", "_law_more", "_law_turn", "_law_moved", "_law_drop", "_law_some", "_law_waters", "_law_one", "_law_lists", "_law_mine", "_law_other", "_law_its"]) (sc := defScope s_law) (by decide +kernel)) (fun _ _ _ _ _ => pg_name (i := 11) nd rfl (Or.inl rfl)) (fun _ _ _ _ _ => pts_nil)
            (fun _ _ _ _ _ => pe_f (E := fun _ => E0) (ok_lwater T) (hr.mono (by decide)) (by rfl) T.g_lw_water T.F_lw_water.kp T.B_lw_water (fun _ => at0) (by exact (pa_cons (pv 2) (pa_cons (pv 3) (pa_cons (pv 11) pa_nil))))))
      (pss_cons (ps_setLc (i := 12) (own := [("_law_one", 11)]) (g := gName 11) (tt := tYes) (te := tCl spNeigh (fun _ => E0) (tCons (tVar 11) tNil)) rfl nd rfl rfl (sw_true rfl rfl rfl (by decide +kernel))
            (pi_list (pv 9))
            (blkOk_by (own := [("_law_one", 11)]) (N := ["_law_script", "_law_k", "_law_box_here", "_law_unit", "_law_drops", "_law_more", "_law_turn", "_law_moved", "_law_drop", "_law_some", "_law_waters", "_law_one", "_law_lists", "_law_mine", "_law_other", "_law_its"]) (sc := defScope s_law) (by decide +kernel)) (fun _ _ _ _ _ => pg_name (i := 11) nd rfl (Or.inl rfl)) (fun _ _ _ _ _ => pts_nil)
            (fun _ _ _ _ _ => pe_f (E := fun _ => E0) (ok_neigh T) (hr.mono (by decide)) (by rfl) T.g_lw_neighbours T.F_lw_neighbours.kp T.B_lw_neighbours (fun _ => at0) (pa_cons (pv 11) pa_nil)))
      (C8.pss_cut (ps_for PassesOwn.never rfl (pi_zip (by rfl) T.b_zip (pa_cons (pv 10) (pa_cons (pv 12) pa_nil))) (pg_tup rfl (pgs_cons (pg_name (i := 11) nd rfl (.inl rfl)) (pgs_cons (pg_name (i := 13) nd rfl (.inl rfl)) pgs_nil)))
        (pss_cons (ps_if (PW.pt (pw_or (pt_cmpR (eqR T (hr.mono (by decide))) (pv 11) pe_str (nomark _)) (pw_or (pt_cmpR (eqR T (hr.mono (by decide))) (pv 11) (pe_tup pa_nil) (nomark _))
            (pw_or (pt_not (pt_cmpR (neSide T (hr.mono (by decide))) (pv 11) (pe_callTy (call_strO (E := E0) T.m_Water_str_d (ok_wstr T) (hr.mono (by decide)) T.B_Water_str_d pass0) (by rfl) T.b_str (by decide +kernel) (pa_cons (pv 11) pa_nil)) (nomark _)))
            (pw_or1 (pt_not (pt_val (pe_f (E := fun _ => E0) (ok_isw T) (hr.mono (by decide)) (by rfl) T.g_lw_is_water T.F_lw_is_water.kp T.B_lw_is_water (fun _ => at0) (pa_cons (pv 11) (pa_cons (pv 3) (pa_cons (pv 13) pa_nil))))))))))) (pss_one (ps_ret pe_bl)) pss_nil)
        (pss_one (ps_for PassesOwn.never rfl (pi_zip (by rfl) T.b_zip (pa_cons (pv 10) (pa_cons (pv 12) pa_nil))) (pg_tup rfl (pgs_cons (pg_name (i := 14) nd rfl (.inl rfl)) (pgs_cons (pg_name (i := 15) nd rfl (.inl rfl)) pgs_nil)))
          (pss_one (ps_if (pt_not (pt_val (pe_f (E := fun _ => E0) (ok_cmpd T) (hr.mono (by decide)) (by rfl) T.g_lw_compared T.F_lw_compared.kp T.B_lw_compared (fun _ => at0) (pa_cons (pv 11) (pa_cons (pv 14) (pa_cons (pv 13) (pa_cons (pv 15) pa_nil))))))) (pss_one (ps_ret pe_bl)) pss_nil))))))
      (pss_one (ps_if (pt_not (pt_val (pe_f (E := fun _ => E0) (ok_many T) (hr.mono (by decide)) (by rfl) T.g_lw_many_compared T.F_lw_many_compared.kp T.B_lw_many_compared (fun _ => at0) (pa_cons (pv 2) pa_nil)))) (pss_one (ps_ret pe_bl)) pss_nil)))))))))))
    (pss_one (ps_ret pe_bl)), ?_⟩
  refine ⟨_, rfl, a, _, rfl, .inl hS, _, _, rfl, _, _, rfl, _, rfl, ?_, ?_, for_range (lo := 0) (fun _ σ H' => Same H H' ∧ ∃ v1 v2 v3 v4 v5 v6 v7 v8 v9 v10 v11 v12 v13 v14 v15 : Option L2.V, σ = [some (.ref a), v1, v2, v3, v4, v5, v6, v7, v8, v9, v10, v11, v12, v13, v14, v15]) ⟨Same.refl H, _, _, _, _, _, _, _, _, _, _, _, _, _, _, _, rfl⟩ ?_ ?_⟩
  · rw [List.length_map]; repeat (first | omega | split)
  · rw [List.length_map]; repeat (first | omega | split)
  rotate_left
  · rintro σ H' ⟨s, v1, v2, v3, v4, v5, v6, v7, v8, v9, v10, v11, v12, v13, v14, v15, rfl⟩
    exact fin _
  rintro i σ H1 - ⟨s1, v1, v2, v3, v4, v5, v6, v7, v8, v9, v10, v11, v12, v13, v14, v15, rfl⟩
  refine ⟨_, rfl, _, rfl, a, ns, 0 + (i : Int), rfl, s1.seq hS, by omega, fun p H2 np s2 hb => ?_⟩
  refine ⟨_, rfl, p, 9, rfl, by decide, by decide, hb, fun u l ts L H4 hu hl4 lts Hl dr L0 L1 hb4 k4 => ⟨u, _, rfl, SqT.of hu, rfl, _, _, rfl, _, _, rfl, rfl, ?_⟩⟩
  have S4 : Same H1 H4 := but_new np s2 k4
  have nlp : l ≠ p := box_ne hb Hl
  obtain ⟨ds, hT, hds⟩ := tups_of dr
  have lds : ds.length = ts.length := hT.1
  have okD : DropsOk ds := fun x hx => let ⟨h1, h2, h3⟩ := hds x hx; ⟨h1, h2, by omega⟩
  -- more drops
  refine ⟨_, rfl, p, 4, rfl, hb4, by decide, by decide, fun d n sd c d0 d1 hb5 => ⟨_, rfl, by omega, by omega, fun D1 hD1 => ?_⟩⟩
  have k5 : But p H4 (upd H4 p (BoxL n sd c)) := But.upd
  generalize upd H4 p (BoxL n sd c) = H5 at *
  have nD1 : D1 ≠ p := box_ne hb5 hD1
  refine lc_range (lo := 0) (n := d.toNat) (fun i G => (BoxAt G p ∧ But p H5 G) ∧ ∃ (ts : List Addr) (ds : List DD), ts.length = i ∧ G D1 = some (.lst (ts.map V.ref)) ∧ TupsAt G ts ds ∧ DropsOk ds)
    ⟨⟨hb5.same (same_upd hD1), But.of (same_upd hD1)⟩, [], [], rfl, upd_same, ⟨rfl, fun i t x e => by simp at e⟩, fun x hx => by cases hx⟩ ?_ ?_
  · rintro i G hi ⟨⟨hbG, kG⟩, ts, ds, lt, eD, hT, ok⟩
    refine ⟨rfl, ?_⟩
    unfold tYes
    refine iteT ⟨_, rfl, p, 61, rfl, hbG, by decide, by decide, fun e n sd c e0 e1 hb2 => ⟨_, _, rfl, rfl, ?_⟩⟩
    have k2 : But p G (upd G p (BoxL n sd c)) := But.upd
    have eD2 := k2 _ _ nD1 eD
    have hT2 := hT.but hbG k2
    have kG2 := kG.trans k2
    generalize upd G p (BoxL n sd c) = G2 at *
    refine ⟨_, rfl, p, 12, rfl, hb2, by decide, by decide, fun f n sd c f0 f1 hb3 => ⟨_, _, rfl, rfl, (by show 2 ≤ sizeLine; decide), fun t ht => ?_⟩⟩
    have k3 : But p G2 (upd G2 p (BoxL n sd c)) := But.upd
    have eD3 := k3 _ _ nD1 eD2
    have hT3 := hT2.but hb2 k3
    have kG3 := kG2.trans k3
    generalize upd G2 p (BoxL n sd c) = G3 at *
    have st := same_upd (o := .tup [.int (e - 30), .int (1 + f)]) ht
    have et : (upd G3 t (.tup [.int (e - 30), .int (1 + f)])) t = some (.tup [.int (e - 30), .int (1 + f)]) := upd_same
    have eD4 := st _ _ eD3
    have hT4 := hT3.same st
    have hb4 := hb3.same st
    have kG4 := kG3.trans (But.of st)
    generalize upd G3 t (.tup [.int (e - 30), .int (1 + f)]) = G4 at *
    have bt : But D1 G4 (upd G4 D1 (.lst (ts.map V.ref ++ [.ref t]))) := But.upd
    refine ⟨_, eD4, by rw [List.length_map, lt]; exact small1000 (by omega), ⟨hb4.butL (Ne.symm nD1) bt, fun bb o n e => ?_⟩, ts ++ [t], ds ++ [(e - 30, 1 + f)], by rw [List.length_append, lt]; rfl, by rw [upd_same, List.map_append]; rfl, (hT4.snoc (x := (e - 30, 1 + f)) et).butL eD4 bt, fun x hx => ?_⟩
    · rw [upd_ne (ne_of_none e hD1)]
      exact kG4 _ _ n e
    · rcases List.mem_append.mp hx with hx | hx
      · exact ok x hx
      · rw [List.mem_singleton.mp hx]
        refine ⟨?_, ?_, ?_⟩
        · show 0 < 1 + f; omega
        · show 1 + f ≤ 5000; omega
        · show (e - 30).natAbs ≤ 700000000; omega
  rintro G5 ⟨⟨hbG, kG⟩, ms, md, lms, eD1, hM, okM⟩
  have lmd : md.length ≤ 4 := by rw [hM.1, lms]; omega
  have K5 : But p H4 G5 := k5.trans kG
  have el5 := K5 _ _ nlp hl4
  have hT5 := hT.but hb4 K5
  -- moved drops
  refine ⟨_, rfl, l, rfl, ⟨_, SqL.of el5⟩, fun D2 hD2 => ?_⟩
  have nD2 : D2 ≠ p := box_ne hbG hD2
  have nD21 : D1 ≠ D2 := fun z => by rw [z, hD2] at eD1; cases eD1
  refine lc_list (K := K) (a := l) (xs := ts.map V.ref) (fun i G => (BoxAt G p ∧ But p G5 G) ∧ ∃ (us : List Addr) (es : List DD), us.length = i ∧ G D2 = some (.lst (us.map V.ref)) ∧ TupsAt G us es ∧ DropsOk es)
    ⟨⟨hbG.same (same_upd hD2), But.of (same_upd hD2)⟩, [], [], rfl, upd_same, ⟨rfl, fun i t x e => by simp at e⟩, fun x hx => by cases hx⟩ (fun _ G _ h => SqL.of (h.1.2 _ _ nlp el5)) ?_ ?_
  · rintro i x G hx ⟨⟨hb', k'⟩, us, es, lu, eD, hU, ok⟩
    obtain ⟨t, et, rfl⟩ := ref_get hx
    have hi : i < ds.length := by rw [lds]; exact (List.getElem?_eq_some_iff.mp et).1
    have ed := List.getElem?_eq_getElem hi
    have md' := List.getElem_mem hi
    generalize ds[i] = y at ed md'
    obtain ⟨y1, y2, y3⟩ := hds y md'
    have ty := (hT5.but hbG k').2 i t y et ed
    refine ⟨rfl, ?_⟩
    unfold tYes
    refine iteT ⟨_, rfl, t, _, 0, .int y.1, rfl, rfl, SqT.of ty, rfl, _, rfl, p, 3, rfl, hb', by decide, by decide, fun e n sd c e0 e1 hb2 => ⟨_, _, rfl, rfl, _, _, rfl, rfl, ?_⟩⟩
    have k2 : But p G (upd G p (BoxL n sd c)) := But.upd
    have ty2 := tup_but ty hb' k2
    have eD2 := k2 _ _ nD2 eD
    have hU2 := hU.but hb' k2
    have kG2 := k'.trans k2
    generalize upd G p (BoxL n sd c) = G2 at *
    refine ⟨_, rfl, t, _, 1, .int y.2, rfl, rfl, SqT.of ty2, rfl, (by show 2 ≤ sizeLine; decide), fun tn htn => ?_⟩
    have st := same_upd (o := .tup [.int (y.1 + e - 1), .int y.2]) htn
    have etn : (upd G2 tn (.tup [.int (y.1 + e - 1), .int y.2])) tn = some (.tup [.int (y.1 + e - 1), .int y.2]) := upd_same
    have eD4 := st _ _ eD2
    have hU4 := hU2.same st
    have hb4 := hb2.same st
    have kG4 := kG2.trans (But.of st)
    generalize upd G2 tn (.tup [.int (y.1 + e - 1), .int y.2]) = G4 at *
    have bt : But D2 G4 (upd G4 D2 (.lst (us.map V.ref ++ [.ref tn]))) := But.upd
    refine ⟨_, eD4, by rw [List.length_map, lu]; exact small1000 (by omega), ⟨hb4.butL (Ne.symm nD2) bt, fun bb o n e => ?_⟩, us ++ [tn], es ++ [(y.1 + e - 1, y.2)], by rw [List.length_append, lu]; rfl, by rw [upd_same, List.map_append]; rfl, (hU4.snoc (x := (y.1 + e - 1, y.2)) etn).butL eD4 bt, fun x hx => ?_⟩
    · rw [upd_ne (ne_of_none e hD2)]
      exact kG4 _ _ n e
    · rcases List.mem_append.mp hx with hx | hx
      · exact ok x hx
      · rw [List.mem_singleton.mp hx]
        refine ⟨y1, y2, ?_⟩
        show (y.1 + e - 1).natAbs ≤ 700000000
        omega
  rintro G6 ⟨⟨hb6, k6⟩, us, es, lus, eD2, hU, okU⟩
  rw [List.length_map] at lus
  have les : es.length ≤ 9 := by rw [hU.1, lus]; omega
  have el6 := k6 _ _ nlp el5
  have hT6 := hT5.but hbG k6
  have eD16 := k6 _ _ nD1 eD1
  have hM6 := hM.but hbG k6
  -- the five lists
  refine ⟨_, rfl, _, rfl, l, rfl, ⟨_, SqL.of el6⟩, fun D3 hD3 => ?_⟩
  have nD3 : D3 ≠ p := box_ne hb6 hD3
  refine lc_list (K := K) (a := l) (xs := ts.map V.ref) (fun i G => (BoxAt G p ∧ But p G6 G) ∧ ∃ (qs : List Addr) (fs : List DD), qs.length ≤ i ∧ G D3 = some (.lst (qs.map V.ref)) ∧ TupsAt G qs fs ∧ DropsOk fs)
    ⟨⟨hb6.same (same_upd hD3), But.of (same_upd hD3)⟩, [], [], Nat.le_refl _, upd_same, ⟨rfl, fun i t x e => by simp at e⟩, fun x hx => by cases hx⟩ (fun _ G _ h => SqL.of (h.1.2 _ _ nlp el6)) ?_ ?_
  · rintro i x G hx ⟨⟨hb', k'⟩, qs, fs, lq, eD, hQ, ok⟩
    obtain ⟨t, et, rfl⟩ := ref_get hx
    have hi : i < ds.length := by rw [lds]; exact (List.getElem?_eq_some_iff.mp et).1
    have ed := List.getElem?_eq_getElem hi
    have md' := List.getElem_mem hi
    generalize ds[i] = y at ed md'
    refine ⟨rfl, _, rfl, p, 3, rfl, hb', by decide, by decide, fun e n sd c e0 e1 hb2 => ⟨_, _, rfl, rfl, _, rfl, ?_⟩⟩
    have k2 : But p G (upd G p (BoxL n sd c)) := But.upd
    have ty2 := tup_but ((hT6.but hb6 k').2 i t y et ed) hb' k2
    have eD2 := k2 _ _ nD3 eD
    have hQ2 := hQ.but hb' k2
    have kG2 := k'.trans k2
    generalize upd G p (BoxL n sd c) = G2 at *
    refine ite2 (fun c => ?_) (fun c => ?_)
    · have bt : But D3 G2 (upd G2 D3 (.lst (qs.map V.ref ++ [.ref t]))) := But.upd
      refine ⟨_, rfl, _, eD2, by rw [List.length_map]; exact small1000 (by omega), ⟨hb2.butL (Ne.symm nD3) bt, fun bb o n e => ?_⟩, qs ++ [t], fs ++ [y], by rw [List.length_append]; show qs.length + 1 ≤ i + 1; omega, by rw [upd_same, List.map_append]; rfl, (hQ2.snoc ty2).butL eD2 bt, fun x hx => ?_⟩
      · rw [upd_ne (ne_of_none e hD3)]
        exact kG2 _ _ n e
      · rcases List.mem_append.mp hx with hx | hx
        · exact ok x hx
        · rw [List.mem_singleton.mp hx]
          exact okD y md'
    · exact ⟨⟨hb2, kG2⟩, qs, fs, by omega, eD2, hQ2, ok⟩
  rintro G7 ⟨⟨hb7, k7⟩, qs, fs, lqs, eD3, hQ, okQ⟩
  rw [List.length_map] at lqs
  have lfs : fs.length ≤ 9 := by rw [hQ.1]; omega
  have el7 := k7 _ _ nlp el6
  have hT7 := hT6.but hb6 k7
  have eD17 := k7 _ _ nD1 eD16
  have hM7 := hM6.but hb6 k7
  have eD27 := k7 _ _ nD2 eD2
  have hU7 := hU.but hb6 k7
  have lt : ∀ n : Nat, n ≤ 2000 → n ≤ sizeLine := fun n h => Nat.le_trans h (by rw [sizeLine_eq]; decide)
  refine ⟨_, rfl, _, rfl, l, D1, _, _, rfl, rfl, el7, eD17, lt _ (by rw [List.length_map, List.length_map]; omega), fun q hq => ⟨_, rfl, Nat.zero_le _, fun n4 hn4 => ⟨(by show 5 ≤ sizeLine; decide), fun So hSo => ?_⟩⟩⟩
  have nq : q ≠ p := box_ne hb7 hq
  have s1 := same_upd (o := .lst (ts.map V.ref ++ ms.map V.ref)) hq
  have eq7 : (upd G7 q (.lst (ts.map V.ref ++ ms.map V.ref))) q = some (.lst ((ts ++ ms).map V.ref)) := by rw [upd_same, List.map_append]
  have hb8 := hb7.same s1
  generalize upd G7 q (.lst (ts.map V.ref ++ ms.map V.ref)) = G8 at *
  have n4p : n4 ≠ p := box_ne hb8 hn4
  have s2' := same_upd (o := .lst []) hn4
  have e48 : (upd G8 n4 (.lst [])) n4 = some (.lst []) := upd_same
  have hb9 := hb8.same s2'
  generalize upd G8 n4 (.lst []) = G9 at *
  have nSo : So ≠ p := box_ne hb9 hSo
  have s3 := same_upd (o := .lst [.ref l, .ref D3, .ref q, .ref D2, .ref n4]) hSo
  have eSo : (upd G9 So (.lst [.ref l, .ref D3, .ref q, .ref D2, .ref n4])) So = some (.lst [.ref l, .ref D3, .ref q, .ref D2, .ref n4]) := upd_same
  have hbX := hb9.same s3
  have s13 := s1.trans (s2'.trans s3)
  have s23 := s2'.trans s3
  have e4X := s3 _ _ e48
  generalize upd G9 So (.lst [.ref l, .ref D3, .ref q, .ref D2, .ref n4]) = GX at *
  have KX : But p H4 GX := (K5.trans (k6.trans k7)).trans (But.of s13)
  let ss : List Addr := [l, D3, q, D2, n4]
  let dss : List (List DD) := [ds, fs, ds ++ md, es, []]
  have lists : ∀ (k : Nat) (u : Addr) (X : List DD), ss[k]? = some u → dss[k]? = some X → u ≠ p ∧ (∃ zs : List Addr, GX u = some (.lst (zs.map V.ref)) ∧ TupsAt GX zs X) ∧ DropsOk X ∧ X.length ≤ 50 := fun k u X e1 e2 => by
    rcases k with _ | _ | _ | _ | _ | k
    · cases e1; cases e2; exact ⟨nlp, ⟨ts, s13 _ _ el7, hT7.same s13⟩, okD, by omega⟩
    · cases e1; cases e2; exact ⟨nD3, ⟨qs, s13 _ _ eD3, hQ.same s13⟩, okQ, by omega⟩
    · cases e1; cases e2
      refine ⟨nq, ⟨ts ++ ms, s23 _ _ eq7, (hT7.same s13).app (hM7.same s13)⟩, fun x hx => ?_, by rw [List.length_append]; omega⟩
      rcases List.mem_append.mp hx with hx | hx
      · exact okD x hx
      · exact okM x hx
    · cases e1; cases e2; exact ⟨nD2, ⟨us, s13 _ _ eD27, hU7.same s13⟩, okU, by omega⟩
    · cases e1; cases e2; exact ⟨n4p, ⟨[], e4X, ⟨rfl, fun i t x e => by simp at e⟩⟩, (show DropsOk [] from fun x hx => by cases hx), Nat.zero_le _⟩
    · simp [ss] at e1
  have lss : ss.length = 5 := rfl
  have ldss : dss.length = 5 := rfl
  have eSo' : GX So = some (.lst (ss.map V.ref)) := eSo
  clear_value ss dss
  -- the waters
  refine ⟨_, rfl, So, rfl, ⟨_, SqL.of eSo'⟩, fun Wl hWl => ?_⟩
  have nWl : Wl ≠ p := box_ne hbX hWl
  refine lc_list (K := K) (a := So) (xs := ss.map V.ref) (fun k G => (BoxAt G p ∧ But p GX G) ∧ ∃ ws : List Addr, ws.length = k ∧ G Wl = some (.lst (ws.map V.ref)) ∧ ∀ (i : Nat) (w : Addr) (X : List DD), ws[i]? = some w → dss[i]? = some X → WOf K T.C_Water T.C_Pool T.C_Ratio G L w (X.map mom))
    ⟨⟨hbX.same (same_upd hWl), But.of (same_upd hWl)⟩, [], rfl, upd_same, fun i w X e => by simp at e⟩ (fun _ G _ h => SqL.of (h.1.2 _ _ nSo eSo')) ?_ ?_
  · rintro k x G hx ⟨⟨hb', k'⟩, ws, lw, eW, hW⟩
    obtain ⟨u, eu, rfl⟩ := ref_get hx
    have hk : k < dss.length := by have := (List.getElem?_eq_some_iff.mp eu).1; omega
    have eX := List.getElem?_eq_getElem hk
    generalize dss[k] = X at eX
    obtain ⟨nu, ⟨zs, ez, hZ⟩, okX, lX⟩ := lists k u X eu eX
    refine ⟨rfl, ?_⟩
    unfold tYes
    refine iteT ⟨_, rfl, _, rfl, _, rfl, p, u, L, zs, X, rfl, hb', k' _ _ nu ez, nu, hZ.but hbX k', okX, lX, L0, L1, fun w G2 hb2 k2 hw => ?_⟩
    have eW2 := k2 _ _ nWl eW
    have bt : But Wl G2 (upd G2 Wl (.lst (ws.map V.ref ++ [.ref w]))) := But.upd
    refine ⟨_, eW2, by rw [List.length_map, lw]; exact small1000 (by omega), ⟨hb2.butL (Ne.symm nWl) bt, fun bb o n e => ?_⟩, ws ++ [w], by rw [List.length_append, lw]; rfl, by rw [upd_same, List.map_append]; rfl, fun i w' X' e1 e2 => ?_⟩
    · rw [upd_ne (ne_of_none e hWl)]
      exact k2 _ _ n (k' _ _ n e)
    · have up : WOf K T.C_Water T.C_Pool T.C_Ratio G2 L w' (X'.map mom) := by
        rcases Nat.lt_or_ge i ws.length with lt | ge
        · rw [List.getElem?_append_left lt] at e1
          obtain ⟨_, _, _, ebx, _⟩ := id hb'
          obtain ⟨rs, h1, h2⟩ := hW i w' X' e1 e2
          exact ⟨rs, h1.butL ebx k2, h2.butL ebx k2⟩
        · rw [List.getElem?_append_right ge] at e1
          obtain rfl : i = ws.length := by
            have := (List.getElem?_eq_some_iff.mp e1).1
            simp at this
            omega
          rw [Nat.sub_self] at e1
          cases e1
          rw [lw, eX] at e2
          cases e2
          exact hw
      obtain ⟨rs, h1, h2⟩ := up
      exact ⟨rs, h1.butL eW2 bt, h2.butL eW2 bt⟩
  rintro GY ⟨⟨hbY, kY⟩, ws, lws, eW, hW⟩
  rw [List.length_map, lss] at lws
  have eSoY := kY _ _ nSo eSo'
  have listsY : ∀ (k : Nat) (u : Addr) (X : List DD), ss[k]? = some u → dss[k]? = some X → (∃ zs : List Addr, GY u = some (.lst (zs.map V.ref)) ∧ TupsAt GY zs X) ∧ DropsOk X ∧ X.length ≤ 50 := fun k u X e1 e2 => by
    obtain ⟨nu, ⟨zs, ez, hZ⟩, okX, lX⟩ := lists k u X e1 e2
    exact ⟨⟨zs, kY _ _ nu ez, hZ.but hbX kY⟩, okX, lX⟩
  -- their neighbours
  refine ⟨_, rfl, So, rfl, ⟨_, SqL.of eSoY⟩, fun Ll hLl => ?_⟩
  refine lc_list (K := K) (a := So) (xs := ss.map V.ref) (fun k G => Same GY G ∧ ∃ ls : List Addr, ls.length = k ∧ G Ll = some (.lst (ls.map V.ref)) ∧ ∀ (i : Nat) (m : Addr) (X : List DD), ls[i]? = some m → dss[i]? = some X → m ≠ Ll ∧ ∃ us : List Addr, G m = some (.lst (us.map V.ref)) ∧ TupsAt G us (PX (X.map mom)))
    ⟨same_upd hLl, [], rfl, upd_same, fun i w X e => by simp at e⟩ (fun _ G _ h => SqL.of (h.1 _ _ eSoY)) ?_ ?_
  · rintro k x G hx ⟨sG, ls, ll, eL, hN⟩
    obtain ⟨u, eu, rfl⟩ := ref_get hx
    have hk : k < dss.length := by have := (List.getElem?_eq_some_iff.mp eu).1; omega
    have eX := List.getElem?_eq_getElem hk
    generalize dss[k] = X at eX
    obtain ⟨⟨zs, ez, hZ⟩, okX, lX⟩ := listsY k u X eu eX
    refine ⟨rfl, ?_⟩
    unfold tYes
    refine iteT ⟨_, rfl, u, zs, X, rfl, sG _ _ ez, hZ.same sG, okX, lX, fun m G2 us2 s2 hm em hU2 => ?_⟩
    have eL2 := s2 _ _ eL
    have nm : m ≠ Ll := fun z => by rw [z, eL] at hm; cases hm
    have bt : But Ll G2 (upd G2 Ll (.lst (ls.map V.ref ++ [.ref m]))) := But.upd
    refine ⟨_, eL2, by rw [List.length_map, ll]; exact small1000 (by omega), fun bb o e => ?_, ls ++ [m], by rw [List.length_append, ll]; rfl, by rw [upd_same, List.map_append]; rfl, fun i m' X' e1 e2 => ?_⟩
    · rw [upd_ne (ne_of_none e hLl)]
      exact s2 _ _ (sG _ _ e)
    · have up : m' ≠ Ll ∧ ∃ us : List Addr, G2 m' = some (.lst (us.map V.ref)) ∧ TupsAt G2 us (PX (X'.map mom)) := by
        rcases Nat.lt_or_ge i ls.length with lt | ge
        · rw [List.getElem?_append_left lt] at e1
          obtain ⟨h0, us3, h1, h2⟩ := hN i m' X' e1 e2
          exact ⟨h0, us3, s2 _ _ h1, h2.same s2⟩
        · rw [List.getElem?_append_right ge] at e1
          obtain rfl : i = ls.length := by
            have := (List.getElem?_eq_some_iff.mp e1).1
            simp at this
            omega
          rw [Nat.sub_self] at e1
          cases e1
          rw [ll, eX] at e2
          cases e2
          exact ⟨nm, us2, em, hU2⟩
      obtain ⟨h0, us3, h1, h2⟩ := up
      exact ⟨h0, us3, bt _ _ h0 h1, h2.butL eL2 bt⟩
  rintro GZ ⟨sZ, ls, lls, eL, hN⟩
  rw [List.length_map, lss] at lls
  have eWZ := sZ _ _ eW
  have hWZ : ∀ (i : Nat) (w : Addr) (X : List DD), ws[i]? = some w → dss[i]? = some X → WOf K T.C_Water T.C_Pool T.C_Ratio GZ L w (X.map mom) := fun i w X e1 e2 => (hW i w X e1 e2).same sZ
  have hbZ := hbY.same sZ
  have fines : ∀ (i : Nat) (X : List DD), dss[i]? = some X → Fine L (X.map mom) ∧ Fine 1 (X.map mom) := fun i X e => by
    have hi : i < ss.length := by rw [lss, ← ldss]; exact (List.getElem?_eq_some_iff.mp e).1
    obtain ⟨_, _, okX, lX⟩ := lists i _ X (List.getElem?_eq_getElem hi) e
    exact ⟨fine_drops L0 L1 lX okX, fine_drops (by decide) (by decide) lX okX⟩
  have KZ : But p H4 GZ := KX.trans (kY.trans (But.of sZ))
  refine ⟨fun σ G => Same GZ G ∧ ∃ v4 v5 v6 v7 v8 v9 v10 v11 v12 v13 v14 v15 : Option L2.V, σ = [some (.ref a), some (.int (0 + (i : Int))), some (.ref p), some (.int L), v4, v5, v6, v7, v8, v9, v10, v11, v12, v13, v14, v15], ?_, ?_⟩
  · refine ⟨_, rfl, _, rfl, Wl, Ll, _, _, rfl, SqL.of eWZ, SqL.of eL, for_it (walk_zip (xs := ws.map V.ref) (ys := ls.map V.ref) (n := 5) (by rw [List.length_map, List.length_map, lws, lls]; rfl)) (fun _ σ G => Same GZ G ∧ ∃ v4 v5 v6 v7 v8 v9 v11 v13 v14 v15 : Option L2.V, σ = [some (.ref a), some (.int (0 + (i : Int))), some (.ref p), some (.int L), v4, v5, v6, v7, v8, v9, some (.ref Wl), v11, some (.ref Ll), v13, v14, v15])
      ⟨Same.refl _, _, _, _, _, _, _, _, _, _, _, rfl⟩ (fun _ σ G _ h => ⟨SqL.of (h.1 _ _ eWZ), SqL.of (h.1 _ _ eL)⟩) ?_ (fun σ G ⟨s, v4, v5, v6, v7, v8, v9, v11, v13, v14, v15, e⟩ => ⟨s, _, _, _, _, _, _, _, _, _, _, _, _, e⟩)⟩
    rintro k x0 σ G G' hi ⟨sG, v4, v5, v6, v7, v8, v9, v11, v13, v14, v15, rfl⟩ ⟨tz, a1, a2, rfl, nz, rfl, e1, e2⟩
    obtain ⟨wk, ewk, rfl⟩ := ref_get e1
    obtain ⟨mk, emk, rfl⟩ := ref_get e2
    have hk : k < dss.length := by omega
    have eX := List.getElem?_eq_getElem hk
    generalize dss[k] = X at eX
    have hw := hWZ k wk X ewk eX
    obtain ⟨_, us1, em1, hU1⟩ := hN k mk X emk eX
    obtain ⟨fL, f1⟩ := fines k X eX
    have sz := same_upd (o := .tup [.ref wk, .ref mk]) nz
    have sA := sG.trans sz
    have etz : (upd G tz (.tup [.ref wk, .ref mk])) tz = some (.tup [.ref wk, .ref mk]) := upd_same
    generalize upd G tz (.tup [.ref wk, .ref mk]) = GA at *
    refine ⟨tz, _, rfl, SqT.of etz, rfl, _, _, rfl, _, _, rfl, rfl, ?_⟩
    obtain ⟨dx, fx, ex⟩ := hw.insX
    refine ⟨_, rfl, wk, dx, fx, rfl, sA _ _ ex, .inl ⟨_, .str _⟩, wk, .str _, L, _, false, rfl, hw.same sA, fL, .inr ⟨⟨_, .str _⟩, rfl⟩, fun GB sB => ⟨_, rfl, iteF ?_⟩⟩
    have sAB := sA.trans sB
    refine ⟨_, rfl, Nat.zero_le _, fun te hte => ?_⟩
    have st := same_upd (o := .tup []) hte
    have sC := sAB.trans st
    refine ⟨wk, dx, fx, rfl, sC _ _ ex, .inl ⟨_, .tup (SqT.of upd_same)⟩, wk, .ref te, L, _, false, rfl, hw.same sC, fL, .inr ⟨⟨_, .tup (SqT.of upd_same)⟩, rfl⟩, fun GD sD => ⟨_, rfl, iteF ?_⟩⟩
    have sE := sC.trans sD
    refine ⟨_, rfl, _, rfl, wk, dx, fx, rfl, sE _ _ ex, wk, L, _, rfl, hw.same sE, fL, fun z GE s6 => ⟨⟨_, rfl⟩, ?_⟩⟩
    have sF := sE.trans s6
    refine ⟨wk, dx, fx, z, rfl, rfl, sF _ _ ex, wk, .str z, L, _, false, rfl, hw.same sF, fL, .inr ⟨⟨_, .str z⟩, rfl⟩, fun GF s7 => ⟨false, rfl, _, rfl, iteF ?_⟩⟩
    have sH := sF.trans s7
    obtain ⟨rs, hwat, hmws⟩ := hw.same sH
    obtain ⟨ps, hP, h1, h2, due⟩ := isw_pre2 hmws fL.l0 (fL.pol.sz.mono (by decide)) (hU1.same sH) (by have := hmws.1; have := fL.pol.few; omega)
    refine ⟨_, rfl, _, rfl, _, rfl, wk, mk, L, rs, us1, ps, 100, rfl, hwat, hP, by decide, fL.l1.mono (by decide), sH _ _ em1, h1, h2, due, fun GG s8 => ⟨_, rfl, iteF ?_⟩⟩
    have sI := sH.trans s8
    refine ⟨_, rfl, _, rfl, Wl, Ll, _, _, rfl, SqL.of (sI _ _ eWZ), SqL.of (sI _ _ eL), for_it (walk_zip (xs := ws.map V.ref) (ys := ls.map V.ref) (n := 5) (by rw [List.length_map, List.length_map, lws, lls]; rfl)) (fun _ σ G => Same GZ G ∧ ∃ v4 v5 v6 v7 v8 v9 v14 v15 : Option L2.V, σ = [some (.ref a), some (.int (0 + (i : Int))), some (.ref p), some (.int L), v4, v5, v6, v7, v8, v9, some (.ref Wl), some (.ref wk), some (.ref Ll), some (.ref mk), v14, v15])
      ⟨sI, _, _, _, _, _, _, _, _, rfl⟩ (fun _ σ G _ h => ⟨SqL.of (h.1 _ _ eWZ), SqL.of (h.1 _ _ eL)⟩) ?_ (fun σ G ⟨s, v4, v5, v6, v7, v8, v9, v14, v15, e⟩ => ⟨s, _, _, _, _, _, _, _, _, _, _, e⟩)⟩
    rintro k2 x0 σ G2 G3 hi2 ⟨sJ, v4, v5, v6, v7, v8, v9, v14, v15, rfl⟩ ⟨tz2, b1, b2, rfl, nz2, rfl, g1, g2⟩
    obtain ⟨wj, ewj, rfl⟩ := ref_get g1
    obtain ⟨mj, emj, rfl⟩ := ref_get g2
    have hk2 : k2 < dss.length := by omega
    have eY := List.getElem?_eq_getElem hk2
    generalize dss[k2] = Y at eY
    have hw2 := hWZ k2 wj Y ewj eY
    obtain ⟨_, us2, em2, hU2⟩ := hN k2 mj Y emj eY
    obtain ⟨gL, gg1⟩ := fines k2 Y eY
    have sz2 := same_upd (o := .tup [.ref wj, .ref mj]) nz2
    have sK := sJ.trans sz2
    have etz2 : (upd G2 tz2 (.tup [.ref wj, .ref mj])) tz2 = some (.tup [.ref wj, .ref mj]) := upd_same
    generalize upd G2 tz2 (.tup [.ref wj, .ref mj]) = GK at *
    refine ⟨tz2, _, rfl, SqT.of etz2, rfl, _, _, rfl, _, _, rfl, rfl, ?_⟩
    exact ⟨_, rfl, _, rfl, _, rfl, _, rfl, wk, wj, mk, mj, us1, us2, L, _, _, rfl, hw.same sK, hw2.same sK, fL, gL, f1, gg1, sK _ _ em1, sK _ _ em2, hU1.same sK, hU2.same sK, fun GM sM => ⟨_, rfl, iteF ⟨sK.trans sM, _, _, _, _, _, _, _, _, rfl⟩⟩⟩
  rintro σ GW ⟨sW, v4, v5, v6, v7, v8, v9, v10, v11, v12, v13, v14, v15, rfl⟩
  refine ⟨_, rfl, p, rfl, hbZ.same sW, fun GV hbV kV => ⟨_, rfl, iteF ?_⟩⟩
  have kAll : But p H4 GV := (KZ.trans (But.of sW)).trans kV
  exact ⟨Same.trans (by assumption) (but_new np S4 kAll), _, _, _, _, _, _, _, _, _, _, _, _, _, _, _, rfl⟩
end

theorem law_asks {K : PySem.W.Frag} {H : Hp} {a : Addr} {ns : List Int} (hl : ns.length ≤ 63) (hS : SqL K H a (ns.map V.int)) : spLaw K [.ref a] H (fun v _ => v = .bl true) E0 := ⟨a, ns, rfl, hS, hl, fun _ => rfl⟩
end Pm
open PySem PySem.W PyProof.Rows in
set_option maxRecDepth 100000 in
set_option maxHeartbeats 0 in
theorem PySem.Challenge.cw_poolsmeet_k11_waters_compared_holds : PySem.Challenge.rw_poolsmeet_k11_waters_compared.Holds := by
  refine Pm.hd ?_
  k_fill
  refine Pm.walk (l := PySem.Challenge.rw_poolsmeet_k11_waters_compared) (lv := Pm.lawLevel) (sp := Pm.spLaw) rfl rfl ⟨rfl, by decide, by decide⟩ (fun w h Y => PySem.W.kIn_of Y) ?F (fun hl hS => Pm.law_asks hl hS)
  case F =>
    intro w mg fa h KX G hmg
    refine' Pm.all_mk (fun T => Pm.ok_law T) KX G hmg ?zb_len ?zb_range ?zb_int ?zb_str ?zb_bool ?zb_abs ?zb_isinstance ?zb_max ?zb_min ?zb_tuple ?zb_sum ?zb_zip ?zb_enumerate ?zb_sorted ?kz_COLUMNS ?gi_gcd ?gi_lcm ?gc_PoolError ?xl_PoolError ?xr_PoolError ?xs_PoolError ?xa_PoolError ?xg_PoolError ?xe_PoolError ?xt_PoolError ?xh_PoolError ?xk_PoolError ?xi_PoolError ?xq_PoolError ?gc_InvalidNumber ?xl_InvalidNumber ?xr_InvalidNumber ?xs_InvalidNumber ?xa_InvalidNumber ?xg_InvalidNumber ?xe_InvalidNumber ?xt_InvalidNumber ?xh_InvalidNumber ?xk_InvalidNumber ?xi_InvalidNumber ?xq_InvalidNumber ?na_InvalidNumber_value ?gc_Touching ?xl_Touching ?xr_Touching ?xs_Touching ?xa_Touching ?xg_Touching ?xe_Touching ?xt_Touching ?xh_Touching ?xk_Touching ?xi_Touching ?xq_Touching ?ea_Touching ?eb_Touching ?et_Touching ?em_Touching ?na_Touching_index ?gc_Ratio ?pg_Ratio ?hd_Ratio ?po_Ratio ?sa_Ratio ?tca_Ratio ?tcb_Ratio ?tcc_Ratio ?tcd_Ratio ?ric_Ratio ?rty_Ratio ?rss_Ratio ?rda_Ratio ?rdb_Ratio ?mk_Ratio ?kc_Ratio ?sf_Ratio ?mra_Ratio ?mrb_Ratio ?st_Ratio_int ?st_Ratio_bool ?st_Ratio_str ?st_Ratio_NoneType ?st_Ratio_tuple ?su_Ratio_int ?su_Ratio_bool ?su_Ratio_tuple ?su_Ratio_str ?su_Ratio_NoneType ?fmo_Ratio ?na_Ratio_top ?na_Ratio_bottom ?gc_Pool ?pg_Pool ?hd_Pool ?po_Pool ?sa_Pool ?tca_Pool ?tcb_Pool ?tcc_Pool ?tcd_Pool ?ric_Pool ?rty_Pool ?rss_Pool ?rda_Pool ?rdb_Pool ?mk_Pool ?kc_Pool ?sf_Pool ?mra_Pool ?mrb_Pool ?st_Pool_int ?st_Pool_bool ?st_Pool_str ?st_Pool_NoneType ?st_Pool_tuple ?su_Pool_int ?su_Pool_bool ?su_Pool_tuple ?su_Pool_str ?su_Pool_NoneType ?na_Pool__middle ?na_Pool__volume ?na_Pool__left ?na_Pool__right ?gc_Water ?pg_Water ?hd_Water ?po_Water ?sa_Water ?tca_Water ?tcb_Water ?tcc_Water ?tcd_Water ?ric_Water ?rty_Water ?rss_Water ?rda_Water ?rdb_Water ?mk_Water ?kc_Water ?sf_Water ?mra_Water ?mrb_Water ?st_Water_int ?st_Water_bool ?st_Water_str ?st_Water_NoneType ?st_Water_tuple ?su_Water_int ?su_Water_bool ?su_Water_tuple ?su_Water_str ?su_Water_NoneType ?neo_Water ?na_Water__pools ?sx_Touching_PoolError ?sx_Touching_InvalidNumber ?a_InvalidNumber_init_d ?i_InvalidNumber_init_d ?l_InvalidNumber_init_d ?c_InvalidNumber_init_d ?k_InvalidNumber_init_d ?a_Touching_init_d ?i_Touching_init_d ?l_Touching_init_d ?c_Touching_init_d ?k_Touching_init_d ?a_Ratio_init_d ?i_Ratio_init_d ?l_Ratio_init_d ?dl_Ratio_init_d ?dd_Ratio_init_d ?dv_Ratio_init_d ?c_Ratio_init_d ?k_Ratio_init_d ?a_Ratio_of ?r_Ratio_of ?i_Ratio_of ?l_Ratio_of ?c_Ratio_of ?k_Ratio_of ?a_Ratio_over ?i_Ratio_over ?l_Ratio_over ?c_Ratio_over ?k_Ratio_over ?a_Ratio_add_d ?i_Ratio_add_d ?l_Ratio_add_d ?c_Ratio_add_d ?k_Ratio_add_d ?br_Ratio_add_d ?bp_Ratio_add_d ?bl_Ratio_add_d ?bo_Ratio_add_d ?ba_Ratio_add_d ?n1_Ratio_add_d ?n2_Ratio_add_d ?a_Ratio_sub_d ?i_Ratio_sub_d ?l_Ratio_sub_d ?c_Ratio_sub_d ?k_Ratio_sub_d ?br_Ratio_sub_d ?bp_Ratio_sub_d ?bl_Ratio_sub_d ?bo_Ratio_sub_d ?ba_Ratio_sub_d ?n1_Ratio_sub_d ?n2_Ratio_sub_d ?a_Ratio_eq_d ?i_Ratio_eq_d ?l_Ratio_eq_d ?c_Ratio_eq_d ?k_Ratio_eq_d ?a_Ratio_ne_d ?i_Ratio_ne_d ?l_Ratio_ne_d ?c_Ratio_ne_d ?k_Ratio_ne_d ?a_Ratio_lt_d ?i_Ratio_lt_d ?l_Ratio_lt_d ?c_Ratio_lt_d ?k_Ratio_lt_d ?a_Ratio_le_d ?i_Ratio_le_d ?l_Ratio_le_d ?c_Ratio_le_d ?k_Ratio_le_d ?a_Ratio_ge_d ?i_Ratio_ge_d ?l_Ratio_ge_d ?c_Ratio_ge_d ?k_Ratio_ge_d ?a_Ratio_str_d ?i_Ratio_str_d ?l_Ratio_str_d ?c_Ratio_str_d ?k_Ratio_str_d ?a_is_number ?l_is_number ?c_is_number ?k_is_number ?a_lead ?l_lead ?c_lead ?k_lead ?a_in_order ?l_in_order ?c_in_order ?k_in_order ?a_sorted_by ?l_sorted_by ?c_sorted_by ?k_sorted_by ?a_scale_of ?l_scale_of ?c_scale_of ?k_scale_of ?a_scaled ?l_scaled ?c_scaled ?k_scaled ?a_blocks_of ?l_blocks_of ?c_blocks_of ?k_blocks_of ?a_joined ?l_joined ?c_joined ?k_joined ?a_touch ?l_touch ?c_touch ?k_touch ?a_held ?l_held ?c_held ?k_held ?a_run_together ?l_run_together ?dl_run_together ?dd_run_together ?dv_run_together ?c_run_together ?k_run_together ?a_Pool_init_d ?i_Pool_init_d ?l_Pool_init_d ?c_Pool_init_d ?k_Pool_init_d ?a_Pool_middle ?pg_Pool_middle ?pt_Pool_middle ?r_Pool_middle ?l_Pool_middle ?c_Pool_middle ?k_Pool_middle ?a_Pool_volume ?pg_Pool_volume ?pt_Pool_volume ?r_Pool_volume ?l_Pool_volume ?c_Pool_volume ?k_Pool_volume ?a_Pool_left ?pg_Pool_left ?pt_Pool_left ?r_Pool_left ?l_Pool_left ?c_Pool_left ?k_Pool_left ?a_Pool_right ?pg_Pool_right ?pt_Pool_right ?r_Pool_right ?l_Pool_right ?c_Pool_right ?k_Pool_right ?a_Pool_eq_d ?i_Pool_eq_d ?l_Pool_eq_d ?c_Pool_eq_d ?k_Pool_eq_d ?a_Water_init_d ?i_Water_init_d ?l_Water_init_d ?dl_Water_init_d ?dd_Water_init_d ?dv_Water_init_d ?c_Water_init_d ?k_Water_init_d ?a_Water_settled ?r_Water_settled ?i_Water_settled ?l_Water_settled ?c_Water_settled ?k_Water_settled ?a_Water_getitem_d ?i_Water_getitem_d ?l_Water_getitem_d ?c_Water_getitem_d ?k_Water_getitem_d ?fn_Water_getitem_d ?a_Water_len_d ?i_Water_len_d ?l_Water_len_d ?c_Water_len_d ?k_Water_len_d ?a_Water_eq_d ?i_Water_eq_d ?l_Water_eq_d ?c_Water_eq_d ?k_Water_eq_d ?a_Water_le_d ?i_Water_le_d ?l_Water_le_d ?c_Water_le_d ?k_Water_le_d ?a_Water_lt_d ?i_Water_lt_d ?l_Water_lt_d ?c_Water_lt_d ?k_Water_lt_d ?a_Water_ge_d ?i_Water_ge_d ?l_Water_ge_d ?c_Water_ge_d ?k_Water_ge_d ?a_Water_gt_d ?i_Water_gt_d ?l_Water_gt_d ?c_Water_gt_d ?k_Water_gt_d ?a_Water_str_d ?i_Water_str_d ?l_Water_str_d ?c_Water_str_d ?k_Water_str_d ?a_settled_pools ?l_settled_pools ?c_settled_pools ?k_settled_pools ?a_lie_within ?l_lie_within ?c_lie_within ?k_lie_within ?a_row_of ?l_row_of ?c_row_of ?k_row_of ?a_lw_box ?l_lw_box ?c_lw_box ?k_lw_box ?a_lw_take ?l_lw_take ?c_lw_take ?k_lw_take ?a_lw_scene ?l_lw_scene ?c_lw_scene ?k_lw_scene ?a_lw_number ?l_lw_number ?c_lw_number ?k_lw_number ?a_lw_is ?l_lw_is ?c_lw_is ?k_lw_is ?a_lw_ordered ?l_lw_ordered ?c_lw_ordered ?k_lw_ordered ?a_lw_touch ?l_lw_touch ?c_lw_touch ?k_lw_touch ?a_lw_pools ?l_lw_pools ?c_lw_pools ?k_lw_pools ?a_lw_water ?l_lw_water ?c_lw_water ?k_lw_water ?a_lw_neighbours ?l_lw_neighbours ?c_lw_neighbours ?k_lw_neighbours ?a_lw_says ?l_lw_says ?c_lw_says ?k_lw_says ?a_lw_is_water ?l_lw_is_water ?c_lw_is_water ?k_lw_is_water ?a_lw_inside ?l_lw_inside ?c_lw_inside ?k_lw_inside ?a_lw_equal ?l_lw_equal ?c_lw_equal ?k_lw_equal ?a_lw_compared ?l_lw_compared ?c_lw_compared ?k_lw_compared ?a_lw_many_compared ?l_lw_many_compared ?c_lw_many_compared ?k_lw_many_compared ?a_law ?l_law ?c_law ?k_law ?le_empty ?ce_empty ?de_empty ?xe_empty
    (case zb_len => k_is)
    (case zb_range => k_is)
    (case zb_int => k_is)
    (case zb_str => k_is)
    (case zb_bool => k_is)
    (case zb_abs => k_is)
    (case zb_isinstance => k_is)
    (case zb_max => k_is)
    (case zb_min => k_is)
    (case zb_tuple => k_is)
    (case zb_sum => k_is)
    (case zb_zip => k_is)
    (case zb_enumerate => k_is)
    (case zb_sorted => k_is)
    (case kz_COLUMNS => k_is)
    (case gi_gcd => k_is)
    (case gi_lcm => k_is)
    (case gc_PoolError => k_is)
    (case xl_PoolError => k_is)
    (case xr_PoolError => first | rfl | decide +kernel)
    (case xs_PoolError => k_is)
    (case xa_PoolError => k_is)
    (case xg_PoolError => k_is)
    (case xe_PoolError => k_is)
    (case xt_PoolError => k_is)
    (case xh_PoolError => k_is)
    (case xk_PoolError => k_is)
    (case xi_PoolError => k_is)
    (case xq_PoolError => first | rfl | k_is)
    (case gc_InvalidNumber => k_is)
    (case xl_InvalidNumber => k_is)
    (case xr_InvalidNumber => first | rfl | decide +kernel)
    (case xs_InvalidNumber => k_is)
    (case xa_InvalidNumber => k_is)
    (case xg_InvalidNumber => k_is)
    (case xe_InvalidNumber => k_is)
    (case xt_InvalidNumber => k_is)
    (case xh_InvalidNumber => k_is)
    (case xk_InvalidNumber => k_is)
    (case xi_InvalidNumber => k_is)
    (case xq_InvalidNumber => first | rfl | k_is)
    (case na_InvalidNumber_value => k_is)
    (case gc_Touching => k_is)
    (case xl_Touching => k_is)
    (case xr_Touching => first | rfl | decide +kernel)
    (case xs_Touching => k_is)
    (case xa_Touching => k_is)
    (case xg_Touching => k_is)
    (case xe_Touching => k_is)
    (case xt_Touching => k_is)
    (case xh_Touching => k_is)
    (case xk_Touching => k_is)
    (case xi_Touching => k_is)
    (case xq_Touching => first | rfl | k_is)
    (case ea_Touching => k_is)
    (case eb_Touching => k_is)
    (case et_Touching => k_is)
    (case em_Touching => k_is)
    (case na_Touching_index => k_is)
    (case gc_Ratio => k_is)
    (case pg_Ratio => k_is)
    (case hd_Ratio => k_is)
    (case po_Ratio => k_is)
    (case sa_Ratio => k_is)
    (case tca_Ratio => k_is)
    (case tcb_Ratio => k_is)
    (case tcc_Ratio => k_is)
    (case tcd_Ratio => k_is)
    (case ric_Ratio => k_is)
    (case rty_Ratio => k_is)
    (case rss_Ratio => k_is)
    (case rda_Ratio => k_is)
    (case rdb_Ratio => k_is)
    (case mk_Ratio => k_is)
    (case kc_Ratio => k_is)
    (case sf_Ratio => k_is)
    (case mra_Ratio => k_is)
    (case mrb_Ratio => first | rfl | decide +kernel)
    (case st_Ratio_int => k_is)
    (case st_Ratio_bool => k_is)
    (case st_Ratio_str => k_is)
    (case st_Ratio_NoneType => k_is)
    (case st_Ratio_tuple => k_is)
    (case su_Ratio_int => k_is)
    (case su_Ratio_bool => k_is)
    (case su_Ratio_tuple => k_is)
    (case su_Ratio_str => k_is)
    (case su_Ratio_NoneType => k_is)
    (case fmo_Ratio => k_is)
    (case na_Ratio_top => k_is)
    (case na_Ratio_bottom => k_is)
    (case gc_Pool => k_is)
    (case pg_Pool => k_is)
    (case hd_Pool => k_is)
    (case po_Pool => k_is)
    (case sa_Pool => k_is)
    (case tca_Pool => k_is)
    (case tcb_Pool => k_is)
    (case tcc_Pool => k_is)
    (case tcd_Pool => k_is)
    (case ric_Pool => k_is)
    (case rty_Pool => k_is)
    (case rss_Pool => k_is)
    (case rda_Pool => k_is)
    (case rdb_Pool => k_is)
    (case mk_Pool => k_is)
    (case kc_Pool => k_is)
    (case sf_Pool => k_is)
    (case mra_Pool => k_is)
    (case mrb_Pool => first | rfl | decide +kernel)
    (case st_Pool_int => k_is)
    (case st_Pool_bool => k_is)
    (case st_Pool_str => k_is)
    (case st_Pool_NoneType => k_is)
    (case st_Pool_tuple => k_is)
    (case su_Pool_int => k_is)
    (case su_Pool_bool => k_is)
    (case su_Pool_tuple => k_is)
    (case su_Pool_str => k_is)
    (case su_Pool_NoneType => k_is)
    (case na_Pool__middle => k_is)
    (case na_Pool__volume => k_is)
    (case na_Pool__left => k_is)
    (case na_Pool__right => k_is)
    (case gc_Water => k_is)
    (case pg_Water => k_is)
    (case hd_Water => k_is)
    (case po_Water => k_is)
    (case sa_Water => k_is)
    (case tca_Water => k_is)
    (case tcb_Water => k_is)
    (case tcc_Water => k_is)
    (case tcd_Water => k_is)
    (case ric_Water => k_is)
    (case rty_Water => k_is)
    (case rss_Water => k_is)
    (case rda_Water => k_is)
    (case rdb_Water => k_is)
    (case mk_Water => k_is)
    (case kc_Water => k_is)
    (case sf_Water => k_is)
    (case mra_Water => k_is)
    (case mrb_Water => first | rfl | decide +kernel)
    (case st_Water_int => k_is)
    (case st_Water_bool => k_is)
    (case st_Water_str => k_is)
    (case st_Water_NoneType => k_is)
    (case st_Water_tuple => k_is)
    (case su_Water_int => k_is)
    (case su_Water_bool => k_is)
    (case su_Water_tuple => k_is)
    (case su_Water_str => k_is)
    (case su_Water_NoneType => k_is)
    (case neo_Water => k_is)
    (case na_Water__pools => k_is)
    (case sx_Touching_PoolError => first | rfl | k_is)
    (case sx_Touching_InvalidNumber => first | rfl | k_is)
    (case a_InvalidNumber_init_d => k_is)
    (case i_InvalidNumber_init_d => k_is)
    (case l_InvalidNumber_init_d => k_is)
    (case c_InvalidNumber_init_d => k_is)
    (case k_InvalidNumber_init_d => k_is)
    (case a_Touching_init_d => k_is)
    (case i_Touching_init_d => k_is)
    (case l_Touching_init_d => k_is)
    (case c_Touching_init_d => k_is)
    (case k_Touching_init_d => k_is)
    (case a_Ratio_init_d => k_is)
    (case i_Ratio_init_d => k_is)
    (case l_Ratio_init_d => k_is)
    (case dl_Ratio_init_d => k_is)
    (case dd_Ratio_init_d => rfl)
    (case dv_Ratio_init_d => exact .cons ⟨_, rfl⟩ .nil)
    (case c_Ratio_init_d => k_is)
    (case k_Ratio_init_d => k_is)
    (case a_Ratio_of => k_is)
    (case r_Ratio_of => k_is)
    (case i_Ratio_of => k_is)
    (case l_Ratio_of => k_is)
    (case c_Ratio_of => k_is)
    (case k_Ratio_of => k_is)
    (case a_Ratio_over => k_is)
    (case i_Ratio_over => k_is)
    (case l_Ratio_over => k_is)
    (case c_Ratio_over => k_is)
    (case k_Ratio_over => k_is)
    (case a_Ratio_add_d => k_is)
    (case i_Ratio_add_d => k_is)
    (case l_Ratio_add_d => k_is)
    (case c_Ratio_add_d => k_is)
    (case k_Ratio_add_d => k_is)
    (case br_Ratio_add_d => k_is)
    (case bp_Ratio_add_d => first | exact .inl rfl | exact .inr ⟨_, rfl⟩)
    (case bl_Ratio_add_d => k_is)
    (case bo_Ratio_add_d => k_is)
    (case ba_Ratio_add_d => k_is)
    (case n1_Ratio_add_d => k_is)
    (case n2_Ratio_add_d => k_is)
    (case a_Ratio_sub_d => k_is)
    (case i_Ratio_sub_d => k_is)
    (case l_Ratio_sub_d => k_is)
    (case c_Ratio_sub_d => k_is)
    (case k_Ratio_sub_d => k_is)
    (case br_Ratio_sub_d => k_is)
    (case bp_Ratio_sub_d => first | exact .inl rfl | exact .inr ⟨_, rfl⟩)
    (case bl_Ratio_sub_d => k_is)
    (case bo_Ratio_sub_d => k_is)
    (case ba_Ratio_sub_d => k_is)
    (case n1_Ratio_sub_d => k_is)
    (case n2_Ratio_sub_d => k_is)
    (case a_Ratio_eq_d => k_is)
    (case i_Ratio_eq_d => k_is)
    (case l_Ratio_eq_d => k_is)
    (case c_Ratio_eq_d => k_is)
    (case k_Ratio_eq_d => k_is)
    (case a_Ratio_ne_d => k_is)
    (case i_Ratio_ne_d => k_is)
    (case l_Ratio_ne_d => k_is)
    (case c_Ratio_ne_d => k_is)
    (case k_Ratio_ne_d => k_is)
    (case a_Ratio_lt_d => k_is)
    (case i_Ratio_lt_d => k_is)
    (case l_Ratio_lt_d => k_is)
    (case c_Ratio_lt_d => k_is)
    (case k_Ratio_lt_d => k_is)
    (case a_Ratio_le_d => k_is)
    (case i_Ratio_le_d => k_is)
    (case l_Ratio_le_d => k_is)
    (case c_Ratio_le_d => k_is)
    (case k_Ratio_le_d => k_is)
    (case a_Ratio_ge_d => k_is)
    (case i_Ratio_ge_d => k_is)
    (case l_Ratio_ge_d => k_is)
    (case c_Ratio_ge_d => k_is)
    (case k_Ratio_ge_d => k_is)
    (case a_Ratio_str_d => k_is)
    (case i_Ratio_str_d => k_is)
    (case l_Ratio_str_d => k_is)
    (case c_Ratio_str_d => k_is)
    (case k_Ratio_str_d => k_is)
    (case a_is_number => k_is)
    (case l_is_number => k_is)
    (case c_is_number => k_is)
    (case k_is_number => k_is)
    (case a_lead => k_is)
    (case l_lead => k_is)
    (case c_lead => k_is)
    (case k_lead => k_is)
    (case a_in_order => k_is)
    (case l_in_order => k_is)
    (case c_in_order => k_is)
    (case k_in_order => k_is)
    (case a_sorted_by => k_is)
    (case l_sorted_by => k_is)
    (case c_sorted_by => k_is)
    (case k_sorted_by => k_is)
    (case a_scale_of => k_is)
    (case l_scale_of => k_is)
    (case c_scale_of => k_is)
    (case k_scale_of => k_is)
    (case a_scaled => k_is)
    (case l_scaled => k_is)
    (case c_scaled => k_is)
    (case k_scaled => k_is)
    (case a_blocks_of => k_is)
    (case l_blocks_of => k_is)
    (case c_blocks_of => k_is)
    (case k_blocks_of => k_is)
    (case a_joined => k_is)
    (case l_joined => k_is)
    (case c_joined => k_is)
    (case k_joined => k_is)
    (case a_touch => k_is)
    (case l_touch => k_is)
    (case c_touch => k_is)
    (case k_touch => k_is)
    (case a_held => k_is)
    (case l_held => k_is)
    (case c_held => k_is)
    (case k_held => k_is)
    (case a_run_together => k_is)
    (case l_run_together => k_is)
    (case dl_run_together => k_is)
    (case dd_run_together => rfl)
    (case dv_run_together => exact .cons rfl .nil)
    (case c_run_together => k_is)
    (case k_run_together => k_is)
    (case a_Pool_init_d => k_is)
    (case i_Pool_init_d => k_is)
    (case l_Pool_init_d => k_is)
    (case c_Pool_init_d => k_is)
    (case k_Pool_init_d => k_is)
    (case a_Pool_middle => k_is)
    (case pg_Pool_middle => k_is)
    (case pt_Pool_middle => k_is)
    (case r_Pool_middle => k_is)
    (case l_Pool_middle => k_is)
    (case c_Pool_middle => k_is)
    (case k_Pool_middle => k_is)
    (case a_Pool_volume => k_is)
    (case pg_Pool_volume => k_is)
    (case pt_Pool_volume => k_is)
    (case r_Pool_volume => k_is)
    (case l_Pool_volume => k_is)
    (case c_Pool_volume => k_is)
    (case k_Pool_volume => k_is)
    (case a_Pool_left => k_is)
    (case pg_Pool_left => k_is)
    (case pt_Pool_left => k_is)
    (case r_Pool_left => k_is)
    (case l_Pool_left => k_is)
    (case c_Pool_left => k_is)
    (case k_Pool_left => k_is)
    (case a_Pool_right => k_is)
    (case pg_Pool_right => k_is)
    (case pt_Pool_right => k_is)
    (case r_Pool_right => k_is)
    (case l_Pool_right => k_is)
    (case c_Pool_right => k_is)
    (case k_Pool_right => k_is)
    (case a_Pool_eq_d => k_is)
    (case i_Pool_eq_d => k_is)
    (case l_Pool_eq_d => k_is)
    (case c_Pool_eq_d => k_is)
    (case k_Pool_eq_d => k_is)
    (case a_Water_init_d => k_is)
    (case i_Water_init_d => k_is)
    (case l_Water_init_d => k_is)
    (case dl_Water_init_d => k_is)
    (case dd_Water_init_d => rfl)
    (case dv_Water_init_d => exact .cons rfl .nil)
    (case c_Water_init_d => k_is)
    (case k_Water_init_d => k_is)
    (case a_Water_settled => k_is)
    (case r_Water_settled => k_is)
    (case i_Water_settled => k_is)
    (case l_Water_settled => k_is)
    (case c_Water_settled => k_is)
    (case k_Water_settled => k_is)
    (case a_Water_getitem_d => k_is)
    (case i_Water_getitem_d => k_is)
    (case l_Water_getitem_d => k_is)
    (case c_Water_getitem_d => k_is)
    (case k_Water_getitem_d => k_is)
    (case fn_Water_getitem_d => k_is)
    (case a_Water_len_d => k_is)
    (case i_Water_len_d => k_is)
    (case l_Water_len_d => k_is)
    (case c_Water_len_d => k_is)
    (case k_Water_len_d => k_is)
    (case a_Water_eq_d => k_is)
    (case i_Water_eq_d => k_is)
    (case l_Water_eq_d => k_is)
    (case c_Water_eq_d => k_is)
    (case k_Water_eq_d => k_is)
    (case a_Water_le_d => k_is)
    (case i_Water_le_d => k_is)
    (case l_Water_le_d => k_is)
    (case c_Water_le_d => k_is)
    (case k_Water_le_d => k_is)
    (case a_Water_lt_d => k_is)
    (case i_Water_lt_d => k_is)
    (case l_Water_lt_d => k_is)
    (case c_Water_lt_d => k_is)
    (case k_Water_lt_d => k_is)
    (case a_Water_ge_d => k_is)
    (case i_Water_ge_d => k_is)
    (case l_Water_ge_d => k_is)
    (case c_Water_ge_d => k_is)
    (case k_Water_ge_d => k_is)
    (case a_Water_gt_d => k_is)
    (case i_Water_gt_d => k_is)
    (case l_Water_gt_d => k_is)
    (case c_Water_gt_d => k_is)
    (case k_Water_gt_d => k_is)
    (case a_Water_str_d => k_is)
    (case i_Water_str_d => k_is)
    (case l_Water_str_d => k_is)
    (case c_Water_str_d => k_is)
    (case k_Water_str_d => k_is)
    (case a_settled_pools => k_is)
    (case l_settled_pools => k_is)
    (case c_settled_pools => k_is)
    (case k_settled_pools => k_is)
    (case a_lie_within => k_is)
    (case l_lie_within => k_is)
    (case c_lie_within => k_is)
    (case k_lie_within => k_is)
    (case a_row_of => k_is)
    (case l_row_of => k_is)
    (case c_row_of => k_is)
    (case k_row_of => k_is)
    (case a_lw_box => k_is)
    (case l_lw_box => k_is)
    (case c_lw_box => k_is)
    (case k_lw_box => k_is)
    (case a_lw_take => k_is)
    (case l_lw_take => k_is)
    (case c_lw_take => k_is)
    (case k_lw_take => k_is)
    (case a_lw_scene => k_is)
    (case l_lw_scene => k_is)
    (case c_lw_scene => k_is)
    (case k_lw_scene => k_is)
    (case a_lw_number => k_is)
    (case l_lw_number => k_is)
    (case c_lw_number => k_is)
    (case k_lw_number => k_is)
    (case a_lw_is => k_is)
    (case l_lw_is => k_is)
    (case c_lw_is => k_is)
    (case k_lw_is => k_is)
    (case a_lw_ordered => k_is)
    (case l_lw_ordered => k_is)
    (case c_lw_ordered => k_is)
    (case k_lw_ordered => k_is)
    (case a_lw_touch => k_is)
    (case l_lw_touch => k_is)
    (case c_lw_touch => k_is)
    (case k_lw_touch => k_is)
    (case a_lw_pools => k_is)
    (case l_lw_pools => k_is)
    (case c_lw_pools => k_is)
    (case k_lw_pools => k_is)
    (case a_lw_water => k_is)
    (case l_lw_water => k_is)
    (case c_lw_water => k_is)
    (case k_lw_water => k_is)
    (case a_lw_neighbours => k_is)
    (case l_lw_neighbours => k_is)
    (case c_lw_neighbours => k_is)
    (case k_lw_neighbours => k_is)
    (case a_lw_says => k_is)
    (case l_lw_says => k_is)
    (case c_lw_says => k_is)
    (case k_lw_says => k_is)
    (case a_lw_is_water => k_is)
    (case l_lw_is_water => k_is)
    (case c_lw_is_water => k_is)
    (case k_lw_is_water => k_is)
    (case a_lw_inside => k_is)
    (case l_lw_inside => k_is)
    (case c_lw_inside => k_is)
    (case k_lw_inside => k_is)
    (case a_lw_equal => k_is)
    (case l_lw_equal => k_is)
    (case c_lw_equal => k_is)
    (case k_lw_equal => k_is)
    (case a_lw_compared => k_is)
    (case l_lw_compared => k_is)
    (case c_lw_compared => k_is)
    (case k_lw_compared => k_is)
    (case a_lw_many_compared => k_is)
    (case l_lw_many_compared => k_is)
    (case c_lw_many_compared => k_is)
    (case k_lw_many_compared => k_is)
    (case a_law => k_is)
    (case l_law => k_is)
    (case c_law => k_is)
    (case k_law => k_is)
    (case le_empty => k_is)
    (case ce_empty => rfl)
    (case de_empty => rfl)
    (case xe_empty => trivial)
#print axioms PySem.Challenge.cw_poolsmeet_k11_waters_compared_holds

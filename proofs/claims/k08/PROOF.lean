import PyProof.Rows.All
import Wide.All
import OpenK.AllK
import Wide.FinOn
import KE.OsRunLaw
import KE.KOpsOwn
import KE.KCallOwn
import HandS.OwnEq
import HandS.ClsMeth
import HandS.Property
import HandS.ExcOwn
import HandS.ExcInit
import HandS.WordsExc
import HandS.Wide
import HandS.IsInst
import HandS.Defaults
import HandS.MakeKw
import HandS.MakeKwOnly
import HandS.ForMost
import HandS.Gcd
import HandS.FStr
import HandS.Flow
import HandS.ExcField
import HandS.Codes
import HandS.Style
import KE.KFmtOwn
import KE.KIsAll
import HandS.ExcIs
import HandS.Zip
import HandS.ListItems
import HandS.Walk
import PyProof.ReprLoop
import HandS.SortInts
import PySem.Challenge.RW_poolsmeet_k08_waters_made
set_option Elab.async false
set_option linter.all false
set_option maxRecDepth 100000
set_option maxHeartbeats 2000000
local macro_rules | `(tactic| k_head) => `(tactic| k_headL)
open PySem PySem.W PyProof.Rows in
set_option maxRecDepth 100000 in
set_option maxHeartbeats 0 in
open_top Pm.hd for PySem.Challenge.rw_poolsmeet_k08_waters_made
/-! Pm, part 1: rules for classes that define their own operators. -/
namespace Pm
open PySem PySem.Spec PyProof.Rows L2

/-! ### a def run at any place below the body -/
section
variable {X : Cx} {CX : CXT} {k : Nat} {A : Around} {f : Addr} {fd : FuncData} {ps : List Str} {sp : Sp} {E : XK}
  {pins : List (Addr × Obj)} {σ : L2.St} {H : Hp} {s : Shared} {Q : VK} {us : List Value} {vs : List V}
theorem run_at (sb : Sub X k A) (F : FnOk X.prog X.w X.K X.mg X.base CX k f fd ps sp) (hb : Binds X.K fd ps [])
    (hx : PassesAt CX X σ E) (I : Inv X pins σ H s) (r : Vals vs us) (h : sp vs H Q E) :
    wpAny (model X.prog X.w) A (call (.ref f) us) (EP X pins σ Q) X.xe s := by
  have len : us.length = ps.length := r.length.symm.trans (F.len _ _ _ _ h)
  have bt := hb s us I.kIn (by simpa using len)
  simp only [List.append_nil] at bt
  have e1 := I.env0
  have e0 : Env0 X.prog X.w X.K X.mg X.base A X.stack s H :=
    ⟨sb.fr.trans e1.frames, e1.mod, e1.bs, e1.bsz, e1.funs, e1.frf, e1.hok, e1.bare⟩
  refine wpAny_call (codeAny_mono (F.run A X.stack s H ⟨us, []⟩ us vs Q E sb.room e0 bt r h) fun res s' q => ?_)
  match res, q with
  | .error er, q => exact hx pins H s er s' I q
  | .ok (.ret u), q => exact I.after q
end

/-- no exception leaves: for any slots -/
theorem at0 {X : Cx} {σ : L2.St} : PassesAt CX0 X σ E0 := fun _ _ _ _ _ _ h => h.elim
theorem atL {X : Cx} {σ : L2.St} : PassesAt (L2.CX X.prog X.w) X σ E0 := fun pins H s e s' I h => passL pins σ H s e s' I h

/-- a special method of the class at C -/
structure Spc (K : PySem.W.Frag) (C : Addr) (name : Str) (f : Addr) : Prop where
  at_ : PySem.W.findIn K (.ref C) name = some (some (.ref f))
  fn : PySem.W.isFn K (.ref f) = true

/-- a two-place operation whose reading may look at the slots -/
def OpS (X : Cx) (f : Value → Value → Sem Value) (r : L2.St → R2) : Prop :=
  ∀ (pins : List (Addr × Obj)) (s : Shared) (σ : L2.St) (H : Hp) (x y : V) (v u : Value) (Q : VK), Inv X pins σ H s → RelV x v → RelV y u → r σ x y H Q →
    wpAny (model X.prog X.w) X.A (f v u) (EP X pins σ Q) X.xe s
theorem OpR.S {X : Cx} {f : Value → Value → Sem Value} {r : R2} (h : OpR X f r) : OpS X f (fun _ => r) := fun pins s σ H x y v u Q => h pins s σ H x y v u Q
theorem OpS.or {X : Cx} {f : Value → Value → Sem Value} {r r' : L2.St → R2} (h : OpS X f r) (h' : OpS X f r') : OpS X f (fun σ x y H Q => r σ x y H Q ∨ r' σ x y H Q) :=
  fun pins s σ H x y v u Q I rx ry z => z.elim (h pins s σ H x y v u Q I rx ry) (h' pins s σ H x y v u Q I rx ry)
def tOpS (r : L2.St → R2) (ta tb : TE) : TE := fun σ H Q => ta σ H fun x H1 => tb σ H1 fun y H2 => r σ x y H2 Q
section
variable {X : Cx} {a b : Expr} {ta tb : TE} {pos : Pos}
theorem pe_opS {op : Operator} {r : L2.St → R2} (ho : OpS X (binaryOp op) r) (ha : PE X a ta) (hb : PE X b tb) : PE X (.BinOp a op b pos) (tOpS r ta tb) := by
  refine ⟨fun pins s σ H Q I h => wpAny_BinOp ?_⟩
  refine thn (ha.run pins s σ H _ I h) fun v s1 ⟨x, H1, I1, r1, q1⟩ => ?_
  refine thn (hb.run pins s1 σ H1 _ I1 q1) fun u s2 ⟨y, H2, I2, r2, q2⟩ => ?_
  exact ho pins s2 σ H2 x y v u Q I2 r1 r2 q2
end

/-- the instance at a, for the library's rules -/
theorem inst_of {X : Cx} {pins : List (Addr × Obj)} {σ : L2.St} {H : Hp} {s : Shared} {a C dx : Addr} {fs : List (Str × V)} (I : Inv X pins σ H s) (ea : H a = some (.ins C dx fs)) :
    ∃ od, PySem.W.InstAt s.heap a (PySem.W.instObj C dx) C (some od) := by
  obtain ⟨mA, J, _⟩ := ins_get I.hok ea
  obtain ⟨od, J', _⟩ := J.look
  exact ⟨od, J'⟩
theorem rel_back {X : Cx} {pins : List (Addr × Obj)} {σ : L2.St} {Q : VK} {u : Value} {s' : Shared} (h : EP X pins σ Q u s') : PySem.W.CmpBack (EP X pins σ Q) u s' := by
  obtain ⟨v, H', I, r, q⟩ := id h
  cases u <;> first | exact h | skip
  cases v <;> first | (cases r; done) | (obtain ⟨t, z⟩ := r; exact nomatch z)

theorem self1 {a : Addr} : Vals [V.ref a] [Value.ref a] := .cons rfl .nil
/-! ### one place: -x, abs(x), str(x), repr(x), bool(x) -/
section
variable {X : Cx} {CX : CXT} {k : Nat} {C f : Addr} {fd : FuncData} {ps : List Str} {sp : Sp} {E : XK}
/-- the value is an instance of the class at C; its method is asked -/
def r1O (C : Addr) (sp : Sp) (E : XK) : V → Hp → VK → Prop := fun x H Q => ∃ a dx fs, x = .ref a ∧ H a = some (.ins C dx fs) ∧ sp [.ref a] H Q E
theorem un_negO (S : Spc X.K C "__neg__" f) (F : FnOk X.prog X.w X.K X.mg X.base CX k f fd ps sp) (hr : Room k X.A) (hb : Binds X.K fd ps []) (hx : Passes CX X E) :
    UnR X (unaryOp .USub) (r1O C sp E) := by
  rintro pins s σ H x u Q I rx ⟨a, dx, fs, rfl, ea, q⟩
  cases rx
  obtain ⟨od, J⟩ := inst_of I ea
  obtain ⟨m, fr⟩ := I.fr
  exact PySem.W.ksp_neg fr I.ok.mod.kin J S.at_ S.fn (run_at ⟨hr, rfl⟩ F hb (hx · σ) I self1 q)
def rc1O (C : Addr) (sp : Sp) (E : XK) (W : V → Prop) : List V → Hp → VK → Prop := fun xs H Q => ∃ a dx fs, xs = [.ref a] ∧ H a = some (.ins C dx fs) ∧ sp [.ref a] H (fun v H' => W v ∧ Q v H') E
theorem sub_self {X : Cx} {k : Nat} (hr : Room k X.A) : Sub X k X.A := ⟨hr, rfl⟩
theorem strback {pins : List (Addr × Obj)} {σ : L2.St} {Q : VK} {u : Value} {s' : Shared} (h : EP X pins σ (fun v H' => (∃ z, v = .str z) ∧ Q v H') u s') : PySem.W.StrBack (EP X pins σ Q) u s' := by
  obtain ⟨v, H', I, r, ⟨z, rfl⟩, q⟩ := h
  obtain ⟨t, rfl⟩ := r
  exact ⟨.str z, H', I, ⟨t, rfl⟩, q⟩
theorem call_reprO (S : Spc X.K C "__repr__" f) (F : FnOk X.prog X.w X.K X.mg X.base CX k f fd ps sp) (hr : Room (k + 1) X.A) (hb : Binds X.K fd ps []) (hx : Passes CX X E) :
    CallR X (.builtin "repr") (rc1O C sp E fun v => ∃ z, v = .str z) := by
  rintro pins s σ H xs us Q I r ⟨a, dx, fs, rfl, ea, q⟩
  obtain rfl := Vals.ref1 r
  obtain ⟨od, J⟩ := inst_of I ea
  obtain ⟨m, fr⟩ := I.fr
  have sb := (sub_self hr).in1
  exact PySem.W.repr_K sb.room.units0 fr I.ok.mod.kin J S.at_ S.fn (thn (run_at sb F hb (hx · σ) I self1 q) fun u s' => strback)
theorem call_strO (S : Spc X.K C "__str__" f) (F : FnOk X.prog X.w X.K X.mg X.base CX k f fd ps sp) (hr : Room (k + 2) X.A) (hb : Binds X.K fd ps []) (hx : Passes CX X E) :
    CallR X (.type "str") (rc1O C sp E fun v => ∃ z, v = .str z) := by
  rintro pins s σ H xs us Q I r ⟨a, dx, fs, rfl, ea, q⟩
  obtain rfl := Vals.ref1 r
  obtain ⟨od, J⟩ := inst_of I ea
  have sb := (sub_self hr).in1.in1
  exact PySem.W.kso_call sb.room.units0 I.kIn J S.at_ S.fn (thn (run_at sb F hb (hx · σ) I self1 q) fun u s' => strback)
theorem call_absO (S : Spc X.K C "__abs__" f) (F : FnOk X.prog X.w X.K X.mg X.base CX k f fd ps sp) (hr : Room (k + 1) X.A) (hb : Binds X.K fd ps []) (hx : Passes CX X E) :
    CallR X (.builtin "abs") (rc1O C sp E fun _ => True) := by
  rintro pins s σ H xs us Q I r ⟨a, dx, fs, rfl, ea, q⟩
  obtain rfl := Vals.ref1 r
  obtain ⟨od, J⟩ := inst_of I ea
  have sb := (sub_self hr).in1
  have go := run_at sb F hb (hx · σ) I self1 q
  refine Calls.call_function_entry PyProof.Rows.kind_abs PyProof.Rows.plain_abs PyProof.Rows.entry_abs (PyProof.Rows.args_abs _) ?_
  unfold Builtin.«abs»
  refine wpAny_bind (m := oneArg "abs" _) (wpAny_pure ?_)
  refine wpAny_bind (PySem.W.special_fn I.kIn J S.at_ (beq_iff_eq.mp S.fn) (thn go fun u s' z => ?_))
  obtain ⟨v, H', I', r', _, q'⟩ := z
  exact wpAny_pure ⟨_, rfl, v, H', I', r', q'⟩
theorem call_boolO (S : Spc X.K C "__bool__" f) (F : FnOk X.prog X.w X.K X.mg X.base CX k f fd ps sp) (hr : Room (k + 2) X.A) (hb : Binds X.K fd ps []) (hx : Passes CX X E) :
    CallR X (.type "bool") (rc1O C sp E fun v => ∃ b, v = .bl b) := by
  rintro pins s σ H xs us Q I r ⟨a, dx, fs, rfl, ea, q⟩
  obtain rfl := Vals.ref1 r
  obtain ⟨od, J⟩ := inst_of I ea
  obtain ⟨m, fr⟩ := I.fr
  have sb := (sub_self hr).in1
  have sb2 : L2.Sub X k X.A.in1.in1 := (sub_self hr).in1.in1
  have go := fun s1 (I1 : L2.Inv X pins σ H s1) => run_at sb2 F hb (hx · σ) I1 self1 q
  refine callType_codes (T := "bool") (Bi := Builtin.«object.__init__») (Q₁ := fun r s₁ => ∃ y, r = .bool y ∧ EP X pins σ Q r s₁) PySem.F.called_bool (PySem.F.typeCall_bool_1 _) PySem.F.entry_object_init ?_ ?_
  · refine codeAny_of_tree ?_
    show wpAny _ X.A.in1.in1 (do checkBuiltinCall "bool.__new__" ⟨[.type "bool", .ref a], []⟩; again (.builtin "bool.__new__" ⟨[.type "bool", .ref a], []⟩)) _ _ s
    refine wpAny_bind (wpAny_of_eq (PySem.F.newCall_bool_1 _) (wpAny_pure ⟨plainId_quiet (by decide +kernel) _, codeAny_builtin PySem.F.entry_bool_new ?_⟩))
    rw [Around.under_plainId (by decide +kernel) _]
    have tr : wpAny (model X.prog X.w) X.A.in1.in1 (truthy (.ref a)) (fun b s' => EP X pins σ Q (.bool b) s') X.xe s := by
      refine PySem.W.truthy_K fr I.ok.mod.kin J S.at_ S.fn (thn (go s I) fun u s' z => ?_)
      obtain ⟨v, H', I', r', ⟨b, rfl⟩, q'⟩ := z
      cases r'
      exact ⟨.bl b, H', I', rfl, q'⟩
    have f1 := PySem.F.conv_sub_bool
    obtain ⟨hp, g, d, tk, os⟩ := s
    unfold Builtin.«bool.__new__»
    repeat (first | (with_reducible refine wpAny_bind (wpAny_mono tr (fun b s' z => ?_) fun _ _ z => z)) | wp_step)
    exact ⟨b, rfl, z⟩
  · rintro obj s₁ ⟨y, rfl, hq⟩
    have ty : ∀ s : Shared, s.TypeIs (.bool y) "bool" := fun s => PySem.typeIs_bool s y
    exact ⟨ty _, PySem.F.args_object_init_2 _ _, object_init_meets PySem.F.called_bool.init.lookup PySem.F.called_bool.made (by decide) X.prog X.w X.A.in1 _ s₁ ⟨ty _, rfl, hq⟩⟩
end

/-! ### two places, the left one an instance of the class at C -/
/-- what the written part says of C's operator nm (its def at f), beside ints -/
structure Bin (K : PySem.W.Frag) (C : Addr) (nm : String) (f : Addr) : Prop where
  sf : PySem.W.selfFirst K C = true
  at_ : PySem.W.findIn K (.ref C) (PySem.dunder nm) = some (some (.ref f))
  fn : PySem.W.isFn K (.ref f) = true
  rv : ∃ rc, PySem.W.findIn K (.ref C) (dunderR nm) = some rc ∧ (rc = none ∨ ∃ g : Addr, rc = some (.ref g))
  il : ∃ fo, PySem.W.findIn K (.type "int") (PySem.dunder nm) = some fo
  ir : ∃ ro, PySem.W.findIn K (.type "int") (dunderR nm) = some ro
  su : PySem.W.subIn K (.type "int") (.ref C) = some false
section
variable {prog : Program} {w : World} {A : Around} {E : Value → Shared → Prop} {s : Shared} {K : PySem.W.Frag} {x C f : Addr} {nm : String} {ox : Obj} {od : Option Obj} {Q : Value → Shared → Prop}
open PySem.W
/-- some value comes of it -/
abbrev Gave (Q : Value → Shared → Prop) : Option Value → Shared → Prop := fun r s' => ∃ v, r = some v ∧ Q v s'
theorem bin1_int {i : Int} {t : Tok} (B : Bin K C nm f) (X : K.In s.heap) (I : InstAt s.heap x ox C od)
    (h : wpAny (model prog w) A (call (.ref f) [.ref x, .int i t]) (PySem.W.CmpBack Q) E s) :
    wpAny (model prog w) A (binaryOp1 nm (.ref x) (.int i t)) (Gave Q) E s := by
  obtain ⟨cd, rest, hcd, hm⟩ := ksp_first B.sf
  obtain ⟨fo, h1⟩ := B.il
  obtain ⟨ro, h2⟩ := B.ir
  obtain ⟨rc, hr, hp⟩ := B.rv
  have one := ksp_try X I B.at_ B.fn h
  obtain ⟨hh, g, d, tt, os⟩ := s
  have A1 : Looks (model prog w) hh (typeOf (.ref x)) (.ref C) := I.type
  have A2 : Looks (model prog w) hh (typeOf (.int i t)) (.type "int") := .of_pure rfl
  have A3 : Looks (model prog w) hh (fillsNumberSlot (.ref C) nm) true := fills_K X hcd hm B.at_
  have A4 : Looks (model prog w) hh (fillsNumberSlot (.type "int") nm) _ := ksp_fillsT X h1 h2
  have A5 : Looks (model prog w) hh (isSubtype (.type "int") (.ref C)) false := looks_subIn X B.su
  have A6 : Looks (model prog w) hh (numberSlotInPython (.ref C) nm) true := ksp_inPy X B.at_ hr hp
  have A7 : Looks (model prog w) hh (numberSlotInPython (.type "int") nm) false := .of_pure rfl
  have A8 : Looks (model prog w) hh (typeLookup (.type "int") (dunderR nm)) ro := looks_findIn X h2
  generalize ((fo.isSome && !isSeqSlot fo) || (ro.isSome && !isSeqSlot ro)) = right at A4
  have part : (Value.ref C == Value.type "int") = false := by simp
  unfold binaryOp1
  refine wpAny_bind (A1.at (wpAny_bind (A2.at (wpAny_bind (A3.at ?_)))))
  rw [part]
  cases right with
  | false => ksp_lk; exact wpAny_mono one (fun r s' ⟨v, e, q⟩ => by subst e; ksp_lk; exact ⟨v, rfl, q⟩) fun _ _ e => e
  | true => ksp_lk; exact wpAny_mono one (fun r s' ⟨v, e, q⟩ => by subst e; ksp_lk; exact ⟨v, rfl, q⟩) fun _ _ e => e
theorem bin1_own {y : Addr} (B : Bin K C nm f) (X : K.In s.heap) (I : InstAt s.heap x ox C od) (ty : Looks (model prog w) s.heap (typeOf (.ref y)) (.ref C))
    (h : wpAny (model prog w) A (call (.ref f) [.ref x, .ref y]) (PySem.W.CmpBack Q) E s) :
    wpAny (model prog w) A (binaryOp1 nm (.ref x) (.ref y)) (Gave Q) E s := by
  obtain ⟨cd, rest, hcd, hm⟩ := ksp_first B.sf
  have one := ksp_try X I B.at_ B.fn h
  obtain ⟨hh, g, d, tt, os⟩ := s
  have A1 : Looks (model prog w) hh (typeOf (.ref x)) (.ref C) := I.type
  have A2 : Looks (model prog w) hh (typeOf (.ref y)) (.ref C) := ty
  have A3 : Looks (model prog w) hh (fillsNumberSlot (.ref C) nm) true := fills_K X hcd hm B.at_
  unfold binaryOp1
  refine wpAny_bind (A1.at (wpAny_bind (A2.at (wpAny_bind (A3.at ?_)))))
  rw [show (Value.ref C == Value.ref C) = true from beq_self_eq_true _]
  ksp_lk
  exact wpAny_mono one (fun r s' ⟨v, e, q⟩ => by subst e; ksp_lk; exact ⟨v, rfl, q⟩) fun _ _ e => e
theorem bin_of {op : Operator} {a b : Value} (h : wpAny (model prog w) A (binaryOp1 op.info.2 a b) (Gave Q) E s) : wpAny (model prog w) A (binaryOp op a b) Q E s := by
  unfold binaryOp
  refine wpAny_holding (wpAny_bind (wpAny_mono h (fun r s' ⟨v, e, q⟩ => ?_) fun _ _ e => e))
  subst e
  exact wpAny_pure q

/-- C has no operator op= of its own -/
structure NoIn (K : PySem.W.Frag) (C : Addr) (nm : String) : Prop where
  mro : ∃ cd, PySem.W.clsIn K C = some cd ∧ cd.mro = [.ref C, .type "object"]
  no1 : PySem.W.findIn K (.ref C) (dunderI nm) = some none
  no2 : PySem.W.findIn K (.type "object") (dunderI nm) = some none
theorem noIn_fills {add : Bool} {h : Heap} (N : NoIn K C nm) (X : K.In h) : Looks (model prog w) h (fillsInplaceSlot (.ref C) nm add) false := by
  obtain ⟨cd, hcd, hm⟩ := N.mro
  intro A' Q' E' s' k q
  obtain ⟨hh, g, d, tt, os⟩ := s'
  have X' : K.In hh := X.keeps k
  have B0 : Looks (model prog w) hh (mroOf (.ref C)) cd.mro := (looks_clsIn X' hcd).andThen (f := fun cd => pure cd.mro) .now
  have B1 : Looks (model prog w) hh (typeLookup (.ref C) (dunderI nm)) none := looks_findIn X' N.no1
  have B2 : Looks (model prog w) hh (typeLookup (.type "object") (dunderI nm)) none := looks_findIn X' N.no2
  unfold fillsInplaceSlot
  refine wpAny_bind (B0.at ?_)
  rw [hm, List.anyM_cons]
  refine wpAny_bind (wpAny_bind (B1.at (wpAny_pure ?_)))
  rw [if_neg Bool.false_ne_true, List.anyM_cons]
  refine wpAny_bind (wpAny_bind (B2.at (wpAny_pure ?_)))
  rw [if_neg Bool.false_ne_true, List.anyM_nil]
  exact wpAny_pure q
theorem inplace_of {op : Operator} {b : Value} (N : NoIn K C op.info.2) (X : K.In s.heap) (I : InstAt s.heap x ox C od)
    (h : wpAny (model prog w) A (binaryOp1 op.info.2 (.ref x) b) (Gave Q) E s) : wpAny (model prog w) A (inplaceOp op (.ref x) b) Q E s := by
  have A1 : Looks (model prog w) s.heap (typeOf (.ref x)) (.ref C) := I.type
  have A2 := noIn_fills (prog := prog) (w := w) (add := op == .Add) N X
  unfold inplaceOp
  refine wpAny_holding (wpAny_bind (A1.here (wpAny_bind (A2.here ?_))))
  rw [if_neg Bool.false_ne_true]
  refine wpAny_bind (wpAny_mono h (fun r s' ⟨v, e, q⟩ => ?_) fun _ _ e => e)
  subst e
  exact wpAny_pure q
end
/-- the operator's reading: the other one an int or an instance of C -/
def r2O (C : Addr) (sp : Sp) (E : L2.St → XK) : L2.St → R2 := fun σ x y H Q => ∃ a dx fs, x = .ref a ∧ H a = some (.ins C dx fs) ∧
  ((∃ i, y = .int i) ∨ ∃ b dy gs, y = .ref b ∧ H b = some (.ins C dy gs)) ∧ sp [x, y] H Q (E σ)
section
variable {X : Cx} {CX : CXT} {k : Nat} {C f : Addr} {fd : FuncData} {ps : List Str} {sp : Sp} {E : L2.St → XK} {op : Operator}
theorem bin1_O (B : Bin X.K C op.info.2 f) (F : FnOk X.prog X.w X.K X.mg X.base CX k f fd ps sp) (hr : Room k X.A) (hb : Binds X.K fd ps []) (hx : ∀ σ, PassesAt CX X σ (E σ))
    {pins : List (Addr × Obj)} {σ : L2.St} {H : Hp} {s : Shared} {x y : V} {v u : Value} {Q : VK} (I : L2.Inv X pins σ H s) (rx : RelV x v) (ry : RelV y u) (h : r2O C sp E σ x y H Q) :
    wpAny (model X.prog X.w) X.A (binaryOp1 op.info.2 v u) (Gave (EP X pins σ Q)) X.xe s := by
  obtain ⟨a, dx, fs, rfl, ea, ty, q⟩ := h
  obtain rfl : v = Value.ref a := rx
  obtain ⟨od, J⟩ := inst_of I ea
  have go : wpAny (model X.prog X.w) X.A (call (.ref f) [.ref a, u]) (PySem.W.CmpBack (EP X pins σ Q)) X.xe s :=
    thn (run_at (sub_self hr) F hb (hx σ) I (show Vals [V.ref a, y] [Value.ref a, u] from .cons rfl (.cons ry .nil)) q) fun u' s' z => rel_back z
  rcases ty with ⟨i, rfl⟩ | ⟨b, dy, gs, rfl, eb⟩
  · obtain ⟨t, rfl⟩ := ry
    exact bin1_int B I.kIn J go
  · obtain rfl : u = Value.ref b := ry
    obtain ⟨od', J'⟩ := inst_of I eb
    exact bin1_own B I.kIn J J'.type go
theorem ops_bin (B : Bin X.K C op.info.2 f) (F : FnOk X.prog X.w X.K X.mg X.base CX k f fd ps sp) (hr : Room k X.A) (hb : Binds X.K fd ps []) (hx : ∀ σ, PassesAt CX X σ (E σ)) :
    OpS X (binaryOp op) (r2O C sp E) := fun pins s σ H x y v u Q I rx ry h => bin_of (bin1_O B F hr hb hx I rx ry h)
theorem ops_in (B : Bin X.K C op.info.2 f) (N : NoIn X.K C op.info.2) (F : FnOk X.prog X.w X.K X.mg X.base CX k f fd ps sp) (hr : Room k X.A) (hb : Binds X.K fd ps []) (hx : ∀ σ, PassesAt CX X σ (E σ)) :
    OpS X (inplaceOp op) (r2O C sp E) := by
  intro pins s σ H x y v u Q I rx ry h
  have z := bin1_O B F hr hb hx I rx ry h
  obtain ⟨a, dx, fs, rfl, ea, _⟩ := h
  obtain rfl : v = Value.ref a := rx
  obtain ⟨od, J⟩ := inst_of I ea
  exact inplace_of N I.kIn J z
end
end Pm

/-! Pm, part 2: calls; defs that know that no repr runs around them. -/
namespace Pm
open PySem PySem.Spec PyProof.Rows L2

/-- no repr of a list, tuple or dict runs around -/
abbrev GG (A : Around) : Prop := A.guards = some []
/-- a def's promise, where no such repr runs around -/
structure FnG (P : Program) (w : World) (K : PySem.W.Frag) (mg : Str → Option Value) (base : Heap) (CX : CXT) (k : Nat) (f : Addr) (fd : FuncData) (ps : List Str) (sp : Sp) : Prop where
  len : ∀ vs H Q E, sp vs H Q E → vs.length = ps.length
  run : ∀ {A : Around} {outer : List Env} {s : Shared} {H : Hp} {args : Args} {us : List Value} {vs : List V} {Q : VK} {E : XK}, GG A → Room k A → Env0 P w K mg base A outer s H →
    BindsTo s fd args (ps.zip us) → Vals vs us → sp vs H Q E → codeAny (model P w) A (.call (.ref f) args) (CR CX outer P w H s Q E) s

section
variable {P : Program} {w : World} {K : PySem.W.Frag} {mg : Str → Option Value} {base : Heap} {CX : CXT} {k j : Nat} {f : Addr} {fd : FuncData} {N ps : List Str} {sp : Sp} {x qual : Str} {st : Stmt}
theorem FnG.of (F : FnOk P w K mg base CX k f fd ps sp) : FnG P w K mg base CX k f fd ps sp := ⟨F.len, fun _ hr e b r h => F.run _ _ _ _ _ _ _ _ _ hr e b r h⟩
theorem FnG.mono (F : FnG P w K mg base CX j f fd ps sp) (h : j ≤ k) : FnG P w K mg base CX k f fd ps sp := ⟨F.len, fun g hr e b r q => F.run g (hr.mono h) e b r q⟩
theorem FnG.imp {sp' : Sp} (F : FnG P w K mg base CX k f fd ps sp) (h : ∀ vs H Q E, sp' vs H Q E → sp vs H Q E) : FnG P w K mg base CX k f fd ps sp' :=
  ⟨fun vs H Q E q => F.len vs H Q E (h _ _ _ _ q), fun g hr e b r q => F.run g hr e b r (h _ _ _ _ q)⟩
/-- by the body -/
theorem goX (F : Fun K x qual st f fd) (S : FnScope N ps (defScope st)) (len : ∀ vs H Q E, sp vs H Q E → vs.length = ps.length)
    (body : ∀ (cdv : Value) (A : Around) (outer : List Env) (s : Shared) (H : Hp) (vs : List V) (Q : VK) (E : XK), GG (A.deeper (envOfC qual (defScope st) s.heap.objs.size f cdv)) →
      Room k (A.deeper (envOfC qual (defScope st) s.heap.objs.size f cdv)) → sp vs H Q E →
      ∃ t, PSs (cxOf CX P w K mg base N qual (defScope st) f cdv A outer s H E) (defBody st) t ∧ t { nx := fun _ H' => Q .non H', rt := Q } (start N vs) H) :
    FnG P w K mg base CX (k + 1) f fd ps sp := by
  obtain ⟨oc, od, kV, doc, pm, an, cdv, ct, osl, rfl, lk, hcd⟩ := F.ex
  refine ⟨len, fun {A outer s H args us vs Q E} g hr e0 hb r hsp => ?_⟩
  have inH : K.In s.heap := e0.mod.kin.keeps fun b o e => (e0.bs b o e).1
  refine codeAny_call_function hr.depth (inH _ _ lk) rfl S.co S.gen rfl (PySem.W.codeRec_of inH hcd) (hb _ _ _ _ ?_)
  refine wpAny_newFunctionEnv_cells S.kind (fun y hy => ?_) fun env he s1 ic => ?_
  · cases S.par y.1 (List.of_mem_zip hy).1 with
    | inl q => exact .inl q
    | inr q => exact .inr ⟨q, PySem.W.cellsFrom_some _ _ _ (.inl q)⟩
  · subst he
    have lim : s.heap.NoLimit := e0.mod.nolimit.keeps fun b o e => (e0.bs b o e).1
    refine ⟨lim.keeps ic.toInCall.keep, codeAny_func ?_⟩
    obtain ⟨t, ht, hq⟩ := body cdv A outer s H vs Q E g (hr.deeper _) hsp
    have I := inv_start (CX := CX) (E := E) S hr.hd e0 (len _ _ _ _ hsp) r ic
    refine wpAny_mono (ht.run [] s1 (start N vs) H _ I hq) (fun fl s' z => ?_) fun e s' z => z
    match fl, z with
    | .ret u, ⟨v, _, H', J, rv, q⟩ => exact ⟨v, H', J.os, J.bare, J.base, J.hok, rv, q⟩
    | .next, ⟨_, H', J, q⟩ => exact ⟨V.non, H', J.os, J.bare, J.base, J.hok, rfl, q⟩
    | .brk, ⟨_, _, _, q⟩ => exact q.elim
    | .cont, ⟨_, _, _, q⟩ => exact q.elim
theorem go0 (F : Fun K x qual st f fd) (S : FnScope N ps (defScope st)) (len : ∀ vs H Q E, sp vs H Q E → vs.length = ps.length)
    (body : ∀ (cdv : Value) (A : Around) (outer : List Env) (s : Shared) (H : Hp) (vs : List V) (Q : VK) (E : XK), GG (A.deeper (envOfC qual (defScope st) s.heap.objs.size f cdv)) →
      Room k (A.deeper (envOfC qual (defScope st) s.heap.objs.size f cdv)) → sp vs H Q E →
      ∃ t, PSs (cxOf CX0 P w K mg base N qual (defScope st) f cdv A outer s H E).nox (defBody st) t ∧ t { nx := fun _ H' => Q .non H', rt := Q } (start N vs) H) :
    FnG P w K mg base CX0 (k + 1) f fd ps sp :=
  goX F S len fun cdv A outer s H vs Q E g hr h => let ⟨t, a, b⟩ := body cdv A outer s H vs Q E g hr h; ⟨t, a.nox, b⟩
end

/-! ### the ends of calls -/
section
variable {X : Cx} {CX : CXT} {k n : Nat} {f C : Addr} {fd : FuncData} {ps ks : List Str} {sp : Sp} {E : L2.St → XK} {x m : Str} {p pos apos : Pos} {e o : Expr} {es : List Expr} {kws : List Keyword} {ta : TE} {t tk : TA}
  {g : List Value → List Value → List Value} {gV : List V → List V → List V}
/-- what lies behind a call's end -/
theorem call_end {pins : List (Addr × Obj)} {σ : L2.St} {H : Hp} {s : Shared} {Q : VK} {E' : XK} (hx : PassesAt CX X σ E') (I : L2.Inv X pins σ H s) (c : Code) {A : Around}
    (h : codeAny (model X.prog X.w) A c (CR CX X.stack X.prog X.w H s Q E') s) :
    codeAny (model X.prog X.w) A c (fun r s' => match r with | .ok (.ret v) => EP X pins σ Q v s' | .ok _ => False | .error e => X.xe e s') s :=
  codeAny_mono h fun r s' q => match r, q with
    | .error er, q => hx pins H s er s' I q
    | .ok (.ret _), q => I.after q
/-- f(e, ..), a def of the module -/
def tCl (sp : Sp) (E : L2.St → XK) (t : TA) : TE := fun σ H Q => t σ H fun vs H1 => sp vs H1 Q (E σ)
theorem pe_g (gg : GG X.A) (F : FnG X.prog X.w X.K X.mg X.base CX k f fd ps sp) (hr : Room k X.A) (hg : Gl X x) (hm : X.mg x = some (.ref f)) (hk : PySem.W.keepIn X.K (.ref f) = true) (hb : Binds X.K fd ps []) (hx : ∀ σ, PassesAt CX X σ (E σ))
    (ha : PA X (e :: es) t) (hdb : (x == ("__debug__" : Str)) = false := by decide) (he : starEach (e :: es) X.env = (false, eval e X.env) :: starEach es X.env := by rfl) (hpl : (backTo pos (starEach es X.env)).any (·.1) = false := by rfl) :
    PE X (.Call (.Name x p) (e :: es) [] pos) (tCl sp E t) := by
  refine ⟨fun pins s σ H Q I h => wpAny_Call_Name_kw (ld_glob I hg hm ?_ hdb)⟩
  refine PySem.W.callWith_K (h₀ := X.base) I.ok.mod.kin hk (thn (ha.run pos pins s σ H _ I h) fun us s1 ⟨vs, H1, I1, r, q⟩ => ⟨I1.kIn, ?_⟩) he hpl
  have len : us.length = ps.length := r.length.symm.trans (F.len _ _ _ _ q)
  have bt := hb s1 us I1.kIn (by simpa using len)
  simp only [List.append_nil] at bt
  exact wpAny_call (call_end (hx σ) I1 _ (F.run gg hr I1.env0 bt r q))
/-- the same from a def that needs not know it -/
theorem pe_f (F : FnOk X.prog X.w X.K X.mg X.base CX k f fd ps sp) (hr : Room k X.A) (hg : Gl X x) (hm : X.mg x = some (.ref f)) (hk : PySem.W.keepIn X.K (.ref f) = true) (hb : Binds X.K fd ps []) (hx : ∀ σ, PassesAt CX X σ (E σ))
    (ha : PA X (e :: es) t) (hdb : (x == ("__debug__" : Str)) = false := by decide) (he : starEach (e :: es) X.env = (false, eval e X.env) :: starEach es X.env := by rfl) (hpl : (backTo pos (starEach es X.env)).any (·.1) = false := by rfl) :
    PE X (.Call (.Name x p) (e :: es) [] pos) (tCl sp E t) := by
  refine ⟨fun pins s σ H Q I h => wpAny_Call_Name_kw (ld_glob I hg hm ?_ hdb)⟩
  refine PySem.W.callWith_K (h₀ := X.base) I.ok.mod.kin hk (thn (ha.run pos pins s σ H _ I h) fun us s1 ⟨vs, H1, I1, r, q⟩ => ⟨I1.kIn, ?_⟩) he hpl
  exact run_at (sub_self hr) F hb (hx σ) I1 r q

/-! ### C(..), C an own class; the arguments as KBn says -/
theorem run_mk {pins : List (Addr × Obj)} {σ : L2.St} {H : Hp} {s : Shared} {Q : VK} {us ws : List Value} {vs zs : List V} (M : Mk X.K C f) (F : FnOk X.prog X.w X.K X.mg X.base CX k f fd ps sp) (hr : Room (k + 1) X.A) (hb : KBn X.K fd ps (n + 1) ks g gV)
    (hx : ∀ σ, PassesAt CX X σ (E σ)) (I : L2.Inv X pins σ H s) (r : Vals vs us) (rz : Vals zs ws) (l1 : vs.length = n) (l2 : zs.length = ks.length)
    (h : ∀ x dx, H x = none → H dx = none → dx ≠ x → sp (gV (.ref x :: vs) zs) (upd (upd H dx (.own x)) x (.ins C dx [])) (fun v H2 => v = .non ∧ Q (.ref x) H2) (E σ)) :
    wpAny (model X.prog X.w) X.A (call (.ref C) us (ks.zip ws)) (EP X pins σ Q) X.xe s := by
  have new := h (s.heap.objs.size + 1) s.heap.objs.size (I.hok.fresh (Nat.le_succ _)) (I.hok.fresh (Nat.le_refl _)) (Nat.ne_of_lt (Nat.lt_succ_self _))
  have J := L2.Inv.made (C := C) I
  have ru : Vals (V.ref (s.heap.objs.size + 1) :: vs) (Value.ref (s.heap.objs.size + 1) :: us) := .cons rfl r
  have a1 : (Value.ref (s.heap.objs.size + 1) :: us).length = n + 1 := ru.length.symm.trans (congrArg Nat.succ l1)
  refine wpAny_call (make_map (f := f) I.kIn M.makes M.init (beq_iff_eq.mp M.fn) (codeAny_mono (F.run (X.A.under (.builtin "type.__call__" ⟨.ref C :: us, ks.zip ws⟩)) X.stack _ _ ⟨Value.ref (s.heap.objs.size + 1) :: us, ks.zip ws⟩
    (g (Value.ref (s.heap.objs.size + 1) :: us) ws) _ _ (E σ) (hr.make C us (ks.zip ws)) (J.env0.make C us (ks.zip ws)) (hb.to _ _ ws J.kIn a1 (rz.length.symm.trans l2)) (hb.rel ru rz) new) fun res s' q => ?_))
  match res, q with
  | .error er, q => exact hx σ pins _ _ er s' J q
  | .ok (.ret u), q =>
    obtain ⟨v, H', J', rv, ev, z⟩ := J.after q
    subst ev
    exact ⟨rv, V.ref (s.heap.objs.size + 1), H', J', rfl, z⟩
def tMk (C : Addr) (n : Nat) (sp : Sp) (gV : List V → List V → List V) (E : L2.St → XK) (t tk : TA) : TE := fun σ H Q => t σ H fun vs H1 => tk σ H1 fun zs H2 => vs.length = n ∧
  ∀ x dx, H2 x = none → H2 dx = none → dx ≠ x → sp (gV (.ref x :: vs) zs) (upd (upd H2 dx (.own x)) x (.ins C dx [])) (fun v H3 => v = .non ∧ Q (.ref x) H3) (E σ)
theorem pe_mkP (M : Mk X.K C f) (F : FnOk X.prog X.w X.K X.mg X.base CX k f fd ps sp) (hr : Room (k + 1) X.A) (hg : Gl X x) (hm : X.mg x = some (.ref C)) (hb : KBn X.K fd ps (n + 1) [] g gV) (hx : ∀ σ, PassesAt CX X σ (E σ)) (ha : PA X (e :: es) t)
    (hdb : (x == ("__debug__" : Str)) = false := by decide) (he : starEach (e :: es) X.env = (false, eval e X.env) :: starEach es X.env := by rfl) (hpl : (backTo pos (starEach es X.env)).any (·.1) = false := by rfl) :
    PE X (.Call (.Name x p) (e :: es) [] pos) (tMk C n sp gV E t tNil) := by
  refine ⟨fun pins s σ H Q I h => wpAny_Call_Name_kw (ld_glob I hg hm ?_ hdb)⟩
  refine PySem.W.callWith_K (h₀ := X.base) I.ok.mod.kin M.kp (thn (ha.run pos pins s σ H _ I h) fun us s1 ⟨vs, H1, I1, r, l1, q⟩ => ⟨I1.kIn, ?_⟩) he hpl
  exact run_mk (ks := []) (ws := []) (zs := []) M F hr hb hx I1 r .nil l1 rfl q
theorem pe_mkN (M : Mk X.K C f) (F : FnOk X.prog X.w X.K X.mg X.base CX k f fd ps sp) (hr : Room (k + 1) X.A) (hg : Gl X x) (hm : X.mg x = some (.ref C)) (hb : KBn X.K fd ps 1 ks g gV) (hx : ∀ σ, PassesAt CX X σ (E σ)) (hkw : PK X kws tk)
    (hall : (backToKw pos (keywordEach kws X.env)).all (·.1.isSome) = true := by rfl) (hks : (backToKw pos (keywordEach kws X.env)).filterMap (·.1) = ks := by rfl) (hlen : kws.length = ks.length := by rfl)
    (hdb : (x == ("__debug__" : Str)) = false := by decide) (hpl : ((backTo pos (starEach [] X.env)).any (·.1) || (backToKw pos (keywordEach kws X.env)).any (·.1.isNone)) = false := by rfl) :
    PE X (.Call (.Name x p) [] kws pos) (fun σ H Q => tMk C 0 sp gV E tNil (fun σ H Q => tk σ H fun zs H1 => zs.length = ks.length ∧ Q zs H1) σ H Q) := by
  refine ⟨fun pins s σ H Q I h => wpAny_Call_Name_kw (ld_glob I hg hm ?_ hdb)⟩
  refine PySem.W.callWith_KW0 (h₀ := X.base) I.ok.mod.kin M.kp hall (thn (hkw.run pos pins s σ H _ I h) fun ws s1 ⟨zs, H1, I1, rz, l2, l1, q⟩ => ⟨I1.kIn, ?_⟩) hpl
  rw [hks]
  exact run_mk (us := []) (vs := []) M F hr hb hx I1 .nil rz l1 l2 q

/-- the same where a local name holds the class -/
theorem pe_mkL {i : Nat} (M : Mk X.K C f) (F : FnOk X.prog X.w X.K X.mg X.base CX k f fd ps sp) (hr : Room (k + 1) X.A) (hN : X.N[i]? = some x) (hv : Vis X.env.scope x) (hb : KBn X.K fd ps (n + 1) [] g gV) (hx : ∀ σ, PassesAt CX X σ (E σ)) (ha : PA X (e :: es) t)
    (hdb : (x == ("__debug__" : Str)) = false := by decide) (hcd : (x == ("__classdict__" : Str)) = false := by decide) (he : starEach (e :: es) X.env = (false, eval e X.env) :: starEach es X.env := by rfl) (hpl : (backTo pos (starEach es X.env)).any (·.1) = false := by rfl) :
    PE X (.Call (.Name x p) (e :: es) [] pos) (fun σ H Q => σ[i]? = some (some (.ref C)) ∧ tMk C n sp gV E t tNil σ H Q) := by
  refine ⟨fun pins s σ H Q I ⟨hs, h⟩ => wpAny_Call_Name_kw (thn ((pe_var (pos := p) hN hv hdb hcd).run pins s σ H (fun v H1 => v = .ref C ∧ H1 = H) I ⟨.ref C, hs, rfl, rfl⟩) fun u s1 ⟨v, H1, I1, r1, e1, e2⟩ => ?_)⟩
  subst e1 e2
  obtain rfl : u = Value.ref C := r1
  refine PySem.W.callWith_K (h₀ := X.base) I1.ok.mod.kin M.kp (thn (ha.run pos pins s1 σ _ _ I1 h) fun us s2 ⟨vs, H2, I2, r, l1, q⟩ => ⟨I2.kIn, ?_⟩) he hpl
  exact run_mk (ks := []) (ws := []) (zs := []) M F hr hb hx I2 r .nil l1 rfl q

/-! ### C.m(..), m a classmethod of the class at C -/
theorem run_clm {pins : List (Addr × Obj)} {σ : L2.St} {H : Hp} {s : Shared} {Q : VK} {q gA : Addr} {us ws : List Value} {vs zs : List V} (F : FnOk X.prog X.w X.K X.mg X.base CX k gA fd ps sp) (hr : Room k X.A) (hb : KBn X.K fd ps (n + 1) ks g gV)
    (hx : ∀ σ, PassesAt CX X σ (E σ)) (I : L2.Inv X ((q, PySem.W.methodObj (.ref gA) (.ref C)) :: pins) σ H s) (r : Vals vs us) (rz : Vals zs ws) (l1 : vs.length = n) (l2 : zs.length = ks.length) (h : sp (gV (.ref C :: vs) zs) H Q (E σ)) :
    wpAny (model X.prog X.w) X.A (call (.ref q) us (ks.zip ws)) (EP X pins σ Q) X.xe s := by
  have ru : Vals (V.ref C :: vs) (Value.ref C :: us) := .cons rfl r
  have a1 : (Value.ref C :: us).length = n + 1 := ru.length.symm.trans (congrArg Nat.succ l1)
  refine thn (wpAny_call (PySem.W.method_call (ClX.pin_at I) (call_end (Q := Q) (hx σ) I _ (F.run X.A X.stack s H ⟨Value.ref C :: us, ks.zip ws⟩ (g (Value.ref C :: us) ws) (gV (V.ref C :: vs) zs) Q (E σ) hr I.env0
    (hb.to s _ ws I.kIn a1 (rz.length.symm.trans l2)) (hb.rel ru rz) h)))) fun _ _ y => ClX.unpinE y
def tCm (C : Addr) (n : Nat) (sp : Sp) (gV : List V → List V → List V) (E : L2.St → XK) (ta : TE) (t tk : TA) : TE := fun σ H Q => ta σ H fun x H0 => x = .ref C ∧ t σ H0 fun vs H1 => tk σ H1 fun zs H2 => vs.length = n ∧ sp (gV (.ref C :: vs) zs) H2 Q (E σ)
theorem pe_cmP {mc : Value} {pA gA : Addr} {pl : Sem Bool} (he : PE X o ta) (r : ClX.CRead X.K C mc) (c : ClX.CMet X.K C mc m pA gA) (F : FnOk X.prog X.w X.K X.mg X.base CX k gA fd ps sp) (hr : Room k X.A) (hb : KBn X.K fd ps (n + 1) [] g gV) (hx : ∀ σ, PassesAt CX X σ (E σ)) (ha : PA X (e :: es) t)
    (hst : starEach (e :: es) X.env = (false, eval e X.env) :: starEach es X.env := by rfl) (hpl : (backTo pos (starEach es X.env)).any (·.1) = false := by rfl)
    (ht : eval (.Call (.Attribute o m apos) (e :: es) [] pos) X.env = (eval o X.env >>= fun ov => standAt apos.atName >>= fun _ => holding [ov] (getMethod ov m pl) >>= fun ff => callWith pos ff.1 ff.2 (backTo pos (starEach (e :: es) X.env)) (backToKw pos (keywordEach [] X.env))) := by rfl) :
    PE X (.Call (.Attribute o m apos) (e :: es) [] pos) (tCm C n sp gV E ta t tNil) := by
  refine ⟨fun pins s σ H Q I h => PySem.W.methodCall_KW (pl := pl) (thn (he.run pins s σ H _ I h) fun u s1 ⟨x, H1, I1, rx, ex, q⟩ => ?_) ht⟩
  subst ex
  obtain rfl : u = Value.ref C := rx
  refine ClX.getmethcm_ok I1 r c fun s2 I2 => ClX.callwith_cm I2 (ClX.base_none I1 (Nat.le_refl _)) c.fi (thn (ha.run pos _ s2 σ H1 _ I2 q) fun us s3 ⟨vs, H2, I3, rv, l1, q2⟩ => ⟨⟨ClX.pin_at I3, I3.kIn⟩, ?_⟩) hst hpl
  exact run_clm (ks := []) (ws := []) (zs := []) F hr hb hx I3 rv .nil l1 rfl q2
theorem pe_cmN {mc : Value} {pA gA : Addr} {pl : Sem Bool} (he : PE X o ta) (r : ClX.CRead X.K C mc) (c : ClX.CMet X.K C mc m pA gA) (F : FnOk X.prog X.w X.K X.mg X.base CX k gA fd ps sp) (hr : Room k X.A) (hb : KBn X.K fd ps 1 ks g gV) (hx : ∀ σ, PassesAt CX X σ (E σ)) (hkw : PK X kws tk)
    (hall : (backToKw pos (keywordEach kws X.env)).all (·.1.isSome) = true := by rfl) (hks : (backToKw pos (keywordEach kws X.env)).filterMap (·.1) = ks := by rfl)
    (hpl : ((backTo pos (starEach [] X.env)).any (·.1) || (backToKw pos (keywordEach kws X.env)).any (·.1.isNone)) = false := by rfl)
    (ht : eval (.Call (.Attribute o m apos) [] kws pos) X.env = (eval o X.env >>= fun ov => standAt apos.atName >>= fun _ => holding [ov] (getMethod ov m pl) >>= fun ff => callWith pos ff.1 ff.2 (backTo pos (starEach [] X.env)) (backToKw pos (keywordEach kws X.env))) := by rfl) :
    PE X (.Call (.Attribute o m apos) [] kws pos) (tCm C 0 sp gV E ta tNil (fun σ H Q => tk σ H fun zs H1 => zs.length = ks.length ∧ Q zs H1)) := by
  refine ⟨fun pins s σ H Q I h => PySem.W.methodCall_KW (pl := pl) (thn (he.run pins s σ H _ I h) fun u s1 ⟨x, H1, I1, rx, ex, q⟩ => ?_) ht⟩
  subst ex
  obtain rfl : u = Value.ref C := rx
  refine ClX.getmethcm_ok I1 r c fun s2 I2 => ?_
  have hL : s1.heap.objs.size ≠ X.env.locals := (I2.pin (s1.heap.objs.size, PySem.W.methodObj (.ref gA) (.ref C)) (List.mem_append_right _ List.mem_cons_self)).2.2.1
  refine PySem.W.callWith_of hpl (PySem.W.keeps_M c.fi) (PyProof.Rows.evalArgs_kw2_nil hall (thn (hkw.run pos _ s2 σ H1 _ I2 q) fun ws s3 ⟨zs, H2, I3, rz, l2, l1, q2⟩ => ⟨⟨ClX.pin_at I3, I3.kIn⟩, ?_⟩))
  rw [hks]
  exact run_clm (us := []) (vs := []) F hr hb hx I3 .nil rz l1 l2 q2
end

/-! ### o.m(..), a method; own operators where the wish hangs on no slot -/
section
variable {X : Cx} {CX : CXT} {k n : Nat} {f C : Addr} {fd : FuncData} {ps ks : List Str} {sp : Sp} {E : L2.St → XK} {m : Str} {pos apos : Pos} {e o : Expr} {es : List Expr} {kws : List Keyword} {ta : TE} {t tk : TA}
  {g : List Value → List Value → List Value} {gV : List V → List V → List V}
theorem run_kb {pins : List (Addr × Obj)} {σ : L2.St} {H : Hp} {s : Shared} {Q : VK} {us ws : List Value} {vs zs : List V} (F : FnOk X.prog X.w X.K X.mg X.base CX k f fd ps sp) (hr : Room k X.A) (hb : KBn X.K fd ps n ks g gV) (hx : ∀ σ, PassesAt CX X σ (E σ))
    (I : L2.Inv X pins σ H s) (r : Vals vs us) (rz : Vals zs ws) (l1 : vs.length = n) (l2 : zs.length = ks.length) (h : sp (gV vs zs) H Q (E σ)) : wpAny (model X.prog X.w) X.A (call (.ref f) us (ks.zip ws)) (EP X pins σ Q) X.xe s :=
  wpAny_call (call_end (Q := Q) (hx σ) I _ (F.run X.A X.stack s H ⟨us, ks.zip ws⟩ (g us ws) (gV vs zs) Q (E σ) hr I.env0 (hb.to s us ws I.kIn (r.length.symm.trans l1) (rz.length.symm.trans l2)) (hb.rel r rz) h))
def tMe (C : Addr) (m : Str) (n : Nat) (sp : Sp) (gV : List V → List V → List V) (E : L2.St → XK) (ta : TE) (t tk : TA) : TE := fun σ H Q => ta σ H fun x H0 => ∃ a dx fs, x = .ref a ∧ H0 a = some (.ins C dx fs) ∧ fs.lookup m = none ∧
  t σ H0 fun vs H1 => tk σ H1 fun zs H2 => vs.length = n ∧ sp (gV (x :: vs) zs) H2 Q (E σ)
theorem pe_meP {pl : Sem Bool} (he : PE X o ta) (c : Cls X.K C) (hm : Meth X.K C m f) (F : FnOk X.prog X.w X.K X.mg X.base CX k f fd ps sp) (hr : Room k X.A) (hb : KBn X.K fd ps (n + 1) [] g gV) (hx : ∀ σ, PassesAt CX X σ (E σ)) (ha : PA X (e :: es) t)
    (hst : starEach (e :: es) X.env = (false, eval e X.env) :: starEach es X.env := by rfl) (hpl : (backTo pos (starEach es X.env)).any (·.1) = false := by rfl)
    (ht : eval (.Call (.Attribute o m apos) (e :: es) [] pos) X.env = (eval o X.env >>= fun ov => standAt apos.atName >>= fun _ => holding [ov] (getMethod ov m pl) >>= fun ff => callWith pos ff.1 ff.2 (backTo pos (starEach (e :: es) X.env)) (backToKw pos (keywordEach [] X.env))) := by rfl) :
    PE X (.Call (.Attribute o m apos) (e :: es) [] pos) (tMe C m n sp gV E ta t tNil) := by
  refine ⟨fun pins s σ H Q I h => PySem.W.methodCall_KW (pl := pl) (thn (he.run pins s σ H _ I h) fun u s1 ⟨x, H1, I1, rx, a, dx, fs, ex, ea, l, q⟩ => ?_) ht⟩
  subst ex
  obtain rfl : u = Value.ref a := rx
  refine getmeth_ok I1 ea c hm l (PySem.W.callWith_K (first := [.ref a]) (h₀ := X.base) I.ok.mod.kin hm.kp (thn (ha.run pos pins s1 σ H1 _ I1 q) fun us s2 ⟨vs, H2, I2, r, l1, q2⟩ => ⟨I2.kIn, ?_⟩) hst hpl)
  exact run_kb (ks := []) (ws := []) (zs := []) F hr hb hx I2 (show Vals (V.ref a :: vs) (Value.ref a :: us) from .cons rfl r) .nil (congrArg Nat.succ l1) rfl q2
theorem pe_meN {pl : Sem Bool} (he : PE X o ta) (c : Cls X.K C) (hm : Meth X.K C m f) (F : FnOk X.prog X.w X.K X.mg X.base CX k f fd ps sp) (hr : Room k X.A) (hb : KBn X.K fd ps 1 ks g gV) (hx : ∀ σ, PassesAt CX X σ (E σ)) (hkw : PK X kws tk)
    (hall : (backToKw pos (keywordEach kws X.env)).all (·.1.isSome) = true := by rfl) (hks : (backToKw pos (keywordEach kws X.env)).filterMap (·.1) = ks := by rfl)
    (hpl : ((backTo pos (starEach [] X.env)).any (·.1) || (backToKw pos (keywordEach kws X.env)).any (·.1.isNone)) = false := by rfl)
    (ht : eval (.Call (.Attribute o m apos) [] kws pos) X.env = (eval o X.env >>= fun ov => standAt apos.atName >>= fun _ => holding [ov] (getMethod ov m pl) >>= fun ff => callWith pos ff.1 ff.2 (backTo pos (starEach [] X.env)) (backToKw pos (keywordEach kws X.env))) := by rfl) :
    PE X (.Call (.Attribute o m apos) [] kws pos) (tMe C m 0 sp gV E ta tNil (fun σ H Q => tk σ H fun zs H1 => zs.length = ks.length ∧ Q zs H1)) := by
  refine ⟨fun pins s σ H Q I h => PySem.W.methodCall_KW (pl := pl) (thn (he.run pins s σ H _ I h) fun u s1 ⟨x, H1, I1, rx, a, dx, fs, ex, ea, l, q⟩ => ?_) ht⟩
  subst ex
  obtain rfl : u = Value.ref a := rx
  refine getmeth_ok I1 ea c hm l (PySem.W.callWith_KW0 (first := [.ref a]) (h₀ := X.base) I.ok.mod.kin hm.kp hall (thn (hkw.run pos pins s1 σ H1 _ I1 q) fun ws s2 ⟨zs, H2, I2, rz, l2, l1, q2⟩ => ⟨I2.kIn, ?_⟩) hpl)
  rw [hks]
  exact run_kb F hr hb hx I2 (show Vals [V.ref a] [Value.ref a] from self1) rz rfl l2 q2
/-- an operator of C with an int or an instance of C on its right, for any slots -/
def r2C (C : Addr) (sp : Sp) (E : XK) : R2 := fun x y H Q => ∃ a dx fs, x = .ref a ∧ H a = some (.ins C dx fs) ∧ ((∃ i, y = .int i) ∨ ∃ b dy gs, y = .ref b ∧ H b = some (.ins C dy gs)) ∧ sp [x, y] H Q E
theorem opr_bin {op : Operator} {E : XK} (B : Bin X.K C op.info.2 f) (F : FnOk X.prog X.w X.K X.mg X.base CX k f fd ps sp) (hr : Room k X.A) (hb : Binds X.K fd ps []) (hx : ∀ σ, PassesAt CX X σ E) : OpR X (binaryOp op) (r2C C sp E) :=
  fun pins s σ H x y v u Q I rx ry h => ops_bin (E := fun _ => E) B F hr hb hx pins s σ H x y v u Q I rx ry h
theorem opr_in {op : Operator} {E : XK} (B : Bin X.K C op.info.2 f) (N : NoIn X.K C op.info.2) (F : FnOk X.prog X.w X.K X.mg X.base CX k f fd ps sp) (hr : Room k X.A) (hb : Binds X.K fd ps []) (hx : ∀ σ, PassesAt CX X σ E) : OpR X (inplaceOp op) (r2C C sp E) :=
  fun pins s σ H x y v u Q I rx ry h => ops_in (E := fun _ => E) B N F hr hb hx pins s σ H x y v u Q I rx ry h
end

/-! ### ints of any sign and size; texts repeated; repr of data -/
/-- // by a divisor that is not 0, below 2 ^ 9000 -/
def CDivX (_ j : Int) : Prop := j ≠ 0 ∧ j.natAbs.log2 < 9000
section
variable {X : Cx} {k : Nat}
theorem op_fdivX : OpR X (binaryOp .FloorDiv) (rI CDivX fun i j => .int (i.fdiv j)) := opI fun i j _ _ _ _ _ hc q => floordiv_int hc.1 q (.inl (PyProof.noPylong_of_log2 hc.2))
/-- a text, no time or once -/
theorem op_strI : OpR X (binaryOp .Mult) (fun x y H Q => ∃ z i, x = .str z ∧ y = .int i ∧ (i = 0 ∨ i = 1) ∧ Q (.str (if i = 0 then Str.empty else z)) H) := by
  rintro pins s σ H x y v u Q I rx ry ⟨z, i, rfl, rfl, hi, q⟩
  obtain ⟨t, rfl⟩ := rx
  obtain ⟨t', rfl⟩ := ry
  rcases hi with rfl | rfl
  · exact P.mul_str_none (by decide) (by decide) ⟨.str Str.empty, H, I.tok _, ⟨_, rfl⟩, q⟩
  · exact P.mul_str (by decide) (fun _ z => absurd z (by simp)) (fun _ z => absurd z (by simp)) (by rw [if_neg (by decide), if_pos (by rfl)]; exact (show EP X pins σ Q (.str z t) s from ⟨.str z, H, I, ⟨_, rfl⟩, q⟩))
/-- repr of None, bools, ints, texts, lists and tuples of these -/
def rRepr (K : PySem.W.Frag) : List V → Hp → VK → Prop := fun xs H Q => ∃ x d, xs = [x] ∧ Dp K H x d ∧ d.showable = true ∧ d.hasDict = false ∧ d.depth ≤ 60 ∧ d.shown.length ≤ sizeLine ∧ Q (.str d.shown) H
theorem call_reprD (gg : GG X.A) (hr : Room k X.A) : CallR X (.builtin "repr") (rRepr X.K) := by
  rintro pins s σ H xs us Q I r ⟨x, d, rfl, hd, sh, nd, dp, sz, q⟩
  obtain ⟨u, rfl, ru⟩ := vals1 r
  have hu := hr.units
  obtain ⟨as, rd⟩ := Dp.reads I d x u hd ru
  cases hd with
  | non => cases ru; exact P.repr_of_none ⟨.str _, H, I.tok _, ⟨_, rfl⟩, q⟩
  | bl b => cases ru; exact P.repr_of_bool ⟨.str _, H, I.tok _, ⟨_, rfl⟩, q⟩
  | int i => obtain ⟨t, rfl⟩ := ru; exact P.repr_of_int (of_decide_eq_true sh) ⟨.str _, H, I.tok _, ⟨_, rfl⟩, q⟩
  | str z => obtain ⟨t, rfl⟩ := ru; exact P.repr_of_str ⟨.str _, H, I.tok _, ⟨_, rfl⟩, q⟩ sz
  | lst h1 h2 => cases ru; exact repr_of_reads' rd sh (PyData.noDict_hsm nd) gg (by omega) (fun _ _ e => e) (fun h' u tk kp => ⟨.str _, H, I.kept kp, ⟨_, rfl⟩, q⟩) sz
  | tup h1 h2 => cases ru; exact repr_of_reads' rd sh (PyData.noDict_hsm nd) gg (by omega) (fun _ _ e => e) (fun h' u tk kp => ⟨.str _, H, I.kept kp, ⟨_, rfl⟩, q⟩) sz
end

/-! ### the end of a law -/
section
variable {P : Program} {w : World} {K : PySem.W.Frag} {mg mb : Str → Option Value} {k : Nat} {fa a : Addr} {fd : FuncData} {x : Str} {sp : Sp} {s : Shared} {vs : List Value} {ns : List Int}
theorem law_run (KX : K.In s.heap) (hns : s.heap.Ns mainGlobals mg) (hb : s.heap.Ns builtinsNs mb) (hbb : ∀ x : Str, x ≠ "__name__" → mb x = bootBuiltins x) (hlim : s.heap.NoLimit) (hg : s.gens = #[])
    (ha : s.heap.get? a = some { cls := .type "list", data := .seq vs.toArray }) (hi : IntsAre vs ns) (hl : ns.length ≤ sizeLine) (hr : Room k callerA)
    (F : ∀ base : Heap, K.In base → base.Ns mainGlobals mg → FnG P w K mg base CX0 k fa fd [x] sp) (hbind : ∀ (s : Shared) (u : Value), BindsTo s fd ⟨[u], []⟩ [(x, u)])
    (hsp : ∀ H : Hp, SqL K H a (ns.map V.int) → sp [.ref a] H (fun v _ => v = .bl true) E0) :
    codeAny (model P w) callerA (.call (.ref fa) ⟨[.ref a], []⟩) (fun r s' => r = .ok (.ret (.bool true)) ∧ OldK s.heap s'.heap ∧ s'.os = s.os ∧ AllBare s'.gens) s := by
  have rv := vals_ints hi
  have core : ∀ H : Hp, (∀ b, H b = none ∨ (b = a ∧ ∃ o xs, H b = some (.frz o (.lst xs)))) → SqL K H a (ns.map V.int) → HOk P w H s.heap → (H a ≠ none → K.lookup a = none) →
      codeAny (model P w) callerA (.call (.ref fa) ⟨[.ref a], []⟩) (fun r s' => r = .ok (.ret (.bool true)) ∧ OldK s.heap s'.heap ∧ s'.os = s.os ∧ AllBare s'.gens) s := by
    intro H hO hS hok hK
    have away : ∀ {b : Addr}, b ≠ a → H b = none := fun {b} n => (hO b).elim id fun z => absurd z.1 n
    have ns' : ∀ {b : Addr} {m : Str → Option Value}, s.heap.Ns b m → (hidT s.heap H).Ns b m := fun {b m} ⟨o, es, ep, e, d, r⟩ =>
      ⟨o, es, ep, hidT_get e (away fun z => by rw [z, ha] at e; cases e; cases d), d, r⟩
    have kin : K.In (hidT s.heap H) := fun b o e => by
      refine hidT_get (KX b o e) ?_
      by_cases hba : b = a
      · cases q : H b with
        | none => rfl
        | some u => rw [hba] at e q; rw [hK (by rw [q]; exact fun z => nomatch z)] at e; cases e
      · exact away hba
    obtain ⟨mc, lim1, lim2⟩ := hlim
    have e0 : Env0 P w K mg (hidT s.heap H) callerA [] s H := ⟨rfl, ⟨kin, ns' hns, ⟨mb, ns' hb, hbb⟩, ⟨mc, ns' lim1, lim2⟩⟩, fun b o e => of_hidT e, Nat.le_of_eq (hidT_size _ _), trivial, fun b z => absurd z (List.not_mem_nil), hok, .of_eq hg⟩
    refine codeAny_mono ((F _ kin (ns' hns)).run (args := ⟨[.ref a], []⟩) (us := [.ref a]) (vs := [V.ref a]) (Q := fun v _ => v = .bl true) (E := E0) rfl hr e0 (hbind s (.ref a)) (.cons rfl .nil) (hsp H hS)) fun r s' z => ?_
    match r, z with
    | .ok (.ret u), ⟨v, H', os, bare, un, hok', r', (q : v = .bl true)⟩ =>
      subst q
      obtain rfl : u = Value.bool true := r'
      refine ⟨rfl, OldK.of_keep fun b o e => ?_, os, bare⟩
      rcases hO b with n | ⟨_, ob, xs, n⟩
      · exact un.keep b o e n (List.not_mem_nil) (List.not_mem_nil)
      · have old := (hok b _ n).1
        have new := (hok' b _ (un.frzs b ob _ n)).1
        rw [e] at old
        rw [new, old]
  cases hk : K.lookup a with
  | some o =>
    have e := KX a o hk
    rw [ha] at e
    cases e
    exact core (fun _ => none) (fun _ => .inl rfl) (.inr ⟨_, vs.toArray, _, hk, rfl, rfl, rfl, by rw [List.size_toArray, hi.length]; exact hl, by simpa using rv⟩) (fun b u z => by cases z) fun z => absurd rfl z
  | none =>
    refine core (fun b => if b = a then some (.frz { cls := .type "list", data := .seq vs.toArray } (.lst (ns.map V.int))) else none) (fun b => ?_) (.inl (.inr ⟨_, if_pos rfl⟩)) (fun b u z => ?_) fun _ => hk
    · by_cases q : b = a
      · exact .inr ⟨q, _, _, if_pos q⟩
      · exact .inl (if_neg q)
    · by_cases q : b = a
      · subst q
        have z2 := (if_pos rfl).symm.trans z
        cases z2
        exact ⟨ha, by rw [List.length_map]; exact hl, vs, _, rv, ha⟩
      · have z2 := (if_neg q).symm.trans z
        cases z2
end
theorem walkG {l : PySem.W.OpenLaw} {n k : Nat} {q : Program} {loose : List Str} {XP : (Str → Option Value) → Heap → Prop} {YP : World → Heap → Prop} {d : DefRec} {K : Params → PySem.W.Frag} {sp : World → Sp} {x : Str}
    (hn : l.most = some n) (hn2 : n ≤ sizeLine) (hdf : d.params.defaults = []) (hr : Room k callerA) (hY : ∀ (w : World) (h : Heap), YP w h → (K w.params).In h)
    (F : ∀ (w : World) (mg : Str → Option Value) (fa : Addr) (h : Heap), (K w.params).In h → h.Ns mainGlobals mg → mg d.name = some (.ref fa) →
      ∃ fd : FuncData, (∀ (s : Shared) (u : Value), BindsTo s fd ⟨[u], []⟩ [(x, u)]) ∧ ∀ base : Heap, (K w.params).In base → base.Ns mainGlobals mg → FnG l.prog w (K w.params) mg base CX0 k fa fd [x] (sp w))
    (hsp : ∀ (w : World) (H : Hp) (a : Addr) (ns : List Int), ns.length ≤ n → SqL (K w.params) H a (ns.map V.int) → sp w [.ref a] H (fun v _ => v = .bl true) E0) :
    PySem.W.WalkO q loose XP YP l.row.toRowW d [] (fun f vs => PySem.call f vs) := by
  refine Att.attach_call hn hdf fun w s₀ s₁ mg mb fa o pm cd doc a vs ns G Y ho hd hcd hmg hobj hints hlen hg => ?_
  obtain ⟨fd, bnd, hF⟩ := F w mg fa _ (hY w _ Y) G.T.g hmg
  exact law_run (hY w _ Y) G.T.g G.T.b G.T.builtins G.T.nolimit hg hobj hints (Nat.le_trans hlen hn2) hr hF bnd fun H hS => hsp w H a ns hlen hS
end Pm

/-! Pm, part 3: operators whose own class stands on the right. -/
namespace Pm
open PySem PySem.Spec PyProof.Rows L2
section
open PySem.W
variable {prog : Program} {w : World} {A : Around} {E : Value → Shared → Prop} {s : Shared} {K : PySem.W.Frag} {y C f : Addr} {oy : Obj} {od : Option Obj} {Q : Value → Shared → Prop}
/-- a slot that declines and leaves all as it was -/
abbrev Decl (prog : Program) (w : World) (A : Around) (E : Value → Shared → Prop) (s : Shared) (id : String) (a b : Value) : Prop := wpAny (model prog w) A (call (.builtin id) [a, b]) (fun v s' => v = .notImplemented ∧ s' = s) E s
abbrev DeclB (prog : Program) (w : World) (A : Around) (E : Value → Shared → Prop) (s : Shared) (B : Builtin) (a b : Value) : Prop := wpAny (model prog w) A (B ⟨[a, b], []⟩) (fun fin s' => ∃ v, fin = .done (.ret v) ∧ v = .notImplemented ∧ s' = s) E s
theorem decl_int {nm : String} {g : Int → Int → Sem Fin} {i : Int} {t : Tok} {o : Obj} (ho : s.heap.get? y = some o) (hd : ∀ v, o.data ≠ .prim v) :
    DeclB prog w A E s (PySem.Builtin.Int.intBinary nm g false) (.int i t) (.ref y) := by
  obtain ⟨hp, gg, d, tk, os⟩ := s
  show wpAny _ _ _ _ _ _
  wp_walk using wpAny_load' ho
  split
  · rename_i h; exact absurd h (hd _)
  · wp_walk
    exact ⟨_, rfl, rfl, rfl⟩
theorem decl_bool {nm : String} {g : Int → Int → Sem Fin} {i : Bool} {o : Obj} (ho : s.heap.get? y = some o) (hd : ∀ v, o.data ≠ .prim v) :
    DeclB prog w A E s (PySem.Builtin.Int.intBinary nm g false) (.bool i) (.ref y) := by
  obtain ⟨hp, gg, d, tk, os⟩ := s
  show wpAny _ _ _ _ _ _
  wp_walk using wpAny_load' ho
  split
  · rename_i h; exact absurd h (hd _)
  · wp_walk
    exact ⟨_, rfl, rfl, rfl⟩
theorem decl_str {z : Str} {t : Tok} {o : Obj} (ho : s.heap.get? y = some o) (hd : ∀ v, o.data ≠ .prim v) :
    DeclB prog w A E s Builtin.«str.__eq__» (.str z t) (.ref y) := by
  obtain ⟨hp, gg, d, tk, os⟩ := s
  show wpAny _ _ _ _ _ _
  wp_walk using wpAny_load' ho
  split
  · rename_i h; exact absurd h (hd _)
  · wp_walk
    exact ⟨_, rfl, rfl, rfl⟩
theorem decl_none : DeclB prog w A E s Builtin.«NoneType.__eq__» .none (.ref y) := by
  obtain ⟨hp, gg, d, tk, os⟩ := s
  show wpAny _ _ _ _ _ _
  wp_walk
  exact ⟨_, rfl, by simp, rfl⟩
theorem decl_tup {x : Addr} {o : Obj} (ho : s.heap.get? y = some o) (hc : o.cls = .ref C) (X : K.In s.heap) (su : subIn K (.ref C) (.type "tuple") = some false) : DeclB prog w A E s Builtin.«tuple.__eq__» (.ref x) (.ref y) := by
  have L1 := looks_subIn (M := model prog w) X su
  obtain ⟨hp, gg, d, tk, os⟩ := s
  show wpAny _ _ _ _ _ _
  wp_walk using GQ.wpAny_loadPart' ho
  rw [hc]
  refine L1.at ?_
  wp_walk
  exact ⟨_, rfl, rfl, rfl⟩
theorem decl_call {T id : String} {name : Str} {B : Builtin} {a b : Value} (sl : Slot T name id) (hT : s.TypeIs a T) (en : entryFor table id = some B) (ar : argsOk id ⟨[a, b], []⟩) (h : DeclB prog w A.in1 E s B a b) : Decl prog w A E s id a b :=
  wpAny_call_entry sl hT en (wpAny_mono h (fun fin s' ⟨v, e, z⟩ => ⟨v, e, z⟩) fun _ _ e => e) ar

/-- a compared with an instance of C on its right: a's own slot declines -/
theorem rc_refl {op : CmpOp} {T id : String} {a : Value} (hu : A.units < cLine) (X : K.In s.heap) (J : InstAt s.heap y oy C od) (hT : s.TypeIs a T) (sl : Slot T (cmpInfo op).2.1 id) (dec : Decl prog w A E s id a (.ref y))
    (su : subIn K (.ref C) (.type T) = some false) (hs : findIn K (.ref C) (cmpInfo op).2.2 = some (some (.ref f))) (hf : isFn K (.ref f) = true)
    (h : wpAny (model prog w) A (call (.ref f) [.ref y, a]) (PySem.W.CmpBack Q) E s) : wpAny (model prog w) A (richCompare op a (.ref y)) Q E s := by
  have two : wpAny (model prog w) A (tryCompare (.ref y) (cmpInfo op).2.2 a) (fun r s' => ∃ v, r = some v ∧ Q v s') E s := by
    unfold tryCompare
    refine wpAny_bind (ifBound_K X J hs hf (wpAny_mono h (fun v s' hv => ?_) fun _ _ e => e))
    cases v <;> first | exact hv.elim | exact wpAny_pure ⟨_, rfl, hv⟩
  unfold richCompare
  simp only [hT.oneThing_none]
  refine wpAny_holding (wpAny_bind (wpAny_cRoomFor hu ?_))
  refine wpAny_bind (wpAny_typeOf hT (wpAny_bind (J.type.here ?_)))
  have ne : (Value.type T != Value.ref C) = true := by simp [bne]
  simp only [ne, if_true]
  refine wpAny_bind ((looks_subIn X su).here ?_)
  simp only [Bool.false_eq_true, if_false, Bool.not_false, if_true]
  refine wpAny_bind (m := tryCompare a _ _) (wpAny_tryCompare_declines hT sl (wpAny_mono dec (fun v s₁ h₁ => ⟨h₁.1, ?_⟩) fun _ _ e => e))
  obtain ⟨_, rfl⟩ := h₁
  refine wpAny_bind (wpAny_mono two (fun r s' z => ?_) fun _ _ e => e)
  obtain ⟨v, rfl, hq⟩ := z
  exact wpAny_pure hq

/-- an int op an instance of C -/
theorem bin1_refl {nm id : String} {i : Int} {t : Tok} {f0 : Addr} (X : K.In s.heap) (J : InstAt s.heap y oy C od) (fl : fillsNumberSlot (.type "int") nm = pure true) (sl : Slot "int" (PySem.dunder nm) id) (dec : Decl prog w A E s id (.int i t) (.ref y))
    (B0 : Bin K C nm f0) (su : subIn K (.ref C) (.type "int") = some false) (hs : findIn K (.ref C) (dunderR nm) = some (some (.ref f))) (hf : isFn K (.ref f) = true)
    (h : wpAny (model prog w) A (call (.ref f) [.ref y, .int i t]) (PySem.W.CmpBack Q) E s) : wpAny (model prog w) A (binaryOp1 nm (.int i t) (.ref y)) (Gave Q) E s := by
  obtain ⟨cd, rest, hcd, hm⟩ := ksp_first B0.sf
  have two := ksp_try X J hs hf h
  have A1 : Looks (model prog w) s.heap (typeOf (.int i t)) (.type "int") := .of_pure rfl
  have A2 : Looks (model prog w) s.heap (typeOf (.ref y)) (.ref C) := J.type
  have A3 : Looks (model prog w) s.heap (fillsNumberSlot (.type "int") nm) true := .of_pure fl
  have A4 : Looks (model prog w) s.heap (fillsNumberSlot (.ref C) nm) true := fills_K X hcd hm B0.at_
  have A5 : Looks (model prog w) s.heap (isSubtype (.ref C) (.type "int")) false := looks_subIn X su
  have A6 : Looks (model prog w) s.heap (numberSlotInPython (.type "int") nm) false := .of_pure rfl
  unfold binaryOp1
  refine wpAny_bind (A1.here (wpAny_bind (A2.here (wpAny_bind (A3.here ?_)))))
  have ne : (Value.type "int" == Value.ref C) = false := by simp
  rw [ne]
  simp only [Bool.false_eq_true, if_false]
  refine wpAny_bind (A4.here ?_)
  simp only [Bool.and_self, if_true, Bool.true_and]
  refine wpAny_bind (A5.here ?_)
  simp only [Bool.false_eq_true, if_false, Bool.not_false, if_true]
  refine wpAny_bind (wpAny_bind (A6.here ?_))
  refine wpAny_pure ?_
  simp only [Bool.false_eq_true, if_false]
  refine wpAny_bind (m := tryMethod (.int i t) _ _) (wpAny_tryMethod_declines (typeIs_int s i t) sl (wpAny_mono dec (fun v s₁ h₁ => ⟨h₁.1, ?_⟩) fun _ _ e => e))
  obtain ⟨_, rfl⟩ := h₁
  refine wpAny_bind (wpAny_mono two (fun r s' z => ?_) fun _ _ e => e)
  obtain ⟨v, rfl, hq⟩ := z
  exact wpAny_bind (wpAny_rule (wpAny_pure ⟨v, rfl, hq⟩))
end

/-! the readings -/
/-- what stands beside an own value in a comparison -/
inductive Side (K : PySem.W.Frag) (C : Addr) (H : Hp) : V → String → Prop
  | int (i : Int) : Side K C H (.int i) "int"
  | bl (b : Bool) : Side K C H (.bl b) "bool"
  | str (z : Str) : Side K C H (.str z) "str"
  | non : Side K C H .non "NoneType"
  | tup {p : Addr} {xs : List V} : SqT K H p xs → Side K C H (.ref p) "tuple"
theorem Side.ty {X : Cx} {C : Addr} {pins : List (Addr × Obj)} {σ : L2.St} {H : Hp} {s : Shared} {x : V} {u : Value} {T : String} (h : Side X.K C H x T) (I : L2.Inv X pins σ H s) (r : RelV x u) : s.TypeIs u T := by
  cases h with
  | int i => obtain ⟨t, rfl⟩ := r; rfl
  | bl b => cases r; rfl
  | str z => obtain ⟨t, rfl⟩ := r; rfl
  | non => cases r; rfl
  | tup hq =>
    cases r
    obtain ⟨its, rv, ⟨o, e, hc, _⟩, _⟩ := I.tuple hq
    exact ⟨o, e, hc⟩
/-- what the written part says of C beside the builtin types -/
structure Besides (K : PySem.W.Frag) (C : Addr) : Prop where
  st : ∀ T ∈ ["int", "bool", "str", "NoneType", "tuple"], PySem.W.subIn K (.type T) (.ref C) = some false
  su : ∀ T ∈ ["int", "bool", "str", "NoneType", "tuple"], PySem.W.subIn K (.ref C) (.type T) = some false
theorem Side.mem {K : PySem.W.Frag} {C : Addr} {H : Hp} {x : V} {T : String} (h : Side K C H x T) : T ∈ ["int", "bool", "str", "NoneType", "tuple"] := by cases h <;> simp
section
variable {X : Cx} {CX : CXT} {k : Nat} {C f f0 : Addr} {fd : FuncData} {ps : List Str} {sp : Sp} {E : XK}
/-- an instance of C compared with anything: its own method -/
def r2Cmp (K : PySem.W.Frag) (C : Addr) (sp : Sp) (E : XK) : R2 := fun x y H Q => ∃ a dx fs, x = .ref a ∧ H a = some (.ins C dx fs) ∧ ((∃ T, Side K C H y T) ∨ ∃ b dy gs, y = .ref b ∧ H b = some (.ins C dy gs)) ∧ sp [x, y] H Q E
theorem opr_cmp {op : CmpOp} (hop : ∀ a b, compareOp op a b = richCompare op a b) (B : Besides X.K C) (S : Spc X.K C (cmpInfo op).2.1 f) (F : FnOk X.prog X.w X.K X.mg X.base CX k f fd ps sp) (hr : Room k X.A) (hb : Binds X.K fd ps []) (hx : ∀ σ, PassesAt CX X σ E) :
    OpR X (compareOp op) (r2Cmp X.K C sp E) := by
  rintro pins s σ H x y v u Q I rx ry ⟨a, dx, fs, rfl, ea, ty, q⟩
  obtain rfl : v = Value.ref a := rx
  rw [hop]
  obtain ⟨od, J⟩ := inst_of I ea
  obtain ⟨m, fr⟩ := I.fr
  have go : wpAny (model X.prog X.w) X.A (call (.ref f) [.ref a, u]) (PySem.W.CmpBack (EP X pins σ Q)) X.xe s :=
    thn (run_at (sub_self hr) F hb (hx σ) I (show Vals [V.ref a, y] [Value.ref a, u] from .cons rfl (.cons ry .nil)) q) fun u' s' z => rel_back z
  have hu : X.A.units < cLine := by have := hr.units; omega
  rcases ty with ⟨T, sd⟩ | ⟨b, dy, gs, rfl, eb⟩
  · have tyL : PySem.W.Looks (model X.prog X.w) s.heap (typeOf u) (.type T) := by
      cases sd with
      | int i => obtain ⟨t, rfl⟩ := ry; exact .of_pure rfl
      | bl b => cases ry; exact .of_pure rfl
      | str z => obtain ⟨t, rfl⟩ := ry; exact .of_pure rfl
      | non => cases ry; exact .of_pure rfl
      | tup hq =>
        cases ry
        obtain ⟨its, rv, ⟨o, e, hc, _⟩, _⟩ := I.tuple hq
        intro A' Q' E' s' k q
        exact wpAny_typeOf (T := "tuple") ⟨o, k _ _ e, hc⟩ q
    exact PySem.W.cmp_K hu fr I.ok.mod.kin J tyL (by unfold PySem.W.notFirst; rw [B.st T sd.mem]; simp) S.at_ S.fn go
  · obtain rfl : u = Value.ref b := ry
    obtain ⟨od', J'⟩ := inst_of I eb
    exact PySem.W.cmp_K hu fr I.ok.mod.kin J J'.type (by unfold PySem.W.notFirst; simp) S.at_ S.fn go
/-- an int compared with an instance of C -/
def r2ICmp (C : Addr) (sp : Sp) (E : XK) : R2 := fun x y H Q => ∃ i b dy gs, x = .int i ∧ y = .ref b ∧ H b = some (.ins C dy gs) ∧ sp [y, x] H Q E
theorem ins_obj {pins : List (Addr × Obj)} {σ : L2.St} {H : Hp} {s : Shared} {a dx : Addr} {fs : List (Str × V)} (I : L2.Inv X pins σ H s) (ea : H a = some (.ins C dx fs)) :
    ∃ od, PySem.W.InstAt s.heap a (PySem.W.instObj C dx) C (some od) := inst_of I ea
theorem opr_icmp {op : CmpOp} {nm : String} {g : Int → Int → Sem PySem.Fin} {id : String} (hop : ∀ a b, compareOp op a b = richCompare op a b) (sl : Slot "int" (cmpInfo op).2.1 id) (en : entryFor table id = some (PySem.Builtin.Int.intBinary nm g false)) (ar : ∀ a b, argsOk id ⟨[a, b], []⟩)
    (B : Besides X.K C) (S : Spc X.K C (cmpInfo op).2.2 f) (F : FnOk X.prog X.w X.K X.mg X.base CX k f fd ps sp) (hr : Room k X.A) (hb : Binds X.K fd ps []) (hx : ∀ σ, PassesAt CX X σ E) :
    OpR X (compareOp op) (r2ICmp C sp E) := by
  rintro pins s σ H x y v u Q I rx ry ⟨i, b, dy, gs, rfl, rfl, eb, q⟩
  obtain ⟨t, rfl⟩ := rx
  obtain rfl : u = Value.ref b := ry
  rw [hop]
  obtain ⟨od, J⟩ := inst_of I eb
  have go : wpAny (model X.prog X.w) X.A (call (.ref f) [.ref b, .int i t]) (PySem.W.CmpBack (EP X pins σ Q)) X.xe s :=
    thn (run_at (sub_self hr) F hb (hx σ) I (show Vals [V.ref b, V.int i] [Value.ref b, Value.int i t] from .cons rfl (.cons ⟨t, rfl⟩ .nil)) q) fun u' s' z => rel_back z
  exact rc_refl (by have := hr.units; omega) I.kIn J (typeIs_int s i t) sl (decl_call sl (typeIs_int s i t) en (ar _ _) (decl_int J.at_ (fun _ z => nomatch z))) (B.su "int" (by simp)) S.at_ S.fn go
/-- anything == an instance of C -/
def r2REq (K : PySem.W.Frag) (C : Addr) (sp : Sp) (E : XK) : R2 := fun x y H Q => ∃ b dy gs T, Side K C H x T ∧ y = .ref b ∧ H b = some (.ins C dy gs) ∧ sp [y, x] H Q E
theorem opr_req (B : Besides X.K C) (S : Spc X.K C "__eq__" f) (F : FnOk X.prog X.w X.K X.mg X.base CX k f fd ps sp) (hr : Room k X.A) (hb : Binds X.K fd ps []) (hx : ∀ σ, PassesAt CX X σ E) :
    OpR X (compareOp .Eq) (r2REq X.K C sp E) := by
  rintro pins s σ H x y v u Q I rx ry ⟨b, dy, gs, T, sd, rfl, eb, q⟩
  obtain rfl : u = Value.ref b := ry
  obtain ⟨od, J⟩ := inst_of I eb
  have go : wpAny (model X.prog X.w) X.A (call (.ref f) [.ref b, v]) (PySem.W.CmpBack (EP X pins σ Q)) X.xe s :=
    thn (run_at (sub_self hr) F hb (hx σ) I (show Vals [V.ref b, x] [Value.ref b, v] from .cons rfl (.cons rx .nil)) q) fun u' s' z => rel_back z
  have hT := sd.ty I rx
  have hu : X.A.units < cLine := by have := hr.units; omega
  have su := B.su T sd.mem
  have np : ∀ v, (PySem.W.instObj C dy).data ≠ .prim v := fun _ z => nomatch z
  show wpAny _ _ (richCompare .Eq _ _) _ _ _
  cases sd with
  | int i => obtain ⟨t, rfl⟩ := rx; exact rc_refl (op := .Eq) hu I.kIn J hT PySem.F.slot_int_eq (decl_call PySem.F.slot_int_eq hT PySem.F.entry_int_eq (PySem.F.args_int_eq_2 _ _) (decl_int J.at_ np)) su S.at_ S.fn go
  | bl b => cases rx; exact rc_refl (op := .Eq) hu I.kIn J hT PySem.F.slot_bool_eq (decl_call PySem.F.slot_bool_eq hT PySem.F.entry_int_eq (PySem.F.args_int_eq_2 _ _) (decl_bool J.at_ np)) su S.at_ S.fn go
  | str z => obtain ⟨t, rfl⟩ := rx; exact rc_refl (op := .Eq) hu I.kIn J hT PySem.F.slot_str_eq (decl_call PySem.F.slot_str_eq hT PySem.F.entry_str_eq (PySem.F.args_str_eq_2 _ _) (decl_str J.at_ np)) su S.at_ S.fn go
  | non => cases rx; exact rc_refl (op := .Eq) hu I.kIn J hT PySem.F.slot_NoneType_eq (decl_call PySem.F.slot_NoneType_eq hT PySem.F.entry_NoneType_eq (PySem.F.args_NoneType_eq_2 _ _) decl_none) su S.at_ S.fn go
  | tup hq => cases rx; exact rc_refl (op := .Eq) hu I.kIn J hT PySem.F.slot_tuple_eq (decl_call PySem.F.slot_tuple_eq hT PySem.F.entry_tuple_eq (PySem.F.args_tuple_eq_2 _ _) (decl_tup J.at_ J.cls I.kIn su)) su S.at_ S.fn go
/-- an int + - * an instance of C -/
theorem opr_ibin {op : Operator} {nm : String} {g : Int → Int → Sem PySem.Fin} {id : String} (fl : fillsNumberSlot (.type "int") op.info.2 = pure true) (sl : Slot "int" (PySem.dunder op.info.2) id) (en : entryFor table id = some (PySem.Builtin.Int.intBinary nm g false)) (ar : ∀ a b, argsOk id ⟨[a, b], []⟩)
    (B : Besides X.K C) (B0 : Bin X.K C op.info.2 f0) (S : Spc X.K C (dunderR op.info.2) f) (F : FnOk X.prog X.w X.K X.mg X.base CX k f fd ps sp) (hr : Room k X.A) (hb : Binds X.K fd ps []) (hx : ∀ σ, PassesAt CX X σ E) :
    OpR X (binaryOp op) (r2ICmp C sp E) := by
  rintro pins s σ H x y v u Q I rx ry ⟨i, b, dy, gs, rfl, rfl, eb, q⟩
  obtain ⟨t, rfl⟩ := rx
  obtain rfl : u = Value.ref b := ry
  obtain ⟨od, J⟩ := inst_of I eb
  have go : wpAny (model X.prog X.w) X.A (call (.ref f) [.ref b, .int i t]) (PySem.W.CmpBack (EP X pins σ Q)) X.xe s :=
    thn (run_at (sub_self hr) F hb (hx σ) I (show Vals [V.ref b, V.int i] [Value.ref b, Value.int i t] from .cons rfl (.cons ⟨t, rfl⟩ .nil)) q) fun u' s' z => rel_back z
  exact bin_of (bin1_refl I.kIn J fl sl (decl_call sl (typeIs_int s i t) en (ar _ _) (decl_int J.at_ (fun _ z => nomatch z))) B0 (B.su "int" (by simp)) S.at_ S.fn go)
end
end Pm

/-! Pm, part 4: texts of own values, in, != by an own ==, what a caught error is. -/
namespace Pm
open PySem PySem.Spec PyProof.Rows L2
section
open PySem.W PySem.Calls
variable {prog : Program} {w : World} {A : Around} {E : Value → Shared → Prop} {s : Shared} {K : PySem.W.Frag} {x C f : Addr} {ox : Obj} {od : Option Obj}
/-- the class of a caught error, asked by its name -/
theorem cls_exc {Q : Option Value → Shared → Prop} (T : ExcC K C) (X : K.In s.heap) (I : PySem.W.InstAt s.heap x ox C od) (h : Q (some (.ref C)) { s with toks := s.toks + 1 }) :
    wpAny (model prog w) A (getAttr? (.ref x) "__class__") Q E s := by
  have isC : (clsIn K C).isSome = true := by obtain ⟨c, e, _⟩ := any_some T.hd; rw [e]; rfl
  have fo : findObj K C od "__class__" = some (.bind (.builtin "getset_descriptor.__get__") (.builtin "object.__class__")) := by
    cases od with
    | none => exact findObj_dataN isC T.ha T.hn T.ht
    | some o => exact findObj_data isC T.ha T.hn T.ht
  obtain ⟨hp, gs, dr, tk, os⟩ := s
  have t0 : Looks (model prog w) hp (typeOf (.ref x)) (.ref C) := I.type
  have t1 := looks_findIn (M := model prog w) X T.hg
  have t2 := looks_findIn (M := model prog w) X T.hk
  have t3 := looks_find (M := model prog w) X I fo
  have t4 : Looks (model prog w) hp (isInstance (.ref x) (.type "BaseException")) true := t0.andThen (looks_subIn X T.hs)
  have n2 : (Value.builtin "BaseException.__getattribute__" == Value.builtin "object.__getattribute__") = false := by decide +kernel
  unfold getAttr? getAttrBy? getAttrBy; refine wpAny_bind (wpAny_mkText (wpAny_bind (wpAny_attempt (wpAny_holding (wpAny_bind (t0.at (wpAny_bind (t1.at ?_))))))))
  show wpAny _ _ (if (onTheHeap (.ref C) && (Value.builtin "BaseException.__getattribute__" == Value.builtin "object.__getattribute__")) = true then _ else _) _ _ _
  rw [n2, Bool.and_false, if_neg Bool.false_ne_true]; unfold getAttrByItsOwn hookBefore
  refine wpAny_bind ?_; rw [if_pos (show onTheHeap (.ref C) = true from rfl)]
  refine t2.at (wpAny_bind (wpAny_attempt (wpAny_holding ?_)))
  unfold callGetattribute; rw [Bool.false_and, if_neg Bool.false_ne_true]
  unfold boundAndCalled; rw [PySem.F.excAttr_ValueError.ga.bind (.ref x)]
  refine wpAny_bind (wpAny_pure ?_); show wpAny _ _ (call (.builtin "BaseException.__getattribute__") [.ref x, .str "__class__" tk]) _ _ _
  refine wpAny_call (codeAny_call_builtin PySem.F.excAttr_ValueError.ga.plain PySem.F.entry_bexc_ga (@check_slot (model prog w) _ _ ⟨hp, gs, dr, tk + 1, os⟩ "BaseException.__getattribute__" "BaseException" "__getattribute__" (.ref x) [.str "__class__" tk] [] _ (by decide +kernel) (by decide +kernel) t4 (PySem.F.args_bexc_ga (.ref x) (.str "__class__" tk)) ?_))
  unfold Builtin.«object.__getattribute__»; refine wpAny_bind (wpAny_of_eq (a := ((Value.ref x : Value), [Value.str "__class__" tk])) (by first | rfl | (simp only [slotArgs]; rfl)) (wpAny_bind (wpAny_pure (wpAny_bind (t0.at (wpAny_bind (t3.at ?_)))))))
  show wpAny _ _ (holding [.builtin "object.__class__"] (call (.builtin "getset_descriptor.__get__") [.builtin "object.__class__", .ref x, .ref C]) >>= ret) _ _ _
  refine wpAny_bind (wpAny_holding (wpAny_call (class_get (s := ⟨hp, gs, dr, tk + 1, os⟩) (ox := ox) (od := od) X I T.hm (wpAny_pure ?_))))
  show wpAny _ _ (handedOut (.ref C)) _ _ _
  rw [handedOut_of (v := .ref C) rfl]
  first
    | exact wpAny_pure (wpAny_pure h)
    | exact wpAny_pure h
    | exact wpAny_pure (wpAny_bind (wpAny_pure (wpAny_pure h)))
theorem kitx_excX (T : ExcC K C) : KitX K (.ref x) (.ref C) (fun h => PySem.W.InstAt h x ox C od) where
  ty := fun _ _ _ I => I.type
  it := fun _ _ X _ => by
    obtain ⟨c, e, _⟩ := any_some T.hd; unfold clsIn at e; split at e
    · rename_i ho; intro A' Q' E' s' k q; unfold isType loadHead; exact wpAny_bind (wpAny_loadPart (k _ _ (X _ _ ho)) (wpAny_pure q))
    · cases e
  ne := fun h tp dd its n sl X htp => by
    obtain ⟨c, e, _⟩ := any_some T.hd; unfold clsIn at e; split at e
    · rename_i ho; refine Bool.eq_false_iff.mpr fun q => ?_
      have e1 : C = tp := Value.ref.inj (beq_iff_eq.mp q)
      subst e1; have z := (X _ _ ho).symm.trans htp; cases z
    · cases e
  ca := fun X I k => cls_exc T X I k
/-- a builtin special method that an own class has of its base -/
theorem bound_B {M : Model} {name : Str} {id : String} {args : List Value} {Q : Option Value → Shared → Prop} (X : K.In s.heap) (J : PySem.W.InstAt s.heap x ox C od) (hs : findIn K (.ref C) name = some (some (.builtin id)))
    (hb : ∀ v, bindSpecial (.builtin id) v = pure (.builtin id, [v])) (h : wpAny M A (call (.builtin id) (.ref x :: args)) (fun v => Q (some v)) E s) : wpAny M A (callSpecialIfBound? (.ref x) name args) Q E s := by
  have done : wpAny M A (call (.builtin id) ([.ref x] ++ args) >>= fun v => pure (some v)) Q E s := wpAny_bind (wpAny_mono h (fun _ _ z => wpAny_pure z) fun _ _ z => z)
  unfold callSpecialIfBound? bindSpecialIfBound?; refine wpAny_holding (wpAny_bind (wpAny_bind (wpAny_bind (J.type.here ((looks_findIn X hs).here (wpAny_bind (wpAny_askSetting (wpAny_ite ?_))))))))
  split
  · exact wpAny_bind ((Looks.of_pure (hb _)).here (wpAny_pure (by exact done)))
  · exact wpAny_tryCatch (wpAny_bind ((Looks.of_pure (hb _)).here (wpAny_pure (by exact done))))
/-- x != b where x's class has an own == and no own != -/
theorem rc_neE {b tb : Value} {Q : Value → Shared → Prop} (hu : A.units < cLine) (hu1 : A.in1.units < cLine) (X : K.In s.heap) (J : PySem.W.InstAt s.heap x ox C od) (hb : Looks (model prog w) s.heap (typeOf b) tb) (hn : notFirst K C tb = true) (hne : findIn K (.ref C) "__ne__" = some (some (.builtin "object.__ne__")))
    (hm : mroIn K C (.type "object") = some true) (he : findIn K (.ref C) "__eq__" = some (some (.ref f))) (hf : isFn K (.ref f) = true)
    (h : wpAny (model prog w) A.in1 (call (.ref f) [.ref x, b]) (fun v s' => ∃ r, v = .bool r ∧ Q (.bool (!r)) s') E s) : wpAny (model prog w) A (richCompare .NotEq (.ref x) b) Q E s := by
  have one : wpAny (model prog w) A (tryCompare (.ref x) (cmpInfo .NotEq).2.1 b) (fun r s' => ∃ v, r = some v ∧ Q v s') E s := by
    unfold tryCompare
    refine wpAny_bind (bound_B X J hne PySem.F.slot_object_ne.bind (wpAny_call (codeAny_call_builtin PySem.F.slot_object_ne.plain PySem.F.entry_object_ne (check_slot (i := "object.__ne__") (owner := "object") (n := "__ne__") (by decide +kernel) (by decide +kernel) (J.type.andThen (looks_mroIn X hm)) (PySem.F.args_object_ne_2 _ _) ?_))))
    unfold Builtin.«object.__ne__»; refine wpAny_bind (m := slotArgs "__ne__" 1 _) (wpAny_pure ?_)
    refine wpAny_bind (m := cRoomFor _ _) (wpAny_cRoomFor hu1 (wpAny_bind (m := callSpecialIfBound? (.ref x) "__eq__" _) (ifBound_K X J he hf (wpAny_mono h (fun v s' z => ?_) fun _ _ z => z))))
    obtain ⟨r, rfl, q⟩ := z
    exact wpAny_bind (wpAny_truthy_bool (wpAny_pure (wpAny_pure ⟨_, rfl, q⟩)))
  unfold richCompare; simp only [oneThing_ref]
  refine wpAny_holding (wpAny_bind (wpAny_cRoomFor hu (wpAny_bind (J.type.here (wpAny_bind (hb.here ?_))))))
  have fin : wpAny (model prog w) A (do if let some v ← tryCompare (.ref x) (cmpInfo .NotEq).2.1 b then return v else pure .none) Q E s := wpAny_bind (wpAny_mono one (fun r s' ⟨v, e, q⟩ => by subst e; exact wpAny_pure q) fun _ _ z => z)
  split
  · rename_i q
    have e : subIn K tb (.ref C) = some false := (Bool.or_eq_true_iff.mp hn).elim (fun e => by rw [beq_iff_eq.mp e] at q; simp at q) (fun e => beq_iff_eq.mp e)
    refine wpAny_bind ((looks_subIn X e).here ?_); simp only [Bool.false_eq_true, if_false]
    exact wpAny_bind (wpAny_mono one (fun r s' ⟨v, e, q⟩ => by subst e; exact wpAny_pure q) fun _ _ z => z)
  · refine wpAny_bind (wpAny_pure ?_); simp only [Bool.false_eq_true, if_false]
    exact wpAny_bind (wpAny_mono one (fun r s' ⟨v, e, q⟩ => by subst e; exact wpAny_pure q) fun _ _ z => z)
end
section
variable {X : Cx} {CX : CXT} {k : Nat} {C f a : Addr} {fd : FuncData} {ps : List Str} {sp : Sp} {E : XK} {oe : Obj} {cls : Value} {d : Option Addr} {pn : List (Addr × Obj)}
/-- isinstance of the error that the suite holds, of class C, its own dict at d -/
def rIsEX (K : PySem.W.Frag) (a : Addr) (cls : Value) (d : Option Addr) (C : Addr) : List V → Hp → VK → Prop := fun xs H Q => cls = .ref C ∧ ∃ dd fs, d = some dd ∧ H dd = some (.xd fs) ∧
  ((∃ c cv b, xs = [.ref a, c] ∧ ClsV c cv ∧ PySem.W.kitOne K (.ref C) cv = some b ∧ Q (.bl b) H) ∨ ∃ tp cs us b, xs = [.ref a, .ref tp] ∧ H tp = some (.tup cs) ∧ Paired ClsV cs us ∧ PySem.W.kitAny K (.ref C) us = some b ∧ Q (.bl b) H)
theorem call_isX (T : ExcC X.K C) (hz : Zc cls d oe) (hf : ∃ vs, oe.data = .fields vs) : CallR (X.suite a ((a, oe) :: pn)) (.builtin "isinstance") (rIsEX X.K a cls d C) := by
  rintro pins s σ H xs us Q I r ⟨rfl, dd, fs, rfl, ed, h⟩
  obtain ⟨ha, _⟩ := I.pin (a, oe) (List.mem_append_left _ List.mem_cons_self)
  obtain ⟨vs, hd⟩ := hf
  obtain ⟨mA, hns, _⟩ := (show ObjOk X.prog X.w H s.heap dd (.xd fs) from I.hok dd _ ed)
  obtain ⟨od, ho, _⟩ := lookIn_ns hns
  have J : PySem.W.InstAt s.heap a oe C (some od) := ⟨ha, hz.1, by unfold PySem.W.notCls; rw [hd] <;> rfl, by rw [hz.2]; exact ho⟩
  rcases h with ⟨c, cv, b, rfl, hc, e, q⟩ | ⟨tp, cs, cvs, b, rfl, ht, hc, e, q⟩
  · obtain ⟨u1, u2, rfl, r1, r2⟩ := vals2 r
    obtain rfl : u1 = Value.ref a := r1
    have e2 := hc.eq r2
    subst e2
    exact PySem.W.kia_one (kitx_excX T) I.kIn J e (fun z => nomatch z) fun tk => ⟨.bl b, H, I.tok tk, rfl, q⟩
  · obtain ⟨u1, u2, rfl, r1, r2⟩ := vals2 r
    obtain rfl : u1 = Value.ref a := r1
    obtain rfl : u2 = Value.ref tp := r2
    obtain ⟨_, its, rv, o, h1, h2, n, h3⟩ := (show ObjOk X.prog X.w H s.heap tp (.tup cs) from I.hok tp _ ht)
    have e3 := ClsV.all hc rv
    subst e3
    obtain ⟨oc, od', dt, sl⟩ := o
    simp only at h2 h3
    subst h2 h3
    exact PySem.W.kia_tup (kitx_excX T) I.kIn J h1 e (fun z => nomatch z) fun tk => ⟨.bl b, H, I.tok tk, rfl, q⟩
/-- {x} in an f-string, x an instance of C with an own __str__ -/
def tFmtO (C : Addr) (sp : Sp) (E : XK) (te : TE) : TE := fun σ H Q => te σ H fun x H1 => ∃ b dx fs, x = .ref b ∧ H1 b = some (.ins C dx fs) ∧ sp [.ref b] H1 (fun v H' => (∃ z, v = .str z) ∧ Q v H') E
theorem pe_fmtO {e : Expr} {te : TE} {pos : Pos} (he : PE X e te) (fm : PySem.W.findIn X.K (.ref C) "__format__" = some (some (.builtin "object.__format__"))) (hm : PySem.W.mroIn X.K C (.type "object") = some true)
    (S : Spc X.K C "__str__" f) (F : FnOk X.prog X.w X.K X.mg X.base CX k f fd ps sp) (hr : Room (k + 1) X.A) (hb : Binds X.K fd ps []) (hx : ∀ σ, PassesAt CX X σ E) : PE X (.FormattedValue e (-1) none pos) (tFmtO C sp E te) := by
  refine ⟨fun pins s σ H Q I h => wpAny_FormattedValue_plain (thn (he.run pins s σ H _ I h) fun v s1 ⟨x, H1, I1, r1, b, dx, fs, ex, eb, q⟩ => ?_)⟩
  subst ex
  obtain rfl : v = Value.ref b := r1
  obtain ⟨od, J⟩ := inst_of I1 eb
  have sb := (sub_self hr).in1
  exact PySem.W.kfo_fieldS (by have := sb.room.units; omega) I1.kIn J fm hm S.at_ S.fn (thn (run_at sb F hb (hx σ) (I1.tok _) self1 q) fun u s' => strback)
/-- x in an instance of C -/
theorem op_inO (S : Spc X.K C "__contains__" f) (F : FnOk X.prog X.w X.K X.mg X.base CX k f fd ps sp) (hr : Room k X.A) (hb : Binds X.K fd ps []) (hx : ∀ σ, PassesAt CX X σ E) :
    OpR X (compareOp .In) (fun x y H Q => ∃ b dy gs, y = .ref b ∧ H b = some (.ins C dy gs) ∧ sp [y, x] H (fun v H' => ∃ r, v = .bl r ∧ Q (.bl r) H') E) := by
  rintro pins s σ H x y v u Q I rx ry ⟨b, dy, gs, rfl, eb, q⟩
  obtain rfl : u = Value.ref b := ry
  obtain ⟨od, J⟩ := inst_of I eb
  obtain ⟨m, fr⟩ := I.fr
  refine PySem.W.in_K fr I.ok.mod.kin J S.at_ S.fn (thn (run_at (sub_self hr) F hb (hx σ) I (show Vals [V.ref b, x] [Value.ref b, v] from .cons rfl (.cons rx .nil)) q) fun u s' z => ?_)
  obtain ⟨vv, H', I', r', ⟨r, rfl, q'⟩⟩ := z
  cases r'
  exact wpAny_truthy_bool ⟨.bl r, H', I', rfl, q'⟩
/-- != by an own == -/
theorem opr_neE (B : Besides X.K C) (hne : PySem.W.findIn X.K (.ref C) "__ne__" = some (some (.builtin "object.__ne__"))) (hm : PySem.W.mroIn X.K C (.type "object") = some true) (S : Spc X.K C "__eq__" f) (F : FnOk X.prog X.w X.K X.mg X.base CX k f fd ps sp) (hr : Room (k + 1) X.A) (hb : Binds X.K fd ps []) (hx : ∀ σ, PassesAt CX X σ E) :
    OpR X (compareOp .NotEq) (fun x y H Q => ∃ a dx fs b dy gs, x = .ref a ∧ y = .ref b ∧ H a = some (.ins C dx fs) ∧ H b = some (.ins C dy gs) ∧ sp [x, y] H (fun v H' => ∃ r, v = .bl r ∧ Q (.bl (!r)) H') E) := by
  rintro pins s σ H x y v u Q I rx ry ⟨a, dx, fs, b, dy, gs, rfl, rfl, ea, eb, q⟩
  obtain rfl : v = Value.ref a := rx
  obtain rfl : u = Value.ref b := ry
  obtain ⟨od, J⟩ := inst_of I ea
  obtain ⟨od', J'⟩ := inst_of I eb
  have sb := (sub_self hr).in1
  refine rc_neE (by have := hr.units; omega) (by have := sb.room.units; omega) I.kIn J J'.type (by unfold PySem.W.notFirst; simp) hne hm S.at_ S.fn (thn (run_at sb F hb (hx σ) I (show Vals [V.ref a, V.ref b] [Value.ref a, Value.ref b] from .cons rfl (.cons rfl .nil)) q) fun u s' z => ?_)
  obtain ⟨vv, H', I', r', ⟨r, rfl, q'⟩⟩ := z
  cases r'
  exact ⟨r, rfl, .bl (!r), H', I', rfl, q'⟩
end
end Pm

/-! Pm, part 5: lists of own instances: repr; len(x), x[i] by own methods. -/
namespace Pm
open PySem PySem.Spec PyProof.Rows L2
section
open PySem.W PySem.Calls
variable {prog : Program} {w : World} {A : Around} {E : Value → Shared → Prop} {s : Shared} {K : PySem.W.Frag} {x C f : Addr} {ox : Obj} {od : Option Obj}
/-- a special method of an own class, called in another way than by call -/
theorem by_own {M : Model} {name : Str} {last : Value → List Value → Sem Value} {Q : Option Value → Shared → Prop} (X : K.In s.heap) (I : PySem.W.InstAt s.heap x ox C od) (hs : findIn K (.ref C) name = some (some (.ref f))) (hf : isFn K (.ref f) = true)
    (h : wpAny M A (last (.ref f) [.ref x]) (fun v => Q (some v)) E s) : wpAny M A (callSpecialIfBoundBy? last (.ref x) name) Q E s := by
  have done : wpAny M A (last (.ref f) [.ref x] >>= fun v => pure (some v)) Q E s := wpAny_bind (wpAny_mono h (fun _ _ z => wpAny_pure z) fun _ _ z => z)
  unfold callSpecialIfBoundBy? bindSpecialIfBound?; refine wpAny_holding (wpAny_bind (wpAny_bind (wpAny_bind (I.type.here ((looks_findIn X hs).here (wpAny_bind (wpAny_askSetting (wpAny_ite ?_))))))))
  split
  · exact wpAny_bind ((bind_fn X _ (beq_iff_eq.mp hf)).here (wpAny_pure (by exact done)))
  · exact wpAny_tryCatch (wpAny_bind ((bind_fn X _ (beq_iff_eq.mp hf)).here (wpAny_pure (by exact done))))
/-- the text of an own instance within a list's text -/
theorem under_own {b : Nat} {Q : Str → Shared → Prop} (hb : b ≤ sizeLine) (hu : A.units < cLine) (X : K.In s.heap) (I : PySem.W.InstAt s.heap x ox C od) (hs : findIn K (.ref C) "__repr__" = some (some (.ref f))) (hf : isFn K (.ref f) = true)
    (h : wpAny (model prog w) A (call (.ref f) [.ref x]) (fun v s' => ∃ z t, v = .str z t ∧ Q z s') E s) : wpAny (model prog w) A (pyReprUnder b (.ref x)) Q E s := by
  refine wpAny_pyReprUnder_ref hb ?_
  unfold pyReprObjUnder pyReprObjBy; refine wpAny_bind (wpAny_cRoomFor hu (wpAny_bind (wpAny_bind (I.type.here ((looks_findIn X hs).here ?_)))))
  show wpAny _ _ (if (some (Value.ref f)).isNone = true then _ else _) _ _ _
  rw [if_neg (by simp)]
  refine wpAny_bind (by_own X I hs hf (wpAny_mono h (fun v s' z => ?_) fun _ _ e => e))
  obtain ⟨z, t, rfl, q⟩ := z
  refine wpAny_bind (wpAny_isInstance (typeIs_str _ _ _) isSubtype_str_str ?_)
  first
    | exact wpAny_pure ⟨_, _, rfl, q⟩
    | (rw [if_pos rfl]; exact wpAny_pure ⟨_, _, rfl, q⟩)
end
/-! ### repr of a list of own instances -/
abbrev loopC (us : List Value) : Code := .builtin "list.__repr__.loop" ⟨us, []⟩
theorem loop_units {A : Around} {us : List Value} : (A.under (loopC us)).units = A.units + 1 := by first | rfl | simp [Around.under, Code.cUnits, Code.frames, Code.isFrame]
theorem loop_frames {A : Around} {us : List Value} : (A.under (loopC us)).frames = A.frames := by
  show pushEnvs (loopC us).envs A.frames = A.frames
  have e : (loopC us).envs = [] := by first | rfl | simp [loopC, Code.envs, Code.isFrame]
  rw [e]
  cases A.frames <;> rfl
theorem loop_depth {A : Around} {us : List Value} : (A.under (loopC us)).depth ≤ A.depth + 1 := by
  show A.depth + (loopC us).weight ≤ A.depth + 1
  have e : (loopC us).weight ≤ 1 := by
    have g : Code.isGuard (loopC us) = true := by show guardIds.contains "list.__repr__.loop" = true; decide +kernel
    simp [Code.weight, loopC, Code.isCreation, Code.isCaller, Code.frames, Code.isFrame]
    first | (split <;> decide) | skip
  omega
theorem loop_room {X : Cx} {k : Nat} {A : Around} {us : List Value} (r : L2.Sub X (k + 1) A) : L2.Sub X k (A.under (loopC us)) := by
  refine ⟨⟨r.room.hd, ?_, ?_⟩, loop_frames.trans r.fr⟩
  · have := r.room.dp; have := loop_depth (A := A) (us := us); omega
  · have := r.room.un; rw [loop_units]; omega
section
variable {X : Cx} {k : Nat} {C f l P : Addr} {fd : FuncData} {ps : List Str} {sp : Sp} {pins : List (Addr × Obj)} {σ : L2.St} {H : Hp} {qs : List Addr} {ts : List Str} {A : Around} {R : PySem.Result → Shared → Prop} {b : Nat}
/-- each of them tells its text, and leaves the heap as it is -/
def Tells (C : Addr) (sp : Sp) (H : Hp) (qs : List Addr) (ts : List Str) : Prop :=
  ts.length = qs.length ∧ ∀ (i : Nat) (q : Addr) (t : Str), qs[i]? = some q → ts[i]? = some t → (∃ dx fs, H q = some (.ins C dx fs)) ∧ ∀ Q' : VK, Q' (.str t) H → sp [.ref q] H Q' E0
abbrev plob (acc : Array Value) (c : Nat) : Obj := { cls := .type "list", dict := none, data := .seq acc c, slots := #[] }
theorem reprs_loop (S : Spc X.K C "__repr__" f) (G : FnOk X.prog X.w X.K X.mg X.base CX0 k f fd ps sp) (hb : Binds X.K fd ps []) (sb : L2.Sub X (k + 1) A)
    (hl : H l = some (.lst (qs.map V.ref))) (T : Tells C sp H qs ts) (hsz : b + (listText ts).length ≤ sizeLine) (np : ∀ p ∈ X.pn ++ pins, p.1 ≠ P) (h1 : P ∈ X.ex ∨ X.s_0.heap.objs.size ≤ P)
    (hR : ∀ u s', L2.Inv X pins σ H s' → R (.ok (.ret (.str (listText ts) u))) s') (hE : ∀ e s', X.xe e s' → R (.error e) s') :
    ∀ (n i : Nat) (s : Shared) (acc : Array Value) (c : Nat) (done : List (Str × Tok)), qs.length - i = n → i ≤ qs.length → L2.Inv X ((P, plob acc c) :: pins) σ H s → acc.toList = strValues done → done.map (·.1) = ts.take i →
      codeAny (model X.prog X.w) A (loopC [.ref l, rawInt i, .ref P, rawInt ((b + piled (ts.take i) : Nat) : Int)]) R s := by
  have len := T.1
  have pl := piled_le_listText ts
  have fl := (textFrom_len ts 0 "[")
  have xl : (listText ts).length = (textFrom 0 "[" ts).length + 1 := by
    show (textFrom 0 "[" ts ++ "]").length = _
    rw [strLen_append]; rfl
  have few : qs.length ≤ sizeLine := by
    have := fl.1
    rw [if_neg (Nat.lt_irrefl 0)] at this
    omega
  intro n
  induction n with
  | zero =>
    intro i s acc c done hk hi I hacc hdone
    obtain rfl : i = qs.length := by omega
    have hP := (I.pin (P, plob acc c) (List.mem_append_right _ List.mem_cons_self)).1
    obtain ⟨_, its, n0, rv, el, ho⟩ := I.lstM hl
    rw [List.length_map] at el
    refine codeAny_builtin PySem.F.entry_list_repr_loop ?_
    show wpAny _ _ (Builtin.«list.__repr__.loop» _) _ _ s
    unfold rawInt; rw [repr_loop_tree]; refine wpAny_bind (wpAny_listItems ho rfl ?_)
    have none : its.toArray[((qs.length : Nat) : Int).toNat]? = none := by simp [el]
    rw [none]
    show wpAny _ _ (reprEnd (.ref P)) _ _ s
    unfold reprEnd; refine wpAny_bind (wpAny_listItems hP rfl ?_)
    rw [hacc, repr_fold]
    have all : done.map (·.1) = ts := by rw [hdone, ← len, List.take_length]
    rw [all]; refine wpAny_bind (wpAny_pure (wpAny_bind (wpAny_mkStr (wpAny_pure ?_) (by show (listText ts).length ≤ sizeLine; omega))))
    exact hR _ _ (ClX.unpin (I.tok _))
  | succ n ih =>
    intro i s acc c done hk hi I hacc hdone
    have lt : i < qs.length := by omega
    have hP := I.pin (P, plob acc c) (List.mem_append_right _ List.mem_cons_self)
    obtain ⟨_, its, n0, rv, el, ho⟩ := I.lstM hl
    rw [List.length_map] at el
    obtain ⟨q, hq⟩ : ∃ q, qs[i]? = some q := ⟨_, List.getElem?_eq_getElem lt⟩
    obtain ⟨t, ht⟩ : ∃ t, ts[i]? = some t := ⟨_, List.getElem?_eq_getElem (by omega)⟩
    obtain ⟨⟨dx, fs, eq⟩, tell⟩ := T.2 i q t hq ht
    have hit : its[i]? = some (.ref q) := by
      obtain ⟨u, hu, ru⟩ := rv.get (i := i) (x := V.ref q) (by rw [List.getElem?_map, hq]; rfl)
      cases ru
      exact hu
    have tl := fl.2.1 t (List.mem_of_getElem? ht)
    have p1 := piled_take_succ ht
    have p2 := piled_take_le ts (i + 1)
    refine codeAny_builtin PySem.F.entry_list_repr_loop ?_
    show wpAny _ _ (Builtin.«list.__repr__.loop» _) _ _ s
    unfold rawInt; rw [repr_loop_tree]; refine wpAny_bind (wpAny_listItems ho rfl ?_)
    have some_ : its.toArray[((i : Nat) : Int).toNat]? = some (.ref q) := by simp [hit]
    rw [some_]
    obtain ⟨od, J⟩ := inst_of I eq
    have sb2 : L2.Sub X k (A.under (loopC [.ref l, rawInt i, .ref P, rawInt ((b + piled (ts.take i) : Nat) : Int)])) := loop_room sb
    have un : (A.under (loopC [.ref l, rawInt i, .ref P, rawInt ((b + piled (ts.take i) : Nat) : Int)])).units < cLine := by have := sb2.room.un; omega
    refine wpAny_bind (wpAny_holding (under_own (by simp; omega) un I.kIn J S.at_ S.fn (wpAny_mono (run_at sb2 G hb at0 I self1 (tell (fun v H' => v = .str t ∧ H' = H) ⟨rfl, rfl⟩)) (fun u s1 z => ?_) fun e s1 z => hE e s1 z)))
    obtain ⟨v, H1, I1, r1, rfl, rfl⟩ := z
    obtain ⟨tk, rfl⟩ := r1
    refine ⟨t, tk, rfl, ?_⟩
    have few2 : acc.size ≤ sizeLine := by
      have e1 : acc.toList.length = acc.size := by simp
      have e2 : (strValues done).length = done.length := by simp [strValues]
      have e3 : done.length = (ts.take i).length := by rw [← hdone, List.length_map]
      have e4 : (ts.take i).length ≤ i := by rw [List.length_take]; omega
      rw [hacc] at e1
      omega
    have hP1 := I1.pin (P, plob acc c) (List.mem_append_right _ List.mem_cons_self)
    refine wpAny_bind (wpAny_mkStr (wpAny_bind ?_) (by omega))
    show wpAny _ _ (updateSeq P _) _ _ _
    refine wpAny_updateSeq hP1.1 rfl (wpAny_pure ⟨PySem.F.quiet_list_repr_loop _, ?_⟩) few2
    have c1 : ((i : Int) + 1) = ((i + 1 : Nat) : Int) := by omega
    have c2 : ((b + piled (ts.take i) : Nat) : Int).toNat + (t.length + 2) = b + piled (ts.take (i + 1)) := by simp; omega
    have cells : ∀ x c', X.env.cells.lookup x = some c' → c' ≠ P := fun x c' e z => by
      obtain ⟨v', q'⟩ := I1.cell x c' e
      obtain ⟨o', ho', hd'⟩ := q'
      rw [z, hP1.1] at ho'
      cases ho'
      exact hP1.2.2.2.2 v' hd'
    have hs0 := I1.tok (s1.toks + 1)
    have self : ∀ o, (Obj.mapSeq (·.push (.str t s1.toks)) (plob acc c)) = o → (s1.heap.update P (Obj.mapSeq (·.push (.str t s1.toks)))).get? P = some o := fun o e => by rw [← e]; exact Heap.get?_update_self _ hP1.1 rfl
    have I2 : L2.Inv X pins σ H1 { s1 with heap := s1.heap.update P (Obj.mapSeq (·.push (.str t s1.toks))), toks := s1.toks + 1 } :=
      (ClX.unpin I1).turned (it := P) (fun b o hb e => (Heap.get?_update_other _ _ (Ne.symm hb)).trans e) hP1.2.1 hP1.2.2.1 h1 cells np
    have I3 : L2.Inv X ((P, plob (acc.push (.str t s1.toks)) _) :: pins) σ H1 { s1 with heap := s1.heap.update P (Obj.mapSeq (·.push (.str t s1.toks))), toks := s1.toks + 1 } := I2.pins_of fun p hp => by
      rcases List.mem_cons.mp hp with rfl | hp
      · exact ⟨self _ rfl, hP1.2.1, hP1.2.2.1, hP1.2.2.2.1, fun v z => nomatch z⟩
      · exact I2.pin p (List.mem_append_right _ hp)
    have go := ih (i + 1) _ _ _ (done ++ [(t, s1.toks)]) (by omega) lt I3 (by simp [hacc, strValues]) (by simp [List.take_add_one, ht, hdone])
    show codeAny _ A (.builtin "list.__repr__.loop" ⟨[_, rawInt ((i : Int) + 1), _, rawInt ((((b + piled (ts.take i) : Nat) : Int).toNat + (t.length + 2) : Nat) : Int)], []⟩) R _
    rw [c1, c2]
    exact go
/-- repr of a list of instances of C, each with its text -/
def rReprs (C : Addr) (sp : Sp) : List V → Hp → VK → Prop := fun xs H Q => ∃ (l : Addr) (qs : List Addr) (ts : List Str), xs = [.ref l] ∧ H l = some (.lst (qs.map V.ref)) ∧ Tells C sp H qs ts ∧ (listText ts).length ≤ sizeLine ∧ Q (.str (listText ts)) H
theorem call_reprs (gg : GG X.A) (S : Spc X.K C "__repr__" f) (G : FnOk X.prog X.w X.K X.mg X.base CX0 k f fd ps sp) (hr : Room (k + 2) X.A) (hb : Binds X.K fd ps []) : CallR X (.builtin "repr") (rReprs C sp) := by
  rintro pins s σ H xs us Q I r ⟨l, qs, ts, rfl, hl, T, sz, q⟩
  obtain rfl := Vals.ref1 r
  obtain ⟨_, its, n0, rv, el, ho⟩ := I.lstM hl
  rw [List.length_map] at el
  have sb : L2.Sub X (k + 1) X.A.in1 := (sub_self (k := k + 2) hr).in1
  have un := hr.un
  have ty : s.TypeIs (.ref l) "list" := ⟨_, ho, rfl⟩
  refine call_repr_slot (by omega) ty PySem.F.slot_list_repr.toG ?_
  have len := T.1
  cases its with
  | nil =>
    have e : ts = [] := List.length_eq_zero_iff.mp (by have z : qs.length = 0 := el; omega)
    subst e
    refine call_list_repr_empty ty ho rfl ⟨_, _, rfl, .str _, H, I.tok _, ⟨_, rfl⟩, ?_⟩
    rw [← listText_nil]
    exact q
  | cons x its =>
    refine wpAny_call (codeAny_call_builtin PySem.F.slot_list_repr.plain PySem.F.entry_list_repr (PySem.F.slot_list_repr.check _ _ _ _ _ _ _ _ ty (PySem.F.args_list_repr_1 _) ?_))
    refine wpAny_list_repr_head (A := X.A.in1.in1) (g := []) (b := 0) (by exact gg) (fun _ _ _ z => nomatch z) ho rfl ?_
    refine wpAny_bind (m := newList []) (wpAny_newObj_type (wpAny_pure ⟨PySem.F.quiet_list_repr_loop _, ?_⟩))
    have big : ∀ {p : Addr × Obj}, p ∈ X.pn ++ pins → p.1 ≠ s.heap.objs.size := fun {p} hp z => absurd (Heap.lt_size (I.pin p hp).1) (by rw [z]; exact Nat.lt_irrefl _)
    refine cast (congrArg (fun z : Nat => codeAny (model X.prog X.w) X.A.in1 (loopC [.ref l, rawInt 0, .ref s.heap.objs.size, rawInt (z : Int)]) _ _) (show 0 + piled (ts.take 0) = 0 by simp [piled])) ?_
    refine reprs_loop (P := s.heap.objs.size) (b := 0) S G hb sb hl T (by omega) (fun p hp => big hp) (.inr (Nat.le_trans I.sz (Nat.le_refl _))) (fun u s' I' => ⟨_, _, rfl, .str _, H, I', ⟨_, rfl⟩, q⟩) (fun e s' z => z) qs.length 0 _ #[] 0 [] (by omega) (by omega) ?_ rfl (by simp)
    have ne : ∀ {p : Addr × Obj}, p ∈ X.pn ++ pins → p.1 ≠ s.heap.objs.size := big
    refine Inv.pins_of (pins := pins) (I.kept (t' := s.toks) (fun b u e => Heap.get?_push_of_some _ e)) fun p hp => ?_
    rcases List.mem_cons.mp hp with rfl | hp
    · exact ⟨Heap.get?_push_size _ rfl, I.hok.fresh (Nat.le_refl _), Nat.ne_of_gt I.lt, I.nofs (Nat.le_refl _), fun v z => nomatch z⟩
    · obtain ⟨a1, a2⟩ := I.pin p (List.mem_append_right _ hp)
      exact ⟨Heap.get?_push_of_some _ a1, a2⟩
/-! ### len(x), x[i] by own methods -/
theorem call_lenO (S : Spc X.K C "__len__" f) (G : FnOk X.prog X.w X.K X.mg X.base CX0 k f fd ps sp) (hr : Room (k + 1) X.A) (hb : Binds X.K fd ps []) :
    CallR X (.builtin "len") (rc1O C sp E0 fun v => ∃ n : Nat, v = .int n ∧ n < 2 ^ 62) := by
  rintro pins s σ H xs us Q I r ⟨a, dx, fs, rfl, ea, q⟩
  obtain rfl := Vals.ref1 r
  obtain ⟨od, J⟩ := inst_of I ea
  obtain ⟨m, fr⟩ := I.fr
  refine PySem.W.len_K fr I.ok.mod.kin J S.at_ S.fn (thn (run_at (sub_self hr).in1 G hb at0 I self1 q) fun u s' z => ?_)
  obtain ⟨v, H', I', r', ⟨n, rfl, hn⟩, q'⟩ := z
  obtain ⟨t, rfl⟩ := r'
  exact ⟨⟨by omega, by omega⟩, .int n, H', I'.tok _, ⟨_, rfl⟩, q'⟩
def tIxO (C : Addr) (sp : Sp) (ta tb : TE) : TE := fun σ H Q => ta σ H fun x H1 => tb σ H1 fun y H2 => ∃ a dx fs, x = .ref a ∧ H2 a = some (.ins C dx fs) ∧ sp [x, y] H2 Q E0
theorem pe_ixO {a b : Expr} {ta tb : TE} {pos : Pos} (S : Spc X.K C "__getitem__" f) (hf : PySem.W.fnIn X.K f = true) (G : FnOk X.prog X.w X.K X.mg X.base CX0 k f fd ps sp) (hr : Room (k + 1) X.A) (hb : Binds X.K fd ps []) (ha : PE X a ta) (hb2 : PE X b tb)
    (hs : ∀ o i, subscripted b true o i = runValue (.builtin "lifetime.subscript" ⟨[o, i], []⟩) := by exact fun _ _ => rfl) : PE X (.Subscript a b pos) (tIxO C sp ta tb) := by
  refine ⟨fun pins s σ H Q I h => Subscript_ (binT ha hb2 I h fun v u s2 x y H2 I2 rx ry q => ?_)⟩
  obtain ⟨p, dx, fs, rfl, ep, q⟩ := q
  obtain rfl : v = Value.ref p := rx
  obtain ⟨od, J⟩ := inst_of I2 ep
  obtain ⟨m, fr⟩ := I2.fr
  exact PySem.W.sub_K fr I2.ok.mod.kin J S.at_ hf S.fn (run_at (sub_self hr).in1 G hb at0 I2 (show Vals [V.ref p, y] [Value.ref p, u] from .cons rfl (.cons ry .nil)) q) (hs _ _)
end
/-! ### tuples of own instances compared -/
section
variable {X : Cx} {k : Nat} {C f fe fl : Addr} {fd fde fdl : FuncData} {ps pse psl : List Str} {sp spe spl : Sp} {pins : List (Addr × Obj)} {σ : L2.St} {H : Hp} {A : Around} {s : Shared}
/-- a == b as the sequences ask it: the same object, or the own == -/
def eqc (sp : Sp) (a b : Addr) (H : Hp) (R : Bool → Hp → Prop) : Prop := (a = b → R true H) ∧ (a ≠ b → sp [.ref a, .ref b] H (fun v H' => ∃ k, v = .bl k ∧ R k H') E0)
theorem cmp_sub {op : CmpOp} {a b dx dy : Addr} {fs gs : List (Str × V)} {Q : VK} (S : Spc X.K C (cmpInfo op).2.1 f) (G : FnOk X.prog X.w X.K X.mg X.base CX0 k f fd ps sp) (hb : Binds X.K fd ps []) (sb : L2.Sub X k A) (I : L2.Inv X pins σ H s) (ea : H a = some (.ins C dx fs)) (eb : H b = some (.ins C dy gs))
    (q : sp [.ref a, .ref b] H Q E0) : wpAny (model X.prog X.w) A (richCompare op (.ref a) (.ref b)) (EP X pins σ Q) X.xe s := by
  obtain ⟨od, J⟩ := inst_of I ea
  obtain ⟨od', J'⟩ := inst_of I eb
  obtain ⟨m, fr⟩ := I.fr
  have hu : A.units < cLine := by have := sb.room.un; omega
  exact PySem.W.cmp_K hu fr I.ok.mod.kin J J'.type (by unfold PySem.W.notFirst; simp) S.at_ S.fn (thn (run_at sb G hb at0 I (show Vals [V.ref a, V.ref b] [Value.ref a, Value.ref b] from .cons rfl (.cons rfl .nil)) q) fun u' s' z => rel_back z)
theorem eqb_own {a b dx dy : Addr} {fs gs : List (Str × V)} {R : Bool → Hp → Prop} (S : Spc X.K C "__eq__" f) (G : FnOk X.prog X.w X.K X.mg X.base CX0 k f fd ps sp) (hb : Binds X.K fd ps []) (sb : L2.Sub X k A) (I : L2.Inv X pins σ H s) (ea : H a = some (.ins C dx fs)) (eb : H b = some (.ins C dy gs))
    (q : eqc sp a b H R) : wpAny (model X.prog X.w) A (eqBool (.ref a) (.ref b)) (fun r s' => ∃ H', L2.Inv X pins σ H' s' ∧ R r H') X.xe s := by
  unfold eqBool
  refine wpAny_holding ?_
  by_cases e : a = b
  · subst e
    rw [if_pos (beq_self_eq_true _)]
    have go : wpAny (model X.prog X.w) A (pure true) (fun r s' => ∃ H', L2.Inv X pins σ H' s' ∧ R r H') X.xe s := wpAny_pure ⟨H, I, q.1 rfl⟩
    first
      | exact go
      | exact wpAny_bind (wpAny_pure go)
  · rw [if_neg (by simp [e])]
    show wpAny _ _ (richCompare .Eq (.ref a) (.ref b) >>= truthOfDropped) _ _ _
    refine wpAny_bind (thn (cmp_sub (op := .Eq) S G hb sb I ea eb (q.2 e)) fun u s' z => ?_)
    obtain ⟨v, H', I', r', ⟨kk, rfl, q'⟩⟩ := z
    cases r'
    exact wpAny_truthy_bool ⟨H', I', q'⟩
/-- t < u for pairs of instances of C -/
def rLtP (K : PySem.W.Frag) (C : Addr) (spe spl : Sp) : R2 := fun x y H Q => ∃ (t u a1 b1 a2 b2 : Addr), x = .ref t ∧ y = .ref u ∧ SqT K H t [.ref a1, .ref b1] ∧ SqT K H u [.ref a2, .ref b2] ∧ (∃ dx fs, H a1 = some (.ins C dx fs)) ∧ (∃ dx fs, H a2 = some (.ins C dx fs)) ∧
  eqc spe a1 a2 H fun k1 H1 => if k1 = true then (∃ dx fs, H1 b1 = some (.ins C dx fs)) ∧ (∃ dx fs, H1 b2 = some (.ins C dx fs)) ∧ eqc spe b1 b2 H1 (fun k2 H2 => if k2 = true then Q (.bl false) H2 else (∃ dx fs, H2 b1 = some (.ins C dx fs)) ∧ (∃ dx fs, H2 b2 = some (.ins C dx fs)) ∧ spl [.ref b1, .ref b2] H2 (fun v H3 => (∃ r, v = .bl r) ∧ Q v H3) E0)
    else (∃ dx fs, H1 a1 = some (.ins C dx fs)) ∧ (∃ dx fs, H1 a2 = some (.ins C dx fs)) ∧ spl [.ref a1, .ref a2] H1 (fun v H3 => (∃ r, v = .bl r) ∧ Q v H3) E0
theorem op_ltP (Se : Spc X.K C "__eq__" fe) (Ge : FnOk X.prog X.w X.K X.mg X.base CX0 k fe fde pse spe) (hbe : Binds X.K fde pse []) (Sl : Spc X.K C "__lt__" fl) (Gl' : FnOk X.prog X.w X.K X.mg X.base CX0 k fl fdl psl spl) (hbl : Binds X.K fdl psl []) (hr : Room (k + 1) X.A) :
    OpR X (compareOp .Lt) (rLtP X.K C spe spl) := by
  rintro pins s σ H x y v u Q I rx ry ⟨t, t', a1, b1, a2, b2, rfl, rfl, h1, h2, ⟨dx1, fs1, e1⟩, ⟨dx2, fs2, e2⟩, q⟩
  cases rx
  cases ry
  obtain ⟨its, r1, p1, _⟩ := I.tuple h1
  obtain ⟨its2, r2, p2, _⟩ := I.tuple h2
  obtain ⟨u1, u2, rfl, ra1, rb1⟩ := vals2 r1
  obtain ⟨w1, w2, rfl, ra2, rb2⟩ := vals2 r2
  cases ra1; cases rb1; cases ra2; cases rb2
  obtain ⟨⟨cls, dd, data, sl⟩, ho, hc, n, hd⟩ := id p1
  obtain ⟨⟨cls2, dd2, data2, sl2⟩, ho2, hc2, n2, hd2⟩ := id p2
  simp only at hc hd hc2 hd2
  subst hc hd hc2 hd2
  have ty1 : s.TypeIs (.ref t) "tuple" := ⟨_, ho, rfl⟩
  have ty2 : s.TypeIs (.ref t') "tuple" := ⟨_, ho2, rfl⟩
  have sb : L2.Sub X k X.A.in1 := (sub_self hr).in1
  refine wpAny_richCompare_same_room (op := .Lt) ty1 ty2 PySem.F.slot_tuple_lt (wpAny_call (codeAny_call_builtin PySem.F.slot_tuple_lt.plain PySem.F.entry_tuple_lt (PySem.F.slot_tuple_lt.check _ _ _ _ _ _ _ _ ty1 (PySem.F.args_tuple_lt_2 _ _) ?_))) (by have := hr.un; omega)
  have f2 := AutoSeq1.sub_tuple_tuple
  have ask : ∀ {a b dx dy : Addr} {fs gs : List (Str × V)} {H0 : Hp} {s0 : Shared} {R : Bool → Hp → Prop} {Q' : Bool → Shared → Prop} {E' : Value → Shared → Prop}, L2.Inv X pins σ H0 s0 → H0 a = some (.ins C dx fs) → H0 b = some (.ins C dy gs) → eqc spe a b H0 R →
      (∀ e s', X.xe e s' → E' e s') → (∀ r s', (∃ H', L2.Inv X pins σ H' s' ∧ R r H') → Q' r s') → wpAny (model X.prog X.w) X.A.in1 (eqBool (.ref a) (.ref b)) Q' E' s0 := fun I ea eb q he h => wpAny_mono (eqb_own Se Ge hbe sb I ea eb q) h he
  have less : ∀ {a b dx dy : Addr} {fs gs : List (Str × V)} {H0 : Hp} {s0 : Shared} {Q' : Value → Shared → Prop} {E' : Value → Shared → Prop}, L2.Inv X pins σ H0 s0 → H0 a = some (.ins C dx fs) → H0 b = some (.ins C dy gs) → spl [.ref a, .ref b] H0 (fun v H3 => (∃ r, v = .bl r) ∧ Q v H3) E0 →
      (∀ e s', X.xe e s' → E' e s') → (∀ r s', (∃ k, r = .bool k ∧ EP X pins σ Q r s') → Q' r s') → wpAny (model X.prog X.w) X.A.in1 (richCompare .Lt (.ref a) (.ref b)) Q' E' s0 := fun I ea eb q he h => wpAny_mono (cmp_sub (op := .Lt) Sl Gl' hbl sb I ea eb q) (fun r s' z => by
        obtain ⟨v, H', I', r', ⟨kk, rfl⟩, q'⟩ := z
        cases r'
        exact h _ _ ⟨kk, rfl, .bl kk, H', I', rfl, q'⟩) he
  obtain ⟨hp, g, d, tk, os⟩ := s
  wp_walk using AutoSeq1.wpAny_loadPart' ho, AutoSeq1.wpAny_loadPart' ho2, ask I e1 e2 q (fun _ _ z => z)
  rintro r ⟨hp1, g1, d1, tk1, os1⟩ ⟨H1, I1, q1⟩
  cases r with
  | false =>
    obtain ⟨⟨_, _, f1⟩, ⟨_, _, f2'⟩, q1⟩ := q1
    wp_walk using less I1 f1 f2' q1 (fun _ _ z => z)
    rintro r ⟨hp2, g2, d2, tk2, os2⟩ ⟨kk, rfl, z⟩
    wp_walk
    show Value.bool kk ≠ Value.notImplemented ∧ EP X pins σ Q (.bool kk) _
    exact ⟨fun z => (nomatch z), z⟩
  | true =>
    obtain ⟨⟨_, _, f1⟩, ⟨_, _, f2'⟩, q1⟩ := q1
    wp_walk using ask I1 f1 f2' q1 (fun _ _ z => z)
    rintro r ⟨hp2, g2, d2, tk2, os2⟩ ⟨H2, I2, q2⟩
    cases r with
    | false =>
      obtain ⟨⟨_, _, f3⟩, ⟨_, _, f4⟩, q2⟩ := q2
      wp_walk using less I2 f3 f4 q2 (fun _ _ z => z)
      rintro r ⟨hp3, g3, d3, tk3, os3⟩ ⟨kk, rfl, z⟩
      wp_walk
      show Value.bool kk ≠ Value.notImplemented ∧ EP X pins σ Q (.bool kk) _
      exact ⟨fun z => (nomatch z), z⟩
    | true =>
      wp_walk
      show Value.bool false ≠ Value.notImplemented ∧ EP X pins σ Q (.bool false) _
      exact ⟨fun z => (nomatch z), V.bl false, H2, I2, rfl, q2⟩
end
end Pm

/-! PmLcm: math.lcm of two and three whole numbers; enumerate over a tuple. -/
namespace PmL
open PySem PySem.Calls PySem.W
theorem args_lcm3 (a b c : Value) : argsOk "math.lcm" ⟨[a, b, c], []⟩ := by unfold argsOk; kernel_rfl
theorem run_lcm3 (a : Int) (t : Tok) (b : Int) (u : Tok) (c : Int) (v : Tok) (hc0 : ¬(max 1 a.natAbs).log2 / 30 + 1 > 450) (hc1 : ¬(max a.natAbs b.natAbs).log2 / 30 + 1 > 450) (hc2 : ¬(max (a.natAbs.lcm b.natAbs) c.natAbs).log2 / 30 + 1 > 450)
    (hsz : (((((Nat.lcm 1 a.natAbs).lcm b.natAbs).lcm c.natAbs : Nat) : Int)).natAbs.log2 < bitsLine := by size_fits) :
    Gives (Builtin.«math.lcm» ⟨[.int a t, .int b u, .int c v], []⟩) (.int (((((Nat.lcm 1 a.natAbs).lcm b.natAbs).lcm c.natAbs : Nat) : Int))) :=
  .of_wp fun M A E s Q h => by obtain ⟨hp, g, d, tk, os⟩ := s; wp_walk; (try (refine wpAny_ite_false (decide_eq_false (Nat.not_le.mpr hsz)) ?_; wp_walk)); exact ⟨_, rfl, h⟩
end PmL
namespace Pm
open PySem PySem.Spec PyProof.Rows L2
section
variable {X : Cx}
def Lz (n : Nat) : Prop := n < 2 ^ 12000
theorem Lz.log {n : Nat} (h : Lz n) : n.log2 < 12000 := by
  unfold Lz at h
  by_cases h0 : n = 0
  · subst h0; rw [Nat.log2_zero]; decide
  · exact (Nat.log2_lt h0).mpr h
/-- what divides Z, and is reached by its parts -/
def rLcm3 : List V → Hp → VK → Prop := fun vs H Q => ∃ a b c Z : Int, vs = [.int a, .int b, .int c] ∧ 0 < a ∧ 0 < b ∧ 0 < c ∧ a ∣ Z ∧ b ∣ Z ∧ c ∣ Z ∧ 0 < Z ∧ Lz Z.natAbs ∧ ∀ R : Int, 0 < R → R ∣ Z → a ∣ R → b ∣ R → c ∣ R → Q (.int R) H
def rLcm2 : List V → Hp → VK → Prop := fun vs H Q => ∃ a b Z : Int, vs = [.int a, .int b] ∧ 0 < a ∧ 0 < b ∧ a ∣ Z ∧ b ∣ Z ∧ 0 < Z ∧ Lz Z.natAbs ∧ ∀ R : Int, 0 < R → R ∣ Z → a ∣ R → b ∣ R → Q (.int R) H
theorem log_450 {n : Nat} (h : Lz n) : ¬ n.log2 / 30 + 1 > 450 := by
  have := h.log
  omega
theorem lcm_facts {a b Z : Int} (ha : 0 < a) (hb : 0 < b) (da : a ∣ Z) (db : b ∣ Z) (hz : 0 < Z) : 0 < a.natAbs.lcm b.natAbs ∧ a.natAbs.lcm b.natAbs ∣ Z.natAbs ∧ a.natAbs ∣ a.natAbs.lcm b.natAbs ∧ b.natAbs ∣ a.natAbs.lcm b.natAbs :=
  ⟨Nat.lcm_pos (by omega) (by omega), Nat.lcm_dvd (Int.natAbs_dvd_natAbs.mpr da) (Int.natAbs_dvd_natAbs.mpr db), Nat.dvd_lcm_left _ _, Nat.dvd_lcm_right _ _⟩
theorem cr_lcm3 : CallR X (.builtin "math.lcm") rLcm3 := by
  intro pins s σ H vs us Q I r h
  obtain ⟨a, b, c, Z, rfl, a0, b0, c0, da, db, dc, z0, hz, q⟩ := h
  obtain ⟨t, u, v, rfl⟩ : ∃ t u v, us = [.int a t, .int b u, .int c v] := by
    cases r with
    | cons r1 r =>
      cases r with
      | cons r2 r =>
        cases r with
        | cons r3 r =>
          cases r
          obtain ⟨t, rfl⟩ := r1
          obtain ⟨u, rfl⟩ := r2
          obtain ⟨v, rfl⟩ := r3
          exact ⟨t, u, v, rfl⟩
  obtain ⟨p1, p2, p3, p4⟩ := lcm_facts a0 b0 da db z0
  have e1 : Nat.lcm 1 a.natAbs = a.natAbs := by simp [Nat.lcm]
  have q1 : (a.natAbs.lcm b.natAbs).lcm c.natAbs ∣ Z.natAbs := Nat.lcm_dvd p2 (Int.natAbs_dvd_natAbs.mpr dc)
  have q0 : 0 < (a.natAbs.lcm b.natAbs).lcm c.natAbs := Nat.lcm_pos p1 (by omega)
  have lz : ∀ {n : Nat}, n ∣ Z.natAbs → Lz n := fun {n} h => Nat.lt_of_le_of_lt (Nat.le_of_dvd (by omega) h) hz
  have ma : Lz a.natAbs := lz (Int.natAbs_dvd_natAbs.mpr da)
  have mb : Lz b.natAbs := lz (Int.natAbs_dvd_natAbs.mpr db)
  have mc : Lz c.natAbs := lz (Int.natAbs_dvd_natAbs.mpr dc)
  have mx : ∀ {n m : Nat}, Lz n → Lz m → Lz (max n m) := fun {n m} h1 h2 => by
    rcases Nat.le_total n m with h | h
    · rw [Nat.max_eq_right h]; exact h2
    · rw [Nat.max_eq_left h]; exact h1
  have one : Lz 1 := Nat.one_lt_two_pow (by omega)
  have hs : (((((Nat.lcm 1 a.natAbs).lcm b.natAbs).lcm c.natAbs : Nat) : Int)).natAbs.log2 < bitsLine := by
    rw [e1, Int.natAbs_natCast]
    have := (lz q1).log
    have e : bitsLine = 134217728 := by decide
    omega
  refine PySem.call_function_meets PySem.W.MGF.kind_lcm PySem.W.MGF.plain_lcm PySem.W.MGF.entry_lcm (PmL.args_lcm3 _ _ _) (PmL.run_lcm3 a t b u c v (log_450 (mx one ma)) (log_450 (mx ma mb)) (log_450 (mx (lz p2) mc)) hs).meets ?_
  rw [e1]
  refine ⟨.int _, H, I.tok _, ⟨_, rfl⟩, q _ (by omega) ?_ ?_ ?_ ?_⟩
  · exact Int.natAbs_dvd_natAbs.mp (by rw [Int.natAbs_natCast]; exact q1)
  · exact Int.natAbs_dvd_natAbs.mp (by rw [Int.natAbs_natCast]; exact Nat.dvd_trans p3 (Nat.dvd_lcm_left _ _))
  · exact Int.natAbs_dvd_natAbs.mp (by rw [Int.natAbs_natCast]; exact Nat.dvd_trans p4 (Nat.dvd_lcm_left _ _))
  · exact Int.natAbs_dvd_natAbs.mp (by rw [Int.natAbs_natCast]; exact Nat.dvd_lcm_right _ _)
theorem cr_lcm2 : CallR X (.builtin "math.lcm") rLcm2 := by
  intro pins s σ H vs us Q I r h
  obtain ⟨a, b, Z, rfl, a0, b0, da, db, z0, hz, q⟩ := h
  obtain ⟨t, u, rfl⟩ := Vals.int2 r
  obtain ⟨p1, p2, p3, p4⟩ := lcm_facts a0 b0 da db z0
  have e1 : Nat.lcm 1 a.natAbs = a.natAbs := by simp [Nat.lcm]
  have lz : ∀ {n : Nat}, n ∣ Z.natAbs → Lz n := fun {n} h => Nat.lt_of_le_of_lt (Nat.le_of_dvd (by omega) h) hz
  have ma : Lz a.natAbs := lz (Int.natAbs_dvd_natAbs.mpr da)
  have mb : Lz b.natAbs := lz (Int.natAbs_dvd_natAbs.mpr db)
  have mx : ∀ {n m : Nat}, Lz n → Lz m → Lz (max n m) := fun {n m} h1 h2 => by
    rcases Nat.le_total n m with h | h
    · rw [Nat.max_eq_right h]; exact h2
    · rw [Nat.max_eq_left h]; exact h1
  have one : Lz 1 := Nat.one_lt_two_pow (by omega)
  have hs : ((((Nat.lcm 1 a.natAbs).lcm b.natAbs : Nat) : Int)).natAbs.log2 < bitsLine := by
    rw [e1, Int.natAbs_natCast]
    have := (lz p2).log
    have e : bitsLine = 134217728 := by decide
    omega
  refine PySem.call_function_meets PySem.W.MGF.kind_lcm PySem.W.MGF.plain_lcm PySem.W.MGF.entry_lcm (PySem.W.MGF.args_lcm _ _) (PySem.W.mg_run_lcm a t b u (log_450 (mx one ma)) (log_450 (mx ma mb)) hs).meets ?_
  rw [e1]
  refine ⟨.int _, H, I.tok _, ⟨_, rfl⟩, q _ (by omega) ?_ ?_ ?_⟩
  · exact Int.natAbs_dvd_natAbs.mp (by rw [Int.natAbs_natCast]; exact p2)
  · exact Int.natAbs_dvd_natAbs.mp (by rw [Int.natAbs_natCast]; exact p3)
  · exact Int.natAbs_dvd_natAbs.mp (by rw [Int.natAbs_natCast]; exact p4)
end
/-! f(e, ..), a def with defaults -/
section
variable {X : Cx} {CX : CXT} {k n : Nat} {f : Addr} {fd : FuncData} {ps : List Str} {sp : Sp} {E : L2.St → XK} {x : Str} {p pos : Pos} {e : Expr} {es : List Expr} {t : TA} {g : List Value → List Value → List Value} {gV : List V → List V → List V}
def tFk (n : Nat) (sp : Sp) (gV : List V → List V → List V) (E : L2.St → XK) (t : TA) : TE := fun σ H Q => t σ H fun vs H1 => vs.length = n ∧ sp (gV vs []) H1 Q (E σ)
theorem pe_fP (F : FnOk X.prog X.w X.K X.mg X.base CX k f fd ps sp) (hr : Room k X.A) (hg : Gl X x) (hm : X.mg x = some (.ref f)) (hk : PySem.W.keepIn X.K (.ref f) = true) (hb : KBn X.K fd ps n [] g gV) (hx : ∀ σ, PassesAt CX X σ (E σ)) (ha : PA X (e :: es) t)
    (hdb : (x == ("__debug__" : Str)) = false := by decide) (he : starEach (e :: es) X.env = (false, eval e X.env) :: starEach es X.env := by rfl) (hpl : (backTo pos (starEach es X.env)).any (·.1) = false := by rfl) :
    PE X (.Call (.Name x p) (e :: es) [] pos) (tFk n sp gV E t) := by
  refine ⟨fun pins s σ H Q I h => wpAny_Call_Name_kw (ld_glob I hg hm ?_ hdb)⟩
  refine PySem.W.callWith_K (h₀ := X.base) I.ok.mod.kin hk (thn (ha.run pos pins s σ H _ I h) fun us s1 ⟨vs, H1, I1, r, l1, q⟩ => ⟨I1.kIn, ?_⟩) he hpl
  exact run_kb (ks := []) (ws := []) (zs := []) F hr hb hx I1 r .nil l1 rfl q
end
end Pm

namespace Pm
open PySem PySem.Spec PyProof.Rows L2
/-- what isinstance asks of an own class -/
structure TyC (K : PySem.W.Frag) (C : Addr) : Prop where
  at_ : PySem.W.findIn K (.ref C) "__class__" = some (some (.builtin "object.__class__")) ∧ PySem.W.specialIn K (.builtin "object.__class__") "__get__" = some (some (.builtin "getset_descriptor.__get__")) ∧
    PySem.W.takesIn K (.builtin "object.__class__") = some true ∧ PySem.W.mroIn K C (.type "object") = some true
  ic : PySem.W.isClsIn K C = true
  ty : PySem.W.typeIn K (.ref C) = some (.type "type")
  ss : PySem.W.subIn K (.ref C) (.ref C) = some true

/-! ### the text by places (generated from the linked text) -/
def top (i : Nat) : Stmt := PySem.Challenge.pw_poolsmeet_k08_waters_made.main.body.getD i (.Pass ⟨0, 0, 0, 0⟩)
abbrev s_InvalidNumber_init_d : Stmt := inClass (top 4) 0
abbrev s_Touching_init_d : Stmt := inClass (top 7) 0
abbrev s_Ratio_init_d : Stmt := inClass (top 11) 0
abbrev s_Ratio_of : Stmt := inClass (top 11) 1
abbrev s_Ratio_over : Stmt := inClass (top 11) 5
abbrev s_Ratio_add_d : Stmt := inClass (top 11) 6
abbrev s_Ratio_sub_d : Stmt := inClass (top 11) 8
abbrev s_Ratio_mul_d : Stmt := inClass (top 11) 10
abbrev s_Ratio_abs_d : Stmt := inClass (top 11) 15
abbrev s_Ratio_eq_d : Stmt := inClass (top 11) 17
abbrev s_Ratio_ne_d : Stmt := inClass (top 11) 18
abbrev s_Ratio_le_d : Stmt := inClass (top 11) 20
abbrev s_Ratio_ge_d : Stmt := inClass (top 11) 22
abbrev s_Ratio_str_d : Stmt := inClass (top 11) 23
abbrev s_is_number : Stmt := top 12
abbrev s_lead : Stmt := top 14
abbrev s_Pool_init_d : Stmt := inClass (top 26) 0
abbrev s_Pool_middle : Stmt := inClass (top 26) 2
abbrev s_Pool_volume : Stmt := inClass (top 26) 3
abbrev s_Pool_left : Stmt := inClass (top 26) 4
abbrev s_Pool_right : Stmt := inClass (top 26) 5
abbrev s_Pool_add_d : Stmt := inClass (top 26) 8
abbrev s_Pool_contains_d : Stmt := inClass (top 26) 9
abbrev s_Pool_eq_d : Stmt := inClass (top 26) 10
abbrev s_Pool_repr_d : Stmt := inClass (top 26) 11
abbrev s_Water_init_d : Stmt := inClass (top 29) 0
abbrev s_Water_getitem_d : Stmt := inClass (top 29) 9
abbrev s_Water_len_d : Stmt := inClass (top 29) 11
abbrev s_lw_box : Stmt := top 35
abbrev s_lw_take : Stmt := top 36
abbrev s_lw_number : Stmt := top 37
abbrev s_lw_is : Stmt := top 38
abbrev s_lw_pool : Stmt := top 39
abbrev s_lw_moments : Stmt := top 40
abbrev s_lw_is_water : Stmt := top 41
abbrev s_lw_row : Stmt := top 42
abbrev s_lw_long_row : Stmt := top 43
abbrev s_lw_due : Stmt := top 44
abbrev s_lw_made : Stmt := top 45
abbrev s_law : Stmt := top 46
theorem sc_InvalidNumber_init_d : FnScope ["self", "value"] ["self", "value"] (defScope s_InvalidNumber_init_d) := ⟨rfl, rfl, rfl, by decide +kernel, rfl, by decide +kernel, by decide +kernel⟩
theorem sc_Touching_init_d : FnScope ["self", "index"] ["self", "index"] (defScope s_Touching_init_d) := ⟨rfl, rfl, rfl, by decide +kernel, rfl, by decide +kernel, by decide +kernel⟩
theorem sc_Ratio_init_d : FnScope ["self", "top", "bottom", "shared"] ["self", "top", "bottom"] (defScope s_Ratio_init_d) := ⟨rfl, rfl, rfl, by decide +kernel, rfl, by decide +kernel, by decide +kernel⟩
theorem sc_Ratio_of : FnScope ["cls", "value"] ["cls", "value"] (defScope s_Ratio_of) := ⟨rfl, rfl, rfl, by decide +kernel, rfl, by decide +kernel, by decide +kernel⟩
theorem sc_Ratio_over : FnScope ["self", "other", "divisor"] ["self", "other"] (defScope s_Ratio_over) := ⟨rfl, rfl, rfl, by decide +kernel, rfl, by decide +kernel, by decide +kernel⟩
theorem sc_Ratio_add_d : FnScope ["self", "other", "number"] ["self", "other"] (defScope s_Ratio_add_d) := ⟨rfl, rfl, rfl, by decide +kernel, rfl, by decide +kernel, by decide +kernel⟩
theorem sc_Ratio_sub_d : FnScope ["self", "other", "number"] ["self", "other"] (defScope s_Ratio_sub_d) := ⟨rfl, rfl, rfl, by decide +kernel, rfl, by decide +kernel, by decide +kernel⟩
theorem sc_Ratio_mul_d : FnScope ["self", "other", "number"] ["self", "other"] (defScope s_Ratio_mul_d) := ⟨rfl, rfl, rfl, by decide +kernel, rfl, by decide +kernel, by decide +kernel⟩
theorem sc_Ratio_abs_d : FnScope ["self"] ["self"] (defScope s_Ratio_abs_d) := ⟨rfl, rfl, rfl, by decide +kernel, rfl, by decide +kernel, by decide +kernel⟩
theorem sc_Ratio_eq_d : FnScope ["self", "other"] ["self", "other"] (defScope s_Ratio_eq_d) := ⟨rfl, rfl, rfl, by decide +kernel, rfl, by decide +kernel, by decide +kernel⟩
theorem sc_Ratio_ne_d : FnScope ["self", "other"] ["self", "other"] (defScope s_Ratio_ne_d) := ⟨rfl, rfl, rfl, by decide +kernel, rfl, by decide +kernel, by decide +kernel⟩
theorem sc_Ratio_le_d : FnScope ["self", "other"] ["self", "other"] (defScope s_Ratio_le_d) := ⟨rfl, rfl, rfl, by decide +kernel, rfl, by decide +kernel, by decide +kernel⟩
theorem sc_Ratio_ge_d : FnScope ["self", "other"] ["self", "other"] (defScope s_Ratio_ge_d) := ⟨rfl, rfl, rfl, by decide +kernel, rfl, by decide +kernel, by decide +kernel⟩
theorem sc_Ratio_str_d : FnScope ["self"] ["self"] (defScope s_Ratio_str_d) := ⟨rfl, rfl, rfl, by decide +kernel, rfl, by decide +kernel, by decide +kernel⟩
theorem sc_is_number : FnScope ["value"] ["value"] (defScope s_is_number) := ⟨rfl, rfl, rfl, by decide +kernel, rfl, by decide +kernel, by decide +kernel⟩
theorem sc_lead : FnScope ["one", "other"] ["one", "other"] (defScope s_lead) := ⟨rfl, rfl, rfl, by decide +kernel, rfl, by decide +kernel, by decide +kernel⟩
theorem sc_Pool_init_d : FnScope ["self", "middle", "volume", "amount", "half"] ["self", "middle", "volume"] (defScope s_Pool_init_d) := ⟨rfl, rfl, rfl, by decide +kernel, rfl, by decide +kernel, by decide +kernel⟩
theorem sc_Pool_middle : FnScope ["self"] ["self"] (defScope s_Pool_middle) := ⟨rfl, rfl, rfl, by decide +kernel, rfl, by decide +kernel, by decide +kernel⟩
theorem sc_Pool_volume : FnScope ["self"] ["self"] (defScope s_Pool_volume) := ⟨rfl, rfl, rfl, by decide +kernel, rfl, by decide +kernel, by decide +kernel⟩
theorem sc_Pool_left : FnScope ["self"] ["self"] (defScope s_Pool_left) := ⟨rfl, rfl, rfl, by decide +kernel, rfl, by decide +kernel, by decide +kernel⟩
theorem sc_Pool_right : FnScope ["self"] ["self"] (defScope s_Pool_right) := ⟨rfl, rfl, rfl, by decide +kernel, rfl, by decide +kernel, by decide +kernel⟩
theorem sc_Pool_add_d : FnScope ["self", "other", "volume", "moment"] ["self", "other"] (defScope s_Pool_add_d) := ⟨rfl, rfl, rfl, by decide +kernel, rfl, by decide +kernel, by decide +kernel⟩
theorem sc_Pool_contains_d : FnScope ["self", "x"] ["self", "x"] (defScope s_Pool_contains_d) := ⟨rfl, rfl, rfl, by decide +kernel, rfl, by decide +kernel, by decide +kernel⟩
theorem sc_Pool_eq_d : FnScope ["self", "other"] ["self", "other"] (defScope s_Pool_eq_d) := ⟨rfl, rfl, rfl, by decide +kernel, rfl, by decide +kernel, by decide +kernel⟩
theorem sc_Pool_repr_d : FnScope ["self"] ["self"] (defScope s_Pool_repr_d) := ⟨rfl, rfl, rfl, by decide +kernel, rfl, by decide +kernel, by decide +kernel⟩
theorem sc_Water_init_d : FnScope ["self", "pools", "at"] ["self", "pools"] (defScope s_Water_init_d) := ⟨rfl, rfl, rfl, by decide +kernel, rfl, by decide +kernel, by decide +kernel⟩
theorem sc_Water_getitem_d : FnScope ["self", "at"] ["self", "at"] (defScope s_Water_getitem_d) := ⟨rfl, rfl, rfl, by decide +kernel, rfl, by decide +kernel, by decide +kernel⟩
theorem sc_Water_len_d : FnScope ["self"] ["self"] (defScope s_Water_len_d) := ⟨rfl, rfl, rfl, by decide +kernel, rfl, by decide +kernel, by decide +kernel⟩
theorem sc_lw_box : FnScope ["_law_script", "_law_k", "_law_cell", "_law_seed"] ["_law_script", "_law_k"] (defScope s_lw_box) := ⟨rfl, rfl, rfl, by decide +kernel, rfl, by decide +kernel, by decide +kernel⟩
theorem sc_lw_take : FnScope ["_law_box_here", "_law_many", "_law_digit", "_law_first", "_law_mixed"] ["_law_box_here", "_law_many"] (defScope s_lw_take) := ⟨rfl, rfl, rfl, by decide +kernel, rfl, by decide +kernel, by decide +kernel⟩
theorem sc_lw_number : FnScope ["_law_box_here", "_law_top", "_law_unit"] ["_law_box_here", "_law_top", "_law_unit"] (defScope s_lw_number) := ⟨rfl, rfl, rfl, by decide +kernel, rfl, by decide +kernel, by decide +kernel⟩
theorem sc_lw_is : FnScope ["_law_found", "_law_top", "_law_bottom"] ["_law_found", "_law_top", "_law_bottom"] (defScope s_lw_is) := ⟨rfl, rfl, rfl, by decide +kernel, rfl, by decide +kernel, by decide +kernel⟩
theorem sc_lw_pool : FnScope ["_law_box_here", "_law_unit", "_law_drop"] ["_law_box_here", "_law_unit", "_law_drop"] (defScope s_lw_pool) := ⟨rfl, rfl, rfl, by decide +kernel, rfl, by decide +kernel, by decide +kernel⟩
theorem sc_lw_moments : FnScope ["_law_drops", "_law_spot", "_law_volume"] ["_law_drops"] (defScope s_lw_moments) := ⟨rfl, rfl, rfl, by decide +kernel, rfl, by decide +kernel, by decide +kernel⟩
theorem sc_lw_is_water : FnScope ["_law_found", "_law_unit", "_law_dues", "_law_at", "_law_moment", "_law_volume"] ["_law_found", "_law_unit", "_law_dues"] (defScope s_lw_is_water) := ⟨rfl, rfl, rfl, by decide +kernel, rfl, by decide +kernel, by decide +kernel⟩
theorem sc_lw_row : FnScope ["_law_box_here", "_law_unit", "_law_found", "_law_turn", "_law_volume", "_law_form", "_law_spot", "_law_last", "_law_amount", "_law_half", "_law_beside"] ["_law_box_here"] (defScope s_lw_row) := ⟨rfl, rfl, rfl, by decide +kernel, rfl, by decide +kernel, by decide +kernel⟩
theorem sc_lw_long_row : FnScope ["_law_box_here", "_law_many", "_law_found", "_law_wrong", "_law_at", "_law_spot", "_law_volume", "_law_last", "_law_amount", "_law_half"] ["_law_box_here"] (defScope s_lw_long_row) := ⟨rfl, rfl, rfl, by decide +kernel, rfl, by decide +kernel, by decide +kernel⟩
theorem sc_lw_due : FnScope ["_law_drops", "_law_at", "_law_one", "_law_other"] ["_law_drops"] (defScope s_lw_due) := ⟨rfl, rfl, rfl, by decide +kernel, rfl, by decide +kernel, by decide +kernel⟩
theorem sc_lw_made : FnScope ["_law_some", "_law_found", "_law_strange", "e"] ["_law_some"] (defScope s_lw_made) := ⟨rfl, rfl, rfl, by decide +kernel, rfl, by decide +kernel, by decide +kernel⟩
theorem sc_law : FnScope ["_law_script", "_law_k", "_law_box_here", "_law_turn", "_law_unit", "_law_drops", "_law_some", "_law_drop", "_law_due_here", "_law_kept", "_law_passed", "_law_found"] ["_law_script"] (defScope s_law) := ⟨rfl, rfl, rfl, by decide +kernel, rfl, by decide +kernel, by decide +kernel⟩
/-- what the top has written -/
structure Txt (K : PySem.W.Frag) (mg : Str → Option Value) where
  b_len : mg "len" = none
  b_range : mg "range" = none
  b_int : mg "int" = none
  b_str : mg "str" = none
  b_bool : mg "bool" = none
  b_abs : mg "abs" = none
  b_isinstance : mg "isinstance" = none
  b_repr : mg "repr" = none
  b_max : mg "max" = none
  b_min : mg "min" = none
  b_tuple : mg "tuple" = none
  b_list : mg "list" = none
  b_sum : mg "sum" = none
  b_enumerate : mg "enumerate" = none
  b_sorted : mg "sorted" = none
  g_gcd : mg "gcd" = some (.builtin "math.gcd")
  g_lcm : mg "lcm" = some (.builtin "math.lcm")
  C_PoolError : Addr
  g_PoolError : mg "PoolError" = some (.ref C_PoolError)
  ox_PoolError : OexC K C_PoolError
  xf_PoolError : XfC K C_PoolError
  ic_PoolError : PySem.W.isClsIn K C_PoolError = true
  ss_PoolError : PySem.W.subIn K (.ref C_PoolError) (.ref C_PoolError) = some true
  C_InvalidNumber : Addr
  g_InvalidNumber : mg "InvalidNumber" = some (.ref C_InvalidNumber)
  ox_InvalidNumber : OexC K C_InvalidNumber
  xf_InvalidNumber : XfC K C_InvalidNumber
  ic_InvalidNumber : PySem.W.isClsIn K C_InvalidNumber = true
  ss_InvalidNumber : PySem.W.subIn K (.ref C_InvalidNumber) (.ref C_InvalidNumber) = some true
  n_InvalidNumber_value : PySem.W.findIn K (.ref C_InvalidNumber) "value" = some none
  C_InvalidDrop : Addr
  g_InvalidDrop : mg "InvalidDrop" = some (.ref C_InvalidDrop)
  ox_InvalidDrop : OexC K C_InvalidDrop
  xf_InvalidDrop : XfC K C_InvalidDrop
  ic_InvalidDrop : PySem.W.isClsIn K C_InvalidDrop = true
  ss_InvalidDrop : PySem.W.subIn K (.ref C_InvalidDrop) (.ref C_InvalidDrop) = some true
  C_Full : Addr
  g_Full : mg "Full" = some (.ref C_Full)
  ox_Full : OexC K C_Full
  xf_Full : XfC K C_Full
  ic_Full : PySem.W.isClsIn K C_Full = true
  ss_Full : PySem.W.subIn K (.ref C_Full) (.ref C_Full) = some true
  C_Touching : Addr
  g_Touching : mg "Touching" = some (.ref C_Touching)
  ox_Touching : OexC K C_Touching
  xf_Touching : XfC K C_Touching
  ic_Touching : PySem.W.isClsIn K C_Touching = true
  ss_Touching : PySem.W.subIn K (.ref C_Touching) (.ref C_Touching) = some true
  n_Touching_index : PySem.W.findIn K (.ref C_Touching) "index" = some none
  ec_Touching : ExcC K C_Touching
  C_Ratio : Addr
  g_Ratio : mg "Ratio" = some (.ref C_Ratio)
  cl_Ratio : Cls K C_Ratio
  tc_Ratio : TyC K C_Ratio
  rd_Ratio : ClX.CRead K C_Ratio (.type "type")
  mk_Ratio : PySem.W.makesIn K C_Ratio = true
  kp_Ratio : PySem.W.keepIn K (.ref C_Ratio) = true
  sf_Ratio : PySem.W.selfFirst K C_Ratio = true
  mr_Ratio : ∃ cd, PySem.W.clsIn K C_Ratio = some cd ∧ cd.mro = [.ref C_Ratio, .type "object"]
  st_Ratio_int : PySem.W.subIn K (.type "int") (.ref C_Ratio) = some false
  st_Ratio_bool : PySem.W.subIn K (.type "bool") (.ref C_Ratio) = some false
  st_Ratio_str : PySem.W.subIn K (.type "str") (.ref C_Ratio) = some false
  st_Ratio_NoneType : PySem.W.subIn K (.type "NoneType") (.ref C_Ratio) = some false
  st_Ratio_tuple : PySem.W.subIn K (.type "tuple") (.ref C_Ratio) = some false
  su_Ratio_int : PySem.W.subIn K (.ref C_Ratio) (.type "int") = some false
  su_Ratio_bool : PySem.W.subIn K (.ref C_Ratio) (.type "bool") = some false
  su_Ratio_tuple : PySem.W.subIn K (.ref C_Ratio) (.type "tuple") = some false
  su_Ratio_str : PySem.W.subIn K (.ref C_Ratio) (.type "str") = some false
  su_Ratio_NoneType : PySem.W.subIn K (.ref C_Ratio) (.type "NoneType") = some false
  n_Ratio_top : NoAttr K C_Ratio "top"
  n_Ratio_bottom : NoAttr K C_Ratio "bottom"
  fm_Ratio : PySem.W.findIn K (.ref C_Ratio) "__format__" = some (some (.builtin "object.__format__"))
  C_Pool : Addr
  g_Pool : mg "Pool" = some (.ref C_Pool)
  cl_Pool : Cls K C_Pool
  tc_Pool : TyC K C_Pool
  rd_Pool : ClX.CRead K C_Pool (.type "type")
  mk_Pool : PySem.W.makesIn K C_Pool = true
  kp_Pool : PySem.W.keepIn K (.ref C_Pool) = true
  sf_Pool : PySem.W.selfFirst K C_Pool = true
  mr_Pool : ∃ cd, PySem.W.clsIn K C_Pool = some cd ∧ cd.mro = [.ref C_Pool, .type "object"]
  st_Pool_int : PySem.W.subIn K (.type "int") (.ref C_Pool) = some false
  st_Pool_bool : PySem.W.subIn K (.type "bool") (.ref C_Pool) = some false
  st_Pool_str : PySem.W.subIn K (.type "str") (.ref C_Pool) = some false
  st_Pool_NoneType : PySem.W.subIn K (.type "NoneType") (.ref C_Pool) = some false
  st_Pool_tuple : PySem.W.subIn K (.type "tuple") (.ref C_Pool) = some false
  su_Pool_int : PySem.W.subIn K (.ref C_Pool) (.type "int") = some false
  su_Pool_bool : PySem.W.subIn K (.ref C_Pool) (.type "bool") = some false
  su_Pool_tuple : PySem.W.subIn K (.ref C_Pool) (.type "tuple") = some false
  su_Pool_str : PySem.W.subIn K (.ref C_Pool) (.type "str") = some false
  su_Pool_NoneType : PySem.W.subIn K (.ref C_Pool) (.type "NoneType") = some false
  n_Pool__middle : NoAttr K C_Pool "_middle"
  n_Pool__volume : NoAttr K C_Pool "_volume"
  n_Pool__left : NoAttr K C_Pool "_left"
  n_Pool__right : NoAttr K C_Pool "_right"
  ne_Pool : PySem.W.findIn K (.ref C_Pool) "__ne__" = some (some (.builtin "object.__ne__"))
  C_Water : Addr
  g_Water : mg "Water" = some (.ref C_Water)
  cl_Water : Cls K C_Water
  tc_Water : TyC K C_Water
  rd_Water : ClX.CRead K C_Water (.type "type")
  mk_Water : PySem.W.makesIn K C_Water = true
  kp_Water : PySem.W.keepIn K (.ref C_Water) = true
  sf_Water : PySem.W.selfFirst K C_Water = true
  mr_Water : ∃ cd, PySem.W.clsIn K C_Water = some cd ∧ cd.mro = [.ref C_Water, .type "object"]
  st_Water_int : PySem.W.subIn K (.type "int") (.ref C_Water) = some false
  st_Water_bool : PySem.W.subIn K (.type "bool") (.ref C_Water) = some false
  st_Water_str : PySem.W.subIn K (.type "str") (.ref C_Water) = some false
  st_Water_NoneType : PySem.W.subIn K (.type "NoneType") (.ref C_Water) = some false
  st_Water_tuple : PySem.W.subIn K (.type "tuple") (.ref C_Water) = some false
  su_Water_int : PySem.W.subIn K (.ref C_Water) (.type "int") = some false
  su_Water_bool : PySem.W.subIn K (.ref C_Water) (.type "bool") = some false
  su_Water_tuple : PySem.W.subIn K (.ref C_Water) (.type "tuple") = some false
  su_Water_str : PySem.W.subIn K (.ref C_Water) (.type "str") = some false
  su_Water_NoneType : PySem.W.subIn K (.ref C_Water) (.type "NoneType") = some false
  n_Water__pools : NoAttr K C_Water "_pools"
  sx_Touching_PoolError : PySem.W.subIn K (.ref C_Touching) (.ref C_PoolError) = some true
  sx_Touching_InvalidNumber : PySem.W.subIn K (.ref C_Touching) (.ref C_InvalidNumber) = some false
  sx_Touching_InvalidDrop : PySem.W.subIn K (.ref C_Touching) (.ref C_InvalidDrop) = some false
  sx_Touching_Full : PySem.W.subIn K (.ref C_Touching) (.ref C_Full) = some false
  e_empty : Addr
  sq_empty : ∃ (o : Obj) (n : Nat), K.lookup e_empty = some o ∧ o.cls = .type "tuple" ∧ o.data = .seq #[] n
  f_InvalidNumber_init_d : Addr
  d_InvalidNumber_init_d : FuncData
  F_InvalidNumber_init_d : Fun K "__init__" "InvalidNumber.__init__" s_InvalidNumber_init_d f_InvalidNumber_init_d d_InvalidNumber_init_d
  B_InvalidNumber_init_d : Binds K d_InvalidNumber_init_d ["self", "value"] []
  m_InvalidNumber_init_d : Spc K C_InvalidNumber "__init__" f_InvalidNumber_init_d
  t_InvalidNumber_init_d : PySem.W.typeIn K (.ref f_InvalidNumber_init_d) = some (.type "function")
  f_Touching_init_d : Addr
  d_Touching_init_d : FuncData
  F_Touching_init_d : Fun K "__init__" "Touching.__init__" s_Touching_init_d f_Touching_init_d d_Touching_init_d
  B_Touching_init_d : Binds K d_Touching_init_d ["self", "index"] []
  m_Touching_init_d : Spc K C_Touching "__init__" f_Touching_init_d
  t_Touching_init_d : PySem.W.typeIn K (.ref f_Touching_init_d) = some (.type "function")
  f_Ratio_init_d : Addr
  d_Ratio_init_d : FuncData
  F_Ratio_init_d : FunD K "__init__" "Ratio.__init__" (defArgs s_Ratio_init_d) (defBody s_Ratio_init_d) (defScope s_Ratio_init_d) [V.int 1] [] f_Ratio_init_d d_Ratio_init_d
  m_Ratio_init_d : Spc K C_Ratio "__init__" f_Ratio_init_d
  f_Ratio_of : Addr
  d_Ratio_of : FuncData
  F_Ratio_of : Fun K "of" "Ratio.of" s_Ratio_of f_Ratio_of d_Ratio_of
  B_Ratio_of : Binds K d_Ratio_of ["cls", "value"] []
  p_Ratio_of : Addr
  cm_Ratio_of : ClX.CMet K C_Ratio (.type "type") "of" p_Ratio_of f_Ratio_of
  f_Ratio_over : Addr
  d_Ratio_over : FuncData
  F_Ratio_over : Fun K "over" "Ratio.over" s_Ratio_over f_Ratio_over d_Ratio_over
  B_Ratio_over : Binds K d_Ratio_over ["self", "other"] []
  m_Ratio_over : Spc K C_Ratio "over" f_Ratio_over
  me_Ratio_over : Meth K C_Ratio "over" f_Ratio_over
  f_Ratio_add_d : Addr
  d_Ratio_add_d : FuncData
  F_Ratio_add_d : Fun K "__add__" "Ratio.__add__" s_Ratio_add_d f_Ratio_add_d d_Ratio_add_d
  B_Ratio_add_d : Binds K d_Ratio_add_d ["self", "other"] []
  m_Ratio_add_d : Spc K C_Ratio "__add__" f_Ratio_add_d
  bn_Ratio_add_d : Bin K C_Ratio "add" f_Ratio_add_d
  ni_Ratio_add_d : NoIn K C_Ratio "add"
  f_Ratio_sub_d : Addr
  d_Ratio_sub_d : FuncData
  F_Ratio_sub_d : Fun K "__sub__" "Ratio.__sub__" s_Ratio_sub_d f_Ratio_sub_d d_Ratio_sub_d
  B_Ratio_sub_d : Binds K d_Ratio_sub_d ["self", "other"] []
  m_Ratio_sub_d : Spc K C_Ratio "__sub__" f_Ratio_sub_d
  bn_Ratio_sub_d : Bin K C_Ratio "sub" f_Ratio_sub_d
  ni_Ratio_sub_d : NoIn K C_Ratio "sub"
  f_Ratio_mul_d : Addr
  d_Ratio_mul_d : FuncData
  F_Ratio_mul_d : Fun K "__mul__" "Ratio.__mul__" s_Ratio_mul_d f_Ratio_mul_d d_Ratio_mul_d
  B_Ratio_mul_d : Binds K d_Ratio_mul_d ["self", "other"] []
  m_Ratio_mul_d : Spc K C_Ratio "__mul__" f_Ratio_mul_d
  bn_Ratio_mul_d : Bin K C_Ratio "mul" f_Ratio_mul_d
  ni_Ratio_mul_d : NoIn K C_Ratio "mul"
  f_Ratio_abs_d : Addr
  d_Ratio_abs_d : FuncData
  F_Ratio_abs_d : Fun K "__abs__" "Ratio.__abs__" s_Ratio_abs_d f_Ratio_abs_d d_Ratio_abs_d
  B_Ratio_abs_d : Binds K d_Ratio_abs_d ["self"] []
  m_Ratio_abs_d : Spc K C_Ratio "__abs__" f_Ratio_abs_d
  f_Ratio_eq_d : Addr
  d_Ratio_eq_d : FuncData
  F_Ratio_eq_d : Fun K "__eq__" "Ratio.__eq__" s_Ratio_eq_d f_Ratio_eq_d d_Ratio_eq_d
  B_Ratio_eq_d : Binds K d_Ratio_eq_d ["self", "other"] []
  m_Ratio_eq_d : Spc K C_Ratio "__eq__" f_Ratio_eq_d
  f_Ratio_ne_d : Addr
  d_Ratio_ne_d : FuncData
  F_Ratio_ne_d : Fun K "__ne__" "Ratio.__ne__" s_Ratio_ne_d f_Ratio_ne_d d_Ratio_ne_d
  B_Ratio_ne_d : Binds K d_Ratio_ne_d ["self", "other"] []
  m_Ratio_ne_d : Spc K C_Ratio "__ne__" f_Ratio_ne_d
  f_Ratio_le_d : Addr
  d_Ratio_le_d : FuncData
  F_Ratio_le_d : Fun K "__le__" "Ratio.__le__" s_Ratio_le_d f_Ratio_le_d d_Ratio_le_d
  B_Ratio_le_d : Binds K d_Ratio_le_d ["self", "other"] []
  m_Ratio_le_d : Spc K C_Ratio "__le__" f_Ratio_le_d
  f_Ratio_ge_d : Addr
  d_Ratio_ge_d : FuncData
  F_Ratio_ge_d : Fun K "__ge__" "Ratio.__ge__" s_Ratio_ge_d f_Ratio_ge_d d_Ratio_ge_d
  B_Ratio_ge_d : Binds K d_Ratio_ge_d ["self", "other"] []
  m_Ratio_ge_d : Spc K C_Ratio "__ge__" f_Ratio_ge_d
  f_Ratio_str_d : Addr
  d_Ratio_str_d : FuncData
  F_Ratio_str_d : Fun K "__str__" "Ratio.__str__" s_Ratio_str_d f_Ratio_str_d d_Ratio_str_d
  B_Ratio_str_d : Binds K d_Ratio_str_d ["self"] []
  m_Ratio_str_d : Spc K C_Ratio "__str__" f_Ratio_str_d
  f_is_number : Addr
  d_is_number : FuncData
  F_is_number : Fun K "is_number" "is_number" s_is_number f_is_number d_is_number
  B_is_number : Binds K d_is_number ["value"] []
  g_is_number : mg "is_number" = some (.ref f_is_number)
  f_lead : Addr
  d_lead : FuncData
  F_lead : Fun K "lead" "lead" s_lead f_lead d_lead
  B_lead : Binds K d_lead ["one", "other"] []
  g_lead : mg "lead" = some (.ref f_lead)
  f_Pool_init_d : Addr
  d_Pool_init_d : FuncData
  F_Pool_init_d : Fun K "__init__" "Pool.__init__" s_Pool_init_d f_Pool_init_d d_Pool_init_d
  B_Pool_init_d : Binds K d_Pool_init_d ["self", "middle", "volume"] []
  m_Pool_init_d : Spc K C_Pool "__init__" f_Pool_init_d
  f_Pool_middle : Addr
  d_Pool_middle : FuncData
  F_Pool_middle : Fun K "middle" "Pool.middle" s_Pool_middle f_Pool_middle d_Pool_middle
  B_Pool_middle : Binds K d_Pool_middle ["self"] []
  p_Pool_middle : Addr
  pr_Pool_middle : PropOf K C_Pool "middle" p_Pool_middle f_Pool_middle
  f_Pool_volume : Addr
  d_Pool_volume : FuncData
  F_Pool_volume : Fun K "volume" "Pool.volume" s_Pool_volume f_Pool_volume d_Pool_volume
  B_Pool_volume : Binds K d_Pool_volume ["self"] []
  p_Pool_volume : Addr
  pr_Pool_volume : PropOf K C_Pool "volume" p_Pool_volume f_Pool_volume
  f_Pool_left : Addr
  d_Pool_left : FuncData
  F_Pool_left : Fun K "left" "Pool.left" s_Pool_left f_Pool_left d_Pool_left
  B_Pool_left : Binds K d_Pool_left ["self"] []
  p_Pool_left : Addr
  pr_Pool_left : PropOf K C_Pool "left" p_Pool_left f_Pool_left
  f_Pool_right : Addr
  d_Pool_right : FuncData
  F_Pool_right : Fun K "right" "Pool.right" s_Pool_right f_Pool_right d_Pool_right
  B_Pool_right : Binds K d_Pool_right ["self"] []
  p_Pool_right : Addr
  pr_Pool_right : PropOf K C_Pool "right" p_Pool_right f_Pool_right
  f_Pool_add_d : Addr
  d_Pool_add_d : FuncData
  F_Pool_add_d : Fun K "__add__" "Pool.__add__" s_Pool_add_d f_Pool_add_d d_Pool_add_d
  B_Pool_add_d : Binds K d_Pool_add_d ["self", "other"] []
  m_Pool_add_d : Spc K C_Pool "__add__" f_Pool_add_d
  bn_Pool_add_d : Bin K C_Pool "add" f_Pool_add_d
  ni_Pool_add_d : NoIn K C_Pool "add"
  f_Pool_contains_d : Addr
  d_Pool_contains_d : FuncData
  F_Pool_contains_d : Fun K "__contains__" "Pool.__contains__" s_Pool_contains_d f_Pool_contains_d d_Pool_contains_d
  B_Pool_contains_d : Binds K d_Pool_contains_d ["self", "x"] []
  m_Pool_contains_d : Spc K C_Pool "__contains__" f_Pool_contains_d
  f_Pool_eq_d : Addr
  d_Pool_eq_d : FuncData
  F_Pool_eq_d : Fun K "__eq__" "Pool.__eq__" s_Pool_eq_d f_Pool_eq_d d_Pool_eq_d
  B_Pool_eq_d : Binds K d_Pool_eq_d ["self", "other"] []
  m_Pool_eq_d : Spc K C_Pool "__eq__" f_Pool_eq_d
  f_Pool_repr_d : Addr
  d_Pool_repr_d : FuncData
  F_Pool_repr_d : Fun K "__repr__" "Pool.__repr__" s_Pool_repr_d f_Pool_repr_d d_Pool_repr_d
  B_Pool_repr_d : Binds K d_Pool_repr_d ["self"] []
  m_Pool_repr_d : Spc K C_Pool "__repr__" f_Pool_repr_d
  f_Water_init_d : Addr
  d_Water_init_d : FuncData
  F_Water_init_d : FunD K "__init__" "Water.__init__" (defArgs s_Water_init_d) (defBody s_Water_init_d) (defScope s_Water_init_d) [V.ref e_empty] [] f_Water_init_d d_Water_init_d
  m_Water_init_d : Spc K C_Water "__init__" f_Water_init_d
  f_Water_getitem_d : Addr
  d_Water_getitem_d : FuncData
  F_Water_getitem_d : Fun K "__getitem__" "Water.__getitem__" s_Water_getitem_d f_Water_getitem_d d_Water_getitem_d
  B_Water_getitem_d : Binds K d_Water_getitem_d ["self", "at"] []
  m_Water_getitem_d : Spc K C_Water "__getitem__" f_Water_getitem_d
  fi_Water_getitem_d : PySem.W.fnIn K f_Water_getitem_d = true
  f_Water_len_d : Addr
  d_Water_len_d : FuncData
  F_Water_len_d : Fun K "__len__" "Water.__len__" s_Water_len_d f_Water_len_d d_Water_len_d
  B_Water_len_d : Binds K d_Water_len_d ["self"] []
  m_Water_len_d : Spc K C_Water "__len__" f_Water_len_d
  f_lw_box : Addr
  d_lw_box : FuncData
  F_lw_box : Fun K "_law_box" "_law_box" s_lw_box f_lw_box d_lw_box
  B_lw_box : Binds K d_lw_box ["_law_script", "_law_k"] []
  g_lw_box : mg "_law_box" = some (.ref f_lw_box)
  f_lw_take : Addr
  d_lw_take : FuncData
  F_lw_take : Fun K "_law_take" "_law_take" s_lw_take f_lw_take d_lw_take
  B_lw_take : Binds K d_lw_take ["_law_box_here", "_law_many"] []
  g_lw_take : mg "_law_take" = some (.ref f_lw_take)
  f_lw_number : Addr
  d_lw_number : FuncData
  F_lw_number : Fun K "_law_number" "_law_number" s_lw_number f_lw_number d_lw_number
  B_lw_number : Binds K d_lw_number ["_law_box_here", "_law_top", "_law_unit"] []
  g_lw_number : mg "_law_number" = some (.ref f_lw_number)
  f_lw_is : Addr
  d_lw_is : FuncData
  F_lw_is : Fun K "_law_is" "_law_is" s_lw_is f_lw_is d_lw_is
  B_lw_is : Binds K d_lw_is ["_law_found", "_law_top", "_law_bottom"] []
  g_lw_is : mg "_law_is" = some (.ref f_lw_is)
  f_lw_pool : Addr
  d_lw_pool : FuncData
  F_lw_pool : Fun K "_law_pool" "_law_pool" s_lw_pool f_lw_pool d_lw_pool
  B_lw_pool : Binds K d_lw_pool ["_law_box_here", "_law_unit", "_law_drop"] []
  g_lw_pool : mg "_law_pool" = some (.ref f_lw_pool)
  f_lw_moments : Addr
  d_lw_moments : FuncData
  F_lw_moments : Fun K "_law_moments" "_law_moments" s_lw_moments f_lw_moments d_lw_moments
  B_lw_moments : Binds K d_lw_moments ["_law_drops"] []
  g_lw_moments : mg "_law_moments" = some (.ref f_lw_moments)
  f_lw_is_water : Addr
  d_lw_is_water : FuncData
  F_lw_is_water : Fun K "_law_is_water" "_law_is_water" s_lw_is_water f_lw_is_water d_lw_is_water
  B_lw_is_water : Binds K d_lw_is_water ["_law_found", "_law_unit", "_law_dues"] []
  g_lw_is_water : mg "_law_is_water" = some (.ref f_lw_is_water)
  f_lw_row : Addr
  d_lw_row : FuncData
  F_lw_row : Fun K "_law_row" "_law_row" s_lw_row f_lw_row d_lw_row
  B_lw_row : Binds K d_lw_row ["_law_box_here"] []
  g_lw_row : mg "_law_row" = some (.ref f_lw_row)
  f_lw_long_row : Addr
  d_lw_long_row : FuncData
  F_lw_long_row : Fun K "_law_long_row" "_law_long_row" s_lw_long_row f_lw_long_row d_lw_long_row
  B_lw_long_row : Binds K d_lw_long_row ["_law_box_here"] []
  g_lw_long_row : mg "_law_long_row" = some (.ref f_lw_long_row)
  f_lw_due : Addr
  d_lw_due : FuncData
  F_lw_due : Fun K "_law_due" "_law_due" s_lw_due f_lw_due d_lw_due
  B_lw_due : Binds K d_lw_due ["_law_drops"] []
  g_lw_due : mg "_law_due" = some (.ref f_lw_due)
  f_lw_made : Addr
  d_lw_made : FuncData
  F_lw_made : Fun K "_law_made" "_law_made" s_lw_made f_lw_made d_lw_made
  B_lw_made : Binds K d_lw_made ["_law_some"] []
  g_lw_made : mg "_law_made" = some (.ref f_lw_made)
  f_law : Addr
  d_law : FuncData
  F_law : Fun K "law" "law" s_law f_law d_law
  B_law : Binds K d_law ["_law_script"] []
  g_law : mg "law" = some (.ref f_law)
abbrev SpK := PySem.W.Frag → Sp
abbrev LvOk (lv : Nat) : Prop := Room lv callerA
abbrev Kept (lv : Nat) (sp : SpK) : Prop := ∀ {P : Program} {w : World} {K : PySem.W.Frag} {mg : Str → Option Value} {base : Heap} (T : Txt K mg), FnG P w K mg base CX0 lv T.f_law T.d_law ["_law_script"] (sp K)
abbrev Asked (sp : SpK) : Prop := ∀ {K : PySem.W.Frag} {H : Hp} {a : Addr} {ns : List Int}, ns.length ≤ 63 → SqL K H a (ns.map V.int) → sp K [.ref a] H (fun v _ => v = .bl true) E0
theorem all_mk {lv : Nat} {sp : SpK} (ok_law : Kept lv sp)
    {P : Program} {w : World} {K : PySem.W.Frag} {h : Heap} {mg : Str → Option Value} {fa : Addr} (X : K.In h) (G : h.Ns mainGlobals mg) (hfa : mg "law" = some (.ref fa)) {C_PoolError C_InvalidNumber C_InvalidDrop C_Full C_Touching C_Ratio C_Pool C_Water f_InvalidNumber_init_d f_Touching_init_d f_Ratio_init_d f_Ratio_of p_Ratio_of f_Ratio_over f_Ratio_add_d f_Ratio_sub_d f_Ratio_mul_d f_Ratio_abs_d f_Ratio_eq_d f_Ratio_ne_d f_Ratio_le_d f_Ratio_ge_d f_Ratio_str_d f_is_number f_lead f_Pool_init_d f_Pool_middle p_Pool_middle f_Pool_volume p_Pool_volume f_Pool_left p_Pool_left f_Pool_right p_Pool_right f_Pool_add_d f_Pool_contains_d f_Pool_eq_d f_Pool_repr_d f_Water_init_d f_Water_getitem_d f_Water_len_d f_lw_box f_lw_take f_lw_number f_lw_is f_lw_pool f_lw_moments f_lw_is_water f_lw_row f_lw_long_row f_lw_due f_lw_made f_law e_empty : Addr}
    {nm_PoolError q_PoolError : Str} {N_PoolError : Addr} {bs_PoolError bm_PoolError : List Value} {sn_PoolError : List Str} {sub_PoolError : List Value} {ab_PoolError : Bool} {col_PoolError : Option Bool} {dd_PoolError : Option Addr} {k0_PoolError k1_PoolError k2_PoolError k3_PoolError k5_PoolError : Option Value} {nm_InvalidNumber q_InvalidNumber : Str} {N_InvalidNumber : Addr} {bs_InvalidNumber bm_InvalidNumber : List Value} {sn_InvalidNumber : List Str} {sub_InvalidNumber : List Value} {ab_InvalidNumber : Bool} {col_InvalidNumber : Option Bool} {dd_InvalidNumber : Option Addr} {k0_InvalidNumber k1_InvalidNumber k2_InvalidNumber k3_InvalidNumber k5_InvalidNumber : Option Value} {nm_InvalidDrop q_InvalidDrop : Str} {N_InvalidDrop : Addr} {bs_InvalidDrop bm_InvalidDrop : List Value} {sn_InvalidDrop : List Str} {sub_InvalidDrop : List Value} {ab_InvalidDrop : Bool} {col_InvalidDrop : Option Bool} {dd_InvalidDrop : Option Addr} {k0_InvalidDrop k1_InvalidDrop k2_InvalidDrop k3_InvalidDrop k5_InvalidDrop : Option Value} {nm_Full q_Full : Str} {N_Full : Addr} {bs_Full bm_Full : List Value} {sn_Full : List Str} {sub_Full : List Value} {ab_Full : Bool} {col_Full : Option Bool} {dd_Full : Option Addr} {k0_Full k1_Full k2_Full k3_Full k5_Full : Option Value} {nm_Touching q_Touching : Str} {N_Touching : Addr} {bs_Touching bm_Touching : List Value} {sn_Touching : List Str} {sub_Touching : List Value} {ab_Touching : Bool} {col_Touching : Option Bool} {dd_Touching : Option Addr} {k0_Touching k1_Touching k2_Touching k3_Touching k5_Touching : Option Value} {cd_Ratio : ClassData} {cd_Pool : ClassData} {cd_Water : ClassData} {oc_InvalidNumber_init_d kV_InvalidNumber_init_d dc_InvalidNumber_init_d pm_InvalidNumber_init_d cd_InvalidNumber_init_d ct_InvalidNumber_init_d : Value} {od_InvalidNumber_init_d an_InvalidNumber_init_d : Option Addr} {sl_InvalidNumber_init_d : Array (Option Value)} {oc_Touching_init_d kV_Touching_init_d dc_Touching_init_d pm_Touching_init_d cd_Touching_init_d ct_Touching_init_d : Value} {od_Touching_init_d an_Touching_init_d : Option Addr} {sl_Touching_init_d : Array (Option Value)} {oc_Ratio_init_d kV_Ratio_init_d dc_Ratio_init_d pm_Ratio_init_d cd_Ratio_init_d ct_Ratio_init_d : Value} {od_Ratio_init_d an_Ratio_init_d : Option Addr} {sl_Ratio_init_d : Array (Option Value)} {T_Ratio_init_d : Addr} {to_Ratio_init_d : Obj} {ti_Ratio_init_d : List Value} {tn_Ratio_init_d : Nat} {oc_Ratio_of kV_Ratio_of dc_Ratio_of pm_Ratio_of cd_Ratio_of ct_Ratio_of : Value} {od_Ratio_of an_Ratio_of : Option Addr} {sl_Ratio_of : Array (Option Value)} {rs_Ratio_of : List Value} {oc_Ratio_over kV_Ratio_over dc_Ratio_over pm_Ratio_over cd_Ratio_over ct_Ratio_over : Value} {od_Ratio_over an_Ratio_over : Option Addr} {sl_Ratio_over : Array (Option Value)} {oc_Ratio_add_d kV_Ratio_add_d dc_Ratio_add_d pm_Ratio_add_d cd_Ratio_add_d ct_Ratio_add_d : Value} {od_Ratio_add_d an_Ratio_add_d : Option Addr} {sl_Ratio_add_d : Array (Option Value)} {rc_Ratio_add_d fo_Ratio_add_d ro_Ratio_add_d : Option Value} {oc_Ratio_sub_d kV_Ratio_sub_d dc_Ratio_sub_d pm_Ratio_sub_d cd_Ratio_sub_d ct_Ratio_sub_d : Value} {od_Ratio_sub_d an_Ratio_sub_d : Option Addr} {sl_Ratio_sub_d : Array (Option Value)} {rc_Ratio_sub_d fo_Ratio_sub_d ro_Ratio_sub_d : Option Value} {oc_Ratio_mul_d kV_Ratio_mul_d dc_Ratio_mul_d pm_Ratio_mul_d cd_Ratio_mul_d ct_Ratio_mul_d : Value} {od_Ratio_mul_d an_Ratio_mul_d : Option Addr} {sl_Ratio_mul_d : Array (Option Value)} {rc_Ratio_mul_d fo_Ratio_mul_d ro_Ratio_mul_d : Option Value} {oc_Ratio_abs_d kV_Ratio_abs_d dc_Ratio_abs_d pm_Ratio_abs_d cd_Ratio_abs_d ct_Ratio_abs_d : Value} {od_Ratio_abs_d an_Ratio_abs_d : Option Addr} {sl_Ratio_abs_d : Array (Option Value)} {oc_Ratio_eq_d kV_Ratio_eq_d dc_Ratio_eq_d pm_Ratio_eq_d cd_Ratio_eq_d ct_Ratio_eq_d : Value} {od_Ratio_eq_d an_Ratio_eq_d : Option Addr} {sl_Ratio_eq_d : Array (Option Value)} {oc_Ratio_ne_d kV_Ratio_ne_d dc_Ratio_ne_d pm_Ratio_ne_d cd_Ratio_ne_d ct_Ratio_ne_d : Value} {od_Ratio_ne_d an_Ratio_ne_d : Option Addr} {sl_Ratio_ne_d : Array (Option Value)} {oc_Ratio_le_d kV_Ratio_le_d dc_Ratio_le_d pm_Ratio_le_d cd_Ratio_le_d ct_Ratio_le_d : Value} {od_Ratio_le_d an_Ratio_le_d : Option Addr} {sl_Ratio_le_d : Array (Option Value)} {oc_Ratio_ge_d kV_Ratio_ge_d dc_Ratio_ge_d pm_Ratio_ge_d cd_Ratio_ge_d ct_Ratio_ge_d : Value} {od_Ratio_ge_d an_Ratio_ge_d : Option Addr} {sl_Ratio_ge_d : Array (Option Value)} {oc_Ratio_str_d kV_Ratio_str_d dc_Ratio_str_d pm_Ratio_str_d cd_Ratio_str_d ct_Ratio_str_d : Value} {od_Ratio_str_d an_Ratio_str_d : Option Addr} {sl_Ratio_str_d : Array (Option Value)} {oc_is_number kV_is_number dc_is_number pm_is_number cd_is_number ct_is_number : Value} {od_is_number an_is_number : Option Addr} {sl_is_number : Array (Option Value)} {oc_lead kV_lead dc_lead pm_lead cd_lead ct_lead : Value} {od_lead an_lead : Option Addr} {sl_lead : Array (Option Value)} {oc_Pool_init_d kV_Pool_init_d dc_Pool_init_d pm_Pool_init_d cd_Pool_init_d ct_Pool_init_d : Value} {od_Pool_init_d an_Pool_init_d : Option Addr} {sl_Pool_init_d : Array (Option Value)} {oc_Pool_middle kV_Pool_middle dc_Pool_middle pm_Pool_middle cd_Pool_middle ct_Pool_middle : Value} {od_Pool_middle an_Pool_middle : Option Addr} {sl_Pool_middle : Array (Option Value)} {rs_Pool_middle : List Value} {oc_Pool_volume kV_Pool_volume dc_Pool_volume pm_Pool_volume cd_Pool_volume ct_Pool_volume : Value} {od_Pool_volume an_Pool_volume : Option Addr} {sl_Pool_volume : Array (Option Value)} {rs_Pool_volume : List Value} {oc_Pool_left kV_Pool_left dc_Pool_left pm_Pool_left cd_Pool_left ct_Pool_left : Value} {od_Pool_left an_Pool_left : Option Addr} {sl_Pool_left : Array (Option Value)} {rs_Pool_left : List Value} {oc_Pool_right kV_Pool_right dc_Pool_right pm_Pool_right cd_Pool_right ct_Pool_right : Value} {od_Pool_right an_Pool_right : Option Addr} {sl_Pool_right : Array (Option Value)} {rs_Pool_right : List Value} {oc_Pool_add_d kV_Pool_add_d dc_Pool_add_d pm_Pool_add_d cd_Pool_add_d ct_Pool_add_d : Value} {od_Pool_add_d an_Pool_add_d : Option Addr} {sl_Pool_add_d : Array (Option Value)} {rc_Pool_add_d fo_Pool_add_d ro_Pool_add_d : Option Value} {oc_Pool_contains_d kV_Pool_contains_d dc_Pool_contains_d pm_Pool_contains_d cd_Pool_contains_d ct_Pool_contains_d : Value} {od_Pool_contains_d an_Pool_contains_d : Option Addr} {sl_Pool_contains_d : Array (Option Value)} {oc_Pool_eq_d kV_Pool_eq_d dc_Pool_eq_d pm_Pool_eq_d cd_Pool_eq_d ct_Pool_eq_d : Value} {od_Pool_eq_d an_Pool_eq_d : Option Addr} {sl_Pool_eq_d : Array (Option Value)} {oc_Pool_repr_d kV_Pool_repr_d dc_Pool_repr_d pm_Pool_repr_d cd_Pool_repr_d ct_Pool_repr_d : Value} {od_Pool_repr_d an_Pool_repr_d : Option Addr} {sl_Pool_repr_d : Array (Option Value)} {oc_Water_init_d kV_Water_init_d dc_Water_init_d pm_Water_init_d cd_Water_init_d ct_Water_init_d : Value} {od_Water_init_d an_Water_init_d : Option Addr} {sl_Water_init_d : Array (Option Value)} {T_Water_init_d : Addr} {to_Water_init_d : Obj} {ti_Water_init_d : List Value} {tn_Water_init_d : Nat} {oc_Water_getitem_d kV_Water_getitem_d dc_Water_getitem_d pm_Water_getitem_d cd_Water_getitem_d ct_Water_getitem_d : Value} {od_Water_getitem_d an_Water_getitem_d : Option Addr} {sl_Water_getitem_d : Array (Option Value)} {oc_Water_len_d kV_Water_len_d dc_Water_len_d pm_Water_len_d cd_Water_len_d ct_Water_len_d : Value} {od_Water_len_d an_Water_len_d : Option Addr} {sl_Water_len_d : Array (Option Value)} {oc_lw_box kV_lw_box dc_lw_box pm_lw_box cd_lw_box ct_lw_box : Value} {od_lw_box an_lw_box : Option Addr} {sl_lw_box : Array (Option Value)} {oc_lw_take kV_lw_take dc_lw_take pm_lw_take cd_lw_take ct_lw_take : Value} {od_lw_take an_lw_take : Option Addr} {sl_lw_take : Array (Option Value)} {oc_lw_number kV_lw_number dc_lw_number pm_lw_number cd_lw_number ct_lw_number : Value} {od_lw_number an_lw_number : Option Addr} {sl_lw_number : Array (Option Value)} {oc_lw_is kV_lw_is dc_lw_is pm_lw_is cd_lw_is ct_lw_is : Value} {od_lw_is an_lw_is : Option Addr} {sl_lw_is : Array (Option Value)} {oc_lw_pool kV_lw_pool dc_lw_pool pm_lw_pool cd_lw_pool ct_lw_pool : Value} {od_lw_pool an_lw_pool : Option Addr} {sl_lw_pool : Array (Option Value)} {oc_lw_moments kV_lw_moments dc_lw_moments pm_lw_moments cd_lw_moments ct_lw_moments : Value} {od_lw_moments an_lw_moments : Option Addr} {sl_lw_moments : Array (Option Value)} {oc_lw_is_water kV_lw_is_water dc_lw_is_water pm_lw_is_water cd_lw_is_water ct_lw_is_water : Value} {od_lw_is_water an_lw_is_water : Option Addr} {sl_lw_is_water : Array (Option Value)} {oc_lw_row kV_lw_row dc_lw_row pm_lw_row cd_lw_row ct_lw_row : Value} {od_lw_row an_lw_row : Option Addr} {sl_lw_row : Array (Option Value)} {oc_lw_long_row kV_lw_long_row dc_lw_long_row pm_lw_long_row cd_lw_long_row ct_lw_long_row : Value} {od_lw_long_row an_lw_long_row : Option Addr} {sl_lw_long_row : Array (Option Value)} {oc_lw_due kV_lw_due dc_lw_due pm_lw_due cd_lw_due ct_lw_due : Value} {od_lw_due an_lw_due : Option Addr} {sl_lw_due : Array (Option Value)} {oc_lw_made kV_lw_made dc_lw_made pm_lw_made cd_lw_made ct_lw_made : Value} {od_lw_made an_lw_made : Option Addr} {sl_lw_made : Array (Option Value)} {oc_law kV_law dc_law pm_law cd_law ct_law : Value} {od_law an_law : Option Addr} {sl_law : Array (Option Value)} {eo_empty : Obj} {en_empty : Nat}
    (zb_len : PySem.W.nsIn K mainGlobals "len" = some none)
    (zb_range : PySem.W.nsIn K mainGlobals "range" = some none)
    (zb_int : PySem.W.nsIn K mainGlobals "int" = some none)
    (zb_str : PySem.W.nsIn K mainGlobals "str" = some none)
    (zb_bool : PySem.W.nsIn K mainGlobals "bool" = some none)
    (zb_abs : PySem.W.nsIn K mainGlobals "abs" = some none)
    (zb_isinstance : PySem.W.nsIn K mainGlobals "isinstance" = some none)
    (zb_repr : PySem.W.nsIn K mainGlobals "repr" = some none)
    (zb_max : PySem.W.nsIn K mainGlobals "max" = some none)
    (zb_min : PySem.W.nsIn K mainGlobals "min" = some none)
    (zb_tuple : PySem.W.nsIn K mainGlobals "tuple" = some none)
    (zb_list : PySem.W.nsIn K mainGlobals "list" = some none)
    (zb_sum : PySem.W.nsIn K mainGlobals "sum" = some none)
    (zb_enumerate : PySem.W.nsIn K mainGlobals "enumerate" = some none)
    (zb_sorted : PySem.W.nsIn K mainGlobals "sorted" = some none)
    (gi_gcd : PySem.W.nsIn K mainGlobals "gcd" = some (some (.builtin "math.gcd")))
    (gi_lcm : PySem.W.nsIn K mainGlobals "lcm" = some (some (.builtin "math.lcm")))
    (gc_PoolError : PySem.W.nsIn K mainGlobals "PoolError" = some (some (.ref C_PoolError)))
    (xl_PoolError : K.lookup C_PoolError = some (PySem.excClassObj nm_PoolError q_PoolError C_PoolError N_PoolError bs_PoolError bm_PoolError true sn_PoolError sub_PoolError ab_PoolError col_PoolError dd_PoolError k0_PoolError k1_PoolError k2_PoolError k3_PoolError k5_PoolError "ValueError.__new__"))
    (xr_PoolError : PySem.HandSPX.refsVE bm_PoolError = true)
    (xs_PoolError : PySem.W.findIn K (.ref C_PoolError) "__setattr__" = some (some (.builtin "object.__setattr__")))
    (xa_PoolError : PySem.W.findIn K (.ref C_PoolError) "__getattribute__" = some (some (.builtin "BaseException.__getattribute__")))
    (xg_PoolError : PySem.W.findIn K (.ref C_PoolError) "__getattr__" = some none)
    (xe_PoolError : PySem.W.subIn K (.ref C_PoolError) (.type "BaseException") = some true)
    (xt_PoolError : PySem.W.typeIn K (.ref C_PoolError) = some (.type "type"))
    (xh_PoolError : PySem.W.hasDictIn K C_PoolError = true)
    (xk_PoolError : PySem.W.keepIn K (.ref C_PoolError) = true)
    (xi_PoolError : PySem.W.isClsIn K C_PoolError = true)
    (xq_PoolError : PySem.W.subIn K (.ref C_PoolError) (.ref C_PoolError) = some true)
    (gc_InvalidNumber : PySem.W.nsIn K mainGlobals "InvalidNumber" = some (some (.ref C_InvalidNumber)))
    (xl_InvalidNumber : K.lookup C_InvalidNumber = some (PySem.excClassObj nm_InvalidNumber q_InvalidNumber C_InvalidNumber N_InvalidNumber bs_InvalidNumber bm_InvalidNumber true sn_InvalidNumber sub_InvalidNumber ab_InvalidNumber col_InvalidNumber dd_InvalidNumber k0_InvalidNumber k1_InvalidNumber k2_InvalidNumber k3_InvalidNumber k5_InvalidNumber "ValueError.__new__"))
    (xr_InvalidNumber : PySem.HandSPX.refsVE bm_InvalidNumber = true)
    (xs_InvalidNumber : PySem.W.findIn K (.ref C_InvalidNumber) "__setattr__" = some (some (.builtin "object.__setattr__")))
    (xa_InvalidNumber : PySem.W.findIn K (.ref C_InvalidNumber) "__getattribute__" = some (some (.builtin "BaseException.__getattribute__")))
    (xg_InvalidNumber : PySem.W.findIn K (.ref C_InvalidNumber) "__getattr__" = some none)
    (xe_InvalidNumber : PySem.W.subIn K (.ref C_InvalidNumber) (.type "BaseException") = some true)
    (xt_InvalidNumber : PySem.W.typeIn K (.ref C_InvalidNumber) = some (.type "type"))
    (xh_InvalidNumber : PySem.W.hasDictIn K C_InvalidNumber = true)
    (xk_InvalidNumber : PySem.W.keepIn K (.ref C_InvalidNumber) = true)
    (xi_InvalidNumber : PySem.W.isClsIn K C_InvalidNumber = true)
    (xq_InvalidNumber : PySem.W.subIn K (.ref C_InvalidNumber) (.ref C_InvalidNumber) = some true)
    (na_InvalidNumber_value : PySem.W.findIn K (.ref C_InvalidNumber) "value" = some none)
    (gc_InvalidDrop : PySem.W.nsIn K mainGlobals "InvalidDrop" = some (some (.ref C_InvalidDrop)))
    (xl_InvalidDrop : K.lookup C_InvalidDrop = some (PySem.excClassObj nm_InvalidDrop q_InvalidDrop C_InvalidDrop N_InvalidDrop bs_InvalidDrop bm_InvalidDrop true sn_InvalidDrop sub_InvalidDrop ab_InvalidDrop col_InvalidDrop dd_InvalidDrop k0_InvalidDrop k1_InvalidDrop k2_InvalidDrop k3_InvalidDrop k5_InvalidDrop "ValueError.__new__"))
    (xr_InvalidDrop : PySem.HandSPX.refsVE bm_InvalidDrop = true)
    (xs_InvalidDrop : PySem.W.findIn K (.ref C_InvalidDrop) "__setattr__" = some (some (.builtin "object.__setattr__")))
    (xa_InvalidDrop : PySem.W.findIn K (.ref C_InvalidDrop) "__getattribute__" = some (some (.builtin "BaseException.__getattribute__")))
    (xg_InvalidDrop : PySem.W.findIn K (.ref C_InvalidDrop) "__getattr__" = some none)
    (xe_InvalidDrop : PySem.W.subIn K (.ref C_InvalidDrop) (.type "BaseException") = some true)
    (xt_InvalidDrop : PySem.W.typeIn K (.ref C_InvalidDrop) = some (.type "type"))
    (xh_InvalidDrop : PySem.W.hasDictIn K C_InvalidDrop = true)
    (xk_InvalidDrop : PySem.W.keepIn K (.ref C_InvalidDrop) = true)
    (xi_InvalidDrop : PySem.W.isClsIn K C_InvalidDrop = true)
    (xq_InvalidDrop : PySem.W.subIn K (.ref C_InvalidDrop) (.ref C_InvalidDrop) = some true)
    (gc_Full : PySem.W.nsIn K mainGlobals "Full" = some (some (.ref C_Full)))
    (xl_Full : K.lookup C_Full = some (PySem.excClassObj nm_Full q_Full C_Full N_Full bs_Full bm_Full true sn_Full sub_Full ab_Full col_Full dd_Full k0_Full k1_Full k2_Full k3_Full k5_Full "ValueError.__new__"))
    (xr_Full : PySem.HandSPX.refsVE bm_Full = true)
    (xs_Full : PySem.W.findIn K (.ref C_Full) "__setattr__" = some (some (.builtin "object.__setattr__")))
    (xa_Full : PySem.W.findIn K (.ref C_Full) "__getattribute__" = some (some (.builtin "BaseException.__getattribute__")))
    (xg_Full : PySem.W.findIn K (.ref C_Full) "__getattr__" = some none)
    (xe_Full : PySem.W.subIn K (.ref C_Full) (.type "BaseException") = some true)
    (xt_Full : PySem.W.typeIn K (.ref C_Full) = some (.type "type"))
    (xh_Full : PySem.W.hasDictIn K C_Full = true)
    (xk_Full : PySem.W.keepIn K (.ref C_Full) = true)
    (xi_Full : PySem.W.isClsIn K C_Full = true)
    (xq_Full : PySem.W.subIn K (.ref C_Full) (.ref C_Full) = some true)
    (gc_Touching : PySem.W.nsIn K mainGlobals "Touching" = some (some (.ref C_Touching)))
    (xl_Touching : K.lookup C_Touching = some (PySem.excClassObj nm_Touching q_Touching C_Touching N_Touching bs_Touching bm_Touching true sn_Touching sub_Touching ab_Touching col_Touching dd_Touching k0_Touching k1_Touching k2_Touching k3_Touching k5_Touching "ValueError.__new__"))
    (xr_Touching : PySem.HandSPX.refsVE bm_Touching = true)
    (xs_Touching : PySem.W.findIn K (.ref C_Touching) "__setattr__" = some (some (.builtin "object.__setattr__")))
    (xa_Touching : PySem.W.findIn K (.ref C_Touching) "__getattribute__" = some (some (.builtin "BaseException.__getattribute__")))
    (xg_Touching : PySem.W.findIn K (.ref C_Touching) "__getattr__" = some none)
    (xe_Touching : PySem.W.subIn K (.ref C_Touching) (.type "BaseException") = some true)
    (xt_Touching : PySem.W.typeIn K (.ref C_Touching) = some (.type "type"))
    (xh_Touching : PySem.W.hasDictIn K C_Touching = true)
    (xk_Touching : PySem.W.keepIn K (.ref C_Touching) = true)
    (xi_Touching : PySem.W.isClsIn K C_Touching = true)
    (xq_Touching : PySem.W.subIn K (.ref C_Touching) (.ref C_Touching) = some true)
    (ea_Touching : PySem.W.findIn K (.ref C_Touching) "__class__" = some (some (.builtin "object.__class__")))
    (eb_Touching : PySem.W.specialIn K (.builtin "object.__class__") "__get__" = some (some (.builtin "getset_descriptor.__get__")))
    (et_Touching : PySem.W.takesIn K (.builtin "object.__class__") = some true)
    (em_Touching : PySem.W.mroIn K C_Touching (.type "object") = some true)
    (na_Touching_index : PySem.W.findIn K (.ref C_Touching) "index" = some none)
    (gc_Ratio : PySem.W.nsIn K mainGlobals "Ratio" = some (some (.ref C_Ratio)))
    (pg_Ratio : PySem.W.plainGet K C_Ratio Str.empty = true)
    (hd_Ratio : PySem.W.hasDictIn K C_Ratio = true)
    (po_Ratio : PySem.W.plainOver K C_Ratio = true)
    (sa_Ratio : PySem.W.findIn K (.ref C_Ratio) "__setattr__" = some (some (.builtin "object.__setattr__")))
    (tca_Ratio : PySem.W.findIn K (.ref C_Ratio) "__class__" = some (some (.builtin "object.__class__")))
    (tcb_Ratio : PySem.W.specialIn K (.builtin "object.__class__") "__get__" = some (some (.builtin "getset_descriptor.__get__")))
    (tcc_Ratio : PySem.W.takesIn K (.builtin "object.__class__") = some true)
    (tcd_Ratio : PySem.W.mroIn K C_Ratio (.type "object") = some true)
    (ric_Ratio : PySem.W.isClsIn K C_Ratio = true)
    (rty_Ratio : PySem.W.typeIn K (.ref C_Ratio) = some (.type "type"))
    (rss_Ratio : PySem.W.subIn K (.ref C_Ratio) (.ref C_Ratio) = some true)
    (rda_Ratio : PySem.W.readsIn K C_Ratio (.type "type") = true)
    (rdb_Ratio : PySem.W.specialIn K (.ref C_Ratio) "__getattribute__" = some (some (.builtin "type.__getattribute__")))
    (mk_Ratio : PySem.W.makesIn K C_Ratio = true)
    (kc_Ratio : PySem.W.keepIn K (.ref C_Ratio) = true)
    (sf_Ratio : PySem.W.selfFirst K C_Ratio = true)
    (mra_Ratio : PySem.W.clsIn K C_Ratio = some cd_Ratio)
    (mrb_Ratio : cd_Ratio.mro = [.ref C_Ratio, .type "object"])
    (st_Ratio_int : PySem.W.subIn K (.type "int") (.ref C_Ratio) = some false)
    (st_Ratio_bool : PySem.W.subIn K (.type "bool") (.ref C_Ratio) = some false)
    (st_Ratio_str : PySem.W.subIn K (.type "str") (.ref C_Ratio) = some false)
    (st_Ratio_NoneType : PySem.W.subIn K (.type "NoneType") (.ref C_Ratio) = some false)
    (st_Ratio_tuple : PySem.W.subIn K (.type "tuple") (.ref C_Ratio) = some false)
    (su_Ratio_int : PySem.W.subIn K (.ref C_Ratio) (.type "int") = some false)
    (su_Ratio_bool : PySem.W.subIn K (.ref C_Ratio) (.type "bool") = some false)
    (su_Ratio_tuple : PySem.W.subIn K (.ref C_Ratio) (.type "tuple") = some false)
    (su_Ratio_str : PySem.W.subIn K (.ref C_Ratio) (.type "str") = some false)
    (su_Ratio_NoneType : PySem.W.subIn K (.ref C_Ratio) (.type "NoneType") = some false)
    (fmo_Ratio : PySem.W.findIn K (.ref C_Ratio) "__format__" = some (some (.builtin "object.__format__")))
    (na_Ratio_top : PySem.W.findIn K (.ref C_Ratio) "top" = some none)
    (na_Ratio_bottom : PySem.W.findIn K (.ref C_Ratio) "bottom" = some none)
    (gc_Pool : PySem.W.nsIn K mainGlobals "Pool" = some (some (.ref C_Pool)))
    (pg_Pool : PySem.W.plainGet K C_Pool Str.empty = true)
    (hd_Pool : PySem.W.hasDictIn K C_Pool = true)
    (po_Pool : PySem.W.plainOver K C_Pool = true)
    (sa_Pool : PySem.W.findIn K (.ref C_Pool) "__setattr__" = some (some (.builtin "object.__setattr__")))
    (tca_Pool : PySem.W.findIn K (.ref C_Pool) "__class__" = some (some (.builtin "object.__class__")))
    (tcb_Pool : PySem.W.specialIn K (.builtin "object.__class__") "__get__" = some (some (.builtin "getset_descriptor.__get__")))
    (tcc_Pool : PySem.W.takesIn K (.builtin "object.__class__") = some true)
    (tcd_Pool : PySem.W.mroIn K C_Pool (.type "object") = some true)
    (ric_Pool : PySem.W.isClsIn K C_Pool = true)
    (rty_Pool : PySem.W.typeIn K (.ref C_Pool) = some (.type "type"))
    (rss_Pool : PySem.W.subIn K (.ref C_Pool) (.ref C_Pool) = some true)
    (rda_Pool : PySem.W.readsIn K C_Pool (.type "type") = true)
    (rdb_Pool : PySem.W.specialIn K (.ref C_Pool) "__getattribute__" = some (some (.builtin "type.__getattribute__")))
    (mk_Pool : PySem.W.makesIn K C_Pool = true)
    (kc_Pool : PySem.W.keepIn K (.ref C_Pool) = true)
    (sf_Pool : PySem.W.selfFirst K C_Pool = true)
    (mra_Pool : PySem.W.clsIn K C_Pool = some cd_Pool)
    (mrb_Pool : cd_Pool.mro = [.ref C_Pool, .type "object"])
    (st_Pool_int : PySem.W.subIn K (.type "int") (.ref C_Pool) = some false)
    (st_Pool_bool : PySem.W.subIn K (.type "bool") (.ref C_Pool) = some false)
    (st_Pool_str : PySem.W.subIn K (.type "str") (.ref C_Pool) = some false)
    (st_Pool_NoneType : PySem.W.subIn K (.type "NoneType") (.ref C_Pool) = some false)
    (st_Pool_tuple : PySem.W.subIn K (.type "tuple") (.ref C_Pool) = some false)
    (su_Pool_int : PySem.W.subIn K (.ref C_Pool) (.type "int") = some false)
    (su_Pool_bool : PySem.W.subIn K (.ref C_Pool) (.type "bool") = some false)
    (su_Pool_tuple : PySem.W.subIn K (.ref C_Pool) (.type "tuple") = some false)
    (su_Pool_str : PySem.W.subIn K (.ref C_Pool) (.type "str") = some false)
    (su_Pool_NoneType : PySem.W.subIn K (.ref C_Pool) (.type "NoneType") = some false)
    (neo_Pool : PySem.W.findIn K (.ref C_Pool) "__ne__" = some (some (.builtin "object.__ne__")))
    (na_Pool__middle : PySem.W.findIn K (.ref C_Pool) "_middle" = some none)
    (na_Pool__volume : PySem.W.findIn K (.ref C_Pool) "_volume" = some none)
    (na_Pool__left : PySem.W.findIn K (.ref C_Pool) "_left" = some none)
    (na_Pool__right : PySem.W.findIn K (.ref C_Pool) "_right" = some none)
    (gc_Water : PySem.W.nsIn K mainGlobals "Water" = some (some (.ref C_Water)))
    (pg_Water : PySem.W.plainGet K C_Water Str.empty = true)
    (hd_Water : PySem.W.hasDictIn K C_Water = true)
    (po_Water : PySem.W.plainOver K C_Water = true)
    (sa_Water : PySem.W.findIn K (.ref C_Water) "__setattr__" = some (some (.builtin "object.__setattr__")))
    (tca_Water : PySem.W.findIn K (.ref C_Water) "__class__" = some (some (.builtin "object.__class__")))
    (tcb_Water : PySem.W.specialIn K (.builtin "object.__class__") "__get__" = some (some (.builtin "getset_descriptor.__get__")))
    (tcc_Water : PySem.W.takesIn K (.builtin "object.__class__") = some true)
    (tcd_Water : PySem.W.mroIn K C_Water (.type "object") = some true)
    (ric_Water : PySem.W.isClsIn K C_Water = true)
    (rty_Water : PySem.W.typeIn K (.ref C_Water) = some (.type "type"))
    (rss_Water : PySem.W.subIn K (.ref C_Water) (.ref C_Water) = some true)
    (rda_Water : PySem.W.readsIn K C_Water (.type "type") = true)
    (rdb_Water : PySem.W.specialIn K (.ref C_Water) "__getattribute__" = some (some (.builtin "type.__getattribute__")))
    (mk_Water : PySem.W.makesIn K C_Water = true)
    (kc_Water : PySem.W.keepIn K (.ref C_Water) = true)
    (sf_Water : PySem.W.selfFirst K C_Water = true)
    (mra_Water : PySem.W.clsIn K C_Water = some cd_Water)
    (mrb_Water : cd_Water.mro = [.ref C_Water, .type "object"])
    (st_Water_int : PySem.W.subIn K (.type "int") (.ref C_Water) = some false)
    (st_Water_bool : PySem.W.subIn K (.type "bool") (.ref C_Water) = some false)
    (st_Water_str : PySem.W.subIn K (.type "str") (.ref C_Water) = some false)
    (st_Water_NoneType : PySem.W.subIn K (.type "NoneType") (.ref C_Water) = some false)
    (st_Water_tuple : PySem.W.subIn K (.type "tuple") (.ref C_Water) = some false)
    (su_Water_int : PySem.W.subIn K (.ref C_Water) (.type "int") = some false)
    (su_Water_bool : PySem.W.subIn K (.ref C_Water) (.type "bool") = some false)
    (su_Water_tuple : PySem.W.subIn K (.ref C_Water) (.type "tuple") = some false)
    (su_Water_str : PySem.W.subIn K (.ref C_Water) (.type "str") = some false)
    (su_Water_NoneType : PySem.W.subIn K (.ref C_Water) (.type "NoneType") = some false)
    (na_Water__pools : PySem.W.findIn K (.ref C_Water) "_pools" = some none)
    (sx_Touching_PoolError : PySem.W.subIn K (.ref C_Touching) (.ref C_PoolError) = some true)
    (sx_Touching_InvalidNumber : PySem.W.subIn K (.ref C_Touching) (.ref C_InvalidNumber) = some false)
    (sx_Touching_InvalidDrop : PySem.W.subIn K (.ref C_Touching) (.ref C_InvalidDrop) = some false)
    (sx_Touching_Full : PySem.W.subIn K (.ref C_Touching) (.ref C_Full) = some false)
    (a_InvalidNumber_init_d : PySem.W.findIn K (.ref C_InvalidNumber) "__init__" = some (some (.ref f_InvalidNumber_init_d)))
    (i_InvalidNumber_init_d : PySem.W.isFn K (.ref f_InvalidNumber_init_d) = true)
    (l_InvalidNumber_init_d : K.lookup f_InvalidNumber_init_d = some ⟨oc_InvalidNumber_init_d, od_InvalidNumber_init_d, .func (PySem.W.fnOf "__init__" "InvalidNumber.__init__" (defArgs s_InvalidNumber_init_d) (defBody s_InvalidNumber_init_d) (defScope s_InvalidNumber_init_d) .none kV_InvalidNumber_init_d dc_InvalidNumber_init_d pm_InvalidNumber_init_d an_InvalidNumber_init_d cd_InvalidNumber_init_d ct_InvalidNumber_init_d), sl_InvalidNumber_init_d⟩)
    (c_InvalidNumber_init_d : PySem.W.codeIn K cd_InvalidNumber_init_d "InvalidNumber.__init__" = true)
    (k_InvalidNumber_init_d : PySem.W.keepIn K (.ref f_InvalidNumber_init_d) = true)
    (a_Touching_init_d : PySem.W.findIn K (.ref C_Touching) "__init__" = some (some (.ref f_Touching_init_d)))
    (i_Touching_init_d : PySem.W.isFn K (.ref f_Touching_init_d) = true)
    (l_Touching_init_d : K.lookup f_Touching_init_d = some ⟨oc_Touching_init_d, od_Touching_init_d, .func (PySem.W.fnOf "__init__" "Touching.__init__" (defArgs s_Touching_init_d) (defBody s_Touching_init_d) (defScope s_Touching_init_d) .none kV_Touching_init_d dc_Touching_init_d pm_Touching_init_d an_Touching_init_d cd_Touching_init_d ct_Touching_init_d), sl_Touching_init_d⟩)
    (c_Touching_init_d : PySem.W.codeIn K cd_Touching_init_d "Touching.__init__" = true)
    (k_Touching_init_d : PySem.W.keepIn K (.ref f_Touching_init_d) = true)
    (a_Ratio_init_d : PySem.W.findIn K (.ref C_Ratio) "__init__" = some (some (.ref f_Ratio_init_d)))
    (i_Ratio_init_d : PySem.W.isFn K (.ref f_Ratio_init_d) = true)
    (l_Ratio_init_d : K.lookup f_Ratio_init_d = some ⟨oc_Ratio_init_d, od_Ratio_init_d, .func (PySem.W.fnOf "__init__" "Ratio.__init__" (defArgs s_Ratio_init_d) (defBody s_Ratio_init_d) (defScope s_Ratio_init_d) (.ref T_Ratio_init_d) kV_Ratio_init_d dc_Ratio_init_d pm_Ratio_init_d an_Ratio_init_d cd_Ratio_init_d ct_Ratio_init_d), sl_Ratio_init_d⟩)
    (dl_Ratio_init_d : K.lookup T_Ratio_init_d = some to_Ratio_init_d)
    (dd_Ratio_init_d : to_Ratio_init_d.data = .seq ti_Ratio_init_d.toArray tn_Ratio_init_d)
    (dv_Ratio_init_d : Vals [V.int 1] ti_Ratio_init_d)
    (c_Ratio_init_d : PySem.W.codeIn K cd_Ratio_init_d "Ratio.__init__" = true)
    (k_Ratio_init_d : PySem.W.keepIn K (.ref f_Ratio_init_d) = true)
    (a_Ratio_of : PySem.W.findCls K (.ref C_Ratio) (.type "type") "of" = some (.get (.builtin "classmethod.__get__") (.ref p_Ratio_of) .none (.ref C_Ratio)))
    (r_Ratio_of : PySem.W.recIn K p_Ratio_of "classmethod" = some (.ref f_Ratio_of :: rs_Ratio_of))
    (i_Ratio_of : PySem.W.fnIn K f_Ratio_of = true)
    (l_Ratio_of : K.lookup f_Ratio_of = some ⟨oc_Ratio_of, od_Ratio_of, .func (PySem.W.fnOf "of" "Ratio.of" (defArgs s_Ratio_of) (defBody s_Ratio_of) (defScope s_Ratio_of) .none kV_Ratio_of dc_Ratio_of pm_Ratio_of an_Ratio_of cd_Ratio_of ct_Ratio_of), sl_Ratio_of⟩)
    (c_Ratio_of : PySem.W.codeIn K cd_Ratio_of "Ratio.of" = true)
    (k_Ratio_of : PySem.W.keepIn K (.ref f_Ratio_of) = true)
    (a_Ratio_over : PySem.W.findIn K (.ref C_Ratio) "over" = some (some (.ref f_Ratio_over)))
    (i_Ratio_over : PySem.W.isFn K (.ref f_Ratio_over) = true)
    (l_Ratio_over : K.lookup f_Ratio_over = some ⟨oc_Ratio_over, od_Ratio_over, .func (PySem.W.fnOf "over" "Ratio.over" (defArgs s_Ratio_over) (defBody s_Ratio_over) (defScope s_Ratio_over) .none kV_Ratio_over dc_Ratio_over pm_Ratio_over an_Ratio_over cd_Ratio_over ct_Ratio_over), sl_Ratio_over⟩)
    (c_Ratio_over : PySem.W.codeIn K cd_Ratio_over "Ratio.over" = true)
    (k_Ratio_over : PySem.W.keepIn K (.ref f_Ratio_over) = true)
    (a_Ratio_add_d : PySem.W.findIn K (.ref C_Ratio) "__add__" = some (some (.ref f_Ratio_add_d)))
    (i_Ratio_add_d : PySem.W.isFn K (.ref f_Ratio_add_d) = true)
    (l_Ratio_add_d : K.lookup f_Ratio_add_d = some ⟨oc_Ratio_add_d, od_Ratio_add_d, .func (PySem.W.fnOf "__add__" "Ratio.__add__" (defArgs s_Ratio_add_d) (defBody s_Ratio_add_d) (defScope s_Ratio_add_d) .none kV_Ratio_add_d dc_Ratio_add_d pm_Ratio_add_d an_Ratio_add_d cd_Ratio_add_d ct_Ratio_add_d), sl_Ratio_add_d⟩)
    (c_Ratio_add_d : PySem.W.codeIn K cd_Ratio_add_d "Ratio.__add__" = true)
    (k_Ratio_add_d : PySem.W.keepIn K (.ref f_Ratio_add_d) = true)
    (br_Ratio_add_d : PySem.W.findIn K (.ref C_Ratio) (dunderR "add") = some rc_Ratio_add_d)
    (bp_Ratio_add_d : rc_Ratio_add_d = none ∨ ∃ g : Addr, rc_Ratio_add_d = some (.ref g))
    (bl_Ratio_add_d : PySem.W.findIn K (.type "int") (PySem.dunder "add") = some fo_Ratio_add_d)
    (bo_Ratio_add_d : PySem.W.findIn K (.type "int") (dunderR "add") = some ro_Ratio_add_d)
    (ba_Ratio_add_d : PySem.W.findIn K (.ref C_Ratio) (PySem.dunder "add") = some (some (.ref f_Ratio_add_d)))
    (n1_Ratio_add_d : PySem.W.findIn K (.ref C_Ratio) (dunderI "add") = some none)
    (n2_Ratio_add_d : PySem.W.findIn K (.type "object") (dunderI "add") = some none)
    (a_Ratio_sub_d : PySem.W.findIn K (.ref C_Ratio) "__sub__" = some (some (.ref f_Ratio_sub_d)))
    (i_Ratio_sub_d : PySem.W.isFn K (.ref f_Ratio_sub_d) = true)
    (l_Ratio_sub_d : K.lookup f_Ratio_sub_d = some ⟨oc_Ratio_sub_d, od_Ratio_sub_d, .func (PySem.W.fnOf "__sub__" "Ratio.__sub__" (defArgs s_Ratio_sub_d) (defBody s_Ratio_sub_d) (defScope s_Ratio_sub_d) .none kV_Ratio_sub_d dc_Ratio_sub_d pm_Ratio_sub_d an_Ratio_sub_d cd_Ratio_sub_d ct_Ratio_sub_d), sl_Ratio_sub_d⟩)
    (c_Ratio_sub_d : PySem.W.codeIn K cd_Ratio_sub_d "Ratio.__sub__" = true)
    (k_Ratio_sub_d : PySem.W.keepIn K (.ref f_Ratio_sub_d) = true)
    (br_Ratio_sub_d : PySem.W.findIn K (.ref C_Ratio) (dunderR "sub") = some rc_Ratio_sub_d)
    (bp_Ratio_sub_d : rc_Ratio_sub_d = none ∨ ∃ g : Addr, rc_Ratio_sub_d = some (.ref g))
    (bl_Ratio_sub_d : PySem.W.findIn K (.type "int") (PySem.dunder "sub") = some fo_Ratio_sub_d)
    (bo_Ratio_sub_d : PySem.W.findIn K (.type "int") (dunderR "sub") = some ro_Ratio_sub_d)
    (ba_Ratio_sub_d : PySem.W.findIn K (.ref C_Ratio) (PySem.dunder "sub") = some (some (.ref f_Ratio_sub_d)))
    (n1_Ratio_sub_d : PySem.W.findIn K (.ref C_Ratio) (dunderI "sub") = some none)
    (n2_Ratio_sub_d : PySem.W.findIn K (.type "object") (dunderI "sub") = some none)
    (a_Ratio_mul_d : PySem.W.findIn K (.ref C_Ratio) "__mul__" = some (some (.ref f_Ratio_mul_d)))
    (i_Ratio_mul_d : PySem.W.isFn K (.ref f_Ratio_mul_d) = true)
    (l_Ratio_mul_d : K.lookup f_Ratio_mul_d = some ⟨oc_Ratio_mul_d, od_Ratio_mul_d, .func (PySem.W.fnOf "__mul__" "Ratio.__mul__" (defArgs s_Ratio_mul_d) (defBody s_Ratio_mul_d) (defScope s_Ratio_mul_d) .none kV_Ratio_mul_d dc_Ratio_mul_d pm_Ratio_mul_d an_Ratio_mul_d cd_Ratio_mul_d ct_Ratio_mul_d), sl_Ratio_mul_d⟩)
    (c_Ratio_mul_d : PySem.W.codeIn K cd_Ratio_mul_d "Ratio.__mul__" = true)
    (k_Ratio_mul_d : PySem.W.keepIn K (.ref f_Ratio_mul_d) = true)
    (br_Ratio_mul_d : PySem.W.findIn K (.ref C_Ratio) (dunderR "mul") = some rc_Ratio_mul_d)
    (bp_Ratio_mul_d : rc_Ratio_mul_d = none ∨ ∃ g : Addr, rc_Ratio_mul_d = some (.ref g))
    (bl_Ratio_mul_d : PySem.W.findIn K (.type "int") (PySem.dunder "mul") = some fo_Ratio_mul_d)
    (bo_Ratio_mul_d : PySem.W.findIn K (.type "int") (dunderR "mul") = some ro_Ratio_mul_d)
    (ba_Ratio_mul_d : PySem.W.findIn K (.ref C_Ratio) (PySem.dunder "mul") = some (some (.ref f_Ratio_mul_d)))
    (n1_Ratio_mul_d : PySem.W.findIn K (.ref C_Ratio) (dunderI "mul") = some none)
    (n2_Ratio_mul_d : PySem.W.findIn K (.type "object") (dunderI "mul") = some none)
    (a_Ratio_abs_d : PySem.W.findIn K (.ref C_Ratio) "__abs__" = some (some (.ref f_Ratio_abs_d)))
    (i_Ratio_abs_d : PySem.W.isFn K (.ref f_Ratio_abs_d) = true)
    (l_Ratio_abs_d : K.lookup f_Ratio_abs_d = some ⟨oc_Ratio_abs_d, od_Ratio_abs_d, .func (PySem.W.fnOf "__abs__" "Ratio.__abs__" (defArgs s_Ratio_abs_d) (defBody s_Ratio_abs_d) (defScope s_Ratio_abs_d) .none kV_Ratio_abs_d dc_Ratio_abs_d pm_Ratio_abs_d an_Ratio_abs_d cd_Ratio_abs_d ct_Ratio_abs_d), sl_Ratio_abs_d⟩)
    (c_Ratio_abs_d : PySem.W.codeIn K cd_Ratio_abs_d "Ratio.__abs__" = true)
    (k_Ratio_abs_d : PySem.W.keepIn K (.ref f_Ratio_abs_d) = true)
    (a_Ratio_eq_d : PySem.W.findIn K (.ref C_Ratio) "__eq__" = some (some (.ref f_Ratio_eq_d)))
    (i_Ratio_eq_d : PySem.W.isFn K (.ref f_Ratio_eq_d) = true)
    (l_Ratio_eq_d : K.lookup f_Ratio_eq_d = some ⟨oc_Ratio_eq_d, od_Ratio_eq_d, .func (PySem.W.fnOf "__eq__" "Ratio.__eq__" (defArgs s_Ratio_eq_d) (defBody s_Ratio_eq_d) (defScope s_Ratio_eq_d) .none kV_Ratio_eq_d dc_Ratio_eq_d pm_Ratio_eq_d an_Ratio_eq_d cd_Ratio_eq_d ct_Ratio_eq_d), sl_Ratio_eq_d⟩)
    (c_Ratio_eq_d : PySem.W.codeIn K cd_Ratio_eq_d "Ratio.__eq__" = true)
    (k_Ratio_eq_d : PySem.W.keepIn K (.ref f_Ratio_eq_d) = true)
    (a_Ratio_ne_d : PySem.W.findIn K (.ref C_Ratio) "__ne__" = some (some (.ref f_Ratio_ne_d)))
    (i_Ratio_ne_d : PySem.W.isFn K (.ref f_Ratio_ne_d) = true)
    (l_Ratio_ne_d : K.lookup f_Ratio_ne_d = some ⟨oc_Ratio_ne_d, od_Ratio_ne_d, .func (PySem.W.fnOf "__ne__" "Ratio.__ne__" (defArgs s_Ratio_ne_d) (defBody s_Ratio_ne_d) (defScope s_Ratio_ne_d) .none kV_Ratio_ne_d dc_Ratio_ne_d pm_Ratio_ne_d an_Ratio_ne_d cd_Ratio_ne_d ct_Ratio_ne_d), sl_Ratio_ne_d⟩)
    (c_Ratio_ne_d : PySem.W.codeIn K cd_Ratio_ne_d "Ratio.__ne__" = true)
    (k_Ratio_ne_d : PySem.W.keepIn K (.ref f_Ratio_ne_d) = true)
    (a_Ratio_le_d : PySem.W.findIn K (.ref C_Ratio) "__le__" = some (some (.ref f_Ratio_le_d)))
    (i_Ratio_le_d : PySem.W.isFn K (.ref f_Ratio_le_d) = true)
    (l_Ratio_le_d : K.lookup f_Ratio_le_d = some ⟨oc_Ratio_le_d, od_Ratio_le_d, .func (PySem.W.fnOf "__le__" "Ratio.__le__" (defArgs s_Ratio_le_d) (defBody s_Ratio_le_d) (defScope s_Ratio_le_d) .none kV_Ratio_le_d dc_Ratio_le_d pm_Ratio_le_d an_Ratio_le_d cd_Ratio_le_d ct_Ratio_le_d), sl_Ratio_le_d⟩)
    (c_Ratio_le_d : PySem.W.codeIn K cd_Ratio_le_d "Ratio.__le__" = true)
    (k_Ratio_le_d : PySem.W.keepIn K (.ref f_Ratio_le_d) = true)
    (a_Ratio_ge_d : PySem.W.findIn K (.ref C_Ratio) "__ge__" = some (some (.ref f_Ratio_ge_d)))
    (i_Ratio_ge_d : PySem.W.isFn K (.ref f_Ratio_ge_d) = true)
    (l_Ratio_ge_d : K.lookup f_Ratio_ge_d = some ⟨oc_Ratio_ge_d, od_Ratio_ge_d, .func (PySem.W.fnOf "__ge__" "Ratio.__ge__" (defArgs s_Ratio_ge_d) (defBody s_Ratio_ge_d) (defScope s_Ratio_ge_d) .none kV_Ratio_ge_d dc_Ratio_ge_d pm_Ratio_ge_d an_Ratio_ge_d cd_Ratio_ge_d ct_Ratio_ge_d), sl_Ratio_ge_d⟩)
    (c_Ratio_ge_d : PySem.W.codeIn K cd_Ratio_ge_d "Ratio.__ge__" = true)
    (k_Ratio_ge_d : PySem.W.keepIn K (.ref f_Ratio_ge_d) = true)
    (a_Ratio_str_d : PySem.W.findIn K (.ref C_Ratio) "__str__" = some (some (.ref f_Ratio_str_d)))
    (i_Ratio_str_d : PySem.W.isFn K (.ref f_Ratio_str_d) = true)
    (l_Ratio_str_d : K.lookup f_Ratio_str_d = some ⟨oc_Ratio_str_d, od_Ratio_str_d, .func (PySem.W.fnOf "__str__" "Ratio.__str__" (defArgs s_Ratio_str_d) (defBody s_Ratio_str_d) (defScope s_Ratio_str_d) .none kV_Ratio_str_d dc_Ratio_str_d pm_Ratio_str_d an_Ratio_str_d cd_Ratio_str_d ct_Ratio_str_d), sl_Ratio_str_d⟩)
    (c_Ratio_str_d : PySem.W.codeIn K cd_Ratio_str_d "Ratio.__str__" = true)
    (k_Ratio_str_d : PySem.W.keepIn K (.ref f_Ratio_str_d) = true)
    (a_is_number : PySem.W.nsIn K mainGlobals "is_number" = some (some (.ref f_is_number)))
    (l_is_number : K.lookup f_is_number = some ⟨oc_is_number, od_is_number, .func (PySem.W.fnOf "is_number" "is_number" (defArgs s_is_number) (defBody s_is_number) (defScope s_is_number) .none kV_is_number dc_is_number pm_is_number an_is_number cd_is_number ct_is_number), sl_is_number⟩)
    (c_is_number : PySem.W.codeIn K cd_is_number "is_number" = true)
    (k_is_number : PySem.W.keepIn K (.ref f_is_number) = true)
    (a_lead : PySem.W.nsIn K mainGlobals "lead" = some (some (.ref f_lead)))
    (l_lead : K.lookup f_lead = some ⟨oc_lead, od_lead, .func (PySem.W.fnOf "lead" "lead" (defArgs s_lead) (defBody s_lead) (defScope s_lead) .none kV_lead dc_lead pm_lead an_lead cd_lead ct_lead), sl_lead⟩)
    (c_lead : PySem.W.codeIn K cd_lead "lead" = true)
    (k_lead : PySem.W.keepIn K (.ref f_lead) = true)
    (a_Pool_init_d : PySem.W.findIn K (.ref C_Pool) "__init__" = some (some (.ref f_Pool_init_d)))
    (i_Pool_init_d : PySem.W.isFn K (.ref f_Pool_init_d) = true)
    (l_Pool_init_d : K.lookup f_Pool_init_d = some ⟨oc_Pool_init_d, od_Pool_init_d, .func (PySem.W.fnOf "__init__" "Pool.__init__" (defArgs s_Pool_init_d) (defBody s_Pool_init_d) (defScope s_Pool_init_d) .none kV_Pool_init_d dc_Pool_init_d pm_Pool_init_d an_Pool_init_d cd_Pool_init_d ct_Pool_init_d), sl_Pool_init_d⟩)
    (c_Pool_init_d : PySem.W.codeIn K cd_Pool_init_d "Pool.__init__" = true)
    (k_Pool_init_d : PySem.W.keepIn K (.ref f_Pool_init_d) = true)
    (a_Pool_middle : PySem.W.findIn K (.ref C_Pool) "middle" = some (some (.ref p_Pool_middle)))
    (pg_Pool_middle : PySem.W.specialIn K (.ref p_Pool_middle) "__get__" = some (some (.builtin "property.__get__")))
    (pt_Pool_middle : PySem.W.takesIn K (.ref p_Pool_middle) = some true)
    (r_Pool_middle : PySem.W.recIn K p_Pool_middle "property" = some (.ref f_Pool_middle :: rs_Pool_middle))
    (l_Pool_middle : K.lookup f_Pool_middle = some ⟨oc_Pool_middle, od_Pool_middle, .func (PySem.W.fnOf "middle" "Pool.middle" (defArgs s_Pool_middle) (defBody s_Pool_middle) (defScope s_Pool_middle) .none kV_Pool_middle dc_Pool_middle pm_Pool_middle an_Pool_middle cd_Pool_middle ct_Pool_middle), sl_Pool_middle⟩)
    (c_Pool_middle : PySem.W.codeIn K cd_Pool_middle "Pool.middle" = true)
    (k_Pool_middle : PySem.W.keepIn K (.ref f_Pool_middle) = true)
    (a_Pool_volume : PySem.W.findIn K (.ref C_Pool) "volume" = some (some (.ref p_Pool_volume)))
    (pg_Pool_volume : PySem.W.specialIn K (.ref p_Pool_volume) "__get__" = some (some (.builtin "property.__get__")))
    (pt_Pool_volume : PySem.W.takesIn K (.ref p_Pool_volume) = some true)
    (r_Pool_volume : PySem.W.recIn K p_Pool_volume "property" = some (.ref f_Pool_volume :: rs_Pool_volume))
    (l_Pool_volume : K.lookup f_Pool_volume = some ⟨oc_Pool_volume, od_Pool_volume, .func (PySem.W.fnOf "volume" "Pool.volume" (defArgs s_Pool_volume) (defBody s_Pool_volume) (defScope s_Pool_volume) .none kV_Pool_volume dc_Pool_volume pm_Pool_volume an_Pool_volume cd_Pool_volume ct_Pool_volume), sl_Pool_volume⟩)
    (c_Pool_volume : PySem.W.codeIn K cd_Pool_volume "Pool.volume" = true)
    (k_Pool_volume : PySem.W.keepIn K (.ref f_Pool_volume) = true)
    (a_Pool_left : PySem.W.findIn K (.ref C_Pool) "left" = some (some (.ref p_Pool_left)))
    (pg_Pool_left : PySem.W.specialIn K (.ref p_Pool_left) "__get__" = some (some (.builtin "property.__get__")))
    (pt_Pool_left : PySem.W.takesIn K (.ref p_Pool_left) = some true)
    (r_Pool_left : PySem.W.recIn K p_Pool_left "property" = some (.ref f_Pool_left :: rs_Pool_left))
    (l_Pool_left : K.lookup f_Pool_left = some ⟨oc_Pool_left, od_Pool_left, .func (PySem.W.fnOf "left" "Pool.left" (defArgs s_Pool_left) (defBody s_Pool_left) (defScope s_Pool_left) .none kV_Pool_left dc_Pool_left pm_Pool_left an_Pool_left cd_Pool_left ct_Pool_left), sl_Pool_left⟩)
    (c_Pool_left : PySem.W.codeIn K cd_Pool_left "Pool.left" = true)
    (k_Pool_left : PySem.W.keepIn K (.ref f_Pool_left) = true)
    (a_Pool_right : PySem.W.findIn K (.ref C_Pool) "right" = some (some (.ref p_Pool_right)))
    (pg_Pool_right : PySem.W.specialIn K (.ref p_Pool_right) "__get__" = some (some (.builtin "property.__get__")))
    (pt_Pool_right : PySem.W.takesIn K (.ref p_Pool_right) = some true)
    (r_Pool_right : PySem.W.recIn K p_Pool_right "property" = some (.ref f_Pool_right :: rs_Pool_right))
    (l_Pool_right : K.lookup f_Pool_right = some ⟨oc_Pool_right, od_Pool_right, .func (PySem.W.fnOf "right" "Pool.right" (defArgs s_Pool_right) (defBody s_Pool_right) (defScope s_Pool_right) .none kV_Pool_right dc_Pool_right pm_Pool_right an_Pool_right cd_Pool_right ct_Pool_right), sl_Pool_right⟩)
    (c_Pool_right : PySem.W.codeIn K cd_Pool_right "Pool.right" = true)
    (k_Pool_right : PySem.W.keepIn K (.ref f_Pool_right) = true)
    (a_Pool_add_d : PySem.W.findIn K (.ref C_Pool) "__add__" = some (some (.ref f_Pool_add_d)))
    (i_Pool_add_d : PySem.W.isFn K (.ref f_Pool_add_d) = true)
    (l_Pool_add_d : K.lookup f_Pool_add_d = some ⟨oc_Pool_add_d, od_Pool_add_d, .func (PySem.W.fnOf "__add__" "Pool.__add__" (defArgs s_Pool_add_d) (defBody s_Pool_add_d) (defScope s_Pool_add_d) .none kV_Pool_add_d dc_Pool_add_d pm_Pool_add_d an_Pool_add_d cd_Pool_add_d ct_Pool_add_d), sl_Pool_add_d⟩)
    (c_Pool_add_d : PySem.W.codeIn K cd_Pool_add_d "Pool.__add__" = true)
    (k_Pool_add_d : PySem.W.keepIn K (.ref f_Pool_add_d) = true)
    (br_Pool_add_d : PySem.W.findIn K (.ref C_Pool) (dunderR "add") = some rc_Pool_add_d)
    (bp_Pool_add_d : rc_Pool_add_d = none ∨ ∃ g : Addr, rc_Pool_add_d = some (.ref g))
    (bl_Pool_add_d : PySem.W.findIn K (.type "int") (PySem.dunder "add") = some fo_Pool_add_d)
    (bo_Pool_add_d : PySem.W.findIn K (.type "int") (dunderR "add") = some ro_Pool_add_d)
    (ba_Pool_add_d : PySem.W.findIn K (.ref C_Pool) (PySem.dunder "add") = some (some (.ref f_Pool_add_d)))
    (n1_Pool_add_d : PySem.W.findIn K (.ref C_Pool) (dunderI "add") = some none)
    (n2_Pool_add_d : PySem.W.findIn K (.type "object") (dunderI "add") = some none)
    (a_Pool_contains_d : PySem.W.findIn K (.ref C_Pool) "__contains__" = some (some (.ref f_Pool_contains_d)))
    (i_Pool_contains_d : PySem.W.isFn K (.ref f_Pool_contains_d) = true)
    (l_Pool_contains_d : K.lookup f_Pool_contains_d = some ⟨oc_Pool_contains_d, od_Pool_contains_d, .func (PySem.W.fnOf "__contains__" "Pool.__contains__" (defArgs s_Pool_contains_d) (defBody s_Pool_contains_d) (defScope s_Pool_contains_d) .none kV_Pool_contains_d dc_Pool_contains_d pm_Pool_contains_d an_Pool_contains_d cd_Pool_contains_d ct_Pool_contains_d), sl_Pool_contains_d⟩)
    (c_Pool_contains_d : PySem.W.codeIn K cd_Pool_contains_d "Pool.__contains__" = true)
    (k_Pool_contains_d : PySem.W.keepIn K (.ref f_Pool_contains_d) = true)
    (a_Pool_eq_d : PySem.W.findIn K (.ref C_Pool) "__eq__" = some (some (.ref f_Pool_eq_d)))
    (i_Pool_eq_d : PySem.W.isFn K (.ref f_Pool_eq_d) = true)
    (l_Pool_eq_d : K.lookup f_Pool_eq_d = some ⟨oc_Pool_eq_d, od_Pool_eq_d, .func (PySem.W.fnOf "__eq__" "Pool.__eq__" (defArgs s_Pool_eq_d) (defBody s_Pool_eq_d) (defScope s_Pool_eq_d) .none kV_Pool_eq_d dc_Pool_eq_d pm_Pool_eq_d an_Pool_eq_d cd_Pool_eq_d ct_Pool_eq_d), sl_Pool_eq_d⟩)
    (c_Pool_eq_d : PySem.W.codeIn K cd_Pool_eq_d "Pool.__eq__" = true)
    (k_Pool_eq_d : PySem.W.keepIn K (.ref f_Pool_eq_d) = true)
    (a_Pool_repr_d : PySem.W.findIn K (.ref C_Pool) "__repr__" = some (some (.ref f_Pool_repr_d)))
    (i_Pool_repr_d : PySem.W.isFn K (.ref f_Pool_repr_d) = true)
    (l_Pool_repr_d : K.lookup f_Pool_repr_d = some ⟨oc_Pool_repr_d, od_Pool_repr_d, .func (PySem.W.fnOf "__repr__" "Pool.__repr__" (defArgs s_Pool_repr_d) (defBody s_Pool_repr_d) (defScope s_Pool_repr_d) .none kV_Pool_repr_d dc_Pool_repr_d pm_Pool_repr_d an_Pool_repr_d cd_Pool_repr_d ct_Pool_repr_d), sl_Pool_repr_d⟩)
    (c_Pool_repr_d : PySem.W.codeIn K cd_Pool_repr_d "Pool.__repr__" = true)
    (k_Pool_repr_d : PySem.W.keepIn K (.ref f_Pool_repr_d) = true)
    (a_Water_init_d : PySem.W.findIn K (.ref C_Water) "__init__" = some (some (.ref f_Water_init_d)))
    (i_Water_init_d : PySem.W.isFn K (.ref f_Water_init_d) = true)
    (l_Water_init_d : K.lookup f_Water_init_d = some ⟨oc_Water_init_d, od_Water_init_d, .func (PySem.W.fnOf "__init__" "Water.__init__" (defArgs s_Water_init_d) (defBody s_Water_init_d) (defScope s_Water_init_d) (.ref T_Water_init_d) kV_Water_init_d dc_Water_init_d pm_Water_init_d an_Water_init_d cd_Water_init_d ct_Water_init_d), sl_Water_init_d⟩)
    (dl_Water_init_d : K.lookup T_Water_init_d = some to_Water_init_d)
    (dd_Water_init_d : to_Water_init_d.data = .seq ti_Water_init_d.toArray tn_Water_init_d)
    (dv_Water_init_d : Vals [V.ref e_empty] ti_Water_init_d)
    (c_Water_init_d : PySem.W.codeIn K cd_Water_init_d "Water.__init__" = true)
    (k_Water_init_d : PySem.W.keepIn K (.ref f_Water_init_d) = true)
    (a_Water_getitem_d : PySem.W.findIn K (.ref C_Water) "__getitem__" = some (some (.ref f_Water_getitem_d)))
    (i_Water_getitem_d : PySem.W.isFn K (.ref f_Water_getitem_d) = true)
    (l_Water_getitem_d : K.lookup f_Water_getitem_d = some ⟨oc_Water_getitem_d, od_Water_getitem_d, .func (PySem.W.fnOf "__getitem__" "Water.__getitem__" (defArgs s_Water_getitem_d) (defBody s_Water_getitem_d) (defScope s_Water_getitem_d) .none kV_Water_getitem_d dc_Water_getitem_d pm_Water_getitem_d an_Water_getitem_d cd_Water_getitem_d ct_Water_getitem_d), sl_Water_getitem_d⟩)
    (c_Water_getitem_d : PySem.W.codeIn K cd_Water_getitem_d "Water.__getitem__" = true)
    (k_Water_getitem_d : PySem.W.keepIn K (.ref f_Water_getitem_d) = true)
    (fn_Water_getitem_d : PySem.W.fnIn K f_Water_getitem_d = true)
    (a_Water_len_d : PySem.W.findIn K (.ref C_Water) "__len__" = some (some (.ref f_Water_len_d)))
    (i_Water_len_d : PySem.W.isFn K (.ref f_Water_len_d) = true)
    (l_Water_len_d : K.lookup f_Water_len_d = some ⟨oc_Water_len_d, od_Water_len_d, .func (PySem.W.fnOf "__len__" "Water.__len__" (defArgs s_Water_len_d) (defBody s_Water_len_d) (defScope s_Water_len_d) .none kV_Water_len_d dc_Water_len_d pm_Water_len_d an_Water_len_d cd_Water_len_d ct_Water_len_d), sl_Water_len_d⟩)
    (c_Water_len_d : PySem.W.codeIn K cd_Water_len_d "Water.__len__" = true)
    (k_Water_len_d : PySem.W.keepIn K (.ref f_Water_len_d) = true)
    (a_lw_box : PySem.W.nsIn K mainGlobals "_law_box" = some (some (.ref f_lw_box)))
    (l_lw_box : K.lookup f_lw_box = some ⟨oc_lw_box, od_lw_box, .func (PySem.W.fnOf "_law_box" "_law_box" (defArgs s_lw_box) (defBody s_lw_box) (defScope s_lw_box) .none kV_lw_box dc_lw_box pm_lw_box an_lw_box cd_lw_box ct_lw_box), sl_lw_box⟩)
    (c_lw_box : PySem.W.codeIn K cd_lw_box "_law_box" = true)
    (k_lw_box : PySem.W.keepIn K (.ref f_lw_box) = true)
    (a_lw_take : PySem.W.nsIn K mainGlobals "_law_take" = some (some (.ref f_lw_take)))
    (l_lw_take : K.lookup f_lw_take = some ⟨oc_lw_take, od_lw_take, .func (PySem.W.fnOf "_law_take" "_law_take" (defArgs s_lw_take) (defBody s_lw_take) (defScope s_lw_take) .none kV_lw_take dc_lw_take pm_lw_take an_lw_take cd_lw_take ct_lw_take), sl_lw_take⟩)
    (c_lw_take : PySem.W.codeIn K cd_lw_take "_law_take" = true)
    (k_lw_take : PySem.W.keepIn K (.ref f_lw_take) = true)
    (a_lw_number : PySem.W.nsIn K mainGlobals "_law_number" = some (some (.ref f_lw_number)))
    (l_lw_number : K.lookup f_lw_number = some ⟨oc_lw_number, od_lw_number, .func (PySem.W.fnOf "_law_number" "_law_number" (defArgs s_lw_number) (defBody s_lw_number) (defScope s_lw_number) .none kV_lw_number dc_lw_number pm_lw_number an_lw_number cd_lw_number ct_lw_number), sl_lw_number⟩)
    (c_lw_number : PySem.W.codeIn K cd_lw_number "_law_number" = true)
    (k_lw_number : PySem.W.keepIn K (.ref f_lw_number) = true)
    (a_lw_is : PySem.W.nsIn K mainGlobals "_law_is" = some (some (.ref f_lw_is)))
    (l_lw_is : K.lookup f_lw_is = some ⟨oc_lw_is, od_lw_is, .func (PySem.W.fnOf "_law_is" "_law_is" (defArgs s_lw_is) (defBody s_lw_is) (defScope s_lw_is) .none kV_lw_is dc_lw_is pm_lw_is an_lw_is cd_lw_is ct_lw_is), sl_lw_is⟩)
    (c_lw_is : PySem.W.codeIn K cd_lw_is "_law_is" = true)
    (k_lw_is : PySem.W.keepIn K (.ref f_lw_is) = true)
    (a_lw_pool : PySem.W.nsIn K mainGlobals "_law_pool" = some (some (.ref f_lw_pool)))
    (l_lw_pool : K.lookup f_lw_pool = some ⟨oc_lw_pool, od_lw_pool, .func (PySem.W.fnOf "_law_pool" "_law_pool" (defArgs s_lw_pool) (defBody s_lw_pool) (defScope s_lw_pool) .none kV_lw_pool dc_lw_pool pm_lw_pool an_lw_pool cd_lw_pool ct_lw_pool), sl_lw_pool⟩)
    (c_lw_pool : PySem.W.codeIn K cd_lw_pool "_law_pool" = true)
    (k_lw_pool : PySem.W.keepIn K (.ref f_lw_pool) = true)
    (a_lw_moments : PySem.W.nsIn K mainGlobals "_law_moments" = some (some (.ref f_lw_moments)))
    (l_lw_moments : K.lookup f_lw_moments = some ⟨oc_lw_moments, od_lw_moments, .func (PySem.W.fnOf "_law_moments" "_law_moments" (defArgs s_lw_moments) (defBody s_lw_moments) (defScope s_lw_moments) .none kV_lw_moments dc_lw_moments pm_lw_moments an_lw_moments cd_lw_moments ct_lw_moments), sl_lw_moments⟩)
    (c_lw_moments : PySem.W.codeIn K cd_lw_moments "_law_moments" = true)
    (k_lw_moments : PySem.W.keepIn K (.ref f_lw_moments) = true)
    (a_lw_is_water : PySem.W.nsIn K mainGlobals "_law_is_water" = some (some (.ref f_lw_is_water)))
    (l_lw_is_water : K.lookup f_lw_is_water = some ⟨oc_lw_is_water, od_lw_is_water, .func (PySem.W.fnOf "_law_is_water" "_law_is_water" (defArgs s_lw_is_water) (defBody s_lw_is_water) (defScope s_lw_is_water) .none kV_lw_is_water dc_lw_is_water pm_lw_is_water an_lw_is_water cd_lw_is_water ct_lw_is_water), sl_lw_is_water⟩)
    (c_lw_is_water : PySem.W.codeIn K cd_lw_is_water "_law_is_water" = true)
    (k_lw_is_water : PySem.W.keepIn K (.ref f_lw_is_water) = true)
    (a_lw_row : PySem.W.nsIn K mainGlobals "_law_row" = some (some (.ref f_lw_row)))
    (l_lw_row : K.lookup f_lw_row = some ⟨oc_lw_row, od_lw_row, .func (PySem.W.fnOf "_law_row" "_law_row" (defArgs s_lw_row) (defBody s_lw_row) (defScope s_lw_row) .none kV_lw_row dc_lw_row pm_lw_row an_lw_row cd_lw_row ct_lw_row), sl_lw_row⟩)
    (c_lw_row : PySem.W.codeIn K cd_lw_row "_law_row" = true)
    (k_lw_row : PySem.W.keepIn K (.ref f_lw_row) = true)
    (a_lw_long_row : PySem.W.nsIn K mainGlobals "_law_long_row" = some (some (.ref f_lw_long_row)))
    (l_lw_long_row : K.lookup f_lw_long_row = some ⟨oc_lw_long_row, od_lw_long_row, .func (PySem.W.fnOf "_law_long_row" "_law_long_row" (defArgs s_lw_long_row) (defBody s_lw_long_row) (defScope s_lw_long_row) .none kV_lw_long_row dc_lw_long_row pm_lw_long_row an_lw_long_row cd_lw_long_row ct_lw_long_row), sl_lw_long_row⟩)
    (c_lw_long_row : PySem.W.codeIn K cd_lw_long_row "_law_long_row" = true)
    (k_lw_long_row : PySem.W.keepIn K (.ref f_lw_long_row) = true)
    (a_lw_due : PySem.W.nsIn K mainGlobals "_law_due" = some (some (.ref f_lw_due)))
    (l_lw_due : K.lookup f_lw_due = some ⟨oc_lw_due, od_lw_due, .func (PySem.W.fnOf "_law_due" "_law_due" (defArgs s_lw_due) (defBody s_lw_due) (defScope s_lw_due) .none kV_lw_due dc_lw_due pm_lw_due an_lw_due cd_lw_due ct_lw_due), sl_lw_due⟩)
    (c_lw_due : PySem.W.codeIn K cd_lw_due "_law_due" = true)
    (k_lw_due : PySem.W.keepIn K (.ref f_lw_due) = true)
    (a_lw_made : PySem.W.nsIn K mainGlobals "_law_made" = some (some (.ref f_lw_made)))
    (l_lw_made : K.lookup f_lw_made = some ⟨oc_lw_made, od_lw_made, .func (PySem.W.fnOf "_law_made" "_law_made" (defArgs s_lw_made) (defBody s_lw_made) (defScope s_lw_made) .none kV_lw_made dc_lw_made pm_lw_made an_lw_made cd_lw_made ct_lw_made), sl_lw_made⟩)
    (c_lw_made : PySem.W.codeIn K cd_lw_made "_law_made" = true)
    (k_lw_made : PySem.W.keepIn K (.ref f_lw_made) = true)
    (a_law : PySem.W.nsIn K mainGlobals "law" = some (some (.ref f_law)))
    (l_law : K.lookup f_law = some ⟨oc_law, od_law, .func (PySem.W.fnOf "law" "law" (defArgs s_law) (defBody s_law) (defScope s_law) .none kV_law dc_law pm_law an_law cd_law ct_law), sl_law⟩)
    (c_law : PySem.W.codeIn K cd_law "law" = true)
    (k_law : PySem.W.keepIn K (.ref f_law) = true)
    (le_empty : K.lookup e_empty = some eo_empty)
    (ce_empty : eo_empty.cls = .type "tuple")
    (de_empty : eo_empty.data = .seq #[] en_empty)
    (xe_empty : True)
    : ∃ fd : FuncData, (∀ (s : Shared) (v : Value), BindsTo s fd ⟨[v], []⟩ [("_law_script", v)]) ∧ ∀ base : Heap, K.In base → base.Ns mainGlobals mg → FnG P w K mg base CX0 lv fa fd ["_law_script"] (sp K) := by
  have e := hfa.symm.trans (PySem.W.mg_of X G a_law)
  cases e
  let T : Txt K mg := {
    b_len := PySem.W.mg_none_of X G zb_len,
    b_range := PySem.W.mg_none_of X G zb_range,
    b_int := PySem.W.mg_none_of X G zb_int,
    b_str := PySem.W.mg_none_of X G zb_str,
    b_bool := PySem.W.mg_none_of X G zb_bool,
    b_abs := PySem.W.mg_none_of X G zb_abs,
    b_isinstance := PySem.W.mg_none_of X G zb_isinstance,
    b_repr := PySem.W.mg_none_of X G zb_repr,
    b_max := PySem.W.mg_none_of X G zb_max,
    b_min := PySem.W.mg_none_of X G zb_min,
    b_tuple := PySem.W.mg_none_of X G zb_tuple,
    b_list := PySem.W.mg_none_of X G zb_list,
    b_sum := PySem.W.mg_none_of X G zb_sum,
    b_enumerate := PySem.W.mg_none_of X G zb_enumerate,
    b_sorted := PySem.W.mg_none_of X G zb_sorted,
    g_gcd := PySem.W.mg_of X G gi_gcd,
    g_lcm := PySem.W.mg_of X G gi_lcm,
    C_PoolError := C_PoolError,
    g_PoolError := PySem.W.mg_of X G gc_PoolError,
    ox_PoolError := ⟨⟨_, _, _, _, _, _, _, _, _, _, _, _, _, _, _, xl_PoolError, xr_PoolError⟩, xs_PoolError, xe_PoolError, xt_PoolError, xk_PoolError⟩,
    xf_PoolError := ⟨xa_PoolError, xg_PoolError, xe_PoolError, xh_PoolError⟩,
    ic_PoolError := xi_PoolError,
    ss_PoolError := xq_PoolError,
    C_InvalidNumber := C_InvalidNumber,
    g_InvalidNumber := PySem.W.mg_of X G gc_InvalidNumber,
    ox_InvalidNumber := ⟨⟨_, _, _, _, _, _, _, _, _, _, _, _, _, _, _, xl_InvalidNumber, xr_InvalidNumber⟩, xs_InvalidNumber, xe_InvalidNumber, xt_InvalidNumber, xk_InvalidNumber⟩,
    xf_InvalidNumber := ⟨xa_InvalidNumber, xg_InvalidNumber, xe_InvalidNumber, xh_InvalidNumber⟩,
    ic_InvalidNumber := xi_InvalidNumber,
    ss_InvalidNumber := xq_InvalidNumber,
    n_InvalidNumber_value := na_InvalidNumber_value,
    C_InvalidDrop := C_InvalidDrop,
    g_InvalidDrop := PySem.W.mg_of X G gc_InvalidDrop,
    ox_InvalidDrop := ⟨⟨_, _, _, _, _, _, _, _, _, _, _, _, _, _, _, xl_InvalidDrop, xr_InvalidDrop⟩, xs_InvalidDrop, xe_InvalidDrop, xt_InvalidDrop, xk_InvalidDrop⟩,
    xf_InvalidDrop := ⟨xa_InvalidDrop, xg_InvalidDrop, xe_InvalidDrop, xh_InvalidDrop⟩,
    ic_InvalidDrop := xi_InvalidDrop,
    ss_InvalidDrop := xq_InvalidDrop,
    C_Full := C_Full,
    g_Full := PySem.W.mg_of X G gc_Full,
    ox_Full := ⟨⟨_, _, _, _, _, _, _, _, _, _, _, _, _, _, _, xl_Full, xr_Full⟩, xs_Full, xe_Full, xt_Full, xk_Full⟩,
    xf_Full := ⟨xa_Full, xg_Full, xe_Full, xh_Full⟩,
    ic_Full := xi_Full,
    ss_Full := xq_Full,
    C_Touching := C_Touching,
    g_Touching := PySem.W.mg_of X G gc_Touching,
    ox_Touching := ⟨⟨_, _, _, _, _, _, _, _, _, _, _, _, _, _, _, xl_Touching, xr_Touching⟩, xs_Touching, xe_Touching, xt_Touching, xk_Touching⟩,
    xf_Touching := ⟨xa_Touching, xg_Touching, xe_Touching, xh_Touching⟩,
    ic_Touching := xi_Touching,
    ss_Touching := xq_Touching,
    ec_Touching := ⟨xa_Touching, xg_Touching, xe_Touching, xh_Touching, ea_Touching, eb_Touching, et_Touching, em_Touching⟩,
    n_Touching_index := na_Touching_index,
    C_Ratio := C_Ratio,
    g_Ratio := PySem.W.mg_of X G gc_Ratio,
    cl_Ratio := ⟨pg_Ratio, hd_Ratio, po_Ratio, sa_Ratio⟩,
    tc_Ratio := ⟨⟨tca_Ratio, tcb_Ratio, tcc_Ratio, tcd_Ratio⟩, ric_Ratio, rty_Ratio, rss_Ratio⟩,
    rd_Ratio := ⟨rda_Ratio, rdb_Ratio⟩,
    mk_Ratio := mk_Ratio,
    kp_Ratio := kc_Ratio,
    sf_Ratio := sf_Ratio,
    mr_Ratio := ⟨cd_Ratio, mra_Ratio, mrb_Ratio⟩,
    st_Ratio_int := st_Ratio_int,
    st_Ratio_bool := st_Ratio_bool,
    st_Ratio_str := st_Ratio_str,
    st_Ratio_NoneType := st_Ratio_NoneType,
    st_Ratio_tuple := st_Ratio_tuple,
    su_Ratio_int := su_Ratio_int,
    su_Ratio_bool := su_Ratio_bool,
    su_Ratio_tuple := su_Ratio_tuple,
    su_Ratio_str := su_Ratio_str,
    su_Ratio_NoneType := su_Ratio_NoneType,
    fm_Ratio := fmo_Ratio,
    n_Ratio_top := na_Ratio_top,
    n_Ratio_bottom := na_Ratio_bottom,
    C_Pool := C_Pool,
    g_Pool := PySem.W.mg_of X G gc_Pool,
    cl_Pool := ⟨pg_Pool, hd_Pool, po_Pool, sa_Pool⟩,
    tc_Pool := ⟨⟨tca_Pool, tcb_Pool, tcc_Pool, tcd_Pool⟩, ric_Pool, rty_Pool, rss_Pool⟩,
    rd_Pool := ⟨rda_Pool, rdb_Pool⟩,
    mk_Pool := mk_Pool,
    kp_Pool := kc_Pool,
    sf_Pool := sf_Pool,
    mr_Pool := ⟨cd_Pool, mra_Pool, mrb_Pool⟩,
    st_Pool_int := st_Pool_int,
    st_Pool_bool := st_Pool_bool,
    st_Pool_str := st_Pool_str,
    st_Pool_NoneType := st_Pool_NoneType,
    st_Pool_tuple := st_Pool_tuple,
    su_Pool_int := su_Pool_int,
    su_Pool_bool := su_Pool_bool,
    su_Pool_tuple := su_Pool_tuple,
    su_Pool_str := su_Pool_str,
    su_Pool_NoneType := su_Pool_NoneType,
    ne_Pool := neo_Pool,
    n_Pool__middle := na_Pool__middle,
    n_Pool__volume := na_Pool__volume,
    n_Pool__left := na_Pool__left,
    n_Pool__right := na_Pool__right,
    C_Water := C_Water,
    g_Water := PySem.W.mg_of X G gc_Water,
    cl_Water := ⟨pg_Water, hd_Water, po_Water, sa_Water⟩,
    tc_Water := ⟨⟨tca_Water, tcb_Water, tcc_Water, tcd_Water⟩, ric_Water, rty_Water, rss_Water⟩,
    rd_Water := ⟨rda_Water, rdb_Water⟩,
    mk_Water := mk_Water,
    kp_Water := kc_Water,
    sf_Water := sf_Water,
    mr_Water := ⟨cd_Water, mra_Water, mrb_Water⟩,
    st_Water_int := st_Water_int,
    st_Water_bool := st_Water_bool,
    st_Water_str := st_Water_str,
    st_Water_NoneType := st_Water_NoneType,
    st_Water_tuple := st_Water_tuple,
    su_Water_int := su_Water_int,
    su_Water_bool := su_Water_bool,
    su_Water_tuple := su_Water_tuple,
    su_Water_str := su_Water_str,
    su_Water_NoneType := su_Water_NoneType,
    n_Water__pools := na_Water__pools,
    sx_Touching_PoolError := sx_Touching_PoolError,
    sx_Touching_InvalidNumber := sx_Touching_InvalidNumber,
    sx_Touching_InvalidDrop := sx_Touching_InvalidDrop,
    sx_Touching_Full := sx_Touching_Full,
    f_InvalidNumber_init_d := f_InvalidNumber_init_d,
    d_InvalidNumber_init_d := _,
    F_InvalidNumber_init_d := fun_mk (st := s_InvalidNumber_init_d) l_InvalidNumber_init_d c_InvalidNumber_init_d k_InvalidNumber_init_d,
    B_InvalidNumber_init_d := (fun_mk (st := s_InvalidNumber_init_d) l_InvalidNumber_init_d c_InvalidNumber_init_d k_InvalidNumber_init_d).binds (ps := ["self", "value"]) fun _ _ _ _ _ _ us hl => match us, hl with | [_, _], _ => rfl,
    m_InvalidNumber_init_d := ⟨a_InvalidNumber_init_d, i_InvalidNumber_init_d⟩,
    t_InvalidNumber_init_d := beq_iff_eq.mp i_InvalidNumber_init_d,
    f_Touching_init_d := f_Touching_init_d,
    d_Touching_init_d := _,
    F_Touching_init_d := fun_mk (st := s_Touching_init_d) l_Touching_init_d c_Touching_init_d k_Touching_init_d,
    B_Touching_init_d := (fun_mk (st := s_Touching_init_d) l_Touching_init_d c_Touching_init_d k_Touching_init_d).binds (ps := ["self", "index"]) fun _ _ _ _ _ _ us hl => match us, hl with | [_, _], _ => rfl,
    m_Touching_init_d := ⟨a_Touching_init_d, i_Touching_init_d⟩,
    t_Touching_init_d := beq_iff_eq.mp i_Touching_init_d,
    f_Ratio_init_d := f_Ratio_init_d,
    d_Ratio_init_d := _,
    F_Ratio_init_d := ⟨⟨_, _, _, _, _, _, _, _, _, _, rfl, l_Ratio_init_d, c_Ratio_init_d, .inr ⟨List.cons_ne_nil _ _, T_Ratio_init_d, to_Ratio_init_d, ti_Ratio_init_d, tn_Ratio_init_d, rfl, dl_Ratio_init_d, dd_Ratio_init_d, dv_Ratio_init_d⟩, .inl rfl⟩, k_Ratio_init_d⟩,
    m_Ratio_init_d := ⟨a_Ratio_init_d, i_Ratio_init_d⟩,
    f_Ratio_of := f_Ratio_of,
    d_Ratio_of := _,
    F_Ratio_of := fun_mk (st := s_Ratio_of) l_Ratio_of c_Ratio_of k_Ratio_of,
    B_Ratio_of := (fun_mk (st := s_Ratio_of) l_Ratio_of c_Ratio_of k_Ratio_of).binds (ps := ["cls", "value"]) fun _ _ _ _ _ _ us hl => match us, hl with | [_, _], _ => rfl,
    p_Ratio_of := p_Ratio_of,
    cm_Ratio_of := ⟨a_Ratio_of, ⟨_, r_Ratio_of⟩, i_Ratio_of⟩,
    f_Ratio_over := f_Ratio_over,
    d_Ratio_over := _,
    F_Ratio_over := fun_mk (st := s_Ratio_over) l_Ratio_over c_Ratio_over k_Ratio_over,
    B_Ratio_over := (fun_mk (st := s_Ratio_over) l_Ratio_over c_Ratio_over k_Ratio_over).binds (ps := ["self", "other"]) fun _ _ _ _ _ _ us hl => match us, hl with | [_, _], _ => rfl,
    m_Ratio_over := ⟨a_Ratio_over, i_Ratio_over⟩,
    me_Ratio_over := ⟨a_Ratio_over, i_Ratio_over, k_Ratio_over⟩,
    f_Ratio_add_d := f_Ratio_add_d,
    d_Ratio_add_d := _,
    F_Ratio_add_d := fun_mk (st := s_Ratio_add_d) l_Ratio_add_d c_Ratio_add_d k_Ratio_add_d,
    B_Ratio_add_d := (fun_mk (st := s_Ratio_add_d) l_Ratio_add_d c_Ratio_add_d k_Ratio_add_d).binds (ps := ["self", "other"]) fun _ _ _ _ _ _ us hl => match us, hl with | [_, _], _ => rfl,
    m_Ratio_add_d := ⟨a_Ratio_add_d, i_Ratio_add_d⟩,
    bn_Ratio_add_d := ⟨sf_Ratio, ba_Ratio_add_d, i_Ratio_add_d, ⟨_, br_Ratio_add_d, bp_Ratio_add_d⟩, ⟨_, bl_Ratio_add_d⟩, ⟨_, bo_Ratio_add_d⟩, st_Ratio_int⟩,
    ni_Ratio_add_d := ⟨⟨_, mra_Ratio, mrb_Ratio⟩, n1_Ratio_add_d, n2_Ratio_add_d⟩,
    f_Ratio_sub_d := f_Ratio_sub_d,
    d_Ratio_sub_d := _,
    F_Ratio_sub_d := fun_mk (st := s_Ratio_sub_d) l_Ratio_sub_d c_Ratio_sub_d k_Ratio_sub_d,
    B_Ratio_sub_d := (fun_mk (st := s_Ratio_sub_d) l_Ratio_sub_d c_Ratio_sub_d k_Ratio_sub_d).binds (ps := ["self", "other"]) fun _ _ _ _ _ _ us hl => match us, hl with | [_, _], _ => rfl,
    m_Ratio_sub_d := ⟨a_Ratio_sub_d, i_Ratio_sub_d⟩,
    bn_Ratio_sub_d := ⟨sf_Ratio, ba_Ratio_sub_d, i_Ratio_sub_d, ⟨_, br_Ratio_sub_d, bp_Ratio_sub_d⟩, ⟨_, bl_Ratio_sub_d⟩, ⟨_, bo_Ratio_sub_d⟩, st_Ratio_int⟩,
    ni_Ratio_sub_d := ⟨⟨_, mra_Ratio, mrb_Ratio⟩, n1_Ratio_sub_d, n2_Ratio_sub_d⟩,
    f_Ratio_mul_d := f_Ratio_mul_d,
    d_Ratio_mul_d := _,
    F_Ratio_mul_d := fun_mk (st := s_Ratio_mul_d) l_Ratio_mul_d c_Ratio_mul_d k_Ratio_mul_d,
    B_Ratio_mul_d := (fun_mk (st := s_Ratio_mul_d) l_Ratio_mul_d c_Ratio_mul_d k_Ratio_mul_d).binds (ps := ["self", "other"]) fun _ _ _ _ _ _ us hl => match us, hl with | [_, _], _ => rfl,
    m_Ratio_mul_d := ⟨a_Ratio_mul_d, i_Ratio_mul_d⟩,
    bn_Ratio_mul_d := ⟨sf_Ratio, ba_Ratio_mul_d, i_Ratio_mul_d, ⟨_, br_Ratio_mul_d, bp_Ratio_mul_d⟩, ⟨_, bl_Ratio_mul_d⟩, ⟨_, bo_Ratio_mul_d⟩, st_Ratio_int⟩,
    ni_Ratio_mul_d := ⟨⟨_, mra_Ratio, mrb_Ratio⟩, n1_Ratio_mul_d, n2_Ratio_mul_d⟩,
    f_Ratio_abs_d := f_Ratio_abs_d,
    d_Ratio_abs_d := _,
    F_Ratio_abs_d := fun_mk (st := s_Ratio_abs_d) l_Ratio_abs_d c_Ratio_abs_d k_Ratio_abs_d,
    B_Ratio_abs_d := (fun_mk (st := s_Ratio_abs_d) l_Ratio_abs_d c_Ratio_abs_d k_Ratio_abs_d).binds (ps := ["self"]) fun _ _ _ _ _ _ us hl => match us, hl with | [_], _ => rfl,
    m_Ratio_abs_d := ⟨a_Ratio_abs_d, i_Ratio_abs_d⟩,
    f_Ratio_eq_d := f_Ratio_eq_d,
    d_Ratio_eq_d := _,
    F_Ratio_eq_d := fun_mk (st := s_Ratio_eq_d) l_Ratio_eq_d c_Ratio_eq_d k_Ratio_eq_d,
    B_Ratio_eq_d := (fun_mk (st := s_Ratio_eq_d) l_Ratio_eq_d c_Ratio_eq_d k_Ratio_eq_d).binds (ps := ["self", "other"]) fun _ _ _ _ _ _ us hl => match us, hl with | [_, _], _ => rfl,
    m_Ratio_eq_d := ⟨a_Ratio_eq_d, i_Ratio_eq_d⟩,
    f_Ratio_ne_d := f_Ratio_ne_d,
    d_Ratio_ne_d := _,
    F_Ratio_ne_d := fun_mk (st := s_Ratio_ne_d) l_Ratio_ne_d c_Ratio_ne_d k_Ratio_ne_d,
    B_Ratio_ne_d := (fun_mk (st := s_Ratio_ne_d) l_Ratio_ne_d c_Ratio_ne_d k_Ratio_ne_d).binds (ps := ["self", "other"]) fun _ _ _ _ _ _ us hl => match us, hl with | [_, _], _ => rfl,
    m_Ratio_ne_d := ⟨a_Ratio_ne_d, i_Ratio_ne_d⟩,
    f_Ratio_le_d := f_Ratio_le_d,
    d_Ratio_le_d := _,
    F_Ratio_le_d := fun_mk (st := s_Ratio_le_d) l_Ratio_le_d c_Ratio_le_d k_Ratio_le_d,
    B_Ratio_le_d := (fun_mk (st := s_Ratio_le_d) l_Ratio_le_d c_Ratio_le_d k_Ratio_le_d).binds (ps := ["self", "other"]) fun _ _ _ _ _ _ us hl => match us, hl with | [_, _], _ => rfl,
    m_Ratio_le_d := ⟨a_Ratio_le_d, i_Ratio_le_d⟩,
    f_Ratio_ge_d := f_Ratio_ge_d,
    d_Ratio_ge_d := _,
    F_Ratio_ge_d := fun_mk (st := s_Ratio_ge_d) l_Ratio_ge_d c_Ratio_ge_d k_Ratio_ge_d,
    B_Ratio_ge_d := (fun_mk (st := s_Ratio_ge_d) l_Ratio_ge_d c_Ratio_ge_d k_Ratio_ge_d).binds (ps := ["self", "other"]) fun _ _ _ _ _ _ us hl => match us, hl with | [_, _], _ => rfl,
    m_Ratio_ge_d := ⟨a_Ratio_ge_d, i_Ratio_ge_d⟩,
    f_Ratio_str_d := f_Ratio_str_d,
    d_Ratio_str_d := _,
    F_Ratio_str_d := fun_mk (st := s_Ratio_str_d) l_Ratio_str_d c_Ratio_str_d k_Ratio_str_d,
    B_Ratio_str_d := (fun_mk (st := s_Ratio_str_d) l_Ratio_str_d c_Ratio_str_d k_Ratio_str_d).binds (ps := ["self"]) fun _ _ _ _ _ _ us hl => match us, hl with | [_], _ => rfl,
    m_Ratio_str_d := ⟨a_Ratio_str_d, i_Ratio_str_d⟩,
    f_is_number := f_is_number,
    d_is_number := _,
    F_is_number := fun_mk (st := s_is_number) l_is_number c_is_number k_is_number,
    B_is_number := (fun_mk (st := s_is_number) l_is_number c_is_number k_is_number).binds (ps := ["value"]) fun _ _ _ _ _ _ us hl => match us, hl with | [_], _ => rfl,
    g_is_number := PySem.W.mg_of X G a_is_number,
    f_lead := f_lead,
    d_lead := _,
    F_lead := fun_mk (st := s_lead) l_lead c_lead k_lead,
    B_lead := (fun_mk (st := s_lead) l_lead c_lead k_lead).binds (ps := ["one", "other"]) fun _ _ _ _ _ _ us hl => match us, hl with | [_, _], _ => rfl,
    g_lead := PySem.W.mg_of X G a_lead,
    f_Pool_init_d := f_Pool_init_d,
    d_Pool_init_d := _,
    F_Pool_init_d := fun_mk (st := s_Pool_init_d) l_Pool_init_d c_Pool_init_d k_Pool_init_d,
    B_Pool_init_d := (fun_mk (st := s_Pool_init_d) l_Pool_init_d c_Pool_init_d k_Pool_init_d).binds (ps := ["self", "middle", "volume"]) fun _ _ _ _ _ _ us hl => match us, hl with | [_, _, _], _ => rfl,
    m_Pool_init_d := ⟨a_Pool_init_d, i_Pool_init_d⟩,
    f_Pool_middle := f_Pool_middle,
    d_Pool_middle := _,
    F_Pool_middle := fun_mk (st := s_Pool_middle) l_Pool_middle c_Pool_middle k_Pool_middle,
    B_Pool_middle := (fun_mk (st := s_Pool_middle) l_Pool_middle c_Pool_middle k_Pool_middle).binds (ps := ["self"]) fun _ _ _ _ _ _ us hl => match us, hl with | [_], _ => rfl,
    p_Pool_middle := p_Pool_middle,
    pr_Pool_middle := ⟨a_Pool_middle, pg_Pool_middle, pt_Pool_middle, ⟨_, r_Pool_middle⟩⟩,
    f_Pool_volume := f_Pool_volume,
    d_Pool_volume := _,
    F_Pool_volume := fun_mk (st := s_Pool_volume) l_Pool_volume c_Pool_volume k_Pool_volume,
    B_Pool_volume := (fun_mk (st := s_Pool_volume) l_Pool_volume c_Pool_volume k_Pool_volume).binds (ps := ["self"]) fun _ _ _ _ _ _ us hl => match us, hl with | [_], _ => rfl,
    p_Pool_volume := p_Pool_volume,
    pr_Pool_volume := ⟨a_Pool_volume, pg_Pool_volume, pt_Pool_volume, ⟨_, r_Pool_volume⟩⟩,
    f_Pool_left := f_Pool_left,
    d_Pool_left := _,
    F_Pool_left := fun_mk (st := s_Pool_left) l_Pool_left c_Pool_left k_Pool_left,
    B_Pool_left := (fun_mk (st := s_Pool_left) l_Pool_left c_Pool_left k_Pool_left).binds (ps := ["self"]) fun _ _ _ _ _ _ us hl => match us, hl with | [_], _ => rfl,
    p_Pool_left := p_Pool_left,
    pr_Pool_left := ⟨a_Pool_left, pg_Pool_left, pt_Pool_left, ⟨_, r_Pool_left⟩⟩,
    f_Pool_right := f_Pool_right,
    d_Pool_right := _,
    F_Pool_right := fun_mk (st := s_Pool_right) l_Pool_right c_Pool_right k_Pool_right,
    B_Pool_right := (fun_mk (st := s_Pool_right) l_Pool_right c_Pool_right k_Pool_right).binds (ps := ["self"]) fun _ _ _ _ _ _ us hl => match us, hl with | [_], _ => rfl,
    p_Pool_right := p_Pool_right,
    pr_Pool_right := ⟨a_Pool_right, pg_Pool_right, pt_Pool_right, ⟨_, r_Pool_right⟩⟩,
    f_Pool_add_d := f_Pool_add_d,
    d_Pool_add_d := _,
    F_Pool_add_d := fun_mk (st := s_Pool_add_d) l_Pool_add_d c_Pool_add_d k_Pool_add_d,
    B_Pool_add_d := (fun_mk (st := s_Pool_add_d) l_Pool_add_d c_Pool_add_d k_Pool_add_d).binds (ps := ["self", "other"]) fun _ _ _ _ _ _ us hl => match us, hl with | [_, _], _ => rfl,
    m_Pool_add_d := ⟨a_Pool_add_d, i_Pool_add_d⟩,
    bn_Pool_add_d := ⟨sf_Pool, ba_Pool_add_d, i_Pool_add_d, ⟨_, br_Pool_add_d, bp_Pool_add_d⟩, ⟨_, bl_Pool_add_d⟩, ⟨_, bo_Pool_add_d⟩, st_Pool_int⟩,
    ni_Pool_add_d := ⟨⟨_, mra_Pool, mrb_Pool⟩, n1_Pool_add_d, n2_Pool_add_d⟩,
    f_Pool_contains_d := f_Pool_contains_d,
    d_Pool_contains_d := _,
    F_Pool_contains_d := fun_mk (st := s_Pool_contains_d) l_Pool_contains_d c_Pool_contains_d k_Pool_contains_d,
    B_Pool_contains_d := (fun_mk (st := s_Pool_contains_d) l_Pool_contains_d c_Pool_contains_d k_Pool_contains_d).binds (ps := ["self", "x"]) fun _ _ _ _ _ _ us hl => match us, hl with | [_, _], _ => rfl,
    m_Pool_contains_d := ⟨a_Pool_contains_d, i_Pool_contains_d⟩,
    f_Pool_eq_d := f_Pool_eq_d,
    d_Pool_eq_d := _,
    F_Pool_eq_d := fun_mk (st := s_Pool_eq_d) l_Pool_eq_d c_Pool_eq_d k_Pool_eq_d,
    B_Pool_eq_d := (fun_mk (st := s_Pool_eq_d) l_Pool_eq_d c_Pool_eq_d k_Pool_eq_d).binds (ps := ["self", "other"]) fun _ _ _ _ _ _ us hl => match us, hl with | [_, _], _ => rfl,
    m_Pool_eq_d := ⟨a_Pool_eq_d, i_Pool_eq_d⟩,
    f_Pool_repr_d := f_Pool_repr_d,
    d_Pool_repr_d := _,
    F_Pool_repr_d := fun_mk (st := s_Pool_repr_d) l_Pool_repr_d c_Pool_repr_d k_Pool_repr_d,
    B_Pool_repr_d := (fun_mk (st := s_Pool_repr_d) l_Pool_repr_d c_Pool_repr_d k_Pool_repr_d).binds (ps := ["self"]) fun _ _ _ _ _ _ us hl => match us, hl with | [_], _ => rfl,
    m_Pool_repr_d := ⟨a_Pool_repr_d, i_Pool_repr_d⟩,
    f_Water_init_d := f_Water_init_d,
    d_Water_init_d := _,
    F_Water_init_d := ⟨⟨_, _, _, _, _, _, _, _, _, _, rfl, l_Water_init_d, c_Water_init_d, .inr ⟨List.cons_ne_nil _ _, T_Water_init_d, to_Water_init_d, ti_Water_init_d, tn_Water_init_d, rfl, dl_Water_init_d, dd_Water_init_d, dv_Water_init_d⟩, .inl rfl⟩, k_Water_init_d⟩,
    m_Water_init_d := ⟨a_Water_init_d, i_Water_init_d⟩,
    f_Water_getitem_d := f_Water_getitem_d,
    d_Water_getitem_d := _,
    F_Water_getitem_d := fun_mk (st := s_Water_getitem_d) l_Water_getitem_d c_Water_getitem_d k_Water_getitem_d,
    B_Water_getitem_d := (fun_mk (st := s_Water_getitem_d) l_Water_getitem_d c_Water_getitem_d k_Water_getitem_d).binds (ps := ["self", "at"]) fun _ _ _ _ _ _ us hl => match us, hl with | [_, _], _ => rfl,
    m_Water_getitem_d := ⟨a_Water_getitem_d, i_Water_getitem_d⟩,
    fi_Water_getitem_d := fn_Water_getitem_d,
    f_Water_len_d := f_Water_len_d,
    d_Water_len_d := _,
    F_Water_len_d := fun_mk (st := s_Water_len_d) l_Water_len_d c_Water_len_d k_Water_len_d,
    B_Water_len_d := (fun_mk (st := s_Water_len_d) l_Water_len_d c_Water_len_d k_Water_len_d).binds (ps := ["self"]) fun _ _ _ _ _ _ us hl => match us, hl with | [_], _ => rfl,
    m_Water_len_d := ⟨a_Water_len_d, i_Water_len_d⟩,
    f_lw_box := f_lw_box,
    d_lw_box := _,
    F_lw_box := fun_mk (st := s_lw_box) l_lw_box c_lw_box k_lw_box,
    B_lw_box := (fun_mk (st := s_lw_box) l_lw_box c_lw_box k_lw_box).binds (ps := ["_law_script", "_law_k"]) fun _ _ _ _ _ _ us hl => match us, hl with | [_, _], _ => rfl,
    g_lw_box := PySem.W.mg_of X G a_lw_box,
    f_lw_take := f_lw_take,
    d_lw_take := _,
    F_lw_take := fun_mk (st := s_lw_take) l_lw_take c_lw_take k_lw_take,
    B_lw_take := (fun_mk (st := s_lw_take) l_lw_take c_lw_take k_lw_take).binds (ps := ["_law_box_here", "_law_many"]) fun _ _ _ _ _ _ us hl => match us, hl with | [_, _], _ => rfl,
    g_lw_take := PySem.W.mg_of X G a_lw_take,
    f_lw_number := f_lw_number,
    d_lw_number := _,
    F_lw_number := fun_mk (st := s_lw_number) l_lw_number c_lw_number k_lw_number,
    B_lw_number := (fun_mk (st := s_lw_number) l_lw_number c_lw_number k_lw_number).binds (ps := ["_law_box_here", "_law_top", "_law_unit"]) fun _ _ _ _ _ _ us hl => match us, hl with | [_, _, _], _ => rfl,
    g_lw_number := PySem.W.mg_of X G a_lw_number,
    f_lw_is := f_lw_is,
    d_lw_is := _,
    F_lw_is := fun_mk (st := s_lw_is) l_lw_is c_lw_is k_lw_is,
    B_lw_is := (fun_mk (st := s_lw_is) l_lw_is c_lw_is k_lw_is).binds (ps := ["_law_found", "_law_top", "_law_bottom"]) fun _ _ _ _ _ _ us hl => match us, hl with | [_, _, _], _ => rfl,
    g_lw_is := PySem.W.mg_of X G a_lw_is,
    f_lw_pool := f_lw_pool,
    d_lw_pool := _,
    F_lw_pool := fun_mk (st := s_lw_pool) l_lw_pool c_lw_pool k_lw_pool,
    B_lw_pool := (fun_mk (st := s_lw_pool) l_lw_pool c_lw_pool k_lw_pool).binds (ps := ["_law_box_here", "_law_unit", "_law_drop"]) fun _ _ _ _ _ _ us hl => match us, hl with | [_, _, _], _ => rfl,
    g_lw_pool := PySem.W.mg_of X G a_lw_pool,
    f_lw_moments := f_lw_moments,
    d_lw_moments := _,
    F_lw_moments := fun_mk (st := s_lw_moments) l_lw_moments c_lw_moments k_lw_moments,
    B_lw_moments := (fun_mk (st := s_lw_moments) l_lw_moments c_lw_moments k_lw_moments).binds (ps := ["_law_drops"]) fun _ _ _ _ _ _ us hl => match us, hl with | [_], _ => rfl,
    g_lw_moments := PySem.W.mg_of X G a_lw_moments,
    f_lw_is_water := f_lw_is_water,
    d_lw_is_water := _,
    F_lw_is_water := fun_mk (st := s_lw_is_water) l_lw_is_water c_lw_is_water k_lw_is_water,
    B_lw_is_water := (fun_mk (st := s_lw_is_water) l_lw_is_water c_lw_is_water k_lw_is_water).binds (ps := ["_law_found", "_law_unit", "_law_dues"]) fun _ _ _ _ _ _ us hl => match us, hl with | [_, _, _], _ => rfl,
    g_lw_is_water := PySem.W.mg_of X G a_lw_is_water,
    f_lw_row := f_lw_row,
    d_lw_row := _,
    F_lw_row := fun_mk (st := s_lw_row) l_lw_row c_lw_row k_lw_row,
    B_lw_row := (fun_mk (st := s_lw_row) l_lw_row c_lw_row k_lw_row).binds (ps := ["_law_box_here"]) fun _ _ _ _ _ _ us hl => match us, hl with | [_], _ => rfl,
    g_lw_row := PySem.W.mg_of X G a_lw_row,
    f_lw_long_row := f_lw_long_row,
    d_lw_long_row := _,
    F_lw_long_row := fun_mk (st := s_lw_long_row) l_lw_long_row c_lw_long_row k_lw_long_row,
    B_lw_long_row := (fun_mk (st := s_lw_long_row) l_lw_long_row c_lw_long_row k_lw_long_row).binds (ps := ["_law_box_here"]) fun _ _ _ _ _ _ us hl => match us, hl with | [_], _ => rfl,
    g_lw_long_row := PySem.W.mg_of X G a_lw_long_row,
    f_lw_due := f_lw_due,
    d_lw_due := _,
    F_lw_due := fun_mk (st := s_lw_due) l_lw_due c_lw_due k_lw_due,
    B_lw_due := (fun_mk (st := s_lw_due) l_lw_due c_lw_due k_lw_due).binds (ps := ["_law_drops"]) fun _ _ _ _ _ _ us hl => match us, hl with | [_], _ => rfl,
    g_lw_due := PySem.W.mg_of X G a_lw_due,
    f_lw_made := f_lw_made,
    d_lw_made := _,
    F_lw_made := fun_mk (st := s_lw_made) l_lw_made c_lw_made k_lw_made,
    B_lw_made := (fun_mk (st := s_lw_made) l_lw_made c_lw_made k_lw_made).binds (ps := ["_law_some"]) fun _ _ _ _ _ _ us hl => match us, hl with | [_], _ => rfl,
    g_lw_made := PySem.W.mg_of X G a_lw_made,
    f_law := fa,
    d_law := _,
    F_law := fun_mk (st := s_law) l_law c_law k_law,
    B_law := (fun_mk (st := s_law) l_law c_law k_law).binds (ps := ["_law_script"]) fun _ _ _ _ _ _ us hl => match us, hl with | [_], _ => rfl,
    g_law := PySem.W.mg_of X G a_law,
    e_empty := e_empty,
    sq_empty := ⟨eo_empty, en_empty, le_empty, ce_empty, de_empty⟩
  }
  exact ⟨T.d_law, fun s v => .of_eq rfl, fun base _ _ => ok_law T⟩
theorem walk {l : PySem.W.OpenLaw} {q : Program} {loose : List Str} {XP : (Str → Option Value) → Heap → Prop} {YP : World → Heap → Prop} {d : DefRec} {K : Params → PySem.W.Frag} {lv : Nat} {sp : SpK} (hn : l.most = some 63) (hdf : d.params.defaults = []) (hr : Room lv callerA)
    (hY : ∀ (w : World) (h : Heap), YP w h → (K w.params).In h)
    (F : ∀ (w : World) (mg : Str → Option Value) (fa : Addr) (h : Heap), (K w.params).In h → h.Ns mainGlobals mg → mg d.name = some (.ref fa) →
      ∃ fd : FuncData, (∀ (s : Shared) (u : Value), BindsTo s fd ⟨[u], []⟩ [("_law_script", u)]) ∧ ∀ base : Heap, (K w.params).In base → base.Ns mainGlobals mg → FnG l.prog w (K w.params) mg base CX0 lv fa fd ["_law_script"] (sp (K w.params)))
    (asks : Asked sp) :
    PySem.W.WalkO q loose XP YP l.row.toRowW d [] (fun f vs => PySem.call f vs) :=
  walkG (n := 63) (k := lv) (x := "_law_script") (sp := fun w => sp (K w.params)) hn (by decide) hdf hr hY F (fun _ _ _ _ hl hS => asks hl hS)
/-! ### ratios: the mathematics -/
def sg (l : Int) : Int := if l < 0 then -1 else 1
def gc (u l : Int) : Int := ((Nat.gcd u.natAbs l.natAbs : Nat) : Int)
/-- the lowest terms of u / l -/
def lo1 (u l : Int) : Int := sg l * u / gc u l
def lo2 (u l : Int) : Int := sg l * l / gc u l
theorem gc_pos {u l : Int} (h : l ≠ 0) : 0 < gc u l := by
  unfold gc
  have : 0 < Nat.gcd u.natAbs l.natAbs := Nat.gcd_pos_of_pos_right _ (by omega)
  omega
theorem gc_dvd1 (u l : Int) : gc u l ∣ u := Int.ofNat_dvd_left.mpr (Nat.gcd_dvd_left _ _)
theorem gc_dvd2 (u l : Int) : gc u l ∣ l := Int.ofNat_dvd_left.mpr (Nat.gcd_dvd_right _ _)
theorem gc_le {u l : Int} (h : l ≠ 0) : gc u l ≤ (l.natAbs : Int) := by
  have : Nat.gcd u.natAbs l.natAbs ≤ l.natAbs := Nat.gcd_le_right _ (by omega)
  unfold gc
  omega
theorem fdiv_neg_of {g k : Int} (hg : 0 < g) : (g * k).fdiv (-g) = -1 * (g * k) / g := by
  have e1 : g * k = -g * -k := by rw [Int.neg_mul_neg]
  have e2 : -1 * (g * k) = g * (-1 * k) := by rw [Int.mul_left_comm]
  rw [e2, Int.mul_ediv_cancel_left _ (by omega), e1, Int.mul_fdiv_cancel_left _ (by omega)]
  omega
theorem fdiv_pos_of {g k : Int} (hg : 0 < g) : (g * k).fdiv g = 1 * (g * k) / g := by
  rw [Int.one_mul, Int.mul_fdiv_cancel_left _ (by omega), Int.mul_ediv_cancel_left _ (by omega)]
theorem lo_neg {u l : Int} (h : l < 0) : u.fdiv (-gc u l) = lo1 u l ∧ l.fdiv (-gc u l) = lo2 u l := by
  have hg : 0 < gc u l := gc_pos (by omega)
  unfold lo1 lo2 sg
  rw [if_pos h]
  obtain ⟨k1, e1⟩ := gc_dvd1 u l
  obtain ⟨k2, e2⟩ := gc_dvd2 u l
  generalize gc u l = g at *
  rw [e1, e2]
  exact ⟨fdiv_neg_of hg, fdiv_neg_of hg⟩
theorem lo_pos {u l : Int} (h : 0 < l) : u.fdiv (gc u l) = lo1 u l ∧ l.fdiv (gc u l) = lo2 u l := by
  have hg : 0 < gc u l := gc_pos (by omega)
  unfold lo1 lo2 sg
  rw [if_neg (by omega)]
  obtain ⟨k1, e1⟩ := gc_dvd1 u l
  obtain ⟨k2, e2⟩ := gc_dvd2 u l
  generalize gc u l = g at *
  rw [e1, e2]
  exact ⟨fdiv_pos_of hg, fdiv_pos_of hg⟩
theorem lo_one (u : Int) : lo1 u 1 = u ∧ lo2 u 1 = 1 := by
  have e : gc u 1 = 1 := by unfold gc; simp
  unfold lo1 lo2
  rw [e]
  simp [sg]
theorem lo2_pos {u l : Int} (h : l ≠ 0) : 0 < lo2 u l := by
  have hg : 0 < gc u l := gc_pos h
  obtain ⟨k, e⟩ := gc_dvd2 u l
  have e2 : sg l * l = gc u l * (sg l * k) := by
    have : sg l * (gc u l * k) = gc u l * (sg l * k) := Int.mul_left_comm ..
    rw [← e] at this
    exact this
  unfold lo2
  rw [e2, Int.mul_ediv_cancel_left _ (by omega)]
  have p1 : 0 < sg l * l := by
    unfold sg
    split <;> omega
  rw [e2] at p1
  exact Int.pos_of_mul_pos_left (by rw [Int.mul_comm]; exact p1) hg
theorem lo2_le {u l : Int} (h : l ≠ 0) : lo2 u l ≤ (l.natAbs : Int) := by
  have hg : 0 < gc u l := gc_pos h
  have e : sg l * l = (l.natAbs : Int) := by
    unfold sg
    split <;> omega
  unfold lo2
  rw [e]
  exact Int.ediv_le_self _ (by omega)
theorem lo1_le {u l : Int} : (lo1 u l).natAbs ≤ u.natAbs := by
  unfold lo1
  have h1 : (sg l * u).natAbs = u.natAbs := by
    unfold sg
    split <;> omega
  rw [← h1]
  exact Int.natAbs_ediv_le_natAbs _ _

/-! ### ratios in the heap -/
def rfs (a b : Int) : List (Str × V) := [("top", V.int a), ("bottom", V.int b)]
theorem tb_ne : ¬ (("top" : Str) = "bottom") := by decide +kernel
theorem bt_ne : ¬ (("bottom" : Str) = "top") := by decide +kernel
theorem rfs_top (a b : Int) : (rfs a b).lookup ("top" : Str) = some (.int a) := by simp [rfs, List.lookup]
theorem rfs_bot (a b : Int) : (rfs a b).lookup ("bottom" : Str) = some (.int b) := by
  have e : (("bottom" : Str) == "top") = false := by decide +kernel
  simp [rfs, List.lookup, e]
theorem rfs_put (a b : Int) : putF "bottom" (.int b) (putF "top" (.int a) []) = rfs a b := by
  show (if ("top" : Str) = "bottom" then _ else _) = _
  rw [if_neg tb_ne]
  rfl
theorem rfs_no {a b : Int} {m : Str} (h1 : (m == ("top" : Str)) = false) (h2 : (m == ("bottom" : Str)) = false) : (rfs a b).lookup m = none := by simp [rfs, List.lookup, h1, h2]
/-- at p stands the ratio a / b -/
def RatAt (C : Addr) (H : Hp) (p : Addr) (a b : Int) : Prop := ∃ dx, H p = some (.ins C dx (rfs a b))
theorem RatAt.same {C p : Addr} {H H' : Hp} {a b : Int} (h : RatAt C H p a b) (s : Same H H') : RatAt C H' p a b := let ⟨dx, e⟩ := h; ⟨dx, s _ _ e⟩
/-- what is wanted of any heap that holds the new ratio beside all that stood -/
def GotR (C : Addr) (H : Hp) (Q : VK) (a b : Int) : Prop := ∀ p H', Same H H' → RatAt C H' p a b → Q (.ref p) H'
theorem same_upd {H : Hp} {p : Addr} {o : HO} (h : H p = none) : Same H (upd H p o) := fun b u e => by rw [upd_ne (ne_of_none e h)]; exact e

/-! ### the promises -/
/-- InvalidNumber.__init__ -/
def spInv (C : Addr) : Sp := fun vs H Q _ => ∃ (a : Addr) (v : V), vs = [.ref a, v] ∧ H a = some (exo a C none) ∧ ∀ dx, H dx = none → dx ≠ a → Q .non (upd (upd H dx (exd dx [("value", v)])) a (exo a C (some dx)))
/-- an InvalidNumber with this value is raised -/
def Bad (CI : Addr) (v : V) (H : Hp) (E : XK) : Prop := ∀ d H', Same H H' → H' d = some (.xd [("value", v)]) → E (.ref CI) (some d) H'
/-- Ratio.__init__ -/
def spInit (C CI : Addr) : Sp := fun vs H Q E => ∃ (p dx : Addr) (u l : Int), vs = [.ref p, .int u, .int l] ∧ H p = some (.ins C dx []) ∧ l.natAbs < 2 ^ 8000 ∧
  (l ≠ 0 → Q .non (upd H p (.ins C dx (rfs (lo1 u l) (lo2 u l))))) ∧ (l = 0 → Bad CI (.int 0) H E)
/-- what is_number answers -/
def NumB (C : Addr) (H : Hp) (v : V) (b : Bool) : Prop :=
  (b = true ∧ ((∃ i, v = .int i) ∨ ∃ p dx fs, v = .ref p ∧ H p = some (.ins C dx fs))) ∨ (b = false ∧ ((∃ x, v = .bl x) ∨ (∃ z, v = .str z) ∨ v = .non ∨ ∃ p xs, v = .ref p ∧ H p = some (.tup xs)))
def spNum (C : Addr) : Sp := fun vs H Q _ => ∃ v b, vs = [v] ∧ NumB C H v b ∧ ∀ H', Same H H' → Q (.bl b) H'
/-- Ratio.of -/
def spOf (C CI : Addr) : Sp := fun vs H Q E => ∃ v, vs = [.ref C, v] ∧ ((∃ i, v = .int i ∧ GotR C H Q i 1) ∨ (∃ p a b, v = .ref p ∧ RatAt C H p a b ∧ ∀ H', Same H H' → Q (.ref p) H') ∨ (NumB C H v false ∧ Bad CI v H E))

theorem vals_rev : ∀ {vs : List V} {us : List Value}, Vals vs us → Vals vs.reverse us.reverse
  | _, _, .nil => .nil
  | _, _, .cons r t => by
    rw [List.reverse_cons, List.reverse_cons]
    exact (vals_rev t).append (.cons r .nil)
/-- an expression's reading, weakened -/
theorem pe_wk {X : Cx} {e : Expr} {t : TE} (h : PE X e t) : PE X e (fun σ H Q => ∃ Q0 : VK, t σ H Q0 ∧ ∀ x H1, Q0 x H1 → Q x H1) :=
  ⟨fun pins s σ H Q I ⟨Q0, h0, k⟩ => thn (h.run pins s σ H Q0 I h0) fun u s1 ⟨v, H1, I1, r, q⟩ => ⟨v, H1, I1, r, k _ _ q⟩⟩
section
variable {P : Program} {w : World} {K : PySem.W.Frag} {mg : Str → Option Value} {base : Heap}
theorem ok_inv (T : Txt K mg) : FnOk P w K mg base CX0 1 T.f_InvalidNumber_init_d T.d_InvalidNumber_init_d ["self", "value"] (spInv T.C_InvalidNumber) := by
  refine T.F_InvalidNumber_init_d.ok sc_InvalidNumber_init_d (fun vs H Q E h => ?_) (fun cdv A outer s H vs Q E hr h => ?_)
  · obtain ⟨a, v, rfl, _⟩ := h; rfl
  · obtain ⟨a, v, rfl, ha, k⟩ := h
    refine ⟨_, pss_one (ps_ost (pv 0) (pv 1)), ?_⟩
    exact ⟨_, rfl, _, rfl, a, T.C_InvalidNumber, rfl, T.ox_InvalidNumber, T.n_InvalidNumber_value, .inl ⟨ha, k⟩⟩
/-- raise InvalidNumber(e) -/
theorem ps_bad {X : Cx} {W : WX} {e : Expr} {te : TE} {p pos pos2 : Pos} (T : Txt X.K X.mg) (hr : Room 2 X.A) (hc : X.calm = true) (tk : Takes X W) (he : PE X e te) (hg : Gl X "InvalidNumber" := by rfl)
    (hs : starEach (e :: []) X.env = (false, eval e X.env) :: starEach [] X.env := by rfl) :
    PS X (.Raise (some (.Call (.Name "InvalidNumber" p) [e] [] pos)) none pos2) (fun _ σ H => te σ H fun v H1 => ∀ d H', Same H1 H' → H' d = some (.xd [("value", v)]) → W (.ref T.C_InvalidNumber) (some d) σ H') := by
  refine ⟨fun pins s σ H D I h => ?_⟩
  refine (ps_raise (W := W) hc tk (pmk_oex (CX := CX0) (dvs := []) T.ox_InvalidNumber T.m_InvalidNumber_init_d.at_ T.t_InvalidNumber_init_d (ok_inv T) hr T.B_InvalidNumber_init_d .nil (fun _ _ _ _ _ _ _ z => z.elim) hg T.g_InvalidNumber (pa_cons (pe_wk he) pa_nil hs) (he := hs))).run pins s σ H D I ?_
  refine ⟨_, h, fun v H1 q => ⟨by show 1 ≤ 1000; decide, fun a na => ⟨a, v, rfl, upd_same, fun dx nx ne => ⟨rfl, dx, [("value", v)], upd_same, by rw [upd_ne ne, upd_same], ?_, ?_⟩⟩⟩⟩
  · rwa [upd_ne ne] at nx
  · have nd : H1 dx = none := by rwa [upd_ne ne] at nx
    refine q dx _ (fun b o e => ?_) upd_same
    rw [upd_ne (ne_of_none e nd), del_ne (ne_of_none e na), upd_ne (ne_of_none e na), upd_ne (ne_of_none e nd), upd_ne (ne_of_none e na)]
    exact e

/-! ### arguments bound -/
theorem Binds.kbn {fd : FuncData} {ps : List Str} {n : Nat} (B : Binds K fd ps []) (hn : ps.length = n) : KBn K fd ps n [] (fun us _ => us) (fun vs _ => vs) :=
  ⟨fun s us ws X l1 l2 => by have z := B s us X (by simpa [hn] using l1); simpa using z, fun r _ => r⟩
/-- Ratio(top, bottom), Ratio(top), Ratio(bottom = .., top = ..) -/
theorem kb_init2 (T : Txt K mg) : ∃ its : List Value, KBn K T.d_Ratio_init_d ["self", "top", "bottom"] 3 [] (fun us _ => us) (fun vs _ => vs) := by
  obtain ⟨its, h⟩ := FunD.kbindsD T.F_Ratio_init_d (ps := ["self", "top", "bottom"]) 3 [] (fun us _ _ => us) (by decide) (fun r _ _ => r) (fun Tt kV doc pm an cdv ct us its ws l1 l2 l3 => by
    match us, its, ws, l1, l2, l3 with
    | [a, b, c], [i], [], _, _, _ => exact ⟨_, rfl, rfl⟩)
  exact ⟨its, h⟩
theorem kb_init1 (T : Txt K mg) : ∃ its : List Value, KBn K T.d_Ratio_init_d ["self", "top", "bottom"] 2 [] (fun us _ => us ++ its) (fun vs _ => vs ++ [V.int 1]) := by
  obtain ⟨its, h⟩ := FunD.kbindsD T.F_Ratio_init_d (ps := ["self", "top", "bottom"]) 2 [] (fun us its _ => us ++ its) (by decide) (fun r r2 _ => r.append r2) (fun Tt kV doc pm an cdv ct us its ws l1 l2 l3 => by
    match us, its, ws, l1, l2, l3 with
    | [a, b], [i], [], _, _, _ => exact ⟨_, rfl, rfl⟩)
  exact ⟨its, h⟩
theorem kb_initK (T : Txt K mg) : ∃ its : List Value, KBn K T.d_Ratio_init_d ["self", "top", "bottom"] 1 ["bottom", "top"] (fun us ws => us ++ ws.reverse) (fun vs zs => vs ++ zs.reverse) := by
  obtain ⟨its, h⟩ := FunD.kbindsD T.F_Ratio_init_d (ps := ["self", "top", "bottom"]) 1 ["bottom", "top"] (fun us _ ws => us ++ ws.reverse) (by decide) (fun {vs ds zs us its ws} r _ r3 => r.append (vals_rev r3)) (fun Tt kV doc pm an cdv ct us its ws l1 l2 l3 => by
    match us, its, ws, l1, l2, l3 with
    | [a], [i], [x, y], _, _, _ => exact ⟨_, rfl, rfl⟩)
  exact ⟨its, h⟩

/-! ### Ratio's defs -/
theorem lenU {u : Int} {n : Nat} (h : u.natAbs < 2 ^ n) (h0 : 0 < n) (h9 : n ≤ 9000) : u.natAbs.log2 < 9000 := Nat.lt_of_lt_of_le (PySem.Flt.log2_lt_of h0 h) h9
theorem ok_init (T : Txt K mg) : FnOk P w K mg base (L2.CX P w) 3 T.f_Ratio_init_d T.d_Ratio_init_d ["self", "top", "bottom"] (spInit T.C_Ratio T.C_InvalidNumber) := by
  refine T.F_Ratio_init_d.ok sc_Ratio_init_d (fun vs H Q E h => ?_) (fun cdv A outer s H vs Q E hr h => ?_)
  · obtain ⟨p, dx, u, l, rfl, _⟩ := h; rfl
  · obtain ⟨p, dx, u, l, rfl, hp, bl, k1, k0⟩ := h
    refine ⟨_, pss_cons (ps_if (pt_cmpR op_eq (pv 2) pe_int (nomark _)) (pss_one (ps_bad (W := fun cls d _ H' => E cls d H') T hr rfl (takes_of rfl rfl rfl rfl) pe_int)) pss_nil)
      (pss_cons (ps_set (i := 3) sc_Ratio_init_d.nd rfl (.inl rfl) (pe_callBfun cr_gcd (by rfl) T.g_gcd (pa_cons (pv 1) (pa_cons (pv 2) pa_nil))))
      (pss_cons (ps_if (pt_cmpR op_lt (pv 2) pe_int (nomark _)) (pss_one (ps_set (i := 3) sc_Ratio_init_d.nd rfl (.inl rfl) (pe_un un_neg (pv 3)))) pss_nil)
      (pss_cons (ps_fld (pv 0) (pe_op op_fdivX (pv 1) (pv 3)) rfl) (pss_one (ps_fld (pv 0) (pe_op op_fdivX (pv 2) (pv 3)) rfl))))), ?_⟩
    refine ⟨_, rfl, rfl, _, rfl, ?_⟩
    refine ite2 (fun c => ?_) (fun c => ?_)
    · have e : l = 0 := by have := of_decide_eq_true c; injection this
      exact k0 e
    · have nz : l ≠ 0 := fun e => c (by rw [e]; exact decide_eq_true rfl)
      have fin : ∀ g : Int, g ≠ 0 → g.natAbs ≤ l.natAbs → u.fdiv g = lo1 u l ∧ l.fdiv g = lo2 u l → sFld K (tVar 0) (tOp (rI CDivX fun i j => .int (i.fdiv j)) (tVar 1) (tVar 3)) "top" { nx := sFld K (tVar 0) (tOp (rI CDivX fun i j => .int (i.fdiv j)) (tVar 2) (tVar 3)) "bottom" { nx := fun _ H' => Q .non H', rt := Q }, rt := Q } [some (.ref p), some (.int u), some (.int l), some (.int g)] H := by
        rintro g gnz gle ⟨e1, e2⟩
        have cd : g ≠ 0 ∧ g.natAbs.log2 < 9000 := ⟨gnz, lenU (Nat.lt_of_le_of_lt gle bl) (by decide) (by decide)⟩
        refine ⟨_, rfl, _, rfl, _, _, rfl, rfl, cd, _, rfl, p, T.C_Ratio, dx, [], rfl, hp, T.cl_Ratio, T.n_Ratio_top, by decide, ?_⟩
        refine ⟨_, rfl, _, rfl, _, _, rfl, rfl, cd, _, rfl, p, T.C_Ratio, dx, _, rfl, upd_same, T.cl_Ratio, T.n_Ratio_bottom, (by show 1 < 1000; decide), ?_⟩
        show Q .non (upd (upd H p _) p (.ins T.C_Ratio dx (putF "bottom" (.int (l.fdiv g)) (putF "top" (.int (u.fdiv g)) []))))
        rw [upd_upd, e1, e2, rfs_put]
        exact k1 nz
      refine ⟨_, rfl, _, rfl, _, _, rfl, ?_⟩
      refine ⟨_, rfl, _, _, rfl, rfl, _, rfl, ?_⟩
      refine ite2 (fun c2 => ?_) (fun c2 => ?_)
      · have neg : l < 0 := of_decide_eq_true c2
        have gp := gc_pos (u := u) nz
        have gl := gc_le (u := u) nz
        refine ⟨_, rfl, _, rfl, ?_⟩
        exact fin (-gc u l) (by omega) (by omega) (lo_neg neg)
      · have pos : 0 < l := by have : ¬ l < 0 := fun z => c2 (decide_eq_true z); omega
        have gp := gc_pos (u := u) nz
        have gl := gc_le (u := u) nz
        exact fin (gc u l) (by omega) (by omega) (lo_pos pos)

/-! isinstance -/
theorem kit_ref {C : Addr} (Ty : TyC K C) {t : String} {b : Bool} (h : PySem.W.subIn K (.type t) (.ref C) = some b) : PySem.W.kitOne K (.type t) (.ref C) = some b := by
  have e : ((PySem.W.clsIn K C).isSome && PySem.W.typeIn K (.ref C) == some (.type "type")) = true := by
    rw [show (PySem.W.clsIn K C).isSome = true from Ty.ic, Ty.ty]
    exact beq_self_eq_true _
  show (if (Value.type t == Value.ref C) = true then some true else if ((PySem.W.clsIn K C).isSome && PySem.W.typeIn K (.ref C) == some (.type "type")) = true then PySem.W.subIn K (.type t) (.ref C) else none) = some b
  rw [if_neg (by simp), if_pos e, h]
theorem kit_self {C : Addr} : PySem.W.kitOne K (.ref C) (.ref C) = some true := if_pos (beq_self_eq_true _)
theorem kit_of_own {C : Addr} {t : String} {b : Bool} (hm : PySem.W.kitMeta t = true) (h : PySem.W.subIn K (.ref C) (.type t) = some b) : PySem.W.kitOne K (.ref C) (.type t) = some b := by
  show (if (Value.ref C == Value.type t) = true then some true else if PySem.W.kitMeta t = true then PySem.W.subIn K (.ref C) (.type t) else none) = some b
  rw [if_neg (by simp), if_pos hm, h]
theorem tyx_ins {C a dx : Addr} {fs : List (Str × V)} {H : Hp} (cl : Cls K C) (Ty : TyC K C) (e : H a = some (.ins C dx fs)) : TyX K H (.ref a) (.ref C) := .base (.ins e cl Ty.at_.1 Ty.at_.2.1 Ty.at_.2.2.1 Ty.at_.2.2.2)
theorem any2 {t c d : Value} {a b : Bool} (h1 : PySem.W.kitOne K t c = some a) (h2 : PySem.W.kitOne K t d = some b) : PySem.W.kitAny K t [c, d] = some (a || b) := by
  unfold PySem.W.kitAny
  rw [h1]
  cases a with
  | true => rfl
  | false =>
    show PySem.W.kitAny K t [d] = some b
    unfold PySem.W.kitAny
    rw [h2]
    cases b <;> rfl
theorem ok_num (T : Txt K mg) : FnOk P w K mg base CX0 1 T.f_is_number T.d_is_number ["value"] (spNum T.C_Ratio) := by
  refine T.F_is_number.ok sc_is_number (fun vs H Q E h => ?_) (fun cdv A outer s H vs Q E hr h => ?_)
  · obtain ⟨v, b, rfl, _⟩ := h; rfl
  · obtain ⟨v, b, rfl, hn, k⟩ := h
    refine ⟨_, pss_one (ps_ret (pe_and (pe_callB call_isiT (by rfl) T.b_isinstance (by decide +kernel) (pa_cons (pv 0) (pa_cons (pe_tup (pa_cons (pe_bltn (v := .ty "int") (u := .type "int") (by rfl) T.b_int (by decide +kernel) rfl) (pa_cons (pe_glob (v := .ref T.C_Ratio) (by rfl) T.g_Ratio rfl) pa_nil))) pa_nil)))
      (pe_one (pe_not (pe_callB call_isi (by rfl) T.b_isinstance (by decide +kernel) (pa_cons (pv 0) (pa_cons (pe_bltn (v := .ty "bool") (u := .type "bool") (by rfl) T.b_bool (by decide +kernel) rfl) pa_nil))))))), ?_⟩
    refine ⟨_, rfl, (by show 2 ≤ sizeLine; decide), fun p hp => ?_⟩
    have sm : Same H (upd H p (.tup [.ty "int", .ref T.C_Ratio])) := same_upd hp
    have two : Paired ClsV [V.ty "int", V.ref T.C_Ratio] [Value.type "int", Value.ref T.C_Ratio] := .cons (.ty _) (.cons (.own _) .nil)
    -- from the value's type, whether it is one of the two classes, whether a bool
    have go : ∀ (t : Value) (a c : Bool), TyX K (upd H p (.tup [.ty "int", .ref T.C_Ratio])) v t → PySem.W.kitAny K t [.type "int", .ref T.C_Ratio] = some a → (a = true → PySem.W.kitOne K t (.type "bool") = some c) → b = (a && !c) →
        rIsiT K [v, .ref p] (upd H p (.tup [.ty "int", .ref T.C_Ratio])) (fun x H1 => ∃ c, x = .bl c ∧ if c = true then tNotV (tCB (rIsi K) (tCons (tVar 0) (tCons (tC (.ty "bool")) tNil))) [some v] H1 Q else Q (.bl false) H1) := by
      intro t a c ty h1 h2 hb
      refine ⟨v, p, _, t, _, a, rfl, upd_same, two, ty, h1, a, rfl, ?_⟩
      cases a with
      | false => exact iteF (by rw [hb] at k; exact k _ sm)
      | true =>
        refine iteT ⟨_, rfl, v, _, t, _, c, rfl, .ty _, ty, h2 rfl, c, rfl, ?_⟩
        rw [hb] at k
        exact k _ sm
    rcases hn with ⟨rfl, ⟨i, rfl⟩ | ⟨q, dx, fs, rfl, e⟩⟩ | ⟨rfl, ⟨x, rfl⟩ | ⟨z, rfl⟩ | rfl | ⟨q, xs, rfl, e⟩⟩
    · exact go (.type "int") true false (.base (.int i)) (any2 (kit_ty (b := "int") (r := true) (by decide +kernel)) (kit_ref T.tc_Ratio T.st_Ratio_int)) (fun _ => kit_ty (by decide +kernel)) rfl
    · exact go (.ref T.C_Ratio) true false (tyx_ins T.cl_Ratio T.tc_Ratio (sm _ _ e)) (any2 (kit_of_own (t := "int") (by decide +kernel) T.su_Ratio_int) kit_self) (fun _ => kit_of_own (t := "bool") (by decide +kernel) T.su_Ratio_bool) rfl
    · exact go (.type "bool") true true (.base (.bl x)) (any2 (kit_ty (b := "int") (r := true) (by decide +kernel)) (kit_ref T.tc_Ratio T.st_Ratio_bool)) (fun _ => kit_ty (by decide +kernel)) rfl
    · exact go (.type "str") false false (.base (.str z)) (any2 (kit_ty (b := "int") (r := false) (by decide +kernel)) (kit_ref T.tc_Ratio T.st_Ratio_str)) (fun q => nomatch q) rfl
    · exact go (.type "NoneType") false false (.base .non) (any2 (kit_ty (b := "int") (r := false) (by decide +kernel)) (kit_ref T.tc_Ratio T.st_Ratio_NoneType)) (fun q => nomatch q) rfl
    · exact go (.type "tuple") false false (.base (.tup (sm _ _ e))) (any2 (kit_ty (b := "int") (r := false) (by decide +kernel)) (kit_ref T.tc_Ratio T.st_Ratio_tuple)) (fun q => nomatch q) rfl

theorem small1 : (1 : Int).natAbs < 2 ^ 8000 := show 1 < 2 ^ 8000 from Nat.one_lt_two_pow (by omega)
/-- Ratio(u, l) from a heap, by the promise of __init__ -/
theorem made_of {C CI : Addr} {H : Hp} {Q : VK} {E : XK} {u l : Int} (bl : l.natAbs < 2 ^ 8000) (k1 : l ≠ 0 → GotR C H Q (lo1 u l) (lo2 u l)) (k0 : l = 0 → Bad CI (.int 0) H E) :
    ∀ x dx, H x = none → H dx = none → dx ≠ x → spInit C CI [.ref x, .int u, .int l] (upd (upd H dx (.own x)) x (.ins C dx [])) (fun v H3 => v = .non ∧ Q (.ref x) H3) E := by
  intro x dx nx ndx ne
  have sm : Same H (upd (upd H dx (.own x)) x (.ins C dx [])) := fun b o e => by
    rw [upd_ne (ne_of_none e nx), upd_ne (ne_of_none e ndx)]; exact e
  refine ⟨x, dx, u, l, rfl, upd_same, bl, fun nz => ⟨rfl, k1 nz x _ (fun b o e => ?_) ⟨dx, upd_same⟩⟩, fun z d H' s' e => k0 z d H' (sm.trans s') e⟩
  rw [upd_ne (ne_of_none e nx)]
  exact sm _ _ e
theorem made_at {C CI : Addr} {H : Hp} {Q' : VK} {E : XK} {u l : Int} (bl : l.natAbs < 2 ^ 8000) (nz : l ≠ 0) {x dx : Addr} (nx : H x = none) (ndx : H dx = none)
    (k : ∀ H', Same H H' → RatAt C H' x (lo1 u l) (lo2 u l) → Q' .non H') : spInit C CI [.ref x, .int u, .int l] (upd (upd H dx (.own x)) x (.ins C dx [])) Q' E := by
  have sm : Same H (upd (upd H dx (.own x)) x (.ins C dx [])) := fun b o e => by
    rw [upd_ne (ne_of_none e nx), upd_ne (ne_of_none e ndx)]; exact e
  exact ⟨x, dx, u, l, rfl, upd_same, bl, fun _ => k _ (fun b o e => by rw [upd_ne (ne_of_none e nx)]; exact sm _ _ e) ⟨dx, upd_same⟩, fun z => absurd z nz⟩
theorem made_bad {C CI : Addr} {H : Hp} {Q' : VK} {E : XK} {u : Int} (k0 : Bad CI (.int 0) H E) {x dx : Addr} (nx : H x = none) (ndx : H dx = none) :
    spInit C CI [.ref x, .int u, .int 0] (upd (upd H dx (.own x)) x (.ins C dx [])) Q' E := by
  have sm : Same H (upd (upd H dx (.own x)) x (.ins C dx [])) := fun b o e => by
    rw [upd_ne (ne_of_none e nx), upd_ne (ne_of_none e ndx)]; exact e
  exact ⟨x, dx, u, 0, rfl, upd_same, Nat.lt_trans (by decide) small1, fun nz => absurd rfl nz, fun _ d H' s' e => k0 d H' (sm.trans s') e⟩
theorem num_isi (T : Txt K mg) {H : Hp} {v : V} (h : NumB T.C_Ratio H v false) : ∃ t, TyX K H v (.type t) ∧ PySem.W.kitOne K (.type t) (.ref T.C_Ratio) = some false := by
  rcases h with ⟨z, _⟩ | ⟨_, ⟨x, rfl⟩ | ⟨z, rfl⟩ | rfl | ⟨q, xs, rfl, e⟩⟩
  · cases z
  · exact ⟨"bool", .base (.bl x), kit_ref T.tc_Ratio T.st_Ratio_bool⟩
  · exact ⟨"str", .base (.str z), kit_ref T.tc_Ratio T.st_Ratio_str⟩
  · exact ⟨"NoneType", .base .non, kit_ref T.tc_Ratio T.st_Ratio_NoneType⟩
  · exact ⟨"tuple", .base (.tup e), kit_ref T.tc_Ratio T.st_Ratio_tuple⟩
theorem ok_of (T : Txt K mg) : FnOk P w K mg base (L2.CX P w) 5 T.f_Ratio_of T.d_Ratio_of ["cls", "value"] (spOf T.C_Ratio T.C_InvalidNumber) := by
  obtain ⟨its, kb⟩ := kb_init1 T
  refine T.F_Ratio_of.okX sc_Ratio_of (fun vs H Q E h => ?_) (fun cdv A outer s H vs Q E hr h => ?_)
  · obtain ⟨v, rfl, _⟩ := h; rfl
  · obtain ⟨v, rfl, h⟩ := h
    refine ⟨_, pss_cons (ps_if (pt_val (pe_callB call_isi (by rfl) T.b_isinstance (by decide +kernel) (pa_cons (pv 1) (pa_cons (pe_glob (v := .ref T.C_Ratio) (by rfl) T.g_Ratio rfl) pa_nil)))) (pss_one (ps_ret (pv 1))) pss_nil)
      (pss_cons (ps_if (pt_not (pt_val (pe_f (E := fun _ => E0) (ok_num T) (hr.mono (by decide)) (by rfl) T.g_is_number T.F_is_number.kp T.B_is_number (fun _ => at0) (pa_cons (pv 1) pa_nil)))) (pss_one (ps_bad (W := fun cls d _ H' => E cls d H') T (hr.mono (by decide)) rfl (takes_of rfl rfl rfl rfl) (pv 1))) pss_nil)
      (pss_one (ps_ret (pe_mkL (i := 0) (E := fun _ => E0) ⟨T.mk_Ratio, T.m_Ratio_init_d.at_, T.m_Ratio_init_d.fn, T.kp_Ratio⟩ (ok_init T) hr rfl (.inl rfl) kb (fun _ => atL) (pa_cons (pv 1) pa_nil))))), ?_⟩
    rcases h with ⟨i, rfl, k⟩ | ⟨p, a, b, rfl, ⟨dx, e⟩, k⟩ | ⟨hn, k⟩
    · refine ⟨_, rfl, _, _, .type "int", _, false, rfl, .own _, .base (.int i), kit_ref T.tc_Ratio T.st_Ratio_int, false, rfl, iteF ?_⟩
      refine ⟨_, rfl, _, true, rfl, .inl ⟨rfl, .inl ⟨i, rfl⟩⟩, fun H1 s1 => ⟨true, rfl, iteF ?_⟩⟩
      refine ⟨rfl, _, rfl, rfl, made_of small1 (fun _ => ?_) (fun z => absurd z (by decide))⟩
      rw [(lo_one i).1, (lo_one i).2]
      exact fun p H2 s2 r => k p H2 (s1.trans s2) r
    · refine ⟨_, rfl, _, _, .ref T.C_Ratio, _, true, rfl, .own _, tyx_ins T.cl_Ratio T.tc_Ratio e, kit_self, true, rfl, iteT ?_⟩
      exact ⟨_, rfl, k _ (Same.refl _)⟩
    · obtain ⟨t, ty, kt⟩ := num_isi T hn
      refine ⟨_, rfl, _, _, .type t, _, false, rfl, .own _, ty, kt, false, rfl, iteF ?_⟩
      exact ⟨_, rfl, v, false, rfl, hn, fun H1 s1 => ⟨false, rfl, iteT ⟨_, rfl, fun d H' s' e => k d H' (s1.trans s') e⟩⟩⟩

/-! texts of ratios -/
def tx (i : Int) : Str := Str.ofString (toString i)
theorem str_assoc (a b c : Str) : a ++ b ++ c = a ++ (b ++ c) := congrArg Str.mk (Array.append_assoc (xs := a.cps) (ys := b.cps) (zs := c.cps))
theorem str_nil (a : Str) : Str.empty ++ a = a := congrArg Str.mk (Array.empty_append (xs := a.cps))
theorem str_nil2 (a : Str) : a ++ Str.empty = a := congrArg Str.mk (Array.append_empty (xs := a.cps))
theorem str_len (a b : Str) : (a ++ b).length = a.length + b.length := Array.size_append (xs := a.cps) (ys := b.cps)
theorem tx_len {i : Int} (h : i.natAbs.log2 < 1920) : (tx i).length ≤ 1921 := PyProof.Rows.int_text_len_1921 h
def ratTx (a b : Int) : Str := if b = 1 then tx a else tx a ++ "/" ++ tx b
def ratRp (a b : Int) : Str := "Ratio(" ++ tx a ++ ", " ++ tx b ++ ")"
def Sm (i : Int) : Prop := i.natAbs.log2 < 1920
def spStr (C : Addr) : Sp := fun vs H Q _ => ∃ p a b, vs = [.ref p] ∧ RatAt C H p a b ∧ Sm a ∧ Sm b ∧ Q (.str (ratTx a b)) H
def spRepr (C : Addr) : Sp := fun vs H Q _ => ∃ p a b, vs = [.ref p] ∧ RatAt C H p a b ∧ Sm a ∧ Sm b ∧ Q (.str (ratRp a b)) H
def spWhole (C : Addr) : Sp := fun vs H Q _ => ∃ p a b, vs = [.ref p] ∧ RatAt C H p a b ∧ Q (.bl (decide (b = 1))) H
def spFloor (C : Addr) : Sp := fun vs H Q _ => ∃ p a b, vs = [.ref p] ∧ RatAt C H p a b ∧ b ≠ 0 ∧ b.natAbs.log2 < 9000 ∧ Q (.int (a.fdiv b)) H
def spBool (C : Addr) : Sp := fun vs H Q _ => ∃ p a b, vs = [.ref p] ∧ RatAt C H p a b ∧ Q (.bl (a != 0)) H
theorem line_le {n : Nat} (h : n ≤ 10000) : n ≤ sizeLine := Nat.le_trans h (by rw [sizeLine_eq]; decide)
theorem ok_str (T : Txt K mg) : FnOk P w K mg base CX0 1 T.f_Ratio_str_d T.d_Ratio_str_d ["self"] (spStr T.C_Ratio) := by
  refine T.F_Ratio_str_d.ok sc_Ratio_str_d (fun vs H Q E ⟨_, _, _, e, _⟩ => by rw [e]; rfl) (fun cdv A outer s H vs Q E hr h => ?_)
  obtain ⟨p, a, b, rfl, ⟨dx, e⟩, sa, sb, k⟩ := h
  refine ⟨_, pss_cons (ps_if (pt_cmpR op_eq (pe_fld (pv 0) rfl) pe_int (nomark _)) (pss_one (ps_ret (pe_callTy call_str_int (by rfl) T.b_str (by decide +kernel) (pa_cons (pe_fld (pv 0) rfl) pa_nil)))) pss_nil)
    (pss_one (ps_ret (pe_joined (.cons (pe_fmt (pe_fld (pv 0) rfl)) (.cons pe_str (.cons (pe_fmt (pe_fld (pv 0) rfl)) .nil)))))), ?_⟩
  refine ⟨_, rfl, p, _, dx, _, _, rfl, e, T.cl_Ratio, T.n_Ratio_bottom, rfs_bot a b, rfl, _, rfl, ?_⟩
  have la := tx_len sa
  have lb := tx_len sb
  unfold ratTx at k
  refine ite2 (fun c => ?_) (fun c => ?_)
  · have e1 : b = 1 := by have z := of_decide_eq_true c; injection z
    rw [if_pos e1] at k
    exact ⟨_, rfl, p, _, dx, _, _, rfl, e, T.cl_Ratio, T.n_Ratio_top, rfs_top a b, _, rfl, sa, k⟩
  · have e1 : ¬ b = 1 := fun z => c (by rw [z]; exact decide_eq_true rfl)
    rw [if_neg e1] at k
    have l1 : ("/" : Str).length = 1 := by decide +kernel
    refine ⟨_, rfl, p, _, dx, _, _, rfl, e, T.cl_Ratio, T.n_Ratio_top, rfs_top a b, .inr ⟨a, rfl, sa, tx a, rfl, line_le (by rw [str_nil]; omega), "/", rfl, line_le (by rw [str_nil, str_len, l1]; omega), ⟨_, rfl, p, _, dx, _, _, rfl, e, T.cl_Ratio, T.n_Ratio_bottom, rfs_bot a b, .inr ⟨b, rfl, sb, tx b, rfl, line_le (by rw [str_nil, str_len, str_len, l1]; omega), ?_⟩⟩⟩⟩
    show Q (.str (Str.empty ++ tx a ++ "/" ++ tx b)) H
    rw [str_nil]
    exact k
end

/-! ### the law's own helpers: draws -/
/-- a box: what is left of a great cell, the seed, the count -/
def BoxL (n s c : Int) : HO := .lst [.int n, .int s, .int c]
def BoxAt (H : Hp) (p : Addr) : Prop := ∃ n s c : Int, H p = some (BoxL n s c) ∧ 0 ≤ n ∧ 0 ≤ s ∧ s < 2147483648
def spBox (K : PySem.W.Frag) : Sp := fun vs H Q _ => ∃ (a : Addr) (ns : List Int) (k : Int), vs = [.ref a, .int k] ∧ SqL K H a (ns.map V.int) ∧ 0 ≤ k ∧ ∀ p H', H p = none → Same H H' → BoxAt H' p → Q (.ref p) H'
/-- a digit is drawn; the box alone changes -/
def spTake : Sp := fun vs H Q _ => ∃ (p : Addr) (m : Int), vs = [.ref p, .int m] ∧ BoxAt H p ∧ 0 < m ∧ m < 1073741824 ∧ ∀ d n s c : Int, 0 ≤ d → d < m → BoxAt (upd H p (BoxL n s c)) p → Q (.int d) (upd H p (BoxL n s c))
theorem at_ints {ns : List Int} {i : Int} (h0 : 0 ≤ i) (h1 : i < (ns.length : Int)) : ∃ z, atI (ns.map V.int) i = some (V.int z) := by
  obtain ⟨j, rfl⟩ : ∃ j : Nat, i = (j : Int) := ⟨i.toNat, by omega⟩
  have hj : j < ns.length := by omega
  exact ⟨ns[j], atI_nat (by rw [List.getElem?_map, List.getElem?_eq_getElem hj]; rfl)⟩
section
variable {P : Program} {w : World} {K : PySem.W.Frag} {mg : Str → Option Value} {base : Heap}
theorem ok_box (T : Txt K mg) : FnOk P w K mg base CX0 1 T.f_lw_box T.d_lw_box ["_law_script", "_law_k"] (spBox K) := by
  refine T.F_lw_box.ok sc_lw_box (fun vs H Q E ⟨_, _, _, e, _⟩ => by rw [e]; rfl) (fun cdv A outer s H vs Q E hr h => ?_)
  obtain ⟨a, ns, k, rfl, hS, h0, fin⟩ := h
  refine ⟨_, pss_cons (ps_set (i := 2) sc_lw_box.nd rfl (.inl rfl) (pe_op op_add (pe_op op_mul pe_int (pv 1)) pe_int))
    (C8.pss_cut (ps_if (pt_cmpR op_lt (pv 1) (pe_callB call_len_seq (by rfl) T.b_len PySem.boot_len (pa_cons (pv 0) pa_nil)) (nomark _))
        (pss_one (ps_set (i := 2) sc_lw_box.nd rfl (.inl rfl) (pe_ix ix_list (pv 0) (pv 1) (fun _ _ => rfl))))
        (pss_one (ps_if (pt_cmpR op_gt (pe_callB call_len_seq (by rfl) T.b_len PySem.boot_len (pa_cons (pv 0) pa_nil)) pe_int (nomark _))
          (pss_one (ps_set (i := 2) sc_lw_box.nd rfl (.inl rfl) (pe_op op_add (pv 2) (pe_op op_mulW (pe_op op_mod (pe_ix ix_list (pv 0) (pe_op op_mod (pv 1) (pe_callB call_len_seq (by rfl) T.b_len PySem.boot_len (pa_cons (pv 0) pa_nil))) (fun _ _ => rfl)) pe_int) pe_int))))
          pss_nil)))
    (pss_cons (ps_set (i := 3) sc_lw_box.nd rfl (.inl rfl) (pe_op op_add (pe_op op_mod (pe_op op_add (pe_op op_mulW (pe_op op_mod (pv 2) pe_int) pe_int) (pe_op op_mul pe_int (pv 1))) pe_int) pe_int))
    (pss_one (ps_ret (pe_lst (pa_cons (pe_ix ix_list (pe_lst (pa_cons pe_int (pa_cons (pv 2) pa_nil))) (pe_callTy call_int1 (by rfl) T.b_int (by decide +kernel) (pa_cons (pe_cmpR op_ge (pv 2) (pe_op op_pow pe_int pe_int) (nomark _)) pa_nil)) (fun _ _ => rfl)) (pa_cons (pv 3) (pa_cons pe_int pa_nil)))))))), ?_⟩
  have small : ∀ {x y : Int}, 0 ≤ x → x < 4294967296 → y.natAbs < 2 ^ 32 → CMulW x y := fun {x y} h1 h2 h3 => wide_mul (a := 32) (b := 32) (by omega) h3 (by decide) (by decide) (by decide)
  refine ⟨_, rfl, _, _, rfl, rfl, .inl ⟨by decide, by decide⟩, _, _, rfl, rfl, ?_⟩
  refine ⟨fun σ' H' => H = H' ∧ ∃ c : Int, σ' = [some (.ref a), some (.int k), some (.int c), none], ?_, ?_⟩
  · refine ⟨_, rfl, _, rfl, a, _, rfl, .inl hS, _, _, rfl, rfl, _, rfl, ?_⟩
    refine ite2 (fun c => ?_) (fun c => ?_)
    · have lt : k < (ns.length : Int) := by have z := of_decide_eq_true c; rw [List.length_map] at z; exact z
      obtain ⟨z, hz⟩ := at_ints h0 lt
      exact ⟨_, rfl, _, rfl, a, _, _, _, rfl, rfl, hS, hz, rfl, z, rfl⟩
    · refine ⟨_, rfl, a, _, rfl, .inl hS, _, _, rfl, rfl, _, rfl, ?_⟩
      refine ite2 (fun c2 => ?_) (fun c2 => ⟨rfl, _, rfl⟩)
      have pos : 0 < ((ns.map V.int).length : Int) := of_decide_eq_true c2
      have e := Int.emod_nonneg k (b := ((ns.map V.int).length : Int)) (by omega)
      have e2 := Int.emod_lt_of_pos k pos
      obtain ⟨z, hz⟩ := at_ints (ns := ns) (i := k % ((ns.map V.int).length : Int)) e (by rw [List.length_map] at e2 ⊢; exact e2)
      refine ⟨_, rfl, _, rfl, _, rfl, _, rfl, a, _, rfl, .inl hS, _, _, rfl, rfl, pos, a, _, _, _, rfl, rfl, hS, hz, _, _, rfl, rfl, (by show (0 : Int) < 2147483629; decide), _, _, rfl, rfl, ?_, _, _, rfl, rfl, rfl, _, rfl⟩
      exact small (Int.emod_nonneg _ (by decide)) (Int.lt_trans (Int.emod_lt_of_pos _ (by decide)) (by decide)) (by decide)
  · rintro _ _ ⟨rfl, c, rfl⟩
    refine ⟨_, rfl, _, _, rfl, rfl, (by show (0 : Int) < 2147483629; decide), _, _, rfl, rfl, ?_, _, rfl, _, _, rfl, rfl, .inl ⟨by decide, by decide⟩, _, _, rfl, rfl, _, _, rfl, rfl, (by show (0 : Int) < 2147483629; decide), _, _, rfl, rfl, ?_⟩
    · exact small (Int.emod_nonneg _ (by decide)) (Int.lt_trans (Int.emod_lt_of_pos _ (by decide)) (by decide)) (by decide)
    have s0 := Int.emod_nonneg (c % 2147483629 * 48271 + 40699 * k) (b := 2147483629) (by decide)
    have s1 := Int.emod_lt_of_pos (c % 2147483629 * 48271 + 40699 * k) (b := 2147483629) (by decide)
    generalize (c % 2147483629 * 48271 + 40699 * k) % 2147483629 = sd at s0 s1
    refine ⟨_, rfl, (by show 2 ≤ sizeLine; decide), fun q hq => ?_⟩
    refine ⟨_, rfl, _, _, rfl, rfl, ⟨by decide, by decide, by decide⟩, _, _, rfl, rfl, .inr ⟨_, rfl, ?_⟩⟩
    have done : ∀ n : Int, 0 ≤ n → tCons (tVar 3) (tCons (tC (.int 0)) tNil) [some (.ref a), some (.int k), some (.int c), some (.int (sd + 1))] (upd H q (.lst [.int 0, .int c])) (fun xs H2 => (V.int n :: xs).length ≤ sizeLine ∧ ∀ p, H2 p = none → Q (.ref p) (upd H2 p (.lst (V.int n :: xs)))) := by
      intro n hn
      refine ⟨_, rfl, (by show 3 ≤ sizeLine; decide), fun p hp => fin p _ ?_ ?_ ⟨n, sd + 1, 0, upd_same, hn, by omega, by omega⟩⟩
      · exact (same_upd hq).free hp
      · exact (same_upd hq).trans (same_upd hp)
    by_cases g : (10 : Int) ^ (18 : Int).toNat ≤ c
    · rw [decide_eq_true g]
      refine ⟨q, [.int 0, .int c], 1, .int c, rfl, rfl, SqL.of upd_same, rfl, done c (Int.le_trans (by decide) g)⟩
    · rw [decide_eq_false g]
      exact ⟨q, [.int 0, .int c], 0, .int 0, rfl, rfl, SqL.of upd_same, rfl, done 0 (by decide)⟩

theorem ok_take (T : Txt K mg) : FnOk P w K mg base CX0 1 T.f_lw_take T.d_lw_take ["_law_box_here", "_law_many"] spTake := by
  refine T.F_lw_take.ok sc_lw_take (fun vs H Q E ⟨_, _, e, _⟩ => by rw [e]; rfl) (fun cdv A outer s H vs Q E hr h => ?_)
  obtain ⟨p, m, rfl, ⟨n, sd, c, hb, n0, s0, s1⟩, m0, m1, fin⟩ := h
  refine ⟨_, pss_cons (ps_if (pt_cmpR op_gt (pe_ix ix_list (pv 0) pe_int (fun _ _ => rfl)) pe_int (nomark _))
      (pss_cons (ps_set (i := 2) sc_lw_take.nd rfl (.inl rfl) (pe_op op_mod (pe_ix ix_list (pv 0) pe_int (fun _ _ => rfl)) (pv 1)))
        (pss_cons (ps_asg (pe_op op_fdivX (pe_ix ix_list (pv 0) pe_int (fun _ _ => rfl)) (pv 1)) (pg_sub (pv 0) pe_int set_list)) (pss_one (ps_ret (pv 2))))) pss_nil)
    (pss_cons (ps_asg (pe_op op_add (pe_ix ix_list (pv 0) pe_int (fun _ _ => rfl)) pe_int) (pg_sub (pv 0) pe_int set_list))
    (pss_cons (ps_set (i := 3) sc_lw_take.nd rfl (.inl rfl) (pe_op op_mod (pe_op op_mul (pe_op op_add (pe_ix ix_list (pv 0) pe_int (fun _ _ => rfl)) (pe_op op_mul pe_int (pe_ix ix_list (pv 0) pe_int (fun _ _ => rfl)))) pe_int) pe_int))
    (pss_cons (ps_asg (pe_op op_add (pe_op op_mod (pe_op op_add (pe_op op_mul (pv 3) pe_int) pe_int) pe_int) pe_int) (pg_sub (pv 0) pe_int set_list))
    (pss_cons (ps_set (i := 4) sc_lw_take.nd rfl (.inl rfl) (pe_op op_add (pe_op op_mul (pv 3) pe_int) (pe_ix ix_list (pv 0) pe_int (fun _ _ => rfl))))
    (pss_one (ps_ret (pe_op op_mod (pe_ifExp (pt_cmpR op_gt (pv 1) (pe_op op_pow pe_int pe_int) (nomark _)) (pe_op op_fdiv (pe_op op_mul (pv 4) (pv 4)) pe_int) (pe_op op_fdiv (pv 4) pe_int)) (pv 1)))))))), ?_⟩
  have L0 : SqL K H p [.int n, .int sd, .int c] := SqL.of hb
  refine ⟨_, rfl, p, _, 0, .int n, rfl, rfl, L0, rfl, _, _, rfl, rfl, _, rfl, ?_⟩
  refine ite2 (fun g => ?_) (fun g => ?_)
  · have pos : 0 < n := of_decide_eq_true g
    refine ⟨_, rfl, p, _, 0, .int n, rfl, rfl, L0, rfl, _, rfl, _, _, rfl, rfl, m0, ?_⟩
    refine ⟨_, rfl, p, _, 0, .int n, rfl, rfl, L0, rfl, _, rfl, _, _, rfl, rfl, ⟨by omega, lenU (n := 30) (by omega) (by decide) (by decide)⟩, ?_⟩
    refine ⟨_, rfl, p, _, 0, 0, rfl, rfl, hb, rfl, ?_⟩
    refine ⟨_, rfl, fin (n % m) (n.fdiv m) sd c (Int.emod_nonneg _ (by omega)) (Int.emod_lt_of_pos _ m0) ⟨_, _, _, upd_same, ?_, s0, s1⟩⟩
    rw [Int.fdiv_eq_ediv_of_nonneg _ (by omega)]
    exact Int.ediv_nonneg n0 (by omega)
  · have z : n = 0 := by have : ¬ 0 < n := fun q => g (decide_eq_true q); omega
    refine ⟨_, rfl, p, _, 2, .int c, rfl, rfl, L0, rfl, _, _, rfl, rfl, _, rfl, p, _, 2, 2, rfl, rfl, hb, rfl, ?_⟩
    have L1 : SqL K (upd H p (.lst [.int n, .int sd, .int (c + 1)])) p [.int n, .int sd, .int (c + 1)] := SqL.of upd_same
    refine ⟨_, rfl, p, _, 1, .int sd, rfl, rfl, L1, rfl, _, rfl, p, _, 2, .int (c + 1), rfl, rfl, L1, rfl, _, _, rfl, rfl, .inl ⟨by decide, by decide⟩, _, _, rfl, rfl, _, _, rfl, rfl, .inr ⟨by decide, by decide⟩, _, _, rfl, rfl, (by show (0 : Int) < 2147483647; decide), ?_⟩
    have f0 := Int.emod_nonneg ((sd + 104743 * (c + 1)) * 69621) (b := 2147483647) (by decide)
    have f1 := Int.emod_lt_of_pos ((sd + 104743 * (c + 1)) * 69621) (b := 2147483647) (by decide)
    obtain ⟨fi, hfi⟩ : ∃ fi, fi = (sd + 104743 * (c + 1)) * 69621 % 2147483647 := ⟨_, rfl⟩
    rw [← hfi] at f0 f1
    have g0 := Int.emod_nonneg (fi * 48271 + 30107) (b := 2147483629) (by decide)
    have g1 := Int.emod_lt_of_pos (fi * 48271 + 30107) (b := 2147483629) (by decide)
    refine ⟨_, rfl, _, _, rfl, rfl, .inr ⟨by decide, by decide⟩, _, _, rfl, rfl, _, _, rfl, rfl, (by show (0 : Int) < 2147483629; decide), _, _, rfl, rfl, _, rfl, p, _, 1, 1, rfl, rfl, upd_same, rfl, ?_⟩
    obtain ⟨gi, hgi⟩ : ∃ gi, gi = (fi * 48271 + 30107) % 2147483629 := ⟨_, rfl⟩
    rw [← hgi] at g0 g1
    subst hfi
    have L2' : SqL K (upd (upd H p (.lst [.int n, .int sd, .int (c + 1)])) p (.lst [.int n, .int (gi + 1), .int (c + 1)])) p [.int n, .int (gi + 1), .int (c + 1)] := SqL.of upd_same
    subst hgi
    refine ⟨_, rfl, _, _, rfl, rfl, .inr ⟨by decide, by decide⟩, _, rfl, p, _, 1, _, rfl, rfl, L2', rfl, _, _, rfl, rfl, ?_⟩
    refine ⟨_, rfl, _, _, rfl, rfl, ⟨by decide, by decide, by decide⟩, _, _, rfl, rfl, _, rfl, ?_⟩
    have ret : ∀ d : Int, 0 ≤ d → d < m → Q (.int d) (upd (upd H p (.lst [.int n, .int sd, .int (c + 1)])) p (.lst [.int n, .int (((sd + 104743 * (c + 1)) * 69621 % 2147483647 * 48271 + 30107) % 2147483629 + 1), .int (c + 1)])) := by
      intro d d0 d1
      rw [upd_upd]
      exact fin d n _ (c + 1) d0 d1 ⟨_, _, _, upd_same, n0, by omega, by omega⟩
    refine ite2 (fun _ => ?_) (fun _ => ?_)
    · refine ⟨_, rfl, _, rfl, _, _, rfl, rfl, .inl ⟨by omega, by omega⟩, _, _, rfl, rfl, ⟨by decide, by decide⟩, _, rfl, _, _, rfl, rfl, m0, ret _ (Int.emod_nonneg _ (by omega)) (Int.emod_lt_of_pos _ m0)⟩
    · exact ⟨_, rfl, _, _, rfl, rfl, ⟨by decide, by decide⟩, _, rfl, _, _, rfl, rfl, m0, ret _ (Int.emod_nonneg _ (by omega)) (Int.emod_lt_of_pos _ m0)⟩

theorem gcd_step {x y : Int} (hx : 0 ≤ x) (hy : 0 < y) : Nat.gcd y.natAbs (x % y).natAbs = Nat.gcd x.natAbs y.natAbs := by
  have e : (x % y).natAbs = x.natAbs % y.natAbs := by
    have e1 : x = (x.natAbs : Int) := by omega
    have e2 : y = (y.natAbs : Int) := by omega
    rw [e1, e2]
    simp only [Int.natAbs_natCast]
    omega
  rw [e, Nat.gcd_comm y.natAbs, ← Nat.gcd_rec, Nat.gcd_comm]
theorem abs_if (i : Int) : (if i < 0 then -i else i) = (i.natAbs : Int) := by
  split <;> omega
def spLow : Sp := fun vs H Q _ => ∃ u l : Int, vs = [.int u, .int l] ∧ l ≠ 0 ∧ l.natAbs < 2 ^ 8000 ∧ ∀ p H', Same H H' → H' p = some (.tup [.int (lo1 u l), .int (lo2 u l)]) → Q (.ref p) H'
def lowM (σ : L2.St) : Nat := match (show Option (Option V) from σ[3]?) with
  | some (some (V.int y)) => y.toNat
  | _ => 0
end
/-! ### small words -/
/-- all that was tracked is as it was, but the box at p -/
def But (p : Addr) (H H' : Hp) : Prop := ∀ b o, b ≠ p → H b = some o → H' b = some o
theorem if_false_ {c : Bool} {A B : Prop} (hc : c = false) (h : B) : if c = true then A else B := by
  rw [hc]
  exact iteF h
theorem But.refl (p : Addr) (H : Hp) : But p H H := fun _ _ _ e => e
theorem But.trans {p : Addr} {H H1 H2 : Hp} (a : But p H H1) (b : But p H1 H2) : But p H H2 := fun c o n e => b c o n (a c o n e)
theorem But.of {p : Addr} {H H' : Hp} (s : Same H H') : But p H H' := fun b o _ e => s b o e
theorem But.upd {p : Addr} {H : Hp} {o : HO} : But p H (upd H p o) := fun b u n e => by rw [upd_ne n]; exact e
theorem BoxAt.same {H H' : Hp} {p : Addr} (h : BoxAt H p) (s : Same H H') : BoxAt H' p := let ⟨n, a, c, e, r⟩ := h; ⟨n, a, c, s _ _ e, r⟩
theorem menu4 {a b c e : V} {d : Int} (h0 : 0 ≤ d) (h1 : d < 4) {p : V → Prop} (pa : p a) (pb : p b) (pc : p c) (pe : p e) : ∃ v, atI [a, b, c, e] d = some v ∧ p v := by
  obtain rfl | rfl | rfl | rfl : d = 0 ∨ d = 1 ∨ d = 2 ∨ d = 3 := by omega
  · exact ⟨a, rfl, pa⟩
  · exact ⟨b, rfl, pb⟩
  · exact ⟨c, rfl, pc⟩
  · exact ⟨e, rfl, pe⟩
theorem menu2 {a b : V} {d : Int} (h0 : 0 ≤ d) (h1 : d < 2) {p : V → Prop} (pa : p a) (pb : p b) : ∃ v, atI [a, b] d = some v ∧ p v := by
  obtain rfl | rfl : d = 0 ∨ d = 1 := by omega
  · exact ⟨a, rfl, pa⟩
  · exact ⟨b, rfl, pb⟩
theorem menu3 {a b c : V} {d : Int} (h0 : 0 ≤ d) (h1 : d < 3) {p : V → Prop} (pa : p a) (pb : p b) (pc : p c) : ∃ v, atI [a, b, c] d = some v ∧ p v := by
  obtain rfl | rfl | rfl : d = 0 ∨ d = 1 ∨ d = 2 := by omega
  · exact ⟨a, rfl, pa⟩
  · exact ⟨b, rfl, pb⟩
  · exact ⟨c, rfl, pc⟩
theorem menu5 {a b c e f : V} {d : Int} (h0 : 0 ≤ d) (h1 : d < 5) {p : V → Prop} (pa : p a) (pb : p b) (pc : p c) (pe : p e) (pf : p f) : ∃ v, atI [a, b, c, e, f] d = some v ∧ p v := by
  obtain rfl | rfl | rfl | rfl | rfl : d = 0 ∨ d = 1 ∨ d = 2 ∨ d = 3 ∨ d = 4 := by omega
  · exact ⟨a, rfl, pa⟩
  · exact ⟨b, rfl, pb⟩
  · exact ⟨c, rfl, pc⟩
  · exact ⟨e, rfl, pe⟩
  · exact ⟨f, rfl, pf⟩
section
variable {P : Program} {w : World} {K : PySem.W.Frag} {mg : Str → Option Value} {base : Heap}
theorem exm_inv (T : Txt K mg) : PySem.W.exmOne K (.ref T.C_InvalidNumber) (.ref T.C_InvalidNumber) = some true := by
  have e1 : (PySem.W.subIn K (.ref T.C_InvalidNumber) (.type "BaseException") == some true) = true := by rw [T.ox_InvalidNumber.exC]; exact beq_self_eq_true _
  have e2 : ((PySem.W.clsIn K T.C_InvalidNumber).isSome && PySem.W.typeIn K (.ref T.C_InvalidNumber) == some (.type "type")) = true := by
    rw [show (PySem.W.clsIn K T.C_InvalidNumber).isSome = true from T.ic_InvalidNumber, T.ox_InvalidNumber.tyC]; exact beq_self_eq_true _
  show (if (PySem.W.subIn K (.ref T.C_InvalidNumber) (.type "BaseException") == some true) = true then (if ((PySem.W.clsIn K T.C_InvalidNumber).isSome && PySem.W.typeIn K (.ref T.C_InvalidNumber) == some (.type "type")) = true then PySem.W.subIn K (.ref T.C_InvalidNumber) (.ref T.C_InvalidNumber) else none) else none) = some true
  rw [if_pos e1, if_pos e2]
  exact T.ss_InvalidNumber
theorem xval (v : V) : List.lookup ("value" : Str) [(("value" : Str), v)] = some v := by simp [List.lookup]
theorem zero_lt_8000 : (0 : Int).natAbs < 2 ^ 8000 := Nat.lt_trans (by decide) small1
theorem sm_of {i : Int} (h : i.natAbs ≤ 1000000000) : Sm i := by
  have : i.natAbs.log2 < 30 := PySem.Flt.log2_lt_of (by decide) (by omega)
  unfold Sm
  omega
theorem big_of {i : Int} (h : i.natAbs ≤ 1000000000) : i.natAbs < 2 ^ 8000 := Nat.lt_of_lt_of_le (show i.natAbs < 2 ^ 30 by omega) (Nat.pow_le_pow_right (by decide) (by decide))
theorem sm_fdiv {a b : Int} (ha : a.natAbs ≤ 1000000000) (hb : 0 < b) : Sm (a.fdiv b) := by
  rw [Int.fdiv_eq_ediv_of_nonneg _ (by omega)]
  exact sm_of (Nat.le_trans (Int.natAbs_ediv_le_natAbs _ _) ha)
theorem but_new {p : Addr} {H H1 H2 : Hp} (n : H p = none) (s : Same H H1) (b : But p H1 H2) : Same H H2 := fun c o e => b c o (ne_of_none e n) (s c o e)
theorem sqT_same {H H' : Hp} {a : Addr} {xs : List V} (s : Same H H') (h : H a = some (.tup xs)) : SqT K H' a xs := SqT.of (s _ _ h)
end

/-! ### lowest terms are the only ones -/
theorem sg_mul {l : Int} (h : l ≠ 0) : sg l * l = (l.natAbs : Int) ∧ (sg l = 1 ∨ sg l = -1) := by
  unfold sg
  split
  · exact ⟨by omega, .inr rfl⟩
  · exact ⟨by omega, .inl rfl⟩
/-- u / l in lowest terms: the cross product, coprime -/
theorem lo_cross {u l : Int} (h : l ≠ 0) : lo1 u l * l = u * lo2 u l := by
  have hg := gc_pos (u := u) h
  obtain ⟨k1, e1⟩ := gc_dvd1 u l
  obtain ⟨k2, e2⟩ := gc_dvd2 u l
  unfold lo1 lo2
  have a1 : sg l * u / gc u l = sg l * k1 := by
    have : sg l * u = gc u l * (sg l * k1) := by rw [Int.mul_left_comm, ← e1]
    rw [this, Int.mul_ediv_cancel_left _ (by omega)]
  have a2 : sg l * l / gc u l = sg l * k2 := by
    have : sg l * l = gc u l * (sg l * k2) := by rw [Int.mul_left_comm, ← e2]
    rw [this, Int.mul_ediv_cancel_left _ (by omega)]
  rw [a1, a2]
  have : sg l * k1 * l = gc u l * k1 * (sg l * k2) := by
    generalize gc u l = g at *
    rw [e2]
    simp only [Int.mul_assoc, Int.mul_comm, Int.mul_left_comm]
  rw [this, ← e1]
theorem lo_cop {u l : Int} (h : l ≠ 0) : Nat.gcd (lo1 u l).natAbs (lo2 u l).natAbs = 1 := by
  have hg := gc_pos (u := u) h
  obtain ⟨k1, e1⟩ := gc_dvd1 u l
  obtain ⟨k2, e2⟩ := gc_dvd2 u l
  have a1 : lo1 u l = sg l * k1 := by
    have : sg l * u = gc u l * (sg l * k1) := by rw [Int.mul_left_comm, ← e1]
    unfold lo1
    rw [this, Int.mul_ediv_cancel_left _ (by omega)]
  have a2 : lo2 u l = sg l * k2 := by
    have : sg l * l = gc u l * (sg l * k2) := by rw [Int.mul_left_comm, ← e2]
    unfold lo2
    rw [this, Int.mul_ediv_cancel_left _ (by omega)]
  have n1 : (lo1 u l).natAbs = k1.natAbs := by
    rw [a1, Int.natAbs_mul]
    rcases (sg_mul h).2 with z | z <;> rw [z] <;> simp
  have n2 : (lo2 u l).natAbs = k2.natAbs := by
    rw [a2, Int.natAbs_mul]
    rcases (sg_mul h).2 with z | z <;> rw [z] <;> simp
  rw [n1, n2]
  have gg : gc u l = (Nat.gcd u.natAbs l.natAbs : Int) := rfl
  have gp : 0 < Nat.gcd u.natAbs l.natAbs := by omega
  have m1 : u.natAbs = Nat.gcd u.natAbs l.natAbs * k1.natAbs := by
    have := congrArg Int.natAbs e1
    rw [Int.natAbs_mul, gg] at this
    simpa using this
  have m2 : l.natAbs = Nat.gcd u.natAbs l.natAbs * k2.natAbs := by
    have := congrArg Int.natAbs e2
    rw [Int.natAbs_mul, gg] at this
    simpa using this
  obtain ⟨g, hg2⟩ : ∃ g, g = Nat.gcd u.natAbs l.natAbs := ⟨_, rfl⟩
  rw [← hg2] at m1 m2 gp
  have z : g = g * Nat.gcd k1.natAbs k2.natAbs := by
    rw [← Nat.gcd_mul_left, ← m1, ← m2]
    exact hg2
  exact Nat.eq_of_mul_eq_mul_left gp (by omega)
theorem cop_unique {p q x y : Int} (hq : 0 < q) (hy : 0 < y) (c1 : Nat.gcd p.natAbs q.natAbs = 1) (c2 : Nat.gcd x.natAbs y.natAbs = 1) (e : p * y = x * q) : p = x ∧ q = y := by
  have en : p.natAbs * y.natAbs = x.natAbs * q.natAbs := by rw [← Int.natAbs_mul, e, Int.natAbs_mul]
  have d1 : q.natAbs ∣ y.natAbs := by
    have : q.natAbs ∣ p.natAbs * y.natAbs := by rw [en]; exact Nat.dvd_mul_left _ _
    exact Nat.Coprime.dvd_of_dvd_mul_left (Nat.Coprime.symm c1) this
  have d2 : y.natAbs ∣ q.natAbs := by
    have : y.natAbs ∣ x.natAbs * q.natAbs := by rw [← en]; exact Nat.dvd_mul_left _ _
    exact Nat.Coprime.dvd_of_dvd_mul_left (Nat.Coprime.symm c2) this
  have qy : q = y := by
    have := Nat.dvd_antisymm d1 d2
    omega
  subst qy
  exact ⟨Int.eq_of_mul_eq_mul_right (by omega) e, rfl⟩
/-- equal fractions have equal lowest terms -/
theorem lo_eq {u l x y : Int} (h : l ≠ 0) (h2 : y ≠ 0) (e : u * y = x * l) : lo1 u l = lo1 x y ∧ lo2 u l = lo2 x y := by
  refine cop_unique (lo2_pos h) (lo2_pos h2) (lo_cop h) (lo_cop h2) ?_
  have a := lo_cross (u := u) h
  have b := lo_cross (u := x) h2
  have s : (l * y) * (lo1 u l * lo2 x y) = (l * y) * (lo1 x y * lo2 u l) := by
    calc (l * y) * (lo1 u l * lo2 x y) = (lo1 u l * l) * (y * lo2 x y) := by simp only [Int.mul_assoc, Int.mul_comm, Int.mul_left_comm]
      _ = (u * lo2 u l) * (y * lo2 x y) := by rw [a]
      _ = (u * y) * (lo2 u l * lo2 x y) := by simp only [Int.mul_assoc, Int.mul_comm, Int.mul_left_comm]
      _ = (x * l) * (lo2 u l * lo2 x y) := by rw [e]
      _ = (x * lo2 x y) * (l * lo2 u l) := by simp only [Int.mul_assoc, Int.mul_comm, Int.mul_left_comm]
      _ = (lo1 x y * y) * (l * lo2 u l) := by rw [b]
      _ = (l * y) * (lo1 x y * lo2 u l) := by simp only [Int.mul_assoc, Int.mul_comm, Int.mul_left_comm]
  exact Int.eq_of_mul_eq_mul_left (Int.mul_ne_zero h h2) s
/-- lowest terms stay -/
theorem lo_of_cop {a b : Int} (hb : 0 < b) (c : Nat.gcd a.natAbs b.natAbs = 1) : lo1 a b = a ∧ lo2 a b = b := by
  have nz : b ≠ 0 := by omega
  exact cop_unique (lo2_pos nz) hb (lo_cop nz) c (by rw [lo_cross nz])

/-! ### numbers: ints and ratios -/
/-- the value v is the number a / b (b positive, lowest terms not asked) -/
def NumV (C : Addr) (H : Hp) (v : V) (a b : Int) : Prop := (v = .int a ∧ b = 1) ∨ ∃ p, v = .ref p ∧ RatAt C H p a b
theorem NumV.same {C : Addr} {H H' : Hp} {v : V} {a b : Int} (h : NumV C H v a b) (s : Same H H') : NumV C H' v a b := by
  rcases h with h | ⟨p, e, r⟩
  · exact .inl h
  · exact .inr ⟨p, e, r.same s⟩
theorem NumV.num {C : Addr} {H : Hp} {v : V} {a b : Int} (h : NumV C H v a b) : NumB C H v true := by
  rcases h with ⟨e, _⟩ | ⟨p, e, dx, r⟩
  · exact .inl ⟨rfl, .inl ⟨a, e⟩⟩
  · exact .inl ⟨rfl, .inr ⟨p, dx, _, e, r⟩⟩
/-- below 2 ^ 2000 -/
def Bd (i : Int) : Prop := i.natAbs < 2 ^ 2000
theorem bd_mulW {i j : Int} (hi : Bd i) (hj : Bd j) : CMulW i j := wide_mul hi hj (by decide) (by decide) (by decide)
theorem bd_mul {i j : Int} (hi : Bd i) (hj : Bd j) : (i * j).natAbs < 2 ^ 4000 := wide_lt hi hj
theorem bd_8000 {i : Int} (h : i.natAbs < 2 ^ 4000) : i.natAbs < 2 ^ 8000 := Nat.lt_trans h (Nat.pow_lt_pow_right (by decide) (by decide))
theorem bd_one : Bd 1 := show 1 < 2 ^ 2000 from Nat.one_lt_two_pow (by decide)
/-- the promise of a binary operator of Ratio that hands back a ratio g (a, b, c, d) -/
def spBin (C : Addr) (g1 g2 : Int → Int → Int → Int → Int) : Sp := fun vs H Q _ => ∃ (p : Addr) (v : V) (a b c d : Int), vs = [.ref p, v] ∧ RatAt C H p a b ∧ NumV C H v c d ∧ Bd a ∧ Bd b ∧ Bd c ∧ Bd d ∧ 0 < b ∧ 0 < d ∧ GotR C H Q (lo1 (g1 a b c d) (g2 a b c d)) (lo2 (g1 a b c d) (g2 a b c d))
def gAdd (a b c d : Int) : Int := a * d + c * b
def gSub (a b c d : Int) : Int := a * d - c * b
def gMul (a _ c _ : Int) : Int := a * c
def gDen (_ b _ d : Int) : Int := b * d
section
variable {P : Program} {w : World} {K : PySem.W.Frag} {mg : Str → Option Value} {base : Heap}
/-- what Ratio.of hands back of a number -/
theorem of_num {C CI : Addr} {H : Hp} {v : V} {a b : Int} {Q : VK} {E : XK} (h : NumV C H v a b) (k : GotR C H Q a b) : spOf C CI [.ref C, v] H Q E := by
  rcases h with ⟨rfl, rfl⟩ | ⟨p, rfl, r⟩
  · exact ⟨_, rfl, .inl ⟨a, rfl, k⟩⟩
  · exact ⟨_, rfl, .inr (.inl ⟨p, a, b, rfl, r, fun H' s => k p H' s (r.same s)⟩)⟩
theorem ok_add (T : Txt K mg) : FnOk P w K mg base CX0 6 T.f_Ratio_add_d T.d_Ratio_add_d ["self", "other"] (spBin T.C_Ratio gAdd gDen) := by
  obtain ⟨its2, kb2⟩ := kb_init2 T
  have kbo := Binds.kbn T.B_Ratio_of (n := 2) rfl
  have M : Mk K T.C_Ratio T.f_Ratio_init_d := ⟨T.mk_Ratio, T.m_Ratio_init_d.at_, T.m_Ratio_init_d.fn, T.kp_Ratio⟩
  refine T.F_Ratio_add_d.ok sc_Ratio_add_d (fun vs H Q E ⟨_, _, _, _, _, _, e, _⟩ => by rw [e]; rfl) (fun cdv A outer s H vs Q E hr h => ?_)
  obtain ⟨p, v, a, b, c, d, rfl, hp, hv, ba, bb, bc, bd, b0, d0, fin⟩ := h
  refine ⟨_, pss_cons (ps_if (pt_not (pt_val (pe_f (E := fun _ => E0) (ok_num T) (hr.mono (by decide)) (by rfl) T.g_is_number T.F_is_number.kp T.B_is_number (fun _ => at0) (pa_cons (pv 1) pa_nil)))) pss_never pss_nil)
    (pss_cons (ps_set (i := 2) sc_Ratio_add_d.nd rfl (.inl rfl) (pe_cmP (n := 1) (E := fun _ => E0) (pe_glob (v := .ref T.C_Ratio) (by rfl) T.g_Ratio rfl) T.rd_Ratio T.cm_Ratio_of (ok_of T) (hr.mono (by decide)) kbo (fun _ => atL) (pa_cons (pv 1) pa_nil)))
    (pss_one (ps_ret (pe_mkP (n := 2) (E := fun _ => E0) M (ok_init T) (hr.mono (by decide)) (by rfl) T.g_Ratio kb2 (fun _ => atL) (pa_cons (pe_op op_add (pe_op op_mulW (pe_fld (pv 0) rfl) (pe_fld (pv 2) rfl)) (pe_op op_mulW (pe_fld (pv 2) rfl) (pe_fld (pv 0) rfl))) (pa_cons (pe_op op_mulW (pe_fld (pv 0) rfl) (pe_fld (pv 2) rfl)) pa_nil)))))), ?_⟩
  refine ⟨_, rfl, v, true, rfl, hv.num, fun H1 s1 => ⟨true, rfl, iteF ?_⟩⟩
  refine ⟨rfl, _, rfl, rfl, of_num (hv.same s1) fun q H2 s2 hq => ?_⟩
  obtain ⟨dx, e⟩ := hp.same (s1.trans s2)
  obtain ⟨dy, e2⟩ := hq
  refine ⟨_, rfl, p, _, dx, _, _, rfl, e, T.cl_Ratio, T.n_Ratio_top, rfs_top a b, _, rfl, q, _, dy, _, _, rfl, e2, T.cl_Ratio, T.n_Ratio_bottom, rfs_bot c d, _, _, rfl, rfl, bd_mulW ba bd, ?_⟩
  refine ⟨_, rfl, q, _, dy, _, _, rfl, e2, T.cl_Ratio, T.n_Ratio_top, rfs_top c d, _, rfl, p, _, dx, _, _, rfl, e, T.cl_Ratio, T.n_Ratio_bottom, rfs_bot a b, _, _, rfl, rfl, bd_mulW bc bb, _, _, rfl, rfl, ?_⟩
  refine ⟨_, rfl, p, _, dx, _, _, rfl, e, T.cl_Ratio, T.n_Ratio_bottom, rfs_bot a b, _, rfl, q, _, dy, _, _, rfl, e2, T.cl_Ratio, T.n_Ratio_bottom, rfs_bot c d, _, _, rfl, rfl, bd_mulW bb bd, rfl, fun m dm nm ndm _ => made_at (bd_8000 (bd_mul bb bd)) (Int.mul_ne_zero (by omega) (by omega)) nm ndm fun H3 s3 hm => ⟨rfl, fin m H3 ((s1.trans s2).trans s3) hm⟩⟩
theorem ok_sub (T : Txt K mg) : FnOk P w K mg base CX0 6 T.f_Ratio_sub_d T.d_Ratio_sub_d ["self", "other"] (spBin T.C_Ratio gSub gDen) := by
  obtain ⟨its2, kb2⟩ := kb_init2 T
  have kbo := Binds.kbn T.B_Ratio_of (n := 2) rfl
  have M : Mk K T.C_Ratio T.f_Ratio_init_d := ⟨T.mk_Ratio, T.m_Ratio_init_d.at_, T.m_Ratio_init_d.fn, T.kp_Ratio⟩
  refine T.F_Ratio_sub_d.ok sc_Ratio_sub_d (fun vs H Q E ⟨_, _, _, _, _, _, e, _⟩ => by rw [e]; rfl) (fun cdv A outer s H vs Q E hr h => ?_)
  obtain ⟨p, v, a, b, c, d, rfl, hp, hv, ba, bb, bc, bd, b0, d0, fin⟩ := h
  refine ⟨_, pss_cons (ps_if (pt_not (pt_val (pe_f (E := fun _ => E0) (ok_num T) (hr.mono (by decide)) (by rfl) T.g_is_number T.F_is_number.kp T.B_is_number (fun _ => at0) (pa_cons (pv 1) pa_nil)))) pss_never pss_nil)
    (pss_cons (ps_set (i := 2) sc_Ratio_sub_d.nd rfl (.inl rfl) (pe_cmP (n := 1) (E := fun _ => E0) (pe_glob (v := .ref T.C_Ratio) (by rfl) T.g_Ratio rfl) T.rd_Ratio T.cm_Ratio_of (ok_of T) (hr.mono (by decide)) kbo (fun _ => atL) (pa_cons (pv 1) pa_nil)))
    (pss_one (ps_ret (pe_mkP (n := 2) (E := fun _ => E0) M (ok_init T) (hr.mono (by decide)) (by rfl) T.g_Ratio kb2 (fun _ => atL) (pa_cons (pe_op op_sub (pe_op op_mulW (pe_fld (pv 0) rfl) (pe_fld (pv 2) rfl)) (pe_op op_mulW (pe_fld (pv 2) rfl) (pe_fld (pv 0) rfl))) (pa_cons (pe_op op_mulW (pe_fld (pv 0) rfl) (pe_fld (pv 2) rfl)) pa_nil)))))), ?_⟩
  refine ⟨_, rfl, v, true, rfl, hv.num, fun H1 s1 => ⟨true, rfl, iteF ?_⟩⟩
  refine ⟨rfl, _, rfl, rfl, of_num (hv.same s1) fun q H2 s2 hq => ?_⟩
  obtain ⟨dx, e⟩ := hp.same (s1.trans s2)
  obtain ⟨dy, e2⟩ := hq
  refine ⟨_, rfl, p, _, dx, _, _, rfl, e, T.cl_Ratio, T.n_Ratio_top, rfs_top a b, _, rfl, q, _, dy, _, _, rfl, e2, T.cl_Ratio, T.n_Ratio_bottom, rfs_bot c d, _, _, rfl, rfl, bd_mulW ba bd, ?_⟩
  refine ⟨_, rfl, q, _, dy, _, _, rfl, e2, T.cl_Ratio, T.n_Ratio_top, rfs_top c d, _, rfl, p, _, dx, _, _, rfl, e, T.cl_Ratio, T.n_Ratio_bottom, rfs_bot a b, _, _, rfl, rfl, bd_mulW bc bb, _, _, rfl, rfl, ?_⟩
  refine ⟨_, rfl, p, _, dx, _, _, rfl, e, T.cl_Ratio, T.n_Ratio_bottom, rfs_bot a b, _, rfl, q, _, dy, _, _, rfl, e2, T.cl_Ratio, T.n_Ratio_bottom, rfs_bot c d, _, _, rfl, rfl, bd_mulW bb bd, rfl, fun m dm nm ndm _ => made_at (bd_8000 (bd_mul bb bd)) (Int.mul_ne_zero (by omega) (by omega)) nm ndm fun H3 s3 hm => ⟨rfl, fin m H3 ((s1.trans s2).trans s3) hm⟩⟩
theorem ok_mul (T : Txt K mg) : FnOk P w K mg base CX0 6 T.f_Ratio_mul_d T.d_Ratio_mul_d ["self", "other"] (spBin T.C_Ratio gMul gDen) := by
  obtain ⟨its2, kb2⟩ := kb_init2 T
  have kbo := Binds.kbn T.B_Ratio_of (n := 2) rfl
  have M : Mk K T.C_Ratio T.f_Ratio_init_d := ⟨T.mk_Ratio, T.m_Ratio_init_d.at_, T.m_Ratio_init_d.fn, T.kp_Ratio⟩
  refine T.F_Ratio_mul_d.ok sc_Ratio_mul_d (fun vs H Q E ⟨_, _, _, _, _, _, e, _⟩ => by rw [e]; rfl) (fun cdv A outer s H vs Q E hr h => ?_)
  obtain ⟨p, v, a, b, c, d, rfl, hp, hv, ba, bb, bc, bd, b0, d0, fin⟩ := h
  refine ⟨_, pss_cons (ps_if (pt_not (pt_val (pe_f (E := fun _ => E0) (ok_num T) (hr.mono (by decide)) (by rfl) T.g_is_number T.F_is_number.kp T.B_is_number (fun _ => at0) (pa_cons (pv 1) pa_nil)))) pss_never pss_nil)
    (pss_cons (ps_set (i := 2) sc_Ratio_mul_d.nd rfl (.inl rfl) (pe_cmP (n := 1) (E := fun _ => E0) (pe_glob (v := .ref T.C_Ratio) (by rfl) T.g_Ratio rfl) T.rd_Ratio T.cm_Ratio_of (ok_of T) (hr.mono (by decide)) kbo (fun _ => atL) (pa_cons (pv 1) pa_nil)))
    (pss_one (ps_ret (pe_mkP (n := 2) (E := fun _ => E0) M (ok_init T) (hr.mono (by decide)) (by rfl) T.g_Ratio kb2 (fun _ => atL) (pa_cons (pe_op op_mulW (pe_fld (pv 0) rfl) (pe_fld (pv 2) rfl)) (pa_cons (pe_op op_mulW (pe_fld (pv 0) rfl) (pe_fld (pv 2) rfl)) pa_nil)))))), ?_⟩
  refine ⟨_, rfl, v, true, rfl, hv.num, fun H1 s1 => ⟨true, rfl, iteF ?_⟩⟩
  refine ⟨rfl, _, rfl, rfl, of_num (hv.same s1) fun q H2 s2 hq => ?_⟩
  obtain ⟨dx, e⟩ := hp.same (s1.trans s2)
  obtain ⟨dy, e2⟩ := hq
  refine ⟨_, rfl, p, _, dx, _, _, rfl, e, T.cl_Ratio, T.n_Ratio_top, rfs_top a b, _, rfl, q, _, dy, _, _, rfl, e2, T.cl_Ratio, T.n_Ratio_top, rfs_top c d, _, _, rfl, rfl, bd_mulW ba bc, ?_⟩
  refine ⟨_, rfl, p, _, dx, _, _, rfl, e, T.cl_Ratio, T.n_Ratio_bottom, rfs_bot a b, _, rfl, q, _, dy, _, _, rfl, e2, T.cl_Ratio, T.n_Ratio_bottom, rfs_bot c d, _, _, rfl, rfl, bd_mulW bb bd, rfl, fun m dm nm ndm _ => made_at (bd_8000 (bd_mul bb bd)) (Int.mul_ne_zero (by omega) (by omega)) nm ndm fun H3 s3 hm => ⟨rfl, fin m H3 ((s1.trans s2).trans s3) hm⟩⟩
/-- over, //: the quotient (a d) / (b c) -/
def spOver (C CI : Addr) : Sp := fun vs H Q E => ∃ (p : Addr) (v : V) (a b c d : Int), vs = [.ref p, v] ∧ RatAt C H p a b ∧ NumV C H v c d ∧ Bd a ∧ Bd b ∧ Bd c ∧ Bd d ∧ 0 < b ∧ 0 < d ∧
  (c ≠ 0 → GotR C H Q (lo1 (a * d) (b * c)) (lo2 (a * d) (b * c))) ∧ (c = 0 → Bad CI (.int 0) H E)
def flr (a b c d : Int) : Int := (lo1 (a * d) (b * c)).fdiv (lo2 (a * d) (b * c))
def spFdiv (C CI : Addr) : Sp := fun vs H Q E => ∃ (p : Addr) (v : V) (a b c d : Int), vs = [.ref p, v] ∧ RatAt C H p a b ∧ NumV C H v c d ∧ Bd a ∧ Bd b ∧ Bd c ∧ Bd d ∧ 0 < b ∧ 0 < d ∧
  (c ≠ 0 → ∀ H', Same H H' → Q (.int (flr a b c d)) H') ∧ (c = 0 → Bad CI (.int 0) H E)
theorem ok_over (T : Txt K mg) : FnOk P w K mg base (L2.CX P w) 6 T.f_Ratio_over T.d_Ratio_over ["self", "other"] (spOver T.C_Ratio T.C_InvalidNumber) := by
  obtain ⟨its2, kb2⟩ := kb_init2 T
  have kbo := Binds.kbn T.B_Ratio_of (n := 2) rfl
  have M : Mk K T.C_Ratio T.f_Ratio_init_d := ⟨T.mk_Ratio, T.m_Ratio_init_d.at_, T.m_Ratio_init_d.fn, T.kp_Ratio⟩
  refine T.F_Ratio_over.okX sc_Ratio_over (fun vs H Q E ⟨_, _, _, _, _, _, e, _⟩ => by rw [e]; rfl) (fun cdv A outer s H vs Q E hr h => ?_)
  obtain ⟨p, v, a, b, c, d, rfl, hp, hv, ba, bb, bc, bd, b0, d0, k1, k0⟩ := h
  refine ⟨_, pss_cons (ps_set (i := 2) sc_Ratio_over.nd rfl (.inl rfl) (pe_cmP (n := 1) (E := fun _ => E0) (pe_glob (v := .ref T.C_Ratio) (by rfl) T.g_Ratio rfl) T.rd_Ratio T.cm_Ratio_of (ok_of T) (hr.mono (by decide)) kbo (fun _ => atL) (pa_cons (pv 1) pa_nil)))
    (pss_one (ps_ret (pe_mkP (n := 2) (E := WE fun cls d _ H' => E cls d H') M (ok_init T) (hr.mono (by decide)) (by rfl) T.g_Ratio kb2 (fun σ => passAt (takes_of rfl rfl rfl rfl) σ) (pa_cons (pe_op op_mulW (pe_fld (pv 0) rfl) (pe_fld (pv 2) rfl)) (pa_cons (pe_op op_mulW (pe_fld (pv 0) rfl) (pe_fld (pv 2) rfl)) pa_nil))))), ?_⟩
  refine ⟨rfl, _, rfl, rfl, of_num hv fun q H2 s2 hq => ?_⟩
  obtain ⟨dx, e⟩ := hp.same s2
  obtain ⟨dy, e2⟩ := hq
  refine ⟨_, rfl, p, _, dx, _, _, rfl, e, T.cl_Ratio, T.n_Ratio_top, rfs_top a b, _, rfl, q, _, dy, _, _, rfl, e2, T.cl_Ratio, T.n_Ratio_bottom, rfs_bot c d, _, _, rfl, rfl, bd_mulW ba bd, ?_⟩
  refine ⟨_, rfl, p, _, dx, _, _, rfl, e, T.cl_Ratio, T.n_Ratio_bottom, rfs_bot a b, _, rfl, q, _, dy, _, _, rfl, e2, T.cl_Ratio, T.n_Ratio_top, rfs_top c d, _, _, rfl, rfl, bd_mulW bb bc, rfl, fun m dm nm ndm _ => ?_⟩
  by_cases z : c = 0
  · have zz : b * c = 0 := by rw [z, Int.mul_zero]
    show spInit _ _ [.ref m, .int (a * d), .int (b * c)] _ _ _
    rw [zz]
    exact made_bad (fun d' H' s' e' => k0 z d' H' (s2.trans s') e') nm ndm
  · exact made_at (bd_8000 (bd_mul bb bc)) (Int.mul_ne_zero (by omega) z) nm ndm fun H3 s3 hm => ⟨rfl, k1 z m H3 (s2.trans s3) hm⟩
/-- %: below 2 ^ 200 -/
def Bq (i : Int) : Prop := i.natAbs < 2 ^ 200
theorem bq_bd {i : Int} (h : Bq i) : Bd i := Nat.lt_trans h (Nat.pow_lt_pow_right (by decide) (by decide))
theorem bq_mul {i j : Int} (hi : Bq i) (hj : Bq j) : (i * j).natAbs < 2 ^ 400 := wide_lt hi hj
theorem flr_le {a b c d : Int} (ha : Bq a) (hd : Bq d) (nz : b * c ≠ 0) : (flr a b c d).natAbs < 2 ^ 400 := by
  have p2 := lo2_pos (u := a * d) nz
  unfold flr
  rw [Int.fdiv_eq_ediv_of_nonneg _ (by omega)]
  exact Nat.lt_of_le_of_lt (Nat.le_trans (Int.natAbs_ediv_le_natAbs _ _) lo1_le) (bq_mul ha hd)
theorem bd_lt {i : Int} {n : Nat} (h : i.natAbs < 2 ^ n) (hn : n < 2000) : Bd i := Nat.lt_trans h (Nat.pow_lt_pow_right (by decide) hn)
def spMod (C CI : Addr) : Sp := fun vs H Q E => ∃ (p : Addr) (v : V) (a b c d : Int), vs = [.ref p, v] ∧ RatAt C H p a b ∧ NumV C H v c d ∧ Bq a ∧ Bq b ∧ Bq c ∧ Bq d ∧ 0 < b ∧ 0 < d ∧
  (c ≠ 0 → GotR C H Q (lo1 (a * d - flr a b c d * c * b) (b * d)) (lo2 (a * d - flr a b c d * c * b) (b * d))) ∧ (c = 0 → Bad CI (.int 0) H E)
end

/-! ### the laws' numbers: an int or a ratio, beside its terms -/
theorem pair_len (a b : Int) : (PyData.tuple [.int a, .int b]).shown.length = (tx a).length + (tx b).length + 4 := by
  have h := join_length_add [tx a, tx b] (by simp)
  have e : (PyData.tuple [.int a, .int b]).shown = ("(" : Str) ++ Str.join ", " [tx a, tx b] ++ ((")" : String) : Str) := rfl
  have l1 : ("(" : Str).length = 1 := by decide +kernel
  have l2 : (((")" : String) : Str)).length = 1 := by decide +kernel
  rw [e, str_len, str_len, l1, l2]
  simp [piled] at h
  omega
theorem sm_2000 {i : Int} (h : i.natAbs < 2 ^ 1900) : Sm i := Nat.lt_of_lt_of_le (PySem.Flt.log2_lt_of (by decide) h) (by decide)
/-- terms as the laws draw them -/
structure Tm (a b : Int) : Prop where
  b0 : 0 < b
  b1 : b ≤ 1000
  a1 : a.natAbs ≤ 1000000000
  cp : Nat.gcd a.natAbs b.natAbs = 1
def spNumb (C : Addr) : Sp := fun vs H Q _ => ∃ p : Addr, vs = [.ref p] ∧ BoxAt H p ∧ ∀ t t2 v a b H', Tm a b → NumV C H' v a b → H' t = some (.tup [v, .ref t2]) → H' t2 = some (.tup [.int a, .int b]) → BoxAt H' p → But p H H' → Q (.ref t) H'
/-- found is a ratio with these terms (told by their texts) -/
def spIsR (C : Addr) : Sp := fun vs H Q _ => ∃ (p t : Addr) (a b : Int), vs = [.ref p, .ref t] ∧ RatAt C H p a b ∧ H t = some (.tup [.int a, .int b]) ∧ Sm a ∧ Sm b ∧ ∀ H', Same H H' → Q (.bl true) H'
theorem NumV.but {C p : Addr} {H H' : Hp} {v : V} {a b : Int} (h : NumV C H v a b) (hb : BoxAt H p) (k : But p H H') : NumV C H' v a b := by
  rcases h with h | ⟨q, e, dx, r⟩
  · exact .inl h
  · refine .inr ⟨q, e, dx, k _ _ (fun z => ?_) r⟩
    obtain ⟨_, _, _, y, _⟩ := hb
    rw [z, y] at r
    cases r
theorem RatAt.but {C p q : Addr} {H H' : Hp} {a b : Int} (h : RatAt C H q a b) (hb : BoxAt H p) (k : But p H H') : RatAt C H' q a b := by
  rcases NumV.but (v := .ref q) (.inr ⟨q, rfl, h⟩) hb k with ⟨e, _⟩ | ⟨q', e, r⟩
  · cases e
  · cases e; exact r
theorem tup_but {t p : Addr} {H H' : Hp} {xs : List V} (h : H t = some (.tup xs)) (hb : BoxAt H p) (k : But p H H') : H' t = some (.tup xs) := by
  refine k _ _ (fun z => ?_) h
  obtain ⟨_, _, _, y, _⟩ := hb
  rw [z, y] at h
  cases h
section
variable {P : Program} {w : World} {K : PySem.W.Frag} {mg : Str → Option Value} {base : Heap}
end

/-! ### the order, the signs, the reflected operators -/
/-- what an operator compares: the cross products -/
abbrev Rel := Int → Int → Prop
def spLead (C : Addr) : Sp := fun vs H Q _ => ∃ (p : Addr) (v : V) (a b c d : Int), vs = [.ref p, v] ∧ RatAt C H p a b ∧ NumV C H v c d ∧ Bd a ∧ Bd b ∧ Bd c ∧ Bd d ∧ ∀ H', Same H H' → Q (.int (a * d - c * b)) H'
def spCmp (C : Addr) (R : Rel) : Sp := fun vs H Q _ => ∃ (p : Addr) (v : V) (a b c d : Int) (r : Bool), vs = [.ref p, v] ∧ RatAt C H p a b ∧ NumV C H v c d ∧ Bd a ∧ Bd b ∧ Bd c ∧ Bd d ∧ (r = true ↔ R (a * d) (c * b)) ∧ ∀ H', Same H H' → Q (.bl r) H'
/-- == and !=: anything on the right -/
def spEqn (C : Addr) (n : Bool) : Sp := fun vs H Q _ => ∃ (p : Addr) (v : V) (a b : Int) (r : Bool), vs = [.ref p, v] ∧ RatAt C H p a b ∧
  ((∃ c d, NumV C H v c d ∧ Bd a ∧ Bd b ∧ Bd c ∧ Bd d ∧ (r = true ↔ a * d = c * b)) ∨ (NumB C H v false ∧ r = false)) ∧ ∀ H', Same H H' → Q (.bl (r != n)) H'
def spNeg (C : Addr) : Sp := fun vs H Q _ => ∃ (p : Addr) (a b : Int), vs = [.ref p] ∧ RatAt C H p a b ∧ b ≠ 0 ∧ b.natAbs < 2 ^ 8000 ∧ GotR C H Q (lo1 (-a) b) (lo2 (-a) b)
def spAbs (C : Addr) : Sp := fun vs H Q _ => ∃ (p : Addr) (a b : Int), vs = [.ref p] ∧ RatAt C H p a b ∧ b ≠ 0 ∧ b.natAbs < 2 ^ 8000 ∧ GotR C H Q (lo1 (a.natAbs : Int) b) (lo2 (a.natAbs : Int) b)
def gRsub (a b c d : Int) : Int := -a * d + c * b
theorem rel_of {b : Bool} {p : Prop} [Decidable p] (h : b = true ↔ p) : decide p = b := by
  cases b
  · exact decide_eq_false (fun z => by have := h.mpr z; cases this)
  · exact decide_eq_true (h.mp rfl)
section
variable {P : Program} {w : World} {K : PySem.W.Frag} {mg : Str → Option Value} {base : Heap}
theorem besides (T : Txt K mg) : Besides K T.C_Ratio := by
  refine ⟨fun t h => ?_, fun t h => ?_⟩ <;> simp only [List.mem_cons, List.not_mem_nil, or_false] at h
  · rcases h with rfl | rfl | rfl | rfl | rfl
    · exact T.st_Ratio_int
    · exact T.st_Ratio_bool
    · exact T.st_Ratio_str
    · exact T.st_Ratio_NoneType
    · exact T.st_Ratio_tuple
  · rcases h with rfl | rfl | rfl | rfl | rfl
    · exact T.su_Ratio_int
    · exact T.su_Ratio_bool
    · exact T.su_Ratio_str
    · exact T.su_Ratio_NoneType
    · exact T.su_Ratio_tuple
theorem ok_lead (T : Txt K mg) : FnOk P w K mg base CX0 6 T.f_lead T.d_lead ["one", "other"] (spLead T.C_Ratio) := by
  refine T.F_lead.ok sc_lead (fun vs H Q E ⟨_, _, _, _, _, _, e, _⟩ => by rw [e]; rfl) (fun cdv A outer s H vs Q E hr h => ?_)
  obtain ⟨p, v, a, b, c, d, rfl, hp, hv, ba, bb, bc, bd, fin⟩ := h
  refine ⟨_, pss_cons (ps_if (pt_val (pe_callB call_isi (by rfl) T.b_isinstance (by decide +kernel) (pa_cons (pv 1) (pa_cons (pe_glob (v := .ref T.C_Ratio) (by rfl) T.g_Ratio rfl) pa_nil)))) (pss_one (ps_ret (pe_op op_sub (pe_op op_mulW (pe_fld (pv 0) rfl) (pe_fld (pv 1) rfl)) (pe_op op_mulW (pe_fld (pv 1) rfl) (pe_fld (pv 0) rfl))))) pss_nil)
    (pss_one (ps_ret (pe_op op_sub (pe_fld (pv 0) rfl) (pe_op op_mulW (pv 1) (pe_fld (pv 0) rfl))))), ?_⟩
  obtain ⟨dx, e⟩ := id hp
  rcases hv with ⟨rfl, rfl⟩ | ⟨q, rfl, dy, e2⟩
  · refine ⟨_, rfl, _, _, .type "int", _, false, rfl, .own _, .base (.int c), kit_ref T.tc_Ratio T.st_Ratio_int, false, rfl, iteF ?_⟩
    have h := fin H (Same.refl _)
    rw [Int.mul_one] at h
    exact ⟨_, rfl, p, _, dx, _, _, rfl, e, T.cl_Ratio, T.n_Ratio_top, rfs_top a b, _, rfl, _, rfl, p, _, dx, _, _, rfl, e, T.cl_Ratio, T.n_Ratio_bottom, rfs_bot a b, _, _, rfl, rfl, bd_mulW bc bb, _, _, rfl, rfl, h⟩
  · refine ⟨_, rfl, _, _, .ref T.C_Ratio, _, true, rfl, .own _, tyx_ins T.cl_Ratio T.tc_Ratio e2, kit_self, true, rfl, iteT ?_⟩
    exact ⟨_, rfl, p, _, dx, _, _, rfl, e, T.cl_Ratio, T.n_Ratio_top, rfs_top a b, _, rfl, q, _, dy, _, _, rfl, e2, T.cl_Ratio, T.n_Ratio_bottom, rfs_bot c d, _, _, rfl, rfl, bd_mulW ba bd,
      _, rfl, q, _, dy, _, _, rfl, e2, T.cl_Ratio, T.n_Ratio_top, rfs_top c d, _, rfl, p, _, dx, _, _, rfl, e, T.cl_Ratio, T.n_Ratio_bottom, rfs_bot a b, _, _, rfl, rfl, bd_mulW bc bb, _, _, rfl, rfl, fin _ (Same.refl _)⟩
theorem ok_le (T : Txt K mg) : FnOk P w K mg base CX0 7 T.f_Ratio_le_d T.d_Ratio_le_d ["self", "other"] (spCmp T.C_Ratio fun x y => x ≤ y) := by
  refine T.F_Ratio_le_d.ok sc_Ratio_le_d (fun vs H Q E ⟨_, _, _, _, _, _, _, e, _⟩ => by rw [e]; rfl) (fun cdv A outer s H vs Q E hr h => ?_)
  obtain ⟨p, v, a, b, c, d, r, rfl, hp, hv, ba, bb, bc, bd, hR, fin⟩ := h
  refine ⟨_, pss_cons (ps_if (pt_not (pt_val (pe_f (E := fun _ => E0) (ok_num T) (hr.mono (by decide)) (by rfl) T.g_is_number T.F_is_number.kp T.B_is_number (fun _ => at0) (pa_cons (pv 1) pa_nil)))) pss_never pss_nil)
    (pss_one (ps_ret (pe_cmpR op_le (pe_f (E := fun _ => E0) (ok_lead T) hr (by rfl) T.g_lead T.F_lead.kp T.B_lead (fun _ => at0) (pa_cons (pv 0) (pa_cons (pv 1) pa_nil))) pe_int (nomark _)))), ?_⟩
  refine ⟨_, rfl, v, true, rfl, hv.num, fun H1 s1 => ⟨true, rfl, iteF ?_⟩⟩
  refine ⟨_, rfl, _, rfl, p, v, a, b, c, d, rfl, hp.same s1, hv.same s1, ba, bb, bc, bd, fun H2 s2 => ⟨_, _, rfl, rfl, ?_⟩⟩
  have e : decide (a * d - c * b ≤ 0) = r := rel_of (by rw [hR]; omega)
  show Q (.bl (decide (a * d - c * b ≤ 0))) H2
  rw [e]
  exact fin _ (s1.trans s2)
theorem ok_ge (T : Txt K mg) : FnOk P w K mg base CX0 7 T.f_Ratio_ge_d T.d_Ratio_ge_d ["self", "other"] (spCmp T.C_Ratio fun x y => y ≤ x) := by
  refine T.F_Ratio_ge_d.ok sc_Ratio_ge_d (fun vs H Q E ⟨_, _, _, _, _, _, _, e, _⟩ => by rw [e]; rfl) (fun cdv A outer s H vs Q E hr h => ?_)
  obtain ⟨p, v, a, b, c, d, r, rfl, hp, hv, ba, bb, bc, bd, hR, fin⟩ := h
  refine ⟨_, pss_cons (ps_if (pt_not (pt_val (pe_f (E := fun _ => E0) (ok_num T) (hr.mono (by decide)) (by rfl) T.g_is_number T.F_is_number.kp T.B_is_number (fun _ => at0) (pa_cons (pv 1) pa_nil)))) pss_never pss_nil)
    (pss_one (ps_ret (pe_cmpR op_ge (pe_f (E := fun _ => E0) (ok_lead T) hr (by rfl) T.g_lead T.F_lead.kp T.B_lead (fun _ => at0) (pa_cons (pv 0) (pa_cons (pv 1) pa_nil))) pe_int (nomark _)))), ?_⟩
  refine ⟨_, rfl, v, true, rfl, hv.num, fun H1 s1 => ⟨true, rfl, iteF ?_⟩⟩
  refine ⟨_, rfl, _, rfl, p, v, a, b, c, d, rfl, hp.same s1, hv.same s1, ba, bb, bc, bd, fun H2 s2 => ⟨_, _, rfl, rfl, ?_⟩⟩
  have e : decide (0 ≤ a * d - c * b) = r := rel_of (by rw [hR]; omega)
  show Q (.bl (decide (0 ≤ a * d - c * b))) H2
  rw [e]
  exact fin _ (s1.trans s2)
theorem ok_eq (T : Txt K mg) : FnOk P w K mg base CX0 7 T.f_Ratio_eq_d T.d_Ratio_eq_d ["self", "other"] (spEqn T.C_Ratio false) := by
  refine T.F_Ratio_eq_d.ok sc_Ratio_eq_d (fun vs H Q E ⟨_, _, _, _, _, e, _⟩ => by rw [e]; rfl) (fun cdv A outer s H vs Q E hr h => ?_)
  obtain ⟨p, v, a, b, r, rfl, hp, hv, fin⟩ := h
  refine ⟨_, pss_one (ps_ret (pe_and (pe_f (E := fun _ => E0) (ok_num T) (hr.mono (by decide)) (by rfl) T.g_is_number T.F_is_number.kp T.B_is_number (fun _ => at0) (pa_cons (pv 1) pa_nil))
    (pe_one (pe_cmpR op_eq (pe_f (E := fun _ => E0) (ok_lead T) hr (by rfl) T.g_lead T.F_lead.kp T.B_lead (fun _ => at0) (pa_cons (pv 0) (pa_cons (pv 1) pa_nil))) pe_int (nomark _))))), ?_⟩
  have rn : (r != false) = r := by cases r <;> rfl
  rw [rn] at fin
  rcases hv with ⟨c, d, hv, ba, bb, bc, bd, hR⟩ | ⟨hv, rfl⟩
  · refine ⟨_, rfl, v, true, rfl, hv.num, fun H1 s1 => ⟨true, rfl, iteT ?_⟩⟩
    refine ⟨_, rfl, _, rfl, p, v, a, b, c, d, rfl, hp.same s1, hv.same s1, ba, bb, bc, bd, fun H2 s2 => ⟨rfl, ?_⟩⟩
    have e : decide (V.int (a * d - c * b) = V.int 0) = r := rel_of (by rw [hR, V.int.injEq]; omega)
    show Q (.bl (decide (V.int (a * d - c * b) = V.int 0))) H2
    rw [e]
    exact fin _ (s1.trans s2)
  · exact ⟨_, rfl, v, false, rfl, hv, fun H1 s1 => ⟨false, rfl, iteF (fin _ s1)⟩⟩
theorem side_num {C : Addr} {H : Hp} {v : V} {c d : Int} (h : NumV C H v c d) : (∃ T, Side K C H v T) ∨ ∃ b dy gs, v = .ref b ∧ H b = some (.ins C dy gs) := by
  rcases h with ⟨rfl, _⟩ | ⟨q, rfl, dy, r⟩
  · exact .inl ⟨_, .int _⟩
  · exact .inr ⟨q, dy, _, rfl, r⟩
theorem side_not {C : Addr} {H : Hp} {v : V} (h : NumB C H v false) : ∃ T, Side K C H v T := by
  rcases h with ⟨z, _⟩ | ⟨_, ⟨x, rfl⟩ | ⟨x, rfl⟩ | rfl | ⟨q, xs, rfl, e⟩⟩
  · cases z
  · exact ⟨_, .bl _⟩
  · exact ⟨_, .str _⟩
  · exact ⟨_, .non⟩
  · exact ⟨_, .tup (SqT.of e)⟩
theorem ok_ne (T : Txt K mg) : FnOk P w K mg base CX0 8 T.f_Ratio_ne_d T.d_Ratio_ne_d ["self", "other"] (spEqn T.C_Ratio true) := by
  refine T.F_Ratio_ne_d.ok sc_Ratio_ne_d (fun vs H Q E ⟨_, _, _, _, _, e, _⟩ => by rw [e]; rfl) (fun cdv A outer s H vs Q E hr h => ?_)
  obtain ⟨p, v, a, b, r, rfl, hp, hv, fin⟩ := h
  refine ⟨_, pss_one (ps_ret (pe_not (pe_cmpR (opr_cmp (op := .Eq) (E := E0) (fun _ _ => rfl) (besides T) T.m_Ratio_eq_d (ok_eq T) hr T.B_Ratio_eq_d (fun _ => at0)) (pv 0) (pv 1) (nomark _)))), ?_⟩
  obtain ⟨dx, e⟩ := id hp
  have sd : (∃ t, Side K T.C_Ratio H v t) ∨ ∃ b dy gs, v = .ref b ∧ H b = some (.ins T.C_Ratio dy gs) := by
    rcases hv with ⟨c, d, hv, _⟩ | ⟨hv, _⟩
    · exact side_num hv
    · exact .inl (side_not hv)
  refine ⟨_, rfl, _, rfl, p, dx, _, rfl, e, sd, p, v, a, b, r, rfl, hp, hv, fun H1 s1 => ⟨_, rfl, ?_⟩⟩
  have := fin _ s1
  cases r <;> exact this
theorem ok_abs (T : Txt K mg) : FnOk P w K mg base CX0 5 T.f_Ratio_abs_d T.d_Ratio_abs_d ["self"] (spAbs T.C_Ratio) := by
  obtain ⟨its2, kb2⟩ := kb_init2 T
  have M : Mk K T.C_Ratio T.f_Ratio_init_d := ⟨T.mk_Ratio, T.m_Ratio_init_d.at_, T.m_Ratio_init_d.fn, T.kp_Ratio⟩
  refine T.F_Ratio_abs_d.ok sc_Ratio_abs_d (fun vs H Q E ⟨_, _, _, e, _⟩ => by rw [e]; rfl) (fun cdv A outer s H vs Q E hr h => ?_)
  obtain ⟨p, a, b, rfl, ⟨dx, e⟩, nz, bl, fin⟩ := h
  refine ⟨_, pss_one (ps_ret (pe_mkP (n := 2) (E := fun _ => E0) M (ok_init T) hr (by rfl) T.g_Ratio kb2 (fun _ => atL) (pa_cons (pe_callB call_abs (by rfl) T.b_abs (by decide +kernel) (pa_cons (pe_fld (pv 0) rfl) pa_nil)) (pa_cons (pe_fld (pv 0) rfl) pa_nil)))), ?_⟩
  refine ⟨_, rfl, p, _, dx, _, _, rfl, e, T.cl_Ratio, T.n_Ratio_top, rfs_top a b, _, rfl, _, rfl, p, _, dx, _, _, rfl, e, T.cl_Ratio, T.n_Ratio_bottom, rfs_bot a b, rfl, fun m dm nm ndm _ => made_at bl nz nm ndm fun H3 s3 hm => ⟨rfl, ?_⟩⟩
  rw [abs_if] at hm
  exact fin m H3 s3 hm
end

/-! ### pools -/
def Bn (k : Nat) (i : Int) : Prop := i.natAbs < 2 ^ k
theorem Bn.mul {j k : Nat} {x y : Int} (hx : Bn j x) (hy : Bn k y) : Bn (j + k) (x * y) := wide_lt hx hy
theorem Bn.mono {j k : Nat} {x : Int} (h : Bn j x) (hk : j ≤ k) : Bn k x := Nat.lt_of_lt_of_le h (Nat.pow_le_pow_right (by decide) hk)
theorem Bn.add {k : Nat} {x y : Int} (hx : Bn k x) (hy : Bn k y) : Bn (k + 1) (x + y) := by
  unfold Bn at *
  have : (2 : Nat) ^ (k + 1) = 2 ^ k + 2 ^ k := by rw [Nat.pow_succ]; omega
  omega
theorem Bn.sub {k : Nat} {x y : Int} (hx : Bn k x) (hy : Bn k y) : Bn (k + 1) (x - y) := by
  unfold Bn at *
  have : (2 : Nat) ^ (k + 1) = 2 ^ k + 2 ^ k := by rw [Nat.pow_succ]; omega
  omega
theorem Bn.bd {k : Nat} {x : Int} (h : Bn k x) (hk : k ≤ 2000) : Bd x := Bn.mono h hk
theorem Bn.le {k : Nat} {x y : Int} (h : Bn k y) (hx : x.natAbs ≤ y.natAbs) : Bn k x := Nat.lt_of_le_of_lt hx h
theorem Bn.abs {k : Nat} {x : Int} (h : Bn k x) : Bn k (x.natAbs : Int) := h
theorem bn2 : Bn 2 2 := by unfold Bn; decide
theorem bn1 : Bn 1 1 := by unfold Bn; decide
/-- the new ratio N / D is U / L -/
def Was (N D U L : Int) : Prop := N * L = U * D ∧ 0 < D ∧ Nat.gcd N.natAbs D.natAbs = 1
theorem was_lo {U L : Int} (nz : L ≠ 0) : Was (lo1 U L) (lo2 U L) U L := ⟨lo_cross nz, lo2_pos nz, lo_cop nz⟩
def pfs (m v : Addr × Addr) : List (Str × V) := [("_middle", V.ref m.1), ("_volume", V.ref v.1), ("_left", V.ref m.2), ("_right", V.ref v.2)]
theorem vm_ne : (("_volume" : Str) == "_middle") = false := by decide +kernel
theorem lm_ne : (("_left" : Str) == "_middle") = false := by decide +kernel
theorem lv_ne : (("_left" : Str) == "_volume") = false := by decide +kernel
theorem rm_ne : (("_right" : Str) == "_middle") = false := by decide +kernel
theorem rv_ne : (("_right" : Str) == "_volume") = false := by decide +kernel
theorem rl_ne : (("_right" : Str) == "_left") = false := by decide +kernel
theorem pfs_mid (m v : Addr × Addr) : (pfs m v).lookup ("_middle" : Str) = some (.ref m.1) := by simp [pfs, List.lookup]
theorem pfs_vol (m v : Addr × Addr) : (pfs m v).lookup ("_volume" : Str) = some (.ref v.1) := by simp [pfs, List.lookup, vm_ne]
theorem pfs_left (m v : Addr × Addr) : (pfs m v).lookup ("_left" : Str) = some (.ref m.2) := by simp [pfs, List.lookup, lm_ne, lv_ne]
theorem pfs_right (m v : Addr × Addr) : (pfs m v).lookup ("_right" : Str) = some (.ref v.2) := by simp [pfs, List.lookup, rm_ne, rv_ne, rl_ne]
theorem look_mid {v : V} {r : List (Str × V)} : ((("_middle" : Str), v) :: r).lookup ("_middle" : Str) = some v := by simp [List.lookup]
/-- an end stands at q -/
def EndAt (C : Addr) (H : Hp) (q : Addr) (U L : Int) : Prop := ∃ N D, RatAt C H q N D ∧ Was N D U L
theorem EndAt.same {C q : Addr} {H H' : Hp} {U L : Int} (h : EndAt C H q U L) (s : Same H H') : EndAt C H' q U L := let ⟨N, D, r, w⟩ := h; ⟨N, D, r.same s, w⟩
/-- at p stands the pool with middle a / b and volume c / d, and its ends -/
def PoolAt (CP C : Addr) (H : Hp) (p : Addr) (a b c d : Int) : Prop := ∃ dx m v, H p = some (.ins CP dx (pfs m v)) ∧ (RatAt C H m.1 a b ∧ EndAt C H m.2 (2 * a * d - c * b) (2 * b * d)) ∧ (RatAt C H v.1 c d ∧ EndAt C H v.2 (2 * a * d + c * b) (2 * b * d))
theorem PoolAt.same {CP C p : Addr} {H H' : Hp} {a b c d : Int} (h : PoolAt CP C H p a b c d) (s : Same H H') : PoolAt CP C H' p a b c d := let ⟨dx, m, v, e, r1, r2⟩ := h; ⟨dx, m, v, s _ _ e, ⟨r1.1.same s, r1.2.same s⟩, ⟨r2.1.same s, r2.2.same s⟩⟩
theorem PoolAt.thru {CP C p : Addr} {H H' : Hp} {a b c d : Int} (h : PoolAt CP C H p a b c d) (go : ∀ {x : Addr} {o : HO}, H x = some o → (∀ ys, o ≠ .lst ys) → H' x = some o) : PoolAt CP C H' p a b c d := by
  obtain ⟨dx, m, v, e, ⟨⟨d1, r1⟩, N, D, ⟨d2, r2⟩, w2⟩, ⟨⟨d3, r3⟩, N', D', ⟨d4, r4⟩, w4⟩⟩ := h
  exact ⟨dx, m, v, go e (fun _ z => nomatch z), ⟨⟨d1, go r1 (fun _ z => nomatch z)⟩, N, D, ⟨d2, go r2 (fun _ z => nomatch z)⟩, w2⟩, ⟨⟨d3, go r3 (fun _ z => nomatch z)⟩, N', D', ⟨d4, go r4 (fun _ z => nomatch z)⟩, w4⟩⟩
/-- lowest terms are not more than other ones -/
theorem low_le {a b X M : Int} (hc : Nat.gcd a.natAbs b.natAbs = 1) (x0 : 0 < X) (b0 : 0 < b) (e : a * X = M * b) : a.natAbs ≤ M.natAbs ∧ b ≤ X := by
  have h := congrArg Int.natAbs e
  rw [Int.natAbs_mul, Int.natAbs_mul] at h
  have d1 : b.natAbs ∣ X.natAbs := by
    have : b.natAbs ∣ a.natAbs * X.natAbs := ⟨M.natAbs, by rw [h, Nat.mul_comm]⟩
    exact Nat.Coprime.dvd_of_dvd_mul_left (Nat.Coprime.symm hc) this
  have d2 : b.natAbs ≤ X.natAbs := Nat.le_of_dvd (by omega) d1
  refine ⟨?_, by omega⟩
  obtain ⟨k, hk⟩ := d1
  have hk0 : 0 < k := by
    rcases Nat.eq_zero_or_pos k with z | z
    · rw [z] at hk; omega
    · exact z
  have : a.natAbs * k = M.natAbs := by
    refine Nat.eq_of_mul_eq_mul_right (show 0 < b.natAbs by omega) ?_
    rw [← h, hk, Nat.mul_assoc, Nat.mul_comm k]
  rw [← this]
  exact Nat.le_mul_of_pos_right _ hk0
/-- its terms: positive where they must be, in lowest terms, below 2 ^ n -/
structure Pz (n : Nat) (a b c d : Int) : Prop where
  b0 : 0 < b
  c0 : 0 < c
  d0 : 0 < d
  c1 : Nat.gcd a.natAbs b.natAbs = 1
  c2 : Nat.gcd c.natAbs d.natAbs = 1
  az : Bn n a
  bz : Bn n b
  cz : Bn n c
  dz : Bn n d
/-- a ratio that is U / L, below 2 ^ k -/
def GotP (C : Addr) (H : Hp) (Q : VK) (U L : Int) (k : Nat) : Prop := ∀ q H' N D, Same H H' → RatAt C H' q N D → Was N D U L → Bn k N → Bn k D → Q (.ref q) H'
theorem GotP.got {C : Addr} {H : Hp} {Q : VK} {U L : Int} {k : Nat} (h : GotP C H Q U L k) (nz : L ≠ 0) (hU : Bn k U) (hL : Bn k L) : GotR C H Q (lo1 U L) (lo2 U L) := fun q H' s r =>
  h q H' _ _ s r (was_lo nz) (hU.le lo1_le) (hL.le (by have := lo2_le (u := U) nz; have := lo2_pos (u := U) nz; omega))
def spPInit (CP C CI : Addr) : Sp := fun vs H Q E => ∃ (p dx : Addr) (vm vv : V) (a b c d : Int), vs = [.ref p, vm, vv] ∧ H p = some (.ins CP dx []) ∧ NumV C H vm a b ∧ NumV C H vv c d ∧ Bd c ∧ Bd d ∧ 0 < d ∧
  (0 < c → ∃ n, Bn n a ∧ Bn n b ∧ Bn n c ∧ Bn n d ∧ n ≤ 1900 ∧ 0 < b ∧ ∀ H1, Same H H1 → ∀ H2, PoolAt CP C H2 p a b c d → But p H1 H2 → Q .non H2) ∧ (c ≤ 0 → Bad CI vv H E)
theorem rat_ne {CP C p m dx : Addr} {H : Hp} {a b : Int} (h : RatAt C H m a b) (e : H p = some (.ins CP dx [])) : m ≠ p := fun z => by
  obtain ⟨dm, r⟩ := h
  rw [z, e] at r
  cases r
theorem rat_no {C CP p q m dx : Addr} {H : Hp} {x : Str} {a b : Int} {r : List (Str × V)} (h : RatAt C H q a b) (e : H p = some (.ins CP dx ((x, .ref m) :: r))) : q ≠ p := fun z => by
  obtain ⟨dm, e'⟩ := h
  rw [z, e] at e'
  injection e' with e'
  injection e' with _ _ e3
  unfold rfs at e3
  injection e3 with e4 _
  injection e4 with _ e5
  cases e5
theorem pool_made {CP C CI : Addr} {H : Hp} {Q' : VK} {E : XK} {vm vv : V} {a b c d : Int} {n : Nat} (hm : NumV C H vm a b) (hv : NumV C H vv c d) (ba : Bn n a) (bb : Bn n b) (bc : Bn n c) (bd : Bn n d) (hn : n ≤ 1900) (b0 : 0 < b) (d0 : 0 < d) (c0 : 0 < c) {x dx : Addr} (nx : H x = none) (ndx : H dx = none)
    (k : ∀ H', Same H H' → PoolAt CP C H' x a b c d → Q' .non H') : spPInit CP C CI [.ref x, vm, vv] (upd (upd H dx (.own x)) x (.ins CP dx [])) Q' E := by
  have sm : Same H (upd (upd H dx (.own x)) x (.ins CP dx [])) := fun b o e => by
    rw [upd_ne (ne_of_none e nx), upd_ne (ne_of_none e ndx)]; exact e
  refine ⟨x, dx, vm, vv, a, b, c, d, rfl, upd_same, hm.same sm, hv.same sm, bc.bd (by omega), bd.bd (by omega), d0, fun _ => ⟨n, ba, bb, bc, bd, hn, b0, fun H1 s H2 hP hB => ?_⟩, fun z => absurd z (by omega)⟩
  exact k _ (fun b o e => hB _ _ (ne_of_none e nx) (s _ _ (sm _ _ e))) hP
theorem pool_bad {CP C CI : Addr} {H : Hp} {Q' : VK} {E : XK} {vm vv : V} {a b c d : Int} (hm : NumV C H vm a b) (hv : NumV C H vv c d) (bc : Bd c) (bd : Bd d) (d0 : 0 < d) (c0 : c ≤ 0) {x dx : Addr} (nx : H x = none) (ndx : H dx = none)
    (k : Bad CI vv H E) : spPInit CP C CI [.ref x, vm, vv] (upd (upd H dx (.own x)) x (.ins CP dx [])) Q' E := by
  have sm : Same H (upd (upd H dx (.own x)) x (.ins CP dx [])) := fun b o e => by
    rw [upd_ne (ne_of_none e nx), upd_ne (ne_of_none e ndx)]; exact e
  exact ⟨x, dx, vm, vv, a, b, c, d, rfl, upd_same, hm.same sm, hv.same sm, bc, bd, d0, fun z => absurd z (by omega), fun _ d' H' s' e => k d' H' (sm.trans s') e⟩
section
variable {K : PySem.W.Frag} {C p : Addr} {H : Hp} {v : V} {a b c d : Int} {r : Bool} {Q : VK} {R R' : Rel} {g : Int → Int → Int → Int → Int}
theorem sort_num (hv : NumV C H v c d) : (∃ i, v = .int i) ∨ ∃ q dy gs, v = .ref q ∧ H q = some (.ins C dy gs) := by
  rcases hv with ⟨e, _⟩ | ⟨q, e, dy, r⟩
  · exact .inl ⟨_, e⟩
  · exact .inr ⟨q, dy, _, e, r⟩
theorem ownL (hp : RatAt C H p a b) (hv : NumV C H v c d) (ba : Bd a) (bb : Bd b) (bc : Bd c) (bd : Bd d) (h : r = true ↔ R (a * d) (c * b)) (fin : ∀ H', Same H H' → Q (.bl r) H') : r2Cmp K C (spCmp C R) E0 (.ref p) v H Q := by
  obtain ⟨dx, e⟩ := id hp
  exact ⟨p, dx, _, rfl, e, side_num hv, p, v, a, b, c, d, r, rfl, hp, hv, ba, bb, bc, bd, h, fin⟩
theorem ownE {n : Bool} (hp : RatAt C H p a b) (hv : NumV C H v c d) (ba : Bd a) (bb : Bd b) (bc : Bd c) (bd : Bd d) (h : r = true ↔ a * d = c * b) (fin : ∀ H', Same H H' → Q (.bl (r != n)) H') : r2Cmp K C (spEqn C n) E0 (.ref p) v H Q := by
  obtain ⟨dx, e⟩ := id hp
  exact ⟨p, dx, _, rfl, e, side_num hv, p, v, a, b, r, rfl, hp, .inl ⟨c, d, hv, ba, bb, bc, bd, h⟩, fin⟩
theorem ownP {j k : Nat} (hp : RatAt C H p a b) (hv : NumV C H v c d) (ba : Bn j a) (bb : Bn j b) (bc : Bn j c) (bd : Bn j d) (hj : j ≤ 2000) (b0 : 0 < b) (d0 : 0 < d) (hU : Bn k (g a b c d)) (hL : Bn k (b * d)) (fin : GotP C H Q (g a b c d) (b * d) k) : r2C C (spBin C g gDen) E0 (.ref p) v H Q := by
  obtain ⟨dx, e⟩ := id hp
  exact ⟨p, dx, _, rfl, e, sort_num hv, p, v, a, b, c, d, rfl, hp, hv, ba.bd hj, bb.bd hj, bc.bd hj, bd.bd hj, b0, d0, fin.got (L := b * d) (Int.mul_ne_zero (by omega) (by omega)) hU hL⟩
theorem overP {CI : Addr} {E : XK} {j k : Nat} (hp : RatAt C H p a b) (hv : NumV C H v c d) (ba : Bn j a) (bb : Bn j b) (bc : Bn j c) (bd : Bn j d) (hj : j ≤ 2000) (b0 : 0 < b) (d0 : 0 < d) (cz : c ≠ 0) (hU : Bn k (a * d)) (hL : Bn k (b * c)) (fin : GotP C H Q (a * d) (b * c) k) : spOver C CI [.ref p, v] H Q E :=
  ⟨p, v, a, b, c, d, rfl, hp, hv, ba.bd hj, bb.bd hj, bc.bd hj, bd.bd hj, b0, d0, fun _ => fin.got (Int.mul_ne_zero (by omega) cz) hU hL, fun z => absurd z cz⟩
end
def spMid (CP C : Addr) : Sp := fun vs H Q _ => ∃ (p : Addr) (a b c d : Int), vs = [.ref p] ∧ PoolAt CP C H p a b c d ∧ ∀ m, RatAt C H m a b → Q (.ref m) H
def spVol (CP C : Addr) : Sp := fun vs H Q _ => ∃ (p : Addr) (a b c d : Int), vs = [.ref p] ∧ PoolAt CP C H p a b c d ∧ ∀ m, RatAt C H m c d → Q (.ref m) H
/-- an end: the middle and half the volume -/
def spEnd (CP C : Addr) (g : Int → Int → Int) : Sp := fun vs H Q _ => ∃ (p : Addr) (a b c d : Int) (n : Nat), vs = [.ref p] ∧ PoolAt CP C H p a b c d ∧ Pz n a b c d ∧ n ≤ 200 ∧ GotP C H Q (g (2 * a * d) (c * b)) (2 * b * d) (2 * n + 4)
def two (a b c d a' b' c' d' : Int) : Int := 2 * (a * b' - a' * b).natAbs * (d * d') - (c * d' + c' * d) * (b * b')
def spGap (CP C : Addr) : Sp := fun vs H Q _ => ∃ (p q : Addr) (a b c d a' b' c' d' : Int) (n : Nat), vs = [.ref p, .ref q] ∧ PoolAt CP C H p a b c d ∧ PoolAt CP C H q a' b' c' d' ∧ Pz n a b c d ∧ Pz n a' b' c' d' ∧ n ≤ 200 ∧
  GotP C H Q (two a b c d a' b' c' d') (2 * (b * b') * (d * d')) (4 * n + 12)
def spTouch (CP C : Addr) : Sp := fun vs H Q _ => ∃ (p q : Addr) (a b c d a' b' c' d' : Int) (n : Nat) (r : Bool), vs = [.ref p, .ref q] ∧ PoolAt CP C H p a b c d ∧ PoolAt CP C H q a' b' c' d' ∧ Pz n a b c d ∧ Pz n a' b' c' d' ∧ n ≤ 200 ∧
  (r = true ↔ two a b c d a' b' c' d' ≤ 0) ∧ ∀ H', Same H H' → Q (.bl r) H'
theorem abs_cross {x y u v : Int} (hy : 0 ≤ y) (hv : 0 ≤ v) (e : x * y = u * v) : (x.natAbs : Int) * y = (u.natAbs : Int) * v := by
  have h := congrArg Int.natAbs e
  rw [Int.natAbs_mul, Int.natAbs_mul] at h
  have h2 : ((x.natAbs * y.natAbs : Nat) : Int) = ((u.natAbs * v.natAbs : Nat) : Int) := by rw [h]
  rw [Int.natCast_mul, Int.natCast_mul, Int.natAbs_of_nonneg hy, Int.natAbs_of_nonneg hv] at h2
  exact h2
theorem Was.eq {N D U L U' L' : Int} (h : Was N D U L) (nz : L ≠ 0) (e : U * L' = U' * L) : Was N D U' L' := by
  obtain ⟨h1, h2, h3⟩ := h
  exact ⟨Int.eq_of_mul_eq_mul_right nz (by grind), h2, h3⟩
theorem Was.pos {N D U L : Int} (h : Was N D U L) (l : 0 < L) (u : 0 < U) : 0 < N := by
  obtain ⟨h1, h2, _⟩ := h
  have : 0 < N * L := by rw [h1]; exact Int.mul_pos u h2
  exact Int.pos_of_mul_pos_left this l
theorem Was.nonpos {N D U L : Int} (h : Was N D U L) (l : 0 < L) : N ≤ 0 ↔ U ≤ 0 := by
  obtain ⟨h1, h2, _⟩ := h
  constructor
  · intro hn
    rcases Int.lt_or_le 0 U with u | u
    · have a1 : 0 < U * D := Int.mul_pos u h2
      have a2 : N * L ≤ 0 := Int.mul_nonpos_of_nonpos_of_nonneg hn (by omega)
      omega
    · exact u
  · intro hu
    rcases Int.lt_or_le 0 N with u | u
    · have a1 : 0 < N * L := Int.mul_pos u l
      have a2 : U * D ≤ 0 := Int.mul_nonpos_of_nonpos_of_nonneg hu (by omega)
      omega
    · exact u
/-- a new pool with middle Um / Lm and volume Uv / Lv -/
def GotPool (CP C : Addr) (H : Hp) (Q : VK) (Um Lm Uv Lv : Int) (k : Nat) : Prop := ∀ p H' a b c d, Same H H' → PoolAt CP C H' p a b c d → Pz k a b c d → a * Lm = Um * b → c * Lv = Uv * d → Q (.ref p) H'
def spPAdd (CP C : Addr) : Sp := fun vs H Q _ => ∃ (p q : Addr) (a b c d a' b' c' d' : Int) (n : Nat), vs = [.ref p, .ref q] ∧ PoolAt CP C H p a b c d ∧ PoolAt CP C H q a' b' c' d' ∧ Pz n a b c d ∧ Pz n a' b' c' d' ∧ n ≤ 200 ∧
  GotPool CP C H Q (c * a * (d' * b') + c' * a' * (d * b)) (b * b' * (c * d' + c' * d)) (c * d' + c' * d) (d * d') (6 * n + 3)
def spCont (CP C : Addr) : Sp := fun vs H Q _ => ∃ (p : Addr) (v : V) (a b c d e f : Int) (n : Nat) (r : Bool), vs = [.ref p, v] ∧ PoolAt CP C H p a b c d ∧ NumV C H v e f ∧ Pz n a b c d ∧ n ≤ 200 ∧ Bd e ∧ Bd f ∧ 0 < f ∧
  (r = true ↔ (2 * a * d - c * b) * f ≤ e * (2 * b * d) ∧ e * (2 * b * d) ≤ (2 * a * d + c * b) * f) ∧ ∀ H', Same H H' → Q (.bl r) H'
def spPEq (K : PySem.W.Frag) (CP C : Addr) : Sp := fun vs H Q _ => ∃ (p : Addr) (v : V) (a b c d : Int) (r : Bool), vs = [.ref p, v] ∧ PoolAt CP C H p a b c d ∧
  ((∃ q a' b' c' d' n, v = .ref q ∧ PoolAt CP C H q a' b' c' d' ∧ Pz n a b c d ∧ Pz n a' b' c' d' ∧ n ≤ 1500 ∧ (r = true ↔ a * b' = a' * b ∧ c * d' = c' * d)) ∨ ((∃ t, Side K CP H v t) ∧ r = false)) ∧ ∀ H', Same H H' → Q (.bl r) H'
def poolRp (a b c d : Int) : Str := "Pool(" ++ ratTx a b ++ ", " ++ ratTx c d ++ ")"
def spPRepr (CP C : Addr) : Sp := fun vs H Q _ => ∃ (p : Addr) (a b c d : Int), vs = [.ref p] ∧ PoolAt CP C H p a b c d ∧ Sm a ∧ Sm b ∧ Sm c ∧ Sm d ∧ Q (.str (poolRp a b c d)) H
def spBtw (CP C CI : Addr) : Sp := fun vs H Q E => ∃ (v1 v2 : V) (a b c d : Int) (n : Nat), vs = [.ref CP, v1, v2] ∧ NumV C H v1 a b ∧ NumV C H v2 c d ∧ 0 < b ∧ 0 < d ∧ Bn n a ∧ Bn n b ∧ Bn n c ∧ Bn n d ∧ n ≤ 200 ∧
  (c * b ≤ a * d → Bad CI v2 H E) ∧ (a * d < c * b → GotPool CP C H Q (a * d + c * b) (2 * b * d) (c * b - a * d) (b * d) (2 * n + 5))
theorem cross_half {N3 D3 N4 D4 Z b d : Int} (nz : D3 ≠ 0) (f3 : N3 * (b * d) = Z * D3) (f4 : N4 * (D3 * 2) = N3 * 1 * D4) : N4 * (2 * b * d) = Z * D4 := Int.eq_of_mul_eq_mul_right nz (by grind)
theorem cross4 {N4 D4 N5 D5 N6 D6 X Y W Z : Int} (f4 : N4 * W = X * D4) (f5 : N5 * Z = Y * D5) (f6 : N6 * (D4 * D5) = (N4 * D5 + N5 * D4) * D6) : N6 * (W * Z) * (D4 * D5) = (X * Z + Y * W) * D6 * (D4 * D5) := by grind
theorem cross7 {N3 D3 N6 D6 N7 D7 bb dd Y Z : Int} (f3 : N3 * dd = Y * D3) (f7 : N7 * (D6 * N3) = N6 * D3 * D7) (g6 : N6 * (dd * bb) = Z * D6) : N7 * (bb * Y) * (D6 * N3 * dd) = Z * D7 * (D6 * N3 * dd) := by grind
theorem Was.ge {N D U L e f : Int} (h : Was N D U L) (l : 0 < L) : N * f ≤ e * D ↔ U * f ≤ e * L := by
  obtain ⟨h1, h2, _⟩ := h
  constructor
  · intro hn
    refine Int.le_of_mul_le_mul_right (a := D) ?_ h2
    have := Int.mul_le_mul_of_nonneg_right hn (show 0 ≤ L by omega)
    have e1 : U * f * D = N * f * L := by grind
    have e2 : e * L * D = e * D * L := by grind
    omega
  · intro hn
    refine Int.le_of_mul_le_mul_right (a := L) ?_ l
    have := Int.mul_le_mul_of_nonneg_right hn (show 0 ≤ D by omega)
    have e1 : U * f * D = N * f * L := by grind
    have e2 : e * L * D = e * D * L := by grind
    omega
theorem Was.le {N D U L e f : Int} (h : Was N D U L) (l : 0 < L) : e * D ≤ N * f ↔ e * L ≤ U * f := by
  obtain ⟨h1, h2, _⟩ := h
  constructor
  · intro hn
    refine Int.le_of_mul_le_mul_right (a := D) ?_ h2
    have := Int.mul_le_mul_of_nonneg_right hn (show 0 ≤ L by omega)
    have e1 : U * f * D = N * f * L := by grind
    have e2 : e * L * D = e * D * L := by grind
    omega
  · intro hn
    refine Int.le_of_mul_le_mul_right (a := L) ?_ l
    have := Int.mul_le_mul_of_nonneg_right hn (show 0 ≤ D by omega)
    have e1 : U * f * D = N * f * L := by grind
    have e2 : e * L * D = e * D * L := by grind
    omega
section
variable {K : PySem.W.Frag} {C p : Addr} {H : Hp} {v : V} {a b c d : Int} {r : Bool} {Q : VK} {R R' : Rel}
theorem swapL (hp : RatAt C H p a b) (hv : NumV C H v c d) (ba : Bd a) (bb : Bd b) (bc : Bd c) (bd : Bd d) (h : r = true ↔ R (c * b) (a * d)) (h' : r = true ↔ R' (a * d) (c * b)) (fin : ∀ H', Same H H' → Q (.bl r) H') :
    r2Cmp K C (spCmp C R) E0 v (.ref p) H Q ∨ r2ICmp C (spCmp C R') E0 v (.ref p) H Q := by
  obtain ⟨dx, e⟩ := id hp
  rcases id hv with ⟨rfl, rfl⟩ | ⟨q, rfl, dy, eq⟩
  · exact .inr ⟨c, p, dx, _, rfl, rfl, e, p, .int c, a, b, c, 1, r, rfl, hp, hv, ba, bb, bc, bd, h', fin⟩
  · exact .inl ⟨q, dy, _, rfl, eq, .inr ⟨p, dx, _, rfl, e⟩, q, .ref p, c, d, a, b, r, rfl, ⟨dy, eq⟩, .inr ⟨p, rfl, hp⟩, bc, bd, ba, bb, h, fin⟩
end
section
variable {P : Program} {w : World} {K : PySem.W.Frag} {mg : Str → Option Value} {base : Heap}
theorem ok_pinit (T : Txt K mg) : FnOk P w K mg base (L2.CX P w) 8 T.f_Pool_init_d T.d_Pool_init_d ["self", "middle", "volume"] (spPInit T.C_Pool T.C_Ratio T.C_InvalidNumber) := by
  have kbo := Binds.kbn T.B_Ratio_of (n := 2) rfl
  have kbv := Binds.kbn T.B_Ratio_over (n := 2) rfl
  have nd := sc_Pool_init_d.nd
  refine T.F_Pool_init_d.okX sc_Pool_init_d (fun vs H Q E ⟨_, _, _, _, _, _, _, _, e, _⟩ => by rw [e]; rfl) (fun cdv A outer s H vs Q E hr h => ?_)
  obtain ⟨p, dx, vm, vv, a, b, c, d, rfl, hp, hm, hv, bc, bd, d0, k1, k0⟩ := h
  refine ⟨_, pss_cons (ps_set (i := 3) nd rfl (.inl rfl) (pe_cmP (n := 1) (E := fun _ => E0) (pe_glob (v := .ref T.C_Ratio) (by rfl) T.g_Ratio rfl) T.rd_Ratio T.cm_Ratio_of (ok_of T) (hr.mono (by decide)) kbo (fun _ => atL) (pa_cons (pv 2) pa_nil)))
    (pss_cons (ps_if (pt_cmpR (opr_cmp (op := .LtE) (E := E0) (fun _ _ => rfl) (besides T) T.m_Ratio_le_d (ok_le T) hr T.B_Ratio_le_d (fun _ => at0)) (pv 3) pe_int (nomark _)) (pss_one (ps_bad (W := fun cls d _ H' => E cls d H') T (hr.mono (by decide)) rfl (takes_of rfl rfl rfl rfl) (pv 2))) pss_nil)
    (pss_cons (ps_fld (pv 0) (pe_cmP (n := 1) (E := fun _ => E0) (pe_glob (v := .ref T.C_Ratio) (by rfl) T.g_Ratio rfl) T.rd_Ratio T.cm_Ratio_of (ok_of T) (hr.mono (by decide)) kbo (fun _ => atL) (pa_cons (pv 1) pa_nil)) rfl)
    (pss_cons (ps_fld (pv 0) (pv 3) rfl)
    (pss_cons (ps_set (i := 4) nd rfl (.inl rfl) (pe_meP (n := 1) (E := fun _ => E0) (pv 3) T.cl_Ratio T.me_Ratio_over (ok_over T) (hr.mono (by decide)) kbv (fun _ => atL) (pa_cons pe_int pa_nil)))
    (pss_cons (ps_fld (pv 0) (pe_op (opr_bin (op := .Sub) (E := E0) T.bn_Ratio_sub_d (ok_sub T) (hr.mono (by decide)) T.B_Ratio_sub_d (fun _ => at0)) (pe_fld (pv 0) rfl) (pv 4)) rfl)
    (pss_one (ps_fld (pv 0) (pe_op (opr_bin (op := .Add) (E := E0) T.bn_Ratio_add_d (ok_add T) (hr.mono (by decide)) T.B_Ratio_add_d (fun _ => at0)) (pe_fld (pv 0) rfl) (pv 4)) rfl))))))), ?_⟩
  refine ⟨rfl, _, rfl, rfl, of_num hv fun q H1 s1 hq => ?_⟩
  have b0' : Bd 0 := Nat.pos_of_ne_zero (by simp)
  refine ⟨_, rfl, ownL (r := decide (c ≤ 0)) hq (.inl ⟨rfl, rfl⟩) bc bd b0' bd_one (by simp) fun H2 s2 => ⟨_, rfl, ?_⟩⟩
  have s12 := s1.trans s2
  refine ite2 (fun z => ?_) (fun z => ?_)
  · exact ⟨_, rfl, fun d' H' s' e => k0 (of_decide_eq_true z) d' H' (s12.trans s') e⟩
  · have c0 : 0 < c := by have : ¬ c ≤ 0 := fun y => z (decide_eq_true y); omega
    obtain ⟨n, an, bn, cn, dn, hn, b0, fin⟩ := k1 c0
    refine ⟨rfl, _, rfl, rfl, of_num (hm.same s12) fun m H3 s3 hm3 => ?_⟩
    have s13 := s12.trans s3
    have hp3 := s13 _ _ hp
    have hq3 := hq.same (s2.trans s3)
    have nm := rat_ne hm3 hp3
    have nq := rat_ne hq3 hp3
    refine ⟨_, rfl, p, T.C_Pool, dx, [], rfl, hp3, T.cl_Pool, T.n_Pool__middle, by decide, ?_⟩
    refine ⟨_, rfl, _, rfl, p, T.C_Pool, dx, _, rfl, upd_same, T.cl_Pool, T.n_Pool__volume, (by show 1 < 1000; decide), ?_⟩
    have bt4 : But p H3 (upd (upd H3 p (.ins T.C_Pool dx (putF "_middle" (.ref m) []))) p (.ins T.C_Pool dx (putF "_volume" (.ref q) (putF "_middle" (.ref m) [])))) := by rw [upd_upd]; exact But.upd
    have e4 : (upd (upd H3 p (.ins T.C_Pool dx (putF "_middle" (.ref m) []))) p (.ins T.C_Pool dx (putF "_volume" (.ref q) (putF "_middle" (.ref m) [])))) p = some (.ins T.C_Pool dx [("_middle", .ref m), ("_volume", .ref q)]) := by rw [upd_same]; rfl
    generalize upd (upd H3 p (.ins T.C_Pool dx (putF "_middle" (.ref m) []))) p (.ins T.C_Pool dx (putF "_volume" (.ref q) (putF "_middle" (.ref m) []))) = H4 at *
    have rat_but : ∀ {G G' : Hp} {x : Addr} {i j : Int}, RatAt T.C_Ratio G x i j → x ≠ p → But p G G' → RatAt T.C_Ratio G' x i j := fun ⟨dx, e⟩ nx k => ⟨dx, k _ _ nx e⟩
    have hm4 := rat_but hm3 nm bt4
    have hq4 := rat_but hq3 nq bt4
    obtain ⟨dq, eq4⟩ := id hq4
    refine ⟨_, rfl, q, dq, _, rfl, eq4, rfs_no (by decide +kernel) (by decide +kernel), rfl, ?_⟩
    refine overP (j := n + 2) (k := n + 2) hq4 (.inl ⟨rfl, rfl⟩) (cn.mono (by omega)) (dn.mono (by omega)) (bn2.mono (by omega)) (bn1.mono (by omega)) (by omega) d0 (by decide) (by decide) ((cn.mul bn1).mono (by omega)) (dn.mul bn2) fun h1 H5 N1 D1 s5 hr1 w1 bN bD => ?_
    have e5 := s5 _ _ e4
    have nh := rat_no hr1 e5
    have w10 := w1.2.1
    refine ⟨_, rfl, p, _, dx, _, _, rfl, e5, T.cl_Pool, T.n_Pool__middle, look_mid, _, rfl, ?_⟩
    refine ownP (g := gSub) (j := n + 2) (k := 2 * n + 4) (hm4.same s5) (.inr ⟨h1, rfl, hr1⟩) (an.mono (by omega)) (bn.mono (by omega)) bN bD (by omega) b0 w10 ?_ ((bn.mul bD).mono (by omega)) fun l6 H6 N6 D6 s6 r6 w6 bN6 bD6 => ?_
    · exact (((an.mul bD).mono (k := 2 * n + 3) (by omega)).sub ((bN.mul bn).mono (by omega))).mono (by omega)
    have e6 := s6 _ _ e5
    have nl := rat_no r6 e6
    refine ⟨_, rfl, p, T.C_Pool, dx, _, rfl, e6, T.cl_Pool, T.n_Pool__left, (by show 2 < 1000; decide), ?_⟩
    have e7 : (upd H6 p (.ins T.C_Pool dx (putF "_left" (.ref l6) [("_middle", .ref m), ("_volume", .ref q)]))) p = some (.ins T.C_Pool dx [("_middle", .ref m), ("_volume", .ref q), ("_left", .ref l6)]) := by
      rw [upd_same]
      show some (HO.ins T.C_Pool dx (if ("_middle" : Str) = "_left" then _ else _ :: (if ("_volume" : Str) = "_left" then _ else _))) = _
      rw [if_neg (by decide +kernel), if_neg (by decide +kernel)]
      rfl
    have bt7 : But p H6 (upd H6 p (.ins T.C_Pool dx (putF "_left" (.ref l6) [("_middle", .ref m), ("_volume", .ref q)]))) := But.upd
    generalize upd H6 p (.ins T.C_Pool dx (putF "_left" (.ref l6) [("_middle", .ref m), ("_volume", .ref q)])) = H7 at *
    have s46 := s5.trans s6
    have hm7 := rat_but (hm4.same s46) nm bt7
    have hh7 := rat_but (hr1.same s6) nh bt7
    have hl7 := rat_but r6 nl bt7
    have hq7 := rat_but (hq4.same s46) nq bt7
    refine ⟨_, rfl, p, _, dx, _, _, rfl, e7, T.cl_Pool, T.n_Pool__middle, look_mid, _, rfl, ?_⟩
    refine ownP (g := gAdd) (j := n + 2) (k := 2 * n + 4) hm7 (.inr ⟨h1, rfl, hh7⟩) (an.mono (by omega)) (bn.mono (by omega)) bN bD (by omega) b0 w10 ?_ ((bn.mul bD).mono (by omega)) fun r8 H8 N8 D8 s8 rr w8 bN8 bD8 => ?_
    · exact (((an.mul bD).mono (k := 2 * n + 3) (by omega)).add ((bN.mul bn).mono (by omega))).mono (by omega)
    have e8 := s8 _ _ e7
    have nr := rat_no rr e8
    refine ⟨_, rfl, p, T.C_Pool, dx, _, rfl, e8, T.cl_Pool, T.n_Pool__right, (by show 3 < 1000; decide), ?_⟩
    have e9 : (upd H8 p (.ins T.C_Pool dx (putF "_right" (.ref r8) [("_middle", .ref m), ("_volume", .ref q), ("_left", .ref l6)]))) p = some (.ins T.C_Pool dx (pfs (m, l6) (q, r8))) := by
      rw [upd_same]
      show some (HO.ins T.C_Pool dx (if ("_middle" : Str) = "_right" then _ else _ :: (if ("_volume" : Str) = "_right" then _ else _ :: (if ("_left" : Str) = "_right" then _ else _)))) = _
      rw [if_neg (by decide +kernel), if_neg (by decide +kernel), if_neg (by decide +kernel)]
      rfl
    have bt9 : But p H8 (upd H8 p (.ins T.C_Pool dx (putF "_right" (.ref r8) [("_middle", .ref m), ("_volume", .ref q), ("_left", .ref l6)]))) := But.upd
    generalize upd H8 p (.ins T.C_Pool dx (putF "_right" (.ref r8) [("_middle", .ref m), ("_volume", .ref q), ("_left", .ref l6)])) = H9 at *
    refine fin H3 s13 H9 ⟨dx, (m, l6), (q, r8), e9, ⟨rat_but (hm7.same s8) nm bt9, N6, D6, rat_but (hl7.same s8) nl bt9, ?_⟩, ⟨rat_but (hq7.same s8) nq bt9, N8, D8, rat_but rr nr bt9, ?_⟩⟩ (bt4.trans ((But.of s46).trans (bt7.trans ((But.of s8).trans bt9))))
    · refine w6.eq (Int.mul_ne_zero (by omega) (by omega)) ?_
      obtain ⟨e1, _⟩ := w1
      show gSub a b N1 D1 * (2 * b * d) = _ * (b * D1)
      unfold gSub
      grind
    · refine w8.eq (Int.mul_ne_zero (by omega) (by omega)) ?_
      obtain ⟨e1, _⟩ := w1
      show gAdd a b N1 D1 * (2 * b * d) = _ * (b * D1)
      unfold gAdd
      grind

theorem ok_mid (T : Txt K mg) : FnOk P w K mg base CX0 1 T.f_Pool_middle T.d_Pool_middle ["self"] (spMid T.C_Pool T.C_Ratio) := by
  refine T.F_Pool_middle.ok sc_Pool_middle (fun vs H Q E ⟨_, _, _, _, _, e, _⟩ => by rw [e]; rfl) (fun cdv A outer s H vs Q E hr h => ?_)
  obtain ⟨p, a, b, c, d, rfl, ⟨dx, m, v, e, r1, r2⟩, fin⟩ := h
  exact ⟨_, pss_one (ps_ret (pe_fld (pv 0) rfl)), _, rfl, p, _, dx, _, _, rfl, e, T.cl_Pool, T.n_Pool__middle, pfs_mid m v, fin m.1 r1.1⟩
theorem ok_vol (T : Txt K mg) : FnOk P w K mg base CX0 1 T.f_Pool_volume T.d_Pool_volume ["self"] (spVol T.C_Pool T.C_Ratio) := by
  refine T.F_Pool_volume.ok sc_Pool_volume (fun vs H Q E ⟨_, _, _, _, _, e, _⟩ => by rw [e]; rfl) (fun cdv A outer s H vs Q E hr h => ?_)
  obtain ⟨p, a, b, c, d, rfl, ⟨dx, m, v, e, r1, r2⟩, fin⟩ := h
  exact ⟨_, pss_one (ps_ret (pe_fld (pv 0) rfl)), _, rfl, p, _, dx, _, _, rfl, e, T.cl_Pool, T.n_Pool__volume, pfs_vol m v, fin v.1 r2.1⟩
theorem EndAt.got {C q : Addr} {H : Hp} {U L : Int} {k : Nat} {Q : VK} (h : EndAt C H q U L) (l : 0 < L) (bu : Bn k U) (bl : Bn k L) (fin : GotP C H Q U L k) : Q (.ref q) H := by
  obtain ⟨N, D, r, w⟩ := h
  obtain ⟨h1, h2⟩ := low_le w.2.2 l w.2.1 w.1
  have := w.2.1
  exact fin q H N D (Same.refl _) r w (bu.le h1) (bl.le (by omega))
theorem ok_left (T : Txt K mg) : FnOk P w K mg base CX0 1 T.f_Pool_left T.d_Pool_left ["self"] (spEnd T.C_Pool T.C_Ratio (fun x y => x - y)) := by
  refine T.F_Pool_left.ok sc_Pool_left (fun vs H Q E ⟨_, _, _, _, _, _, e, _⟩ => by rw [e]; rfl) (fun cdv A outer s H vs Q E hr h => ?_)
  obtain ⟨p, a, b, c, d, n, rfl, ⟨dx, m, v, e, r1, r2⟩, z, hn, fin⟩ := h
  refine ⟨_, pss_one (ps_ret (pe_fld (pv 0) rfl)), _, rfl, p, _, dx, _, _, rfl, e, T.cl_Pool, T.n_Pool__left, pfs_left m v, ?_⟩
  refine r1.2.got (k := 2 * n + 4) (Int.mul_pos (Int.mul_pos (by decide) z.b0) z.d0) ?_ ((((bn2.mul z.bz).mul z.dz)).mono (by omega)) fin
  exact ((((bn2.mul z.az).mul z.dz).mono (k := 2 * n + 3) (by omega)).sub ((z.cz.mul z.bz).mono (by omega))).mono (by omega)
theorem ok_right_ (T : Txt K mg) : FnOk P w K mg base CX0 1 T.f_Pool_right T.d_Pool_right ["self"] (spEnd T.C_Pool T.C_Ratio (fun x y => x + y)) := by
  refine T.F_Pool_right.ok sc_Pool_right (fun vs H Q E ⟨_, _, _, _, _, _, e, _⟩ => by rw [e]; rfl) (fun cdv A outer s H vs Q E hr h => ?_)
  obtain ⟨p, a, b, c, d, n, rfl, ⟨dx, m, v, e, r1, r2⟩, z, hn, fin⟩ := h
  refine ⟨_, pss_one (ps_ret (pe_fld (pv 0) rfl)), _, rfl, p, _, dx, _, _, rfl, e, T.cl_Pool, T.n_Pool__right, pfs_right m v, ?_⟩
  refine r2.2.got (k := 2 * n + 4) (Int.mul_pos (Int.mul_pos (by decide) z.b0) z.d0) ?_ ((((bn2.mul z.bz).mul z.dz)).mono (by omega)) fin
  exact ((((bn2.mul z.az).mul z.dz).mono (k := 2 * n + 3) (by omega)).add ((z.cz.mul z.bz).mono (by omega))).mono (by omega)
theorem op_leB {X : Cx} (T : Txt X.K X.mg) (hr : Room 7 X.A) : OpR X (compareOp .LtE) (fun x y H Q => r2Cmp X.K T.C_Ratio (spCmp T.C_Ratio fun x y => x ≤ y) E0 x y H Q ∨ r2ICmp T.C_Ratio (spCmp T.C_Ratio fun x y => y ≤ x) E0 x y H Q) :=
  OpR.or (opr_cmp (fun _ _ => rfl) (besides T) T.m_Ratio_le_d (ok_le T) hr T.B_Ratio_le_d (fun _ => at0))
    (opr_icmp (fun _ _ => rfl) PySem.F.slot_int_le PySem.F.entry_int_le PySem.F.args_int_le_2 (besides T) T.m_Ratio_ge_d (ok_ge T) hr T.B_Ratio_ge_d (fun _ => at0))
theorem ok_padd (T : Txt K mg) : FnOk P w K mg base CX0 10 T.f_Pool_add_d T.d_Pool_add_d ["self", "other"] (spPAdd T.C_Pool T.C_Ratio) := by
  have kbv := Binds.kbn T.B_Ratio_over (n := 2) rfl
  have kbi := Binds.kbn T.B_Pool_init_d (n := 3) rfl
  have nd := sc_Pool_add_d.nd
  have M : Mk K T.C_Pool T.f_Pool_init_d := ⟨T.mk_Pool, T.m_Pool_init_d.at_, T.m_Pool_init_d.fn, T.kp_Pool⟩
  refine T.F_Pool_add_d.ok sc_Pool_add_d (fun vs H Q E ⟨_, _, _, _, _, _, _, _, _, _, _, e, _⟩ => by rw [e]; rfl) (fun cdv A outer s H vs Q E hr h => ?_)
  obtain ⟨p, q, a, b, c, d, a', b', c', d', n, rfl, hp, hq, z, z', hn, fin⟩ := h
  refine ⟨_, pss_cons (ps_if (pt_not (pt_val (pe_callB call_isi (by rfl) T.b_isinstance (by decide +kernel) (pa_cons (pv 1) (pa_cons (pe_glob (v := .ref T.C_Pool) (by rfl) T.g_Pool rfl) pa_nil))))) pss_never pss_nil)
    (pss_cons (ps_set (i := 2) nd rfl (.inl rfl) (pe_op (opr_bin (op := .Add) (E := E0) T.bn_Ratio_add_d (ok_add T) (hr.mono (by decide)) T.B_Ratio_add_d (fun _ => at0)) (pe_prop (E := E0) (pv 0) T.cl_Pool T.pr_Pool_volume (ok_vol T) (hr.mono (by decide)) T.B_Pool_volume .nil pass0 rfl) (pe_prop (E := E0) (pv 1) T.cl_Pool T.pr_Pool_volume (ok_vol T) (hr.mono (by decide)) T.B_Pool_volume .nil pass0 rfl)))
    (pss_cons (ps_set (i := 3) nd rfl (.inl rfl) (pe_op (opr_bin (op := .Add) (E := E0) T.bn_Ratio_add_d (ok_add T) (hr.mono (by decide)) T.B_Ratio_add_d (fun _ => at0)) (pe_op (opr_bin (op := .Mult) (E := E0) T.bn_Ratio_mul_d (ok_mul T) (hr.mono (by decide)) T.B_Ratio_mul_d (fun _ => at0)) (pe_prop (E := E0) (pv 0) T.cl_Pool T.pr_Pool_volume (ok_vol T) (hr.mono (by decide)) T.B_Pool_volume .nil pass0 rfl) (pe_prop (E := E0) (pv 0) T.cl_Pool T.pr_Pool_middle (ok_mid T) (hr.mono (by decide)) T.B_Pool_middle .nil pass0 rfl)) (pe_op (opr_bin (op := .Mult) (E := E0) T.bn_Ratio_mul_d (ok_mul T) (hr.mono (by decide)) T.B_Ratio_mul_d (fun _ => at0)) (pe_prop (E := E0) (pv 1) T.cl_Pool T.pr_Pool_volume (ok_vol T) (hr.mono (by decide)) T.B_Pool_volume .nil pass0 rfl) (pe_prop (E := E0) (pv 1) T.cl_Pool T.pr_Pool_middle (ok_mid T) (hr.mono (by decide)) T.B_Pool_middle .nil pass0 rfl))))
    (pss_one (ps_ret (pe_mkP (n := 2) (E := fun _ => E0) M (ok_pinit T) (hr.mono (by decide)) (by rfl) T.g_Pool kbi (fun _ => atL) (pa_cons (pe_meP (n := 1) (E := fun _ => E0) (pv 3) T.cl_Ratio T.me_Ratio_over (ok_over T) (hr.mono (by decide)) kbv (fun _ => atL) (pa_cons (pv 2) pa_nil)) (pa_cons (pv 2) pa_nil))))))), ?_⟩
  have b0 := z.b0; have d0 := z.d0; have b0' := z'.b0; have d0' := z'.d0; have c0 := z.c0; have c0' := z'.c0
  obtain ⟨dx, m0, v0, ep, _, _⟩ := id hp
  obtain ⟨dy, m1, v1, eq, _, _⟩ := id hq
  refine ⟨_, rfl, _, _, .ref T.C_Pool, _, true, rfl, .own _, tyx_ins T.cl_Pool T.tc_Pool eq, kit_self, true, rfl, iteF ?_⟩
  refine ⟨_, rfl, p, dx, _, rfl, ep, p, a, b, c, d, rfl, hp, fun v rv => ?_⟩
  refine ⟨_, rfl, q, dy, _, rfl, eq, q, a', b', c', d', rfl, hq, fun v' rv' => ?_⟩
  refine ownP (g := gAdd) (j := n) (k := 2 * n + 1) rv (.inr ⟨v', rfl, rv'⟩) z.cz z.dz z'.cz z'.dz (by omega) d0 d0' (((z.cz.mul z'.dz).mono (k := 2 * n) (by omega)).add ((z'.cz.mul z.dz).mono (by omega))) ((z.dz.mul z'.dz).mono (by omega)) fun q3 G3 N3 D3 s3 r3 w3 bN3 bD3 => ?_
  refine ⟨_, rfl, p, dx, _, rfl, s3 _ _ ep, p, a, b, c, d, rfl, hp.same s3, fun v2 rv2 => ?_⟩
  refine ⟨_, rfl, p, dx, _, rfl, s3 _ _ ep, p, a, b, c, d, rfl, hp.same s3, fun m2 rm2 => ?_⟩
  refine ownP (g := gMul) (j := n) (k := 2 * n) rv2 (.inr ⟨m2, rfl, rm2⟩) z.cz z.dz z.az z.bz (by omega) d0 b0 ((z.cz.mul z.az).mono (by omega)) ((z.dz.mul z.bz).mono (by omega)) fun q4 G4 N4 D4 s4 r4 w4 bN4 bD4 => ?_
  have s34 := s3.trans s4
  refine ⟨_, rfl, q, dy, _, rfl, s34 _ _ eq, q, a', b', c', d', rfl, hq.same s34, fun v3 rv3 => ?_⟩
  refine ⟨_, rfl, q, dy, _, rfl, s34 _ _ eq, q, a', b', c', d', rfl, hq.same s34, fun m3 rm3 => ?_⟩
  refine ownP (g := gMul) (j := n) (k := 2 * n) rv3 (.inr ⟨m3, rfl, rm3⟩) z'.cz z'.dz z'.az z'.bz (by omega) d0' b0' ((z'.cz.mul z'.az).mono (by omega)) ((z'.dz.mul z'.bz).mono (by omega)) fun q5 G5 N5 D5 s5 r5 w5 bN5 bD5 => ?_
  obtain ⟨e4, p4, _⟩ := w4
  obtain ⟨e5, p5, _⟩ := w5
  refine ownP (g := gAdd) (j := 2 * n) (k := 4 * n + 1) (r4.same s5) (.inr ⟨q5, rfl, r5⟩) bN4 bD4 bN5 bD5 (by omega) p4 p5 (((bN4.mul bD5).mono (k := 4 * n) (by omega)).add ((bN5.mul bD4).mono (by omega))) ((bD4.mul bD5).mono (by omega)) fun q6 G6 N6 D6 s6 r6 w6 bN6 bD6 => ?_
  have v0p : 0 < c * d' + c' * d := by have := Int.mul_pos c0 d0'; have := Int.mul_pos c0' d0; omega
  have n3 : 0 < N3 := w3.pos (Int.mul_pos d0 d0') v0p
  obtain ⟨e3, p3, c3⟩ := w3
  obtain ⟨e6, p6, _⟩ := w6
  obtain ⟨dq6, eq6⟩ := id r6
  have s46 := s4.trans (s5.trans s6)
  refine ⟨_, rfl, q6, dq6, _, rfl, eq6, rfs_no (by decide +kernel) (by decide +kernel), _, rfl, rfl, ?_⟩
  refine overP (j := 4 * n + 1) (k := 6 * n + 3) r6 (.inr ⟨q3, rfl, r3.same s46⟩) bN6 bD6 (bN3.mono (by omega)) (bD3.mono (by omega)) (by omega) p6 p3 (by omega) ((bN6.mul bD3).mono (by omega)) ((bD6.mul bN3).mono (by omega)) fun q7 G7 N7 D7 s7 r7 w7 bN7 bD7 => ?_
  obtain ⟨e7, p7, c7⟩ := w7
  refine ⟨_, rfl, rfl, fun x dxx nx ndx _ => pool_made (.inr ⟨q7, rfl, r7⟩) (.inr ⟨q3, rfl, r3.same (s46.trans s7)⟩) bN7 bD7 (bN3.mono (by omega)) (bD3.mono (by omega)) (by omega) p7 p3 n3 nx ndx fun H' s' hP => ⟨rfl, ?_⟩⟩
  refine fin x H' N7 D7 N3 D3 ((s3.trans s46).trans (s7.trans s')) hP ⟨p7, n3, p3, c7, c3, bN7, bD7, bN3.mono (by omega), bD3.mono (by omega)⟩ ?_ e3
  have f3 : N3 * (d * d') = (c * d' + c' * d) * D3 := e3
  have f4 : N4 * (d * b) = c * a * D4 := e4
  have f5 : N5 * (d' * b') = c' * a' * D5 := e5
  have f6 : N6 * (D4 * D5) = (N4 * D5 + N5 * D4) * D6 := e6
  have f7 : N7 * (D6 * N3) = N6 * D3 * D7 := e7
  have g6 : N6 * (d * b * (d' * b')) = (c * a * (d' * b') + c' * a' * (d * b)) * D6 := Int.eq_of_mul_eq_mul_right (show D4 * D5 ≠ 0 from Int.mul_ne_zero (by omega) (by omega)) (cross4 f4 f5 f6)
  have e8 : d * b * (d' * b') = d * d' * (b * b') := by simp only [Int.mul_assoc, Int.mul_comm, Int.mul_left_comm]
  rw [e8] at g6
  exact Int.eq_of_mul_eq_mul_right (show D6 * N3 * (d * d') ≠ 0 from Int.mul_ne_zero (Int.mul_ne_zero (by omega) (by omega)) (Int.mul_ne_zero (by omega) (by omega))) (cross7 f3 f7 g6)
theorem ok_cont (T : Txt K mg) : FnOk P w K mg base CX0 9 T.f_Pool_contains_d T.d_Pool_contains_d ["self", "x"] (spCont T.C_Pool T.C_Ratio) := by
  refine T.F_Pool_contains_d.ok sc_Pool_contains_d (fun vs H Q E ⟨_, _, _, _, _, _, _, _, _, _, e, _⟩ => by rw [e]; rfl) (fun cdv A outer s H vs Q E hr h => ?_)
  obtain ⟨p, v, a, b, c, d, e, f, n, r, rfl, hp, hv, z, hn, be, bf, f0, hR, fin⟩ := h
  refine ⟨_, pss_one (ps_ret (pe_chain (opr_cmp (op := .LtE) (E := E0) (fun _ _ => rfl) (besides T) T.m_Ratio_le_d (ok_le T) (hr.mono (by decide)) T.B_Ratio_le_d (fun _ => at0)) (op_leB T (hr.mono (by decide))) (pe_fld (pv 0) rfl) (pv 1) (pe_fld (pv 0) rfl))), ?_⟩
  obtain ⟨dx, m0, v0, ep, ⟨_, q1, q2⟩, ⟨_, q3, q4⟩⟩ := id hp
  have L0 : 0 < 2 * b * d := Int.mul_pos (Int.mul_pos (by decide) z.b0) z.d0
  have bl : Bn (2 * n + 4) (2 * b * d) := ((bn2.mul z.bz).mul z.dz).mono (by omega)
  have bu1 : Bn (2 * n + 4) (2 * a * d - c * b) := ((((bn2.mul z.az).mul z.dz).mono (k := 2 * n + 3) (by omega)).sub ((z.cz.mul z.bz).mono (by omega))).mono (by omega)
  have bu2 : Bn (2 * n + 4) (2 * a * d + c * b) := ((((bn2.mul z.az).mul z.dz).mono (k := 2 * n + 3) (by omega)).add ((z.cz.mul z.bz).mono (by omega))).mono (by omega)
  have end_bd : ∀ {q : Addr} {U : Int}, EndAt T.C_Ratio H q U (2 * b * d) → Bn (2 * n + 4) U → ∃ N D, RatAt T.C_Ratio H q N D ∧ Was N D U (2 * b * d) ∧ Bn (2 * n + 4) N ∧ Bn (2 * n + 4) D := fun ⟨N, D, r, w⟩ bu => by
    obtain ⟨h1, h2⟩ := low_le w.2.2 L0 w.2.1 w.1
    have := w.2.1
    exact ⟨N, D, r, w, bu.le h1, bl.le (by omega)⟩
  obtain ⟨N1, D1, r1, w1, bN1, bD1⟩ := end_bd ⟨q1, q2⟩ bu1
  obtain ⟨N3, D3, r3, w3, bN3, bD3⟩ := end_bd ⟨q3, q4⟩ bu2
  refine ⟨_, rfl, p, _, dx, _, _, rfl, ep, T.cl_Pool, T.n_Pool__left, pfs_left m0 v0, _, rfl, ?_⟩
  refine ownL (r := decide (N1 * f ≤ e * D1)) r1 hv (bN1.bd (by omega)) (bD1.bd (by omega)) be bf (by simp) fun G2 s2 => ⟨_, rfl, ?_⟩
  have g1 := w1.ge (e := e) (f := f) L0
  refine ite2 (fun y => ?_) (fun y => ?_)
  · have y1 := g1.mp (of_decide_eq_true y)
    refine ⟨_, rfl, p, _, dx, _, _, rfl, s2 _ _ ep, T.cl_Pool, T.n_Pool__right, pfs_right m0 v0, ?_⟩
    have g3 := w3.le (e := e) (f := f) L0
    have iff : r = true ↔ e * D3 ≤ N3 * f := by rw [hR, g3]; exact ⟨fun h => h.2, fun h => ⟨y1, h⟩⟩
    exact swapL (r3.same s2) (hv.same s2) (bN3.bd (by omega)) (bD3.bd (by omega)) be bf iff iff fun G4 s4 => fin _ (s2.trans s4)
  · have rf : r = false := Bool.eq_false_iff.mpr fun h => y (decide_eq_true (g1.mpr (hR.mp h).1))
    rw [rf] at fin
    exact fin _ s2
theorem besidesP (T : Txt K mg) : Besides K T.C_Pool := by
  refine ⟨fun t h => ?_, fun t h => ?_⟩ <;> simp only [List.mem_cons, List.not_mem_nil, or_false] at h
  · rcases h with rfl | rfl | rfl | rfl | rfl
    · exact T.st_Pool_int
    · exact T.st_Pool_bool
    · exact T.st_Pool_str
    · exact T.st_Pool_NoneType
    · exact T.st_Pool_tuple
  · rcases h with rfl | rfl | rfl | rfl | rfl
    · exact T.su_Pool_int
    · exact T.su_Pool_bool
    · exact T.su_Pool_str
    · exact T.su_Pool_NoneType
    · exact T.su_Pool_tuple
theorem side_isi {C CP : Addr} {H : Hp} {v : V} {t : String} (Ty : TyC K C) (B : Besides K C) (h : Side K CP H v t) : TyX K H v (.type t) ∧ PySem.W.kitOne K (.type t) (.ref C) = some false := by
  refine ⟨?_, kit_ref Ty (B.st t h.mem)⟩
  cases h with
  | int i => exact .base (.int i)
  | bl b => exact .base (.bl b)
  | str z => exact .base (.str z)
  | non => exact .base .non
  | tup hq =>
    rcases hq with (e | ⟨o, e⟩) | ⟨o, its, n, e, c, _⟩
    · exact .base (.tup e)
    · exact .fTuple e
    · exact .kTuple e c
theorem ok_peq (T : Txt K mg) : FnOk P w K mg base CX0 9 T.f_Pool_eq_d T.d_Pool_eq_d ["self", "other"] (spPEq K T.C_Pool T.C_Ratio) := by
  refine T.F_Pool_eq_d.ok sc_Pool_eq_d (fun vs H Q E ⟨_, _, _, _, _, _, _, e, _⟩ => by rw [e]; rfl) (fun cdv A outer s H vs Q E hr h => ?_)
  obtain ⟨p, v, a, b, c, d, r, rfl, hp, hv, fin⟩ := h
  refine ⟨_, pss_one (ps_ret (pe_and (pe_callB call_isi (by rfl) T.b_isinstance (by decide +kernel) (pa_cons (pv 1) (pa_cons (pe_glob (v := .ref T.C_Pool) (by rfl) T.g_Pool rfl) pa_nil))) (pe_and (pe_cmpR (opr_cmp (op := .Eq) (E := E0) (fun _ _ => rfl) (besides T) T.m_Ratio_eq_d (ok_eq T) (hr.mono (by decide)) T.B_Ratio_eq_d (fun _ => at0)) (pe_prop (E := E0) (pv 0) T.cl_Pool T.pr_Pool_middle (ok_mid T) (hr.mono (by decide)) T.B_Pool_middle .nil pass0 rfl) (pe_prop (E := E0) (pv 1) T.cl_Pool T.pr_Pool_middle (ok_mid T) (hr.mono (by decide)) T.B_Pool_middle .nil pass0 rfl) (nomark _)) (pe_one (pe_cmpR (opr_cmp (op := .Eq) (E := E0) (fun _ _ => rfl) (besides T) T.m_Ratio_eq_d (ok_eq T) (hr.mono (by decide)) T.B_Ratio_eq_d (fun _ => at0)) (pe_prop (E := E0) (pv 0) T.cl_Pool T.pr_Pool_volume (ok_vol T) (hr.mono (by decide)) T.B_Pool_volume .nil pass0 rfl) (pe_prop (E := E0) (pv 1) T.cl_Pool T.pr_Pool_volume (ok_vol T) (hr.mono (by decide)) T.B_Pool_volume .nil pass0 rfl) (nomark _)))))), ?_⟩
  obtain ⟨dx, m0, v0, ep, _, _⟩ := id hp
  rcases hv with ⟨q, a', b', c', d', n, rfl, hq, z, z', hn, hR⟩ | ⟨⟨t, sd⟩, rfl⟩
  · obtain ⟨dy, m1, v1, eq, _, _⟩ := id hq
    refine ⟨_, rfl, _, _, .ref T.C_Pool, _, true, rfl, .own _, tyx_ins T.cl_Pool T.tc_Pool eq, kit_self, true, rfl, iteT ?_⟩
    refine ⟨_, rfl, p, dx, _, rfl, ep, p, a, b, c, d, rfl, hp, fun m rm => ?_⟩
    refine ⟨_, rfl, q, dy, _, rfl, eq, q, a', b', c', d', rfl, hq, fun m' rm' => ?_⟩
    refine ownE (r := decide (a * b' = a' * b)) rm (.inr ⟨m', rfl, rm'⟩) (z.az.bd (by omega)) (z.bz.bd (by omega)) (z'.az.bd (by omega)) (z'.bz.bd (by omega)) (by simp) fun H1 s1 => ⟨_, rfl, ?_⟩
    by_cases y : a * b' = a' * b
    · rw [decide_eq_true y]
      refine iteT ?_
      refine ⟨_, rfl, p, dx, _, rfl, s1 _ _ ep, p, a, b, c, d, rfl, hp.same s1, fun u ru => ?_⟩
      refine ⟨_, rfl, q, dy, _, rfl, s1 _ _ eq, q, a', b', c', d', rfl, hq.same s1, fun u' ru' => ?_⟩
      refine ownE (r := r) ru (.inr ⟨u', rfl, ru'⟩) (z.cz.bd (by omega)) (z.dz.bd (by omega)) (z'.cz.bd (by omega)) (z'.dz.bd (by omega)) (by rw [hR]; exact ⟨fun h => h.2, fun h => ⟨y, h⟩⟩) fun H2 s2 => ?_
      have e : (r != false) = r := by cases r <;> rfl
      rw [e]
      exact fin _ (s1.trans s2)
    · rw [decide_eq_false y]
      have rf : r = false := Bool.eq_false_iff.mpr fun h => y (hR.mp h).1
      rw [rf] at fin
      exact iteF (fin _ s1)
  · obtain ⟨ty, kt⟩ := side_isi T.tc_Pool (besidesP T) sd
    exact ⟨_, rfl, _, _, .type t, _, false, rfl, .own _, ty, kt, false, rfl, iteF (fin _ (Same.refl _))⟩
theorem ok_prepr (T : Txt K mg) : FnOk P w K mg base CX0 3 T.f_Pool_repr_d T.d_Pool_repr_d ["self"] (spPRepr T.C_Pool T.C_Ratio) := by
  refine T.F_Pool_repr_d.ok sc_Pool_repr_d (fun vs H Q E ⟨_, _, _, _, _, e, _⟩ => by rw [e]; rfl) (fun cdv A outer s H vs Q E hr h => ?_)
  obtain ⟨p, a, b, c, d, rfl, hp, sa, sb, sc, sd, k⟩ := h
  refine ⟨_, pss_one (ps_ret (pe_joined (.cons pe_str (.cons (pe_fmtO (E := E0) (pe_prop (E := E0) (pv 0) T.cl_Pool T.pr_Pool_middle (ok_mid T) (hr.mono (by decide)) T.B_Pool_middle .nil pass0 rfl) T.fm_Ratio T.tc_Ratio.at_.2.2.2 T.m_Ratio_str_d (ok_str T) hr T.B_Ratio_str_d (fun _ => at0)) (.cons pe_str (.cons (pe_fmtO (E := E0) (pe_prop (E := E0) (pv 0) T.cl_Pool T.pr_Pool_volume (ok_vol T) (hr.mono (by decide)) T.B_Pool_volume .nil pass0 rfl) T.fm_Ratio T.tc_Ratio.at_.2.2.2 T.m_Ratio_str_d (ok_str T) hr T.B_Ratio_str_d (fun _ => at0)) (.cons pe_str .nil))))))), ?_⟩
  obtain ⟨dx, m0, v0, ep, _, _⟩ := id hp
  have la := tx_len sa; have lb := tx_len sb; have lc := tx_len sc; have ld := tx_len sd
  have l1 : ("Pool(" : Str).length = 5 := by decide +kernel
  have l2 : (", " : Str).length = 2 := by decide +kernel
  have l3 : (")" : Str).length = 1 := by decide +kernel
  have l4 : ("/" : Str).length = 1 := by decide +kernel
  have tl : ∀ {x y : Int}, Sm x → Sm y → (ratTx x y).length ≤ 4000 := fun {x y} hx hy => by
    have := tx_len hx; have := tx_len hy
    unfold ratTx
    split
    · omega
    · rw [str_len, str_len, l4]; omega
  have ta := tl sa sb
  have tc := tl sc sd
  refine ⟨"Pool(", rfl, line_le (by rw [str_nil, l1]; omega), ?_⟩
  refine ⟨_, rfl, p, dx, _, rfl, ep, p, a, b, c, d, rfl, hp, fun m rm => ?_⟩
  obtain ⟨dm, em⟩ := id rm
  refine ⟨m, dm, _, rfl, em, m, a, b, rfl, rm, sa, sb, ⟨_, rfl⟩, ?_⟩
  refine ⟨_, rfl, line_le (by rw [str_nil, str_len, l1]; omega), ", ", rfl, line_le (by rw [str_nil, str_len, str_len, l1, l2]; omega), ?_⟩
  refine ⟨_, rfl, p, dx, _, rfl, ep, p, a, b, c, d, rfl, hp, fun v rv => ?_⟩
  obtain ⟨dv, ev⟩ := id rv
  refine ⟨v, dv, _, rfl, ev, v, c, d, rfl, rv, sc, sd, ⟨_, rfl⟩, ?_⟩
  refine ⟨_, rfl, line_le (by rw [str_nil, str_len, str_len, str_len, l1, l2]; omega), ")", rfl, line_le (by rw [str_nil, str_len, str_len, str_len, str_len, l1, l2, l3]; omega), ?_⟩
  show Q (.str (Str.empty ++ "Pool(" ++ ratTx a b ++ ", " ++ ratTx c d ++ ")")) H
  rw [str_nil]
  exact k
end

/-! ### numbers, pools and drops as the laws about water make them -/
/-- a number as the law makes it: U / L -/
def spNo (C : Addr) : Sp := fun vs H Q _ => ∃ (p : Addr) (U L : Int), vs = [.ref p, .int U, .int L] ∧ BoxAt H p ∧ 0 < L ∧ L.natAbs < 2 ^ 60 ∧ ∀ v N D H', NumV C H' v N D → Was N D U L → N.natAbs ≤ U.natAbs → D ≤ L → BoxAt H' p → But p H H' → Q v H'
def spIs6 (C : Addr) : Sp := fun vs H Q _ => ∃ (p : Addr) (N D U L : Int) (r : Bool), vs = [.ref p, .int U, .int L] ∧ RatAt C H p N D ∧ Bd N ∧ Bd D ∧ Bd U ∧ Bd L ∧ (r = true ↔ N * L = U * D) ∧ Q (.bl r) H
def spSays : Sp := fun vs H Q _ => ∃ (b c : Bool), vs = [.bl b, .bl c] ∧ Q (.bl (b == c)) H
section
variable {P : Program} {w : World} {K : PySem.W.Frag} {mg : Str → Option Value} {base : Heap}
theorem ok_no (T : Txt K mg) : FnOk P w K mg base CX0 5 T.f_lw_number T.d_lw_number ["_law_box_here", "_law_top", "_law_unit"] (spNo T.C_Ratio) := by
  obtain ⟨its2, kb2⟩ := kb_init2 T
  have M : Mk K T.C_Ratio T.f_Ratio_init_d := ⟨T.mk_Ratio, T.m_Ratio_init_d.at_, T.m_Ratio_init_d.fn, T.kp_Ratio⟩
  refine T.F_lw_number.ok sc_lw_number (fun vs H Q E ⟨_, _, _, e, _⟩ => by rw [e]; rfl) (fun cdv A outer s H vs Q E hr h => ?_)
  obtain ⟨p, U, L, rfl, hb, L0, Lz, fin⟩ := h
  refine ⟨_, pss_cons (ps_if (PW.pt (pw_and (pt_cmpR op_eq (pe_op op_mod (pv 1) (pv 2)) pe_int (nomark _)) (pw_and1 (pt_cmpR op_eq (pe_f (E := fun _ => E0) (ok_take T) (hr.mono (by decide)) (by rfl) T.g_lw_take T.F_lw_take.kp T.B_lw_take (fun _ => at0) (pa_cons (pv 0) (pa_cons pe_int pa_nil))) pe_int (nomark _)))))
      (pss_one (ps_ret (pe_op op_fdivX (pv 1) (pv 2)))) pss_nil)
    (pss_one (ps_ret (pe_mkP (n := 2) (E := fun _ => E0) M (ok_init T) hr (by rfl) T.g_Ratio kb2 (fun _ => atL) (pa_cons (pv 1) (pa_cons (pv 2) pa_nil))))), ?_⟩
  have nz : L ≠ 0 := by omega
  have bl : L.natAbs < 2 ^ 8000 := Nat.lt_trans Lz (Nat.pow_lt_pow_right (by decide) (by decide))
  have l2 : lo2 U L ≤ L := by have := lo2_le (u := U) nz; omega
  refine ⟨_, rfl, _, rfl, _, _, rfl, rfl, L0, rfl, _, rfl, ?_⟩
  refine ite2 (fun c => ?_) (fun c => ?_)
  · have e0 : U % L = 0 := by have z := of_decide_eq_true c; injection z
    refine ⟨_, rfl, p, 2, rfl, hb, by decide, by decide, fun d n sd cc d0 d1 hb1 => ⟨rfl, _, rfl, ?_⟩⟩
    refine ite2 (fun c2 => ?_) (fun c2 => ?_)
    · refine ⟨_, rfl, _, rfl, _, _, rfl, rfl, ⟨nz, lenU (n := 60) Lz (by decide) (by decide)⟩, ?_⟩
      have ev : U.fdiv L * L = U := by
        rw [Int.fdiv_eq_ediv_of_nonneg _ (by omega)]
        exact Int.ediv_mul_cancel (Int.dvd_of_emod_eq_zero e0)
      refine fin _ (U.fdiv L) 1 _ (.inl ⟨rfl, rfl⟩) ⟨by rw [ev]; omega, by decide, by simp⟩ ?_ (by omega) hb1 But.upd
      rw [Int.fdiv_eq_ediv_of_nonneg _ (by omega)]
      exact Int.natAbs_ediv_le_natAbs _ _
    · refine ⟨_, rfl, _, rfl, rfl, fun m dm nm ndm _ => made_at bl nz nm ndm fun H2 s2 hm => ⟨rfl, ?_⟩⟩
      exact fin _ _ _ _ (.inr ⟨m, rfl, hm⟩) (was_lo nz) lo1_le l2 (hb1.same s2) (But.upd.trans (But.of s2))
  · refine ⟨_, rfl, _, rfl, rfl, fun m dm nm ndm _ => made_at bl nz nm ndm fun H2 s2 hm => ⟨rfl, ?_⟩⟩
    exact fin _ _ _ _ (.inr ⟨m, rfl, hm⟩) (was_lo nz) lo1_le l2 (hb.same s2) (But.of s2)
theorem ok_is6 (T : Txt K mg) : FnOk P w K mg base CX0 1 T.f_lw_is T.d_lw_is ["_law_found", "_law_top", "_law_bottom"] (spIs6 T.C_Ratio) := by
  refine T.F_lw_is.ok sc_lw_is (fun vs H Q E ⟨_, _, _, _, _, _, e, _⟩ => by rw [e]; rfl) (fun cdv A outer s H vs Q E hr h => ?_)
  obtain ⟨p, N, D, U, L, r, rfl, ⟨dx, e⟩, bN, bD, bU, bL, hR, fin⟩ := h
  refine ⟨_, pss_one (ps_ret (pe_and (pe_callB call_isi (by rfl) T.b_isinstance (by decide +kernel) (pa_cons (pv 0) (pa_cons (pe_glob (v := .ref T.C_Ratio) (by rfl) T.g_Ratio rfl) pa_nil)))
    (pe_one (pe_cmpR op_eq (pe_op op_mulW (pe_fld (pv 0) rfl) (pv 2)) (pe_op op_mulW (pv 1) (pe_fld (pv 0) rfl)) (nomark _))))), ?_⟩
  refine ⟨_, rfl, _, _, .ref T.C_Ratio, _, true, rfl, .own _, tyx_ins T.cl_Ratio T.tc_Ratio e, kit_self, true, rfl, iteT ?_⟩
  refine ⟨_, rfl, p, _, dx, _, _, rfl, e, T.cl_Ratio, T.n_Ratio_top, rfs_top N D, _, rfl, _, _, rfl, rfl, bd_mulW bN bL, _, rfl, _, rfl, p, _, dx, _, _, rfl, e, T.cl_Ratio, T.n_Ratio_bottom, rfs_bot N D, _, _, rfl, rfl, bd_mulW bU bD, rfl, ?_⟩
  have e2 : decide (V.int (N * L) = V.int (U * D)) = r := rel_of (by rw [hR, V.int.injEq])
  show Q (.bl (decide (V.int (N * L) = V.int (U * D)))) H
  rw [e2]
  exact fin
/-- the pool of a drop -/
def spPool6 (CP C : Addr) : Sp := fun vs H Q _ => ∃ (p t : Addr) (L S V : Int), vs = [.ref p, .int L, .ref t] ∧ BoxAt H p ∧ H t = some (.tup [.int S, .int V]) ∧ 0 < L ∧ 0 < V ∧ Bn 50 L ∧ Bn 50 S ∧ Bn 50 V ∧
  ∀ q a b c d H', PoolAt CP C H' q a b c d → Pz 50 a b c d → a * L = S * b → c * L = V * d → BoxAt H' p → But p H H' → Q (.ref q) H'
theorem ok_pool6 (T : Txt K mg) : FnOk P w K mg base CX0 10 T.f_lw_pool T.d_lw_pool ["_law_box_here", "_law_unit", "_law_drop"] (spPool6 T.C_Pool T.C_Ratio) := by
  have kbi := Binds.kbn T.B_Pool_init_d (n := 3) rfl
  have M : Mk K T.C_Pool T.f_Pool_init_d := ⟨T.mk_Pool, T.m_Pool_init_d.at_, T.m_Pool_init_d.fn, T.kp_Pool⟩
  refine T.F_lw_pool.ok sc_lw_pool (fun vs H Q E ⟨_, _, _, _, _, e, _⟩ => by rw [e]; rfl) (fun cdv A outer s H vs Q E hr h => ?_)
  obtain ⟨p, t, L, S, V, rfl, hb, ht, L0, V0, Lz, Sz, Vz, fin⟩ := h
  refine ⟨_, pss_one (ps_ret (pe_mkP (n := 2) (E := fun _ => E0) M (ok_pinit T) (hr.mono (by decide)) (by rfl) T.g_Pool kbi (fun _ => atL) (pa_cons (pe_f (E := fun _ => E0) (ok_no T) (hr.mono (by decide)) (by rfl) T.g_lw_number T.F_lw_number.kp T.B_lw_number (fun _ => at0) (pa_cons (pv 0) (pa_cons (pe_ix ix_tup (pv 2) pe_int (fun _ _ => rfl)) (pa_cons (pv 1) pa_nil)))) (pa_cons (pe_f (E := fun _ => E0) (ok_no T) (hr.mono (by decide)) (by rfl) T.g_lw_number T.F_lw_number.kp T.B_lw_number (fun _ => at0) (pa_cons (pv 0) (pa_cons (pe_ix ix_tup (pv 2) pe_int (fun _ _ => rfl)) (pa_cons (pv 1) pa_nil)))) pa_nil)))), ?_⟩
  have Lz6 : L.natAbs < 2 ^ 60 := Nat.lt_trans Lz (Nat.pow_lt_pow_right (by decide) (by decide))
  refine ⟨_, rfl, _, rfl, t, _, 0, .int S, rfl, rfl, SqT.of ht, rfl, _, rfl, p, S, L, rfl, hb, L0, Lz6, fun v1 N1 D1 H1 n1 w1 z1 d1 hb1 b1 => ?_⟩
  have ht1 := tup_but ht hb b1
  refine ⟨_, rfl, _, rfl, t, _, 1, .int V, rfl, rfl, SqT.of ht1, rfl, _, rfl, p, V, L, rfl, hb1, L0, Lz6, fun v2 N2 D2 H2 n2 w2 z2 d2 hb2 b2 => ?_⟩
  have c0 := w2.pos L0 V0
  obtain ⟨e1, p1, c1⟩ := w1
  obtain ⟨e2, p2, c2⟩ := w2
  have D1z : Bn 50 D1 := Lz.le (by omega)
  have D2z : Bn 50 D2 := Lz.le (by omega)
  have N2z : Bn 50 N2 := Vz.le z2
  refine ⟨rfl, fun x dx nx ndx _ => pool_made (n1.but hb1 b2) n2 (Sz.le z1) D1z N2z D2z (by decide) p1 p2 c0 nx ndx fun H' s' hP => ⟨rfl, ?_⟩⟩
  exact fin x N1 D1 N2 D2 H' hP ⟨p1, c0, p2, c1, c2, Sz.le z1, D1z, N2z, D2z⟩ e1 e2 (hb2.same s') ((b1.trans b2).trans (But.of s'))
/-- the two pools beside their drops -/
structure Dr (CP C : Addr) (H : Hp) (q t : Addr) (L a b c d S V : Int) : Prop where
  at_ : PoolAt CP C H q a b c d
  tu : H t = some (.tup [.int S, .int V])
  z : Pz 50 a b c d
  e1 : a * L = S * b
  e2 : c * L = V * d
  V0 : 0 < V
  Sz : Bn 50 S
  Vz : Bn 50 V
theorem Dr.same {CP C : Addr} {H H' : Hp} {q t : Addr} {L a b c d S V : Int} (h : Dr CP C H q t L a b c d S V) (s : Same H H') : Dr CP C H' q t L a b c d S V := ⟨h.at_.same s, s _ _ h.tu, h.z, h.e1, h.e2, h.V0, h.Sz, h.Vz⟩
theorem Dr.but {CP C : Addr} {H H' : Hp} {q t p : Addr} {L a b c d S V : Int} (h : Dr CP C H q t L a b c d S V) (hb : BoxAt H p) (k : But p H H') : Dr CP C H' q t L a b c d S V := by
  refine ⟨?_, tup_but h.tu hb k, h.z, h.e1, h.e2, h.V0, h.Sz, h.Vz⟩
  obtain ⟨dx, m, v, e, r1, r2⟩ := h.at_
  refine ⟨dx, m, v, k _ _ (fun z => ?_) e, ⟨r1.1.but hb k, let ⟨N, D, r, w⟩ := r1.2; ⟨N, D, r.but hb k, w⟩⟩, ⟨r2.1.but hb k, let ⟨N, D, r, w⟩ := r2.2; ⟨N, D, r.but hb k, w⟩⟩⟩
  obtain ⟨_, _, _, y, _⟩ := hb
  rw [z, y] at e
  cases e
def DropAt (H : Hp) (t : Addr) : Prop := ∃ S W : Int, H t = some (.tup [.int S, .int W]) ∧ 0 < W ∧ W ≤ 5000 ∧ S.natAbs ≤ 600000000
end
section
variable {K : PySem.W.Frag} {CP C : Addr} {H : Hp} {v : V} {a b : Int} {Q : VK}
/-- a drop beside its pool -/
def DrX (CP C : Addr) (H : Hp) (L : Int) (q t : Addr) : Prop := ∃ a b c d S V, Dr CP C H q t L a b c d S V
theorem DrX.butL {H' : Hp} {q t p : Addr} {L : Int} {xs : List L2.V} (h : DrX CP C H L q t) (hl : H p = some (.lst xs)) (k : But p H H') : DrX CP C H' L q t := by
  obtain ⟨a, b, c, d, S, V, hat, tu, z, e1, e2, V0, Sz, Vz⟩ := h
  have go : ∀ {x : Addr} {o : HO}, H x = some o → (∀ ys, o ≠ .lst ys) → H' x = some o := fun {x o} e n => k _ _ (fun z => by rw [z, hl] at e; cases e; exact n _ rfl) e
  exact ⟨a, b, c, d, S, V, hat.thru go, go tu (fun _ z => nomatch z), z, e1, e2, V0, Sz, Vz⟩
theorem DrX.but {H' : Hp} {q t p : Addr} {L : Int} (h : DrX CP C H L q t) (hb : BoxAt H p) (k : But p H H') : DrX CP C H' L q t := by
  obtain ⟨n, s, c, e, _⟩ := hb
  exact h.butL e k
theorem DropAt.but {H' : Hp} {t p : Addr} (h : DropAt H t) (hb : BoxAt H p) (k : But p H H') : DropAt H' t := by
  obtain ⟨S, W, e, r⟩ := h
  exact ⟨S, W, tup_but e hb k, r⟩
theorem lst_but {t p : Addr} {H H' : Hp} {xs : List L2.V} (h : H t = some (.lst xs)) (n : t ≠ p) (k : But p H H') : H' t = some (.lst xs) := k _ _ n h
theorem box_ne {p q : Addr} (hb : BoxAt H p) (hq : H q = none) : q ≠ p := fun z => by
  obtain ⟨_, _, _, e, _⟩ := hb
  rw [z, e] at hq; cases hq
end

/-! ### waters -/
theorem ref_get {ts : List Addr} {i : Nat} {x : V} (h : (ts.map V.ref)[i]? = some x) : ∃ t, ts[i]? = some t ∧ x = .ref t := by
  rw [List.getElem?_map] at h
  cases e : ts[i]? with
  | none => rw [e] at h; cases h
  | some t => rw [e] at h; cases h; exact ⟨t, rfl, rfl⟩
theorem get_ref {ts : List Addr} {i : Nat} {t : Addr} (h : ts[i]? = some t) : (ts.map V.ref)[i]? = some (V.ref t) := by
  rw [List.getElem?_map, h]; rfl
theorem Same.seqT {K : PySem.W.Frag} {H H' : Hp} {a : Addr} {xs : List V} (e : Same H H') (h : SqT K H a xs) : SqT K H' a xs := by
  rcases h with (h | ⟨o, h⟩) | h
  · exact .inl (.inl (e _ _ h))
  · exact .inl (.inr ⟨o, e _ _ h⟩)
  · exact .inr h
theorem SqT.updI {K : PySem.W.Frag} {H : Hp} {a p : Addr} {xs : List V} {o : HO} {C dx : Addr} {fs : List (Str × V)} (h : SqT K H a xs) (hp : H p = some (.ins C dx fs)) : SqT K (upd H p o) a xs := by
  rcases h with (h | ⟨u, h⟩) | h
  · exact .inl (.inl (by rw [upd_ne (fun z => by rw [z, hp] at h; cases h)]; exact h))
  · exact .inl (.inr ⟨u, by rw [upd_ne (fun z => by rw [z, hp] at h; cases h)]; exact h⟩)
  · exact .inr h
/-- at w stands a water with these pools, from the left -/
def WatAt (K : PySem.W.Frag) (CW : Addr) (H : Hp) (w : Addr) (qs : List Addr) : Prop := ∃ dx t, H w = some (.ins CW dx [("_pools", V.ref t)]) ∧ SqT K H t (qs.map V.ref)
theorem WatAt.same {K : PySem.W.Frag} {CW w : Addr} {H H' : Hp} {qs : List Addr} (h : WatAt K CW H w qs) (s : Same H H') : WatAt K CW H' w qs := let ⟨dx, t, e, q⟩ := h; ⟨dx, t, s _ _ e, Same.seqT s q⟩
theorem wfs (t : Addr) : ([("_pools", V.ref t)] : List (Str × V)).lookup ("_pools" : Str) = some (.ref t) := by simp [List.lookup]
/-- the first place from 1 on at which t holds, below n -/
def FirstAt (t : Nat → Prop) (n : Nat) (r : Option Nat) : Prop := match r with
  | none => ∀ j, 1 ≤ j → j < n → ¬ t j
  | some a => 1 ≤ a ∧ a < n ∧ t a ∧ ∀ j, 1 ≤ j → j < a → ¬ t j
theorem FirstAt.hit {t : Nat → Prop} {n a : Nat} {r : Option Nat} (h : FirstAt t n r) (h1 : 1 ≤ a) (h2 : a < n) (ha : t a) (hj : ∀ j, 1 ≤ j → j < a → ¬ t j) : r = some a := by
  cases r with
  | none => exact absurd ha (h a h1 h2)
  | some b =>
    obtain ⟨b1, b2, tb, hb⟩ := h
    rcases Nat.lt_trichotomy a b with l | l | l
    · exact absurd ha (hb a h1 l)
    · rw [l]
    · exact absurd tb (hj b b1 l)
theorem FirstAt.miss {t : Nat → Prop} {n : Nat} {r : Option Nat} (h : FirstAt t n r) (hj : ∀ j, 1 ≤ j → j < n → ¬ t j) : r = none := by
  cases r with
  | none => rfl
  | some b => exact absurd h.2.2.1 (hj b h.1 h.2.1)
theorem FirstAt.ex (t : Nat → Prop) (n : Nat) : ∃ r, FirstAt t n r := by
  induction n with
  | zero => exact ⟨none, fun j _ z => absurd z (Nat.not_lt_zero _)⟩
  | succ n ih =>
    obtain ⟨r, h⟩ := ih
    cases r with
    | some a => exact ⟨some a, h.1, Nat.lt_succ_of_lt h.2.1, h.2.2⟩
    | none =>
      by_cases q : 1 ≤ n ∧ t n
      · exact ⟨some n, q.1, Nat.lt_succ_self _, q.2, fun j h1 h2 => h j h1 h2⟩
      · exact ⟨none, fun j h1 h2 tj => by
          rcases Nat.lt_or_ge j n with l | l
          · exact h j h1 l tj
          · obtain rfl : j = n := by omega
            exact q ⟨h1, tj⟩⟩
/-- a pool's terms -/
structure Qd where
  a : Int
  b : Int
  c : Int
  d : Int
/-- the pool of z reaches the one of y to its left, or lies left of it -/
def Qd.tch (y z : Qd) : Prop := (2 * z.a * z.d - z.c * z.b) * (2 * y.b * y.d) ≤ (2 * y.a * y.d + y.c * y.b) * (2 * z.b * z.d)
instance (y z : Qd) : Decidable (y.tch z) := by unfold Qd.tch; exact inferInstance
def tchP (ps : List Qd) (j : Nat) : Prop := ∃ y z, ps[j - 1]? = some y ∧ ps[j]? = some z ∧ y.tch z
/-- pools at these places, with these terms below 2 ^ n -/
def PlsAt (CP C : Addr) (H : Hp) (n : Nat) (qs : List Addr) (ps : List Qd) : Prop := ps.length = qs.length ∧ ∀ (i : Nat) (q : Addr) (z : Qd), qs[i]? = some q → ps[i]? = some z → PoolAt CP C H q z.a z.b z.c z.d ∧ Pz n z.a z.b z.c z.d
theorem PlsAt.same {CP C : Addr} {H H' : Hp} {n : Nat} {qs : List Addr} {ps : List Qd} (h : PlsAt CP C H n qs ps) (s : Same H H') : PlsAt CP C H' n qs ps := ⟨h.1, fun i q z e1 e2 => let ⟨a, b⟩ := h.2 i q z e1 e2; ⟨a.same s, b⟩⟩
theorem PlsAt.at_ {CP C : Addr} {H : Hp} {n i : Nat} {qs : List Addr} {ps : List Qd} (h : PlsAt CP C H n qs ps) (hi : i < qs.length) : ∃ q z, qs[i]? = some q ∧ ps[i]? = some z ∧ PoolAt CP C H q z.a z.b z.c z.d ∧ Pz n z.a z.b z.c z.d := by
  have e1 : qs[i]? = some qs[i] := List.getElem?_eq_getElem hi
  have e2 : ps[i]? = some (ps[i]'(by rw [h.1]; exact hi)) := List.getElem?_eq_getElem _
  exact ⟨_, _, e1, e2, h.2 i _ _ e1 e2⟩
/-- comparing two ratios by what they are -/
theorem Was.cmp {N D U L N' D' U' L' : Int} (h : Was N D U L) (l : 0 < L) (h' : Was N' D' U' L') (l' : 0 < L') : N * D' ≤ N' * D ↔ U * L' ≤ U' * L := by
  rw [h.ge l (e := N') (f := D')]
  obtain ⟨e, d0, _⟩ := h'
  -- U * D' ≤ N' * L, N' * L' = U' * D'
  constructor
  · intro q
    have q2 := Int.mul_le_mul_of_nonneg_right q (show 0 ≤ L' by omega)
    have q3 : U * L' * D' ≤ U' * L * D' := by
      have a1 : U * D' * L' = U * L' * D' := by grind
      have a2 : N' * L * L' = U' * L * D' := by grind
      omega
    exact Int.le_of_mul_le_mul_right q3 d0
  · intro q
    have q2 := Int.mul_le_mul_of_nonneg_right q (show 0 ≤ D' by omega)
    have q3 : U * D' * L' ≤ N' * L * L' := by
      have a1 : U * D' * L' = U * L' * D' := by grind
      have a2 : N' * L * L' = U' * L * D' := by grind
      omega
    exact Int.le_of_mul_le_mul_right q3 l'
/-- a Touching with this index is raised -/
def BadT (CT : Addr) (i : Int) (H : Hp) (E : XK) : Prop := ∀ d H', Same H H' → H' d = some (.xd [("index", V.int i)]) → E (.ref CT) (some d) H'
/-- Touching.__init__ -/
def spTou (C : Addr) : Sp := fun vs H Q _ => ∃ (a : Addr) (v : V), vs = [.ref a, v] ∧ H a = some (exo a C none) ∧ ∀ dx, H dx = none → dx ≠ a → Q .non (upd (upd H dx (exd dx [("index", v)])) a (exo a C (some dx)))
def spWInit (K : PySem.W.Frag) (CW CP C CT : Addr) : Sp := fun vs H Q E => ∃ (p dx t : Addr) (qs : List Addr) (ps : List Qd) (n : Nat) (r : Option Nat), vs = [.ref p, .ref t] ∧ H p = some (.ins CW dx []) ∧ (SqL K H t (qs.map V.ref) ∨ SqT K H t (qs.map V.ref)) ∧ qs.length ≤ 1000000 ∧
  PlsAt CP C H n qs ps ∧ n ≤ 200 ∧ FirstAt (tchP ps) ps.length r ∧
  (r = none → ∀ H1 u, Same H H1 → SqT K H1 u (qs.map V.ref) → Q .non (upd H1 p (.ins CW dx [("_pools", V.ref u)]))) ∧ (∀ j, r = some j → BadT CT (j : Nat) H E)
def spWLen (K : PySem.W.Frag) (CW : Addr) : Sp := fun vs H Q _ => ∃ (w : Addr) (qs : List Addr), vs = [.ref w] ∧ WatAt K CW H w qs ∧ Q (.int (qs.length : Nat)) H
def spWGet (K : PySem.W.Frag) (CW : Addr) : Sp := fun vs H Q _ => ∃ (w : Addr) (qs : List Addr) (i : Nat) (q : Addr), vs = [.ref w, .int i] ∧ WatAt K CW H w qs ∧ qs[i]? = some q ∧ Q (.ref q) H
section
variable {P : Program} {w : World} {K : PySem.W.Frag} {mg : Str → Option Value} {base : Heap}
theorem ok_tou (T : Txt K mg) : FnOk P w K mg base CX0 1 T.f_Touching_init_d T.d_Touching_init_d ["self", "index"] (spTou T.C_Touching) := by
  refine T.F_Touching_init_d.ok sc_Touching_init_d (fun vs H Q E h => ?_) (fun cdv A outer s H vs Q E hr h => ?_)
  · obtain ⟨a, v, rfl, _⟩ := h; rfl
  · obtain ⟨a, v, rfl, ha, k⟩ := h
    refine ⟨_, pss_one (ps_ost (pv 0) (pv 1)), ?_⟩
    exact ⟨_, rfl, _, rfl, a, T.C_Touching, rfl, T.ox_Touching, T.n_Touching_index, .inl ⟨ha, k⟩⟩
/-- raise Touching(e) -/
theorem ps_tou {X : Cx} {W : WX} {e : Expr} {te : TE} {p pos pos2 : Pos} (T : Txt X.K X.mg) (hr : Room 2 X.A) (hc : X.calm = true) (tk : Takes X W) (he : PE X e te) (hg : Gl X "Touching" := by rfl)
    (hs : starEach (e :: []) X.env = (false, eval e X.env) :: starEach [] X.env := by rfl) :
    PS X (.Raise (some (.Call (.Name "Touching" p) [e] [] pos)) none pos2) (fun _ σ H => te σ H fun v H1 => ∀ d H', Same H1 H' → H' d = some (.xd [("index", v)]) → W (.ref T.C_Touching) (some d) σ H') := by
  refine ⟨fun pins s σ H D I h => ?_⟩
  refine (ps_raise (W := W) hc tk (pmk_oex (CX := CX0) (dvs := []) T.ox_Touching T.m_Touching_init_d.at_ T.t_Touching_init_d (ok_tou T) hr T.B_Touching_init_d .nil (fun _ _ _ _ _ _ _ z => z.elim) hg T.g_Touching (pa_cons (pe_wk he) pa_nil hs) (he := hs))).run pins s σ H D I ?_
  refine ⟨_, h, fun v H1 q => ⟨by show 1 ≤ 1000; decide, fun a na => ⟨a, v, rfl, upd_same, fun dx nx ne => ⟨rfl, dx, [("index", v)], upd_same, by rw [upd_ne ne, upd_same], ?_, ?_⟩⟩⟩⟩
  · rwa [upd_ne ne] at nx
  · have nd : H1 dx = none := by rwa [upd_ne ne] at nx
    refine q dx _ (fun b o e => ?_) upd_same
    rw [upd_ne (ne_of_none e nd), del_ne (ne_of_none e na), upd_ne (ne_of_none e na), upd_ne (ne_of_none e nd), upd_ne (ne_of_none e na)]
    exact e
theorem ok_wlen (T : Txt K mg) : FnOk P w K mg base CX0 1 T.f_Water_len_d T.d_Water_len_d ["self"] (spWLen K T.C_Water) := by
  refine T.F_Water_len_d.ok sc_Water_len_d (fun vs H Q E ⟨_, _, e, _⟩ => by rw [e]; rfl) (fun cdv A outer s H vs Q E hr h => ?_)
  obtain ⟨w, qs, rfl, ⟨dx, t, e, q⟩, fin⟩ := h
  refine ⟨_, pss_one (ps_ret (pe_callB call_len_seq (by rfl) T.b_len PySem.boot_len (pa_cons (pe_fld (pv 0) rfl) pa_nil))), ?_⟩
  refine ⟨_, rfl, w, _, dx, _, _, rfl, e, T.cl_Water, T.n_Water__pools, wfs t, t, _, rfl, .inr q, ?_⟩
  rw [List.length_map]
  exact fin
theorem ok_wget (T : Txt K mg) : FnOk P w K mg base CX0 1 T.f_Water_getitem_d T.d_Water_getitem_d ["self", "at"] (spWGet K T.C_Water) := by
  refine T.F_Water_getitem_d.ok sc_Water_getitem_d (fun vs H Q E ⟨_, _, _, _, e, _⟩ => by rw [e]; rfl) (fun cdv A outer s H vs Q E hr h => ?_)
  obtain ⟨w, qs, i, x, rfl, ⟨dx, t, e, q⟩, hx, fin⟩ := h
  refine ⟨_, pss_cons (ps_if (pt_not (pt_chain op_le op_lt pe_int (pv 1) (pe_callB call_len_seq (by rfl) T.b_len PySem.boot_len (pa_cons (pe_fld (pv 0) rfl) pa_nil)))) pss_never pss_nil)
    (pss_one (ps_ret (pe_ix ix_tup (pe_fld (pv 0) rfl) (pv 1) (fun _ _ => rfl)))), ?_⟩
  have lt : i < qs.length := (List.getElem?_eq_some_iff.mp hx).1
  refine ⟨_, rfl, _, _, rfl, rfl, _, rfl, (if_pos (decide_eq_true (by omega))).mpr ?_⟩
  refine ⟨_, rfl, w, _, dx, _, _, rfl, e, T.cl_Water, T.n_Water__pools, wfs t, t, _, rfl, .inr q, _, _, rfl, rfl, _, rfl, ?_⟩
  rw [decide_eq_true (show (i : Int) < ((qs.map V.ref).length : Nat) by rw [List.length_map]; omega)]
  refine iteF ⟨_, rfl, w, _, dx, _, _, rfl, e, T.cl_Water, T.n_Water__pools, wfs t, _, rfl, t, _, i, .ref x, rfl, rfl, q, atI_nat (by rw [List.getElem?_map, hx]; rfl), fin⟩
theorem ok_winit (T : Txt K mg) : FnOk P w K mg base (L2.CX P w) 9 T.f_Water_init_d T.d_Water_init_d ["self", "pools"] (spWInit K T.C_Water T.C_Pool T.C_Ratio T.C_Touching) := by
  have nd := sc_Water_init_d.nd
  refine T.F_Water_init_d.ok sc_Water_init_d (fun vs H Q E ⟨_, _, _, _, _, _, _, e, _⟩ => by rw [e]; rfl) (fun cdv A outer s H vs Q E hr h => ?_)
  obtain ⟨p, dx, t, qs, ps, n, r, rfl, hp, hq, few, hP, hn, hF, k1, k2⟩ := h
  refine ⟨_, pss_cons (ps_for (passes_of rfl) rfl (pi_range2 (by rfl) T.b_range (pa_cons pe_int (pa_cons (pe_callB call_len_seq (by rfl) T.b_len PySem.boot_len (pa_cons (pv 1) pa_nil)) pa_nil))) (pg_name (i := 2) nd rfl (.inl rfl))
      (pss_one (ps_if (pt_cmpR (opr_cmp (op := .LtE) (E := E0) (fun _ _ => rfl) (besides T) T.m_Ratio_le_d (ok_le T) (hr.mono (by decide)) T.B_Ratio_le_d (fun _ => at0))
          (pe_prop (E := E0) (pe_ix (ix_list.or ix_tup) (pv 1) (pv 2) (fun _ _ => rfl)) T.cl_Pool T.pr_Pool_left (ok_left T) (hr.mono (by decide)) T.B_Pool_left .nil pass0 rfl)
          (pe_prop (E := E0) (pe_ix (ix_list.or ix_tup) (pv 1) (pe_op op_sub (pv 2) pe_int) (fun _ _ => rfl)) T.cl_Pool T.pr_Pool_right (ok_right_ T) (hr.mono (by decide)) T.B_Pool_right .nil pass0 rfl) (nomark _))
        (pss_one (ps_tou (W := fun cls d _ H' => E cls d H') T (hr.mono (by decide)) rfl (takes_of rfl rfl rfl rfl) (pv 2))) pss_nil)))
    (pss_one (ps_fld (pv 0) (pe_callTy call_tuple_of (by rfl) T.b_tuple (by decide +kernel) (pa_cons (pv 1) pa_nil)) rfl)), ?_⟩
  have ixs : ∀ {G : Hp} {i : Int} {x : V} {R : VK}, Same H G → atI (qs.map V.ref) i = some x → R x G → rIxL K (.ref t) (.int i) G R ∨ rIxT K (.ref t) (.int i) G R := fun {G i x R} s e q => by
    rcases hq with h | h
    · exact .inl ⟨t, _, i, x, rfl, rfl, s.seq h, e, q⟩
    · exact .inr ⟨t, _, i, x, rfl, rfl, Same.seqT s h, e, q⟩
  have ln : (qs.map V.ref).length = qs.length := List.length_map _
  refine ⟨_, rfl, t, _, rfl, hq, _, _, rfl, (by rw [ln]; exact ⟨by decide, by decide, by omega, by omega⟩), for_range (lo := 1) (n := ((((qs.map V.ref).length : Nat) : Int) - 1).toNat)
    (fun i σ' H' => Same H H' ∧ (∀ j, 1 ≤ j → j < i + 1 → ¬ tchP ps j) ∧ ∃ v2 : Option V, σ' = [some (.ref p), some (.ref t), v2]) ⟨Same.refl _, fun j h1 h2 => absurd h2 (by omega), _, rfl⟩ ?_ ?_⟩
  · rintro i σ' H1 hi ⟨s1, no, v2, rfl⟩
    rw [ln] at hi
    obtain ⟨q1, z, eq1, ez, hp1, z1⟩ := (hP.same s1).at_ (i := i + 1) (by omega)
    obtain ⟨q0, y, eq0, ey, hp0, z0⟩ := (hP.same s1).at_ (i := i) (by omega)
    obtain ⟨dq1, _, _, e1, _⟩ := id hp1
    obtain ⟨dq0, _, _, e0, _⟩ := id hp0
    have at1 : atI (qs.map V.ref) (1 + (i : Int)) = some (.ref q1) := by
      rw [show (1 + (i : Int)) = ((i + 1 : Nat) : Int) by omega]
      exact atI_nat (by rw [List.getElem?_map, eq1]; rfl)
    have at0' : atI (qs.map V.ref) (1 + (i : Int) - 1) = some (.ref q0) := by
      rw [show (1 + (i : Int) - 1) = ((i : Nat) : Int) by omega]
      exact atI_nat (by rw [List.getElem?_map, eq0]; rfl)
    refine ⟨_, rfl, _, rfl, ixs s1 at1 ⟨q1, dq1, _, rfl, e1, q1, z.a, z.b, z.c, z.d, n, rfl, hp1, z1, hn, fun g1 G1 N1 D1 s2 r1 w1 bN1 bD1 => ?_⟩⟩
    refine ⟨_, rfl, _, rfl, _, _, rfl, rfl, ixs (s1.trans s2) at0' ⟨q0, dq0, _, rfl, s2 _ _ e0, q0, y.a, y.b, y.c, y.d, n, rfl, hp0.same s2, z0, hn, fun g0 G0 N0 D0 s3 r0 w0 bN0 bD0 => ?_⟩⟩
    have l1 : 0 < 2 * z.b * z.d := Int.mul_pos (Int.mul_pos (by decide) z1.b0) z1.d0
    have l0 : 0 < 2 * y.b * y.d := Int.mul_pos (Int.mul_pos (by decide) z0.b0) z0.d0
    have cm : N1 * D0 ≤ N0 * D1 ↔ y.tch z := Was.cmp w1 l1 w0 l0
    have iff : tchP ps (i + 1) ↔ y.tch z := ⟨fun ⟨y', z', e', e'', h⟩ => by
      rw [show i + 1 - 1 = i by omega, ey] at e'
      rw [ez] at e''
      cases e'; cases e''
      exact h, fun h => ⟨y, z, by rw [show i + 1 - 1 = i by omega]; exact ey, ez, h⟩⟩
    refine ownL (r := decide (y.tch z)) (r1.same s3) (.inr ⟨g0, rfl, r0⟩) (bN1.bd (by omega)) (bD1.bd (by omega)) (bN0.bd (by omega)) (bD0.bd (by omega)) (by rw [decide_eq_true_iff]; exact cm.symm) fun G s4 => ⟨_, rfl, ?_⟩
    have sG := ((s1.trans s2).trans s3).trans s4
    refine ite2 (fun c => ?_) (fun c => ?_)
    · have tj : tchP ps (i + 1) := iff.mpr (of_decide_eq_true c)
      refine ⟨_, rfl, fun d H' s' e => k2 (i + 1) (hF.hit (by omega) (by rw [hP.1]; omega) tj no) d H' (sG.trans s') ?_⟩
      rw [show ((i + 1 : Nat) : Int) = 1 + (i : Int) by omega]
      exact e
    · refine ⟨sG, fun j h1 h2 tj => ?_, _, rfl⟩
      rcases Nat.lt_or_ge j (i + 1) with l | l
      · exact no j h1 l tj
      · obtain rfl : j = i + 1 := by omega
        exact c (decide_eq_true (iff.mp tj))
  · rintro σ' H1 ⟨s1, no, v2, rfl⟩
    have rn : r = none := hF.miss fun j h1 h2 => no j h1 (by rw [hP.1] at h2; rw [ln]; omega)
    have hp1 := s1 _ _ hp
    refine ⟨_, rfl, t, qs.map V.ref, rfl, ?_⟩
    rcases hq with h | h
    · refine .inl ⟨s1.seq h, fun u hu => ⟨_, rfl, p, T.C_Water, dx, [], rfl, same_upd hu _ _ hp1, T.cl_Water, T.n_Water__pools, by decide, ?_⟩⟩
      exact k1 rn _ u (s1.trans (same_upd hu)) (SqT.of upd_same)
    · refine .inr ⟨Same.seqT s1 h, ⟨_, rfl, p, T.C_Water, dx, [], rfl, hp1, T.cl_Water, T.n_Water__pools, by decide, ?_⟩⟩
      exact k1 rn _ t s1 (Same.seqT s1 h)
end
section
variable {K : PySem.W.Frag} {mg : Str → Option Value}
/-- Water(pools), Water(), Water(pools = ..) -/
theorem kb_wat (T : Txt K mg) : ∃ its : List Value, KBn K T.d_Water_init_d ["self", "pools"] 2 [] (fun us _ => us) (fun vs _ => vs) := by
  obtain ⟨its, h⟩ := FunD.kbindsD T.F_Water_init_d (ps := ["self", "pools"]) 2 [] (fun us _ _ => us) (List.cons_ne_nil _ _) (fun r _ _ => r) (fun Tt kV doc pm an cdv ct us its ws l1 l2 l3 => by
    match us, its, ws, l1, l2, l3 with
    | [a, b], [i], [], _, _, _ => exact ⟨_, rfl, rfl⟩)
  exact ⟨its, h⟩
theorem b_wat0 (T : Txt K mg) : ∃ ds, Vals [V.ref T.e_empty] ds ∧ Binds K T.d_Water_init_d ["self", "pools"] ds := by
  refine FunD.binds1 T.F_Water_init_d (ps := ["self", "pools"]) 1 0 (List.cons_ne_nil _ _) rfl (fun Tt kV doc pm an cdv ct us its l1 l2 => ?_)
  match us, its, l1, l2 with
  | [a], [i], _, _ => exact ⟨_, rfl, rfl⟩
theorem kb_watK (T : Txt K mg) : ∃ its : List Value, KBn K T.d_Water_init_d ["self", "pools"] 1 ["pools"] (fun us ws => us ++ ws) (fun vs zs => vs ++ zs) := by
  obtain ⟨its, h⟩ := FunD.kbindsD T.F_Water_init_d (ps := ["self", "pools"]) 1 ["pools"] (fun us _ ws => us ++ ws) (List.cons_ne_nil _ _) (fun r _ r3 => r.append r3) (fun Tt kV doc pm an cdv ct us its ws l1 l2 l3 => by
    match us, its, ws, l1, l2, l3 with
    | [a], [i], [x], _, _, _ => exact ⟨_, rfl, rfl⟩)
  exact ⟨its, h⟩
theorem sq_of_empty (T : Txt K mg) (H : Hp) : SqT K H T.e_empty [] := by
  obtain ⟨o, n, l, c, d⟩ := T.sq_empty
  exact .inr ⟨o, #[], n, l, c, d, Nat.zero_le _, .nil⟩
/-- a new water of these pools -/
theorem wat_made {CW CP C CT : Addr} {H : Hp} {Q' : VK} {E : XK} {t x dx : Addr} {qs : List Addr} {ps : List Qd} {n : Nat} {r : Option Nat} (hq : SqL K H t (qs.map V.ref) ∨ SqT K H t (qs.map V.ref)) (few : qs.length ≤ 1000000) (hP : PlsAt CP C H n qs ps) (hn : n ≤ 200) (hF : FirstAt (tchP ps) ps.length r)
    (nx : H x = none) (ndx : H dx = none) (k : r = none → ∀ H', Same H H' → WatAt K CW H' x qs → Q' .non H') (kb : ∀ j, r = some j → BadT CT (j : Nat) H E) :
    spWInit K CW CP C CT [.ref x, .ref t] (upd (upd H dx (.own x)) x (.ins CW dx [])) Q' E := by
  have sm : Same H (upd (upd H dx (.own x)) x (.ins CW dx [])) := fun b o e => by
    rw [upd_ne (ne_of_none e nx), upd_ne (ne_of_none e ndx)]; exact e
  refine ⟨x, dx, t, qs, ps, n, r, rfl, upd_same, hq.elim (fun h => .inl (sm.seq h)) (fun h => .inr (Same.seqT sm h)), few, hP.same sm, hn, hF, fun e H1 u s hu => ?_, fun j e d H' s' ed => kb j e d H' (sm.trans s') ed⟩
  have ex := s _ _ upd_same
  exact k e _ (fun b o e => by rw [upd_ne (ne_of_none e nx)]; exact s _ _ (sm _ _ e)) ⟨dx, u, upd_same, SqT.updI hu ex⟩
end

/-! ### the laws' look at a water -/
/-- t says what the pool with the terms z is: its moment and its volume, in parts of L -/
def DueAt (H : Hp) (L : Int) (z : Qd) (t : Addr) : Prop := ∃ M W : Int, H t = some (.tup [.int M, .int W]) ∧ z.a * (W * L) = M * z.b ∧ z.c * L = W * z.d ∧ Bn 500 M ∧ Bn 500 W
theorem DueAt.same {H H' : Hp} {L : Int} {z : Qd} {t : Addr} (h : DueAt H L z t) (s : Same H H') : DueAt H' L z t := let ⟨M, W, e, r⟩ := h; ⟨M, W, s _ _ e, r⟩
def spIsW (K : PySem.W.Frag) (CW CP C : Addr) : Sp := fun vs H Q _ => ∃ (w l : Addr) (L : Int) (qs ts : List Addr) (ps : List Qd) (n : Nat), vs = [.ref w, .int L, .ref l] ∧ WatAt K CW H w qs ∧ PlsAt CP C H n qs ps ∧ n ≤ 200 ∧ Bn 100 L ∧
  H l = some (.lst (ts.map V.ref)) ∧ ts.length = qs.length ∧ qs.length ≤ 1000000 ∧ (∀ (i : Nat) (z : Qd) (t : Addr), ps[i]? = some z → ts[i]? = some t → DueAt H L z t) ∧ ∀ H', Same H H' → Q (.bl true) H'
section
variable {P : Program} {w : World} {K : PySem.W.Frag} {mg : Str → Option Value} {base : Heap}
theorem ok_isw (T : Txt K mg) : FnOk P w K mg base CX0 4 T.f_lw_is_water T.d_lw_is_water ["_law_found", "_law_unit", "_law_dues"] (spIsW K T.C_Water T.C_Pool T.C_Ratio) := by
  have nd := sc_lw_is_water.nd
  refine T.F_lw_is_water.ok sc_lw_is_water (fun vs H Q E ⟨_, _, _, _, _, _, _, e, _⟩ => by rw [e]; rfl) (fun cdv A outer s H vs Q E hr h => ?_)
  obtain ⟨w, l, L, qs, ts, ps, n, rfl, hW, hP, hn, Lz, hl, len, few, due, fin⟩ := h
  refine ⟨_, pss_cons (ps_if (PW.pt (pw_or (pt_not (pt_val (pe_callB call_isi (by rfl) T.b_isinstance (by decide +kernel) (pa_cons (pv 0) (pa_cons (pe_glob (v := .ref T.C_Water) (by rfl) T.g_Water rfl) pa_nil)))))
        (pw_or1 (pt_cmpR op_ne (pe_callB (call_lenO T.m_Water_len_d (ok_wlen T) (hr.mono (by decide)) T.B_Water_len_d) (by rfl) T.b_len PySem.boot_len (pa_cons (pv 0) pa_nil)) (pe_callB call_len_seq (by rfl) T.b_len PySem.boot_len (pa_cons (pv 2) pa_nil)) (nomark _))))) (pss_one (ps_ret pe_bl)) pss_nil)
    (pss_cons (ps_for PassesOwn.never rfl (pi_enum (by rfl) T.b_enumerate (pa_cons (pv 2) pa_nil)) (pg_tup rfl (pgs_cons (pg_name (i := 3) nd rfl (.inl rfl)) (pgs_cons (pg_tup rfl (pgs_cons (pg_name (i := 4) nd rfl (.inl rfl)) (pgs_cons (pg_name (i := 5) nd rfl (.inl rfl)) pgs_nil))) pgs_nil)))
      (pss_one (ps_if (PW.pt (pw_or (pt_not (pt_val (pe_f (E := fun _ => E0) (ok_is6 T) (hr.mono (by decide)) (by rfl) T.g_lw_is T.F_lw_is.kp T.B_lw_is (fun _ => at0) (pa_cons (pe_prop (E := E0) (pe_ixO T.m_Water_getitem_d T.fi_Water_getitem_d (ok_wget T) (hr.mono (by decide)) T.B_Water_getitem_d (pv 0) (pv 3)) T.cl_Pool T.pr_Pool_middle (ok_mid T) (hr.mono (by decide)) T.B_Pool_middle .nil pass0 rfl) (pa_cons (pv 4) (pa_cons (pe_op op_mulW (pv 5) (pv 1)) pa_nil))))))
        (pw_or1 (pt_not (pt_val (pe_f (E := fun _ => E0) (ok_is6 T) (hr.mono (by decide)) (by rfl) T.g_lw_is T.F_lw_is.kp T.B_lw_is (fun _ => at0) (pa_cons (pe_prop (E := E0) (pe_ixO T.m_Water_getitem_d T.fi_Water_getitem_d (ok_wget T) (hr.mono (by decide)) T.B_Water_getitem_d (pv 0) (pv 3)) T.cl_Pool T.pr_Pool_volume (ok_vol T) (hr.mono (by decide)) T.B_Pool_volume .nil pass0 rfl) (pa_cons (pv 5) (pa_cons (pv 1) pa_nil))))))))) (pss_one (ps_ret pe_bl)) pss_nil)))
    (pss_one (ps_ret pe_bl))), ?_⟩
  obtain ⟨dw, tw, ew, _⟩ := id hW
  refine ⟨_, rfl, _, _, .ref T.C_Water, _, true, rfl, .own _, tyx_ins T.cl_Water T.tc_Water ew, kit_self, true, rfl, iteF ?_⟩
  refine ⟨_, rfl, w, dw, _, rfl, ew, w, qs, rfl, hW, ⟨qs.length, rfl, by omega⟩, _, rfl, l, _, rfl, .inl (SqL.of hl), rfl, _, rfl, if_false_ (by rw [List.length_map, len]; simp) ?_⟩
  refine ⟨_, rfl, l, _, rfl, SqL.of hl, for_it (walk_enum (xs := ts.map V.ref)) (fun i σ' H' => Same H H' ∧ ∃ v3 v4 v5 : Option V, σ' = [some (.ref w), some (.int L), some (.ref l), v3, v4, v5]) ⟨Same.refl _, _, _, _, rfl⟩ (fun i σ' H' _ ⟨s, _⟩ => SqL.of (s _ _ hl)) ?_ (fun σ' H' ⟨s, _⟩ => fin _ s)⟩
  rintro i x σ' H1 H2 hi ⟨s1, v3, v4, v5, rfl⟩ ⟨tz, x1, x2, rfl, nz, rfl, e1, e2⟩
  cases e1
  rw [List.length_map] at hi
  obtain ⟨t, et, rfl⟩ := ref_get e2
  obtain ⟨q, z, eq, ez, hp, hz⟩ := hP.at_ (i := i) (by omega)
  obtain ⟨M, W, tu, d1, d2, Mz, Wz⟩ := due i z t ez et
  have s2 : Same H (upd H1 tz (.tup [.int (i : Nat), .ref t])) := s1.trans (same_upd nz)
  refine ⟨tz, _, rfl, SqT.of upd_same, rfl, _, _, rfl, _, _, rfl, t, _, rfl, SqT.of (s2 _ _ tu), rfl, _, _, rfl, _, _, rfl, rfl, rfl, ?_⟩
  have hW2 := hW.same s2
  have ew2 := s2 _ _ ew
  have hp2 := (hP.2 i q z eq ez).1.same s2
  obtain ⟨dq, _, _, epq, _⟩ := id hp2
  have zb : ∀ {k : Nat} {x : Int}, k ≤ 2000 → Bn k x → Bd x := fun hk h => h.bd hk
  refine ⟨_, rfl, _, rfl, w, dw, _, rfl, ew2, w, qs, i, q, rfl, hW2, eq, q, dq, _, rfl, epq, q, z.a, z.b, z.c, z.d, rfl, hp2, fun m rm => ⟨_, rfl, _, rfl, _, rfl, _, _, rfl, rfl, bd_mulW (zb (by decide) Wz) (zb (by decide) Lz), m, z.a, z.b, M, W * L, true, rfl, rm, zb (by omega) hz.az, zb (by omega) hz.bz, zb (by decide) Mz, zb (by decide) (Wz.mul Lz), ⟨fun _ => d1, fun _ => rfl⟩, true, rfl, iteF ?_⟩⟩
  refine ⟨_, rfl, _, rfl, w, dw, _, rfl, ew2, w, qs, i, q, rfl, hW2, eq, q, dq, _, rfl, epq, q, z.a, z.b, z.c, z.d, rfl, hp2, fun m rm => ⟨_, rfl, _, rfl, m, z.c, z.d, W, L, true, rfl, rm, zb (by omega) hz.cz, zb (by omega) hz.dz, zb (by decide) Wz, zb (by decide) Lz, ⟨fun _ => d2, fun _ => rfl⟩, true, rfl, iteF ?_⟩⟩
  exact ⟨s2, _, _, _, rfl⟩
end

/-! ### k08: waters made -/
abbrev lawLevel : Nat := 18
def spLaw (K : PySem.W.Frag) : Sp := fun vs H Q _ => ∃ (a : Addr) (ns : List Int), vs = [.ref a] ∧ SqL K H a (ns.map V.int) ∧ ns.length ≤ 63 ∧ ∀ H', Q (.bl true) H'
theorem menuL {xs : List V} {p : V → Prop} {d : Int} (h : ∀ x ∈ xs, p x) (h0 : 0 ≤ d) (h1 : d < (xs.length : Nat)) : ∃ v, atI xs d = some v ∧ p v := by
  obtain ⟨j, rfl⟩ : ∃ j : Nat, d = (j : Int) := ⟨d.toNat, by omega⟩
  have hj : j < xs.length := by omega
  exact ⟨xs[j], atI_nat (List.getElem?_eq_getElem hj), h _ (List.getElem_mem hj)⟩
theorem drops_data {K : PySem.W.Frag} {H : Hp} : ∀ {ts : List Addr}, (∀ t ∈ ts, ∃ S W : Int, H t = some (.tup [.int S, .int W])) → ∃ dds, DpAll K H (ts.map V.ref) dds ∧ dds.length = ts.length ∧ PyData.canLayAll0 dds = true ∧ PyData.depthAll dds ≤ 1
  | [], _ => ⟨[], .nil, rfl, rfl, by decide⟩
  | t :: ts, h => by
    obtain ⟨dds, h1, h2, h3, h4⟩ := drops_data (ts := ts) fun u hu => h u (List.mem_cons_of_mem _ hu)
    obtain ⟨S, W, e⟩ := h t List.mem_cons_self
    refine ⟨.tuple [.int S, .int W] :: dds, .cons (.tup (SqT.of e) (.cons (.int _) (.cons (.int _) .nil))) h1, by simp [h2], ?_, ?_⟩
    · show (PyData.canLay0 (.tuple [.int S, .int W]) && PyData.canLayAll0 dds) = true
      rw [h3]; rfl
    · show max (PyData.depth (.tuple [.int S, .int W])) (PyData.depthAll dds) ≤ 1
      have : PyData.depth (.tuple [.int S, .int W]) = 1 := rfl
      omega
theorem data_shaped {dds : List PyData} (h3 : PyData.canLayAll0 dds = true) (h4 : PyData.depthAll dds ≤ 1) : SeqAt.shaped (.list dds) = true := by
  show (PyData.canLay0 (.list dds) && decide (PyData.depth (.list dds) ≤ 64)) = true
  have e1 : PyData.canLay0 (.list dds) = true := h3
  have e2 : PyData.depth (.list dds) = PyData.depthAll dds + 1 := rfl
  rw [e1, e2, decide_eq_true (by omega)]; rfl
theorem data_nil {dds : List PyData} : PyData.eqv (.list dds) (.list []) = decide (dds.length = 0) := by
  cases dds with
  | nil => rfl
  | cons d dds => rfl
/-- drops at these places -/
def DrpsAt (H : Hp) (ts : List Addr) (ds : List (Int × Int)) : Prop := ds.length = ts.length ∧ ∀ (i : Nat) (t : Addr) (S W : Int), ts[i]? = some t → ds[i]? = some (S, W) → H t = some (.tup [.int S, .int W]) ∧ 0 < W ∧ W ≤ 5000 ∧ S.natAbs ≤ 600000000
theorem DrpsAt.same {H H' : Hp} {ts : List Addr} {ds : List (Int × Int)} (h : DrpsAt H ts ds) (s : Same H H') : DrpsAt H' ts ds := ⟨h.1, fun i t S W e1 e2 => let ⟨a, b⟩ := h.2 i t S W e1 e2; ⟨s _ _ a, b⟩⟩
theorem DrpsAt.but {H H' : Hp} {ts : List Addr} {ds : List (Int × Int)} {p : Addr} (h : DrpsAt H ts ds) (hb : BoxAt H p) (k : But p H H') : DrpsAt H' ts ds := ⟨h.1, fun i t S W e1 e2 => let ⟨a, b⟩ := h.2 i t S W e1 e2; ⟨tup_but a hb k, b⟩⟩
theorem DrpsAt.at_ {H : Hp} {ts : List Addr} {ds : List (Int × Int)} {i : Nat} (h : DrpsAt H ts ds) (hi : i < ts.length) : ∃ t S W, ts[i]? = some t ∧ ds[i]? = some (S, W) ∧ H t = some (.tup [.int S, .int W]) ∧ 0 < W ∧ W ≤ 5000 ∧ S.natAbs ≤ 600000000 := by
  have e1 : ts[i]? = some ts[i] := List.getElem?_eq_getElem hi
  have e2 : ds[i]? = some (ds[i]'(by rw [h.1]; exact hi)) := List.getElem?_eq_getElem _
  exact ⟨_, _, _, e1, e2, h.2 i _ _ _ e1 e2⟩
theorem DrpsAt.updL {H : Hp} {ts : List Addr} {ds : List (Int × Int)} {l : Addr} {xs ys : List V} (h : DrpsAt H ts ds) (hl : H l = some (.lst xs)) : DrpsAt (upd H l (.lst ys)) ts ds := ⟨h.1, fun i t S W e1 e2 => let ⟨a, b⟩ := h.2 i t S W e1 e2; ⟨by rw [upd_ne (fun z => by rw [z, hl] at a; cases a)]; exact a, b⟩⟩
theorem DrpsAt.snoc {H : Hp} {ts : List Addr} {ds : List (Int × Int)} {n : Addr} {S W : Int} (h : DrpsAt H ts ds) (hn : H n = none) (W0 : 0 < W) (W1 : W ≤ 5000) (Sz : S.natAbs ≤ 600000000) : DrpsAt (upd H n (.tup [.int S, .int W])) (ts ++ [n]) (ds ++ [(S, W)]) := by
  refine ⟨by simp [h.1], fun i t S' W' e1 e2 => ?_⟩
  rcases Nat.lt_or_ge i ts.length with hi | hi
  · rw [List.getElem?_append_left hi] at e1
    rw [List.getElem?_append_left (by rw [h.1]; exact hi)] at e2
    obtain ⟨a, b⟩ := h.2 i t S' W' e1 e2
    exact ⟨same_upd hn _ _ a, b⟩
  · rw [List.getElem?_append_right hi] at e1
    rw [List.getElem?_append_right (by rw [h.1]; exact hi)] at e2
    obtain rfl : i = ts.length := by
      have := (List.getElem?_eq_some_iff.mp e1).1
      simp at this
      omega
    rw [Nat.sub_self] at e1
    rw [h.1, Nat.sub_self] at e2
    cases e1; cases e2
    exact ⟨upd_same, W0, W1, Sz⟩
theorem DrpsAt.data {K : PySem.W.Frag} {H : Hp} {ts : List Addr} {ds : List (Int × Int)} (h : DrpsAt H ts ds) : ∃ dds, DpAll K H (ts.map V.ref) dds ∧ dds.length = ts.length ∧ PyData.canLayAll0 dds = true ∧ PyData.depthAll dds ≤ 1 := drops_data fun t ht => by
  obtain ⟨i, hi, e⟩ := List.mem_iff_getElem.mp ht
  obtain ⟨t', S, W, e1, _, e2, _⟩ := h.at_ hi
  rw [List.getElem?_eq_getElem hi, e] at e1
  cases e1
  exact ⟨S, W, e2⟩
theorem last_at {ts : List Addr} (h : ts ≠ []) : ∃ tl, atI (ts.map V.ref) (-1) = some (.ref tl) ∧ ts[ts.length - 1]? = some tl := by
  rcases List.eq_nil_or_concat ts with e | ⟨us, u, rfl⟩
  · exact absurd e h
  · refine ⟨u, ?_, by simp⟩
    rw [List.concat_eq_append, List.map_append]
    exact atI_last _ _
def tchD (ds : List (Int × Int)) (j : Nat) : Prop := ∃ S W S' W', ds[j - 1]? = some (S, W) ∧ ds[j]? = some (S', W') ∧ 2 * (S' - S) ≤ W + W'
def oV : Option Nat → V
  | none => .non
  | some a => .int (a : Nat)
def spDue : Sp := fun vs H Q _ => ∃ (l : Addr) (ts : List Addr) (ds : List (Int × Int)) (r : Option Nat), vs = [.ref l] ∧ H l = some (.lst (ts.map V.ref)) ∧ DrpsAt H ts ds ∧ ts.length ≤ 1000 ∧ FirstAt (tchD ds) ds.length r ∧ Q (oV r) H
def spMom : Sp := fun vs H Q _ => ∃ (l : Addr) (ts : List Addr) (ds : List (Int × Int)), vs = [.ref l] ∧ H l = some (.lst (ts.map V.ref)) ∧ DrpsAt H ts ds ∧ ts.length ≤ 1000 ∧
  ∀ p H' (us : List Addr), Same H H' → H' p = some (.lst (us.map V.ref)) → us.length = ts.length → (∀ (i : Nat) (u : Addr) (S W : Int), us[i]? = some u → ds[i]? = some (S, W) → H' u = some (.tup [.int (S * W), .int W])) → Q (.ref p) H'
def spRow : Sp := fun vs H Q _ => ∃ p : Addr, vs = [.ref p] ∧ BoxAt H p ∧ ∀ u l (ts : List Addr) (ds : List (Int × Int)) (L : Int) H', H' u = some (.tup [.int L, .ref l]) → H' l = some (.lst (ts.map V.ref)) → DrpsAt H' ts ds → ts.length ≤ 40 → 0 < L → L ≤ 1001 → BoxAt H' p → But p H H' → Q (.ref u) H'
section
variable {P : Program} {w : World} {K : PySem.W.Frag} {mg : Str → Option Value} {base : Heap}
theorem ok_due (T : Txt K mg) : FnOk P w K mg base CX0 1 T.f_lw_due T.d_lw_due ["_law_drops"] spDue := by
  have nd := sc_lw_due.nd
  refine T.F_lw_due.ok sc_lw_due (fun vs H Q E ⟨_, _, _, _, e, _⟩ => by rw [e]; rfl) (fun cdv A outer s H vs Q E hr h => ?_)
  obtain ⟨l, ts, ds, r, rfl, hl, hD, few, hF, fin⟩ := h
  refine ⟨_, pss_cons (ps_for PassesOwn.never rfl (pi_range2 (by rfl) T.b_range (pa_cons pe_int (pa_cons (pe_callB call_len_seq (by rfl) T.b_len PySem.boot_len (pa_cons (pv 0) pa_nil)) pa_nil))) (pg_name (i := 1) nd rfl (.inl rfl))
      (pss_cons (ps_par (i := 2) (j := 3) rfl nd rfl rfl (by decide) rfl rfl (pa_cons (pe_ix ix_list (pv 0) (pe_op op_sub (pv 1) pe_int) (fun _ _ => rfl)) (pa_cons (pe_ix ix_list (pv 0) (pv 1) (fun _ _ => rfl)) pa_nil)) (by rfl))
      (pss_one (ps_if (pt_cmpR op_le (pe_op op_mulW pe_int (pe_op op_sub (pe_ix ix_tup (pv 3) pe_int (fun _ _ => rfl)) (pe_ix ix_tup (pv 2) pe_int (fun _ _ => rfl)))) (pe_op op_add (pe_ix ix_tup (pv 2) pe_int (fun _ _ => rfl)) (pe_ix ix_tup (pv 3) pe_int (fun _ _ => rfl))) (nomark _))
        (pss_one (ps_ret (pv 1))) pss_nil))))
    (pss_one (ps_ret pe_non)), ?_⟩
  have ln : (ts.map V.ref).length = ts.length := List.length_map _
  refine ⟨_, rfl, l, _, rfl, .inl (SqL.of hl), _, _, rfl, (by rw [ln]; exact ⟨by decide, by decide, by omega, by omega⟩), for_range (lo := 1) (n := ((((ts.map V.ref).length : Nat) : Int) - 1).toNat)
    (fun i σ' H' => H' = H ∧ (∀ j, 1 ≤ j → j < i + 1 → ¬ tchD ds j) ∧ ∃ v1 v2 v3 : Option V, σ' = [some (.ref l), v1, v2, v3]) ⟨rfl, fun j h1 h2 => absurd h2 (by omega), _, _, _, rfl⟩ ?_ ?_⟩
  · rintro i σ' _ hi ⟨rfl, no, v1, v2, v3, rfl⟩
    rw [ln] at hi
    obtain ⟨t1, S', W', et1, es1, tu1, W0', W1', Sz'⟩ := hD.at_ (i := i + 1) (by omega)
    obtain ⟨t0, S, W, et0, es0, tu0, W0, W1, Sz⟩ := hD.at_ (i := i) (by omega)
    have at1 : atI (ts.map V.ref) (1 + (i : Int)) = some (.ref t1) := by
      rw [show (1 + (i : Int)) = ((i + 1 : Nat) : Int) by omega]
      exact atI_nat (get_ref et1)
    have at0' : atI (ts.map V.ref) (1 + (i : Int) - 1) = some (.ref t0) := by
      rw [show (1 + (i : Int) - 1) = ((i : Nat) : Int) by omega]
      exact atI_nat (get_ref et0)
    have iff : tchD ds (i + 1) ↔ 2 * (S' - S) ≤ W + W' := ⟨fun ⟨a, b, c, d, e', e'', h⟩ => by
      rw [show i + 1 - 1 = i by omega, es0] at e'
      rw [es1] at e''
      cases e'; cases e''
      exact h, fun h => ⟨S, W, S', W', by rw [show i + 1 - 1 = i by omega]; exact es0, es1, h⟩⟩
    refine ⟨_, rfl, _, rfl, _, _, rfl, rfl, l, _, _, _, rfl, rfl, SqL.of hl, at0', _, rfl, _, rfl, l, _, _, _, rfl, rfl, SqL.of hl, at1, _, _, rfl, ?_⟩
    refine ⟨_, rfl, t1, _, 0, .int S', rfl, rfl, SqT.of tu1, rfl, _, rfl, t0, _, 0, .int S, rfl, rfl, SqT.of tu0, rfl, _, _, rfl, rfl, _, _, rfl, rfl, bd_mulW (bn2.bd (by decide)) (Bn.bd (k := 40) (show (S' - S).natAbs < 2 ^ 40 by omega) (by decide)), ?_⟩
    refine ⟨_, rfl, t0, _, 1, .int W, rfl, rfl, SqT.of tu0, rfl, _, rfl, t1, _, 1, .int W', rfl, rfl, SqT.of tu1, rfl, _, _, rfl, rfl, _, _, rfl, rfl, _, rfl, ?_⟩
    refine ite2 (fun c => ?_) (fun c => ?_)
    · have tj := iff.mpr (of_decide_eq_true c)
      have e := hF.hit (by omega) (by rw [hD.1]; omega) tj no
      subst e
      refine ⟨_, rfl, ?_⟩
      rw [show (1 + (i : Int)) = ((i + 1 : Nat) : Int) by omega]
      exact fin
    · refine ⟨rfl, fun j h1 h2 tj => ?_, _, _, _, rfl⟩
      rcases Nat.lt_or_ge j (i + 1) with q | q
      · exact no j h1 q tj
      · obtain rfl : j = i + 1 := by omega
        exact c (decide_eq_true (iff.mp tj))
  · rintro σ' _ ⟨rfl, no, _⟩
    have e : r = none := hF.miss fun j h1 h2 => no j h1 (by rw [hD.1] at h2; rw [ln]; omega)
    subst e
    exact fin
theorem ok_mom (T : Txt K mg) : FnOk P w K mg base CX0 1 T.f_lw_moments T.d_lw_moments ["_law_drops"] spMom := by
  have nd := sc_lw_moments.nd
  refine T.F_lw_moments.ok sc_lw_moments (fun vs H Q E ⟨_, _, _, e, _⟩ => by rw [e]; rfl) (fun cdv A outer s H vs Q E hr h => ?_)
  obtain ⟨l, ts, ds, rfl, hl, hD, few, fin⟩ := h
  refine ⟨_, pss_one (ps_ret (pe_lc (own := [("_law_spot", 1), ("_law_volume", 2)]) (g := gTup K 2 (gCons (gName 1) (gCons (gName 2) gNil))) (tt := tYes) (te := tTup (tCons (tOp (rI CMulW fun i j => .int (i * j)) (tVar 1) (tVar 2)) (tCons (tVar 2) tNil))) rfl nd (pi_list (pv 0))
      (blkOk_by (own := [("_law_spot", 1), ("_law_volume", 2)]) (N := ["_law_drops", "_law_spot", "_law_volume"]) (sc := defScope s_lw_moments) (by decide +kernel)) (fun _ _ _ _ _ => pg_tup rfl (pgs_cons (pg_name (i := 1) nd rfl (.inl rfl)) (pgs_cons (pg_name (i := 2) nd rfl (.inl rfl)) pgs_nil))) (fun _ _ _ _ _ => pts_nil)
      (fun _ _ _ _ _ => pe_tup (by exact (pa_cons (pe_op op_mulW (pv 1) (pv 2)) (pa_cons (pv 2) pa_nil)))))), ?_⟩
  refine ⟨_, rfl, l, rfl, ⟨_, SqL.of hl⟩, fun D hD0 => lc_list (K := K) (a := l) (xs := ts.map V.ref) (fun n G => ∃ us : List Addr, us.length = n ∧ G D = some (.lst (us.map V.ref)) ∧ Same H G ∧ ∀ (i : Nat) (u : Addr) (S W : Int), us[i]? = some u → ds[i]? = some (S, W) → G u = some (.tup [.int (S * W), .int W]))
    ⟨[], rfl, upd_same, same_upd hD0, fun i u S W e => by simp at e⟩ (fun _ G _ ⟨_, _, _, s, _⟩ => SqL.of (s _ _ hl)) ?_ ?_⟩
  · rintro n x G hx ⟨us, el, eD, sG, mem⟩
    obtain ⟨t, et, rfl⟩ := ref_get hx
    have lt : n < ts.length := (List.getElem?_eq_some_iff.mp et).1
    obtain ⟨t', S, W, et', es, tu, W0, W1, Sz⟩ := hD.at_ lt
    rw [et] at et'; cases et'
    refine ⟨t, _, rfl, SqT.of (sG _ _ tu), rfl, _, _, rfl, _, _, rfl, rfl, rfl, ?_⟩
    unfold tYes
    refine iteT ⟨_, rfl, _, rfl, _, _, rfl, rfl, bd_mulW (Bn.bd (k := 40) (show S.natAbs < 2 ^ 40 by omega) (by decide)) (Bn.bd (k := 40) (show W.natAbs < 2 ^ 40 by omega) (by decide)), _, rfl, (by show 2 ≤ sizeLine; decide), fun u hu => ?_⟩
    have su := same_upd (o := .tup [.int (S * W), .int W]) hu
    have eD2 := su _ _ eD
    refine ⟨us.map V.ref, eD2, by rw [List.length_map, el]; exact Nat.lt_of_lt_of_le (show n < 1000 by omega) (by rw [sizeLine_eq]; decide), us ++ [u], by rw [List.length_append, el]; rfl, by rw [upd_same, List.map_append]; rfl, fun b o e => ?_, fun j v S' W' ev es' => ?_⟩
    · rw [upd_ne (ne_of_none e hD0)]
      exact su _ _ (sG _ _ e)
    · have old : upd G u (.tup [.int (S * W), .int W]) v = some (.tup [.int (S' * W'), .int W']) := by
        rcases Nat.lt_or_ge j us.length with hj | hj
        · rw [List.getElem?_append_left hj] at ev
          exact su _ _ (mem j v S' W' ev es')
        · rw [List.getElem?_append_right hj] at ev
          obtain rfl : j = us.length := by
            have := (List.getElem?_eq_some_iff.mp ev).1
            simp at this
            omega
          rw [Nat.sub_self] at ev
          cases ev
          rw [el, es] at es'
          cases es'
          exact upd_same
      rw [upd_ne (fun z => by rw [z, eD2] at old; cases old)]
      exact old
  · rintro G ⟨us, el, eD, sG, mem⟩
    exact fin D G us sG eD (by rw [el, List.length_map]) mem
theorem ok_row (T : Txt K mg) : FnOk P w K mg base CX0 2 T.f_lw_row T.d_lw_row ["_law_box_here"] spRow := by
  have nd := sc_lw_row.nd
  refine T.F_lw_row.ok sc_lw_row (fun vs H Q E ⟨_, e, _⟩ => by rw [e]; rfl) (fun cdv A outer s H vs Q E hr h => ?_)
  obtain ⟨p, rfl, hb, fin⟩ := h
  refine ⟨_, pss_cons (ps_par (i := 1) (j := 2) rfl nd rfl rfl (by decide) rfl rfl (pa_cons (pe_ix ix_list (pe_lst (pa_cons pe_int (pa_cons pe_int (pa_cons pe_int (pa_cons (pe_op op_add pe_int (pe_f (E := fun _ => E0) (ok_take T) (hr.mono (by decide)) (by rfl) T.g_lw_take T.F_lw_take.kp T.B_lw_take (fun _ => at0) (pa_cons (pv 0) (pa_cons pe_int pa_nil)))) pa_nil))))) (pe_f (E := fun _ => E0) (ok_take T) (hr.mono (by decide)) (by rfl) T.g_lw_take T.F_lw_take.kp T.B_lw_take (fun _ => at0) (pa_cons (pv 0) (pa_cons pe_int pa_nil))) (fun _ _ => rfl)) (pa_cons (pe_lst pa_nil) pa_nil)) (by rfl))
    (pss_cons (ps_for PassesOwn.never rfl (pi_range1 (by rfl) T.b_range (pa_cons (pe_f (E := fun _ => E0) (ok_take T) (hr.mono (by decide)) (by rfl) T.g_lw_take T.F_lw_take.kp T.B_lw_take (fun _ => at0) (pa_cons (pv 0) (pa_cons pe_int pa_nil))) pa_nil)) (pg_name (i := 3) nd rfl (.inl rfl))
      (pss_cons (ps_par (i := 4) (j := 5) rfl nd rfl rfl (by decide) rfl rfl (pa_cons (pe_op op_add pe_int (pe_f (E := fun _ => E0) (ok_take T) (hr.mono (by decide)) (by rfl) T.g_lw_take T.F_lw_take.kp T.B_lw_take (fun _ => at0) (pa_cons (pv 0) (pa_cons (pe_ix ix_list (pe_lst (pa_cons pe_int (pa_cons pe_int pa_nil))) (pe_f (E := fun _ => E0) (ok_take T) (hr.mono (by decide)) (by rfl) T.g_lw_take T.F_lw_take.kp T.B_lw_take (fun _ => at0) (pa_cons (pv 0) (pa_cons pe_int pa_nil))) (fun _ _ => rfl)) pa_nil)))) (pa_cons (pe_f (E := fun _ => E0) (ok_take T) (hr.mono (by decide)) (by rfl) T.g_lw_take T.F_lw_take.kp T.B_lw_take (fun _ => at0) (pa_cons (pv 0) (pa_cons pe_int pa_nil))) pa_nil)) (by rfl))
      (pss_cons (ps_set (i := 6) nd rfl (.inl rfl) (pe_op op_sub (pe_f (E := fun _ => E0) (ok_take T) (hr.mono (by decide)) (by rfl) T.g_lw_take T.F_lw_take.kp T.B_lw_take (fun _ => at0) (pa_cons (pv 0) (pa_cons pe_int pa_nil))) pe_int))
      (C8.pss_cut (ps_if (pt_cmpR (op_neD hr.units) (pv 2) (pe_lst pa_nil) (nomark _))
        (pss_cons (ps_asg (pe_ix ix_list (pv 2) (pe_un un_neg pe_int) (fun _ _ => rfl)) (pg_tup rfl (pgs_cons (pg_name (i := 7) nd rfl (.inl rfl)) (pgs_cons (pg_name (i := 8) nd rfl (.inl rfl)) pgs_nil))))
        (pss_cons (ps_set (i := 4) nd rfl (.inl rfl) (pe_op op_add (pv 4) (pe_op op_mod (pe_op op_add (pv 4) (pv 8)) pe_int)))
        (pss_cons (ps_set (i := 9) nd rfl (.inl rfl) (pe_op op_fdivX (pe_op op_add (pv 4) (pv 8)) pe_int))
        (pss_cons (ps_set (i := 10) nd rfl (.inl rfl) (pe_op op_cat (pe_lst (pa_cons (pv 9) (pa_cons (pe_op op_sub (pv 9) pe_int) (pa_cons pe_int (pa_cons (pe_op op_sub pe_int (pv 9)) (pa_cons (pe_op op_sub (pe_op op_sub (pe_op op_sub pe_int (pv 9)) pe_int) (pe_f (E := fun _ => E0) (ok_take T) (hr.mono (by decide)) (by rfl) T.g_lw_take T.F_lw_take.kp T.B_lw_take (fun _ => at0) (pa_cons (pv 0) (pa_cons pe_int pa_nil)))) pa_nil)))))) (pe_op op_rep (pe_lst (pa_cons (pe_op op_add (pv 9) pe_int) pa_nil)) pe_int)))
        (pss_cons (ps_set (i := 10) nd rfl (.inl rfl) (pe_op op_cat (pv 10) (pe_op op_rep (pe_lst (pa_cons (pe_op op_add (pe_op op_add (pv 9) pe_int) (pe_f (E := fun _ => E0) (ok_take T) (hr.mono (by decide)) (by rfl) T.g_lw_take T.F_lw_take.kp T.B_lw_take (fun _ => at0) (pa_cons (pv 0) (pa_cons pe_int pa_nil)))) pa_nil)) pe_int)))
        (pss_one (ps_set (i := 6) nd rfl (.inl rfl) (pe_op op_add (pv 7) (pe_ix ix_list (pv 10) (pv 5) (fun _ _ => rfl)))))))))) pss_nil)
      (pss_one (ps_expr (pe_bm PySem.F.plainAttrs_list PySem.F.slot_list_append PySem.F.type_list_append mt_append (pv 2) (pa_cons (pe_tup (pa_cons (pv 6) (pa_cons (pv 4) pa_nil))) pa_nil))))))))
    (pss_one (ps_ret (pe_tup (pa_cons (pv 1) (pa_cons (pv 2) pa_nil)))))), ?_⟩
  have nbox : ∀ {G : Hp} {q : Addr}, BoxAt G p → G q = none → p ≠ q := fun hb hq => by obtain ⟨_, _, _, e, _⟩ := hb; exact ne_of_none e hq
  refine ⟨_, rfl, p, 1000, rfl, hb, by decide, by decide, fun d n sd c d0 d1 hb1 => ⟨_, _, rfl, rfl, (by show 4 ≤ sizeLine; decide), fun q hq => ?_⟩⟩
  refine ⟨_, rfl, p, 4, rfl, hb1.same (same_upd hq), by decide, by decide, fun d' n' sd' c' d0' d1' hb2 => ?_⟩
  obtain ⟨v, hv, u, rfl, u0, u1⟩ := menu4 (p := fun v => ∃ z : Int, v = .int z ∧ 0 < z ∧ z ≤ 1001) d0' d1' (a := .int 1) (b := .int 2) (c := .int 6) (e := .int (1 + d)) ⟨_, rfl, by decide, by decide⟩ ⟨_, rfl, by decide, by decide⟩ ⟨_, rfl, by decide, by decide⟩ ⟨_, rfl, by omega, by omega⟩
  refine ⟨q, _, _, _, rfl, rfl, SqL.of (by rw [upd_ne (nbox hb1 hq).symm]; exact upd_same), hv, Nat.zero_le _, fun l hl => ⟨_, _, rfl, ?_⟩⟩
  have k2 : But p H (upd (upd (upd H p (BoxL n sd c)) q (.lst [.int 1, .int 2, .int 6, .int (1 + d)])) p (BoxL n' sd' c')) := ((But.upd.trans (But.of (same_upd hq))).trans But.upd)
  generalize upd (upd (upd H p _) q _) p _ = G2 at hl hb2 k2
  have Hl : H l = none := by
    cases e : H l with
    | none => rfl
    | some o => have := k2 l o (nbox hb2 hl).symm e; rw [hl] at this; cases this
  have npl : p ≠ l := nbox hb2 hl
  have hb3 := hb2.same (same_upd (o := .lst []) hl)
  refine ⟨_, rfl, p, 9, rfl, hb3, by decide, by decide, fun m n3 sd3 c3 m0 m1 hb4 => ⟨_, rfl, by omega, by omega, for_range (lo := 0) (fun j σ' G => BoxAt G p ∧ But p H G ∧ ∃ (ts : List Addr) (ds : List (Int × Int)), G l = some (.lst (ts.map V.ref)) ∧ ts.length = j ∧ DrpsAt G ts ds ∧ (∀ x ∈ ds, x.1.natAbs ≤ 5000 * (j + 1) ∧ 0 < x.2 ∧ x.2 ≤ 40) ∧
      ∃ w3 w4 w5 w6 w7 w8 w9 w10 : Option V, σ' = [some (.ref p), some (.int u), some (.ref l), w3, w4, w5, w6, w7, w8, w9, w10])
    ⟨hb4, (k2.trans (But.of (same_upd hl))).trans But.upd, [], [], by rw [upd_ne npl.symm]; exact upd_same, rfl, ⟨rfl, fun i t S W e => by simp at e⟩, (fun _ h => nomatch h), _, _, _, _, _, _, _, _, rfl⟩ ?_ ?_⟩⟩
  rotate_left
  · rintro σ' G ⟨hbG, kG, ts, ds, el, len, hD, _, w3, w4, w5, w6, w7, w8, w9, w10, rfl⟩
    refine ⟨_, rfl, _, rfl, (by show 2 ≤ sizeLine; decide), fun t0 ht0 => ?_⟩
    exact fin t0 l ts ds u _ upd_same (same_upd ht0 _ _ el) (hD.same (same_upd ht0)) (by omega) u0 u1 (hbG.same (same_upd ht0)) (kG.trans (But.of (same_upd ht0)))
  rintro j σ' G hj ⟨hbG, kG, ts, ds, el, len, hD, num, w3, w4, w5, w6, w7, w8, w9, w10, rfl⟩
  refine ⟨_, rfl, (by show 2 ≤ sizeLine; decide), fun q5 hq5 => ?_⟩
  refine ⟨_, rfl, p, 2, rfl, hbG.same (same_upd hq5), by decide, by decide, fun e n6 sd6 c6 e0 e1 hb6 => ?_⟩
  obtain ⟨v, hv, zz, rfl, z0, z1⟩ := menu2 (p := fun v => ∃ z : Int, v = .int z ∧ 0 < z ∧ z ≤ 30) e0 e1 (a := .int 4) (b := .int 30) ⟨_, rfl, by decide, by decide⟩ ⟨_, rfl, by decide, by decide⟩
  refine ⟨q5, _, _, _, rfl, rfl, SqL.of (by rw [upd_ne (nbox hbG hq5).symm]; exact upd_same), hv, ?_⟩
  refine ⟨p, zz, rfl, hb6, z0, by omega, fun vol n7 sd7 c7 vol0 vol1 hb7 => ⟨_, _, rfl, rfl, ?_⟩⟩
  refine ⟨_, rfl, p, 12, rfl, hb7, by decide, by decide, fun f n8 sd8 c8 f0 f1 hb8 => ⟨_, _, rfl, ?_⟩⟩
  refine ⟨_, rfl, p, 61, rfl, hb8, by decide, by decide, fun sp n9 sd9 c9 sp0 sp1 hb9 => ⟨_, _, rfl, rfl, ?_⟩⟩
  have k9 : But p G (upd (upd (upd (upd (upd G q5 (.lst [.int 4, .int 30])) p (BoxL n6 sd6 c6)) p (BoxL n7 sd7 c7)) p (BoxL n8 sd8 c8)) p (BoxL n9 sd9 c9)) := (((((But.of (same_upd hq5)).trans But.upd).trans But.upd).trans But.upd).trans But.upd)
  generalize upd (upd (upd (upd (upd G q5 _) p _) p _) p _) p _ = G9 at hb9 k9
  have el9 : G9 l = some (.lst (ts.map V.ref)) := k9 l _ npl.symm el
  have hD9 := hD.but hbG k9
  refine ⟨fun σ' G' => But p G9 G' ∧ BoxAt G' p ∧ ∃ (W S : Int) (o7 o8 o9 o10 : Option V), 0 < W ∧ W ≤ 40 ∧ S.natAbs ≤ 5000 * (j + 2) ∧ σ' = [some (.ref p), some (.int u), some (.ref l), some (.int (0 + (j : Int))), some (.int W), some (.int f), some (.int S), o7, o8, o9, o10], ?_, ?_⟩
  · refine ⟨_, rfl, Nat.zero_le _, fun e he => ?_⟩
    have se := same_upd (o := .lst []) he
    obtain ⟨dds, hdp, dl, dc, dd⟩ := (hD9.same se).data (K := K)
    refine ⟨.list dds, .list [], .lst (SqL.of (se _ _ el9)) hdp, .lst (SqL.of upd_same) .nil, data_shaped dc dd, rfl, _, rfl, ?_⟩
    rw [data_nil, dl]
    have be := hb9.same se
    have le := se _ _ el9
    have kE : But p G9 (upd G9 e (.lst [])) := But.of se
    by_cases z : ts.length = 0
    · refine if_false_ (by simp [z]) ⟨kE, be, 1 + vol, sp - 30, _, _, _, _, by omega, by omega, by omega, rfl⟩
    refine (if_pos (by simp [z])).mpr ?_
    have nz : ts ≠ [] := fun z' => z (by rw [z']; rfl)
    obtain ⟨tl, hat, htl⟩ := last_at nz
    obtain ⟨t', S0, W0, et', es, tu, _, _, _⟩ := hD9.at_ (i := ts.length - 1) (by omega)
    rw [htl] at et'; cases et'
    obtain ⟨Sz0, W00, W01⟩ := num _ (List.mem_of_getElem? es)
    simp only at Sz0 W00 W01
    refine ⟨_, rfl, _, rfl, l, _, -1, _, rfl, rfl, SqL.of le, hat, tl, _, rfl, SqT.of (se _ _ tu), rfl, _, _, rfl, _, _, rfl, rfl, ?_⟩
    have e2 := Int.emod_nonneg (1 + vol + W0) (b := 2) (by decide)
    have e3 := Int.emod_lt_of_pos (1 + vol + W0) (b := 2) (by decide)
    refine ⟨_, rfl, _, rfl, _, rfl, _, _, rfl, rfl, _, _, rfl, rfl, (by show (0 : Int) < 2; decide), _, _, rfl, rfl, ?_⟩
    refine ⟨_, rfl, _, rfl, _, _, rfl, rfl, _, _, rfl, rfl, ⟨by decide, by decide⟩, ?_⟩
    have hf : 0 ≤ ((1 + vol + (1 + vol + W0) % 2 + W0).fdiv 2) ∧ ((1 + vol + (1 + vol + W0) % 2 + W0).fdiv 2) ≤ 40 := by rw [Int.fdiv_eq_ediv_of_nonneg _ (by decide)]; omega
    refine ⟨_, rfl, _, rfl, _, _, rfl, rfl, _, rfl, _, _, rfl, rfl, _, rfl, _, _, rfl, rfl, _, _, rfl, rfl, _, rfl, p, 4000, rfl, be, by decide, by decide, fun a4 n10 sd10 c10 a40 a41 hb10 => ⟨_, _, rfl, rfl, (by show 5 ≤ sizeLine; decide), fun q1 hq1 => ?_⟩⟩
    have s1 := same_upd (o := .lst [.int ((1 + vol + (1 + vol + W0) % 2 + W0).fdiv 2), .int (((1 + vol + (1 + vol + W0) % 2 + W0).fdiv 2) - 1), .int 0, .int (0 - ((1 + vol + (1 + vol + W0) % 2 + W0).fdiv 2)), .int (0 - ((1 + vol + (1 + vol + W0) % 2 + W0).fdiv 2) - 1 - a4)]) hq1
    refine ⟨_, rfl, _, _, rfl, rfl, (by show 1 ≤ sizeLine; decide), fun q2 hq2 => ?_⟩
    have s2 := same_upd (o := .lst [.int (((1 + vol + (1 + vol + W0) % 2 + W0).fdiv 2) + 1)]) hq2
    refine ⟨q2, 3, _, rfl, rfl, upd_same, by decide, by decide, (by show 1 * 3 ≤ sizeLine; decide), fun q3 hq3 => ?_⟩
    have s3 := same_upd (o := .lst (List.replicate (3 : Int).toNat [V.int (((1 + vol + (1 + vol + W0) % 2 + W0).fdiv 2) + 1)]).flatten) hq3
    refine ⟨q1, q3, _, _, rfl, rfl, s3 _ _ (s2 _ _ upd_same), upd_same, (by show 5 + 3 ≤ sizeLine; decide), fun q4 hq4 => ?_⟩
    have s4 := same_upd (o := .lst ([V.int ((1 + vol + (1 + vol + W0) % 2 + W0).fdiv 2), .int (((1 + vol + (1 + vol + W0) % 2 + W0).fdiv 2) - 1), .int 0, .int (0 - ((1 + vol + (1 + vol + W0) % 2 + W0).fdiv 2)), .int (0 - ((1 + vol + (1 + vol + W0) % 2 + W0).fdiv 2) - 1 - a4)] ++ (List.replicate (3 : Int).toNat [V.int (((1 + vol + (1 + vol + W0) % 2 + W0).fdiv 2) + 1)]).flatten)) hq4
    have hb11 := hb10.same (((s1.trans s2).trans s3).trans s4)
    have k11 := (kE.trans (But.upd (o := BoxL n10 sd10 c10))).trans (But.of (p := p) (((s1.trans s2).trans s3).trans s4))
    have nq4 : q4 ≠ p := box_ne (hb10.same ((s1.trans s2).trans s3)) hq4
    refine ⟨_, rfl, _, rfl, _, _, rfl, rfl, _, rfl, p, 20, rfl, hb11, by decide, by decide, fun a5 n12 sd12 c12 a50 a51 hb12 => ⟨_, _, rfl, rfl, (by show 1 ≤ sizeLine; decide), fun q5 hq5 => ?_⟩⟩
    have s5 := same_upd (o := .lst [.int (((1 + vol + (1 + vol + W0) % 2 + W0).fdiv 2) + 1 + a5)]) hq5
    refine ⟨q5, 4, _, rfl, rfl, upd_same, by decide, by decide, (by show 1 * 4 ≤ sizeLine; decide), fun q6 hq6 => ?_⟩
    have s6 := same_upd (o := .lst (List.replicate (4 : Int).toNat [V.int (((1 + vol + (1 + vol + W0) % 2 + W0).fdiv 2) + 1 + a5)]).flatten) hq6
    refine ⟨q4, q6, _, _, rfl, rfl, s6 _ _ (s5 _ _ (by rw [upd_ne nq4]; exact upd_same)), upd_same, (by show 8 + 4 ≤ sizeLine; decide), fun q7 hq7 => ?_⟩
    obtain ⟨v, hv, z, rfl, zz⟩ := menuL (p := fun v => ∃ z : Int, v = .int z ∧ z.natAbs ≤ 4100) (xs := ([V.int ((1 + vol + (1 + vol + W0) % 2 + W0).fdiv 2), .int (((1 + vol + (1 + vol + W0) % 2 + W0).fdiv 2) - 1), .int 0, .int (0 - ((1 + vol + (1 + vol + W0) % 2 + W0).fdiv 2)), .int (0 - ((1 + vol + (1 + vol + W0) % 2 + W0).fdiv 2) - 1 - a4)] ++ (List.replicate (3 : Int).toNat [V.int (((1 + vol + (1 + vol + W0) % 2 + W0).fdiv 2) + 1)]).flatten) ++ (List.replicate (4 : Int).toNat [V.int (((1 + vol + (1 + vol + W0) % 2 + W0).fdiv 2) + 1 + a5)]).flatten) (d := f) (fun x hx => by
      have hx : x ∈ [V.int ((1 + vol + (1 + vol + W0) % 2 + W0).fdiv 2), .int (((1 + vol + (1 + vol + W0) % 2 + W0).fdiv 2) - 1), .int 0, .int (0 - ((1 + vol + (1 + vol + W0) % 2 + W0).fdiv 2)), .int (0 - ((1 + vol + (1 + vol + W0) % 2 + W0).fdiv 2) - 1 - a4), .int (((1 + vol + (1 + vol + W0) % 2 + W0).fdiv 2) + 1), .int (((1 + vol + (1 + vol + W0) % 2 + W0).fdiv 2) + 1), .int (((1 + vol + (1 + vol + W0) % 2 + W0).fdiv 2) + 1), .int (((1 + vol + (1 + vol + W0) % 2 + W0).fdiv 2) + 1 + a5), .int (((1 + vol + (1 + vol + W0) % 2 + W0).fdiv 2) + 1 + a5), .int (((1 + vol + (1 + vol + W0) % 2 + W0).fdiv 2) + 1 + a5), .int (((1 + vol + (1 + vol + W0) % 2 + W0).fdiv 2) + 1 + a5)] := hx
      simp only [List.mem_cons, List.not_mem_nil, or_false] at hx
      rcases hx with rfl | rfl | rfl | rfl | rfl | rfl | rfl | rfl | rfl | rfl | rfl | rfl <;> exact ⟨_, rfl, by omega⟩) f0 f1
    have s7 := same_upd (o := .lst (([V.int ((1 + vol + (1 + vol + W0) % 2 + W0).fdiv 2), .int (((1 + vol + (1 + vol + W0) % 2 + W0).fdiv 2) - 1), .int 0, .int (0 - ((1 + vol + (1 + vol + W0) % 2 + W0).fdiv 2)), .int (0 - ((1 + vol + (1 + vol + W0) % 2 + W0).fdiv 2) - 1 - a4)] ++ (List.replicate (3 : Int).toNat [V.int (((1 + vol + (1 + vol + W0) % 2 + W0).fdiv 2) + 1)]).flatten) ++ (List.replicate (4 : Int).toNat [V.int (((1 + vol + (1 + vol + W0) % 2 + W0).fdiv 2) + 1 + a5)]).flatten)) hq7
    refine ⟨_, rfl, _, rfl, _, rfl, q7, _, _, _, rfl, rfl, SqL.of upd_same, hv, _, _, rfl, rfl, ?_⟩
    exact ⟨(k11.trans But.upd).trans (But.of ((s5.trans s6).trans s7)), hb12.same ((s5.trans s6).trans s7), (1 + vol + (1 + vol + W0) % 2), S0 + z, _, _, _, _, by omega, by omega, by omega, rfl⟩
  rintro _ G' ⟨kG', hbG', W, S, o7, o8, o9, o10, W0, W1, Sz, rfl⟩
  have elG := lst_but el9 npl.symm kG'
  have hDG := hD9.but hb9 kG'
  refine ⟨_, rfl, .inl ⟨rfl, _, SqL.of elG⟩, _, rfl, _, rfl, (by show 2 ≤ sizeLine; decide), fun tn htn => ?_⟩
  have elN := same_upd (o := .tup [.int S, .int W]) htn _ _ elG
  refine ⟨l, _, _, rfl, rfl, elN, (by rw [List.length_map, len]; exact Nat.lt_of_lt_of_le (show j < 10 by omega) (by rw [sizeLine_eq]; decide)), ?_⟩
  have sN := same_upd (o := .tup [.int S, .int W]) htn
  refine ⟨?_, fun b o nb e => ?_, ts ++ [tn], ds ++ [(S, W)], ?_, ?_, ?_, fun x hx => ?_, _, _, _, _, _, _, _, _, rfl⟩
  · obtain ⟨n, s0, c0, e, r⟩ := hbG'.same sN
    exact ⟨n, s0, c0, by rw [upd_ne npl]; exact e, r⟩
  · rw [upd_ne (ne_of_none e Hl)]
    exact ((kG.trans k9).trans (kG'.trans (But.of sN))) b o nb e
  · rw [upd_same, List.map_append]; rfl
  · rw [List.length_append, len]; rfl
  · exact (hDG.snoc htn W0 (by omega) (by omega)).updL elN
  · rcases List.mem_append.mp hx with h | h
    · obtain ⟨a1, a2, a3⟩ := num x h
      exact ⟨by omega, a2, a3⟩
    · rw [List.mem_singleton.mp h]
      exact ⟨by show S.natAbs ≤ _; omega, W0, W1⟩
theorem ok_lrow (T : Txt K mg) : FnOk P w K mg base CX0 2 T.f_lw_long_row T.d_lw_long_row ["_law_box_here"] spRow := by
  have nd := sc_lw_long_row.nd
  refine T.F_lw_long_row.ok sc_lw_long_row (fun vs H Q E ⟨_, e, _⟩ => by rw [e]; rfl) (fun cdv A outer s H vs Q E hr h => ?_)
  obtain ⟨p, rfl, hb, fin⟩ := h
  refine ⟨_, pss_cons (ps_par (i := 1) (j := 2) rfl nd rfl rfl (by decide) rfl rfl (pa_cons (pe_op op_add pe_int (pe_f (E := fun _ => E0) (ok_take T) (hr.mono (by decide)) (by rfl) T.g_lw_take T.F_lw_take.kp T.B_lw_take (fun _ => at0) (pa_cons (pv 0) (pa_cons pe_int pa_nil)))) (pa_cons (pe_lst pa_nil) pa_nil)) (by rfl))
    (pss_cons (ps_set (i := 3) nd rfl (.inl rfl) (pe_op op_mul (pe_op op_add pe_int (pe_f (E := fun _ => E0) (ok_take T) (hr.mono (by decide)) (by rfl) T.g_lw_take T.F_lw_take.kp T.B_lw_take (fun _ => at0) (pa_cons (pv 0) (pa_cons (pe_op op_sub (pv 1) pe_int) pa_nil)))) (pe_callTy call_int1 (by rfl) T.b_int (by decide +kernel) (pa_cons (pe_cmpR op_gt (pe_f (E := fun _ => E0) (ok_take T) (hr.mono (by decide)) (by rfl) T.g_lw_take T.F_lw_take.kp T.B_lw_take (fun _ => at0) (pa_cons (pv 0) (pa_cons pe_int pa_nil))) pe_int (nomark _)) pa_nil))))
    (pss_cons (ps_for PassesOwn.never rfl (pi_range1 (by rfl) T.b_range (pa_cons (pv 1) pa_nil)) (pg_name (i := 4) nd rfl (.inl rfl))
      (pss_cons (ps_par (i := 5) (j := 6) rfl nd rfl rfl (by decide) rfl rfl (pa_cons (pe_op op_sub (pe_f (E := fun _ => E0) (ok_take T) (hr.mono (by decide)) (by rfl) T.g_lw_take T.F_lw_take.kp T.B_lw_take (fun _ => at0) (pa_cons (pv 0) (pa_cons pe_int pa_nil))) pe_int) (pa_cons (pe_op op_add pe_int (pe_op op_mul pe_int (pe_f (E := fun _ => E0) (ok_take T) (hr.mono (by decide)) (by rfl) T.g_lw_take T.F_lw_take.kp T.B_lw_take (fun _ => at0) (pa_cons (pv 0) (pa_cons pe_int pa_nil))))) pa_nil)) (by rfl))
      (C8.pss_cut (ps_if (pt_cmpR (op_neD hr.units) (pv 2) (pe_lst pa_nil) (nomark _))
        (pss_cons (ps_asg (pe_ix ix_list (pv 2) (pe_un un_neg pe_int) (fun _ _ => rfl)) (pg_tup rfl (pgs_cons (pg_name (i := 7) nd rfl (.inl rfl)) (pgs_cons (pg_name (i := 8) nd rfl (.inl rfl)) pgs_nil))))
        (pss_cons (ps_set (i := 9) nd rfl (.inl rfl) (pe_op op_fdivX (pe_op op_add (pv 6) (pv 8)) pe_int))
        (pss_cons (ps_set (i := 5) nd rfl (.inl rfl) (pe_op op_add (pe_op op_add (pe_op op_add (pv 7) (pv 9)) pe_int) (pe_f (E := fun _ => E0) (ok_take T) (hr.mono (by decide)) (by rfl) T.g_lw_take T.F_lw_take.kp T.B_lw_take (fun _ => at0) (pa_cons (pv 0) (pa_cons pe_int pa_nil)))))
        (pss_one (ps_if (pt_cmpR op_eq (pv 4) (pv 3) (nomark _))
          (pss_one (ps_set (i := 5) nd rfl (.inl rfl) (pe_op op_add (pv 7) (pe_ix ix_list (pe_lst (pa_cons (pv 9) (pa_cons (pe_op op_sub (pv 9) pe_int) (pa_cons pe_int (pa_cons (pe_op op_sub (pe_op op_sub (pe_op op_sub pe_int (pv 9)) pe_int) (pe_f (E := fun _ => E0) (ok_take T) (hr.mono (by decide)) (by rfl) T.g_lw_take T.F_lw_take.kp T.B_lw_take (fun _ => at0) (pa_cons (pv 0) (pa_cons pe_int pa_nil)))) pa_nil))))) (pe_f (E := fun _ => E0) (ok_take T) (hr.mono (by decide)) (by rfl) T.g_lw_take T.F_lw_take.kp T.B_lw_take (fun _ => at0) (pa_cons (pv 0) (pa_cons pe_int pa_nil))) (fun _ _ => rfl)))))
          pss_nil))))) pss_nil)
      (pss_one (ps_expr (pe_bm PySem.F.plainAttrs_list PySem.F.slot_list_append PySem.F.type_list_append mt_append (pv 2) (pa_cons (pe_tup (pa_cons (pv 5) (pa_cons (pv 6) pa_nil))) pa_nil)))))))
    (pss_one (ps_ret (pe_tup (pa_cons (pe_ix ix_list (pe_lst (pa_cons pe_int (pa_cons pe_int (pa_cons (pe_op op_add pe_int (pe_f (E := fun _ => E0) (ok_take T) (hr.mono (by decide)) (by rfl) T.g_lw_take T.F_lw_take.kp T.B_lw_take (fun _ => at0) (pa_cons (pv 0) (pa_cons pe_int pa_nil)))) pa_nil)))) (pe_f (E := fun _ => E0) (ok_take T) (hr.mono (by decide)) (by rfl) T.g_lw_take T.F_lw_take.kp T.B_lw_take (fun _ => at0) (pa_cons (pv 0) (pa_cons pe_int pa_nil))) (fun _ _ => rfl)) (pa_cons (pv 2) pa_nil))))))), ?_⟩
  have nbox : ∀ {G : Hp} {q : Addr}, BoxAt G p → G q = none → p ≠ q := fun hb hq => by obtain ⟨_, _, _, e, _⟩ := hb; exact ne_of_none e hq
  refine ⟨_, rfl, p, 32, rfl, hb, by decide, by decide, fun m n sd c m0 m1 hb1 => ⟨_, _, rfl, rfl, Nat.zero_le _, fun l hl => ⟨_, _, rfl, ?_⟩⟩⟩
  have npl : p ≠ l := nbox hb1 hl
  have Hl : H l = none := by
    cases e : H l with
    | none => rfl
    | some o => have e2 := But.upd (o := BoxL n sd c) l o npl.symm e; rw [hl] at e2; cases e2
  have hb2 := hb1.same (same_upd (o := .lst []) hl)
  have k2 : But p H (upd (upd H p (BoxL n sd c)) l (.lst [])) := But.upd.trans (But.of (same_upd hl))
  have l2 : upd (upd H p (BoxL n sd c)) l (.lst []) l = some (.lst []) := upd_same
  generalize upd (upd H p _) l _ = G2 at hb2 k2 l2
  refine ⟨_, rfl, _, rfl, _, _, rfl, rfl, p, 9 + m - 1, rfl, hb2, by omega, by omega, fun wr n3 sd3 c3 wr0 wr1 hb3 => ⟨_, _, rfl, rfl, _, rfl, p, 4, rfl, hb3, by decide, by decide, fun wq n4 sd4 c4 wq0 wq1 hb4 => ⟨_, _, rfl, rfl, .inr ⟨_, rfl, _, _, rfl, rfl, .inl ⟨by omega, by omega⟩, ?_⟩⟩⟩⟩
  have l4 : upd (upd G2 p (BoxL n3 sd3 c3)) p (BoxL n4 sd4 c4) l = some (.lst []) := by rw [upd_ne npl.symm, upd_ne npl.symm]; exact l2
  have k4 : But p H (upd (upd G2 p (BoxL n3 sd3 c3)) p (BoxL n4 sd4 c4)) := (k2.trans But.upd).trans But.upd
  generalize upd (upd G2 p _) p _ = G4 at hb4 l4 k4
  refine ⟨_, rfl, _, rfl, by omega, by omega, for_range (lo := 0) (fun j σ' G => BoxAt G p ∧ But p H G ∧ ∃ (ts : List Addr) (ds : List (Int × Int)), G l = some (.lst (ts.map V.ref)) ∧ ts.length = j ∧ DrpsAt G ts ds ∧ (∀ x ∈ ds, x.1.natAbs ≤ 5000 * (j + 1) ∧ 0 < x.2 ∧ x.2 ≤ 40) ∧
      ∃ (w3 : Int) (w4 w5 w6 w7 w8 w9 : Option V), σ' = [some (.ref p), some (.int (9 + m)), some (.ref l), some (.int w3), w4, w5, w6, w7, w8, w9])
    ⟨hb4, k4, [], [], l4, rfl, ⟨rfl, fun i t S W e => by simp at e⟩, (fun _ h => nomatch h), _, _, _, _, _, _, _, rfl⟩ ?_ ?_⟩
  rotate_left
  · rintro σ' G ⟨hbG, kG, ts, ds, el, len, hD, _, w3, w4, w5, w6, w7, w8, w9, rfl⟩
    refine ⟨_, rfl, p, 1000, rfl, hbG, by decide, by decide, fun d n5 sd5 c5 d0 d1 hb5 => ⟨_, _, rfl, rfl, (by show 3 ≤ sizeLine; decide), fun q hq => ?_⟩⟩
    refine ⟨_, rfl, p, 3, rfl, hb5.same (same_upd hq), by decide, by decide, fun d' n6 sd6 c6 d0' d1' hb6 => ?_⟩
    obtain ⟨v, hv, u, rfl, u0, u1⟩ := menu3 (p := fun v => ∃ z : Int, v = .int z ∧ 0 < z ∧ z ≤ 1001) d0' d1' (a := .int 1) (b := .int 6) (c := .int (1 + d)) ⟨_, rfl, by decide, by decide⟩ ⟨_, rfl, by decide, by decide⟩ ⟨_, rfl, by omega, by omega⟩
    have k6 : But p G (upd (upd (upd G p (BoxL n5 sd5 c5)) q (.lst [.int 1, .int 6, .int (1 + d)])) p (BoxL n6 sd6 c6)) := ((But.upd.trans (But.of (same_upd hq))).trans But.upd)
    refine ⟨q, _, _, _, rfl, rfl, SqL.of (by rw [upd_ne (nbox hb5 hq).symm]; exact upd_same), hv, ?_⟩
    generalize upd (upd (upd G p _) q _) p _ = G6 at hb6 k6
    refine ⟨_, rfl, (by show 2 ≤ sizeLine; decide), fun t0 ht0 => ?_⟩
    have st := same_upd (o := .tup [.int u, .ref l]) ht0
    exact fin t0 l ts ds u _ upd_same (st _ _ (lst_but el npl.symm k6)) ((hD.but hbG k6).same st) (by omega) u0 u1 (hb6.same st) ((kG.trans k6).trans (But.of st))
  rintro j σ' G hj ⟨hbG, kG, ts, ds, el, len, hD, num, w3, w4, w5, w6, w7, w8, w9, rfl⟩
  refine ⟨_, rfl, p, 41, rfl, hbG, by decide, by decide, fun sp n7 sd7 c7 sp0 sp1 hb7 => ⟨_, _, rfl, rfl, _, rfl, p, 3, rfl, hb7, by decide, by decide, fun vo n8 sd8 c8 vo0 vo1 hb8 => ⟨_, _, rfl, rfl, .inl ⟨by decide, by decide⟩, _, _, rfl, rfl, _, _, rfl, ?_⟩⟩⟩
  have k9 : But p G (upd (upd G p (BoxL n7 sd7 c7)) p (BoxL n8 sd8 c8)) := But.upd.trans But.upd
  generalize upd (upd G p _) p _ = G9 at hb8 k9
  have el9 : G9 l = some (.lst (ts.map V.ref)) := k9 l _ npl.symm el
  have hD9 := hD.but hbG k9
  refine ⟨fun σ' G' => But p G9 G' ∧ BoxAt G' p ∧ ∃ (W S : Int) (o7 o8 o9 : Option V), 0 < W ∧ W ≤ 40 ∧ S.natAbs ≤ 5000 * (j + 2) ∧ σ' = [some (.ref p), some (.int (9 + m)), some (.ref l), some (.int w3), some (.int (0 + (j : Int))), some (.int S), some (.int W), o7, o8, o9], ?_, ?_⟩
  · refine ⟨_, rfl, Nat.zero_le _, fun e he => ?_⟩
    have se := same_upd (o := .lst []) he
    obtain ⟨dds, hdp, dl, dc, dd⟩ := (hD9.same se).data (K := K)
    refine ⟨.list dds, .list [], .lst (SqL.of (se _ _ el9)) hdp, .lst (SqL.of upd_same) .nil, data_shaped dc dd, rfl, _, rfl, ?_⟩
    rw [data_nil, dl]
    have be := hb8.same se
    have le := se _ _ el9
    have kE : But p G9 (upd G9 e (.lst [])) := But.of se
    by_cases z : ts.length = 0
    · refine if_false_ (by simp [z]) ⟨kE, be, 2 + 2 * vo, sp - 20, _, _, _, by omega, by omega, by omega, rfl⟩
    refine (if_pos (by simp [z])).mpr ?_
    have nz : ts ≠ [] := fun z' => z (by rw [z']; rfl)
    obtain ⟨tl, hat, htl⟩ := last_at nz
    obtain ⟨t', S0, W0, et', es, tu, _, _, _⟩ := hD9.at_ (i := ts.length - 1) (by omega)
    rw [htl] at et'; cases et'
    obtain ⟨Sz0, W00, W01⟩ := num _ (List.mem_of_getElem? es)
    simp only at Sz0 W00 W01
    refine ⟨_, rfl, _, rfl, l, _, -1, _, rfl, rfl, SqL.of le, hat, tl, _, rfl, SqT.of (se _ _ tu), rfl, _, _, rfl, _, _, rfl, rfl, ?_⟩
    refine ⟨_, rfl, _, rfl, _, _, rfl, rfl, _, _, rfl, rfl, ⟨by decide, by decide⟩, ?_⟩
    have hf : 0 ≤ ((2 + 2 * vo + W0).fdiv 2) ∧ ((2 + 2 * vo + W0).fdiv 2) ≤ 40 := by rw [Int.fdiv_eq_ediv_of_nonneg _ (by decide)]; omega
    refine ⟨_, rfl, _, rfl, _, _, rfl, rfl, _, _, rfl, rfl, _, rfl, p, 3, rfl, be, by decide, by decide, fun a3 n10 sd10 c10 a30 a31 hb10 => ⟨_, _, rfl, rfl, ?_⟩⟩
    have k10 := kE.trans (But.upd (o := BoxL n10 sd10 c10))
    refine ⟨_, rfl, _, rfl, rfl, _, rfl, ?_⟩
    refine ite2 (fun _ => ?_) (fun _ => ⟨k10, hb10, 2 + 2 * vo, S0 + ((2 + 2 * vo + W0).fdiv 2) + 1 + a3, _, _, _, by omega, by omega, by omega, rfl⟩)
    refine ⟨_, rfl, _, rfl, _, rfl, _, _, rfl, rfl, _, rfl, _, _, rfl, rfl, _, _, rfl, rfl, _, rfl, p, 4000, rfl, hb10, by decide, by decide, fun a4 n11 sd11 c11 a40 a41 hb11 => ⟨_, _, rfl, rfl, (by show 4 ≤ sizeLine; decide), fun q1 hq1 => ?_⟩⟩
    have s1 := same_upd (o := .lst [.int ((2 + 2 * vo + W0).fdiv 2), .int (((2 + 2 * vo + W0).fdiv 2) - 1), .int 0, .int (0 - ((2 + 2 * vo + W0).fdiv 2) - 1 - a4)]) hq1
    have nq1 : q1 ≠ p := box_ne hb11 hq1
    refine ⟨_, rfl, p, 4, rfl, hb11.same s1, by decide, by decide, fun a5 n12 sd12 c12 a50 a51 hb12 => ?_⟩
    obtain ⟨v, hv, z, rfl, zz⟩ := menu4 (p := fun v => ∃ z : Int, v = .int z ∧ z.natAbs ≤ 4100) a50 a51 (a := .int ((2 + 2 * vo + W0).fdiv 2)) (b := .int (((2 + 2 * vo + W0).fdiv 2) - 1)) (c := .int 0) (e := .int (0 - ((2 + 2 * vo + W0).fdiv 2) - 1 - a4)) ⟨_, rfl, by omega⟩ ⟨_, rfl, by omega⟩ ⟨_, rfl, by decide⟩ ⟨_, rfl, by omega⟩
    refine ⟨q1, _, _, _, rfl, rfl, SqL.of (by rw [upd_ne nq1]; exact upd_same), hv, _, _, rfl, rfl, ?_⟩
    exact ⟨((k10.trans But.upd).trans (But.of s1)).trans But.upd, hb12, 2 + 2 * vo, S0 + z, _, _, _, by omega, by omega, by omega, rfl⟩
  rintro _ G' ⟨kG', hbG', W, S, o7, o8, o9, W0, W1, Sz, rfl⟩
  have elG := lst_but el9 npl.symm kG'
  have hDG := hD9.but hb8 kG'
  refine ⟨_, rfl, .inl ⟨rfl, _, SqL.of elG⟩, _, rfl, _, rfl, (by show 2 ≤ sizeLine; decide), fun tn htn => ?_⟩
  have elN := same_upd (o := .tup [.int S, .int W]) htn _ _ elG
  refine ⟨l, _, _, rfl, rfl, elN, (by rw [List.length_map, len]; exact Nat.lt_of_lt_of_le (show j < 50 by omega) (by rw [sizeLine_eq]; decide)), ?_⟩
  have sN := same_upd (o := .tup [.int S, .int W]) htn
  refine ⟨?_, fun b o nb e => ?_, ts ++ [tn], ds ++ [(S, W)], ?_, ?_, ?_, fun x hx => ?_, _, _, _, _, _, _, _, rfl⟩
  · obtain ⟨n, s0, c0, e, r⟩ := hbG'.same sN
    exact ⟨n, s0, c0, by rw [upd_ne npl]; exact e, r⟩
  · rw [upd_ne (ne_of_none e Hl)]
    exact ((kG.trans k9).trans (kG'.trans (But.of sN))) b o nb e
  · rw [upd_same, List.map_append]; rfl
  · rw [List.length_append, len]; rfl
  · exact (hDG.snoc htn W0 (by omega) (by omega)).updL elN
  · rcases List.mem_append.mp hx with h | h
    · obtain ⟨a1, a2, a3⟩ := num x h
      exact ⟨by omega, a2, a3⟩
    · rw [List.mem_singleton.mp h]
      exact ⟨by show S.natAbs ≤ _; omega, W0, W1⟩
theorem exm_tou (T : Txt K mg) : PySem.W.exmOne K (.ref T.C_Touching) (.ref T.C_Touching) = some true := by
  have e1 : (PySem.W.subIn K (.ref T.C_Touching) (.type "BaseException") == some true) = true := by rw [T.ox_Touching.exC]; exact beq_self_eq_true _
  have e2 : ((PySem.W.clsIn K T.C_Touching).isSome && PySem.W.typeIn K (.ref T.C_Touching) == some (.type "type")) = true := by
    rw [show (PySem.W.clsIn K T.C_Touching).isSome = true from T.ic_Touching, T.ox_Touching.tyC]; exact beq_self_eq_true _
  show (if (PySem.W.subIn K (.ref T.C_Touching) (.type "BaseException") == some true) = true then (if ((PySem.W.clsIn K T.C_Touching).isSome && PySem.W.typeIn K (.ref T.C_Touching) == some (.type "type")) = true then PySem.W.subIn K (.ref T.C_Touching) (.ref T.C_Touching) else none) else none) = some true
  rw [if_pos e1, if_pos e2]
  exact T.ss_Touching
theorem xidx (v : V) : List.lookup ("index" : Str) [(("index" : Str), v)] = some v := by simp [List.lookup]
def spMade (K : PySem.W.Frag) (CW CP C : Addr) : Sp := fun vs H Q _ => ∃ (t : Addr) (qs : List Addr) (ps : List Qd) (n : Nat) (r : Option Nat), vs = [.ref t] ∧ (SqL K H t (qs.map V.ref) ∨ SqT K H t (qs.map V.ref)) ∧ qs.length ≤ 1000000 ∧ PlsAt CP C H n qs ps ∧ n ≤ 200 ∧ FirstAt (tchP ps) ps.length r ∧
  (r = none → ∀ w H', Same H H' → WatAt K CW H' w qs → Q (.ref w) H') ∧ (∀ j, r = some j → ∀ q H', Same H H' → H' q = some (.tup [.str "touching", .int (j : Nat)]) → Q (.ref q) H')
theorem ok_made (T : Txt K mg) : FnOk P w K mg base CX0 11 T.f_lw_made T.d_lw_made ["_law_some"] (spMade K T.C_Water T.C_Pool T.C_Ratio) := by
  obtain ⟨its, kbw⟩ := kb_wat T
  have nd := sc_lw_made.nd
  have M : Mk K T.C_Water T.f_Water_init_d := ⟨T.mk_Water, T.m_Water_init_d.at_, T.m_Water_init_d.fn, T.kp_Water⟩
  refine T.F_lw_made.ok sc_lw_made (fun vs H Q E ⟨_, _, _, _, _, e, _⟩ => by rw [e]; rfl) (fun cdv A outer s H vs Q E hr h => ?_)
  obtain ⟨t, qs, ps, n, r, rfl, hq, few, hP, hn, hF, k1, k2⟩ := h
  refine ⟨_, pss_cons (ps_set (i := 1) nd rfl (.inl rfl) pe_non)
    (pss_cons (ps_try_as (i := 3) (Wout := fun _ _ _ _ => False) (tb := fun W => tAsg (tMk T.C_Water 1 (spWInit K T.C_Water T.C_Pool T.C_Ratio T.C_Touching) (fun vs _ => vs) (WE W) (tCons (tVar 0) tNil) tNil) (gName 1))
        (ts := fun a cls d => tSeq (tAsg (tCB (rIsEX K a cls d T.C_Touching) (tCons (tVar 3) (tCons (tTup (tCons (tC (.ref T.C_Full)) (tCons (tC (.ref T.C_InvalidDrop)) (tCons (tC (.ref T.C_InvalidNumber)) tNil)))) tNil))) (gName 2))
          (tAsg (tIf (tAnd (tB (tCB (rIsEX K a cls d T.C_Touching) (tCons (tVar 3) (tCons (tC (.ref T.C_PoolError)) tNil)))) (tNot (tB (tVar 2)))) (tTup (tCons (tC (.str "touching")) (tCons (tXf a cls d T.C_Touching "index" (tVar 3)) tNil))) (tC .non)) (gName 1)))
        rfl rfl nd rfl rfl ⟨rfl, by decide, .inl T.g_Touching⟩ takes0
      (fun W pn xe tk _ => pss_one (ps_set (i := 1) nd rfl (.inl rfl) (pe_mkP (n := 1) (E := WE W) M (ok_winit T) (hr.mono (by decide)) (by rfl) T.g_Water kbw (fun σ => passAt tk σ) (by exact (pa_cons (pv 0) pa_nil)))))
      (fun a oe cls d pn hz hf => pss_cons (ps_set (i := 2) nd rfl (.inl rfl) (pe_callB (call_isX T.ec_Touching hz hf) (by rfl) T.b_isinstance (by decide +kernel) (pa_cons (pv 3) (pa_cons (pe_tup (pa_cons (pe_glob (v := .ref T.C_Full) (by rfl) T.g_Full rfl) (pa_cons (pe_glob (v := .ref T.C_InvalidDrop) (by rfl) T.g_InvalidDrop rfl) (pa_cons (pe_glob (v := .ref T.C_InvalidNumber) (by rfl) T.g_InvalidNumber rfl) pa_nil)))) pa_nil))))
        (pss_one (ps_set (i := 1) nd rfl (.inl rfl) (pe_ifExp (PW.pt (pw_and (pt_val (pe_callB (call_isX T.ec_Touching hz hf) (by rfl) T.b_isinstance (by decide +kernel) (pa_cons (pv 3) (pa_cons (pe_glob (v := .ref T.C_PoolError) (by rfl) T.g_PoolError rfl) pa_nil)))) (pw_and1 (pt_not (pt_val (pv 2)))))) (pe_tup (pa_cons pe_str (pa_cons (pe_xf T.xf_Touching T.n_Touching_index hz hf (pv 3)) pa_nil))) pe_non)))))
    (pss_one (ps_ret (pv 1)))), ?_⟩
  have kx : ∀ {D : Addr} {r : Bool}, PySem.W.isClsIn K D = true → PySem.W.typeIn K (.ref D) = some (.type "type") → PySem.W.subIn K (.ref T.C_Touching) (.ref D) = some r → PySem.W.kitOne K (.ref T.C_Touching) (.ref D) = some r := fun {D r} ic ty h => by
    by_cases e : T.C_Touching = D
    · subst e
      rw [T.ss_Touching] at h
      cases h
      exact kit_self
    · have e2 : ((PySem.W.clsIn K D).isSome && PySem.W.typeIn K (.ref D) == some (.type "type")) = true := by
        rw [show (PySem.W.clsIn K D).isSome = true from ic, ty]; exact beq_self_eq_true _
      show (if (Value.ref T.C_Touching == Value.ref D) = true then some true else if ((PySem.W.clsIn K D).isSome && PySem.W.typeIn K (.ref D) == some (.type "type")) = true then PySem.W.subIn K (.ref T.C_Touching) (.ref D) else none) = some r
      rw [if_neg (fun z => e (Value.ref.inj (beq_iff_eq.mp z))), if_pos e2, h]
  have g1 := kx T.ic_Full T.ox_Full.tyC T.sx_Touching_Full
  have g2 := kx T.ic_InvalidDrop T.ox_InvalidDrop.tyC T.sx_Touching_InvalidDrop
  have g3 := kx T.ic_InvalidNumber T.ox_InvalidNumber.tyC T.sx_Touching_InvalidNumber
  have g4 := kx T.ic_PoolError T.ox_PoolError.tyC T.sx_Touching_PoolError
  have ka : PySem.W.kitAny K (.ref T.C_Touching) [.ref T.C_Full, .ref T.C_InvalidDrop, .ref T.C_InvalidNumber] = some false :=
    kitAny_cons g1 (fun _ => kitAny_cons g2 (fun _ => kitAny_cons g3 (fun _ => kitAny_nil) (fun z => nomatch z)) (fun z => nomatch z)) (fun z => nomatch z)
  refine ⟨_, rfl, rfl, fun x dx nx ndx _ => wat_made hq few hP hn hF nx ndx (fun e H' s' hW => ⟨rfl, _, rfl, k1 e x H' s' hW⟩) fun j er d H' s' e => ?_⟩
  refine ⟨true, exm_tou T, fun _ a ha => ⟨_, rfl, (by show 3 ≤ sizeLine; decide), fun tp htp => ⟨rfl, d, _, rfl, same_upd htp _ _ e, .inr ⟨tp, _, _, false, rfl, upd_same, .cons (.own _) (.cons (.own _) (.cons (.own _) .nil)), ka, ?_⟩⟩⟩, fun q => nomatch q⟩
  refine ⟨_, rfl, rfl, d, _, rfl, same_upd htp _ _ e, .inl ⟨_, _, true, rfl, .own _, g4, true, rfl, iteT ⟨_, rfl, false, rfl, iteT ⟨_, rfl, rfl, rfl, d, _, _, rfl, same_upd htp _ _ e, xidx _, (by show 2 ≤ sizeLine; decide), fun tq htq => ?_⟩⟩⟩⟩
  exact ⟨_, rfl, k2 j er tq _ ((s'.trans (same_upd htp)).trans (same_upd htq)) upd_same⟩
end
theorem FirstAt.congr {t t' : Nat → Prop} {n : Nat} {r : Option Nat} (h : FirstAt t n r) (e : ∀ j, 1 ≤ j → j < n → (t j ↔ t' j)) : FirstAt t' n r := by
  cases r with
  | none => exact fun j h1 h2 z => h j h1 h2 ((e j h1 h2).mpr z)
  | some a => exact ⟨h.1, h.2.1, (e a h.1 h.2.1).mp h.2.2.1, fun j h1 h2 z => h.2.2.2 j h1 h2 ((e j h1 (Nat.lt_trans h2 h.2.1)).mpr z)⟩
theorem PoolAt.butL {CP C q p : Addr} {H H' : Hp} {a b c d : Int} {xs : List V} (h : PoolAt CP C H q a b c d) (hl : H p = some (.lst xs)) (k : But p H H') : PoolAt CP C H' q a b c d := by
  have go : ∀ {x : Addr} {o : HO}, H x = some o → (∀ ys, o ≠ .lst ys) → H' x = some o := fun {x o} e n => k _ _ (fun z => by rw [z, hl] at e; cases e; exact n _ rfl) e
  exact h.thru go
theorem PlsAt.butL {CP C p : Addr} {H H' : Hp} {n : Nat} {qs : List Addr} {ps : List Qd} {xs : List V} (h : PlsAt CP C H n qs ps) (hl : H p = some (.lst xs)) (k : But p H H') : PlsAt CP C H' n qs ps := ⟨h.1, fun i q z e1 e2 => let ⟨a, b⟩ := h.2 i q z e1 e2; ⟨a.butL hl k, b⟩⟩
theorem DrpsAt.butL {H H' : Hp} {ts : List Addr} {ds : List (Int × Int)} {p : Addr} {xs : List V} (h : DrpsAt H ts ds) (hl : H p = some (.lst xs)) (k : But p H H') : DrpsAt H' ts ds := ⟨h.1, fun i t S W e1 e2 => let ⟨a, b⟩ := h.2 i t S W e1 e2; ⟨k _ _ (fun z => by rw [z, hl] at a; cases a) a, b⟩⟩
theorem BoxAt.butL {H H' : Hp} {p l : Addr} (h : BoxAt H p) (n : p ≠ l) (k : But l H H') : BoxAt H' p := let ⟨a, b, c, e, r⟩ := h; ⟨a, b, c, k _ _ n e, r⟩
theorem WatAt.butL {K : PySem.W.Frag} {CW w l : Addr} {H H' : Hp} {qs : List Addr} {xs : List V} (h : WatAt K CW H w qs) (hl : H l = some (.lst xs)) (k : But l H H') : WatAt K CW H' w qs := by
  obtain ⟨dx, t, e, q⟩ := h
  refine ⟨dx, t, k _ _ (fun z => by rw [z, hl] at e; cases e) e, ?_⟩
  rcases q with (q | ⟨o, q⟩) | q
  · exact .inl (.inl (k _ _ (fun z => by rw [z, hl] at q; cases q) q))
  · exact .inl (.inr ⟨o, k _ _ (fun z => by rw [z, hl] at q; cases q) q⟩)
  · exact .inr q
/-- the text of a pool -/
def Qd.tx (z : Qd) : Str := poolRp z.a z.b z.c z.d
theorem ratTx_len {a b : Int} (ha : Sm a) (hb : Sm b) : (ratTx a b).length ≤ 3843 := by
  have := tx_len ha
  have := tx_len hb
  have l1 : ("/" : Str).length = 1 := by decide +kernel
  unfold ratTx
  split
  · omega
  · rw [str_len, str_len]; omega
theorem poolRp_len {a b c d : Int} (ha : Sm a) (hb : Sm b) (hc : Sm c) (hd : Sm d) : (poolRp a b c d).length ≤ 7700 := by
  have h1 := ratTx_len ha hb
  have h2 := ratTx_len hc hd
  have l1 : ("Pool(" : Str).length = 5 := by decide +kernel
  have l2 : (", " : Str).length = 2 := by decide +kernel
  have l3 : (")" : Str).length = 1 := by decide +kernel
  unfold poolRp
  rw [str_len, str_len, str_len, str_len]
  omega
theorem listText_len : ∀ ts : List Str, (listText ts).length ≤ piled ts + 2
  | [] => by decide +kernel
  | t :: r => by
    have h := textFrom_length_pos r 1 (("[" : Str) ++ (if (0 : Nat) > 0 then ", " else "" : String) ++ t) (Nat.succ_pos 0)
    have e : ((("[" : Str) ++ (if (0 : Nat) > 0 then ", " else "" : String) ++ t)).length = 1 + t.length := by
      rw [strLen_append, strLen_append]; rfl
    have hX : (listText (t :: r)).length = (textFrom 1 (("[" : Str) ++ (if (0 : Nat) > 0 then ", " else "" : String) ++ t) r).length + 1 := by
      show (textFrom 1 (("[" : Str) ++ (if (0 : Nat) > 0 then ", " else "" : String) ++ t) r ++ "]").length = _
      rw [strLen_append]; rfl
    rw [hX, h, e, piled_cons]
    omega
theorem piled_le {m : Nat} : ∀ {ts : List Str}, (∀ t ∈ ts, t.length ≤ m) → piled ts ≤ ts.length * (m + 2)
  | [], _ => by simp [piled]
  | t :: r, h => by
    have ih := piled_le (m := m) (ts := r) fun u hu => h u (List.mem_cons_of_mem _ hu)
    have := h t List.mem_cons_self
    rw [piled_cons, List.length_cons, Nat.succ_mul]
    omega
theorem sm_n {n : Nat} {i : Int} (h : Bn n i) (hn : n ≤ 1900) : Sm i := sm_2000 (Bn.mono h hn)
theorem tells_pools {CP C : Addr} {H : Hp} {n : Nat} {qs : List Addr} {ps : List Qd} (h : PlsAt CP C H n qs ps) (hn : n ≤ 1900) : Tells CP (spPRepr CP C) H qs (ps.map Qd.tx) := by
  refine ⟨by rw [List.length_map, h.1], fun i q t e1 e2 => ?_⟩
  rw [List.getElem?_map] at e2
  cases e : ps[i]? with
  | none => rw [e] at e2; cases e2
  | some z =>
    rw [e] at e2
    cases e2
    obtain ⟨hp, hz⟩ := h.2 i q z e1 e
    obtain ⟨dx, _, _, eq, _⟩ := id hp
    exact ⟨⟨dx, _, eq⟩, fun Q' q' => ⟨q, z.a, z.b, z.c, z.d, rfl, hp, sm_n hz.az hn, sm_n hz.bz hn, sm_n hz.cz hn, sm_n hz.dz hn, q'⟩⟩
theorem pools_tx_len {CP C : Addr} {H : Hp} {n : Nat} {qs : List Addr} {ps : List Qd} (h : PlsAt CP C H n qs ps) (hn : n ≤ 1900) (few : qs.length ≤ 1000) : (listText (ps.map Qd.tx)).length ≤ sizeLine := by
  have h1 := listText_len (ps.map Qd.tx)
  have h2 := piled_le (m := 7700) (ts := ps.map Qd.tx) fun t ht => by
    obtain ⟨z, hz, rfl⟩ := List.mem_map.mp ht
    obtain ⟨i, hi, e⟩ := List.mem_iff_getElem.mp hz
    have e1 : ps[i]? = some z := by rw [List.getElem?_eq_getElem hi, e]
    obtain ⟨_, hq⟩ := h.2 i _ z (List.getElem?_eq_getElem (by rw [← h.1]; exact hi)) e1
    exact poolRp_len (sm_n hq.az hn) (sm_n hq.bz hn) (sm_n hq.cz hn) (sm_n hq.dz hn)
  rw [List.length_map, h.1] at h2
  rw [sizeLine_eq]
  have : qs.length * (7700 + 2) ≤ 1000 * 7702 := Nat.mul_le_mul few (Nat.le_refl _)
  omega
/-- touching pools and touching drops -/
theorem tch_iff {a b c d a' b' c' d' L S W S' W' : Int} (L0 : 0 < L) (b0 : 0 < b) (d0 : 0 < d) (b0' : 0 < b') (d0' : 0 < d') (e1 : a * L = S * b) (e2 : c * L = W * d) (e1' : a' * L = S' * b') (e2' : c' * L = W' * d') :
    (2 * a' * d' - c' * b') * (2 * b * d) ≤ (2 * a * d + c * b) * (2 * b' * d') ↔ 2 * (S' - S) ≤ W + W' := by
  have k0 : 0 < b * d * (b' * d') := Int.mul_pos (Int.mul_pos b0 d0) (Int.mul_pos b0' d0')
  have h : ((2 * a * d + c * b) * (2 * b' * d') - (2 * a' * d' - c' * b') * (2 * b * d)) * L = (2 * (W + W' - 2 * (S' - S))) * (b * d * (b' * d')) := by grind
  constructor
  · intro q
    have h2 : 0 ≤ (2 * (W + W' - 2 * (S' - S))) * (b * d * (b' * d')) := by rw [← h]; exact Int.mul_nonneg (by omega) (by omega)
    have := Int.nonneg_of_mul_nonneg_left h2 k0
    omega
  · intro q
    have h2 : 0 ≤ ((2 * a * d + c * b) * (2 * b' * d') - (2 * a' * d' - c' * b') * (2 * b * d)) * L := by rw [h]; exact Int.mul_nonneg (by omega) (by omega)
    have := Int.nonneg_of_mul_nonneg_left h2 L0
    omega
theorem ite_same {c : Bool} {X : Prop} (h : X) : if c = true then X else X := by cases c <;> exact h
theorem touching_data (j : Nat) (hj : j ≤ 1000) : (PyData.tuple [.str "touching", .int (j : Nat)]).showable = true ∧ (PyData.tuple [.str "touching", .int (j : Nat)]).shown.length ≤ sizeLine := by
  have sm : Sm ((j : Nat) : Int) := sm_of (by omega)
  constructor
  · show (true && (decide (((j : Nat) : Int).natAbs.log2 < 1920) && true)) = true
    rw [decide_eq_true (show ((j : Nat) : Int).natAbs.log2 < 1920 from sm)]
    rfl
  · have h := join_length_add [reprText "touching", tx (j : Nat)] (by simp)
    have e : (PyData.tuple [.str "touching", .int (j : Nat)]).shown = ("(" : Str) ++ Str.join ", " [reprText "touching", tx (j : Nat)] ++ ((")" : String) : Str) := rfl
    have l1 : ("(" : Str).length = 1 := by decide +kernel
    have l2 : (((")" : String) : Str)).length = 1 := by decide +kernel
    have l3 : (reprText "touching").length = 10 := by decide +kernel
    have l4 := tx_len sm
    rw [e, str_len, str_len, l1, l2]
    simp [piled] at h
    rw [sizeLine_eq]
    omega
section
variable {P : Program} {w : World} {K : PySem.W.Frag} {mg : Str → Option Value} {base : Heap}
theorem ok_law (T : Txt K mg) : FnG P w K mg base CX0 lawLevel T.f_law T.d_law ["_law_script"] (spLaw K) := by
  obtain ⟨its, kbw⟩ := kb_wat T
  obtain ⟨de, rde, bw0⟩ := b_wat0 T
  obtain ⟨itk, kbk⟩ := kb_watK T
  have MW : Mk K T.C_Water T.f_Water_init_d := ⟨T.mk_Water, T.m_Water_init_d.at_, T.m_Water_init_d.fn, T.kp_Water⟩
  refine go0 T.F_law sc_law (fun vs H Q E ⟨_, _, e, _⟩ => by rw [e]; rfl) (fun cdv A outer s H vs Q E gg hr h => ?_)
  obtain ⟨a, ns, rfl, hS, hl, fin⟩ := h
  have nd := sc_law.nd
  refine ⟨_, pss_cons (ps_for PassesOwn.never rfl (pi_range1 (by rfl) T.b_range (pa_cons (pe_callB (call_max2 rfl) (by rfl) T.b_max (by decide +kernel) (pa_cons pe_int (pa_cons (pe_callB (call_min2 rfl) (by rfl) T.b_min (by decide +kernel) (pa_cons pe_int (pa_cons (pe_callB call_len_seq (by rfl) T.b_len PySem.boot_len (pa_cons (pv 0) pa_nil)) pa_nil))) pa_nil))) pa_nil)) (pg_name (i := 1) nd rfl (.inl rfl))
      (pss_cons (ps_set (i := 2) nd rfl (.inr rfl) (pe_f (E := fun _ => E0) (ok_box T) (hr.mono (by decide)) (by rfl) T.g_lw_box T.F_lw_box.kp T.B_lw_box (fun _ => at0) (pa_cons (pv 0) (pa_cons (pv 1) pa_nil))))
      (pss_one (ps_for PassesOwn.never rfl (pi_range1 (by rfl) T.b_range (pa_cons pe_int pa_nil)) (pg_name (i := 3) nd rfl (.inl rfl))
        (pss_cons (ps_asg (pe_ifExp (pt_cmpR op_gt (pe_f (E := fun _ => E0) (ok_take T) (hr.mono (by decide)) (by rfl) T.g_lw_take T.F_lw_take.kp T.B_lw_take (fun _ => at0) (pa_cons (pv 2) (pa_cons pe_int pa_nil))) pe_int (nomark _))
            (pe_f (E := fun _ => E0) (ok_row T) (hr.mono (by decide)) (by rfl) T.g_lw_row T.F_lw_row.kp T.B_lw_row (fun _ => at0) (pa_cons (pv 2) pa_nil)) (pe_f (E := fun _ => E0) (ok_lrow T) (hr.mono (by decide)) (by rfl) T.g_lw_long_row T.F_lw_long_row.kp T.B_lw_long_row (fun _ => at0) (pa_cons (pv 2) pa_nil)))
          (pg_tup rfl (pgs_cons (pg_name (i := 4) nd rfl (.inr rfl)) (pgs_cons (pg_name (i := 5) nd rfl (.inl rfl)) pgs_nil))))
        (pss_cons (ps_setLc (i := 6) (own := [("_law_drop", 7)]) (g := gName 7) (tt := tYes) (te := tCl (spPool6 T.C_Pool T.C_Ratio) (fun _ => E0) (tCons (tVar 2) (tCons (tVar 4) (tCons (tVar 7) tNil)))) rfl nd rfl rfl (sw_true rfl rfl rfl (by decide +kernel)) (pi_list (pv 5))
            (blkOk_by (own := [("_law_drop", 7)]) (N := ["_law_script", "_law_k", "_law_box_here", "_law_turn", "_law_unit", "_law_drops", "_law_some", "_law_drop", "_law_due_here", "_law_kept", "_law_passed", "_law_found"]) (sc := defScope s_law) (by decide +kernel)) (fun _ _ _ _ _ => pg_name (i := 7) nd rfl (Or.inl rfl)) (fun _ _ _ _ _ => pts_nil)
            (fun _ _ _ _ _ => pe_f (E := fun _ => E0) (ok_pool6 T) (hr.mono (by decide)) (by rfl) T.g_lw_pool T.F_lw_pool.kp T.B_lw_pool (fun _ => at0) (by exact (pa_cons (pv 2) (pa_cons (pv 4) (pa_cons (pv 7) pa_nil))))))
        (pss_cons (ps_par (i := 8) (j := 9) rfl nd rfl rfl (by decide) rfl rfl (pa_cons (pe_f (E := fun _ => E0) (ok_due T) (hr.mono (by decide)) (by rfl) T.g_lw_due T.F_lw_due.kp T.B_lw_due (fun _ => at0) (pa_cons (pv 5) pa_nil)) (pa_cons (pe_callB (call_reprs gg T.m_Pool_repr_d (ok_prepr T) (hr.mono (by decide)) T.B_Pool_repr_d) (by rfl) T.b_repr (by decide +kernel) (pa_cons (pv 6) pa_nil)) pa_nil)) (by rfl))
        (C8.pss_cut (ps_for PassesOwn.never rfl (pi_tup (pe_tup (pa_cons (pe_callTy call_list_of (by rfl) T.b_list (by decide +kernel) (pa_cons (pv 6) pa_nil)) (pa_cons (pe_callTy call_tuple_of (by rfl) T.b_tuple (by decide +kernel) (pa_cons (pv 6) pa_nil)) pa_nil)))) (pg_name (i := 10) nd rfl (.inl rfl))
          (C8.pss_cut (ps_set (i := 11) nd rfl (.inl rfl) (pe_f (E := fun _ => E0) (ok_made T) (hr.mono (by decide)) (by rfl) T.g_lw_made T.F_lw_made.kp T.B_lw_made (fun _ => at0) (pa_cons (pv 10) pa_nil)))
          (pss_cons (ps_if (pt_cmpR op_ne (pe_callB (call_reprs gg T.m_Pool_repr_d (ok_prepr T) (hr.mono (by decide)) T.B_Pool_repr_d) (by rfl) T.b_repr (by decide +kernel) (pa_cons (pe_callTy call_list_of (by rfl) T.b_list (by decide +kernel) (pa_cons (pv 10) pa_nil)) pa_nil)) (pv 9) (nomark _)) (pss_one (ps_ret pe_bl)) pss_nil)
          (C8.pss_cut (ps_if (pt_val (pe_callB call_isi (by rfl) T.b_isinstance (by decide +kernel) (pa_cons (pv 10) (pa_cons (pe_bltn (v := .ty "list") (u := .type "list") (by rfl) T.b_list (by decide +kernel) rfl) pa_nil)))) (pss_one (ps_expr (pe_bm0 PySem.F.plainAttrs_list PySem.F.slot_list_clear PySem.F.type_list_clear mt_clear (pv 10)))) pss_nil)
          (pss_cons (ps_if (PW.pt (pw_and (pt_cmpR op_notN (pv 8) pe_non (nomark _)) (pw_and1 (pt_cmpR op_ne (pe_callB (call_reprD gg hr) (by rfl) T.b_repr (by decide +kernel) (pa_cons (pv 11) pa_nil)) (pe_callB (call_reprD gg hr) (by rfl) T.b_repr (by decide +kernel) (pa_cons (pe_tup (pa_cons pe_str (pa_cons (pv 8) pa_nil))) pa_nil)) (nomark _))))) (pss_one (ps_ret pe_bl)) pss_nil)
          (pss_one (ps_if (PW.pt (pw_and (pt_cmpR op_isN (pv 8) pe_non (nomark _)) (pw_and1 (pt_not (pt_val (pe_f (E := fun _ => E0) (ok_isw T) (hr.mono (by decide)) (by rfl) T.g_lw_is_water T.F_lw_is_water.kp T.B_lw_is_water (fun _ => at0) (pa_cons (pv 11) (pa_cons (pv 4) (pa_cons (pe_f (E := fun _ => E0) (ok_mom T) (hr.mono (by decide)) (by rfl) T.g_lw_moments T.F_lw_moments.kp T.B_lw_moments (fun _ => at0) (pa_cons (pv 5) pa_nil)) pa_nil))))))))) (pss_one (ps_ret pe_bl)) pss_nil)))))))
        (pss_one (ps_if (pt_cmpR op_ne (pe_callB (call_reprs gg T.m_Pool_repr_d (ok_prepr T) (hr.mono (by decide)) T.B_Pool_repr_d) (by rfl) T.b_repr (by decide +kernel) (pa_cons (pv 6) pa_nil)) (pv 9) (nomark _)) (pss_one (ps_ret pe_bl)) pss_nil)))))))))
    )
    (pss_one (ps_ret (pe_and (pe_cmpR op_eq (pe_callB (call_lenO T.m_Water_len_d (ok_wlen T) (hr.mono (by decide)) T.B_Water_len_d) (by rfl) T.b_len PySem.boot_len (pa_cons (pe_make0 MW (ok_winit T) (hr.mono (by decide)) (by rfl) T.g_Water bw0 rde passL) pa_nil)) pe_int (nomark _))
      (pe_one (pe_cmpR op_eq (pe_callB (call_lenO T.m_Water_len_d (ok_wlen T) (hr.mono (by decide)) T.B_Water_len_d) (by rfl) T.b_len PySem.boot_len (pa_cons (pe_mkN (E := fun _ => E0) MW (ok_winit T) (hr.mono (by decide)) (by rfl) T.g_Water kbk (fun _ => atL) (pk_cons (pe_tup pa_nil) pk_nil)) pa_nil)) pe_int (nomark _)))))), ?_⟩
  refine ⟨_, rfl, a, _, rfl, .inl hS, _, _, rfl, _, _, rfl, _, rfl, ?_, ?_, for_range (lo := 0) (fun _ σ H' => Same H H' ∧ ∃ v1 v2 v3 v4 v5 v6 v7 v8 v9 v10 v11 : Option L2.V, σ = [some (.ref a), v1, v2, v3, v4, v5, v6, v7, v8, v9, v10, v11]) ⟨Same.refl H, _, _, _, _, _, _, _, _, _, _, _, rfl⟩ ?_ ?_⟩
  · rw [List.length_map]; repeat (first | omega | split)
  · rw [List.length_map]; repeat (first | omega | split)
  rotate_left
  · rintro σ H' ⟨s, v1, v2, v3, v4, v5, v6, v7, v8, v9, v10, v11, rfl⟩
    have none0 : FirstAt (tchP []) ([] : List Qd).length none := fun j _ h => absurd h (Nat.not_lt_zero _)
    have pl0 : ∀ {G : Hp}, PlsAt T.C_Pool T.C_Ratio G 50 [] [] := ⟨rfl, fun i q z e => by simp at e⟩
    refine fun x dx nx ndx _ => wat_made (qs := []) (ps := []) (n := 50) (r := none) (.inr (sq_of_empty T _)) (by decide) pl0 (by decide) none0 nx ndx (fun _ G s1 hW => ⟨rfl, ?_⟩) (fun j z => nomatch z)
    obtain ⟨dw, tw, ew, _⟩ := id hW
    refine ⟨x, dw, _, rfl, ew, x, [], rfl, hW, ⟨0, rfl, by decide⟩, rfl, true, rfl, iteT ?_⟩
    refine ⟨Nat.zero_le _, fun te hte => ⟨rfl, rfl, fun x2 dx2 nx2 ndx2 _ => wat_made (qs := []) (ps := []) (n := 50) (r := none) (.inr (SqT.of upd_same)) (by decide) pl0 (by decide) none0 nx2 ndx2 (fun _ G2 s2 hW2 => ⟨rfl, ?_⟩) (fun j z => nomatch z)⟩⟩
    obtain ⟨dw2, tw2, ew2, _⟩ := id hW2
    exact ⟨x2, dw2, _, rfl, ew2, x2, [], rfl, hW2, ⟨0, rfl, by decide⟩, rfl, fin _⟩
  rintro i σ H1 - ⟨s1, v1, v2, v3, v4, v5, v6, v7, v8, v9, v10, v11, rfl⟩
  refine ⟨_, rfl, _, rfl, a, ns, 0 + (i : Int), rfl, s1.seq hS, by omega, fun p H2 np s2 hb => ?_⟩
  refine ⟨_, rfl, by decide, by decide, for_range (lo := 0) (fun _ σ' H' => Same H1 H' ∧ BoxAt H' p ∧ ∃ w3 w4 w5 w6 w7 w8 w9 w10 w11 : Option L2.V, σ' = [some (.ref a), some (.int (0 + (i : Int))), some (.ref p), w3, w4, w5, w6, w7, w8, w9, w10, w11])
    ⟨s2, hb, _, _, _, _, _, _, _, _, _, rfl⟩ ?_ (fun σ' H' ⟨s', _, w3, w4, w5, w6, w7, w8, w9, w10, w11, e⟩ => ⟨s1.trans s', _, _, _, _, _, _, _, _, _, _, _, e⟩)⟩
  rintro j σ' Hj - ⟨sj, hbj, w3, w4, w5, w6, w7, w8, w9, w10, w11, rfl⟩
  refine ⟨_, rfl, p, 3, rfl, hbj, by decide, by decide, fun dd n0 sd0 c0 d00 d01 hb0 => ⟨_, _, rfl, rfl, _, rfl, ite_same ?_⟩⟩
  refine ⟨_, rfl, p, rfl, hb0, fun u l ts ds L H3 hu hl3 hD3 hlen L0 L1 hb3 k3 => ⟨u, _, rfl, SqT.of hu, rfl, _, _, rfl, _, _, rfl, rfl, ?_⟩⟩
  have S3 : Same H1 H3 := but_new np (but_new np sj But.upd) k3
  have nl : l ≠ p := fun z => by
    obtain ⟨_, _, _, e, _⟩ := hb3
    rw [z, e] at hl3
    cases ts with
    | nil => cases hl3
    | cons t ts => cases hl3
  have Lz : Bn 50 L := by show L.natAbs < 2 ^ 50; omega
  -- the pools
  refine ⟨_, rfl, l, rfl, ⟨_, SqL.of hl3⟩, fun D hD => lc_list (K := K) (a := l) (xs := ts.map V.ref) (fun n G => ∃ (qs : List Addr) (ps : List Qd), qs.length = n ∧ ps.length = n ∧ G D = some (.lst (qs.map V.ref)) ∧ BoxAt G p ∧ But p H3 G ∧ ∀ (m : Nat) (q : Addr) (z : Qd), qs[m]? = some q → ps[m]? = some z → PoolAt T.C_Pool T.C_Ratio G q z.a z.b z.c z.d ∧ Pz 50 z.a z.b z.c z.d ∧ ∀ S W, ds[m]? = some (S, W) → z.a * L = S * z.b ∧ z.c * L = W * z.d)
    ⟨[], [], rfl, rfl, upd_same, hb3.same (same_upd hD), But.of (same_upd hD), fun m q z e => by simp at e⟩ (fun _ G _ ⟨_, _, _, _, _, _, k, _⟩ => SqL.of (lst_but hl3 nl k)) ?_ ?_⟩
  · rintro n x G hx ⟨qs, ps, el, el', eD, hbG, kG, dG⟩
    obtain ⟨t, ht, rfl⟩ := ref_get hx
    have lt : n < ts.length := (List.getElem?_eq_some_iff.mp ht).1
    obtain ⟨t', S, W, et', es, tu3, W0, W1, Sz⟩ := hD3.at_ lt
    rw [ht] at et'; cases et'
    have tu := tup_but tu3 hb3 kG
    have Sz5 : Bn 50 S := by show S.natAbs < 2 ^ 50; omega
    have Wz5 : Bn 50 W := by show W.natAbs < 2 ^ 50; omega
    refine ⟨rfl, ?_⟩
    unfold tYes
    refine iteT ⟨_, rfl, _, rfl, _, rfl, p, t, L, S, W, rfl, hbG, tu, L0, W0, Lz, Sz5, Wz5, fun q a1 b1 c1 d1 G2 hP hz e1 e2 hb2 k2 => ?_⟩
    have nD : D ≠ p := box_ne hb3 hD
    have eD2 := lst_but eD nD k2
    have kk : But D G2 (upd G2 D (.lst (qs.map V.ref ++ [.ref q]))) := But.upd
    obtain ⟨_, _, _, ebox, _⟩ := id hbG
    refine ⟨qs.map V.ref, eD2, by rw [List.length_map, el]; exact Nat.lt_of_lt_of_le (show n < 40 by omega) (by rw [sizeLine_eq]; decide), qs ++ [q], ps ++ [⟨a1, b1, c1, d1⟩], by rw [List.length_append, el]; rfl, by rw [List.length_append, el']; rfl, by rw [upd_same, List.map_append]; rfl, hb2.butL (Ne.symm nD) kk, fun b o nb e => ?_, fun m q' z hq' hz' => ?_⟩
    · rw [upd_ne (ne_of_none e hD)]
      exact k2 _ _ nb (kG _ _ nb e)
    · have old : PoolAt T.C_Pool T.C_Ratio G2 q' z.a z.b z.c z.d ∧ Pz 50 z.a z.b z.c z.d ∧ ∀ S W, ds[m]? = some (S, W) → z.a * L = S * z.b ∧ z.c * L = W * z.d := by
        rcases Nat.lt_or_ge m qs.length with hm | hm
        · rw [List.getElem?_append_left hm] at hq'
          rw [List.getElem?_append_left (by omega)] at hz'
          obtain ⟨o1, o2⟩ := dG m q' z hq' hz'
          exact ⟨o1.butL ebox k2, o2⟩
        · rw [List.getElem?_append_right hm] at hq'
          rw [List.getElem?_append_right (by omega)] at hz'
          obtain rfl : m = qs.length := by
            have := (List.getElem?_eq_some_iff.mp hq').1
            simp at this
            omega
          rw [Nat.sub_self] at hq'
          rw [show qs.length - ps.length = 0 by omega] at hz'
          cases hq'; cases hz'
          refine ⟨hP, hz, fun S' W' e => ?_⟩
          rw [el, es] at e
          cases e
          exact ⟨e1, e2⟩
      exact ⟨old.1.butL eD2 kk, old.2⟩
  rintro G ⟨qs, ps, el, el', eD, hbG, kG, dG⟩
  rw [List.length_map] at el el'
  have nD : D ≠ p := box_ne hb3 hD
  have hP : PlsAt T.C_Pool T.C_Ratio G 50 qs ps := ⟨by omega, fun m q z e1 e2 => ⟨(dG m q z e1 e2).1, (dG m q z e1 e2).2.1⟩⟩
  have terms : ∀ (m : Nat) (z : Qd) (S W : Int), ps[m]? = some z → ds[m]? = some (S, W) → z.a * L = S * z.b ∧ z.c * L = W * z.d := fun m z S W e1 e2 => by
    have lt : m < ps.length := (List.getElem?_eq_some_iff.mp e1).1
    exact (dG m _ z (List.getElem?_eq_getElem (show m < qs.length by omega)) e1).2.2 S W e2
  have S4 : Same H1 G := but_new np S3 kG
  have hlG := lst_but hl3 nl kG
  have hDG := hD3.but hb3 kG
  obtain ⟨r, hF⟩ := FirstAt.ex (tchD ds) ds.length
  have hFP : FirstAt (tchP ps) ps.length r := by
    have e : ps.length = ds.length := by rw [hDG.1]; omega
    rw [e]
    refine hF.congr fun m h1 h2 => ?_
    rw [hDG.1] at h2
    obtain ⟨t1, S', W', _, es1, _⟩ := hDG.at_ (i := m) h2
    obtain ⟨t0, S, W, _, es0, _⟩ := hDG.at_ (i := m - 1) (by omega)
    obtain ⟨_, z, _, ez, _, z1⟩ := hP.at_ (i := m) (by omega)
    obtain ⟨_, y, _, ey, _, z0⟩ := hP.at_ (i := m - 1) (by omega)
    obtain ⟨f1, f2⟩ := terms _ _ _ _ ey es0
    obtain ⟨f1', f2'⟩ := terms _ _ _ _ ez es1
    have key := tch_iff L0 z0.b0 z0.d0 z1.b0 z1.d0 f1 f2 f1' f2'
    constructor
    · rintro ⟨A, B, A', B', g1, g2, h⟩
      rw [es0] at g1; rw [es1] at g2
      cases g1; cases g2
      exact ⟨y, z, ey, ez, key.mpr h⟩
    · rintro ⟨y', z', g1, g2, h⟩
      rw [ey] at g1; rw [ez] at g2
      cases g1; cases g2
      exact ⟨S, W, S', W', es0, es1, key.mp h⟩
  have rj : ∀ n, r = some n → n ≤ 1000 := fun n e => by
    subst e
    have := hF.2.1
    rw [hDG.1] at this
    omega
  have few : qs.length ≤ 1000 := by omega
  have sz : (listText (ps.map Qd.tx)).length ≤ sizeLine := pools_tx_len hP (by decide) few
  have tl : ∀ {G' : Hp}, PlsAt T.C_Pool T.C_Ratio G' 50 qs ps → Tells T.C_Pool (spPRepr T.C_Pool T.C_Ratio) G' qs (ps.map Qd.tx) := fun h => tells_pools h (by decide)
  -- what is due, what is kept
  refine ⟨_, rfl, l, ts, ds, r, rfl, hlG, hDG, by omega, hF, _, rfl, D, qs, ps.map Qd.tx, rfl, eD, tl hP, sz, _, _, rfl, ?_⟩
  refine ⟨fun σ' G' => Same G G' ∧ ∃ w10 w11 : Option L2.V, σ' = [some (.ref a), some (.int (0 + (i : Int))), some (.ref p), some (.int (0 + (j : Int))), some (.int L), some (.ref l), some (.ref D), w7, some (oV r), some (.str (listText (ps.map Qd.tx))), w10, w11], ?_, ?_⟩
  · refine ⟨_, rfl, D, _, rfl, .inl (SqL.of eD), fun lx hlx => ⟨_, rfl, D, _, rfl, .inl ⟨SqL.of (same_upd hlx _ _ eD), fun tx htx => ⟨(by show 2 ≤ sizeLine; decide), fun tp htp => ?_⟩⟩⟩⟩
    have sA := same_upd (o := .lst (qs.map V.ref)) hlx
    have sB := same_upd (o := .tup (qs.map V.ref)) htx
    have sC := same_upd (o := .tup [.ref lx, .ref tx]) htp
    have S7 := (sA.trans sB).trans sC
    have elx : upd (upd (upd G lx (.lst (qs.map V.ref))) tx (.tup (qs.map V.ref))) tp (.tup [.ref lx, .ref tx]) lx = some (.lst (qs.map V.ref)) := sC _ _ (sB _ _ upd_same)
    have etx : upd (upd (upd G lx (.lst (qs.map V.ref))) tx (.tup (qs.map V.ref))) tp (.tup [.ref lx, .ref tx]) tx = some (.tup (qs.map V.ref)) := sC _ _ upd_same
    have etp : upd (upd (upd G lx (.lst (qs.map V.ref))) tx (.tup (qs.map V.ref))) tp (.tup [.ref lx, .ref tx]) tp = some (.tup [.ref lx, .ref tx]) := upd_same
    have sameG : ∀ {G' : Hp}, But lx (upd (upd (upd G lx (.lst (qs.map V.ref))) tx (.tup (qs.map V.ref))) tp (.tup [.ref lx, .ref tx])) G' → Same G G' := fun k b o e => k b o (ne_of_none e hlx) (S7 _ _ e)
    generalize upd (upd (upd G lx _) tx _) tp _ = G7 at S7 elx etx etp sameG
    have ntx : tx ≠ lx := fun z => by rw [z, elx] at etx; cases etx
    have ntp : tp ≠ lx := fun z => by rw [z, elx] at etp; cases etp
    refine ⟨tp, rfl, ⟨_, SqT.of etp⟩, for_tup (K := K) (a := tp) (xs := [.ref lx, .ref tx]) (fun n σ' G' => But lx G7 G' ∧ (∃ xs, G' lx = some (.lst xs)) ∧ (n = 0 → G' lx = some (.lst (qs.map V.ref))) ∧ ∃ w10 w11 : Option L2.V, σ' = [some (.ref a), some (.int (0 + (i : Int))), some (.ref p), some (.int (0 + (j : Int))), some (.int L), some (.ref l), some (.ref D), w7, some (oV r), some (.str (listText (ps.map Qd.tx))), w10, w11])
      ⟨But.refl _ _, ⟨_, elx⟩, fun _ => elx, _, _, rfl⟩ (fun _ σ' G' _ ⟨k, _⟩ => SqT.of (k _ _ ntp etp)) ?_ (fun σ' G' ⟨k, _, _, w10, w11, e⟩ => ⟨sameG k, _, _, e⟩)⟩
    rintro n x σ' G8 hx ⟨k8, ⟨xl, hx8⟩, h0, w10, w11, rfl⟩
    have sG8 := sameG k8
    have hP8 := hP.same sG8
    -- the thing that is passed
    obtain ⟨e, rfl, he⟩ : ∃ e, x = .ref e ∧ ((e = lx ∧ G8 lx = some (.lst (qs.map V.ref))) ∨ (e = tx ∧ G8 tx = some (.tup (qs.map V.ref)))) := by
      match n, hx, h0 with
      | 0, hx, h0 => cases hx; exact ⟨lx, rfl, .inl ⟨rfl, h0 rfl⟩⟩
      | 1, hx, _ => cases hx; exact ⟨tx, rfl, .inr ⟨rfl, k8 _ _ ntx etx⟩⟩
      | n + 2, hx, _ => simp at hx
    have hq8 : ∀ {G' : Hp}, Same G8 G' → SqL K G' e (qs.map V.ref) ∨ SqT K G' e (qs.map V.ref) := fun s => by
      rcases he with ⟨rfl, h⟩ | ⟨rfl, h⟩
      · exact .inl (SqL.of (s _ _ h))
      · exact .inr (SqT.of (s _ _ h))
    refine ⟨fun σ'' G' => Same G8 G' ∧ ∃ fv : L2.V, σ'' = [some (.ref a), some (.int (0 + (i : Int))), some (.ref p), some (.int (0 + (j : Int))), some (.int L), some (.ref l), some (.ref D), w7, some (oV r), some (.str (listText (ps.map Qd.tx))), some (.ref e), some fv] ∧
      ((r = none ∧ ∃ wa, fv = .ref wa ∧ WatAt K T.C_Water G' wa qs) ∨ ∃ m q, r = some m ∧ fv = .ref q ∧ G' q = some (.tup [.str "touching", .int (m : Nat)])), ?_, ?_⟩
    · refine ⟨_, rfl, e, qs, ps, 50, r, rfl, hq8 (Same.refl _), by omega, hP8, by decide, hFP, fun er wa G' s' hW => ?_, fun m er q G' s' eq => ?_⟩
      · exact ⟨s', _, rfl, .inl ⟨er, wa, rfl, hW⟩⟩
      · exact ⟨s', _, rfl, .inr ⟨m, q, er, rfl, eq⟩⟩
    rintro σ'' G9 ⟨s9, fv, rfl, hf⟩
    refine ⟨_, rfl, e, _, rfl, hq8 s9, fun l3 hl3' => ⟨l3, qs, ps.map Qd.tx, rfl, upd_same, tl (hP8.same (s9.trans (same_upd hl3'))), sz, _, rfl, rfl, _, rfl, if_false_ (by simp) ?_⟩⟩
    have s10 := s9.trans (same_upd (o := .lst (qs.map V.ref)) hl3')
    have hf10 : (r = none ∧ ∃ wa, fv = .ref wa ∧ WatAt K T.C_Water (upd G9 l3 (.lst (qs.map V.ref))) wa qs) ∨ ∃ m q, r = some m ∧ fv = .ref q ∧ upd G9 l3 (.lst (qs.map V.ref)) q = some (.tup [.str "touching", .int (m : Nat)]) := by
      rcases hf with ⟨e1, wa, e2, hW⟩ | ⟨m, q, e1, e2, h⟩
      · exact .inl ⟨e1, wa, e2, hW.same (same_upd hl3')⟩
      · exact .inr ⟨m, q, e1, e2, same_upd hl3' _ _ h⟩
    generalize upd G9 l3 _ = G10 at s10 hf10
    have hx10 : ∃ xs, G10 lx = some (.lst xs) := ⟨_, s10 _ _ hx8⟩
    -- it is emptied, where it is a list
    refine ⟨fun σ'' G' => But lx G10 G' ∧ (∃ xs, G' lx = some (.lst xs)) ∧ σ'' = [some (.ref a), some (.int (0 + (i : Int))), some (.ref p), some (.int (0 + (j : Int))), some (.int L), some (.ref l), some (.ref D), w7, some (oV r), some (.str (listText (ps.map Qd.tx))), some (.ref e), some fv], ?_, ?_⟩
    · rcases he with ⟨rfl, h⟩ | ⟨rfl, h⟩
      · have h' := s10 _ _ h
        exact ⟨_, rfl, _, _, .type "list", _, true, rfl, .ty _, .base (.lst h'), kit_ty (by decide +kernel), true, rfl, iteT ⟨_, rfl, .inl ⟨rfl, _, SqL.of h'⟩, e, _, rfl, rfl, h', But.upd, ⟨_, upd_same⟩, rfl⟩⟩
      · have h' := s10 _ _ h
        exact ⟨_, rfl, _, _, .type "tuple", _, false, rfl, .ty _, .base (.tup h'), kit_ty (by decide +kernel), false, rfl, iteF ⟨But.refl _ _, hx10, rfl⟩⟩
    rintro σ'' G11 ⟨k11, ⟨xl11, hx11⟩, rfl⟩
    obtain ⟨xl10, hx10⟩ := hx10
    have K11 : But lx G7 G11 := (k8.trans (But.of s10)).trans k11
    have done : ∀ {G' : Hp}, Same G11 G' → But lx G7 G' ∧ (∃ xs, G' lx = some (.lst xs)) ∧ (n + 1 = 0 → G' lx = some (.lst (qs.map V.ref))) ∧ ∃ w10 w11 : Option L2.V, [some (L2.V.ref a), some (.int (0 + (i : Int))), some (.ref p), some (.int (0 + (j : Int))), some (.int L), some (.ref l), some (.ref D), w7, some (oV r), some (.str (listText (ps.map Qd.tx))), some (.ref e), some fv] = [some (.ref a), some (.int (0 + (i : Int))), some (.ref p), some (.int (0 + (j : Int))), some (.int L), some (.ref l), some (.ref D), w7, some (oV r), some (.str (listText (ps.map Qd.tx))), w10, w11] :=
      fun s => ⟨K11.trans (But.of s), ⟨_, s _ _ hx11⟩, fun z => absurd z (Nat.succ_ne_zero _), _, _, rfl⟩
    rcases hf10 with ⟨rfl, wa, rfl, hW⟩ | ⟨m, q, rfl, rfl, eq⟩
    · -- a water
      have hW11 := hW.butL hx10 k11
      refine ⟨_, rfl, rfl, _, rfl, iteF ⟨_, rfl, rfl, _, rfl, iteT ?_⟩⟩
      have sG11 := sameG K11
      refine ⟨_, rfl, _, rfl, _, rfl, l, ts, ds, rfl, sG11 _ _ hlG, hDG.same sG11, by omega, fun pm G12 us s12 em elen mem => ?_⟩
      refine ⟨wa, pm, L, qs, us, ps, 50, rfl, hW11.same s12, hP.same (sG11.trans s12), by decide, Lz.mono (by decide), em, by omega, by omega, fun m z t e1 e2 => ?_, fun G13 s13 => ⟨true, rfl, iteF (done (s12.trans s13))⟩⟩
      have lt : m < ts.length := by rw [← elen]; exact (List.getElem?_eq_some_iff.mp e2).1
      obtain ⟨t', S, W, _, es, _, W0, W1, Sz⟩ := hDG.at_ lt
      obtain ⟨f1, f2⟩ := terms m z S W e1 es
      refine ⟨S * W, W, mem m t S W e2 es, by grind, f2, ?_, ?_⟩
      · exact Bn.mono (j := 80) (Bn.mul (j := 40) (k := 40) (show S.natAbs < 2 ^ 40 by omega) (show W.natAbs < 2 ^ 40 by omega)) (by decide)
      · exact Bn.mono (j := 40) (show W.natAbs < 2 ^ 40 by omega) (by decide)
    · -- refused
      have m1 := rj m rfl
      have eq11 : G11 q = some (.tup [.str "touching", .int (m : Nat)]) := k11 _ _ (fun z => by rw [z, hx10] at eq; cases eq) eq
      obtain ⟨sh, szt⟩ := touching_data m m1
      refine ⟨_, rfl, rfl, _, rfl, iteT ⟨_, rfl, _, .tuple [.str "touching", .int (m : Nat)], rfl, .tup (SqT.of eq11) (.cons (.str _) (.cons (.int _) .nil)), sh, rfl, Nat.le_of_ble_eq_true rfl, szt, ?_⟩⟩
      refine ⟨_, rfl, (by show 2 ≤ sizeLine; decide), fun q2 hq2 => ⟨_, .tuple [.str "touching", .int (m : Nat)], rfl, .tup (SqT.of upd_same) (.cons (.str _) (.cons (.int _) .nil)), sh, rfl, Nat.le_of_ble_eq_true rfl, szt, rfl, _, rfl, if_false_ (by simp) ?_⟩⟩
      exact ⟨_, rfl, rfl, _, rfl, iteF (done (same_upd hq2))⟩
  rintro σ' G5 ⟨s5, x10, x11, rfl⟩
  refine ⟨_, rfl, D, qs, ps.map Qd.tx, rfl, s5 _ _ eD, tl (hP.same s5), sz, _, rfl, rfl, _, rfl, if_false_ (by simp) ?_⟩
  exact ⟨S4.trans s5, hbG.same s5, _, _, _, _, _, _, _, _, _, rfl⟩
end

theorem law_asks {K : PySem.W.Frag} {H : Hp} {a : Addr} {ns : List Int} (hl : ns.length ≤ 63) (hS : SqL K H a (ns.map V.int)) : spLaw K [.ref a] H (fun v _ => v = .bl true) E0 := ⟨a, ns, rfl, hS, hl, fun _ => rfl⟩
end Pm
open PySem PySem.W PyProof.Rows in
set_option maxRecDepth 100000 in
set_option maxHeartbeats 0 in
theorem PySem.Challenge.cw_poolsmeet_k08_waters_made_holds : PySem.Challenge.rw_poolsmeet_k08_waters_made.Holds := by
  refine Pm.hd ?_
  k_fill
  refine Pm.walk (l := PySem.Challenge.rw_poolsmeet_k08_waters_made) (lv := Pm.lawLevel) (sp := Pm.spLaw) rfl rfl ⟨rfl, by decide, by decide⟩ (fun w h Y => PySem.W.kIn_of Y) ?F (fun hl hS => Pm.law_asks hl hS)
  case F =>
    intro w mg fa h KX G hmg
    refine' Pm.all_mk (fun T => Pm.ok_law T) KX G hmg ?zb_len ?zb_range ?zb_int ?zb_str ?zb_bool ?zb_abs ?zb_isinstance ?zb_repr ?zb_max ?zb_min ?zb_tuple ?zb_list ?zb_sum ?zb_enumerate ?zb_sorted ?gi_gcd ?gi_lcm ?gc_PoolError ?xl_PoolError ?xr_PoolError ?xs_PoolError ?xa_PoolError ?xg_PoolError ?xe_PoolError ?xt_PoolError ?xh_PoolError ?xk_PoolError ?xi_PoolError ?xq_PoolError ?gc_InvalidNumber ?xl_InvalidNumber ?xr_InvalidNumber ?xs_InvalidNumber ?xa_InvalidNumber ?xg_InvalidNumber ?xe_InvalidNumber ?xt_InvalidNumber ?xh_InvalidNumber ?xk_InvalidNumber ?xi_InvalidNumber ?xq_InvalidNumber ?na_InvalidNumber_value ?gc_InvalidDrop ?xl_InvalidDrop ?xr_InvalidDrop ?xs_InvalidDrop ?xa_InvalidDrop ?xg_InvalidDrop ?xe_InvalidDrop ?xt_InvalidDrop ?xh_InvalidDrop ?xk_InvalidDrop ?xi_InvalidDrop ?xq_InvalidDrop ?gc_Full ?xl_Full ?xr_Full ?xs_Full ?xa_Full ?xg_Full ?xe_Full ?xt_Full ?xh_Full ?xk_Full ?xi_Full ?xq_Full ?gc_Touching ?xl_Touching ?xr_Touching ?xs_Touching ?xa_Touching ?xg_Touching ?xe_Touching ?xt_Touching ?xh_Touching ?xk_Touching ?xi_Touching ?xq_Touching ?ea_Touching ?eb_Touching ?et_Touching ?em_Touching ?na_Touching_index ?gc_Ratio ?pg_Ratio ?hd_Ratio ?po_Ratio ?sa_Ratio ?tca_Ratio ?tcb_Ratio ?tcc_Ratio ?tcd_Ratio ?ric_Ratio ?rty_Ratio ?rss_Ratio ?rda_Ratio ?rdb_Ratio ?mk_Ratio ?kc_Ratio ?sf_Ratio ?mra_Ratio ?mrb_Ratio ?st_Ratio_int ?st_Ratio_bool ?st_Ratio_str ?st_Ratio_NoneType ?st_Ratio_tuple ?su_Ratio_int ?su_Ratio_bool ?su_Ratio_tuple ?su_Ratio_str ?su_Ratio_NoneType ?fmo_Ratio ?na_Ratio_top ?na_Ratio_bottom ?gc_Pool ?pg_Pool ?hd_Pool ?po_Pool ?sa_Pool ?tca_Pool ?tcb_Pool ?tcc_Pool ?tcd_Pool ?ric_Pool ?rty_Pool ?rss_Pool ?rda_Pool ?rdb_Pool ?mk_Pool ?kc_Pool ?sf_Pool ?mra_Pool ?mrb_Pool ?st_Pool_int ?st_Pool_bool ?st_Pool_str ?st_Pool_NoneType ?st_Pool_tuple ?su_Pool_int ?su_Pool_bool ?su_Pool_tuple ?su_Pool_str ?su_Pool_NoneType ?neo_Pool ?na_Pool__middle ?na_Pool__volume ?na_Pool__left ?na_Pool__right ?gc_Water ?pg_Water ?hd_Water ?po_Water ?sa_Water ?tca_Water ?tcb_Water ?tcc_Water ?tcd_Water ?ric_Water ?rty_Water ?rss_Water ?rda_Water ?rdb_Water ?mk_Water ?kc_Water ?sf_Water ?mra_Water ?mrb_Water ?st_Water_int ?st_Water_bool ?st_Water_str ?st_Water_NoneType ?st_Water_tuple ?su_Water_int ?su_Water_bool ?su_Water_tuple ?su_Water_str ?su_Water_NoneType ?na_Water__pools ?sx_Touching_PoolError ?sx_Touching_InvalidNumber ?sx_Touching_InvalidDrop ?sx_Touching_Full ?a_InvalidNumber_init_d ?i_InvalidNumber_init_d ?l_InvalidNumber_init_d ?c_InvalidNumber_init_d ?k_InvalidNumber_init_d ?a_Touching_init_d ?i_Touching_init_d ?l_Touching_init_d ?c_Touching_init_d ?k_Touching_init_d ?a_Ratio_init_d ?i_Ratio_init_d ?l_Ratio_init_d ?dl_Ratio_init_d ?dd_Ratio_init_d ?dv_Ratio_init_d ?c_Ratio_init_d ?k_Ratio_init_d ?a_Ratio_of ?r_Ratio_of ?i_Ratio_of ?l_Ratio_of ?c_Ratio_of ?k_Ratio_of ?a_Ratio_over ?i_Ratio_over ?l_Ratio_over ?c_Ratio_over ?k_Ratio_over ?a_Ratio_add_d ?i_Ratio_add_d ?l_Ratio_add_d ?c_Ratio_add_d ?k_Ratio_add_d ?br_Ratio_add_d ?bp_Ratio_add_d ?bl_Ratio_add_d ?bo_Ratio_add_d ?ba_Ratio_add_d ?n1_Ratio_add_d ?n2_Ratio_add_d ?a_Ratio_sub_d ?i_Ratio_sub_d ?l_Ratio_sub_d ?c_Ratio_sub_d ?k_Ratio_sub_d ?br_Ratio_sub_d ?bp_Ratio_sub_d ?bl_Ratio_sub_d ?bo_Ratio_sub_d ?ba_Ratio_sub_d ?n1_Ratio_sub_d ?n2_Ratio_sub_d ?a_Ratio_mul_d ?i_Ratio_mul_d ?l_Ratio_mul_d ?c_Ratio_mul_d ?k_Ratio_mul_d ?br_Ratio_mul_d ?bp_Ratio_mul_d ?bl_Ratio_mul_d ?bo_Ratio_mul_d ?ba_Ratio_mul_d ?n1_Ratio_mul_d ?n2_Ratio_mul_d ?a_Ratio_abs_d ?i_Ratio_abs_d ?l_Ratio_abs_d ?c_Ratio_abs_d ?k_Ratio_abs_d ?a_Ratio_eq_d ?i_Ratio_eq_d ?l_Ratio_eq_d ?c_Ratio_eq_d ?k_Ratio_eq_d ?a_Ratio_ne_d ?i_Ratio_ne_d ?l_Ratio_ne_d ?c_Ratio_ne_d ?k_Ratio_ne_d ?a_Ratio_le_d ?i_Ratio_le_d ?l_Ratio_le_d ?c_Ratio_le_d ?k_Ratio_le_d ?a_Ratio_ge_d ?i_Ratio_ge_d ?l_Ratio_ge_d ?c_Ratio_ge_d ?k_Ratio_ge_d ?a_Ratio_str_d ?i_Ratio_str_d ?l_Ratio_str_d ?c_Ratio_str_d ?k_Ratio_str_d ?a_is_number ?l_is_number ?c_is_number ?k_is_number ?a_lead ?l_lead ?c_lead ?k_lead ?a_Pool_init_d ?i_Pool_init_d ?l_Pool_init_d ?c_Pool_init_d ?k_Pool_init_d ?a_Pool_middle ?pg_Pool_middle ?pt_Pool_middle ?r_Pool_middle ?l_Pool_middle ?c_Pool_middle ?k_Pool_middle ?a_Pool_volume ?pg_Pool_volume ?pt_Pool_volume ?r_Pool_volume ?l_Pool_volume ?c_Pool_volume ?k_Pool_volume ?a_Pool_left ?pg_Pool_left ?pt_Pool_left ?r_Pool_left ?l_Pool_left ?c_Pool_left ?k_Pool_left ?a_Pool_right ?pg_Pool_right ?pt_Pool_right ?r_Pool_right ?l_Pool_right ?c_Pool_right ?k_Pool_right ?a_Pool_add_d ?i_Pool_add_d ?l_Pool_add_d ?c_Pool_add_d ?k_Pool_add_d ?br_Pool_add_d ?bp_Pool_add_d ?bl_Pool_add_d ?bo_Pool_add_d ?ba_Pool_add_d ?n1_Pool_add_d ?n2_Pool_add_d ?a_Pool_contains_d ?i_Pool_contains_d ?l_Pool_contains_d ?c_Pool_contains_d ?k_Pool_contains_d ?a_Pool_eq_d ?i_Pool_eq_d ?l_Pool_eq_d ?c_Pool_eq_d ?k_Pool_eq_d ?a_Pool_repr_d ?i_Pool_repr_d ?l_Pool_repr_d ?c_Pool_repr_d ?k_Pool_repr_d ?a_Water_init_d ?i_Water_init_d ?l_Water_init_d ?dl_Water_init_d ?dd_Water_init_d ?dv_Water_init_d ?c_Water_init_d ?k_Water_init_d ?a_Water_getitem_d ?i_Water_getitem_d ?l_Water_getitem_d ?c_Water_getitem_d ?k_Water_getitem_d ?fn_Water_getitem_d ?a_Water_len_d ?i_Water_len_d ?l_Water_len_d ?c_Water_len_d ?k_Water_len_d ?a_lw_box ?l_lw_box ?c_lw_box ?k_lw_box ?a_lw_take ?l_lw_take ?c_lw_take ?k_lw_take ?a_lw_number ?l_lw_number ?c_lw_number ?k_lw_number ?a_lw_is ?l_lw_is ?c_lw_is ?k_lw_is ?a_lw_pool ?l_lw_pool ?c_lw_pool ?k_lw_pool ?a_lw_moments ?l_lw_moments ?c_lw_moments ?k_lw_moments ?a_lw_is_water ?l_lw_is_water ?c_lw_is_water ?k_lw_is_water ?a_lw_row ?l_lw_row ?c_lw_row ?k_lw_row ?a_lw_long_row ?l_lw_long_row ?c_lw_long_row ?k_lw_long_row ?a_lw_due ?l_lw_due ?c_lw_due ?k_lw_due ?a_lw_made ?l_lw_made ?c_lw_made ?k_lw_made ?a_law ?l_law ?c_law ?k_law ?le_empty ?ce_empty ?de_empty ?xe_empty
    (case zb_len => k_is)
    (case zb_range => k_is)
    (case zb_int => k_is)
    (case zb_str => k_is)
    (case zb_bool => k_is)
    (case zb_abs => k_is)
    (case zb_isinstance => k_is)
    (case zb_repr => k_is)
    (case zb_max => k_is)
    (case zb_min => k_is)
    (case zb_tuple => k_is)
    (case zb_list => k_is)
    (case zb_sum => k_is)
    (case zb_enumerate => k_is)
    (case zb_sorted => k_is)
    (case gi_gcd => k_is)
    (case gi_lcm => k_is)
    (case gc_PoolError => k_is)
    (case xl_PoolError => k_is)
    (case xr_PoolError => first | rfl | decide +kernel)
    (case xs_PoolError => k_is)
    (case xa_PoolError => k_is)
    (case xg_PoolError => k_is)
    (case xe_PoolError => k_is)
    (case xt_PoolError => k_is)
    (case xh_PoolError => k_is)
    (case xk_PoolError => k_is)
    (case xi_PoolError => k_is)
    (case xq_PoolError => first | rfl | k_is)
    (case gc_InvalidNumber => k_is)
    (case xl_InvalidNumber => k_is)
    (case xr_InvalidNumber => first | rfl | decide +kernel)
    (case xs_InvalidNumber => k_is)
    (case xa_InvalidNumber => k_is)
    (case xg_InvalidNumber => k_is)
    (case xe_InvalidNumber => k_is)
    (case xt_InvalidNumber => k_is)
    (case xh_InvalidNumber => k_is)
    (case xk_InvalidNumber => k_is)
    (case xi_InvalidNumber => k_is)
    (case xq_InvalidNumber => first | rfl | k_is)
    (case na_InvalidNumber_value => k_is)
    (case gc_InvalidDrop => k_is)
    (case xl_InvalidDrop => k_is)
    (case xr_InvalidDrop => first | rfl | decide +kernel)
    (case xs_InvalidDrop => k_is)
    (case xa_InvalidDrop => k_is)
    (case xg_InvalidDrop => k_is)
    (case xe_InvalidDrop => k_is)
    (case xt_InvalidDrop => k_is)
    (case xh_InvalidDrop => k_is)
    (case xk_InvalidDrop => k_is)
    (case xi_InvalidDrop => k_is)
    (case xq_InvalidDrop => first | rfl | k_is)
    (case gc_Full => k_is)
    (case xl_Full => k_is)
    (case xr_Full => first | rfl | decide +kernel)
    (case xs_Full => k_is)
    (case xa_Full => k_is)
    (case xg_Full => k_is)
    (case xe_Full => k_is)
    (case xt_Full => k_is)
    (case xh_Full => k_is)
    (case xk_Full => k_is)
    (case xi_Full => k_is)
    (case xq_Full => first | rfl | k_is)
    (case gc_Touching => k_is)
    (case xl_Touching => k_is)
    (case xr_Touching => first | rfl | decide +kernel)
    (case xs_Touching => k_is)
    (case xa_Touching => k_is)
    (case xg_Touching => k_is)
    (case xe_Touching => k_is)
    (case xt_Touching => k_is)
    (case xh_Touching => k_is)
    (case xk_Touching => k_is)
    (case xi_Touching => k_is)
    (case xq_Touching => first | rfl | k_is)
    (case ea_Touching => k_is)
    (case eb_Touching => k_is)
    (case et_Touching => k_is)
    (case em_Touching => k_is)
    (case na_Touching_index => k_is)
    (case gc_Ratio => k_is)
    (case pg_Ratio => k_is)
    (case hd_Ratio => k_is)
    (case po_Ratio => k_is)
    (case sa_Ratio => k_is)
    (case tca_Ratio => k_is)
    (case tcb_Ratio => k_is)
    (case tcc_Ratio => k_is)
    (case tcd_Ratio => k_is)
    (case ric_Ratio => k_is)
    (case rty_Ratio => k_is)
    (case rss_Ratio => k_is)
    (case rda_Ratio => k_is)
    (case rdb_Ratio => k_is)
    (case mk_Ratio => k_is)
    (case kc_Ratio => k_is)
    (case sf_Ratio => k_is)
    (case mra_Ratio => k_is)
    (case mrb_Ratio => first | rfl | decide +kernel)
    (case st_Ratio_int => k_is)
    (case st_Ratio_bool => k_is)
    (case st_Ratio_str => k_is)
    (case st_Ratio_NoneType => k_is)
    (case st_Ratio_tuple => k_is)
    (case su_Ratio_int => k_is)
    (case su_Ratio_bool => k_is)
    (case su_Ratio_tuple => k_is)
    (case su_Ratio_str => k_is)
    (case su_Ratio_NoneType => k_is)
    (case fmo_Ratio => k_is)
    (case na_Ratio_top => k_is)
    (case na_Ratio_bottom => k_is)
    (case gc_Pool => k_is)
    (case pg_Pool => k_is)
    (case hd_Pool => k_is)
    (case po_Pool => k_is)
    (case sa_Pool => k_is)
    (case tca_Pool => k_is)
    (case tcb_Pool => k_is)
    (case tcc_Pool => k_is)
    (case tcd_Pool => k_is)
    (case ric_Pool => k_is)
    (case rty_Pool => k_is)
    (case rss_Pool => k_is)
    (case rda_Pool => k_is)
    (case rdb_Pool => k_is)
    (case mk_Pool => k_is)
    (case kc_Pool => k_is)
    (case sf_Pool => k_is)
    (case mra_Pool => k_is)
    (case mrb_Pool => first | rfl | decide +kernel)
    (case st_Pool_int => k_is)
    (case st_Pool_bool => k_is)
    (case st_Pool_str => k_is)
    (case st_Pool_NoneType => k_is)
    (case st_Pool_tuple => k_is)
    (case su_Pool_int => k_is)
    (case su_Pool_bool => k_is)
    (case su_Pool_tuple => k_is)
    (case su_Pool_str => k_is)
    (case su_Pool_NoneType => k_is)
    (case neo_Pool => k_is)
    (case na_Pool__middle => k_is)
    (case na_Pool__volume => k_is)
    (case na_Pool__left => k_is)
    (case na_Pool__right => k_is)
    (case gc_Water => k_is)
    (case pg_Water => k_is)
    (case hd_Water => k_is)
    (case po_Water => k_is)
    (case sa_Water => k_is)
    (case tca_Water => k_is)
    (case tcb_Water => k_is)
    (case tcc_Water => k_is)
    (case tcd_Water => k_is)
    (case ric_Water => k_is)
    (case rty_Water => k_is)
    (case rss_Water => k_is)
    (case rda_Water => k_is)
    (case rdb_Water => k_is)
    (case mk_Water => k_is)
    (case kc_Water => k_is)
    (case sf_Water => k_is)
    (case mra_Water => k_is)
    (case mrb_Water => first | rfl | decide +kernel)
    (case st_Water_int => k_is)
    (case st_Water_bool => k_is)
    (case st_Water_str => k_is)
    (case st_Water_NoneType => k_is)
    (case st_Water_tuple => k_is)
    (case su_Water_int => k_is)
    (case su_Water_bool => k_is)
    (case su_Water_tuple => k_is)
    (case su_Water_str => k_is)
    (case su_Water_NoneType => k_is)
    (case na_Water__pools => k_is)
    (case sx_Touching_PoolError => first | rfl | k_is)
    (case sx_Touching_InvalidNumber => first | rfl | k_is)
    (case sx_Touching_InvalidDrop => first | rfl | k_is)
    (case sx_Touching_Full => first | rfl | k_is)
    (case a_InvalidNumber_init_d => k_is)
    (case i_InvalidNumber_init_d => k_is)
    (case l_InvalidNumber_init_d => k_is)
    (case c_InvalidNumber_init_d => k_is)
    (case k_InvalidNumber_init_d => k_is)
    (case a_Touching_init_d => k_is)
    (case i_Touching_init_d => k_is)
    (case l_Touching_init_d => k_is)
    (case c_Touching_init_d => k_is)
    (case k_Touching_init_d => k_is)
    (case a_Ratio_init_d => k_is)
    (case i_Ratio_init_d => k_is)
    (case l_Ratio_init_d => k_is)
    (case dl_Ratio_init_d => k_is)
    (case dd_Ratio_init_d => rfl)
    (case dv_Ratio_init_d => exact .cons ⟨_, rfl⟩ .nil)
    (case c_Ratio_init_d => k_is)
    (case k_Ratio_init_d => k_is)
    (case a_Ratio_of => k_is)
    (case r_Ratio_of => k_is)
    (case i_Ratio_of => k_is)
    (case l_Ratio_of => k_is)
    (case c_Ratio_of => k_is)
    (case k_Ratio_of => k_is)
    (case a_Ratio_over => k_is)
    (case i_Ratio_over => k_is)
    (case l_Ratio_over => k_is)
    (case c_Ratio_over => k_is)
    (case k_Ratio_over => k_is)
    (case a_Ratio_add_d => k_is)
    (case i_Ratio_add_d => k_is)
    (case l_Ratio_add_d => k_is)
    (case c_Ratio_add_d => k_is)
    (case k_Ratio_add_d => k_is)
    (case br_Ratio_add_d => k_is)
    (case bp_Ratio_add_d => first | exact .inl rfl | exact .inr ⟨_, rfl⟩)
    (case bl_Ratio_add_d => k_is)
    (case bo_Ratio_add_d => k_is)
    (case ba_Ratio_add_d => k_is)
    (case n1_Ratio_add_d => k_is)
    (case n2_Ratio_add_d => k_is)
    (case a_Ratio_sub_d => k_is)
    (case i_Ratio_sub_d => k_is)
    (case l_Ratio_sub_d => k_is)
    (case c_Ratio_sub_d => k_is)
    (case k_Ratio_sub_d => k_is)
    (case br_Ratio_sub_d => k_is)
    (case bp_Ratio_sub_d => first | exact .inl rfl | exact .inr ⟨_, rfl⟩)
    (case bl_Ratio_sub_d => k_is)
    (case bo_Ratio_sub_d => k_is)
    (case ba_Ratio_sub_d => k_is)
    (case n1_Ratio_sub_d => k_is)
    (case n2_Ratio_sub_d => k_is)
    (case a_Ratio_mul_d => k_is)
    (case i_Ratio_mul_d => k_is)
    (case l_Ratio_mul_d => k_is)
    (case c_Ratio_mul_d => k_is)
    (case k_Ratio_mul_d => k_is)
    (case br_Ratio_mul_d => k_is)
    (case bp_Ratio_mul_d => first | exact .inl rfl | exact .inr ⟨_, rfl⟩)
    (case bl_Ratio_mul_d => k_is)
    (case bo_Ratio_mul_d => k_is)
    (case ba_Ratio_mul_d => k_is)
    (case n1_Ratio_mul_d => k_is)
    (case n2_Ratio_mul_d => k_is)
    (case a_Ratio_abs_d => k_is)
    (case i_Ratio_abs_d => k_is)
    (case l_Ratio_abs_d => k_is)
    (case c_Ratio_abs_d => k_is)
    (case k_Ratio_abs_d => k_is)
    (case a_Ratio_eq_d => k_is)
    (case i_Ratio_eq_d => k_is)
    (case l_Ratio_eq_d => k_is)
    (case c_Ratio_eq_d => k_is)
    (case k_Ratio_eq_d => k_is)
    (case a_Ratio_ne_d => k_is)
    (case i_Ratio_ne_d => k_is)
    (case l_Ratio_ne_d => k_is)
    (case c_Ratio_ne_d => k_is)
    (case k_Ratio_ne_d => k_is)
    (case a_Ratio_le_d => k_is)
    (case i_Ratio_le_d => k_is)
    (case l_Ratio_le_d => k_is)
    (case c_Ratio_le_d => k_is)
    (case k_Ratio_le_d => k_is)
    (case a_Ratio_ge_d => k_is)
    (case i_Ratio_ge_d => k_is)
    (case l_Ratio_ge_d => k_is)
    (case c_Ratio_ge_d => k_is)
    (case k_Ratio_ge_d => k_is)
    (case a_Ratio_str_d => k_is)
    (case i_Ratio_str_d => k_is)
    (case l_Ratio_str_d => k_is)
    (case c_Ratio_str_d => k_is)
    (case k_Ratio_str_d => k_is)
    (case a_is_number => k_is)
    (case l_is_number => k_is)
    (case c_is_number => k_is)
    (case k_is_number => k_is)
    (case a_lead => k_is)
    (case l_lead => k_is)
    (case c_lead => k_is)
    (case k_lead => k_is)
    (case a_Pool_init_d => k_is)
    (case i_Pool_init_d => k_is)
    (case l_Pool_init_d => k_is)
    (case c_Pool_init_d => k_is)
    (case k_Pool_init_d => k_is)
    (case a_Pool_middle => k_is)
    (case pg_Pool_middle => k_is)
    (case pt_Pool_middle => k_is)
    (case r_Pool_middle => k_is)
    (case l_Pool_middle => k_is)
    (case c_Pool_middle => k_is)
    (case k_Pool_middle => k_is)
    (case a_Pool_volume => k_is)
    (case pg_Pool_volume => k_is)
    (case pt_Pool_volume => k_is)
    (case r_Pool_volume => k_is)
    (case l_Pool_volume => k_is)
    (case c_Pool_volume => k_is)
    (case k_Pool_volume => k_is)
    (case a_Pool_left => k_is)
    (case pg_Pool_left => k_is)
    (case pt_Pool_left => k_is)
    (case r_Pool_left => k_is)
    (case l_Pool_left => k_is)
    (case c_Pool_left => k_is)
    (case k_Pool_left => k_is)
    (case a_Pool_right => k_is)
    (case pg_Pool_right => k_is)
    (case pt_Pool_right => k_is)
    (case r_Pool_right => k_is)
    (case l_Pool_right => k_is)
    (case c_Pool_right => k_is)
    (case k_Pool_right => k_is)
    (case a_Pool_add_d => k_is)
    (case i_Pool_add_d => k_is)
    (case l_Pool_add_d => k_is)
    (case c_Pool_add_d => k_is)
    (case k_Pool_add_d => k_is)
    (case br_Pool_add_d => k_is)
    (case bp_Pool_add_d => first | exact .inl rfl | exact .inr ⟨_, rfl⟩)
    (case bl_Pool_add_d => k_is)
    (case bo_Pool_add_d => k_is)
    (case ba_Pool_add_d => k_is)
    (case n1_Pool_add_d => k_is)
    (case n2_Pool_add_d => k_is)
    (case a_Pool_contains_d => k_is)
    (case i_Pool_contains_d => k_is)
    (case l_Pool_contains_d => k_is)
    (case c_Pool_contains_d => k_is)
    (case k_Pool_contains_d => k_is)
    (case a_Pool_eq_d => k_is)
    (case i_Pool_eq_d => k_is)
    (case l_Pool_eq_d => k_is)
    (case c_Pool_eq_d => k_is)
    (case k_Pool_eq_d => k_is)
    (case a_Pool_repr_d => k_is)
    (case i_Pool_repr_d => k_is)
    (case l_Pool_repr_d => k_is)
    (case c_Pool_repr_d => k_is)
    (case k_Pool_repr_d => k_is)
    (case a_Water_init_d => k_is)
    (case i_Water_init_d => k_is)
    (case l_Water_init_d => k_is)
    (case dl_Water_init_d => k_is)
    (case dd_Water_init_d => rfl)
    (case dv_Water_init_d => exact .cons rfl .nil)
    (case c_Water_init_d => k_is)
    (case k_Water_init_d => k_is)
    (case a_Water_getitem_d => k_is)
    (case i_Water_getitem_d => k_is)
    (case l_Water_getitem_d => k_is)
    (case c_Water_getitem_d => k_is)
    (case k_Water_getitem_d => k_is)
    (case fn_Water_getitem_d => k_is)
    (case a_Water_len_d => k_is)
    (case i_Water_len_d => k_is)
    (case l_Water_len_d => k_is)
    (case c_Water_len_d => k_is)
    (case k_Water_len_d => k_is)
    (case a_lw_box => k_is)
    (case l_lw_box => k_is)
    (case c_lw_box => k_is)
    (case k_lw_box => k_is)
    (case a_lw_take => k_is)
    (case l_lw_take => k_is)
    (case c_lw_take => k_is)
    (case k_lw_take => k_is)
    (case a_lw_number => k_is)
    (case l_lw_number => k_is)
    (case c_lw_number => k_is)
    (case k_lw_number => k_is)
    (case a_lw_is => k_is)
    (case l_lw_is => k_is)
    (case c_lw_is => k_is)
    (case k_lw_is => k_is)
    (case a_lw_pool => k_is)
    (case l_lw_pool => k_is)
    (case c_lw_pool => k_is)
    (case k_lw_pool => k_is)
    (case a_lw_moments => k_is)
    (case l_lw_moments => k_is)
    (case c_lw_moments => k_is)
    (case k_lw_moments => k_is)
    (case a_lw_is_water => k_is)
    (case l_lw_is_water => k_is)
    (case c_lw_is_water => k_is)
    (case k_lw_is_water => k_is)
    (case a_lw_row => k_is)
    (case l_lw_row => k_is)
    (case c_lw_row => k_is)
    (case k_lw_row => k_is)
    (case a_lw_long_row => k_is)
    (case l_lw_long_row => k_is)
    (case c_lw_long_row => k_is)
    (case k_lw_long_row => k_is)
    (case a_lw_due => k_is)
    (case l_lw_due => k_is)
    (case c_lw_due => k_is)
    (case k_lw_due => k_is)
    (case a_lw_made => k_is)
    (case l_lw_made => k_is)
    (case c_lw_made => k_is)
    (case k_lw_made => k_is)
    (case a_law => k_is)
    (case l_law => k_is)
    (case c_law => k_is)
    (case k_law => k_is)
    (case le_empty => k_is)
    (case ce_empty => rfl)
    (case de_empty => rfl)
    (case xe_empty => trivial)
#print axioms PySem.Challenge.cw_poolsmeet_k08_waters_made_holds

import PyProof.Rows.All
import Wide.All
import OpenK.AllK
import Wide.FinOn
import KE.OsRunLaw
import HandS.Head3
import KE.KOpsOwn
import KE.KCallOwn
import HandS.OwnEq
import HandS.ClsMeth
import HandS.Property
import HandS.ExcOwn
import HandS.ExcInit
import HandS.WordsExc
import HandS.Wide
import HandS.IsInst
import HandS.Defaults
import HandS.MakeKw
import HandS.MakeKwOnly
import HandS.ForMost
import HandS.Gcd
import HandS.FStr
import HandS.Flow
import HandS.ExcField
import HandS.Codes
import HandS.Style
import KE.KFmtOwn
import KE.KIsAll
import HandS.ExcIs
import HandS.Zip
import HandS.ListItems
import HandS.Walk
import PyProof.ReprLoop
import HandS.SortInts
import KE.GoesEnum
import HandS.SortKw
import PyProof.SumAny
import HandS.GenList
import HandS.TupAny
import HandS.GenYield
import HandS.StrMore
import PyProof.FitsReplace
import KE.KExcInit
import HandS.ExcValue
import HandS.Small
import PySem.Challenge.RW_poolsmeet_k01_errors
set_option Elab.async false
set_option linter.all false
set_option maxRecDepth 100000
set_option maxHeartbeats 2000000
/-! Pm, the head in pieces: the top's run cut between its statements, the states at the cuts written out -/
noncomputable section
namespace PmHd
open PySem PySem.W PySem.Calls PyProof.Rows HandSHeadRun

/-! ### the boot, the imports, the fence -/
def openF (st : SharedT → Thread → Option (SharedT × Thread)) (fence : Program → Shared → Option Shared) (M : Nat) (p : Program) : Option SharedT := match impF st M (startT (opening p)) (start (opening p)).2 with
  | some s => (match fence p s.abs with
    | some s0 => treeOf s0
    | none => none)
  | none => none
theorem openF_ok {M : Nat} {p : Program} {w : World} {x : SharedT} (h : openF (stepT (denote treeTable) (opening p) w) fenceModules? M p = some x) : fencedOpening treeTable p w M = some x.abs := by
  unfold openF at h
  cases e1 : impF (stepT (denote treeTable) (opening p) w) M (startT (opening p)) (start (opening p)).2 with
  | none =>
    rw [e1] at h
    cases h
  | some s =>
    rw [e1] at h
    have h1 : (match fenceModules? p s.abs with
      | some s0 => treeOf s0
      | none => none) = some x := h
    have a1 := impF_ok e1
    rw [startT_eq] at a1
    cases e2 : fenceModules? p s.abs with
    | none =>
      rw [e2] at h1
      cases h1
    | some z =>
      rw [e2] at h1
      have h2 : treeOf z = some x := h1
      rw [(treeOf_eq h2).1]
      unfold fencedOpening
      rw [a1]
      exact e2
theorem openQ_eq (M : Nat) (p : Program) (w : World) : openF (stepT (denote treeTable) (opening p) w) fenceModules? M p = openF (stepQ (denQ tabQ) (opening p) w) fenceQ M p := by
  rw [stepQ_eq, denQ_eq, tabQ_eq, fenceQ_eq]
theorem open_of {M n k : Nat} {p : Program} {T : Params → PySem.W.BT} {life : Life} {gs : Array GenState} {d : Drawn}
    (h : ∀ w : World, (openF (stepQ (denQ tabQ) (opening p) w) fenceQ M p).map (fun x => (x.tree, x.n, x.life, x.gens, x.drawn, x.toks)) = some (T w.params, n, life, gs, d, k)) :
    ∀ w : World, (fencedOpening treeTable p w M).map (fun s => (s.heap, s.gens, s.drawn, s.toks)) = some (absHeap (T w.params) n life, gs, d, k) := fun w => by
  obtain ⟨⟨t, n', l, g, d', k', os⟩, e, e'⟩ := Option.map_eq_some_iff.mp (h w)
  obtain ⟨rfl, rfl, rfl, rfl, rfl, rfl⟩ : t = T w.params ∧ n' = n ∧ l = life ∧ g = gs ∧ d' = d ∧ k' = k := by simpa using e'
  rw [← openQ_eq] at e
  rw [openF_ok e]
  rfl

/-! ### statements -/
section
variable (st : SharedT → Thread → Option (SharedT × Thread)) (n0 : Nat) (ann : Option Value)
def segF : Nat → SharedT → Thread → Option (Flow × SharedT × Code × Pos)
  | 0, _, _ => none
  | m + 1, s, t => match endAt 1 t with
    | some f => some (f, s, t.code, t.pos)
    | none => match stepOk n0 ann t with
      | false => none
      | true => match st s t with
        | some (s', t') => frS s' fun s' => segF m s' t'
        | none => none
def topF : Nat → SharedT → Thread → Option (SharedT × Thread)
  | 0, s, t => some (s, t)
  | m + 1, s, t => match through t with
    | true => none
    | false => match stepOk n0 ann t with
      | false => none
      | true => match st s t with
        | some (s', t') => frS s' fun s' => topF m s' t'
        | none => none
end
theorem segF_eq {tb : String → Option Builtin} {p : Program} {w : World} {n0 : Nat} {ann : Option Value} : ∀ (m : Nat) (s : SharedT) (t : Thread), segF (stepT (denote tb) p w) n0 ann m s t = segRunT tb p w n0 ann 1 m s t
  | 0, _, _ => rfl
  | m + 1, s, t => by
    unfold segF segRunT
    cases endAt 1 t with
    | some f => rfl
    | none =>
      cases stepOk n0 ann t with
      | false => rfl
      | true =>
        cases stepT (denote tb) p w s t with
        | none => rfl
        | some r =>
          obtain ⟨s', t'⟩ := r
          show frS s' (fun s' => segF (stepT (denote tb) p w) n0 ann m s' t') = _
          rw [frS_eq, segF_eq m]
theorem topF_ok {tb : String → Option Builtin} {p : Program} {w : World} {n0 : Nat} {ann : Option Value} : ∀ (m : Nat) (s : SharedT) (t : Thread) (s' : SharedT) (t' : Thread), topF (stepT (denote tb) p w) n0 ann m s t = some (s', t') → topGo tb p w n0 ann m s.abs t = some (s'.abs, t')
  | 0, _, _, _, _, h => by cases h; rfl
  | m + 1, s, t, s', t', h => by
    unfold topF at h
    unfold topGo
    cases ht : through t with
    | true => rw [ht] at h; cases h
    | false =>
      rw [ht] at h
      cases hk : stepOk n0 ann t with
      | false => rw [hk] at h; cases h
      | true =>
        rw [hk] at h
        cases hs : stepT (denote tb) p w s t with
        | none => rw [hs] at h; cases h
        | some r =>
          obtain ⟨s2, t2⟩ := r
          rw [hs] at h
          have h3 : (frS s2 fun s' => topF (stepT (denote tb) p w) n0 ann m s' t2) = some (s', t') := h
          rw [frS_eq] at h3
          rw [stepT_spec hs]
          exact topF_ok m s2 t2 s' t' h3
def p1 {α β : Type} (x : α × β) : α := match x with
  | (a, _) => a
def p2 {α β : Type} (x : α × β) : β := match x with
  | (_, b) => b
theorem p_ext {α β : Type} {x y : α × β} (h : p1 x = y.1) (k : p2 x = y.2) : x = y := Prod.ext h k
def execQ : List Stmt → Env → Sem Flow := PySem.W.Fast.tw12563942051412417395
theorem execQ_eq : @PySem.execs = execQ := PySem.W.Fast.te12563942051412417395
def startQ : List Stmt → Env → Sem Unit := PySem.W.Fast.tw1066825118222455980
theorem startQ_eq : @PySem.blockStart = startQ := PySem.W.Fast.te1066825118222455980
section
variable {p : Program} {w : World} {n0 : Nat} {ann : Option Value} {env : Env} {q : Pos} {c : Code} {pos pos' : Pos} {n N m : Nat} {s s' : SharedT} {r : Shared} {l : List Stmt}
theorem cut_go (h : segF (stepQ (denQ tabQ) p w) n0 ann n s ⟨(execQ (l.take m) env).wrap doneF deadEnd id id, c, pos, [topFrame q]⟩ = some (.next, s', c, pos'))
    (k : topRun treeTable p w n0 ann N s'.abs (restOf (l.drop m) env c pos' [topFrame q]) = some r) : topRun treeTable p w n0 ann (n + N) s.abs (restOf l env c pos [topFrame q]) = some r := by
  rw [← stepQ_eq, ← denQ_eq, ← tabQ_eq, ← execQ_eq, segF_eq] at h
  have := piece_app (segRun_of h) k
  rwa [List.take_append_drop] at this
theorem blk_go (h : segF (stepQ (denQ tabQ) p w) n0 ann n s ⟨(startQ l env).wrap (fun _ => doneF .next) deadEnd id id, c, pos, [topFrame q]⟩ = some (.next, s', c, pos'))
    (k : topRun treeTable p w n0 ann N s'.abs (restOf l env c pos' [topFrame q]) = some r) : topRun treeTable p w n0 ann (n + N) s.abs ⟨denote treeTable (.body l env), c, pos, [topFrame q]⟩ = some r := by
  rw [← stepQ_eq, ← denQ_eq, ← tabQ_eq, ← startQ_eq, segF_eq] at h
  exact piece_block (segRun_of h) k
theorem pre_go (h : topF (stepQ (denQ tabQ) p w) n0 ann n s (topStub p) = some (s', ⟨denQ tabQ (.body l env), c, pos, [topFrame q]⟩))
    (k : topRun treeTable p w n0 ann N s'.abs ⟨denote treeTable (.body l env), c, pos, [topFrame q]⟩ = some r) : topRun treeTable p w n0 ann (n + N) s.abs (topStub p) = some r := by
  rw [← stepQ_eq, ← denQ_eq, ← tabQ_eq] at h
  exact go_top (topF_ok _ _ _ _ _ h) k
theorem end_go (h : goF (stepQ (denQ tabQ) p w) n0 ann n s ⟨doneF .next, c, pos, [topFrame q]⟩ = some s') : topRun treeTable p w n0 ann n s.abs (restOf [] env c pos [topFrame q]) = some s'.abs := by
  rw [← stepQ_eq, ← denQ_eq, ← tabQ_eq] at h
  exact goF_ok h
theorem cut_next (i k j : Nat) (h : i + k = j) (t : topRun treeTable p w n0 ann N s.abs (restOf (l.drop j) env c pos [topFrame q]) = some r) : topRun treeTable p w n0 ann N s.abs (restOf ((l.drop i).drop k) env c pos [topFrame q]) = some r := by
  rw [List.drop_drop, h]; exact t
theorem cut_end {z : Nat} (hz : l.length ≤ z) (i k : Nat) (t : topRun treeTable p w n0 ann N s.abs (restOf [] env c pos [topFrame q]) = some r) (h : i + k = z := by rfl) : topRun treeTable p w n0 ann N s.abs (restOf ((l.drop i).drop k) env c pos [topFrame q]) = some r := by
  rw [List.drop_drop, h, List.drop_eq_nil_of_le hz]; exact t
theorem cut_start (t : topRun treeTable p w n0 ann N s.abs (restOf (l.drop 0) env c pos [topFrame q]) = some r) : topRun treeTable p w n0 ann N s.abs (restOf l env c pos [topFrame q]) = some r := t
end
end PmHd

/-! Pm, part 1: rules for classes that define their own operators. -/
namespace Pm
open PySem PySem.Spec PyProof.Rows L2

/-! ### a def run at any place below the body -/
section
variable {X : Cx} {CX : CXT} {k : Nat} {A : Around} {f : Addr} {fd : FuncData} {ps : List Str} {sp : Sp} {E : XK}
  {pins : List (Addr × Obj)} {σ : L2.St} {H : Hp} {s : Shared} {Q : VK} {us : List Value} {vs : List V}
theorem run_at (sb : Sub X k A) (F : FnOk X.prog X.w X.K X.mg X.base CX k f fd ps sp) (hb : Binds X.K fd ps [])
    (hx : PassesAt CX X σ E) (I : Inv X pins σ H s) (r : Vals vs us) (h : sp vs H Q E) :
    wpAny (model X.prog X.w) A (call (.ref f) us) (EP X pins σ Q) X.xe s := by
  have len : us.length = ps.length := r.length.symm.trans (F.len _ _ _ _ h)
  have bt := hb s us I.kIn (by simpa using len)
  simp only [List.append_nil] at bt
  have e1 := I.env0
  have e0 : Env0 X.prog X.w X.K X.mg X.base A X.stack s H :=
    ⟨sb.fr.trans e1.frames, e1.mod, e1.bs, e1.bsz, e1.funs, e1.frf, e1.hok, e1.bare⟩
  refine wpAny_call (codeAny_mono (F.run A X.stack s H ⟨us, []⟩ us vs Q E sb.room e0 bt r h) fun res s' q => ?_)
  match res, q with
  | .error er, q => exact hx pins H s er s' I q
  | .ok (.ret u), q => exact I.after q
end

/-- no exception leaves: for any slots -/
theorem at0 {X : Cx} {σ : L2.St} : PassesAt CX0 X σ E0 := fun _ _ _ _ _ _ h => h.elim
theorem atL {X : Cx} {σ : L2.St} : PassesAt (L2.CX X.prog X.w) X σ E0 := fun pins H s e s' I h => passL pins σ H s e s' I h

/-- a special method of the class at C -/
structure Spc (K : PySem.W.Frag) (C : Addr) (name : Str) (f : Addr) : Prop where
  at_ : PySem.W.findIn K (.ref C) name = some (some (.ref f))
  fn : PySem.W.isFn K (.ref f) = true

/-- a two-place operation whose reading may look at the slots -/
def OpS (X : Cx) (f : Value → Value → Sem Value) (r : L2.St → R2) : Prop :=
  ∀ (pins : List (Addr × Obj)) (s : Shared) (σ : L2.St) (H : Hp) (x y : V) (v u : Value) (Q : VK), Inv X pins σ H s → RelV x v → RelV y u → r σ x y H Q →
    wpAny (model X.prog X.w) X.A (f v u) (EP X pins σ Q) X.xe s
theorem OpR.S {X : Cx} {f : Value → Value → Sem Value} {r : R2} (h : OpR X f r) : OpS X f (fun _ => r) := fun pins s σ H x y v u Q => h pins s σ H x y v u Q
theorem OpS.or {X : Cx} {f : Value → Value → Sem Value} {r r' : L2.St → R2} (h : OpS X f r) (h' : OpS X f r') : OpS X f (fun σ x y H Q => r σ x y H Q ∨ r' σ x y H Q) :=
  fun pins s σ H x y v u Q I rx ry z => z.elim (h pins s σ H x y v u Q I rx ry) (h' pins s σ H x y v u Q I rx ry)
def tOpS (r : L2.St → R2) (ta tb : TE) : TE := fun σ H Q => ta σ H fun x H1 => tb σ H1 fun y H2 => r σ x y H2 Q
section
variable {X : Cx} {a b : Expr} {ta tb : TE} {pos : Pos}
theorem pe_opS {op : Operator} {r : L2.St → R2} (ho : OpS X (binaryOp op) r) (ha : PE X a ta) (hb : PE X b tb) : PE X (.BinOp a op b pos) (tOpS r ta tb) := by
  refine ⟨fun pins s σ H Q I h => wpAny_BinOp ?_⟩
  refine thn (ha.run pins s σ H _ I h) fun v s1 ⟨x, H1, I1, r1, q1⟩ => ?_
  refine thn (hb.run pins s1 σ H1 _ I1 q1) fun u s2 ⟨y, H2, I2, r2, q2⟩ => ?_
  exact ho pins s2 σ H2 x y v u Q I2 r1 r2 q2
end

/-- the instance at a, for the library's rules -/
theorem inst_of {X : Cx} {pins : List (Addr × Obj)} {σ : L2.St} {H : Hp} {s : Shared} {a C dx : Addr} {fs : List (Str × V)} (I : Inv X pins σ H s) (ea : H a = some (.ins C dx fs)) :
    ∃ od, PySem.W.InstAt s.heap a (PySem.W.instObj C dx) C (some od) := by
  obtain ⟨mA, J, _⟩ := ins_get I.hok ea
  obtain ⟨od, J', _⟩ := J.look
  exact ⟨od, J'⟩
theorem rel_back {X : Cx} {pins : List (Addr × Obj)} {σ : L2.St} {Q : VK} {u : Value} {s' : Shared} (h : EP X pins σ Q u s') : PySem.W.CmpBack (EP X pins σ Q) u s' := by
  obtain ⟨v, H', I, r, q⟩ := id h
  cases u <;> first | exact h | skip
  cases v <;> first | (cases r; done) | (obtain ⟨t, z⟩ := r; exact nomatch z)

theorem self1 {a : Addr} : Vals [V.ref a] [Value.ref a] := .cons rfl .nil
/-! ### one place: -x, abs(x), str(x), repr(x), bool(x) -/
section
variable {X : Cx} {CX : CXT} {k : Nat} {C f : Addr} {fd : FuncData} {ps : List Str} {sp : Sp} {E : XK}
/-- the value is an instance of the class at C; its method is asked -/
def r1O (C : Addr) (sp : Sp) (E : XK) : V → Hp → VK → Prop := fun x H Q => ∃ a dx fs, x = .ref a ∧ H a = some (.ins C dx fs) ∧ sp [.ref a] H Q E
theorem un_negO (S : Spc X.K C "__neg__" f) (F : FnOk X.prog X.w X.K X.mg X.base CX k f fd ps sp) (hr : Room k X.A) (hb : Binds X.K fd ps []) (hx : Passes CX X E) :
    UnR X (unaryOp .USub) (r1O C sp E) := by
  rintro pins s σ H x u Q I rx ⟨a, dx, fs, rfl, ea, q⟩
  cases rx
  obtain ⟨od, J⟩ := inst_of I ea
  obtain ⟨m, fr⟩ := I.fr
  exact PySem.W.ksp_neg fr I.ok.mod.kin J S.at_ S.fn (run_at ⟨hr, rfl⟩ F hb (hx · σ) I self1 q)
def rc1O (C : Addr) (sp : Sp) (E : XK) (W : V → Prop) : List V → Hp → VK → Prop := fun xs H Q => ∃ a dx fs, xs = [.ref a] ∧ H a = some (.ins C dx fs) ∧ sp [.ref a] H (fun v H' => W v ∧ Q v H') E
theorem sub_self {X : Cx} {k : Nat} (hr : Room k X.A) : Sub X k X.A := ⟨hr, rfl⟩
theorem strback {pins : List (Addr × Obj)} {σ : L2.St} {Q : VK} {u : Value} {s' : Shared} (h : EP X pins σ (fun v H' => (∃ z, v = .str z) ∧ Q v H') u s') : PySem.W.StrBack (EP X pins σ Q) u s' := by
  obtain ⟨v, H', I, r, ⟨z, rfl⟩, q⟩ := h
  obtain ⟨t, rfl⟩ := r
  exact ⟨.str z, H', I, ⟨t, rfl⟩, q⟩
theorem call_reprO (S : Spc X.K C "__repr__" f) (F : FnOk X.prog X.w X.K X.mg X.base CX k f fd ps sp) (hr : Room (k + 1) X.A) (hb : Binds X.K fd ps []) (hx : Passes CX X E) :
    CallR X (.builtin "repr") (rc1O C sp E fun v => ∃ z, v = .str z) := by
  rintro pins s σ H xs us Q I r ⟨a, dx, fs, rfl, ea, q⟩
  obtain rfl := Vals.ref1 r
  obtain ⟨od, J⟩ := inst_of I ea
  obtain ⟨m, fr⟩ := I.fr
  have sb := (sub_self hr).in1
  exact PySem.W.repr_K sb.room.units0 fr I.ok.mod.kin J S.at_ S.fn (thn (run_at sb F hb (hx · σ) I self1 q) fun u s' => strback)
theorem call_strO (S : Spc X.K C "__str__" f) (F : FnOk X.prog X.w X.K X.mg X.base CX k f fd ps sp) (hr : Room (k + 2) X.A) (hb : Binds X.K fd ps []) (hx : Passes CX X E) :
    CallR X (.type "str") (rc1O C sp E fun v => ∃ z, v = .str z) := by
  rintro pins s σ H xs us Q I r ⟨a, dx, fs, rfl, ea, q⟩
  obtain rfl := Vals.ref1 r
  obtain ⟨od, J⟩ := inst_of I ea
  have sb := (sub_self hr).in1.in1
  exact PySem.W.kso_call sb.room.units0 I.kIn J S.at_ S.fn (thn (run_at sb F hb (hx · σ) I self1 q) fun u s' => strback)
theorem call_absO (S : Spc X.K C "__abs__" f) (F : FnOk X.prog X.w X.K X.mg X.base CX k f fd ps sp) (hr : Room (k + 1) X.A) (hb : Binds X.K fd ps []) (hx : Passes CX X E) :
    CallR X (.builtin "abs") (rc1O C sp E fun _ => True) := by
  rintro pins s σ H xs us Q I r ⟨a, dx, fs, rfl, ea, q⟩
  obtain rfl := Vals.ref1 r
  obtain ⟨od, J⟩ := inst_of I ea
  have sb := (sub_self hr).in1
  have go := run_at sb F hb (hx · σ) I self1 q
  refine Calls.call_function_entry PyProof.Rows.kind_abs PyProof.Rows.plain_abs PyProof.Rows.entry_abs (PyProof.Rows.args_abs _) ?_
  unfold Builtin.«abs»
  refine wpAny_bind (m := oneArg "abs" _) (wpAny_pure ?_)
  refine wpAny_bind (PySem.W.special_fn I.kIn J S.at_ (beq_iff_eq.mp S.fn) (thn go fun u s' z => ?_))
  obtain ⟨v, H', I', r', _, q'⟩ := z
  exact wpAny_pure ⟨_, rfl, v, H', I', r', q'⟩
theorem call_boolO (S : Spc X.K C "__bool__" f) (F : FnOk X.prog X.w X.K X.mg X.base CX k f fd ps sp) (hr : Room (k + 2) X.A) (hb : Binds X.K fd ps []) (hx : Passes CX X E) :
    CallR X (.type "bool") (rc1O C sp E fun v => ∃ b, v = .bl b) := by
  rintro pins s σ H xs us Q I r ⟨a, dx, fs, rfl, ea, q⟩
  obtain rfl := Vals.ref1 r
  obtain ⟨od, J⟩ := inst_of I ea
  obtain ⟨m, fr⟩ := I.fr
  have sb := (sub_self hr).in1
  have sb2 : L2.Sub X k X.A.in1.in1 := (sub_self hr).in1.in1
  have go := fun s1 (I1 : L2.Inv X pins σ H s1) => run_at sb2 F hb (hx · σ) I1 self1 q
  refine callType_codes (T := "bool") (Bi := Builtin.«object.__init__») (Q₁ := fun r s₁ => ∃ y, r = .bool y ∧ EP X pins σ Q r s₁) PySem.F.called_bool (PySem.F.typeCall_bool_1 _) PySem.F.entry_object_init ?_ ?_
  · refine codeAny_of_tree ?_
    show wpAny _ X.A.in1.in1 (do checkBuiltinCall "bool.__new__" ⟨[.type "bool", .ref a], []⟩; again (.builtin "bool.__new__" ⟨[.type "bool", .ref a], []⟩)) _ _ s
    refine wpAny_bind (wpAny_of_eq (PySem.F.newCall_bool_1 _) (wpAny_pure ⟨plainId_quiet (by decide +kernel) _, codeAny_builtin PySem.F.entry_bool_new ?_⟩))
    rw [Around.under_plainId (by decide +kernel) _]
    have tr : wpAny (model X.prog X.w) X.A.in1.in1 (truthy (.ref a)) (fun b s' => EP X pins σ Q (.bool b) s') X.xe s := by
      refine PySem.W.truthy_K fr I.ok.mod.kin J S.at_ S.fn (thn (go s I) fun u s' z => ?_)
      obtain ⟨v, H', I', r', ⟨b, rfl⟩, q'⟩ := z
      cases r'
      exact ⟨.bl b, H', I', rfl, q'⟩
    have f1 := PySem.F.conv_sub_bool
    obtain ⟨hp, g, d, tk, os⟩ := s
    unfold Builtin.«bool.__new__»
    repeat (first | (with_reducible refine wpAny_bind (wpAny_mono tr (fun b s' z => ?_) fun _ _ z => z)) | wp_step)
    exact ⟨b, rfl, z⟩
  · rintro obj s₁ ⟨y, rfl, hq⟩
    have ty : ∀ s : Shared, s.TypeIs (.bool y) "bool" := fun s => PySem.typeIs_bool s y
    exact ⟨ty _, PySem.F.args_object_init_2 _ _, object_init_meets PySem.F.called_bool.init.lookup PySem.F.called_bool.made (by decide) X.prog X.w X.A.in1 _ s₁ ⟨ty _, rfl, hq⟩⟩
end

/-! ### two places, the left one an instance of the class at C -/
/-- what the written part says of C's operator nm (its def at f), beside ints -/
structure Bin (K : PySem.W.Frag) (C : Addr) (nm : String) (f : Addr) : Prop where
  sf : PySem.W.selfFirst K C = true
  at_ : PySem.W.findIn K (.ref C) (PySem.dunder nm) = some (some (.ref f))
  fn : PySem.W.isFn K (.ref f) = true
  rv : ∃ rc, PySem.W.findIn K (.ref C) (dunderR nm) = some rc ∧ (rc = none ∨ ∃ g : Addr, rc = some (.ref g))
  il : ∃ fo, PySem.W.findIn K (.type "int") (PySem.dunder nm) = some fo
  ir : ∃ ro, PySem.W.findIn K (.type "int") (dunderR nm) = some ro
  su : PySem.W.subIn K (.type "int") (.ref C) = some false
section
variable {prog : Program} {w : World} {A : Around} {E : Value → Shared → Prop} {s : Shared} {K : PySem.W.Frag} {x C f : Addr} {nm : String} {ox : Obj} {od : Option Obj} {Q : Value → Shared → Prop}
open PySem.W
/-- some value comes of it -/
abbrev Gave (Q : Value → Shared → Prop) : Option Value → Shared → Prop := fun r s' => ∃ v, r = some v ∧ Q v s'
theorem bin1_int {i : Int} {t : Tok} (B : Bin K C nm f) (X : K.In s.heap) (I : InstAt s.heap x ox C od)
    (h : wpAny (model prog w) A (call (.ref f) [.ref x, .int i t]) (PySem.W.CmpBack Q) E s) :
    wpAny (model prog w) A (binaryOp1 nm (.ref x) (.int i t)) (Gave Q) E s := by
  obtain ⟨cd, rest, hcd, hm⟩ := ksp_first B.sf
  obtain ⟨fo, h1⟩ := B.il
  obtain ⟨ro, h2⟩ := B.ir
  obtain ⟨rc, hr, hp⟩ := B.rv
  have one := ksp_try X I B.at_ B.fn h
  obtain ⟨hh, g, d, tt, os⟩ := s
  have A1 : Looks (model prog w) hh (typeOf (.ref x)) (.ref C) := I.type
  have A2 : Looks (model prog w) hh (typeOf (.int i t)) (.type "int") := .of_pure rfl
  have A3 : Looks (model prog w) hh (fillsNumberSlot (.ref C) nm) true := fills_K X hcd hm B.at_
  have A4 : Looks (model prog w) hh (fillsNumberSlot (.type "int") nm) _ := ksp_fillsT X h1 h2
  have A5 : Looks (model prog w) hh (isSubtype (.type "int") (.ref C)) false := looks_subIn X B.su
  have A6 : Looks (model prog w) hh (numberSlotInPython (.ref C) nm) true := ksp_inPy X B.at_ hr hp
  have A7 : Looks (model prog w) hh (numberSlotInPython (.type "int") nm) false := .of_pure rfl
  have A8 : Looks (model prog w) hh (typeLookup (.type "int") (dunderR nm)) ro := looks_findIn X h2
  generalize ((fo.isSome && !isSeqSlot fo) || (ro.isSome && !isSeqSlot ro)) = right at A4
  have part : (Value.ref C == Value.type "int") = false := by simp
  unfold binaryOp1
  refine wpAny_bind (A1.at (wpAny_bind (A2.at (wpAny_bind (A3.at ?_)))))
  rw [part]
  cases right with
  | false => ksp_lk; exact wpAny_mono one (fun r s' ⟨v, e, q⟩ => by subst e; ksp_lk; exact ⟨v, rfl, q⟩) fun _ _ e => e
  | true => ksp_lk; exact wpAny_mono one (fun r s' ⟨v, e, q⟩ => by subst e; ksp_lk; exact ⟨v, rfl, q⟩) fun _ _ e => e
theorem bin1_own {y : Addr} (B : Bin K C nm f) (X : K.In s.heap) (I : InstAt s.heap x ox C od) (ty : Looks (model prog w) s.heap (typeOf (.ref y)) (.ref C))
    (h : wpAny (model prog w) A (call (.ref f) [.ref x, .ref y]) (PySem.W.CmpBack Q) E s) :
    wpAny (model prog w) A (binaryOp1 nm (.ref x) (.ref y)) (Gave Q) E s := by
  obtain ⟨cd, rest, hcd, hm⟩ := ksp_first B.sf
  have one := ksp_try X I B.at_ B.fn h
  obtain ⟨hh, g, d, tt, os⟩ := s
  have A1 : Looks (model prog w) hh (typeOf (.ref x)) (.ref C) := I.type
  have A2 : Looks (model prog w) hh (typeOf (.ref y)) (.ref C) := ty
  have A3 : Looks (model prog w) hh (fillsNumberSlot (.ref C) nm) true := fills_K X hcd hm B.at_
  unfold binaryOp1
  refine wpAny_bind (A1.at (wpAny_bind (A2.at (wpAny_bind (A3.at ?_)))))
  rw [show (Value.ref C == Value.ref C) = true from beq_self_eq_true _]
  ksp_lk
  exact wpAny_mono one (fun r s' ⟨v, e, q⟩ => by subst e; ksp_lk; exact ⟨v, rfl, q⟩) fun _ _ e => e
theorem bin_of {op : Operator} {a b : Value} (h : wpAny (model prog w) A (binaryOp1 op.info.2 a b) (Gave Q) E s) : wpAny (model prog w) A (binaryOp op a b) Q E s := by
  unfold binaryOp
  refine wpAny_holding (wpAny_bind (wpAny_mono h (fun r s' ⟨v, e, q⟩ => ?_) fun _ _ e => e))
  subst e
  exact wpAny_pure q

/-- C has no operator op= of its own -/
structure NoIn (K : PySem.W.Frag) (C : Addr) (nm : String) : Prop where
  mro : ∃ cd, PySem.W.clsIn K C = some cd ∧ cd.mro = [.ref C, .type "object"]
  no1 : PySem.W.findIn K (.ref C) (dunderI nm) = some none
  no2 : PySem.W.findIn K (.type "object") (dunderI nm) = some none
theorem noIn_fills {add : Bool} {h : Heap} (N : NoIn K C nm) (X : K.In h) : Looks (model prog w) h (fillsInplaceSlot (.ref C) nm add) false := by
  obtain ⟨cd, hcd, hm⟩ := N.mro
  intro A' Q' E' s' k q
  obtain ⟨hh, g, d, tt, os⟩ := s'
  have X' : K.In hh := X.keeps k
  have B0 : Looks (model prog w) hh (mroOf (.ref C)) cd.mro := (looks_clsIn X' hcd).andThen (f := fun cd => pure cd.mro) .now
  have B1 : Looks (model prog w) hh (typeLookup (.ref C) (dunderI nm)) none := looks_findIn X' N.no1
  have B2 : Looks (model prog w) hh (typeLookup (.type "object") (dunderI nm)) none := looks_findIn X' N.no2
  unfold fillsInplaceSlot
  refine wpAny_bind (B0.at ?_)
  rw [hm, List.anyM_cons]
  refine wpAny_bind (wpAny_bind (B1.at (wpAny_pure ?_)))
  rw [if_neg Bool.false_ne_true, List.anyM_cons]
  refine wpAny_bind (wpAny_bind (B2.at (wpAny_pure ?_)))
  rw [if_neg Bool.false_ne_true, List.anyM_nil]
  exact wpAny_pure q
theorem inplace_of {op : Operator} {b : Value} (N : NoIn K C op.info.2) (X : K.In s.heap) (I : InstAt s.heap x ox C od)
    (h : wpAny (model prog w) A (binaryOp1 op.info.2 (.ref x) b) (Gave Q) E s) : wpAny (model prog w) A (inplaceOp op (.ref x) b) Q E s := by
  have A1 : Looks (model prog w) s.heap (typeOf (.ref x)) (.ref C) := I.type
  have A2 := noIn_fills (prog := prog) (w := w) (add := op == .Add) N X
  unfold inplaceOp
  refine wpAny_holding (wpAny_bind (A1.here (wpAny_bind (A2.here ?_))))
  rw [if_neg Bool.false_ne_true]
  refine wpAny_bind (wpAny_mono h (fun r s' ⟨v, e, q⟩ => ?_) fun _ _ e => e)
  subst e
  exact wpAny_pure q
end
/-- the operator's reading: the other one an int or an instance of C -/
def r2O (C : Addr) (sp : Sp) (E : L2.St → XK) : L2.St → R2 := fun σ x y H Q => ∃ a dx fs, x = .ref a ∧ H a = some (.ins C dx fs) ∧
  ((∃ i, y = .int i) ∨ ∃ b dy gs, y = .ref b ∧ H b = some (.ins C dy gs)) ∧ sp [x, y] H Q (E σ)
section
variable {X : Cx} {CX : CXT} {k : Nat} {C f : Addr} {fd : FuncData} {ps : List Str} {sp : Sp} {E : L2.St → XK} {op : Operator}
theorem bin1_O (B : Bin X.K C op.info.2 f) (F : FnOk X.prog X.w X.K X.mg X.base CX k f fd ps sp) (hr : Room k X.A) (hb : Binds X.K fd ps []) (hx : ∀ σ, PassesAt CX X σ (E σ))
    {pins : List (Addr × Obj)} {σ : L2.St} {H : Hp} {s : Shared} {x y : V} {v u : Value} {Q : VK} (I : L2.Inv X pins σ H s) (rx : RelV x v) (ry : RelV y u) (h : r2O C sp E σ x y H Q) :
    wpAny (model X.prog X.w) X.A (binaryOp1 op.info.2 v u) (Gave (EP X pins σ Q)) X.xe s := by
  obtain ⟨a, dx, fs, rfl, ea, ty, q⟩ := h
  obtain rfl : v = Value.ref a := rx
  obtain ⟨od, J⟩ := inst_of I ea
  have go : wpAny (model X.prog X.w) X.A (call (.ref f) [.ref a, u]) (PySem.W.CmpBack (EP X pins σ Q)) X.xe s :=
    thn (run_at (sub_self hr) F hb (hx σ) I (show Vals [V.ref a, y] [Value.ref a, u] from .cons rfl (.cons ry .nil)) q) fun u' s' z => rel_back z
  rcases ty with ⟨i, rfl⟩ | ⟨b, dy, gs, rfl, eb⟩
  · obtain ⟨t, rfl⟩ := ry
    exact bin1_int B I.kIn J go
  · obtain rfl : u = Value.ref b := ry
    obtain ⟨od', J'⟩ := inst_of I eb
    exact bin1_own B I.kIn J J'.type go
theorem ops_bin (B : Bin X.K C op.info.2 f) (F : FnOk X.prog X.w X.K X.mg X.base CX k f fd ps sp) (hr : Room k X.A) (hb : Binds X.K fd ps []) (hx : ∀ σ, PassesAt CX X σ (E σ)) :
    OpS X (binaryOp op) (r2O C sp E) := fun pins s σ H x y v u Q I rx ry h => bin_of (bin1_O B F hr hb hx I rx ry h)
theorem ops_in (B : Bin X.K C op.info.2 f) (N : NoIn X.K C op.info.2) (F : FnOk X.prog X.w X.K X.mg X.base CX k f fd ps sp) (hr : Room k X.A) (hb : Binds X.K fd ps []) (hx : ∀ σ, PassesAt CX X σ (E σ)) :
    OpS X (inplaceOp op) (r2O C sp E) := by
  intro pins s σ H x y v u Q I rx ry h
  have z := bin1_O B F hr hb hx I rx ry h
  obtain ⟨a, dx, fs, rfl, ea, _⟩ := h
  obtain rfl : v = Value.ref a := rx
  obtain ⟨od, J⟩ := inst_of I ea
  exact inplace_of N I.kIn J z
end
end Pm

/-! Pm, part 2: calls; defs that know that no repr runs around them. -/
namespace Pm
open PySem PySem.Spec PyProof.Rows L2

/-- no repr of a list, tuple or dict runs around -/
abbrev GG (A : Around) : Prop := A.guards = some []
/-- a def's promise, where no such repr runs around -/
structure FnG (P : Program) (w : World) (K : PySem.W.Frag) (mg : Str → Option Value) (base : Heap) (CX : CXT) (k : Nat) (f : Addr) (fd : FuncData) (ps : List Str) (sp : Sp) : Prop where
  len : ∀ vs H Q E, sp vs H Q E → vs.length = ps.length
  run : ∀ {A : Around} {outer : List Env} {s : Shared} {H : Hp} {args : Args} {us : List Value} {vs : List V} {Q : VK} {E : XK}, GG A → Room k A → Env0 P w K mg base A outer s H →
    BindsTo s fd args (ps.zip us) → Vals vs us → sp vs H Q E → codeAny (model P w) A (.call (.ref f) args) (CR CX outer P w H s Q E) s

section
variable {P : Program} {w : World} {K : PySem.W.Frag} {mg : Str → Option Value} {base : Heap} {CX : CXT} {k j : Nat} {f : Addr} {fd : FuncData} {N ps : List Str} {sp : Sp} {x qual : Str} {st : Stmt}
theorem FnG.of (F : FnOk P w K mg base CX k f fd ps sp) : FnG P w K mg base CX k f fd ps sp := ⟨F.len, fun _ hr e b r h => F.run _ _ _ _ _ _ _ _ _ hr e b r h⟩
theorem FnG.mono (F : FnG P w K mg base CX j f fd ps sp) (h : j ≤ k) : FnG P w K mg base CX k f fd ps sp := ⟨F.len, fun g hr e b r q => F.run g (hr.mono h) e b r q⟩
theorem FnG.imp {sp' : Sp} (F : FnG P w K mg base CX k f fd ps sp) (h : ∀ vs H Q E, sp' vs H Q E → sp vs H Q E) : FnG P w K mg base CX k f fd ps sp' :=
  ⟨fun vs H Q E q => F.len vs H Q E (h _ _ _ _ q), fun g hr e b r q => F.run g hr e b r (h _ _ _ _ q)⟩
/-- by the body -/
theorem goX (F : Fun K x qual st f fd) (S : FnScope N ps (defScope st)) (len : ∀ vs H Q E, sp vs H Q E → vs.length = ps.length)
    (body : ∀ (cdv : Value) (A : Around) (outer : List Env) (s : Shared) (H : Hp) (vs : List V) (Q : VK) (E : XK), GG (A.deeper (envOfC qual (defScope st) s.heap.objs.size f cdv)) →
      Room k (A.deeper (envOfC qual (defScope st) s.heap.objs.size f cdv)) → sp vs H Q E →
      ∃ t, PSs (cxOf CX P w K mg base N qual (defScope st) f cdv A outer s H E) (defBody st) t ∧ t { nx := fun _ H' => Q .non H', rt := Q } (start N vs) H) :
    FnG P w K mg base CX (k + 1) f fd ps sp := by
  obtain ⟨oc, od, kV, doc, pm, an, cdv, ct, osl, rfl, lk, hcd⟩ := F.ex
  refine ⟨len, fun {A outer s H args us vs Q E} g hr e0 hb r hsp => ?_⟩
  have inH : K.In s.heap := e0.mod.kin.keeps fun b o e => (e0.bs b o e).1
  refine codeAny_call_function hr.depth (inH _ _ lk) rfl S.co S.gen rfl (PySem.W.codeRec_of inH hcd) (hb _ _ _ _ ?_)
  refine wpAny_newFunctionEnv_cells S.kind (fun y hy => ?_) fun env he s1 ic => ?_
  · cases S.par y.1 (List.of_mem_zip hy).1 with
    | inl q => exact .inl q
    | inr q => exact .inr ⟨q, PySem.W.cellsFrom_some _ _ _ (.inl q)⟩
  · subst he
    have lim : s.heap.NoLimit := e0.mod.nolimit.keeps fun b o e => (e0.bs b o e).1
    refine ⟨lim.keeps ic.toInCall.keep, codeAny_func ?_⟩
    obtain ⟨t, ht, hq⟩ := body cdv A outer s H vs Q E g (hr.deeper _) hsp
    have I := inv_start (CX := CX) (E := E) S hr.hd e0 (len _ _ _ _ hsp) r ic
    refine wpAny_mono (ht.run [] s1 (start N vs) H _ I hq) (fun fl s' z => ?_) fun e s' z => z
    match fl, z with
    | .ret u, ⟨v, _, H', J, rv, q⟩ => exact ⟨v, H', J.os, J.bare, J.base, J.hok, rv, q⟩
    | .next, ⟨_, H', J, q⟩ => exact ⟨V.non, H', J.os, J.bare, J.base, J.hok, rfl, q⟩
    | .brk, ⟨_, _, _, q⟩ => exact q.elim
    | .cont, ⟨_, _, _, q⟩ => exact q.elim
theorem go0 (F : Fun K x qual st f fd) (S : FnScope N ps (defScope st)) (len : ∀ vs H Q E, sp vs H Q E → vs.length = ps.length)
    (body : ∀ (cdv : Value) (A : Around) (outer : List Env) (s : Shared) (H : Hp) (vs : List V) (Q : VK) (E : XK), GG (A.deeper (envOfC qual (defScope st) s.heap.objs.size f cdv)) →
      Room k (A.deeper (envOfC qual (defScope st) s.heap.objs.size f cdv)) → sp vs H Q E →
      ∃ t, PSs (cxOf CX0 P w K mg base N qual (defScope st) f cdv A outer s H E).nox (defBody st) t ∧ t { nx := fun _ H' => Q .non H', rt := Q } (start N vs) H) :
    FnG P w K mg base CX0 (k + 1) f fd ps sp :=
  goX F S len fun cdv A outer s H vs Q E g hr h => let ⟨t, a, b⟩ := body cdv A outer s H vs Q E g hr h; ⟨t, a.nox, b⟩
end

/-! ### the ends of calls -/
section
variable {X : Cx} {CX : CXT} {k n : Nat} {f C : Addr} {fd : FuncData} {ps ks : List Str} {sp : Sp} {E : L2.St → XK} {x m : Str} {p pos apos : Pos} {e o : Expr} {es : List Expr} {kws : List Keyword} {ta : TE} {t tk : TA}
  {g : List Value → List Value → List Value} {gV : List V → List V → List V}
/-- what lies behind a call's end -/
theorem call_end {pins : List (Addr × Obj)} {σ : L2.St} {H : Hp} {s : Shared} {Q : VK} {E' : XK} (hx : PassesAt CX X σ E') (I : L2.Inv X pins σ H s) (c : Code) {A : Around}
    (h : codeAny (model X.prog X.w) A c (CR CX X.stack X.prog X.w H s Q E') s) :
    codeAny (model X.prog X.w) A c (fun r s' => match r with | .ok (.ret v) => EP X pins σ Q v s' | .ok _ => False | .error e => X.xe e s') s :=
  codeAny_mono h fun r s' q => match r, q with
    | .error er, q => hx pins H s er s' I q
    | .ok (.ret _), q => I.after q
/-- f(e, ..), a def of the module -/
def tCl (sp : Sp) (E : L2.St → XK) (t : TA) : TE := fun σ H Q => t σ H fun vs H1 => sp vs H1 Q (E σ)
theorem pe_g (gg : GG X.A) (F : FnG X.prog X.w X.K X.mg X.base CX k f fd ps sp) (hr : Room k X.A) (hg : Gl X x) (hm : X.mg x = some (.ref f)) (hk : PySem.W.keepIn X.K (.ref f) = true) (hb : Binds X.K fd ps []) (hx : ∀ σ, PassesAt CX X σ (E σ))
    (ha : PA X (e :: es) t) (hdb : (x == ("__debug__" : Str)) = false := by decide) (he : starEach (e :: es) X.env = (false, eval e X.env) :: starEach es X.env := by rfl) (hpl : (backTo pos (starEach es X.env)).any (·.1) = false := by rfl) :
    PE X (.Call (.Name x p) (e :: es) [] pos) (tCl sp E t) := by
  refine ⟨fun pins s σ H Q I h => wpAny_Call_Name_kw (ld_glob I hg hm ?_ hdb)⟩
  refine PySem.W.callWith_K (h₀ := X.base) I.ok.mod.kin hk (thn (ha.run pos pins s σ H _ I h) fun us s1 ⟨vs, H1, I1, r, q⟩ => ⟨I1.kIn, ?_⟩) he hpl
  have len : us.length = ps.length := r.length.symm.trans (F.len _ _ _ _ q)
  have bt := hb s1 us I1.kIn (by simpa using len)
  simp only [List.append_nil] at bt
  exact wpAny_call (call_end (hx σ) I1 _ (F.run gg hr I1.env0 bt r q))
/-- the same from a def that needs not know it -/
theorem pe_f (F : FnOk X.prog X.w X.K X.mg X.base CX k f fd ps sp) (hr : Room k X.A) (hg : Gl X x) (hm : X.mg x = some (.ref f)) (hk : PySem.W.keepIn X.K (.ref f) = true) (hb : Binds X.K fd ps []) (hx : ∀ σ, PassesAt CX X σ (E σ))
    (ha : PA X (e :: es) t) (hdb : (x == ("__debug__" : Str)) = false := by decide) (he : starEach (e :: es) X.env = (false, eval e X.env) :: starEach es X.env := by rfl) (hpl : (backTo pos (starEach es X.env)).any (·.1) = false := by rfl) :
    PE X (.Call (.Name x p) (e :: es) [] pos) (tCl sp E t) := by
  refine ⟨fun pins s σ H Q I h => wpAny_Call_Name_kw (ld_glob I hg hm ?_ hdb)⟩
  refine PySem.W.callWith_K (h₀ := X.base) I.ok.mod.kin hk (thn (ha.run pos pins s σ H _ I h) fun us s1 ⟨vs, H1, I1, r, q⟩ => ⟨I1.kIn, ?_⟩) he hpl
  exact run_at (sub_self hr) F hb (hx σ) I1 r q

/-! ### C(..), C an own class; the arguments as KBn says -/
theorem run_mk {pins : List (Addr × Obj)} {σ : L2.St} {H : Hp} {s : Shared} {Q : VK} {us ws : List Value} {vs zs : List V} (M : Mk X.K C f) (F : FnOk X.prog X.w X.K X.mg X.base CX k f fd ps sp) (hr : Room (k + 1) X.A) (hb : KBn X.K fd ps (n + 1) ks g gV)
    (hx : ∀ σ, PassesAt CX X σ (E σ)) (I : L2.Inv X pins σ H s) (r : Vals vs us) (rz : Vals zs ws) (l1 : vs.length = n) (l2 : zs.length = ks.length)
    (h : ∀ x dx, H x = none → H dx = none → dx ≠ x → sp (gV (.ref x :: vs) zs) (upd (upd H dx (.own x)) x (.ins C dx [])) (fun v H2 => v = .non ∧ Q (.ref x) H2) (E σ)) :
    wpAny (model X.prog X.w) X.A (call (.ref C) us (ks.zip ws)) (EP X pins σ Q) X.xe s := by
  have new := h (s.heap.objs.size + 1) s.heap.objs.size (I.hok.fresh (Nat.le_succ _)) (I.hok.fresh (Nat.le_refl _)) (Nat.ne_of_lt (Nat.lt_succ_self _))
  have J := L2.Inv.made (C := C) I
  have ru : Vals (V.ref (s.heap.objs.size + 1) :: vs) (Value.ref (s.heap.objs.size + 1) :: us) := .cons rfl r
  have a1 : (Value.ref (s.heap.objs.size + 1) :: us).length = n + 1 := ru.length.symm.trans (congrArg Nat.succ l1)
  refine wpAny_call (make_map (f := f) I.kIn M.makes M.init (beq_iff_eq.mp M.fn) (codeAny_mono (F.run (X.A.under (.builtin "type.__call__" ⟨.ref C :: us, ks.zip ws⟩)) X.stack _ _ ⟨Value.ref (s.heap.objs.size + 1) :: us, ks.zip ws⟩
    (g (Value.ref (s.heap.objs.size + 1) :: us) ws) _ _ (E σ) (hr.make C us (ks.zip ws)) (J.env0.make C us (ks.zip ws)) (hb.to _ _ ws J.kIn a1 (rz.length.symm.trans l2)) (hb.rel ru rz) new) fun res s' q => ?_))
  match res, q with
  | .error er, q => exact hx σ pins _ _ er s' J q
  | .ok (.ret u), q =>
    obtain ⟨v, H', J', rv, ev, z⟩ := J.after q
    subst ev
    exact ⟨rv, V.ref (s.heap.objs.size + 1), H', J', rfl, z⟩
def tMk (C : Addr) (n : Nat) (sp : Sp) (gV : List V → List V → List V) (E : L2.St → XK) (t tk : TA) : TE := fun σ H Q => t σ H fun vs H1 => tk σ H1 fun zs H2 => vs.length = n ∧
  ∀ x dx, H2 x = none → H2 dx = none → dx ≠ x → sp (gV (.ref x :: vs) zs) (upd (upd H2 dx (.own x)) x (.ins C dx [])) (fun v H3 => v = .non ∧ Q (.ref x) H3) (E σ)
theorem pe_mkP (M : Mk X.K C f) (F : FnOk X.prog X.w X.K X.mg X.base CX k f fd ps sp) (hr : Room (k + 1) X.A) (hg : Gl X x) (hm : X.mg x = some (.ref C)) (hb : KBn X.K fd ps (n + 1) [] g gV) (hx : ∀ σ, PassesAt CX X σ (E σ)) (ha : PA X (e :: es) t)
    (hdb : (x == ("__debug__" : Str)) = false := by decide) (he : starEach (e :: es) X.env = (false, eval e X.env) :: starEach es X.env := by rfl) (hpl : (backTo pos (starEach es X.env)).any (·.1) = false := by rfl) :
    PE X (.Call (.Name x p) (e :: es) [] pos) (tMk C n sp gV E t tNil) := by
  refine ⟨fun pins s σ H Q I h => wpAny_Call_Name_kw (ld_glob I hg hm ?_ hdb)⟩
  refine PySem.W.callWith_K (h₀ := X.base) I.ok.mod.kin M.kp (thn (ha.run pos pins s σ H _ I h) fun us s1 ⟨vs, H1, I1, r, l1, q⟩ => ⟨I1.kIn, ?_⟩) he hpl
  exact run_mk (ks := []) (ws := []) (zs := []) M F hr hb hx I1 r .nil l1 rfl q
theorem pe_mkN (M : Mk X.K C f) (F : FnOk X.prog X.w X.K X.mg X.base CX k f fd ps sp) (hr : Room (k + 1) X.A) (hg : Gl X x) (hm : X.mg x = some (.ref C)) (hb : KBn X.K fd ps 1 ks g gV) (hx : ∀ σ, PassesAt CX X σ (E σ)) (hkw : PK X kws tk)
    (hall : (backToKw pos (keywordEach kws X.env)).all (·.1.isSome) = true := by rfl) (hks : (backToKw pos (keywordEach kws X.env)).filterMap (·.1) = ks := by rfl) (hlen : kws.length = ks.length := by rfl)
    (hdb : (x == ("__debug__" : Str)) = false := by decide) (hpl : ((backTo pos (starEach [] X.env)).any (·.1) || (backToKw pos (keywordEach kws X.env)).any (·.1.isNone)) = false := by rfl) :
    PE X (.Call (.Name x p) [] kws pos) (fun σ H Q => tMk C 0 sp gV E tNil (fun σ H Q => tk σ H fun zs H1 => zs.length = ks.length ∧ Q zs H1) σ H Q) := by
  refine ⟨fun pins s σ H Q I h => wpAny_Call_Name_kw (ld_glob I hg hm ?_ hdb)⟩
  refine PySem.W.callWith_KW0 (h₀ := X.base) I.ok.mod.kin M.kp hall (thn (hkw.run pos pins s σ H _ I h) fun ws s1 ⟨zs, H1, I1, rz, l2, l1, q⟩ => ⟨I1.kIn, ?_⟩) hpl
  rw [hks]
  exact run_mk (us := []) (vs := []) M F hr hb hx I1 .nil rz l1 l2 q

/-- the same where a local name holds the class -/
theorem pe_mkL {i : Nat} (M : Mk X.K C f) (F : FnOk X.prog X.w X.K X.mg X.base CX k f fd ps sp) (hr : Room (k + 1) X.A) (hN : X.N[i]? = some x) (hv : Vis X.env.scope x) (hb : KBn X.K fd ps (n + 1) [] g gV) (hx : ∀ σ, PassesAt CX X σ (E σ)) (ha : PA X (e :: es) t)
    (hdb : (x == ("__debug__" : Str)) = false := by decide) (hcd : (x == ("__classdict__" : Str)) = false := by decide) (he : starEach (e :: es) X.env = (false, eval e X.env) :: starEach es X.env := by rfl) (hpl : (backTo pos (starEach es X.env)).any (·.1) = false := by rfl) :
    PE X (.Call (.Name x p) (e :: es) [] pos) (fun σ H Q => σ[i]? = some (some (.ref C)) ∧ tMk C n sp gV E t tNil σ H Q) := by
  refine ⟨fun pins s σ H Q I ⟨hs, h⟩ => wpAny_Call_Name_kw (thn ((pe_var (pos := p) hN hv hdb hcd).run pins s σ H (fun v H1 => v = .ref C ∧ H1 = H) I ⟨.ref C, hs, rfl, rfl⟩) fun u s1 ⟨v, H1, I1, r1, e1, e2⟩ => ?_)⟩
  subst e1 e2
  obtain rfl : u = Value.ref C := r1
  refine PySem.W.callWith_K (h₀ := X.base) I1.ok.mod.kin M.kp (thn (ha.run pos pins s1 σ _ _ I1 h) fun us s2 ⟨vs, H2, I2, r, l1, q⟩ => ⟨I2.kIn, ?_⟩) he hpl
  exact run_mk (ks := []) (ws := []) (zs := []) M F hr hb hx I2 r .nil l1 rfl q

/-! ### C.m(..), m a classmethod of the class at C -/
theorem run_clm {pins : List (Addr × Obj)} {σ : L2.St} {H : Hp} {s : Shared} {Q : VK} {q gA : Addr} {us ws : List Value} {vs zs : List V} (F : FnOk X.prog X.w X.K X.mg X.base CX k gA fd ps sp) (hr : Room k X.A) (hb : KBn X.K fd ps (n + 1) ks g gV)
    (hx : ∀ σ, PassesAt CX X σ (E σ)) (I : L2.Inv X ((q, PySem.W.methodObj (.ref gA) (.ref C)) :: pins) σ H s) (r : Vals vs us) (rz : Vals zs ws) (l1 : vs.length = n) (l2 : zs.length = ks.length) (h : sp (gV (.ref C :: vs) zs) H Q (E σ)) :
    wpAny (model X.prog X.w) X.A (call (.ref q) us (ks.zip ws)) (EP X pins σ Q) X.xe s := by
  have ru : Vals (V.ref C :: vs) (Value.ref C :: us) := .cons rfl r
  have a1 : (Value.ref C :: us).length = n + 1 := ru.length.symm.trans (congrArg Nat.succ l1)
  refine thn (wpAny_call (PySem.W.method_call (ClX.pin_at I) (call_end (Q := Q) (hx σ) I _ (F.run X.A X.stack s H ⟨Value.ref C :: us, ks.zip ws⟩ (g (Value.ref C :: us) ws) (gV (V.ref C :: vs) zs) Q (E σ) hr I.env0
    (hb.to s _ ws I.kIn a1 (rz.length.symm.trans l2)) (hb.rel ru rz) h)))) fun _ _ y => ClX.unpinE y
def tCm (C : Addr) (n : Nat) (sp : Sp) (gV : List V → List V → List V) (E : L2.St → XK) (ta : TE) (t tk : TA) : TE := fun σ H Q => ta σ H fun x H0 => x = .ref C ∧ t σ H0 fun vs H1 => tk σ H1 fun zs H2 => vs.length = n ∧ sp (gV (.ref C :: vs) zs) H2 Q (E σ)
theorem pe_cmP {mc : Value} {pA gA : Addr} {pl : Sem Bool} (he : PE X o ta) (r : ClX.CRead X.K C mc) (c : ClX.CMet X.K C mc m pA gA) (F : FnOk X.prog X.w X.K X.mg X.base CX k gA fd ps sp) (hr : Room k X.A) (hb : KBn X.K fd ps (n + 1) [] g gV) (hx : ∀ σ, PassesAt CX X σ (E σ)) (ha : PA X (e :: es) t)
    (hst : starEach (e :: es) X.env = (false, eval e X.env) :: starEach es X.env := by rfl) (hpl : (backTo pos (starEach es X.env)).any (·.1) = false := by rfl)
    (ht : eval (.Call (.Attribute o m apos) (e :: es) [] pos) X.env = (eval o X.env >>= fun ov => standAt apos.atName >>= fun _ => holding [ov] (getMethod ov m pl) >>= fun ff => callWith pos ff.1 ff.2 (backTo pos (starEach (e :: es) X.env)) (backToKw pos (keywordEach [] X.env))) := by rfl) :
    PE X (.Call (.Attribute o m apos) (e :: es) [] pos) (tCm C n sp gV E ta t tNil) := by
  refine ⟨fun pins s σ H Q I h => PySem.W.methodCall_KW (pl := pl) (thn (he.run pins s σ H _ I h) fun u s1 ⟨x, H1, I1, rx, ex, q⟩ => ?_) ht⟩
  subst ex
  obtain rfl : u = Value.ref C := rx
  refine ClX.getmethcm_ok I1 r c fun s2 I2 => ClX.callwith_cm I2 (ClX.base_none I1 (Nat.le_refl _)) c.fi (thn (ha.run pos _ s2 σ H1 _ I2 q) fun us s3 ⟨vs, H2, I3, rv, l1, q2⟩ => ⟨⟨ClX.pin_at I3, I3.kIn⟩, ?_⟩) hst hpl
  exact run_clm (ks := []) (ws := []) (zs := []) F hr hb hx I3 rv .nil l1 rfl q2
theorem pe_cmN {mc : Value} {pA gA : Addr} {pl : Sem Bool} (he : PE X o ta) (r : ClX.CRead X.K C mc) (c : ClX.CMet X.K C mc m pA gA) (F : FnOk X.prog X.w X.K X.mg X.base CX k gA fd ps sp) (hr : Room k X.A) (hb : KBn X.K fd ps 1 ks g gV) (hx : ∀ σ, PassesAt CX X σ (E σ)) (hkw : PK X kws tk)
    (hall : (backToKw pos (keywordEach kws X.env)).all (·.1.isSome) = true := by rfl) (hks : (backToKw pos (keywordEach kws X.env)).filterMap (·.1) = ks := by rfl)
    (hpl : ((backTo pos (starEach [] X.env)).any (·.1) || (backToKw pos (keywordEach kws X.env)).any (·.1.isNone)) = false := by rfl)
    (ht : eval (.Call (.Attribute o m apos) [] kws pos) X.env = (eval o X.env >>= fun ov => standAt apos.atName >>= fun _ => holding [ov] (getMethod ov m pl) >>= fun ff => callWith pos ff.1 ff.2 (backTo pos (starEach [] X.env)) (backToKw pos (keywordEach kws X.env))) := by rfl) :
    PE X (.Call (.Attribute o m apos) [] kws pos) (tCm C 0 sp gV E ta tNil (fun σ H Q => tk σ H fun zs H1 => zs.length = ks.length ∧ Q zs H1)) := by
  refine ⟨fun pins s σ H Q I h => PySem.W.methodCall_KW (pl := pl) (thn (he.run pins s σ H _ I h) fun u s1 ⟨x, H1, I1, rx, ex, q⟩ => ?_) ht⟩
  subst ex
  obtain rfl : u = Value.ref C := rx
  refine ClX.getmethcm_ok I1 r c fun s2 I2 => ?_
  have hL : s1.heap.objs.size ≠ X.env.locals := (I2.pin (s1.heap.objs.size, PySem.W.methodObj (.ref gA) (.ref C)) (List.mem_append_right _ List.mem_cons_self)).2.2.1
  refine PySem.W.callWith_of hpl (PySem.W.keeps_M c.fi) (PyProof.Rows.evalArgs_kw2_nil hall (thn (hkw.run pos _ s2 σ H1 _ I2 q) fun ws s3 ⟨zs, H2, I3, rz, l2, l1, q2⟩ => ⟨⟨ClX.pin_at I3, I3.kIn⟩, ?_⟩))
  rw [hks]
  exact run_clm (us := []) (vs := []) F hr hb hx I3 .nil rz l1 l2 q2
end

/-! ### o.m(..), a method; own operators where the wish hangs on no slot -/
section
variable {X : Cx} {CX : CXT} {k n : Nat} {f C : Addr} {fd : FuncData} {ps ks : List Str} {sp : Sp} {E : L2.St → XK} {m : Str} {pos apos : Pos} {e o : Expr} {es : List Expr} {kws : List Keyword} {ta : TE} {t tk : TA}
  {g : List Value → List Value → List Value} {gV : List V → List V → List V}
theorem run_kb {pins : List (Addr × Obj)} {σ : L2.St} {H : Hp} {s : Shared} {Q : VK} {us ws : List Value} {vs zs : List V} (F : FnOk X.prog X.w X.K X.mg X.base CX k f fd ps sp) (hr : Room k X.A) (hb : KBn X.K fd ps n ks g gV) (hx : ∀ σ, PassesAt CX X σ (E σ))
    (I : L2.Inv X pins σ H s) (r : Vals vs us) (rz : Vals zs ws) (l1 : vs.length = n) (l2 : zs.length = ks.length) (h : sp (gV vs zs) H Q (E σ)) : wpAny (model X.prog X.w) X.A (call (.ref f) us (ks.zip ws)) (EP X pins σ Q) X.xe s :=
  wpAny_call (call_end (Q := Q) (hx σ) I _ (F.run X.A X.stack s H ⟨us, ks.zip ws⟩ (g us ws) (gV vs zs) Q (E σ) hr I.env0 (hb.to s us ws I.kIn (r.length.symm.trans l1) (rz.length.symm.trans l2)) (hb.rel r rz) h))
def tMe (C : Addr) (m : Str) (n : Nat) (sp : Sp) (gV : List V → List V → List V) (E : L2.St → XK) (ta : TE) (t tk : TA) : TE := fun σ H Q => ta σ H fun x H0 => ∃ a dx fs, x = .ref a ∧ H0 a = some (.ins C dx fs) ∧ fs.lookup m = none ∧
  t σ H0 fun vs H1 => tk σ H1 fun zs H2 => vs.length = n ∧ sp (gV (x :: vs) zs) H2 Q (E σ)
theorem pe_meP {pl : Sem Bool} (he : PE X o ta) (c : Cls X.K C) (hm : Meth X.K C m f) (F : FnOk X.prog X.w X.K X.mg X.base CX k f fd ps sp) (hr : Room k X.A) (hb : KBn X.K fd ps (n + 1) [] g gV) (hx : ∀ σ, PassesAt CX X σ (E σ)) (ha : PA X (e :: es) t)
    (hst : starEach (e :: es) X.env = (false, eval e X.env) :: starEach es X.env := by rfl) (hpl : (backTo pos (starEach es X.env)).any (·.1) = false := by rfl)
    (ht : eval (.Call (.Attribute o m apos) (e :: es) [] pos) X.env = (eval o X.env >>= fun ov => standAt apos.atName >>= fun _ => holding [ov] (getMethod ov m pl) >>= fun ff => callWith pos ff.1 ff.2 (backTo pos (starEach (e :: es) X.env)) (backToKw pos (keywordEach [] X.env))) := by rfl) :
    PE X (.Call (.Attribute o m apos) (e :: es) [] pos) (tMe C m n sp gV E ta t tNil) := by
  refine ⟨fun pins s σ H Q I h => PySem.W.methodCall_KW (pl := pl) (thn (he.run pins s σ H _ I h) fun u s1 ⟨x, H1, I1, rx, a, dx, fs, ex, ea, l, q⟩ => ?_) ht⟩
  subst ex
  obtain rfl : u = Value.ref a := rx
  refine getmeth_ok I1 ea c hm l (PySem.W.callWith_K (first := [.ref a]) (h₀ := X.base) I.ok.mod.kin hm.kp (thn (ha.run pos pins s1 σ H1 _ I1 q) fun us s2 ⟨vs, H2, I2, r, l1, q2⟩ => ⟨I2.kIn, ?_⟩) hst hpl)
  exact run_kb (ks := []) (ws := []) (zs := []) F hr hb hx I2 (show Vals (V.ref a :: vs) (Value.ref a :: us) from .cons rfl r) .nil (congrArg Nat.succ l1) rfl q2
theorem pe_meN {pl : Sem Bool} (he : PE X o ta) (c : Cls X.K C) (hm : Meth X.K C m f) (F : FnOk X.prog X.w X.K X.mg X.base CX k f fd ps sp) (hr : Room k X.A) (hb : KBn X.K fd ps 1 ks g gV) (hx : ∀ σ, PassesAt CX X σ (E σ)) (hkw : PK X kws tk)
    (hall : (backToKw pos (keywordEach kws X.env)).all (·.1.isSome) = true := by rfl) (hks : (backToKw pos (keywordEach kws X.env)).filterMap (·.1) = ks := by rfl)
    (hpl : ((backTo pos (starEach [] X.env)).any (·.1) || (backToKw pos (keywordEach kws X.env)).any (·.1.isNone)) = false := by rfl)
    (ht : eval (.Call (.Attribute o m apos) [] kws pos) X.env = (eval o X.env >>= fun ov => standAt apos.atName >>= fun _ => holding [ov] (getMethod ov m pl) >>= fun ff => callWith pos ff.1 ff.2 (backTo pos (starEach [] X.env)) (backToKw pos (keywordEach kws X.env))) := by rfl) :
    PE X (.Call (.Attribute o m apos) [] kws pos) (tMe C m 0 sp gV E ta tNil (fun σ H Q => tk σ H fun zs H1 => zs.length = ks.length ∧ Q zs H1)) := by
  refine ⟨fun pins s σ H Q I h => PySem.W.methodCall_KW (pl := pl) (thn (he.run pins s σ H _ I h) fun u s1 ⟨x, H1, I1, rx, a, dx, fs, ex, ea, l, q⟩ => ?_) ht⟩
  subst ex
  obtain rfl : u = Value.ref a := rx
  refine getmeth_ok I1 ea c hm l (PySem.W.callWith_KW0 (first := [.ref a]) (h₀ := X.base) I.ok.mod.kin hm.kp hall (thn (hkw.run pos pins s1 σ H1 _ I1 q) fun ws s2 ⟨zs, H2, I2, rz, l2, l1, q2⟩ => ⟨I2.kIn, ?_⟩) hpl)
  rw [hks]
  exact run_kb F hr hb hx I2 (show Vals [V.ref a] [Value.ref a] from self1) rz rfl l2 q2
/-- an operator of C with an int or an instance of C on its right, for any slots -/
def r2C (C : Addr) (sp : Sp) (E : XK) : R2 := fun x y H Q => ∃ a dx fs, x = .ref a ∧ H a = some (.ins C dx fs) ∧ ((∃ i, y = .int i) ∨ ∃ b dy gs, y = .ref b ∧ H b = some (.ins C dy gs)) ∧ sp [x, y] H Q E
theorem opr_bin {op : Operator} {E : XK} (B : Bin X.K C op.info.2 f) (F : FnOk X.prog X.w X.K X.mg X.base CX k f fd ps sp) (hr : Room k X.A) (hb : Binds X.K fd ps []) (hx : ∀ σ, PassesAt CX X σ E) : OpR X (binaryOp op) (r2C C sp E) :=
  fun pins s σ H x y v u Q I rx ry h => ops_bin (E := fun _ => E) B F hr hb hx pins s σ H x y v u Q I rx ry h
theorem opr_in {op : Operator} {E : XK} (B : Bin X.K C op.info.2 f) (N : NoIn X.K C op.info.2) (F : FnOk X.prog X.w X.K X.mg X.base CX k f fd ps sp) (hr : Room k X.A) (hb : Binds X.K fd ps []) (hx : ∀ σ, PassesAt CX X σ E) : OpR X (inplaceOp op) (r2C C sp E) :=
  fun pins s σ H x y v u Q I rx ry h => ops_in (E := fun _ => E) B N F hr hb hx pins s σ H x y v u Q I rx ry h
end

/-! ### ints of any sign and size; texts repeated; repr of data -/
/-- // by a divisor that is not 0, below 2 ^ 9000 -/
def CDivX (_ j : Int) : Prop := j ≠ 0 ∧ j.natAbs.log2 < 9000
section
variable {X : Cx} {k : Nat}
theorem op_fdivX : OpR X (binaryOp .FloorDiv) (rI CDivX fun i j => .int (i.fdiv j)) := opI fun i j _ _ _ _ _ hc q => floordiv_int hc.1 q (.inl (PyProof.noPylong_of_log2 hc.2))
/-- a text, no time or once -/
theorem op_strI : OpR X (binaryOp .Mult) (fun x y H Q => ∃ z i, x = .str z ∧ y = .int i ∧ (i = 0 ∨ i = 1) ∧ Q (.str (if i = 0 then Str.empty else z)) H) := by
  rintro pins s σ H x y v u Q I rx ry ⟨z, i, rfl, rfl, hi, q⟩
  obtain ⟨t, rfl⟩ := rx
  obtain ⟨t', rfl⟩ := ry
  rcases hi with rfl | rfl
  · exact P.mul_str_none (by decide) (by decide) ⟨.str Str.empty, H, I.tok _, ⟨_, rfl⟩, q⟩
  · exact P.mul_str (by decide) (fun _ z => absurd z (by simp)) (fun _ z => absurd z (by simp)) (by rw [if_neg (by decide), if_pos (by rfl)]; exact (show EP X pins σ Q (.str z t) s from ⟨.str z, H, I, ⟨_, rfl⟩, q⟩))
/-- repr of None, bools, ints, texts, lists and tuples of these -/
def rRepr (K : PySem.W.Frag) : List V → Hp → VK → Prop := fun xs H Q => ∃ x d, xs = [x] ∧ Dp K H x d ∧ d.showable = true ∧ d.hasDict = false ∧ d.depth ≤ 60 ∧ d.shown.length ≤ sizeLine ∧ Q (.str d.shown) H
theorem call_reprD (gg : GG X.A) (hr : Room k X.A) : CallR X (.builtin "repr") (rRepr X.K) := by
  rintro pins s σ H xs us Q I r ⟨x, d, rfl, hd, sh, nd, dp, sz, q⟩
  obtain ⟨u, rfl, ru⟩ := vals1 r
  have hu := hr.units
  obtain ⟨as, rd⟩ := Dp.reads I d x u hd ru
  cases hd with
  | non => cases ru; exact P.repr_of_none ⟨.str _, H, I.tok _, ⟨_, rfl⟩, q⟩
  | bl b => cases ru; exact P.repr_of_bool ⟨.str _, H, I.tok _, ⟨_, rfl⟩, q⟩
  | int i => obtain ⟨t, rfl⟩ := ru; exact P.repr_of_int (of_decide_eq_true sh) ⟨.str _, H, I.tok _, ⟨_, rfl⟩, q⟩
  | str z => obtain ⟨t, rfl⟩ := ru; exact P.repr_of_str ⟨.str _, H, I.tok _, ⟨_, rfl⟩, q⟩ sz
  | lst h1 h2 => cases ru; exact repr_of_reads' rd sh (PyData.noDict_hsm nd) gg (by omega) (fun _ _ e => e) (fun h' u tk kp => ⟨.str _, H, I.kept kp, ⟨_, rfl⟩, q⟩) sz
  | tup h1 h2 => cases ru; exact repr_of_reads' rd sh (PyData.noDict_hsm nd) gg (by omega) (fun _ _ e => e) (fun h' u tk kp => ⟨.str _, H, I.kept kp, ⟨_, rfl⟩, q⟩) sz
end

/-! ### the end of a law -/
section
variable {P : Program} {w : World} {K : PySem.W.Frag} {mg mb : Str → Option Value} {k : Nat} {fa a : Addr} {fd : FuncData} {x : Str} {sp : Sp} {s : Shared} {vs : List Value} {ns : List Int}
theorem law_run (KX : K.In s.heap) (hns : s.heap.Ns mainGlobals mg) (hb : s.heap.Ns builtinsNs mb) (hbb : ∀ x : Str, x ≠ "__name__" → mb x = bootBuiltins x) (hlim : s.heap.NoLimit) (hg : s.gens = #[])
    (ha : s.heap.get? a = some { cls := .type "list", data := .seq vs.toArray }) (hi : IntsAre vs ns) (hl : ns.length ≤ sizeLine) (hr : Room k callerA)
    (F : ∀ base : Heap, K.In base → base.Ns mainGlobals mg → FnG P w K mg base CX0 k fa fd [x] sp) (hbind : ∀ (s : Shared) (u : Value), BindsTo s fd ⟨[u], []⟩ [(x, u)])
    (hsp : ∀ H : Hp, SqL K H a (ns.map V.int) → sp [.ref a] H (fun v _ => v = .bl true) E0) :
    codeAny (model P w) callerA (.call (.ref fa) ⟨[.ref a], []⟩) (fun r s' => r = .ok (.ret (.bool true)) ∧ OldK s.heap s'.heap ∧ s'.os = s.os ∧ AllBare s'.gens) s := by
  have rv := vals_ints hi
  have core : ∀ H : Hp, (∀ b, H b = none ∨ (b = a ∧ ∃ o xs, H b = some (.frz o (.lst xs)))) → SqL K H a (ns.map V.int) → HOk P w H s.heap → (H a ≠ none → K.lookup a = none) →
      codeAny (model P w) callerA (.call (.ref fa) ⟨[.ref a], []⟩) (fun r s' => r = .ok (.ret (.bool true)) ∧ OldK s.heap s'.heap ∧ s'.os = s.os ∧ AllBare s'.gens) s := by
    intro H hO hS hok hK
    have away : ∀ {b : Addr}, b ≠ a → H b = none := fun {b} n => (hO b).elim id fun z => absurd z.1 n
    have ns' : ∀ {b : Addr} {m : Str → Option Value}, s.heap.Ns b m → (hidT s.heap H).Ns b m := fun {b m} ⟨o, es, ep, e, d, r⟩ =>
      ⟨o, es, ep, hidT_get e (away fun z => by rw [z, ha] at e; cases e; cases d), d, r⟩
    have kin : K.In (hidT s.heap H) := fun b o e => by
      refine hidT_get (KX b o e) ?_
      by_cases hba : b = a
      · cases q : H b with
        | none => rfl
        | some u => rw [hba] at e q; rw [hK (by rw [q]; exact fun z => nomatch z)] at e; cases e
      · exact away hba
    obtain ⟨mc, lim1, lim2⟩ := hlim
    have e0 : Env0 P w K mg (hidT s.heap H) callerA [] s H := ⟨rfl, ⟨kin, ns' hns, ⟨mb, ns' hb, hbb⟩, ⟨mc, ns' lim1, lim2⟩⟩, fun b o e => of_hidT e, Nat.le_of_eq (hidT_size _ _), trivial, fun b z => absurd z (List.not_mem_nil), hok, .of_eq hg⟩
    refine codeAny_mono ((F _ kin (ns' hns)).run (args := ⟨[.ref a], []⟩) (us := [.ref a]) (vs := [V.ref a]) (Q := fun v _ => v = .bl true) (E := E0) rfl hr e0 (hbind s (.ref a)) (.cons rfl .nil) (hsp H hS)) fun r s' z => ?_
    match r, z with
    | .ok (.ret u), ⟨v, H', os, bare, un, hok', r', (q : v = .bl true)⟩ =>
      subst q
      obtain rfl : u = Value.bool true := r'
      refine ⟨rfl, OldK.of_keep fun b o e => ?_, os, bare⟩
      rcases hO b with n | ⟨_, ob, xs, n⟩
      · exact un.keep b o e n (List.not_mem_nil) (List.not_mem_nil)
      · have old := (hok b _ n).1
        have new := (hok' b _ (un.frzs b ob _ n)).1
        rw [e] at old
        rw [new, old]
  cases hk : K.lookup a with
  | some o =>
    have e := KX a o hk
    rw [ha] at e
    cases e
    exact core (fun _ => none) (fun _ => .inl rfl) (.inr ⟨_, vs.toArray, _, hk, rfl, rfl, rfl, by rw [List.size_toArray, hi.length]; exact hl, by simpa using rv⟩) (fun b u z => by cases z) fun z => absurd rfl z
  | none =>
    refine core (fun b => if b = a then some (.frz { cls := .type "list", data := .seq vs.toArray } (.lst (ns.map V.int))) else none) (fun b => ?_) (.inl (.inr ⟨_, if_pos rfl⟩)) (fun b u z => ?_) fun _ => hk
    · by_cases q : b = a
      · exact .inr ⟨q, _, _, if_pos q⟩
      · exact .inl (if_neg q)
    · by_cases q : b = a
      · subst q
        have z2 := (if_pos rfl).symm.trans z
        cases z2
        exact ⟨ha, by rw [List.length_map]; exact hl, vs, _, rv, ha⟩
      · have z2 := (if_neg q).symm.trans z
        cases z2
end
theorem walkG {l : PySem.W.OpenLaw} {n k : Nat} {q : Program} {loose : List Str} {XP : (Str → Option Value) → Heap → Prop} {YP : World → Heap → Prop} {d : DefRec} {K : Params → PySem.W.Frag} {sp : World → Sp} {x : Str}
    (hn : l.most = some n) (hn2 : n ≤ sizeLine) (hdf : d.params.defaults = []) (hr : Room k callerA) (hY : ∀ (w : World) (h : Heap), YP w h → (K w.params).In h)
    (F : ∀ (w : World) (mg : Str → Option Value) (fa : Addr) (h : Heap), (K w.params).In h → h.Ns mainGlobals mg → mg d.name = some (.ref fa) →
      ∃ fd : FuncData, (∀ (s : Shared) (u : Value), BindsTo s fd ⟨[u], []⟩ [(x, u)]) ∧ ∀ base : Heap, (K w.params).In base → base.Ns mainGlobals mg → FnG l.prog w (K w.params) mg base CX0 k fa fd [x] (sp w))
    (hsp : ∀ (w : World) (H : Hp) (a : Addr) (ns : List Int), ns.length ≤ n → SqL (K w.params) H a (ns.map V.int) → sp w [.ref a] H (fun v _ => v = .bl true) E0) :
    PySem.W.WalkO q loose XP YP l.row.toRowW d [] (fun f vs => PySem.call f vs) := by
  refine Att.attach_call hn hdf fun w s₀ s₁ mg mb fa o pm cd doc a vs ns G Y ho hd hcd hmg hobj hints hlen hg => ?_
  obtain ⟨fd, bnd, hF⟩ := F w mg fa _ (hY w _ Y) G.T.g hmg
  exact law_run (hY w _ Y) G.T.g G.T.b G.T.builtins G.T.nolimit hg hobj hints (Nat.le_trans hlen hn2) hr hF bnd fun H hS => hsp w H a ns hlen hS
end Pm

/-! Pm, part 3: operators whose own class stands on the right. -/
namespace Pm
open PySem PySem.Spec PyProof.Rows L2
section
open PySem.W
variable {prog : Program} {w : World} {A : Around} {E : Value → Shared → Prop} {s : Shared} {K : PySem.W.Frag} {y C f : Addr} {oy : Obj} {od : Option Obj} {Q : Value → Shared → Prop}
/-- a slot that declines and leaves all as it was -/
abbrev Decl (prog : Program) (w : World) (A : Around) (E : Value → Shared → Prop) (s : Shared) (id : String) (a b : Value) : Prop := wpAny (model prog w) A (call (.builtin id) [a, b]) (fun v s' => v = .notImplemented ∧ s' = s) E s
abbrev DeclB (prog : Program) (w : World) (A : Around) (E : Value → Shared → Prop) (s : Shared) (B : Builtin) (a b : Value) : Prop := wpAny (model prog w) A (B ⟨[a, b], []⟩) (fun fin s' => ∃ v, fin = .done (.ret v) ∧ v = .notImplemented ∧ s' = s) E s
theorem decl_int {nm : String} {g : Int → Int → Sem Fin} {i : Int} {t : Tok} {o : Obj} (ho : s.heap.get? y = some o) (hd : ∀ v, o.data ≠ .prim v) :
    DeclB prog w A E s (PySem.Builtin.Int.intBinary nm g false) (.int i t) (.ref y) := by
  obtain ⟨hp, gg, d, tk, os⟩ := s
  show wpAny _ _ _ _ _ _
  wp_walk using wpAny_load' ho
  split
  · rename_i h; exact absurd h (hd _)
  · wp_walk
    exact ⟨_, rfl, rfl, rfl⟩
theorem decl_bool {nm : String} {g : Int → Int → Sem Fin} {i : Bool} {o : Obj} (ho : s.heap.get? y = some o) (hd : ∀ v, o.data ≠ .prim v) :
    DeclB prog w A E s (PySem.Builtin.Int.intBinary nm g false) (.bool i) (.ref y) := by
  obtain ⟨hp, gg, d, tk, os⟩ := s
  show wpAny _ _ _ _ _ _
  wp_walk using wpAny_load' ho
  split
  · rename_i h; exact absurd h (hd _)
  · wp_walk
    exact ⟨_, rfl, rfl, rfl⟩
theorem decl_str {z : Str} {t : Tok} {o : Obj} (ho : s.heap.get? y = some o) (hd : ∀ v, o.data ≠ .prim v) :
    DeclB prog w A E s Builtin.«str.__eq__» (.str z t) (.ref y) := by
  obtain ⟨hp, gg, d, tk, os⟩ := s
  show wpAny _ _ _ _ _ _
  wp_walk using wpAny_load' ho
  split
  · rename_i h; exact absurd h (hd _)
  · wp_walk
    exact ⟨_, rfl, rfl, rfl⟩
theorem decl_none : DeclB prog w A E s Builtin.«NoneType.__eq__» .none (.ref y) := by
  obtain ⟨hp, gg, d, tk, os⟩ := s
  show wpAny _ _ _ _ _ _
  wp_walk
  exact ⟨_, rfl, by simp, rfl⟩
theorem decl_tup {x : Addr} {o : Obj} (ho : s.heap.get? y = some o) (hc : o.cls = .ref C) (X : K.In s.heap) (su : subIn K (.ref C) (.type "tuple") = some false) : DeclB prog w A E s Builtin.«tuple.__eq__» (.ref x) (.ref y) := by
  have L1 := looks_subIn (M := model prog w) X su
  obtain ⟨hp, gg, d, tk, os⟩ := s
  show wpAny _ _ _ _ _ _
  wp_walk using GQ.wpAny_loadPart' ho
  rw [hc]
  refine L1.at ?_
  wp_walk
  exact ⟨_, rfl, rfl, rfl⟩
theorem decl_call {T id : String} {name : Str} {B : Builtin} {a b : Value} (sl : Slot T name id) (hT : s.TypeIs a T) (en : entryFor table id = some B) (ar : argsOk id ⟨[a, b], []⟩) (h : DeclB prog w A.in1 E s B a b) : Decl prog w A E s id a b :=
  wpAny_call_entry sl hT en (wpAny_mono h (fun fin s' ⟨v, e, z⟩ => ⟨v, e, z⟩) fun _ _ e => e) ar

/-- a compared with an instance of C on its right: a's own slot declines -/
theorem rc_refl {op : CmpOp} {T id : String} {a : Value} (hu : A.units < cLine) (X : K.In s.heap) (J : InstAt s.heap y oy C od) (hT : s.TypeIs a T) (sl : Slot T (cmpInfo op).2.1 id) (dec : Decl prog w A E s id a (.ref y))
    (su : subIn K (.ref C) (.type T) = some false) (hs : findIn K (.ref C) (cmpInfo op).2.2 = some (some (.ref f))) (hf : isFn K (.ref f) = true)
    (h : wpAny (model prog w) A (call (.ref f) [.ref y, a]) (PySem.W.CmpBack Q) E s) : wpAny (model prog w) A (richCompare op a (.ref y)) Q E s := by
  have two : wpAny (model prog w) A (tryCompare (.ref y) (cmpInfo op).2.2 a) (fun r s' => ∃ v, r = some v ∧ Q v s') E s := by
    unfold tryCompare
    refine wpAny_bind (ifBound_K X J hs hf (wpAny_mono h (fun v s' hv => ?_) fun _ _ e => e))
    cases v <;> first | exact hv.elim | exact wpAny_pure ⟨_, rfl, hv⟩
  unfold richCompare
  simp only [hT.oneThing_none]
  refine wpAny_holding (wpAny_bind (wpAny_cRoomFor hu ?_))
  refine wpAny_bind (wpAny_typeOf hT (wpAny_bind (J.type.here ?_)))
  have ne : (Value.type T != Value.ref C) = true := by simp [bne]
  simp only [ne, if_true]
  refine wpAny_bind ((looks_subIn X su).here ?_)
  simp only [Bool.false_eq_true, if_false, Bool.not_false, if_true]
  refine wpAny_bind (m := tryCompare a _ _) (wpAny_tryCompare_declines hT sl (wpAny_mono dec (fun v s₁ h₁ => ⟨h₁.1, ?_⟩) fun _ _ e => e))
  obtain ⟨_, rfl⟩ := h₁
  refine wpAny_bind (wpAny_mono two (fun r s' z => ?_) fun _ _ e => e)
  obtain ⟨v, rfl, hq⟩ := z
  exact wpAny_pure hq

/-- an int op an instance of C -/
theorem bin1_refl {nm id : String} {i : Int} {t : Tok} {f0 : Addr} (X : K.In s.heap) (J : InstAt s.heap y oy C od) (fl : fillsNumberSlot (.type "int") nm = pure true) (sl : Slot "int" (PySem.dunder nm) id) (dec : Decl prog w A E s id (.int i t) (.ref y))
    (B0 : Bin K C nm f0) (su : subIn K (.ref C) (.type "int") = some false) (hs : findIn K (.ref C) (dunderR nm) = some (some (.ref f))) (hf : isFn K (.ref f) = true)
    (h : wpAny (model prog w) A (call (.ref f) [.ref y, .int i t]) (PySem.W.CmpBack Q) E s) : wpAny (model prog w) A (binaryOp1 nm (.int i t) (.ref y)) (Gave Q) E s := by
  obtain ⟨cd, rest, hcd, hm⟩ := ksp_first B0.sf
  have two := ksp_try X J hs hf h
  have A1 : Looks (model prog w) s.heap (typeOf (.int i t)) (.type "int") := .of_pure rfl
  have A2 : Looks (model prog w) s.heap (typeOf (.ref y)) (.ref C) := J.type
  have A3 : Looks (model prog w) s.heap (fillsNumberSlot (.type "int") nm) true := .of_pure fl
  have A4 : Looks (model prog w) s.heap (fillsNumberSlot (.ref C) nm) true := fills_K X hcd hm B0.at_
  have A5 : Looks (model prog w) s.heap (isSubtype (.ref C) (.type "int")) false := looks_subIn X su
  have A6 : Looks (model prog w) s.heap (numberSlotInPython (.type "int") nm) false := .of_pure rfl
  unfold binaryOp1
  refine wpAny_bind (A1.here (wpAny_bind (A2.here (wpAny_bind (A3.here ?_)))))
  have ne : (Value.type "int" == Value.ref C) = false := by simp
  rw [ne]
  simp only [Bool.false_eq_true, if_false]
  refine wpAny_bind (A4.here ?_)
  simp only [Bool.and_self, if_true, Bool.true_and]
  refine wpAny_bind (A5.here ?_)
  simp only [Bool.false_eq_true, if_false, Bool.not_false, if_true]
  refine wpAny_bind (wpAny_bind (A6.here ?_))
  refine wpAny_pure ?_
  simp only [Bool.false_eq_true, if_false]
  refine wpAny_bind (m := tryMethod (.int i t) _ _) (wpAny_tryMethod_declines (typeIs_int s i t) sl (wpAny_mono dec (fun v s₁ h₁ => ⟨h₁.1, ?_⟩) fun _ _ e => e))
  obtain ⟨_, rfl⟩ := h₁
  refine wpAny_bind (wpAny_mono two (fun r s' z => ?_) fun _ _ e => e)
  obtain ⟨v, rfl, hq⟩ := z
  exact wpAny_bind (wpAny_rule (wpAny_pure ⟨v, rfl, hq⟩))
end

/-! the readings -/
/-- what stands beside an own value in a comparison -/
inductive Side (K : PySem.W.Frag) (C : Addr) (H : Hp) : V → String → Prop
  | int (i : Int) : Side K C H (.int i) "int"
  | bl (b : Bool) : Side K C H (.bl b) "bool"
  | str (z : Str) : Side K C H (.str z) "str"
  | non : Side K C H .non "NoneType"
  | tup {p : Addr} {xs : List V} : SqT K H p xs → Side K C H (.ref p) "tuple"
theorem Side.ty {X : Cx} {C : Addr} {pins : List (Addr × Obj)} {σ : L2.St} {H : Hp} {s : Shared} {x : V} {u : Value} {T : String} (h : Side X.K C H x T) (I : L2.Inv X pins σ H s) (r : RelV x u) : s.TypeIs u T := by
  cases h with
  | int i => obtain ⟨t, rfl⟩ := r; rfl
  | bl b => cases r; rfl
  | str z => obtain ⟨t, rfl⟩ := r; rfl
  | non => cases r; rfl
  | tup hq =>
    cases r
    obtain ⟨its, rv, ⟨o, e, hc, _⟩, _⟩ := I.tuple hq
    exact ⟨o, e, hc⟩
/-- what the written part says of C beside the builtin types -/
structure Besides (K : PySem.W.Frag) (C : Addr) : Prop where
  st : ∀ T ∈ ["int", "bool", "str", "NoneType", "tuple"], PySem.W.subIn K (.type T) (.ref C) = some false
  su : ∀ T ∈ ["int", "bool", "str", "NoneType", "tuple"], PySem.W.subIn K (.ref C) (.type T) = some false
theorem Side.mem {K : PySem.W.Frag} {C : Addr} {H : Hp} {x : V} {T : String} (h : Side K C H x T) : T ∈ ["int", "bool", "str", "NoneType", "tuple"] := by cases h <;> simp
section
variable {X : Cx} {CX : CXT} {k : Nat} {C f f0 : Addr} {fd : FuncData} {ps : List Str} {sp : Sp} {E : XK}
/-- an instance of C compared with anything: its own method -/
def r2Cmp (K : PySem.W.Frag) (C : Addr) (sp : Sp) (E : XK) : R2 := fun x y H Q => ∃ a dx fs, x = .ref a ∧ H a = some (.ins C dx fs) ∧ ((∃ T, Side K C H y T) ∨ ∃ b dy gs, y = .ref b ∧ H b = some (.ins C dy gs)) ∧ sp [x, y] H Q E
theorem opr_cmp {op : CmpOp} (hop : ∀ a b, compareOp op a b = richCompare op a b) (B : Besides X.K C) (S : Spc X.K C (cmpInfo op).2.1 f) (F : FnOk X.prog X.w X.K X.mg X.base CX k f fd ps sp) (hr : Room k X.A) (hb : Binds X.K fd ps []) (hx : ∀ σ, PassesAt CX X σ E) :
    OpR X (compareOp op) (r2Cmp X.K C sp E) := by
  rintro pins s σ H x y v u Q I rx ry ⟨a, dx, fs, rfl, ea, ty, q⟩
  obtain rfl : v = Value.ref a := rx
  rw [hop]
  obtain ⟨od, J⟩ := inst_of I ea
  obtain ⟨m, fr⟩ := I.fr
  have go : wpAny (model X.prog X.w) X.A (call (.ref f) [.ref a, u]) (PySem.W.CmpBack (EP X pins σ Q)) X.xe s :=
    thn (run_at (sub_self hr) F hb (hx σ) I (show Vals [V.ref a, y] [Value.ref a, u] from .cons rfl (.cons ry .nil)) q) fun u' s' z => rel_back z
  have hu : X.A.units < cLine := by have := hr.units; omega
  rcases ty with ⟨T, sd⟩ | ⟨b, dy, gs, rfl, eb⟩
  · have tyL : PySem.W.Looks (model X.prog X.w) s.heap (typeOf u) (.type T) := by
      cases sd with
      | int i => obtain ⟨t, rfl⟩ := ry; exact .of_pure rfl
      | bl b => cases ry; exact .of_pure rfl
      | str z => obtain ⟨t, rfl⟩ := ry; exact .of_pure rfl
      | non => cases ry; exact .of_pure rfl
      | tup hq =>
        cases ry
        obtain ⟨its, rv, ⟨o, e, hc, _⟩, _⟩ := I.tuple hq
        intro A' Q' E' s' k q
        exact wpAny_typeOf (T := "tuple") ⟨o, k _ _ e, hc⟩ q
    exact PySem.W.cmp_K hu fr I.ok.mod.kin J tyL (by unfold PySem.W.notFirst; rw [B.st T sd.mem]; simp) S.at_ S.fn go
  · obtain rfl : u = Value.ref b := ry
    obtain ⟨od', J'⟩ := inst_of I eb
    exact PySem.W.cmp_K hu fr I.ok.mod.kin J J'.type (by unfold PySem.W.notFirst; simp) S.at_ S.fn go
/-- an int compared with an instance of C -/
def r2ICmp (C : Addr) (sp : Sp) (E : XK) : R2 := fun x y H Q => ∃ i b dy gs, x = .int i ∧ y = .ref b ∧ H b = some (.ins C dy gs) ∧ sp [y, x] H Q E
theorem ins_obj {pins : List (Addr × Obj)} {σ : L2.St} {H : Hp} {s : Shared} {a dx : Addr} {fs : List (Str × V)} (I : L2.Inv X pins σ H s) (ea : H a = some (.ins C dx fs)) :
    ∃ od, PySem.W.InstAt s.heap a (PySem.W.instObj C dx) C (some od) := inst_of I ea
theorem opr_icmp {op : CmpOp} {nm : String} {g : Int → Int → Sem PySem.Fin} {id : String} (hop : ∀ a b, compareOp op a b = richCompare op a b) (sl : Slot "int" (cmpInfo op).2.1 id) (en : entryFor table id = some (PySem.Builtin.Int.intBinary nm g false)) (ar : ∀ a b, argsOk id ⟨[a, b], []⟩)
    (B : Besides X.K C) (S : Spc X.K C (cmpInfo op).2.2 f) (F : FnOk X.prog X.w X.K X.mg X.base CX k f fd ps sp) (hr : Room k X.A) (hb : Binds X.K fd ps []) (hx : ∀ σ, PassesAt CX X σ E) :
    OpR X (compareOp op) (r2ICmp C sp E) := by
  rintro pins s σ H x y v u Q I rx ry ⟨i, b, dy, gs, rfl, rfl, eb, q⟩
  obtain ⟨t, rfl⟩ := rx
  obtain rfl : u = Value.ref b := ry
  rw [hop]
  obtain ⟨od, J⟩ := inst_of I eb
  have go : wpAny (model X.prog X.w) X.A (call (.ref f) [.ref b, .int i t]) (PySem.W.CmpBack (EP X pins σ Q)) X.xe s :=
    thn (run_at (sub_self hr) F hb (hx σ) I (show Vals [V.ref b, V.int i] [Value.ref b, Value.int i t] from .cons rfl (.cons ⟨t, rfl⟩ .nil)) q) fun u' s' z => rel_back z
  exact rc_refl (by have := hr.units; omega) I.kIn J (typeIs_int s i t) sl (decl_call sl (typeIs_int s i t) en (ar _ _) (decl_int J.at_ (fun _ z => nomatch z))) (B.su "int" (by simp)) S.at_ S.fn go
/-- anything == an instance of C -/
def r2REq (K : PySem.W.Frag) (C : Addr) (sp : Sp) (E : XK) : R2 := fun x y H Q => ∃ b dy gs T, Side K C H x T ∧ y = .ref b ∧ H b = some (.ins C dy gs) ∧ sp [y, x] H Q E
theorem opr_req (B : Besides X.K C) (S : Spc X.K C "__eq__" f) (F : FnOk X.prog X.w X.K X.mg X.base CX k f fd ps sp) (hr : Room k X.A) (hb : Binds X.K fd ps []) (hx : ∀ σ, PassesAt CX X σ E) :
    OpR X (compareOp .Eq) (r2REq X.K C sp E) := by
  rintro pins s σ H x y v u Q I rx ry ⟨b, dy, gs, T, sd, rfl, eb, q⟩
  obtain rfl : u = Value.ref b := ry
  obtain ⟨od, J⟩ := inst_of I eb
  have go : wpAny (model X.prog X.w) X.A (call (.ref f) [.ref b, v]) (PySem.W.CmpBack (EP X pins σ Q)) X.xe s :=
    thn (run_at (sub_self hr) F hb (hx σ) I (show Vals [V.ref b, x] [Value.ref b, v] from .cons rfl (.cons rx .nil)) q) fun u' s' z => rel_back z
  have hT := sd.ty I rx
  have hu : X.A.units < cLine := by have := hr.units; omega
  have su := B.su T sd.mem
  have np : ∀ v, (PySem.W.instObj C dy).data ≠ .prim v := fun _ z => nomatch z
  show wpAny _ _ (richCompare .Eq _ _) _ _ _
  cases sd with
  | int i => obtain ⟨t, rfl⟩ := rx; exact rc_refl (op := .Eq) hu I.kIn J hT PySem.F.slot_int_eq (decl_call PySem.F.slot_int_eq hT PySem.F.entry_int_eq (PySem.F.args_int_eq_2 _ _) (decl_int J.at_ np)) su S.at_ S.fn go
  | bl b => cases rx; exact rc_refl (op := .Eq) hu I.kIn J hT PySem.F.slot_bool_eq (decl_call PySem.F.slot_bool_eq hT PySem.F.entry_int_eq (PySem.F.args_int_eq_2 _ _) (decl_bool J.at_ np)) su S.at_ S.fn go
  | str z => obtain ⟨t, rfl⟩ := rx; exact rc_refl (op := .Eq) hu I.kIn J hT PySem.F.slot_str_eq (decl_call PySem.F.slot_str_eq hT PySem.F.entry_str_eq (PySem.F.args_str_eq_2 _ _) (decl_str J.at_ np)) su S.at_ S.fn go
  | non => cases rx; exact rc_refl (op := .Eq) hu I.kIn J hT PySem.F.slot_NoneType_eq (decl_call PySem.F.slot_NoneType_eq hT PySem.F.entry_NoneType_eq (PySem.F.args_NoneType_eq_2 _ _) decl_none) su S.at_ S.fn go
  | tup hq => cases rx; exact rc_refl (op := .Eq) hu I.kIn J hT PySem.F.slot_tuple_eq (decl_call PySem.F.slot_tuple_eq hT PySem.F.entry_tuple_eq (PySem.F.args_tuple_eq_2 _ _) (decl_tup J.at_ J.cls I.kIn su)) su S.at_ S.fn go
/-- an int + - * an instance of C -/
theorem opr_ibin {op : Operator} {nm : String} {g : Int → Int → Sem PySem.Fin} {id : String} (fl : fillsNumberSlot (.type "int") op.info.2 = pure true) (sl : Slot "int" (PySem.dunder op.info.2) id) (en : entryFor table id = some (PySem.Builtin.Int.intBinary nm g false)) (ar : ∀ a b, argsOk id ⟨[a, b], []⟩)
    (B : Besides X.K C) (B0 : Bin X.K C op.info.2 f0) (S : Spc X.K C (dunderR op.info.2) f) (F : FnOk X.prog X.w X.K X.mg X.base CX k f fd ps sp) (hr : Room k X.A) (hb : Binds X.K fd ps []) (hx : ∀ σ, PassesAt CX X σ E) :
    OpR X (binaryOp op) (r2ICmp C sp E) := by
  rintro pins s σ H x y v u Q I rx ry ⟨i, b, dy, gs, rfl, rfl, eb, q⟩
  obtain ⟨t, rfl⟩ := rx
  obtain rfl : u = Value.ref b := ry
  obtain ⟨od, J⟩ := inst_of I eb
  have go : wpAny (model X.prog X.w) X.A (call (.ref f) [.ref b, .int i t]) (PySem.W.CmpBack (EP X pins σ Q)) X.xe s :=
    thn (run_at (sub_self hr) F hb (hx σ) I (show Vals [V.ref b, V.int i] [Value.ref b, Value.int i t] from .cons rfl (.cons ⟨t, rfl⟩ .nil)) q) fun u' s' z => rel_back z
  exact bin_of (bin1_refl I.kIn J fl sl (decl_call sl (typeIs_int s i t) en (ar _ _) (decl_int J.at_ (fun _ z => nomatch z))) B0 (B.su "int" (by simp)) S.at_ S.fn go)
end
end Pm

/-! Pm, part 4: texts of own values, in, != by an own ==, what a caught error is. -/
namespace Pm
open PySem PySem.Spec PyProof.Rows L2
section
open PySem.W PySem.Calls
variable {prog : Program} {w : World} {A : Around} {E : Value → Shared → Prop} {s : Shared} {K : PySem.W.Frag} {x C f : Addr} {ox : Obj} {od : Option Obj}
/-- the class of a caught error, asked by its name -/
theorem cls_exc {Q : Option Value → Shared → Prop} (T : ExcC K C) (X : K.In s.heap) (I : PySem.W.InstAt s.heap x ox C od) (h : Q (some (.ref C)) { s with toks := s.toks + 1 }) :
    wpAny (model prog w) A (getAttr? (.ref x) "__class__") Q E s := by
  have isC : (clsIn K C).isSome = true := by obtain ⟨c, e, _⟩ := any_some T.hd; rw [e]; rfl
  have fo : findObj K C od "__class__" = some (.bind (.builtin "getset_descriptor.__get__") (.builtin "object.__class__")) := by
    cases od with
    | none => exact findObj_dataN isC T.ha T.hn T.ht
    | some o => exact findObj_data isC T.ha T.hn T.ht
  obtain ⟨hp, gs, dr, tk, os⟩ := s
  have t0 : Looks (model prog w) hp (typeOf (.ref x)) (.ref C) := I.type
  have t1 := looks_findIn (M := model prog w) X T.hg
  have t2 := looks_findIn (M := model prog w) X T.hk
  have t3 := looks_find (M := model prog w) X I fo
  have t4 : Looks (model prog w) hp (isInstance (.ref x) (.type "BaseException")) true := t0.andThen (looks_subIn X T.hs)
  have n2 : (Value.builtin "BaseException.__getattribute__" == Value.builtin "object.__getattribute__") = false := by decide +kernel
  unfold getAttr? getAttrBy? getAttrBy; refine wpAny_bind (wpAny_mkText (wpAny_bind (wpAny_attempt (wpAny_holding (wpAny_bind (t0.at (wpAny_bind (t1.at ?_))))))))
  show wpAny _ _ (if (onTheHeap (.ref C) && (Value.builtin "BaseException.__getattribute__" == Value.builtin "object.__getattribute__")) = true then _ else _) _ _ _
  rw [n2, Bool.and_false, if_neg Bool.false_ne_true]; unfold getAttrByItsOwn hookBefore
  refine wpAny_bind ?_; rw [if_pos (show onTheHeap (.ref C) = true from rfl)]
  refine t2.at (wpAny_bind (wpAny_attempt (wpAny_holding ?_)))
  unfold callGetattribute; rw [Bool.false_and, if_neg Bool.false_ne_true]
  unfold boundAndCalled; rw [PySem.F.excAttr_ValueError.ga.bind (.ref x)]
  refine wpAny_bind (wpAny_pure ?_); show wpAny _ _ (call (.builtin "BaseException.__getattribute__") [.ref x, .str "__class__" tk]) _ _ _
  refine wpAny_call (codeAny_call_builtin PySem.F.excAttr_ValueError.ga.plain PySem.F.entry_bexc_ga (@check_slot (model prog w) _ _ ⟨hp, gs, dr, tk + 1, os⟩ "BaseException.__getattribute__" "BaseException" "__getattribute__" (.ref x) [.str "__class__" tk] [] _ (by decide +kernel) (by decide +kernel) t4 (PySem.F.args_bexc_ga (.ref x) (.str "__class__" tk)) ?_))
  unfold Builtin.«object.__getattribute__»; refine wpAny_bind (wpAny_of_eq (a := ((Value.ref x : Value), [Value.str "__class__" tk])) (by first | rfl | (simp only [slotArgs]; rfl)) (wpAny_bind (wpAny_pure (wpAny_bind (t0.at (wpAny_bind (t3.at ?_)))))))
  show wpAny _ _ (holding [.builtin "object.__class__"] (call (.builtin "getset_descriptor.__get__") [.builtin "object.__class__", .ref x, .ref C]) >>= ret) _ _ _
  refine wpAny_bind (wpAny_holding (wpAny_call (class_get (s := ⟨hp, gs, dr, tk + 1, os⟩) (ox := ox) (od := od) X I T.hm (wpAny_pure ?_))))
  show wpAny _ _ (handedOut (.ref C)) _ _ _
  rw [handedOut_of (v := .ref C) rfl]
  first
    | exact wpAny_pure (wpAny_pure h)
    | exact wpAny_pure h
    | exact wpAny_pure (wpAny_bind (wpAny_pure (wpAny_pure h)))
theorem kitx_excX (T : ExcC K C) : KitX K (.ref x) (.ref C) (fun h => PySem.W.InstAt h x ox C od) where
  ty := fun _ _ _ I => I.type
  it := fun _ _ X _ => by
    obtain ⟨c, e, _⟩ := any_some T.hd; unfold clsIn at e; split at e
    · rename_i ho; intro A' Q' E' s' k q; unfold isType loadHead; exact wpAny_bind (wpAny_loadPart (k _ _ (X _ _ ho)) (wpAny_pure q))
    · cases e
  ne := fun h tp dd its n sl X htp => by
    obtain ⟨c, e, _⟩ := any_some T.hd; unfold clsIn at e; split at e
    · rename_i ho; refine Bool.eq_false_iff.mpr fun q => ?_
      have e1 : C = tp := Value.ref.inj (beq_iff_eq.mp q)
      subst e1; have z := (X _ _ ho).symm.trans htp; cases z
    · cases e
  ca := fun X I k => cls_exc T X I k
/-- a builtin special method that an own class has of its base -/
theorem bound_B {M : Model} {name : Str} {id : String} {args : List Value} {Q : Option Value → Shared → Prop} (X : K.In s.heap) (J : PySem.W.InstAt s.heap x ox C od) (hs : findIn K (.ref C) name = some (some (.builtin id)))
    (hb : ∀ v, bindSpecial (.builtin id) v = pure (.builtin id, [v])) (h : wpAny M A (call (.builtin id) (.ref x :: args)) (fun v => Q (some v)) E s) : wpAny M A (callSpecialIfBound? (.ref x) name args) Q E s := by
  have done : wpAny M A (call (.builtin id) ([.ref x] ++ args) >>= fun v => pure (some v)) Q E s := wpAny_bind (wpAny_mono h (fun _ _ z => wpAny_pure z) fun _ _ z => z)
  unfold callSpecialIfBound? bindSpecialIfBound?; refine wpAny_holding (wpAny_bind (wpAny_bind (wpAny_bind (J.type.here ((looks_findIn X hs).here (wpAny_bind (wpAny_askSetting (wpAny_ite ?_))))))))
  split
  · exact wpAny_bind ((Looks.of_pure (hb _)).here (wpAny_pure (by exact done)))
  · exact wpAny_tryCatch (wpAny_bind ((Looks.of_pure (hb _)).here (wpAny_pure (by exact done))))
/-- x != b where x's class has an own == and no own != -/
theorem rc_neE {b tb : Value} {Q : Value → Shared → Prop} (hu : A.units < cLine) (hu1 : A.in1.units < cLine) (X : K.In s.heap) (J : PySem.W.InstAt s.heap x ox C od) (hb : Looks (model prog w) s.heap (typeOf b) tb) (hn : notFirst K C tb = true) (hne : findIn K (.ref C) "__ne__" = some (some (.builtin "object.__ne__")))
    (hm : mroIn K C (.type "object") = some true) (he : findIn K (.ref C) "__eq__" = some (some (.ref f))) (hf : isFn K (.ref f) = true)
    (h : wpAny (model prog w) A.in1 (call (.ref f) [.ref x, b]) (fun v s' => ∃ r, v = .bool r ∧ Q (.bool (!r)) s') E s) : wpAny (model prog w) A (richCompare .NotEq (.ref x) b) Q E s := by
  have one : wpAny (model prog w) A (tryCompare (.ref x) (cmpInfo .NotEq).2.1 b) (fun r s' => ∃ v, r = some v ∧ Q v s') E s := by
    unfold tryCompare
    refine wpAny_bind (bound_B X J hne PySem.F.slot_object_ne.bind (wpAny_call (codeAny_call_builtin PySem.F.slot_object_ne.plain PySem.F.entry_object_ne (check_slot (i := "object.__ne__") (owner := "object") (n := "__ne__") (by decide +kernel) (by decide +kernel) (J.type.andThen (looks_mroIn X hm)) (PySem.F.args_object_ne_2 _ _) ?_))))
    unfold Builtin.«object.__ne__»; refine wpAny_bind (m := slotArgs "__ne__" 1 _) (wpAny_pure ?_)
    refine wpAny_bind (m := cRoomFor _ _) (wpAny_cRoomFor hu1 (wpAny_bind (m := callSpecialIfBound? (.ref x) "__eq__" _) (ifBound_K X J he hf (wpAny_mono h (fun v s' z => ?_) fun _ _ z => z))))
    obtain ⟨r, rfl, q⟩ := z
    exact wpAny_bind (wpAny_truthy_bool (wpAny_pure (wpAny_pure ⟨_, rfl, q⟩)))
  unfold richCompare; simp only [oneThing_ref]
  refine wpAny_holding (wpAny_bind (wpAny_cRoomFor hu (wpAny_bind (J.type.here (wpAny_bind (hb.here ?_))))))
  have fin : wpAny (model prog w) A (do if let some v ← tryCompare (.ref x) (cmpInfo .NotEq).2.1 b then return v else pure .none) Q E s := wpAny_bind (wpAny_mono one (fun r s' ⟨v, e, q⟩ => by subst e; exact wpAny_pure q) fun _ _ z => z)
  split
  · rename_i q
    have e : subIn K tb (.ref C) = some false := (Bool.or_eq_true_iff.mp hn).elim (fun e => by rw [beq_iff_eq.mp e] at q; simp at q) (fun e => beq_iff_eq.mp e)
    refine wpAny_bind ((looks_subIn X e).here ?_); simp only [Bool.false_eq_true, if_false]
    exact wpAny_bind (wpAny_mono one (fun r s' ⟨v, e, q⟩ => by subst e; exact wpAny_pure q) fun _ _ z => z)
  · refine wpAny_bind (wpAny_pure ?_); simp only [Bool.false_eq_true, if_false]
    exact wpAny_bind (wpAny_mono one (fun r s' ⟨v, e, q⟩ => by subst e; exact wpAny_pure q) fun _ _ z => z)
end
section
variable {X : Cx} {CX : CXT} {k : Nat} {C f a : Addr} {fd : FuncData} {ps : List Str} {sp : Sp} {E : XK} {oe : Obj} {cls : Value} {d : Option Addr} {pn : List (Addr × Obj)}
/-- isinstance of the error that the suite holds, of class C, its own dict at d -/
def rIsEX (K : PySem.W.Frag) (a : Addr) (cls : Value) (d : Option Addr) (C : Addr) : List V → Hp → VK → Prop := fun xs H Q => cls = .ref C ∧ ∃ dd fs, d = some dd ∧ H dd = some (.xd fs) ∧
  ((∃ c cv b, xs = [.ref a, c] ∧ ClsV c cv ∧ PySem.W.kitOne K (.ref C) cv = some b ∧ Q (.bl b) H) ∨ ∃ tp cs us b, xs = [.ref a, .ref tp] ∧ H tp = some (.tup cs) ∧ Paired ClsV cs us ∧ PySem.W.kitAny K (.ref C) us = some b ∧ Q (.bl b) H)
theorem call_isX (T : ExcC X.K C) (hz : Zc cls d oe) (hf : ∃ vs, oe.data = .fields vs) : CallR (X.suite a ((a, oe) :: pn)) (.builtin "isinstance") (rIsEX X.K a cls d C) := by
  rintro pins s σ H xs us Q I r ⟨rfl, dd, fs, rfl, ed, h⟩
  obtain ⟨ha, _⟩ := I.pin (a, oe) (List.mem_append_left _ List.mem_cons_self)
  obtain ⟨vs, hd⟩ := hf
  obtain ⟨mA, hns, _⟩ := (show ObjOk X.prog X.w H s.heap dd (.xd fs) from I.hok dd _ ed)
  obtain ⟨od, ho, _⟩ := lookIn_ns hns
  have J : PySem.W.InstAt s.heap a oe C (some od) := ⟨ha, hz.1, by unfold PySem.W.notCls; rw [hd] <;> rfl, by rw [hz.2]; exact ho⟩
  rcases h with ⟨c, cv, b, rfl, hc, e, q⟩ | ⟨tp, cs, cvs, b, rfl, ht, hc, e, q⟩
  · obtain ⟨u1, u2, rfl, r1, r2⟩ := vals2 r
    obtain rfl : u1 = Value.ref a := r1
    have e2 := hc.eq r2
    subst e2
    exact PySem.W.kia_one (kitx_excX T) I.kIn J e (fun z => nomatch z) fun tk => ⟨.bl b, H, I.tok tk, rfl, q⟩
  · obtain ⟨u1, u2, rfl, r1, r2⟩ := vals2 r
    obtain rfl : u1 = Value.ref a := r1
    obtain rfl : u2 = Value.ref tp := r2
    obtain ⟨_, its, rv, o, h1, h2, n, h3⟩ := (show ObjOk X.prog X.w H s.heap tp (.tup cs) from I.hok tp _ ht)
    have e3 := ClsV.all hc rv
    subst e3
    obtain ⟨oc, od', dt, sl⟩ := o
    simp only at h2 h3
    subst h2 h3
    exact PySem.W.kia_tup (kitx_excX T) I.kIn J h1 e (fun z => nomatch z) fun tk => ⟨.bl b, H, I.tok tk, rfl, q⟩
/-- {x} in an f-string, x an instance of C with an own __str__ -/
def tFmtO (C : Addr) (sp : Sp) (E : XK) (te : TE) : TE := fun σ H Q => te σ H fun x H1 => ∃ b dx fs, x = .ref b ∧ H1 b = some (.ins C dx fs) ∧ sp [.ref b] H1 (fun v H' => (∃ z, v = .str z) ∧ Q v H') E
theorem pe_fmtO {e : Expr} {te : TE} {pos : Pos} (he : PE X e te) (fm : PySem.W.findIn X.K (.ref C) "__format__" = some (some (.builtin "object.__format__"))) (hm : PySem.W.mroIn X.K C (.type "object") = some true)
    (S : Spc X.K C "__str__" f) (F : FnOk X.prog X.w X.K X.mg X.base CX k f fd ps sp) (hr : Room (k + 1) X.A) (hb : Binds X.K fd ps []) (hx : ∀ σ, PassesAt CX X σ E) : PE X (.FormattedValue e (-1) none pos) (tFmtO C sp E te) := by
  refine ⟨fun pins s σ H Q I h => wpAny_FormattedValue_plain (thn (he.run pins s σ H _ I h) fun v s1 ⟨x, H1, I1, r1, b, dx, fs, ex, eb, q⟩ => ?_)⟩
  subst ex
  obtain rfl : v = Value.ref b := r1
  obtain ⟨od, J⟩ := inst_of I1 eb
  have sb := (sub_self hr).in1
  exact PySem.W.kfo_fieldS (by have := sb.room.units; omega) I1.kIn J fm hm S.at_ S.fn (thn (run_at sb F hb (hx σ) (I1.tok _) self1 q) fun u s' => strback)
/-- x in an instance of C -/
theorem op_inO (S : Spc X.K C "__contains__" f) (F : FnOk X.prog X.w X.K X.mg X.base CX k f fd ps sp) (hr : Room k X.A) (hb : Binds X.K fd ps []) (hx : ∀ σ, PassesAt CX X σ E) :
    OpR X (compareOp .In) (fun x y H Q => ∃ b dy gs, y = .ref b ∧ H b = some (.ins C dy gs) ∧ sp [y, x] H (fun v H' => ∃ r, v = .bl r ∧ Q (.bl r) H') E) := by
  rintro pins s σ H x y v u Q I rx ry ⟨b, dy, gs, rfl, eb, q⟩
  obtain rfl : u = Value.ref b := ry
  obtain ⟨od, J⟩ := inst_of I eb
  obtain ⟨m, fr⟩ := I.fr
  refine PySem.W.in_K fr I.ok.mod.kin J S.at_ S.fn (thn (run_at (sub_self hr) F hb (hx σ) I (show Vals [V.ref b, x] [Value.ref b, v] from .cons rfl (.cons rx .nil)) q) fun u s' z => ?_)
  obtain ⟨vv, H', I', r', ⟨r, rfl, q'⟩⟩ := z
  cases r'
  exact wpAny_truthy_bool ⟨.bl r, H', I', rfl, q'⟩
/-- != by an own == -/
theorem opr_neE (B : Besides X.K C) (hne : PySem.W.findIn X.K (.ref C) "__ne__" = some (some (.builtin "object.__ne__"))) (hm : PySem.W.mroIn X.K C (.type "object") = some true) (S : Spc X.K C "__eq__" f) (F : FnOk X.prog X.w X.K X.mg X.base CX k f fd ps sp) (hr : Room (k + 1) X.A) (hb : Binds X.K fd ps []) (hx : ∀ σ, PassesAt CX X σ E) :
    OpR X (compareOp .NotEq) (fun x y H Q => ∃ a dx fs b dy gs, x = .ref a ∧ y = .ref b ∧ H a = some (.ins C dx fs) ∧ H b = some (.ins C dy gs) ∧ sp [x, y] H (fun v H' => ∃ r, v = .bl r ∧ Q (.bl (!r)) H') E) := by
  rintro pins s σ H x y v u Q I rx ry ⟨a, dx, fs, b, dy, gs, rfl, rfl, ea, eb, q⟩
  obtain rfl : v = Value.ref a := rx
  obtain rfl : u = Value.ref b := ry
  obtain ⟨od, J⟩ := inst_of I ea
  obtain ⟨od', J'⟩ := inst_of I eb
  have sb := (sub_self hr).in1
  refine rc_neE (by have := hr.units; omega) (by have := sb.room.units; omega) I.kIn J J'.type (by unfold PySem.W.notFirst; simp) hne hm S.at_ S.fn (thn (run_at sb F hb (hx σ) I (show Vals [V.ref a, V.ref b] [Value.ref a, Value.ref b] from .cons rfl (.cons rfl .nil)) q) fun u s' z => ?_)
  obtain ⟨vv, H', I', r', ⟨r, rfl, q'⟩⟩ := z
  cases r'
  exact ⟨r, rfl, .bl (!r), H', I', rfl, q'⟩
end
end Pm

/-! Pm, part 5: lists of own instances: repr; len(x), x[i] by own methods. -/
namespace Pm
open PySem PySem.Spec PyProof.Rows L2
section
open PySem.W PySem.Calls
variable {prog : Program} {w : World} {A : Around} {E : Value → Shared → Prop} {s : Shared} {K : PySem.W.Frag} {x C f : Addr} {ox : Obj} {od : Option Obj}
/-- a special method of an own class, called in another way than by call -/
theorem by_own {M : Model} {name : Str} {last : Value → List Value → Sem Value} {Q : Option Value → Shared → Prop} (X : K.In s.heap) (I : PySem.W.InstAt s.heap x ox C od) (hs : findIn K (.ref C) name = some (some (.ref f))) (hf : isFn K (.ref f) = true)
    (h : wpAny M A (last (.ref f) [.ref x]) (fun v => Q (some v)) E s) : wpAny M A (callSpecialIfBoundBy? last (.ref x) name) Q E s := by
  have done : wpAny M A (last (.ref f) [.ref x] >>= fun v => pure (some v)) Q E s := wpAny_bind (wpAny_mono h (fun _ _ z => wpAny_pure z) fun _ _ z => z)
  unfold callSpecialIfBoundBy? bindSpecialIfBound?; refine wpAny_holding (wpAny_bind (wpAny_bind (wpAny_bind (I.type.here ((looks_findIn X hs).here (wpAny_bind (wpAny_askSetting (wpAny_ite ?_))))))))
  split
  · exact wpAny_bind ((bind_fn X _ (beq_iff_eq.mp hf)).here (wpAny_pure (by exact done)))
  · exact wpAny_tryCatch (wpAny_bind ((bind_fn X _ (beq_iff_eq.mp hf)).here (wpAny_pure (by exact done))))
/-- the text of an own instance within a list's text -/
theorem under_own {b : Nat} {Q : Str → Shared → Prop} (hb : b ≤ sizeLine) (hu : A.units < cLine) (X : K.In s.heap) (I : PySem.W.InstAt s.heap x ox C od) (hs : findIn K (.ref C) "__repr__" = some (some (.ref f))) (hf : isFn K (.ref f) = true)
    (h : wpAny (model prog w) A (call (.ref f) [.ref x]) (fun v s' => ∃ z t, v = .str z t ∧ Q z s') E s) : wpAny (model prog w) A (pyReprUnder b (.ref x)) Q E s := by
  refine wpAny_pyReprUnder_ref hb ?_
  unfold pyReprObjUnder pyReprObjBy; refine wpAny_bind (wpAny_cRoomFor hu (wpAny_bind (wpAny_bind (I.type.here ((looks_findIn X hs).here ?_)))))
  show wpAny _ _ (if (some (Value.ref f)).isNone = true then _ else _) _ _ _
  rw [if_neg (by simp)]
  refine wpAny_bind (by_own X I hs hf (wpAny_mono h (fun v s' z => ?_) fun _ _ e => e))
  obtain ⟨z, t, rfl, q⟩ := z
  refine wpAny_bind (wpAny_isInstance (typeIs_str _ _ _) isSubtype_str_str ?_)
  first
    | exact wpAny_pure ⟨_, _, rfl, q⟩
    | (rw [if_pos rfl]; exact wpAny_pure ⟨_, _, rfl, q⟩)
end
/-! ### repr of a list of own instances -/
abbrev loopC (us : List Value) : Code := .builtin "list.__repr__.loop" ⟨us, []⟩
theorem loop_units {A : Around} {us : List Value} : (A.under (loopC us)).units = A.units + 1 := by first | rfl | simp [Around.under, Code.cUnits, Code.frames, Code.isFrame]
theorem loop_frames {A : Around} {us : List Value} : (A.under (loopC us)).frames = A.frames := by
  show pushEnvs (loopC us).envs A.frames = A.frames
  have e : (loopC us).envs = [] := by first | rfl | simp [loopC, Code.envs, Code.isFrame]
  rw [e]
  cases A.frames <;> rfl
theorem loop_depth {A : Around} {us : List Value} : (A.under (loopC us)).depth ≤ A.depth + 1 := by
  show A.depth + (loopC us).weight ≤ A.depth + 1
  have e : (loopC us).weight ≤ 1 := by
    have g : Code.isGuard (loopC us) = true := by show guardIds.contains "list.__repr__.loop" = true; decide +kernel
    simp [Code.weight, loopC, Code.isCreation, Code.isCaller, Code.frames, Code.isFrame]
    first | (split <;> decide) | skip
  omega
theorem loop_room {X : Cx} {k : Nat} {A : Around} {us : List Value} (r : L2.Sub X (k + 1) A) : L2.Sub X k (A.under (loopC us)) := by
  refine ⟨⟨r.room.hd, ?_, ?_⟩, loop_frames.trans r.fr⟩
  · have := r.room.dp; have := loop_depth (A := A) (us := us); omega
  · have := r.room.un; rw [loop_units]; omega
section
variable {X : Cx} {k : Nat} {C f l P : Addr} {fd : FuncData} {ps : List Str} {sp : Sp} {pins : List (Addr × Obj)} {σ : L2.St} {H : Hp} {qs : List Addr} {ts : List Str} {A : Around} {R : PySem.Result → Shared → Prop} {b : Nat}
/-- each of them tells its text, and leaves the heap as it is -/
def Tells (C : Addr) (sp : Sp) (H : Hp) (qs : List Addr) (ts : List Str) : Prop :=
  ts.length = qs.length ∧ ∀ (i : Nat) (q : Addr) (t : Str), qs[i]? = some q → ts[i]? = some t → (∃ dx fs, H q = some (.ins C dx fs)) ∧ ∀ Q' : VK, Q' (.str t) H → sp [.ref q] H Q' E0
abbrev plob (acc : Array Value) (c : Nat) : Obj := { cls := .type "list", dict := none, data := .seq acc c, slots := #[] }
theorem reprs_loop (S : Spc X.K C "__repr__" f) (G : FnOk X.prog X.w X.K X.mg X.base CX0 k f fd ps sp) (hb : Binds X.K fd ps []) (sb : L2.Sub X (k + 1) A)
    (hl : H l = some (.lst (qs.map V.ref))) (T : Tells C sp H qs ts) (hsz : b + (listText ts).length ≤ sizeLine) (np : ∀ p ∈ X.pn ++ pins, p.1 ≠ P) (h1 : P ∈ X.ex ∨ X.s_0.heap.objs.size ≤ P)
    (hR : ∀ u s', L2.Inv X pins σ H s' → R (.ok (.ret (.str (listText ts) u))) s') (hE : ∀ e s', X.xe e s' → R (.error e) s') :
    ∀ (n i : Nat) (s : Shared) (acc : Array Value) (c : Nat) (done : List (Str × Tok)), qs.length - i = n → i ≤ qs.length → L2.Inv X ((P, plob acc c) :: pins) σ H s → acc.toList = strValues done → done.map (·.1) = ts.take i →
      codeAny (model X.prog X.w) A (loopC [.ref l, rawInt i, .ref P, rawInt ((b + piled (ts.take i) : Nat) : Int)]) R s := by
  have len := T.1
  have pl := piled_le_listText ts
  have fl := (textFrom_len ts 0 "[")
  have xl : (listText ts).length = (textFrom 0 "[" ts).length + 1 := by
    show (textFrom 0 "[" ts ++ "]").length = _
    rw [strLen_append]; rfl
  have few : qs.length ≤ sizeLine := by
    have := fl.1
    rw [if_neg (Nat.lt_irrefl 0)] at this
    omega
  intro n
  induction n with
  | zero =>
    intro i s acc c done hk hi I hacc hdone
    obtain rfl : i = qs.length := by omega
    have hP := (I.pin (P, plob acc c) (List.mem_append_right _ List.mem_cons_self)).1
    obtain ⟨_, its, n0, rv, el, ho⟩ := I.lstM hl
    rw [List.length_map] at el
    refine codeAny_builtin PySem.F.entry_list_repr_loop ?_
    show wpAny _ _ (Builtin.«list.__repr__.loop» _) _ _ s
    unfold rawInt; rw [repr_loop_tree]; refine wpAny_bind (wpAny_listItems ho rfl ?_)
    have none : its.toArray[((qs.length : Nat) : Int).toNat]? = none := by simp [el]
    rw [none]
    show wpAny _ _ (reprEnd (.ref P)) _ _ s
    unfold reprEnd; refine wpAny_bind (wpAny_listItems hP rfl ?_)
    rw [hacc, repr_fold]
    have all : done.map (·.1) = ts := by rw [hdone, ← len, List.take_length]
    rw [all]; refine wpAny_bind (wpAny_pure (wpAny_bind (wpAny_mkStr (wpAny_pure ?_) (by show (listText ts).length ≤ sizeLine; omega))))
    exact hR _ _ (ClX.unpin (I.tok _))
  | succ n ih =>
    intro i s acc c done hk hi I hacc hdone
    have lt : i < qs.length := by omega
    have hP := I.pin (P, plob acc c) (List.mem_append_right _ List.mem_cons_self)
    obtain ⟨_, its, n0, rv, el, ho⟩ := I.lstM hl
    rw [List.length_map] at el
    obtain ⟨q, hq⟩ : ∃ q, qs[i]? = some q := ⟨_, List.getElem?_eq_getElem lt⟩
    obtain ⟨t, ht⟩ : ∃ t, ts[i]? = some t := ⟨_, List.getElem?_eq_getElem (by omega)⟩
    obtain ⟨⟨dx, fs, eq⟩, tell⟩ := T.2 i q t hq ht
    have hit : its[i]? = some (.ref q) := by
      obtain ⟨u, hu, ru⟩ := rv.get (i := i) (x := V.ref q) (by rw [List.getElem?_map, hq]; rfl)
      cases ru
      exact hu
    have tl := fl.2.1 t (List.mem_of_getElem? ht)
    have p1 := piled_take_succ ht
    have p2 := piled_take_le ts (i + 1)
    refine codeAny_builtin PySem.F.entry_list_repr_loop ?_
    show wpAny _ _ (Builtin.«list.__repr__.loop» _) _ _ s
    unfold rawInt; rw [repr_loop_tree]; refine wpAny_bind (wpAny_listItems ho rfl ?_)
    have some_ : its.toArray[((i : Nat) : Int).toNat]? = some (.ref q) := by simp [hit]
    rw [some_]
    obtain ⟨od, J⟩ := inst_of I eq
    have sb2 : L2.Sub X k (A.under (loopC [.ref l, rawInt i, .ref P, rawInt ((b + piled (ts.take i) : Nat) : Int)])) := loop_room sb
    have un : (A.under (loopC [.ref l, rawInt i, .ref P, rawInt ((b + piled (ts.take i) : Nat) : Int)])).units < cLine := by have := sb2.room.un; omega
    refine wpAny_bind (wpAny_holding (under_own (by simp; omega) un I.kIn J S.at_ S.fn (wpAny_mono (run_at sb2 G hb at0 I self1 (tell (fun v H' => v = .str t ∧ H' = H) ⟨rfl, rfl⟩)) (fun u s1 z => ?_) fun e s1 z => hE e s1 z)))
    obtain ⟨v, H1, I1, r1, rfl, rfl⟩ := z
    obtain ⟨tk, rfl⟩ := r1
    refine ⟨t, tk, rfl, ?_⟩
    have few2 : acc.size ≤ sizeLine := by
      have e1 : acc.toList.length = acc.size := by simp
      have e2 : (strValues done).length = done.length := by simp [strValues]
      have e3 : done.length = (ts.take i).length := by rw [← hdone, List.length_map]
      have e4 : (ts.take i).length ≤ i := by rw [List.length_take]; omega
      rw [hacc] at e1
      omega
    have hP1 := I1.pin (P, plob acc c) (List.mem_append_right _ List.mem_cons_self)
    refine wpAny_bind (wpAny_mkStr (wpAny_bind ?_) (by omega))
    show wpAny _ _ (updateSeq P _) _ _ _
    refine wpAny_updateSeq hP1.1 rfl (wpAny_pure ⟨PySem.F.quiet_list_repr_loop _, ?_⟩) few2
    have c1 : ((i : Int) + 1) = ((i + 1 : Nat) : Int) := by omega
    have c2 : ((b + piled (ts.take i) : Nat) : Int).toNat + (t.length + 2) = b + piled (ts.take (i + 1)) := by simp; omega
    have cells : ∀ x c', X.env.cells.lookup x = some c' → c' ≠ P := fun x c' e z => by
      obtain ⟨v', q'⟩ := I1.cell x c' e
      obtain ⟨o', ho', hd'⟩ := q'
      rw [z, hP1.1] at ho'
      cases ho'
      exact hP1.2.2.2.2 v' hd'
    have hs0 := I1.tok (s1.toks + 1)
    have self : ∀ o, (Obj.mapSeq (·.push (.str t s1.toks)) (plob acc c)) = o → (s1.heap.update P (Obj.mapSeq (·.push (.str t s1.toks)))).get? P = some o := fun o e => by rw [← e]; exact Heap.get?_update_self _ hP1.1 rfl
    have I2 : L2.Inv X pins σ H1 { s1 with heap := s1.heap.update P (Obj.mapSeq (·.push (.str t s1.toks))), toks := s1.toks + 1 } :=
      (ClX.unpin I1).turned (it := P) (fun b o hb e => (Heap.get?_update_other _ _ (Ne.symm hb)).trans e) hP1.2.1 hP1.2.2.1 h1 cells np
    have I3 : L2.Inv X ((P, plob (acc.push (.str t s1.toks)) _) :: pins) σ H1 { s1 with heap := s1.heap.update P (Obj.mapSeq (·.push (.str t s1.toks))), toks := s1.toks + 1 } := I2.pins_of fun p hp => by
      rcases List.mem_cons.mp hp with rfl | hp
      · exact ⟨self _ rfl, hP1.2.1, hP1.2.2.1, hP1.2.2.2.1, fun v z => nomatch z⟩
      · exact I2.pin p (List.mem_append_right _ hp)
    have go := ih (i + 1) _ _ _ (done ++ [(t, s1.toks)]) (by omega) lt I3 (by simp [hacc, strValues]) (by simp [List.take_add_one, ht, hdone])
    show codeAny _ A (.builtin "list.__repr__.loop" ⟨[_, rawInt ((i : Int) + 1), _, rawInt ((((b + piled (ts.take i) : Nat) : Int).toNat + (t.length + 2) : Nat) : Int)], []⟩) R _
    rw [c1, c2]
    exact go
/-- repr of a list of instances of C, each with its text -/
def rReprs (C : Addr) (sp : Sp) : List V → Hp → VK → Prop := fun xs H Q => ∃ (l : Addr) (qs : List Addr) (ts : List Str), xs = [.ref l] ∧ H l = some (.lst (qs.map V.ref)) ∧ Tells C sp H qs ts ∧ (listText ts).length ≤ sizeLine ∧ Q (.str (listText ts)) H
theorem call_reprs (gg : GG X.A) (S : Spc X.K C "__repr__" f) (G : FnOk X.prog X.w X.K X.mg X.base CX0 k f fd ps sp) (hr : Room (k + 2) X.A) (hb : Binds X.K fd ps []) : CallR X (.builtin "repr") (rReprs C sp) := by
  rintro pins s σ H xs us Q I r ⟨l, qs, ts, rfl, hl, T, sz, q⟩
  obtain rfl := Vals.ref1 r
  obtain ⟨_, its, n0, rv, el, ho⟩ := I.lstM hl
  rw [List.length_map] at el
  have sb : L2.Sub X (k + 1) X.A.in1 := (sub_self (k := k + 2) hr).in1
  have un := hr.un
  have ty : s.TypeIs (.ref l) "list" := ⟨_, ho, rfl⟩
  refine call_repr_slot (by omega) ty PySem.F.slot_list_repr.toG ?_
  have len := T.1
  cases its with
  | nil =>
    have e : ts = [] := List.length_eq_zero_iff.mp (by have z : qs.length = 0 := el; omega)
    subst e
    refine call_list_repr_empty ty ho rfl ⟨_, _, rfl, .str _, H, I.tok _, ⟨_, rfl⟩, ?_⟩
    rw [← listText_nil]
    exact q
  | cons x its =>
    refine wpAny_call (codeAny_call_builtin PySem.F.slot_list_repr.plain PySem.F.entry_list_repr (PySem.F.slot_list_repr.check _ _ _ _ _ _ _ _ ty (PySem.F.args_list_repr_1 _) ?_))
    refine wpAny_list_repr_head (A := X.A.in1.in1) (g := []) (b := 0) (by exact gg) (fun _ _ _ z => nomatch z) ho rfl ?_
    refine wpAny_bind (m := newList []) (wpAny_newObj_type (wpAny_pure ⟨PySem.F.quiet_list_repr_loop _, ?_⟩))
    have big : ∀ {p : Addr × Obj}, p ∈ X.pn ++ pins → p.1 ≠ s.heap.objs.size := fun {p} hp z => absurd (Heap.lt_size (I.pin p hp).1) (by rw [z]; exact Nat.lt_irrefl _)
    refine cast (congrArg (fun z : Nat => codeAny (model X.prog X.w) X.A.in1 (loopC [.ref l, rawInt 0, .ref s.heap.objs.size, rawInt (z : Int)]) _ _) (show 0 + piled (ts.take 0) = 0 by simp [piled])) ?_
    refine reprs_loop (P := s.heap.objs.size) (b := 0) S G hb sb hl T (by omega) (fun p hp => big hp) (.inr (Nat.le_trans I.sz (Nat.le_refl _))) (fun u s' I' => ⟨_, _, rfl, .str _, H, I', ⟨_, rfl⟩, q⟩) (fun e s' z => z) qs.length 0 _ #[] 0 [] (by omega) (by omega) ?_ rfl (by simp)
    have ne : ∀ {p : Addr × Obj}, p ∈ X.pn ++ pins → p.1 ≠ s.heap.objs.size := big
    refine Inv.pins_of (pins := pins) (I.kept (t' := s.toks) (fun b u e => Heap.get?_push_of_some _ e)) fun p hp => ?_
    rcases List.mem_cons.mp hp with rfl | hp
    · exact ⟨Heap.get?_push_size _ rfl, I.hok.fresh (Nat.le_refl _), Nat.ne_of_gt I.lt, I.nofs (Nat.le_refl _), fun v z => nomatch z⟩
    · obtain ⟨a1, a2⟩ := I.pin p (List.mem_append_right _ hp)
      exact ⟨Heap.get?_push_of_some _ a1, a2⟩
/-! ### len(x), x[i] by own methods -/
theorem call_lenO (S : Spc X.K C "__len__" f) (G : FnOk X.prog X.w X.K X.mg X.base CX0 k f fd ps sp) (hr : Room (k + 1) X.A) (hb : Binds X.K fd ps []) :
    CallR X (.builtin "len") (rc1O C sp E0 fun v => ∃ n : Nat, v = .int n ∧ n < 2 ^ 62) := by
  rintro pins s σ H xs us Q I r ⟨a, dx, fs, rfl, ea, q⟩
  obtain rfl := Vals.ref1 r
  obtain ⟨od, J⟩ := inst_of I ea
  obtain ⟨m, fr⟩ := I.fr
  refine PySem.W.len_K fr I.ok.mod.kin J S.at_ S.fn (thn (run_at (sub_self hr).in1 G hb at0 I self1 q) fun u s' z => ?_)
  obtain ⟨v, H', I', r', ⟨n, rfl, hn⟩, q'⟩ := z
  obtain ⟨t, rfl⟩ := r'
  exact ⟨⟨by omega, by omega⟩, .int n, H', I'.tok _, ⟨_, rfl⟩, q'⟩
def tIxO (C : Addr) (sp : Sp) (ta tb : TE) : TE := fun σ H Q => ta σ H fun x H1 => tb σ H1 fun y H2 => ∃ a dx fs, x = .ref a ∧ H2 a = some (.ins C dx fs) ∧ sp [x, y] H2 Q E0
theorem pe_ixO {a b : Expr} {ta tb : TE} {pos : Pos} (S : Spc X.K C "__getitem__" f) (hf : PySem.W.fnIn X.K f = true) (G : FnOk X.prog X.w X.K X.mg X.base CX0 k f fd ps sp) (hr : Room (k + 1) X.A) (hb : Binds X.K fd ps []) (ha : PE X a ta) (hb2 : PE X b tb)
    (hs : ∀ o i, subscripted b true o i = runValue (.builtin "lifetime.subscript" ⟨[o, i], []⟩) := by exact fun _ _ => rfl) : PE X (.Subscript a b pos) (tIxO C sp ta tb) := by
  refine ⟨fun pins s σ H Q I h => Subscript_ (binT ha hb2 I h fun v u s2 x y H2 I2 rx ry q => ?_)⟩
  obtain ⟨p, dx, fs, rfl, ep, q⟩ := q
  obtain rfl : v = Value.ref p := rx
  obtain ⟨od, J⟩ := inst_of I2 ep
  obtain ⟨m, fr⟩ := I2.fr
  exact PySem.W.sub_K fr I2.ok.mod.kin J S.at_ hf S.fn (run_at (sub_self hr).in1 G hb at0 I2 (show Vals [V.ref p, y] [Value.ref p, u] from .cons rfl (.cons ry .nil)) q) (hs _ _)
end
/-! ### tuples of own instances compared -/
section
variable {X : Cx} {k : Nat} {C f fe fl : Addr} {fd fde fdl : FuncData} {ps pse psl : List Str} {sp spe spl : Sp} {pins : List (Addr × Obj)} {σ : L2.St} {H : Hp} {A : Around} {s : Shared}
/-- a == b as the sequences ask it: the same object, or the own == -/
def eqc (sp : Sp) (a b : Addr) (H : Hp) (R : Bool → Hp → Prop) : Prop := (a = b → R true H) ∧ (a ≠ b → sp [.ref a, .ref b] H (fun v H' => ∃ k, v = .bl k ∧ R k H') E0)
theorem cmp_sub {op : CmpOp} {a b dx dy : Addr} {fs gs : List (Str × V)} {Q : VK} (S : Spc X.K C (cmpInfo op).2.1 f) (G : FnOk X.prog X.w X.K X.mg X.base CX0 k f fd ps sp) (hb : Binds X.K fd ps []) (sb : L2.Sub X k A) (I : L2.Inv X pins σ H s) (ea : H a = some (.ins C dx fs)) (eb : H b = some (.ins C dy gs))
    (q : sp [.ref a, .ref b] H Q E0) : wpAny (model X.prog X.w) A (richCompare op (.ref a) (.ref b)) (EP X pins σ Q) X.xe s := by
  obtain ⟨od, J⟩ := inst_of I ea
  obtain ⟨od', J'⟩ := inst_of I eb
  obtain ⟨m, fr⟩ := I.fr
  have hu : A.units < cLine := by have := sb.room.un; omega
  exact PySem.W.cmp_K hu fr I.ok.mod.kin J J'.type (by unfold PySem.W.notFirst; simp) S.at_ S.fn (thn (run_at sb G hb at0 I (show Vals [V.ref a, V.ref b] [Value.ref a, Value.ref b] from .cons rfl (.cons rfl .nil)) q) fun u' s' z => rel_back z)
theorem eqb_own {a b dx dy : Addr} {fs gs : List (Str × V)} {R : Bool → Hp → Prop} (S : Spc X.K C "__eq__" f) (G : FnOk X.prog X.w X.K X.mg X.base CX0 k f fd ps sp) (hb : Binds X.K fd ps []) (sb : L2.Sub X k A) (I : L2.Inv X pins σ H s) (ea : H a = some (.ins C dx fs)) (eb : H b = some (.ins C dy gs))
    (q : eqc sp a b H R) : wpAny (model X.prog X.w) A (eqBool (.ref a) (.ref b)) (fun r s' => ∃ H', L2.Inv X pins σ H' s' ∧ R r H') X.xe s := by
  unfold eqBool
  refine wpAny_holding ?_
  by_cases e : a = b
  · subst e
    rw [if_pos (beq_self_eq_true _)]
    have go : wpAny (model X.prog X.w) A (pure true) (fun r s' => ∃ H', L2.Inv X pins σ H' s' ∧ R r H') X.xe s := wpAny_pure ⟨H, I, q.1 rfl⟩
    first
      | exact go
      | exact wpAny_bind (wpAny_pure go)
  · rw [if_neg (by simp [e])]
    show wpAny _ _ (richCompare .Eq (.ref a) (.ref b) >>= truthOfDropped) _ _ _
    refine wpAny_bind (thn (cmp_sub (op := .Eq) S G hb sb I ea eb (q.2 e)) fun u s' z => ?_)
    obtain ⟨v, H', I', r', ⟨kk, rfl, q'⟩⟩ := z
    cases r'
    exact wpAny_truthy_bool ⟨H', I', q'⟩
/-- t < u for pairs of instances of C -/
def rLtP (K : PySem.W.Frag) (C : Addr) (spe spl : Sp) : R2 := fun x y H Q => ∃ (t u a1 b1 a2 b2 : Addr), x = .ref t ∧ y = .ref u ∧ SqT K H t [.ref a1, .ref b1] ∧ SqT K H u [.ref a2, .ref b2] ∧ (∃ dx fs, H a1 = some (.ins C dx fs)) ∧ (∃ dx fs, H a2 = some (.ins C dx fs)) ∧
  eqc spe a1 a2 H fun k1 H1 => if k1 = true then (∃ dx fs, H1 b1 = some (.ins C dx fs)) ∧ (∃ dx fs, H1 b2 = some (.ins C dx fs)) ∧ eqc spe b1 b2 H1 (fun k2 H2 => if k2 = true then Q (.bl false) H2 else (∃ dx fs, H2 b1 = some (.ins C dx fs)) ∧ (∃ dx fs, H2 b2 = some (.ins C dx fs)) ∧ spl [.ref b1, .ref b2] H2 (fun v H3 => (∃ r, v = .bl r) ∧ Q v H3) E0)
    else (∃ dx fs, H1 a1 = some (.ins C dx fs)) ∧ (∃ dx fs, H1 a2 = some (.ins C dx fs)) ∧ spl [.ref a1, .ref a2] H1 (fun v H3 => (∃ r, v = .bl r) ∧ Q v H3) E0
theorem op_ltP (Se : Spc X.K C "__eq__" fe) (Ge : FnOk X.prog X.w X.K X.mg X.base CX0 k fe fde pse spe) (hbe : Binds X.K fde pse []) (Sl : Spc X.K C "__lt__" fl) (Gl' : FnOk X.prog X.w X.K X.mg X.base CX0 k fl fdl psl spl) (hbl : Binds X.K fdl psl []) (hr : Room (k + 1) X.A) :
    OpR X (compareOp .Lt) (rLtP X.K C spe spl) := by
  rintro pins s σ H x y v u Q I rx ry ⟨t, t', a1, b1, a2, b2, rfl, rfl, h1, h2, ⟨dx1, fs1, e1⟩, ⟨dx2, fs2, e2⟩, q⟩
  cases rx
  cases ry
  obtain ⟨its, r1, p1, _⟩ := I.tuple h1
  obtain ⟨its2, r2, p2, _⟩ := I.tuple h2
  obtain ⟨u1, u2, rfl, ra1, rb1⟩ := vals2 r1
  obtain ⟨w1, w2, rfl, ra2, rb2⟩ := vals2 r2
  cases ra1; cases rb1; cases ra2; cases rb2
  obtain ⟨⟨cls, dd, data, sl⟩, ho, hc, n, hd⟩ := id p1
  obtain ⟨⟨cls2, dd2, data2, sl2⟩, ho2, hc2, n2, hd2⟩ := id p2
  simp only at hc hd hc2 hd2
  subst hc hd hc2 hd2
  have ty1 : s.TypeIs (.ref t) "tuple" := ⟨_, ho, rfl⟩
  have ty2 : s.TypeIs (.ref t') "tuple" := ⟨_, ho2, rfl⟩
  have sb : L2.Sub X k X.A.in1 := (sub_self hr).in1
  refine wpAny_richCompare_same_room (op := .Lt) ty1 ty2 PySem.F.slot_tuple_lt (wpAny_call (codeAny_call_builtin PySem.F.slot_tuple_lt.plain PySem.F.entry_tuple_lt (PySem.F.slot_tuple_lt.check _ _ _ _ _ _ _ _ ty1 (PySem.F.args_tuple_lt_2 _ _) ?_))) (by have := hr.un; omega)
  have f2 := AutoSeq1.sub_tuple_tuple
  have ask : ∀ {a b dx dy : Addr} {fs gs : List (Str × V)} {H0 : Hp} {s0 : Shared} {R : Bool → Hp → Prop} {Q' : Bool → Shared → Prop} {E' : Value → Shared → Prop}, L2.Inv X pins σ H0 s0 → H0 a = some (.ins C dx fs) → H0 b = some (.ins C dy gs) → eqc spe a b H0 R →
      (∀ e s', X.xe e s' → E' e s') → (∀ r s', (∃ H', L2.Inv X pins σ H' s' ∧ R r H') → Q' r s') → wpAny (model X.prog X.w) X.A.in1 (eqBool (.ref a) (.ref b)) Q' E' s0 := fun I ea eb q he h => wpAny_mono (eqb_own Se Ge hbe sb I ea eb q) h he
  have less : ∀ {a b dx dy : Addr} {fs gs : List (Str × V)} {H0 : Hp} {s0 : Shared} {Q' : Value → Shared → Prop} {E' : Value → Shared → Prop}, L2.Inv X pins σ H0 s0 → H0 a = some (.ins C dx fs) → H0 b = some (.ins C dy gs) → spl [.ref a, .ref b] H0 (fun v H3 => (∃ r, v = .bl r) ∧ Q v H3) E0 →
      (∀ e s', X.xe e s' → E' e s') → (∀ r s', (∃ k, r = .bool k ∧ EP X pins σ Q r s') → Q' r s') → wpAny (model X.prog X.w) X.A.in1 (richCompare .Lt (.ref a) (.ref b)) Q' E' s0 := fun I ea eb q he h => wpAny_mono (cmp_sub (op := .Lt) Sl Gl' hbl sb I ea eb q) (fun r s' z => by
        obtain ⟨v, H', I', r', ⟨kk, rfl⟩, q'⟩ := z
        cases r'
        exact h _ _ ⟨kk, rfl, .bl kk, H', I', rfl, q'⟩) he
  obtain ⟨hp, g, d, tk, os⟩ := s
  wp_walk using AutoSeq1.wpAny_loadPart' ho, AutoSeq1.wpAny_loadPart' ho2, ask I e1 e2 q (fun _ _ z => z)
  rintro r ⟨hp1, g1, d1, tk1, os1⟩ ⟨H1, I1, q1⟩
  cases r with
  | false =>
    obtain ⟨⟨_, _, f1⟩, ⟨_, _, f2'⟩, q1⟩ := q1
    wp_walk using less I1 f1 f2' q1 (fun _ _ z => z)
    rintro r ⟨hp2, g2, d2, tk2, os2⟩ ⟨kk, rfl, z⟩
    wp_walk
    show Value.bool kk ≠ Value.notImplemented ∧ EP X pins σ Q (.bool kk) _
    exact ⟨fun z => (nomatch z), z⟩
  | true =>
    obtain ⟨⟨_, _, f1⟩, ⟨_, _, f2'⟩, q1⟩ := q1
    wp_walk using ask I1 f1 f2' q1 (fun _ _ z => z)
    rintro r ⟨hp2, g2, d2, tk2, os2⟩ ⟨H2, I2, q2⟩
    cases r with
    | false =>
      obtain ⟨⟨_, _, f3⟩, ⟨_, _, f4⟩, q2⟩ := q2
      wp_walk using less I2 f3 f4 q2 (fun _ _ z => z)
      rintro r ⟨hp3, g3, d3, tk3, os3⟩ ⟨kk, rfl, z⟩
      wp_walk
      show Value.bool kk ≠ Value.notImplemented ∧ EP X pins σ Q (.bool kk) _
      exact ⟨fun z => (nomatch z), z⟩
    | true =>
      wp_walk
      show Value.bool false ≠ Value.notImplemented ∧ EP X pins σ Q (.bool false) _
      exact ⟨fun z => (nomatch z), V.bl false, H2, I2, rfl, q2⟩
end
end Pm

/-! PmLcm: math.lcm of two and three whole numbers; enumerate over a tuple. -/
namespace PmL
open PySem PySem.Calls PySem.W
theorem args_lcm3 (a b c : Value) : argsOk "math.lcm" ⟨[a, b, c], []⟩ := by unfold argsOk; kernel_rfl
theorem run_lcm3 (a : Int) (t : Tok) (b : Int) (u : Tok) (c : Int) (v : Tok) (hc0 : ¬(max 1 a.natAbs).log2 / 30 + 1 > 450) (hc1 : ¬(max a.natAbs b.natAbs).log2 / 30 + 1 > 450) (hc2 : ¬(max (a.natAbs.lcm b.natAbs) c.natAbs).log2 / 30 + 1 > 450)
    (hsz : (((((Nat.lcm 1 a.natAbs).lcm b.natAbs).lcm c.natAbs : Nat) : Int)).natAbs.log2 < bitsLine := by size_fits) :
    Gives (Builtin.«math.lcm» ⟨[.int a t, .int b u, .int c v], []⟩) (.int (((((Nat.lcm 1 a.natAbs).lcm b.natAbs).lcm c.natAbs : Nat) : Int))) :=
  .of_wp fun M A E s Q h => by obtain ⟨hp, g, d, tk, os⟩ := s; wp_walk; (try (refine wpAny_ite_false (decide_eq_false (Nat.not_le.mpr hsz)) ?_; wp_walk)); exact ⟨_, rfl, h⟩
end PmL
namespace Pm
open PySem PySem.Spec PyProof.Rows L2
section
variable {X : Cx}
def Lz (n : Nat) : Prop := n < 2 ^ 12000
theorem Lz.log {n : Nat} (h : Lz n) : n.log2 < 12000 := by
  unfold Lz at h
  by_cases h0 : n = 0
  · subst h0; rw [Nat.log2_zero]; decide
  · exact (Nat.log2_lt h0).mpr h
/-- what divides Z, and is reached by its parts -/
def rLcm3 : List V → Hp → VK → Prop := fun vs H Q => ∃ a b c Z : Int, vs = [.int a, .int b, .int c] ∧ 0 < a ∧ 0 < b ∧ 0 < c ∧ a ∣ Z ∧ b ∣ Z ∧ c ∣ Z ∧ 0 < Z ∧ Lz Z.natAbs ∧ ∀ R : Int, 0 < R → R ∣ Z → a ∣ R → b ∣ R → c ∣ R → Q (.int R) H
def rLcm2 : List V → Hp → VK → Prop := fun vs H Q => ∃ a b Z : Int, vs = [.int a, .int b] ∧ 0 < a ∧ 0 < b ∧ a ∣ Z ∧ b ∣ Z ∧ 0 < Z ∧ Lz Z.natAbs ∧ ∀ R : Int, 0 < R → R ∣ Z → a ∣ R → b ∣ R → Q (.int R) H
theorem log_450 {n : Nat} (h : Lz n) : ¬ n.log2 / 30 + 1 > 450 := by
  have := h.log
  omega
theorem lcm_facts {a b Z : Int} (ha : 0 < a) (hb : 0 < b) (da : a ∣ Z) (db : b ∣ Z) (hz : 0 < Z) : 0 < a.natAbs.lcm b.natAbs ∧ a.natAbs.lcm b.natAbs ∣ Z.natAbs ∧ a.natAbs ∣ a.natAbs.lcm b.natAbs ∧ b.natAbs ∣ a.natAbs.lcm b.natAbs :=
  ⟨Nat.lcm_pos (by omega) (by omega), Nat.lcm_dvd (Int.natAbs_dvd_natAbs.mpr da) (Int.natAbs_dvd_natAbs.mpr db), Nat.dvd_lcm_left _ _, Nat.dvd_lcm_right _ _⟩
theorem cr_lcm3 : CallR X (.builtin "math.lcm") rLcm3 := by
  intro pins s σ H vs us Q I r h
  obtain ⟨a, b, c, Z, rfl, a0, b0, c0, da, db, dc, z0, hz, q⟩ := h
  obtain ⟨t, u, v, rfl⟩ : ∃ t u v, us = [.int a t, .int b u, .int c v] := by
    cases r with
    | cons r1 r =>
      cases r with
      | cons r2 r =>
        cases r with
        | cons r3 r =>
          cases r
          obtain ⟨t, rfl⟩ := r1
          obtain ⟨u, rfl⟩ := r2
          obtain ⟨v, rfl⟩ := r3
          exact ⟨t, u, v, rfl⟩
  obtain ⟨p1, p2, p3, p4⟩ := lcm_facts a0 b0 da db z0
  have e1 : Nat.lcm 1 a.natAbs = a.natAbs := by simp [Nat.lcm]
  have q1 : (a.natAbs.lcm b.natAbs).lcm c.natAbs ∣ Z.natAbs := Nat.lcm_dvd p2 (Int.natAbs_dvd_natAbs.mpr dc)
  have q0 : 0 < (a.natAbs.lcm b.natAbs).lcm c.natAbs := Nat.lcm_pos p1 (by omega)
  have lz : ∀ {n : Nat}, n ∣ Z.natAbs → Lz n := fun {n} h => Nat.lt_of_le_of_lt (Nat.le_of_dvd (by omega) h) hz
  have ma : Lz a.natAbs := lz (Int.natAbs_dvd_natAbs.mpr da)
  have mb : Lz b.natAbs := lz (Int.natAbs_dvd_natAbs.mpr db)
  have mc : Lz c.natAbs := lz (Int.natAbs_dvd_natAbs.mpr dc)
  have mx : ∀ {n m : Nat}, Lz n → Lz m → Lz (max n m) := fun {n m} h1 h2 => by
    rcases Nat.le_total n m with h | h
    · rw [Nat.max_eq_right h]; exact h2
    · rw [Nat.max_eq_left h]; exact h1
  have one : Lz 1 := Nat.one_lt_two_pow (by omega)
  have hs : (((((Nat.lcm 1 a.natAbs).lcm b.natAbs).lcm c.natAbs : Nat) : Int)).natAbs.log2 < bitsLine := by
    rw [e1, Int.natAbs_natCast]
    have := (lz q1).log
    have e : bitsLine = 134217728 := by decide
    omega
  refine PySem.call_function_meets PySem.W.MGF.kind_lcm PySem.W.MGF.plain_lcm PySem.W.MGF.entry_lcm (PmL.args_lcm3 _ _ _) (PmL.run_lcm3 a t b u c v (log_450 (mx one ma)) (log_450 (mx ma mb)) (log_450 (mx (lz p2) mc)) hs).meets ?_
  rw [e1]
  refine ⟨.int _, H, I.tok _, ⟨_, rfl⟩, q _ (by omega) ?_ ?_ ?_ ?_⟩
  · exact Int.natAbs_dvd_natAbs.mp (by rw [Int.natAbs_natCast]; exact q1)
  · exact Int.natAbs_dvd_natAbs.mp (by rw [Int.natAbs_natCast]; exact Nat.dvd_trans p3 (Nat.dvd_lcm_left _ _))
  · exact Int.natAbs_dvd_natAbs.mp (by rw [Int.natAbs_natCast]; exact Nat.dvd_trans p4 (Nat.dvd_lcm_left _ _))
  · exact Int.natAbs_dvd_natAbs.mp (by rw [Int.natAbs_natCast]; exact Nat.dvd_lcm_right _ _)
theorem cr_lcm2 : CallR X (.builtin "math.lcm") rLcm2 := by
  intro pins s σ H vs us Q I r h
  obtain ⟨a, b, Z, rfl, a0, b0, da, db, z0, hz, q⟩ := h
  obtain ⟨t, u, rfl⟩ := Vals.int2 r
  obtain ⟨p1, p2, p3, p4⟩ := lcm_facts a0 b0 da db z0
  have e1 : Nat.lcm 1 a.natAbs = a.natAbs := by simp [Nat.lcm]
  have lz : ∀ {n : Nat}, n ∣ Z.natAbs → Lz n := fun {n} h => Nat.lt_of_le_of_lt (Nat.le_of_dvd (by omega) h) hz
  have ma : Lz a.natAbs := lz (Int.natAbs_dvd_natAbs.mpr da)
  have mb : Lz b.natAbs := lz (Int.natAbs_dvd_natAbs.mpr db)
  have mx : ∀ {n m : Nat}, Lz n → Lz m → Lz (max n m) := fun {n m} h1 h2 => by
    rcases Nat.le_total n m with h | h
    · rw [Nat.max_eq_right h]; exact h2
    · rw [Nat.max_eq_left h]; exact h1
  have one : Lz 1 := Nat.one_lt_two_pow (by omega)
  have hs : ((((Nat.lcm 1 a.natAbs).lcm b.natAbs : Nat) : Int)).natAbs.log2 < bitsLine := by
    rw [e1, Int.natAbs_natCast]
    have := (lz p2).log
    have e : bitsLine = 134217728 := by decide
    omega
  refine PySem.call_function_meets PySem.W.MGF.kind_lcm PySem.W.MGF.plain_lcm PySem.W.MGF.entry_lcm (PySem.W.MGF.args_lcm _ _) (PySem.W.mg_run_lcm a t b u (log_450 (mx one ma)) (log_450 (mx ma mb)) hs).meets ?_
  rw [e1]
  refine ⟨.int _, H, I.tok _, ⟨_, rfl⟩, q _ (by omega) ?_ ?_ ?_⟩
  · exact Int.natAbs_dvd_natAbs.mp (by rw [Int.natAbs_natCast]; exact p2)
  · exact Int.natAbs_dvd_natAbs.mp (by rw [Int.natAbs_natCast]; exact p3)
  · exact Int.natAbs_dvd_natAbs.mp (by rw [Int.natAbs_natCast]; exact p4)
end
/-! f(e, ..), a def with defaults -/
section
variable {X : Cx} {CX : CXT} {k n : Nat} {f : Addr} {fd : FuncData} {ps : List Str} {sp : Sp} {E : L2.St → XK} {x : Str} {p pos : Pos} {e : Expr} {es : List Expr} {t : TA} {g : List Value → List Value → List Value} {gV : List V → List V → List V}
def tFk (n : Nat) (sp : Sp) (gV : List V → List V → List V) (E : L2.St → XK) (t : TA) : TE := fun σ H Q => t σ H fun vs H1 => vs.length = n ∧ sp (gV vs []) H1 Q (E σ)
theorem pe_fP (F : FnOk X.prog X.w X.K X.mg X.base CX k f fd ps sp) (hr : Room k X.A) (hg : Gl X x) (hm : X.mg x = some (.ref f)) (hk : PySem.W.keepIn X.K (.ref f) = true) (hb : KBn X.K fd ps n [] g gV) (hx : ∀ σ, PassesAt CX X σ (E σ)) (ha : PA X (e :: es) t)
    (hdb : (x == ("__debug__" : Str)) = false := by decide) (he : starEach (e :: es) X.env = (false, eval e X.env) :: starEach es X.env := by rfl) (hpl : (backTo pos (starEach es X.env)).any (·.1) = false := by rfl) :
    PE X (.Call (.Name x p) (e :: es) [] pos) (tFk n sp gV E t) := by
  refine ⟨fun pins s σ H Q I h => wpAny_Call_Name_kw (ld_glob I hg hm ?_ hdb)⟩
  refine PySem.W.callWith_K (h₀ := X.base) I.ok.mod.kin hk (thn (ha.run pos pins s σ H _ I h) fun us s1 ⟨vs, H1, I1, r, l1, q⟩ => ⟨I1.kIn, ?_⟩) he hpl
  exact run_kb (ks := []) (ws := []) (zs := []) F hr hb hx I1 r .nil l1 rfl q
end
end Pm

/-! PmTup: enumerate over a tuple. -/
namespace PmL
open PySem PySem.Calls PySem.W
set_option maxHeartbeats 4000000 in
theorem enum_new1 {v : Value} {o : Obj} {H : Heap → Prop} (B : Begins v o H) :
    Meets (Builtin.«enumerate.__new__» ⟨[.type "enumerate", v], []⟩) (fun _ R s => H s.heap ∧
      R (.ok (.ret (.ref (s.heap.push o).objs.size))) { s with heap := (s.heap.push o).push { cls := .type "enumerate", data := .fields #[.none, .bool false, .ref s.heap.objs.size, rawInt 0, .none, .none] } }) :=
  .of_wp fun prog w A R s h => by
    obtain ⟨hp, g, d, tk, os⟩ := s; obtain ⟨h1, h⟩ := h
    have subE := sub_enumerate
    have itv : ∀ {A' : Around} {E : Value → Shared → Prop} {Q : Value → Shared → Prop}, Q (.ref hp.objs.size) ⟨hp.push o, g, d, tk, os⟩ → wpAny (model prog w) A' (pyIter v) Q E ⟨hp, g, d, tk, os⟩ :=
      fun q => B.iter prog w _ _ ⟨hp, g, d, tk, os⟩ _ h1 q
    wp_walk using itv
    refine wpAny_stack_any fun sta => wpAny_pure ?_
    split
    · rename_i c _ _ _ _ _
      cases (c == Value.type "enumerate")
      · wp_walk using itv
        exact ⟨_, rfl, h⟩
      · wp_walk using itv
        exact ⟨_, rfl, h⟩
    · wp_walk using itv
      exact ⟨_, rfl, h⟩
theorem enum_call1 {prog : Program} {w : World} {A : Around} {E : Value → Shared → Prop} {s : Shared} {v : Value} {o : Obj} {H : Heap → Prop} {Q : Value → Shared → Prop} (B : Begins v o H) (h1 : H s.heap)
    (h : ∀ h', IsEnum h' (s.heap.objs.size + 1) s.heap.objs.size 0 .none → h'.get? s.heap.objs.size = some o → h'.objs.size = s.heap.objs.size + 2 →
      (∀ b o, s.heap.get? b = some o → h'.get? b = some o) → Q (.ref (s.heap.objs.size + 1)) { s with heap := h' }) :
    wpAny (model prog w) A (call (.type "enumerate") [v]) Q E s := by
  refine callType_new (F.called_enumerate) (by decide) (F.typeCall_enumerate_1 _) (F.newCall_enumerate_1 _) (fun obj => F.args_object_init_2 obj _) F.entry_enumerate_new
    (enum_new1 B) ⟨h1, ?_⟩
  have siz : (s.heap.push o).objs.size = s.heap.objs.size + 1 := Heap.size_push ..
  show _ ∧ _
  rw [siz]
  have enm : IsEnum ((s.heap.push o).push { cls := .type "enumerate", data := .fields #[.none, .bool false, .ref s.heap.objs.size, rawInt 0, .none, .none] }) (s.heap.objs.size + 1) s.heap.objs.size 0 .none := by
    have := Heap.get?_push_size (s.heap.push o) (o := { cls := .type "enumerate", data := .fields #[.none, .bool false, .ref s.heap.objs.size, rawInt 0, .none, .none] }) rfl
    rw [siz] at this; exact this
  refine ⟨⟨_, enm, rfl⟩, h _ enm (Heap.get?_push_of_some _ (Heap.get?_push_size _ B.free)) (by rw [Heap.size_push, siz]) fun b o x => Heap.get?_push_of_some _ (Heap.get?_push_of_some _ x)⟩
theorem enum_end {prog : Program} {w : World} {A : Around} {E : Value → Shared → Prop} {s : Shared} {e it t : Addr} {items : Array Value} {i : Nat} {c : Int} {was : Value} {Q : Option Value → Shared → Prop}
    (hnd : A.in1.handled = none) (enm : IsEnum s.heap e it c was) (itr : s.heap.IsTupleIter it t i) (ht : s.heap.IsTuple t items) (hat : items[i]? = none)
    (wish : ∀ h', Heap.ExtBut it s.heap h' → Q none { s with heap := h' }) : wpAny (model prog w) A (pyNext (.ref e)) Q E s := by
  have tyE : s.TypeIs (.ref e) "enumerate" := ⟨_, enm, rfl⟩
  unfold pyNext
  refine wpAny_bind (wpAny_attempt (wpAny_callSpecial?_slot (name := Str.ofString "__next__") tyE F.slot_enumerate_next
    (wpAny_call_entry F.slot_enumerate_next tyE F.entry_enumerate_next ?_ (F.args_enumerate_next_1 _))))
  show wpAny _ _ (field (.ref e) 2 >>= _) _ _ _
  refine wpAny_bind (wpAny_field enm rfl (x := .ref it) rfl ?_)
  refine wpAny_bind (wpAny_nextOf_tuple_end hnd itr ht hat fun h' x he' hx' => ?_)
  obtain ⟨o, ho, cal⟩ := hx'
  refine wpAny_bind (wpAny_isInstance (T := "StopIteration") (b := true) ⟨o, ho, cal⟩ isSubtype_stop ?_)
  exact wpAny_pure (wish _ he')
end PmL
namespace Pm
open PySem PySem.Spec PyProof.Rows L2
/-- the tuple at a, each item in a okn pair -/
def IteT (K : PySem.W.Frag) (a : Addr) : It :=
  ⟨fun i H => ∃ (xs : List V) (x : V), SqT K H a xs ∧ xs[i]? = some x, fun i H v H' => ∃ T x, v = .ref T ∧ H T = none ∧ H' = upd H T (.tup [.int (i : Nat), x]) ∧ ∀ xs, SqT K H a xs → xs[i]? = some x, fun i H => ∃ xs : List V, SqT K H a xs ∧ xs.length ≤ i⟩
theorem turn_enumT {P : Program} {w : World} {K : PySem.W.Frag} {elts : List Expr} {kk : Nat} {tpos : Pos} (a e it : Addr) :
    Turn P w K (.Tuple elts kk tpos) (IteT K a) [e, it] e (fun i h => (∃ was, IsEnum h e it ((i : Nat) : Int) was) ∧ h.IsTupleIter it a i ∧ e ≠ it) where
  mem := by simp
  obj := fun i h sta b mem => by
    obtain ⟨⟨was, enm⟩, ⟨o, ho, cal, hd⟩, _⟩ := sta
    have alt : b = e ∨ b = it := by simpa using mem
    rcases alt with z | z
    · rw [z]; exact ⟨_, enm, fun v q => nomatch q⟩
    · rw [z]; exact ⟨o, ho, fun v q => by rw [hd] at q; cases q⟩
  keep := fun i h h' sta k => let ⟨⟨was, enm⟩, hi, apr⟩ := sta; ⟨⟨was, k e (by simp) _ enm⟩, hi.at fun o q => k it (by simp) o q, apr⟩
  item := by
    intro X eP eW eK cal i pn s σ H E I fre sta goes
    subst eP eW eK
    obtain ⟨⟨was, enm⟩, itr, apr⟩ := sta
    obtain ⟨xs, x, sq, hat⟩ := goes
    obtain ⟨raws, rps, p, siz⟩ := I.tuple sq
    obtain ⟨u, hatu, rpu⟩ := rps.get hat
    have pt : s.heap.IsTuple a raws.toArray := p
    have ltE : e < s.heap.objs.size := Heap.lt_size enm
    have ltI : it < s.heap.objs.size := by obtain ⟨_, q, _⟩ := itr; exact Heap.lt_size q
    have hea : e ≠ a := fun z => by
      obtain ⟨oa, arg, hca, _⟩ := pt
      rw [← z, enm] at arg
      cases arg
      injection hca with h
      exact absurd h (by decide)
    have hia : a ≠ it := fun z => by
      obtain ⟨oa, arg, hca, _⟩ := pt
      obtain ⟨oi, hi2, hci, _⟩ := itr
      rw [z, hi2] at arg
      cases arg
      rw [hci] at hca
      injection hca with h
      exact absurd h (by decide)
    have hil2 : i < raws.toArray.size := by
      rw [List.size_toArray]
      exact (List.getElem?_eq_some_iff.mp hatu).1
    refine wpAny_pyNext_enum_itemC (Draws.tuple (show X.A.in1.handled = none from I.ok.hd cal) it a hia raws.toArray) enm ⟨itr, pt⟩ hil2 apr (fun z => by rcases List.mem_cons.mp z with z | z; exact apr z; exact hea (List.mem_singleton.mp z)) fun x' h' tk eP ho hit' tyE hsz kep => ?_
    have ex : x' = u := by
      have h1 : raws.toArray[i]? = some x' := eP
      rw [List.getElem?_toArray, hatu] at h1
      exact (Option.some.inj h1).symm
    subst ex
    refine ⟨_, rfl, wpAny_letOwnedTupleGo_enum (s := { s with heap := h', toks := tk + 1 }) ho fun h'' he' but => ?_⟩
    have hT2 : h''.get? s.heap.objs.size = some { cls := .type "tuple", data := .seq #[.int i tk, x'] } := (but.2 _ (Nat.ne_of_gt ltE)).trans tyE
    have okn : ObjOk X.prog X.w (upd H s.heap.objs.size (.tup [.int (i : Nat), x])) h'' s.heap.objs.size (.tup [.int (i : Nat), x]) :=
      ⟨by show 2 ≤ sizeLine; decide, [.int i tk, x'], .cons ⟨_, rfl⟩ (.cons rpu .nil), ⟨_, hT2, rfl, _, rfl⟩⟩
    have J1 : Inv X pn σ (upd H s.heap.objs.size (.tup [.int (i : Nat), x])) { s with heap := h'', toks := tk + 1 } :=
      I.turnedNew (ch := [e, it]) (fun b oo mem q => (but.2 b (fun z => mem (by simp [z]))).trans (kep b oo (fun z => mem (by simp [z])) (fun z => mem (by simp [z])) q)) fre (Nat.le_refl _) okn
    refine ⟨.ref s.heap.objs.size, _, J1, rfl, ⟨_, x, rfl, I.hok.fresh (Nat.le_refl _), rfl, fun ys hy => by rw [I.tuple_inj hy sq]; exact hat⟩, ⟨⟨x', ?_⟩, hit'.1.at fun o q => (but.2 it (Ne.symm apr)).trans q, apr⟩, fun b mem => ?_⟩
    · have suc : ((i + 1 : Nat) : Int) = (i : Int) + 1 := by omega
      rw [suc]; exact he'
    · have mem' : b < s.heap.objs.size := by
        have alt : b = e ∨ b = it := by simpa using mem
        rcases alt with z | z
        · rw [z]; exact ltE
        · rw [z]; exact ltI
      rw [upd_ne (Nat.ne_of_lt mem')]
      exact (fre b mem).1
  done := by
    intro X eP eW eK cal i pn s σ H E I fre sta goes
    subst eP eW eK
    obtain ⟨⟨was, enm⟩, itr, apr⟩ := sta
    obtain ⟨xs, sq, hat⟩ := goes
    obtain ⟨raws, rps, p, siz⟩ := I.tuple sq
    have pt : s.heap.IsTuple a raws.toArray := p
    obtain ⟨f0, f1, f2, f3, f4, f5⟩ := fre it (by simp)
    have hl := rps.length
    exact PmL.enum_end (show X.A.in1.handled = none from I.ok.hd cal) enm itr pt (by rw [List.getElem?_toArray]; exact List.getElem?_eq_none (by omega)) fun h' eb => ⟨rfl, I.turned (t' := s.toks) (fun b o mem q => eb b o mem q) f0 f1 f3 f4 f5⟩
  self := fun A i s Q E sta h => let ⟨⟨_, enm⟩, _⟩ := sta; wpAny_pyIter_enum enm h
def iEnumT (K : PySem.W.Frag) (ta : TA) : TI := fun σ H R => ta σ H fun vs H1 => ∃ a xs, vs = [.ref a] ∧ SqT K H1 a xs ∧ R (IteT K a) H1
theorem pi_enumT {X : Cx} {e : Expr} {ta : TA} {p pos tpos : Pos} {elts : List Expr} {kk : Nat} (goes : Gl X "enumerate") (nog : X.mg "enumerate" = none) (arg : PA X [e] ta) (str1 : starEach [e] X.env = [(false, eval e X.env)] := by rfl) :
    PI X (.Tuple elts kk tpos) (.Call (.Name "enumerate" p) [e] [] pos) (iEnumT X.K ta) := by
  refine ⟨fun pn s σ H R I h => ?_⟩
  refine Call_ (ld_blt I goes nog boot_enumerate (PyProof.Rows.callWith_type1 (thn (arg.run pos pn s σ H _ I h) fun uu t1 ⟨vs, H1, J1, rr1, itv⟩ => ?_) str1 rfl))
  obtain ⟨a, xs, ex, sq, q⟩ := itv
  subst ex
  cases rr1 with
  | cons r rr =>
    cases rr
    cases r
    obtain ⟨raws, rps, p', siz⟩ := J1.tuple sq
    refine PmL.enum_call1 (begins_tuple a raws.toArray) p' fun h' enm itr hsz kep => wpAny_pyIter_enum enm ?_
    have J2 : Inv X pn σ H1 { t1 with heap := h' } := J1.kept (t' := t1.toks) kep
    refine ⟨t1.heap.objs.size + 1, [t1.heap.objs.size + 1, t1.heap.objs.size], _, _, H1, rfl, J2, turn_enumT a (t1.heap.objs.size + 1) t1.heap.objs.size, ⟨⟨.none, enm⟩, ⟨_, itr, rfl, rfl⟩, Nat.succ_ne_self _⟩, fun b mem => ?_, q⟩
    have alt : b = t1.heap.objs.size + 1 ∨ b = t1.heap.objs.size := by simpa using mem
    have leB : t1.heap.objs.size ≤ b := by
      rcases alt with z | z
      · rw [z]; exact Nat.le_add_right _ _
      · rw [z]; exact Nat.le_refl _
    exact J1.fpOk leB (J1.hok.fresh leB)
theorem walk_enumT {K : PySem.W.Frag} {a : Addr} {xs : List V} : Walk (IteT K a) xs.length (fun H => SqT K H a xs) (YPair (fun i => some (.int (i : Nat))) (fun i => xs[i]?)) := by
  refine ⟨fun i _ lt seq => ⟨xs, xs[i], seq, by simp [lt]⟩, fun _ seq => ⟨xs, seq, Nat.le_refl _⟩, fun i H v H' _ seq ⟨T, x, y1, y2, y3, y4⟩ => ?_⟩
  exact ⟨T, .int (i : Nat), x, y1, y2, y3, rfl, y4 xs seq⟩
/-! == of tuples of own instances -/
section
variable {X : Cx} {A : Around} {k : Nat} {C fe : Addr} {fde : FuncData} {pse : List Str} {spe : Sp} {pins : List (Addr × Obj)} {σ : L2.St} {H : Hp} {s : Shared}
/-- a for loop of the model over a list, by an invariant of what is left -/
theorem loop_inv {M : Model} {A : Around} {α β : Type} {as : List α} {f : (a : α) → a ∈ as → β → Sem (ForInStep β)} {Q : β → Shared → Prop} {E : Value → Shared → Prop} (inv : List α → β → Shared → Prop)
    (step : ∀ x (hx : x ∈ as) rest b s, inv (x :: rest) b s → wpAny M A (f x hx b) (fun r s' => match r with | .yield b' => inv rest b' s' | .done b' => Q b' s') E s)
    (fin : ∀ b s, inv [] b s → Q b s) : ∀ (l : List α) (b : β) (h : ∃ bs, bs ++ l = as) (s : Shared), inv l b s → wpAny M A (List.forIn'.loop as f l b h) Q E s
  | [], b, h, s, hi => by
    rw [List.forIn'.loop]
    exact wpAny_pure (fin b s hi)
  | x :: l, b, h, s, hi => by
    rw [List.forIn'.loop]
    refine wpAny_bind (wpAny_mono (step x _ l b s hi) (fun r s' z => ?_) fun _ _ z => z)
    cases r with
    | done b' => exact wpAny_pure z
    | yield b' => exact loop_inv inv step fin l b' _ s' z
/-- t == u for tuples of instances of C: e tells it place by place -/
def rEqT (K : PySem.W.Frag) (C : Addr) (spe : Sp) : R2 := fun x y H Q => ∃ (t u : Addr) (as bs : List Addr) (e : Nat → Bool), x = .ref t ∧ y = .ref u ∧ SqT K H t (as.map V.ref) ∧ SqT K H u (bs.map V.ref) ∧ (∀ a ∈ as, ∃ dx fs, H a = some (.ins C dx fs)) ∧ (∀ b ∈ bs, ∃ dx fs, H b = some (.ins C dx fs)) ∧
  (∀ (i : Nat) (a b : Addr), as[i]? = some a → bs[i]? = some b → ∀ H1, Same H H1 → eqc spe a b H1 fun r H' => r = e i ∧ Same H1 H') ∧
  ∀ H', Same H H' → Q (.bl (decide (as.length = bs.length) && (List.range (min as.length bs.length)).all e)) H'
theorem vals_refs : ∀ {qs : List Addr} {us : List Value}, Vals (qs.map V.ref) us → us = qs.map Value.ref
  | [], _, r => by cases r; rfl
  | q :: qs, _, r => by
    rw [List.map_cons] at r
    cases r with
    | cons r1 r2 =>
      cases r1
      rw [vals_refs r2, List.map_cons]
theorem op_eqT (Se : Spc X.K C "__eq__" fe) (Ge : FnOk X.prog X.w X.K X.mg X.base CX0 k fe fde pse spe) (hbe : Binds X.K fde pse []) (hr : Room (k + 1) X.A) : OpR X (compareOp .Eq) (rEqT X.K C spe) := by
  rintro pins s σ H x y v u Q I rx ry ⟨t, t', as, bs, e, rfl, rfl, h1, h2, i1, i2, he, fin⟩
  cases rx
  cases ry
  obtain ⟨its, r1, p1, _⟩ := I.tuple h1
  obtain ⟨its2, r2, p2, _⟩ := I.tuple h2
  obtain rfl := vals_refs r1
  obtain rfl := vals_refs r2
  obtain ⟨⟨cls, dd, data, sl⟩, ho, hc, n, hd⟩ := id p1
  obtain ⟨⟨cls2, dd2, data2, sl2⟩, ho2, hc2, n2, hd2⟩ := id p2
  simp only at hc hd hc2 hd2
  subst hc hd hc2 hd2
  have ty1 : s.TypeIs (.ref t) "tuple" := ⟨_, ho, rfl⟩
  have ty2 : s.TypeIs (.ref t') "tuple" := ⟨_, ho2, rfl⟩
  have sb : L2.Sub X k X.A.in1 := (sub_self hr).in1
  refine wpAny_richCompare_same_room (op := .Eq) ty1 ty2 PySem.F.slot_tuple_eq (wpAny_call (codeAny_call_builtin PySem.F.slot_tuple_eq.plain PySem.F.entry_tuple_eq (PySem.F.slot_tuple_eq.check _ _ _ _ _ _ _ _ ty1 (PySem.F.args_tuple_eq_2 _ _) ?_))) (by have := hr.un; omega)
  have f2 := AutoSeq1.sub_tuple_tuple
  obtain ⟨hp, g, d, tk, os⟩ := s
  wp_walk using AutoSeq1.wpAny_loadPart' ho, AutoSeq1.wpAny_loadPart' ho2
  have ask : ∀ {a b dx dy : Addr} {fs gs : List (Str × V)} {H0 : Hp} {s0 : Shared} {R : Bool → Hp → Prop} {Q' : Bool → Shared → Prop} {E' : Value → Shared → Prop}, L2.Inv X pins σ H0 s0 → H0 a = some (.ins C dx fs) → H0 b = some (.ins C dy gs) → eqc spe a b H0 R →
      (∀ e s', X.xe e s' → E' e s') → (∀ r s', (∃ H', L2.Inv X pins σ H' s' ∧ R r H') → Q' r s') → wpAny (model X.prog X.w) X.A.in1 (eqBool (.ref a) (.ref b)) Q' E' s0 := fun I ea eb q he h => wpAny_mono (eqb_own Se Ge hbe sb I ea eb q) h he
  refine loop_inv (fun l b s => b = (none, ()) ∧ ∃ (i : Nat) (H1 : Hp), L2.Inv X pins σ H1 s ∧ Same H H1 ∧ l = ((as.map Value.ref).zip (bs.map Value.ref)).drop i ∧ ∀ j, j < i → e j = true) ?_ ?_ _ _ _ _ ⟨rfl, 0, H, I, Same.refl _, rfl, fun j hj => absurd hj (Nat.not_lt_zero _)⟩
  · rintro ⟨x, y⟩ hx rest b ⟨hp1, g1, d1, tk1, os1⟩ ⟨rfl, i, H1, I1, s1, hl, hj⟩
    have hz : ((as.map Value.ref).zip (bs.map Value.ref))[i]? = some (x, y) := by
      have := congrArg (fun l => l[0]?) hl
      simpa using this.symm
    rw [List.getElem?_zip_eq_some, List.getElem?_map, List.getElem?_map] at hz
    obtain ⟨hz1, hz2⟩ := hz
    cases ea : as[i]? with
    | none => rw [ea] at hz1; cases hz1
    | some a =>
      cases eb : bs[i]? with
      | none => rw [eb] at hz2; cases hz2
      | some b =>
        rw [ea] at hz1
        rw [eb] at hz2
        cases hz1
        cases hz2
        obtain ⟨dx, fs, fa⟩ := i1 a (List.mem_of_getElem? ea)
        obtain ⟨dy, gs, fb⟩ := i2 b (List.mem_of_getElem? eb)
        have la := (List.getElem?_eq_some_iff.mp ea).1
        have lb := (List.getElem?_eq_some_iff.mp eb).1
        dsimp only
        refine wpAny_bind (ask I1 (s1 _ _ fa) (s1 _ _ fb) (he i a b ea eb H1 s1) (fun _ _ z => z) ?_)
        rintro r ⟨hp2, g2, d2, tk2, os2⟩ ⟨H2, I2, q2⟩
        obtain ⟨q3, s2⟩ := q2
        subst q3
        cases ee : e i with
        | false =>
          wp_walk
          show Value.bool false ≠ Value.notImplemented ∧ EP X pins σ Q (.bool false) _
          refine ⟨fun z => (nomatch z), V.bl false, H2, I2, rfl, ?_⟩
          have h := fin H2 (s1.trans s2)
          have e0 : (List.range (min as.length bs.length)).all e = false := by
            rw [List.all_eq_false]
            exact ⟨i, List.mem_range.mpr (by omega), by rw [ee]; decide⟩
          rwa [e0, Bool.and_false] at h
        | true =>
          wp_walk
          refine ⟨rfl, i + 1, H2, I2, s1.trans s2, ?_, fun j hj2 => ?_⟩
          · have := congrArg List.tail hl
            rw [List.tail_cons, List.tail_drop] at this
            exact this
          · rcases Nat.lt_or_ge j i with q | q
            · exact hj j q
            · obtain rfl : j = i := by omega
              exact ee
  · rintro b ⟨hp1, g1, d1, tk1, os1⟩ ⟨rfl, i, H1, I1, s1, hl, hj⟩
    have hi : min as.length bs.length ≤ i := by
      have := congrArg List.length hl
      rw [List.length_drop, List.length_zip, List.length_map, List.length_map, List.length_nil] at this
      omega
    have all : (List.range (min as.length bs.length)).all e = true := by
      rw [List.all_eq_true]
      exact fun j hj2 => hj j (Nat.lt_of_lt_of_le (List.mem_range.mp hj2) hi)
    have h := fin H1 s1
    rw [all, Bool.and_true] at h
    wp_walk
    have eq : Builtin.Tuple.tupleCompareSizes CmpOp.Eq (List.map Value.ref as).toArray.size (List.map Value.ref bs).toArray.size = .bool (decide (as.length = bs.length)) := by
      unfold Builtin.Tuple.tupleCompareSizes
      simp only [List.size_toArray, List.length_map]
      by_cases q : as.length = bs.length <;> simp [q]
    rw [eq]
    exact ⟨fun z => (nomatch z), V.bl _, H1, I1, rfl, h⟩
end
/-! ### sum(xs, start=r): own instances -/
section
variable {X : Cx} {k : Nat} {A : Around} {f : Addr} {fd : FuncData} {ps : List Str} {sp : Sp} {pins : List (Addr × Obj)} {σ : L2.St} {H : Hp} {s : Shared} {Q : VK} {us : List Value} {vs : List V} {C : Addr}
/-- a def that raises nothing, run at any place below -/
theorem run_no (sb : L2.Sub X k A) (F : FnOk X.prog X.w X.K X.mg X.base CX0 k f fd ps sp) (hb : L2.Binds X.K fd ps []) (I : L2.Inv X pins σ H s) (r : Vals vs us) (h : sp vs H Q E0) :
    wpAny (model X.prog X.w) A (call (.ref f) us) (EP X pins σ Q) (fun _ _ => False) s := by
  have len : us.length = ps.length := r.length.symm.trans (F.len _ _ _ _ h)
  have bt := hb s us I.kIn (by simpa using len)
  simp only [List.append_nil] at bt
  have e1 := I.env0
  have e0 : Env0 X.prog X.w X.K X.mg X.base A X.stack s H := ⟨sb.fr.trans e1.frames, e1.mod, e1.bs, e1.bsz, e1.funs, e1.frf, e1.hok, e1.bare⟩
  refine wpAny_call (codeAny_mono (F.run A X.stack s H ⟨us, []⟩ us vs Q E0 sb.room e0 bt r h) fun res s' q => ?_)
  match res, q with
  | .error er, q => exact False.elim q
  | .ok (.ret u), q => exact I.after q
theorem bin_no {op : Operator} {a b dx dy : Addr} {fs gs : List (Str × V)} (B : Bin X.K C op.info.2 f) (F : FnOk X.prog X.w X.K X.mg X.base CX0 k f fd ps sp) (hb : L2.Binds X.K fd ps []) (sb : L2.Sub X k A) (I : L2.Inv X pins σ H s) (ea : H a = some (.ins C dx fs)) (eb : H b = some (.ins C dy gs))
    (q : sp [.ref a, .ref b] H Q E0) : wpAny (model X.prog X.w) A (binaryOp op (.ref a) (.ref b)) (EP X pins σ Q) (fun _ _ => False) s := by
  obtain ⟨od, J⟩ := inst_of I ea
  obtain ⟨od', J'⟩ := inst_of I eb
  exact bin_of (bin1_own B I.kIn J J'.type (thn (run_no sb F hb I (show Vals [V.ref a, V.ref b] [Value.ref a, Value.ref b] from .cons rfl (.cons rfl .nil)) q) fun u' s' z => rel_back z))
/-- the sums: after i of the items acc stands at a -/
structure SumW (K : PySem.W.Frag) (C : Addr) (spa : Sp) (l : Addr) (qs : List Addr) (W : Nat → Addr → Hp → Prop) : Prop where
  seq : ∀ i a H, W i a H → SqL K H l (qs.map V.ref)
  ins : ∀ i a H, W i a H → ∃ dx fs, H a = some (.ins C dx fs)
  itm : ∀ i a H q, W i a H → qs[i]? = some q → ∃ dx fs, H q = some (.ins C dx fs)
  add : ∀ i a H q, W i a H → qs[i]? = some q → spa [.ref a, .ref q] H (fun v H' => ∃ b, v = .ref b ∧ W (i + 1) b H') E0
theorem sum_steps {IT ST l : Addr} {qs : List Addr} {W : Nat → Addr → Hp → Prop} {R : PySem.Result → Shared → Prop} (B : Bin X.K C "add" f) (F : FnOk X.prog X.w X.K X.mg X.base CX0 k f fd ps sp) (hb : L2.Binds X.K fd ps []) (sb : L2.Sub X k A.in1) (hh : A.in1.handled = none)
    (SW : SumW X.K C sp l qs W) (hne : IT ≠ ST) (nI : ∀ p ∈ X.pn ++ pins, p.1 ≠ IT) (nS : ∀ p ∈ X.pn ++ pins, p.1 ≠ ST) (h1 : X.s_0.heap.objs.size ≤ IT) (h2 : X.s_0.heap.objs.size ≤ ST)
    (hR : ∀ a H' s', W qs.length a H' → L2.Inv X pins σ H' s' → R (.ok (.ret (.ref a))) s') :
    ∀ (n i : Nat) (a : Addr) (H : Hp) (s : Shared) (c : Nat) (oI : Obj), qs.length - i = n → i ≤ qs.length → W i a H → s.heap.IsListIter IT l i → s.heap.get? IT = some oI →
      L2.Inv X ((IT, oI) :: (ST, { cls := .type "list", dict := none, data := .seq #[.ref a] c, slots := #[] }) :: pins) σ H s →
      codeAny (model X.prog X.w) A (.builtin "sum.loop" ⟨[.ref IT, .ref ST, rawInt 2, rawInt 0], []⟩) R s := by
  intro n
  induction n with
  | zero =>
    intro i a H s c oI hk hi hW hit hoI I
    obtain rfl : i = qs.length := by omega
    have hS := (I.pin (ST, _) (List.mem_append_right _ (List.mem_cons_of_mem _ List.mem_cons_self))).1
    obtain ⟨its, rv, p, hz⟩ := I.list (SW.seq _ _ _ hW)
    have hl := rv.length
    rw [List.length_map] at hl
    have hIT := I.pin (IT, oI) (List.mem_append_right _ List.mem_cons_self)
    have nIT : ∀ x c', X.env.cells.lookup x = some c' → c' ≠ IT := fun x c' e z => by
      obtain ⟨v', q'⟩ := I.cell x c' e
      obtain ⟨o', ho', hd'⟩ := q'
      rw [z, hIT.1] at ho'
      cases ho'
      exact hIT.2.2.2.2 v' hd'
    refine codeAny_builtin PySem.F.entry_sum_loop ?_
    rw [Around.under_plainId PySem.F.plain_sum_loop _]
    show wpAny _ A.in1 (seqItems? (.ref ST) >>= _) _ _ s
    refine wpAny_bind (wpAny_seqItems hS rfl ?_)
    show wpAny _ A.in1 (tryCatch (pyNext (.ref IT)) _ >>= _) _ _ s
    refine wpAny_bind (wpAny_tryCatch (wpAny_pyNext_list_end hh hit p.isList (by simp; omega) fun h' eb => ?_))
    exact wpAny_pure (hR a H _ hW ((ClX.unpin (ClX.unpin I)).turned (t' := s.toks) (it := IT) (fun b o hb e => eb b o hb e) hIT.2.1 hIT.2.2.1 (.inr h1) nIT nI))
  | succ n ih =>
    intro i a H s c oI hk hi hW hit hoI I
    have lt : i < qs.length := by omega
    have hIT := I.pin (IT, oI) (List.mem_append_right _ List.mem_cons_self)
    have hST := I.pin (ST, _) (List.mem_append_right _ (List.mem_cons_of_mem _ List.mem_cons_self))
    have cellsOf : ∀ {P0 : Addr} {o0 : Obj} {H0 : Hp} {s0 : Shared} {ps0 : List (Addr × Obj)}, L2.Inv X ps0 σ H0 s0 → s0.heap.get? P0 = some o0 → (∀ v, o0.data ≠ .cell v) → ∀ x c', X.env.cells.lookup x = some c' → c' ≠ P0 := fun I g nc x c' e z => by
      obtain ⟨v', q'⟩ := I.cell x c' e
      obtain ⟨o', ho', hd'⟩ := q'
      rw [z, g] at ho'
      cases ho'
      exact nc v' hd'
    obtain ⟨its, rv, p, hz⟩ := I.list (SW.seq _ _ _ hW)
    obtain ⟨q, hq⟩ : ∃ q, qs[i]? = some q := ⟨_, List.getElem?_eq_getElem lt⟩
    have hitm : its[i]? = some (.ref q) := by
      obtain ⟨u, hu, ru⟩ := rv.get (i := i) (x := V.ref q) (by rw [List.getElem?_map, hq]; rfl)
      cases ru
      exact hu
    obtain ⟨dx, fs, ea⟩ := SW.ins _ _ _ hW
    obtain ⟨dy, gs, eq⟩ := SW.itm _ _ _ _ hW hq
    refine codeAny_builtin PySem.F.entry_sum_loop ?_
    rw [Around.under_plainId PySem.F.plain_sum_loop _]
    show wpAny _ A.in1 (seqItems? (.ref ST) >>= _) _ _ s
    refine wpAny_bind (wpAny_seqItems hST.1 rfl ?_)
    show wpAny _ A.in1 (tryCatch (pyNext (.ref IT)) _ >>= _) _ _ s
    refine wpAny_bind (wpAny_tryCatch (wpAny_pyNext_list_item hit p.isList (x := .ref q) (by simpa using hitm) fun h' hit' sb' => ?_))
    obtain ⟨oJ, eJ, cJ, dJ⟩ := id hit'
    have I0 : L2.Inv X ((ST, { cls := .type "list", dict := none, data := .seq #[.ref a] c, slots := #[] }) :: pins) σ H { s with heap := h' } :=
      (ClX.unpin I).turned (t' := s.toks) (it := IT) (fun b o hb e => (sb'.2 b hb).trans e) hIT.2.1 hIT.2.2.1 (.inr h1) (cellsOf I hIT.1 hIT.2.2.2.2) (fun p hp => by
        rcases List.mem_append.mp hp with hp | hp
        · exact nI p (List.mem_append_left _ hp)
        · rcases List.mem_cons.mp hp with rfl | hp
          · exact Ne.symm hne
          · exact nI p (List.mem_append_right _ hp))
    have I1 : L2.Inv X ((IT, oJ) :: (ST, { cls := .type "list", dict := none, data := .seq #[.ref a] c, slots := #[] }) :: pins) σ H { s with heap := h' } := I0.pins_of fun p hp => by
      rcases List.mem_cons.mp hp with rfl | hp
      · exact ⟨eJ, hIT.2.1, hIT.2.2.1, hIT.2.2.2.1, fun v z => by rw [dJ] at z; cases z⟩
      · exact I0.pin p (List.mem_append_right _ hp)
    show wpAny _ A.in1 ((holding [Value.ref q] (binaryOp .Add (.ref a) (.ref q))).attempt >>= _) _ _ _
    refine wpAny_bind (wpAny_attempt (wpAny_holding (wpAny_mono (bin_no (op := .Add) B F hb sb I1 ea eq (SW.add _ _ _ _ hW hq)) (fun u s2 z => ?_) (fun _ _ z => z.elim))))
    obtain ⟨v, H2, I2, r2, b, rfl, hW2⟩ := z
    cases r2
    have hS2 := I2.pin (ST, _) (List.mem_append_right _ (List.mem_cons_of_mem _ List.mem_cons_self))
    have hI2 := I2.pin (IT, oJ) (List.mem_append_right _ List.mem_cons_self)
    show wpAny _ A.in1 (updateSeq ST (fun _ => #[.ref b]) >>= _) _ _ _
    refine wpAny_bind (wpAny_updateSeq hS2.1 rfl ?_)
    have hS3 := Heap.get?_update_self (Obj.mapSeq fun _ => #[Value.ref b]) hS2.1 rfl
    refine wpAny_bind (wpAny_letGo ?_)
    refine wpAny_bind (wpAny_updateSeq hS3 rfl (wpAny_pure ⟨plainId_quiet PySem.F.plain_sum_loop _, ?_⟩))
    have hS4 := Heap.get?_update_self (Obj.mapSeq fun _ => #[Value.ref b]) hS3 rfl
    have oth : ∀ b' o, b' ≠ ST → s2.heap.get? b' = some o → ((s2.heap.update ST (Obj.mapSeq fun _ => #[Value.ref b])).update ST (Obj.mapSeq fun _ => #[Value.ref b])).get? b' = some o := fun b' o hb e => (Heap.get?_update_other _ _ (Ne.symm hb)).trans ((Heap.get?_update_other _ _ (Ne.symm hb)).trans e)
    have I3 : L2.Inv X pins σ H2 { s2 with heap := (s2.heap.update ST (Obj.mapSeq fun _ => #[Value.ref b])).update ST (Obj.mapSeq fun _ => #[Value.ref b]) } :=
      (ClX.unpin (ClX.unpin I2)).turned (t' := s2.toks) (it := ST) oth hS2.2.1 hS2.2.2.1 (.inr h2) (cellsOf I2 hS2.1 hS2.2.2.2.2) nS
    obtain ⟨c2, hS5⟩ : ∃ c2, ((s2.heap.update ST (Obj.mapSeq fun _ => #[Value.ref b])).update ST (Obj.mapSeq fun _ => #[Value.ref b])).get? ST = some { cls := .type "list", dict := none, data := .seq #[.ref b] c2, slots := #[] } := ⟨_, hS4⟩
    refine ih (i + 1) b H2 _ c2 oJ (by omega) lt hW2 ⟨oJ, oth IT oJ hne hI2.1, cJ, dJ⟩ (oth IT oJ hne hI2.1) (Inv.pins_of (pins := pins) I3 fun p hp => ?_)
    rcases List.mem_cons.mp hp with rfl | hp
    · exact ⟨oth IT oJ hne hI2.1, hI2.2⟩
    · rcases List.mem_cons.mp hp with rfl | hp
      · exact ⟨hS5, hS2.2.1, hS2.2.2.1, hS2.2.2.2.1, fun v z => nomatch z⟩
      · exact I3.pin p (List.mem_append_right _ hp)
/-- sum(xs, start=r) -/
def rSumS (K : PySem.W.Frag) (C : Addr) (sp : Sp) : List V → List V → Hp → VK → Prop := fun vs zs H Q => ∃ (l r : Addr) (qs : List Addr) (W : Nat → Addr → Hp → Prop), vs = [.ref l] ∧ zs = [.ref r] ∧ SumW K C sp l qs W ∧ W 0 r H ∧ ∀ a H', W qs.length a H' → Q (.ref a) H'
theorem args_sumS (a b : Value) : PySem.argsOk "sum" ⟨[a], [(Str.ofString "start", b)]⟩ := by unfold PySem.argsOk; kernel_rfl
theorem call_fn_kw {id : String} {b : Builtin} {args : List Value} {kw : List (Str × Value)} {A : Around} {E : Value → Shared → Prop} {Q : Value → Shared → Prop} {prog : Program} {w : World} (hk : builtinKind id = none) (hp : plainId id = true) (hb : entryFor table id = some b) (ha : argsOk id ⟨args, kw⟩)
    (hc : wpAny (model prog w) A.in1 (b ⟨args, kw⟩) (fun fin s' => match fin with
      | .done f => (match (Except.ok f : PySem.Result) with | .ok (.ret v) => Q v s' | .ok _ => False | .error e => E e s')
      | .again c' => c'.quiet = true ∧ codeAny (model prog w) A c' (fun r s' => match r with | .ok (.ret v) => Q v s' | .ok _ => False | .error e => E e s') s') E s) :
    wpAny (model prog w) A (call (.builtin id) args kw) Q E s := by
  refine wpAny_call (codeAny_call_builtin hp hb ?_)
  simp only [checkBuiltinCall, hk]
  cases q : Manifest.signature? id with
  | none => exact wpAny_pure hc
  | some sig =>
    simp only [argsOk, q] at ha
    show wpAny _ A.in1 (Bind.checkArgs id sig ⟨args, kw⟩) _ _ s
    rw [show Bind.checkArgs id sig ⟨args, kw⟩ = pure () from ha]
    exact wpAny_pure hc
theorem cr_sumS (B : Bin X.K C "add" f) (F : FnOk X.prog X.w X.K X.mg X.base CX0 k f fd ps sp) (hb : L2.Binds X.K fd ps []) (hr : Room (k + 2) X.A) (hc : X.calm = true) (hs : ∀ t ∈ ["str", "bytes", "bytearray"], PySem.W.subIn X.K (.ref C) (.type t) = some false) : CallRK X (.builtin "sum") [Str.ofString "start"] (rSumS X.K C sp) := by
  rintro pins s σ H vs zs us ws Q I r rz ⟨l, r0, qs, W, rfl, rfl, SW, hW, fin⟩
  obtain rfl := Vals.ref1 r
  obtain rfl := Vals.ref1 rz
  obtain ⟨its, rv, p, hz⟩ := I.list (SW.seq _ _ _ hW)
  obtain ⟨dx, fs, er⟩ := SW.ins _ _ _ hW
  obtain ⟨od, J⟩ := inst_of I er
  have lk : ∀ t ∈ ["str", "bytes", "bytearray"], PySem.W.Looks (model X.prog X.w) s.heap (isInstance (.ref r0) (.type t)) false := fun t ht => J.type.andThen (PySem.W.looks_subIn I.kIn (hs t ht))
  have l1 := lk "str" (by simp)
  have l2 := lk "bytes" (by simp)
  have l3 := lk "bytearray" (by simp)
  refine call_fn_kw PySem.F.kind_sum PySem.F.plain_sum PySem.F.entry_sum (args_sumS _ _) ?_
  unfold Builtin.«sum»
  simp only [List.length_cons, List.length_nil]
  rw [if_neg (show ¬ (0 + 1 + ([Str.ofString "start"].zip [Value.ref r0]).length > 2) by show ¬ (2 > 2); decide)]
  refine wpAny_bind (wpAny_of_eq (show Builtin.Builtins.bindParams "sum" ["start"] 0 ⟨[], [(Str.ofString "start", .ref r0)]⟩ = pure [some (.ref r0)] from rfl) ?_)
  refine wpAny_bind (wpAny_pyIter_list p.isList ?_)
  refine wpAny_bind (wpAny_pure ?_)
  simp only [List.forIn_cons, List.forIn_nil]
  have kp : ∀ b o, s.heap.get? b = some o → (s.heap.push { cls := .type "list_iterator", data := .fields #[.ref l, .int 0 0] }).get? b = some o := fun b o e => Heap.get?_push_of_some _ e
  refine wpAny_bind (wpAny_bind (wpAny_bind ((l1.keeps kp).here ?_)))
  simp only [Bool.false_eq_true, if_false]
  refine wpAny_pure (wpAny_bind (wpAny_bind ((l2.keeps kp).here ?_)))
  simp only [Bool.false_eq_true, if_false]
  refine wpAny_pure (wpAny_bind (wpAny_bind ((l3.keeps kp).here ?_)))
  simp only [Bool.false_eq_true, if_false]
  refine wpAny_pure (wpAny_pure ?_)
  refine wpAny_bind (wpAny_newObj_type ?_)
  have hz1 : (s.heap.push { cls := .type "list_iterator", data := .fields #[.ref l, .int 0 0] }).objs.size = s.heap.objs.size + 1 := Heap.size_push ..
  have gI : (s.heap.push { cls := .type "list_iterator", data := .fields #[.ref l, .int 0 0] }).get? s.heap.objs.size = some { cls := .type "list_iterator", data := .fields #[.ref l, .int 0 0] } := Heap.get?_push_size _ rfl
  have big : ∀ {p : Addr × Obj}, p ∈ X.pn ++ pins → p.1 < s.heap.objs.size := fun {p} hp => Heap.lt_size (I.pin p hp).1
  refine wpAny_pure ⟨plainId_quiet PySem.F.plain_sum_loop _, sum_steps (IT := s.heap.objs.size) (ST := (s.heap.push { cls := .type "list_iterator", data := .fields #[.ref l, .int 0 0] }).objs.size) (A := X.A) B F hb (sub_self (hr.mono (Nat.le_succ _))).in1 (show X.A.in1.handled = none from I.ok.hd hc) SW (by rw [hz1]; exact Nat.ne_of_lt (Nat.lt_succ_self _)) (fun p hp => Nat.ne_of_lt (big hp)) (fun p hp => by rw [hz1]; exact Nat.ne_of_lt (Nat.lt_succ_of_lt (big hp))) I.sz (by rw [hz1]; exact Nat.le_succ_of_le I.sz)
    (fun a H' s' hW' I' => ⟨.ref a, H', I', rfl, fin a H' hW'⟩) qs.length 0 r0 H _ 0 _ rfl (Nat.zero_le _) hW ⟨_, Heap.get?_push_of_some _ gI, rfl, rfl⟩ (Heap.get?_push_of_some _ gI) ?_⟩
  refine Inv.pins_of (pins := pins) (I.kept (t' := s.toks) (fun b u e => Heap.get?_push_of_some _ (Heap.get?_push_of_some _ e))) fun p hp => ?_
  rcases List.mem_cons.mp hp with rfl | hp
  · exact ⟨Heap.get?_push_of_some _ gI, I.hok.fresh (Nat.le_refl _), Nat.ne_of_gt I.lt, I.nofs (Nat.le_refl _), fun v z => nomatch z⟩
  · rcases List.mem_cons.mp hp with rfl | hp
    · exact ⟨Heap.get?_push_size _ rfl, I.hok.fresh (by rw [hz1]; exact Nat.le_succ _), by rw [hz1]; exact Nat.ne_of_gt (Nat.lt_succ_of_lt I.lt), I.nofs (by rw [hz1]; exact Nat.le_succ _), fun v z => nomatch z⟩
    · obtain ⟨a1, a2⟩ := I.pin p (List.mem_append_right _ hp)
      exact ⟨Heap.get?_push_of_some _ (Heap.get?_push_of_some _ a1), a2⟩
end
end Pm

set_option maxHeartbeats 2100000
namespace PmG
open PySem PySem.Calls
section
variable {M : Model} {A : Around} {R : GenEnd} {Y : Protocol} {n : Nat} {s₀ : Shared} {c : Code} {fs : List Frame} {s : Shared} {env : Env} {K : Flow → Sem Fin} {H : Value → Sem Fin} {gd : Bool → Bool} {lv : List Value → List Value}
theorem seg_bindw {α : Type} {m : Sem α} {k : α → Sem Flow} (h : wpAny M (A.over c fs) m (fun a s' => Seg M A R Y n s₀ c ((k a).wrap K H gd lv) fs s') (fun x s' => Seg M A R Y n s₀ c (H x) fs s') s) :
    Seg M A R Y n s₀ c ((m >>= k).wrap K H gd lv) fs s := by
  rw [Sem.bind_eq_wrap', Sem.wrap_wrap]
  exact seg_wrap h
theorem seg_For {tg iter : Expr} {body orelse : List Stmt} {pos : Pos}
    (h : wpAny M (A.over c fs) (eval iter env) (fun x s1 => wpAny M (A.over c fs) (pyIter x) (fun it s2 => ∀ p l, Seg M A R Y n s₀ (.forLoop tg it body orelse env) (M.den (.forLoop tg it body orelse env))
      (.ret (fun rr => ((match rr with | .ok ff => (.pure ff : Sem Flow) | .error ee => .raise ee).onRaise (L2.cameBack env)).wrap K H gd lv) none (gd false) l c p [] :: fs) s2) (fun x s' => Seg M A R Y n s₀ c (H x) fs s') s1) (fun x s' => Seg M A R Y n s₀ c (H x) fs s') s)
    (folds : ∀ x, foldedSetIterable iter env x = pure x := by intro _; rfl) :
    Seg M A R Y n s₀ c ((exec (.For tg iter body orelse pos) env).wrap K H gd lv) fs s := by
  rw [exec_For]
  refine seg_bindw (wpAny_standAt (seg_bindw (wpAny_mono h (fun x s1 h1 => ?_) fun _ _ z => z)))
  refine seg_bindw (wpAny_of_eq (folds x) (seg_bindw (wpAny_standAt (seg_bindw (wpAny_holding (wpAny_mono h1 (fun it s2 h2 => ?_) fun _ _ z => z))))))
  exact seg_call fun p => h2 p _
end
section
variable {prog : Program} {w : World} {A : Around} {R : GenEnd} {Y : Protocol} {env : Env}
variable {n : Nat} {s₀ s : Shared} {fs : List Frame}
/-- where an exception of a turn goes -/
abbrev Noted (prog : Program) (w : World) (A : Around) (R : GenEnd) (Y : Protocol) (n : Nat) (s₀ : Shared) (c : Code) (fs : List Frame) (env : Env) (x : Value) (s' : Shared) : Prop :=
  Seg (model prog w) A R Y n s₀ c ((do noteFrame x env; theTreesLotGoes x : Sem Unit).wrap (fun _ => .raise x) .raise id id) fs s'
theorem seg_bindF {α : Type} {m : Sem α} {k : α → Sem Fin} {K : Fin → Sem Fin} {H : Value → Sem Fin} {gd lv} {M : Model} {c : Code} (h : wpAny M (A.over c fs) m (fun a s' => Seg M A R Y n s₀ c ((k a).wrap K H gd lv) fs s') (fun x s' => Seg M A R Y n s₀ c (H x) fs s') s) :
    Seg M A R Y n s₀ c ((m >>= k).wrap K H gd lv) fs s := by
  rw [Sem.bind_eq_wrap', Sem.wrap_wrap]
  exact seg_wrap h
theorem noted_of {c : Code} {x : Value} {s' : Shared} (h : Noted prog w A R Y n s₀ c fs env x s') :
    Seg (model prog w) A R Y n s₀ c ((do noteFrame x env; theTreesLotGoes x : Sem Unit).bind fun _ => .raise x) fs s' := by
  rw [Sem.bind_eq_wrap]; exact h
theorem seg_forLoop {tg : Expr} {it : Value} {body : List Stmt}
    (h : wpAny (model prog w) (A.over (.forLoop tg it body [] env) fs) (pyNext it) (fun r s1 => match r with
      | none => Seg (model prog w) A R Y n s₀ (.block [] env) (leafOf (.ok .next)) fs s1
      | some v => wpAny (model prog w) (A.over (.forLoop tg it body [] env) fs) (letOwnedTupleGo tg it v) (fun _ s2 => wpAny (model prog w) (A.over (.forLoop tg it body [] env) fs) (assign tg env v) (fun _ s3 =>
          Seg (model prog w) A R Y n s₀ (.forLoop tg it body [] env) ((execs body env).wrap (fun f => match f with
            | .next | .cont => .pure (.again (.forLoop tg it body [] env))
            | .brk => .pure (.done .next)
            | .ret v => .pure (.done (.ret v))) (fun x => (do noteFrame x env; theTreesLotGoes x : Sem Unit).wrap (fun _ => .raise x) .raise id id) id id) fs s3)
          (Noted prog w A R Y n s₀ (.forLoop tg it body [] env) fs env) s2) (Noted prog w A R Y n s₀ (.forLoop tg it body [] env) fs env) s1)
      (Noted prog w A R Y n s₀ (.forLoop tg it body [] env) fs env) s) :
    Seg (model prog w) A R Y n s₀ (.forLoop tg it body [] env) ((model prog w).den (.forLoop tg it body [] env)) fs s := by
  show Seg _ A R Y n s₀ _ ((forTurn tg it body [] env).onRaise (fun x => do noteFrame x env; theTreesLotGoes x)) fs s
  unfold forTurn
  rw [Sem.onRaise_eq_wrap]
  refine seg_bindF (wpAny_standAt (seg_bindF (wpAny_onRaise (wpAny_mono h (fun r s1 h1 => ?_) fun x s1 z => wpAny_standAt (noted_of z)))))
  cases r with
  | none => exact seg_again rfl h1
  | some v =>
    refine seg_bindF (wpAny_mono h1 (fun _ s2 h2 => ?_) fun _ _ z => noted_of z)
    refine seg_bindF (wpAny_mono h2 (fun _ s3 h3 => ?_) fun _ _ z => noted_of z)
    rw [Sem.bind_eq_wrap', Sem.wrap_wrap]
    rw [Sem.wrap_congr (execs body env) _ _ (K' := fun flow => match flow with
            | .next | .cont => .pure (.again (.forLoop tg it body [] env))
            | .brk => .pure (.done .next)
            | .ret v => .pure (.done (.ret v))) (H' := (fun x => (do noteFrame x env; theTreesLotGoes x : Sem Unit).wrap (fun _ => .raise x) .raise id id))
        (fun f => by cases f <;> rfl)
        (fun x => by show (do noteFrame x env; theTreesLotGoes x : Sem Unit).bind (fun _ => .raise x) = _; rw [Sem.bind_eq_wrap])]
    exact h3
end

section
open L2
variable {X : Cx}
/-- W: what holds by the turn, a measure and what is out so far; N: what the suite is to reach -/
def tGFor (wi : TI) (g : TG) (tb : TGn) : TGn := fun D ys σ H => wi σ H fun J H1 => ∃ W : Nat → Nat → List V → St → Hp → Prop, (∃ m, W 0 m ys σ H1) ∧ ∀ i m ys σ H, W i m ys σ H →
  (J.stop i H ∧ D.nx ys σ H) ∨ (J.go i H ∧ ∃ N : List V → St → Hp → Prop, (∀ ys' σ' H', N ys' σ' H' → ∃ m', m' < m ∧ W (i + 1) m' ys' σ' H') ∧ ∀ x H', J.yld i H x H' → g x σ H' fun σ2 H2 => tb { D with nx := N, ct := N, bk := D.nx } ys σ2 H2)
theorem gi_drop {S : Addr} {ip pl : List (Addr × Obj)} {ys : List V} {σ : St} {H : Hp} {s : Shared} (h : GI X S (ip ++ pl) ys σ H s) : GI X S ip ys σ H s := by
  obtain ⟨acc, cc, r, I⟩ := h
  exact ⟨acc, cc, r, Inv.unpinned (pins := (S, lstObj acc cc) :: ip) (pl := pl) I⟩
theorem gsp_drop {S : Addr} {ip pl : List (Addr × Obj)} {D : GEnds} {ys : List V} {f : Flow} {s : Shared} (h : GSP X S (ip ++ pl) D ys f s) : GSP X S ip D ys f s := by
  cases f with
  | next => obtain ⟨σ, H, I, q⟩ := h; exact ⟨σ, H, gi_drop I, q⟩
  | brk => obtain ⟨σ, H, I, q⟩ := h; exact ⟨σ, H, gi_drop I, q⟩
  | cont => obtain ⟨σ, H, I, q⟩ := h; exact ⟨σ, H, gi_drop I, q⟩
  | ret u => obtain ⟨v, σ, H, I, r, q⟩ := h; exact ⟨v, σ, H, gi_drop I, r, q⟩
theorem gs_for {tg iter : Expr} {body : List Stmt} {wi : TI} {g : TG} {tb : TGn} {pos : Pos} (hp : PassesOwn (model X.prog X.w) X.A X.env X.xe) (hc : X.calm = true) (hi : PI X tg iter wi) (hg : PG X tg g) (hb : GSs X body tb)
    (hs : ∀ x, foldedSetIterable iter X.env x = pure x := by intro _; rfl) : GS X (.For tg iter body [] pos) (tGFor wi g tb) := by
  refine ⟨fun A S ip R n ys s₀ c fs K J gd lv s σ H D g0 hn k hI ht => ?_⟩
  have hI0 := hI
  obtain ⟨acc0, cc0, r0, I0⟩ := hI
  refine seg_For ?_ hs
  rw [g0.over]
  refine wpAny_mono (hi.run _ s σ H _ I0 ht) (fun v s1 h1 => ?_) fun x s' hx => k.exc n s₀ x s' hx
  refine wpAny_mono h1 (fun itv s2 h2 p l => ?_) fun x s' hx => k.exc n s₀ x s' hx
  obtain ⟨it, fp, tn, Jt, H2, e, I2, T, st2, f2, W, ⟨m0, w0⟩, turn⟩ := h2
  subst e
  have gl := fun (kk : Result → Sem PySem.Fin) => gc_loop (k := kk) (c' := .forLoop tg (.ref it) body [] X.env) (l := l) (kp := []) (p := p) g0 rfl rfl
  -- what stays true of the iterator's objects
  have stat : ∀ {acc : Array Value} {cc : Nat} {H' : Hp}, (∀ b ∈ fp, H' b = none) → ∀ b ∈ fp, FpOk X ((S, lstObj acc cc) :: ip) H' b := fun hn b hb => by
    obtain ⟨_, a1, a2, a3, a4, a5⟩ := f2 b hb
    refine ⟨hn b hb, a1, a2, a3, a4, fun q hq => ?_⟩
    rcases List.mem_append.mp hq with kk | kk
    · exact a5 q (List.mem_append_left _ kk)
    · rcases List.mem_cons.mp kk with mm | mm
      · rw [mm]; exact a5 (S, lstObj acc0 cc0) (List.mem_append_right _ List.mem_cons_self)
      · exact a5 q (List.mem_append_right _ (List.mem_cons_of_mem _ mm))
  have fpS : ∀ b ∈ fp, b ≠ S := fun b hb z => (f2 b hb).2.2.2.2.2 (S, lstObj acc0 cc0) (List.mem_append_right _ List.mem_cons_self) z.symm
  have loop : ∀ (m i n : Nat) (ys : List V) (s₀ s : Shared) (σ : St) (H : Hp), n + ys.length = sizeLine → W i m ys σ H → GI X S ip ys σ H s → tn i s.heap → (∀ b ∈ fp, H b = none) →
      Seg (model X.prog X.w) A R (GY X S) n s₀ (.forLoop tg (.ref it) body [] X.env) ((model X.prog X.w).den (.forLoop tg (.ref it) body [] X.env))
        (.ret (fun r => ((match r with | .ok f => (.pure f : Sem Flow) | .error e => .raise e).onRaise (cameBack X.env)).wrap K J gd lv) none (gd false) l c p [] :: fs) s := by
    intro m
    induction m using Nat.strongRecOn with | ind m ih =>
      intro i n ys s₀ s σ H hn w hI st fr
      have ee : ∀ (n : Nat) (s₀ : Shared) (x : Value) (s' : Shared), X.xe x s' → Seg (model X.prog X.w) A R (GY X S) n s₀ (.forLoop tg (.ref it) body [] X.env)
          ((do noteFrame x X.env; theTreesLotGoes x : Sem Unit).wrap (fun (_ : Unit) => .raise x) .raise id id)
          (.ret (fun r => ((match r with | .ok f => (.pure f : Sem Flow) | .error e => .raise e).onRaise (cameBack X.env)).wrap K J gd lv) none (gd false) l c p [] :: fs) s' := fun n s₀ x s' hx => by
        refine seg_wrap ?_
        rw [(gl _).over]
        refine wpAny_bind (wpAny_mono (hp x s' hx) (fun _ t back => wpAny_theTreesLotGoes ?_) fun y t back => ?_)
        · exact seg_leaf (.error x) (seg_cameBack g0 k back)
        · exact seg_leaf (.error y) (seg_cameBack g0 k back)
      refine seg_forLoop ?_
      rw [(gl _).over]
      obtain ⟨acc, cc, r, I⟩ := hI
      rcases turn i m ys σ H w with ⟨stop, qn⟩ | ⟨go, N, hN, step⟩
      · refine wpAny_mono (T.done X rfl rfl rfl hc i _ s σ H X.xe I (stat fr) st stop) (fun r' s4 h4 => ?_) fun x s' hx => ee n s₀ x s' hx
        obtain ⟨hr, I4⟩ := h4
        subst hr
        exact seg_leaf (.ok .next) (k.ok n ys s₀ s4 .next hn ⟨σ, H, ⟨acc, cc, r, I4⟩, qn⟩)
      · refine wpAny_mono (T.item X rfl rfl rfl hc i _ s σ H X.xe I (stat fr) st go) (fun r' s4 h4 => ?_) fun x s' hx => ee n s₀ x s' hx
        obtain ⟨u, hr, h4⟩ := h4
        subst hr
        refine wpAny_mono h4 (fun _ s5 h5 => ?_) fun x s' hx => ee n s₀ x s' hx
        obtain ⟨x, H5, I5, r5, y5, st5, fr5⟩ := h5
        have I5' : Inv X ((S, lstObj acc cc) :: (ip ++ pinsAt fp s5.heap)) σ H5 s5 := Inv.pinned (pins := (S, lstObj acc cc) :: ip) I5 (stat fr5) (T.obj _ _ st5)
        refine wpAny_mono (hg.run _ s5 σ H5 x u _ I5' r5 (step x H5 y5)) (fun _ s6 h6 => ?_) fun x s' hx => ee n s₀ x s' hx
        obtain ⟨σ6, H6, I6, q6⟩ := h6
        have gr : ∀ kk : Result → Sem PySem.Fin, GC X S (ip ++ pinsAt fp s5.heap) A (.forLoop tg (.ref it) body [] X.env) (.ret kk none (gd false) l c p [] :: fs) id := fun kk => by
          refine ⟨g0.pn, fun q hq => ?_, g0.apart, (gl kk).over, (gl kk).split, (gl kk).guard, rfl⟩
          rcases List.mem_append.mp hq with kk | kk
          · exact g0.ip q kk
          · exact fpS _ (of_pinsAt kk).1
        have again : ∀ {s7 : Shared} {n' : Nat} {s₀' : Shared} {ys' : List V} {σ7 : St} {H7 : Hp}, n' + ys'.length = sizeLine → GI X S (ip ++ pinsAt fp s5.heap) ys' σ7 H7 s7 → N ys' σ7 H7 →
            Seg (model X.prog X.w) A R (GY X S) n' s₀' (.forLoop tg (.ref it) body [] X.env) (.pure (.again (.forLoop tg (.ref it) body [] X.env)))
              (.ret (fun r => ((match r with | .ok f => (.pure f : Sem Flow) | .error e => .raise e).onRaise (cameBack X.env)).wrap K J gd lv) none (gd false) l c p [] :: fs) s7 := fun {s7 n' s₀' ys' σ7 H7} hn' G7 n7 => by
          obtain ⟨m', hm, w7⟩ := hN ys' σ7 H7 n7
          have hpin : ∀ b o, b ∈ fp → s5.heap.get? b = some o → s7.heap.get? b = some o ∧ H7 b = none := fun b o hb e => by
            obtain ⟨acc7, cc7, r7, I7⟩ := G7
            have z := I7.pin (b, o) (List.mem_append_right _ (List.mem_cons_of_mem _ (List.mem_append_right _ (mem_pinsAt hb e))))
            exact ⟨z.1, z.2.1⟩
          refine seg_again rfl (ih m' hm (i + 1) n' ys' s₀' s7 σ7 H7 hn' w7 (gi_drop G7) (T.keep _ _ _ st5 fun b hb o e => (hpin b o hb e).1) fun b hb => ?_)
          obtain ⟨ob, eo, _⟩ := T.obj _ _ st5 b hb
          exact (hpin b ob hb eo).2
        refine hb.run A S (ip ++ pinsAt fp s5.heap) R n ys s₀ _ _ _ _ id id s6 σ6 H6 { D with nx := N, ct := N, bk := D.nx } (gr _) hn ⟨fun n' ys' s₀' s7 f hn' hs7 => ?_, fun n' s₀' x s3 hx => ee n' s₀' x s3 hx⟩ ⟨acc, cc, r, I6⟩ q6
        cases f with
        | next => obtain ⟨σ7, H7, G7, n7⟩ := hs7; exact again hn' G7 n7
        | cont => obtain ⟨σ7, H7, G7, n7⟩ := hs7; exact again hn' G7 n7
        | brk => obtain ⟨σ7, H7, G7, q7⟩ := hs7; exact seg_leaf (.ok .next) (k.ok n' ys' s₀' s7 .next hn' ⟨σ7, H7, gi_drop G7, q7⟩)
        | ret v => obtain ⟨x7, σ7, H7, G7, r7, q7⟩ := hs7; exact seg_leaf (.ok (.ret v)) (k.ok n' ys' s₀' s7 (.ret v) hn' ⟨x7, σ7, H7, gi_drop G7, r7, q7⟩)
  exact loop m0 0 n ys s₀ s2 σ H2 hn w0 ⟨acc0, cc0, r0, I2⟩ st2 fun b hb => (f2 b hb).1
end
section
open L2
variable {X : Cx}
/-- l != [] whatever the items are -/
theorem op_neN (hu : X.A.units < cLine) : OpR X (compareOp .NotEq) (fun x y H Q => ∃ a b xs, x = .ref a ∧ y = .ref b ∧ SqL X.K H a xs ∧ SqL X.K H b [] ∧ Q (.bl (!decide (xs.length = 0))) H) := by
  rintro pins s σ H x y v u Q I rx ry ⟨a, b, xs, rfl, rfl, ha, hb, q⟩
  obtain ⟨rfl, rfl⟩ : v = Value.ref a ∧ u = Value.ref b := ⟨rx, ry⟩
  obtain ⟨its, rv, p, _⟩ := I.list ha
  obtain ⟨its2, rv2, p2, _⟩ := I.list hb
  obtain rfl : its2 = [] := by cases rv2; rfl
  have pa := p.isList
  have pb := p2.isList
  obtain ⟨⟨cls, dd, data, sl⟩, ho, hc, n, hd⟩ := id pa
  obtain ⟨⟨cls2, dd2, data2, sl2⟩, ho2, hc2, n2, hd2⟩ := id pb
  simp only at hc hd hc2 hd2
  subst hc hd hc2 hd2
  have ta : s.TypeIs (.ref a) "list" := ⟨_, ho, rfl⟩
  have tyb : s.TypeIs (.ref b) "list" := ⟨_, ho2, rfl⟩
  have hl := rv.length
  refine wpAny_richCompare_same_room (op := .NotEq) ta tyb PySem.F.slot_list_ne ?_ hu
  by_cases z : xs.length = 0
  · have e : its = [] := List.length_eq_zero_iff.mp (by omega)
    subst e
    refine call_meets PySem.F.slot_list_ne ta PySem.F.entry_list_ne (PySem.F.args_list_ne_2 _ _) (PySem.SeqAt.list_neAt a b _ _ n n2 dd dd2 sl sl2 rfl (fun _ => true)) ⟨ho, ho2, fun j h1 => absurd h1 (by simp), show Value.bool _ ≠ Value.notImplemented ∧ EP X pins σ Q _ s from ⟨(fun x => nomatch x), ?_⟩⟩
    rw [z] at q
    exact ⟨.bl _, H, I, rfl, q⟩
  · refine call_meets PySem.F.slot_list_ne ta PySem.F.entry_list_ne (PySem.F.args_list_ne_2 _ _) (PySem.SeqAt.list_ne_lengthsAt a b its.toArray [].toArray n n2 dd dd2 sl sl2 (by simp; intro e; subst e; exact z (by rw [hl]; rfl))) ⟨ho, ho2, show Value.bool _ ≠ Value.notImplemented ∧ EP X pins σ Q _ s from ⟨(fun x => nomatch x), ?_⟩⟩
    rw [decide_eq_false z] at q
    exact ⟨.bl _, H, I, rfl, q⟩
end
end PmG

/-! an own error class right over a builtin one that is not ValueError (IndexError): made, its fields stored -/
namespace PmI
open PySem PySem.W PySem.Calls PyProof.Rows PySem.HandSPX
section
open Builtin Builtin.ObjectAttr
variable {prog : Program} {w : World} {A : Around} {R : Result → Shared → Prop} {hp : Heap} {g : Array GenState} {d : Drawn} {t : Nat} {os : OsState}
/-- the first field of an error: its dict comes with it -/
theorem first_field {K : PySem.W.Frag} {name : Str} {tk : Tok} {v : Value} {x C : Addr} {fv : Array Value} {cd : ClassData}
    (kin : K.In hp) (at_ : hp.get? x = some { cls := .ref C, data := .fields fv }) (cls : PySem.W.clsIn K C = some cd) (some_ : cd.mro.isEmpty = false) (obj : cd.mro.contains (.type "object") = true) (goes : refuseLoop (.ref x) "__setattr__" cd.mro = pure ()) (dct : cd.hasDict = true) (none_ : PySem.W.findIn K (.ref C) name = some none)
    (then_ : ∀ h' tk' dx, (∀ b o, b ≠ x → hp.get? b = some o → h'.get? b = some o) → hp.objs.size ≤ dx → dx ≠ x → h'.get? x = some { cls := .ref C, dict := some dx, data := .fields fv } →
      h'.Ns1 dx (fun y => if y = name then some v else none) → R (.ok (.ret .none)) ⟨h', g, d, tk', os⟩) :
    codeAny (model prog w) A (.call (.builtin "object.__setattr__") ⟨[.ref x, .str name tk, v], []⟩) R ⟨hp, g, d, t, os⟩ := by
  have J : PySem.W.InstAt hp x { cls := .ref C, data := .fields fv } C none := ⟨at_, rfl, rfl, trivial⟩
  have S := F.store_object
  have ne : x ≠ hp.objs.size := Nat.ne_of_lt (Heap.lt_size at_)
  have isO : PySem.W.Looks (model prog w) hp (isInstance (.ref x) (.type "object")) true := J.type.andThen (PySem.W.looks_mroIn kin (by unfold PySem.W.mroIn; rw [cls, Option.bind_some, if_neg (by rw [some_]; decide), obj]))
  refine codeAny_call_builtin S.slot.plain S.entry (@PySem.W.check_slot (model prog w) _ _ ⟨hp, g, d, t, os⟩ "object.__setattr__" "object" "__setattr__" (.ref x) [.str name tk, v] [] _ S.kind S.split isO (S.args (.ref x) (.str name tk) v) ?_)
  have mros : PySem.W.Looks (model prog w) hp (mroOf (.ref C)) cd.mro := (PySem.W.looks_clsIn kin cls).andThen .now
  have taker : PySem.W.Looks (model prog w) hp (storeTaker? none) none := .now
  have clsL : PySem.W.Looks (model prog w) hp (classData C) cd := PySem.W.looks_clsIn kin cls
  rw [PySem.W.osa_eq, refuse_eq]
  refine wpAny_bind (wpAny_bind (J.type.at (wpAny_bind (mros.at ?_))))
  rw [goes]
  refine wpAny_pure (wpAny_bind (J.type.at (wpAny_bind ((PySem.W.looks_findIn kin none_).at (wpAny_bind (taker.at ?_))))))
  show wpAny _ _ (storeInOwnDict (.ref x) (.ref C) (.str name tk) name v false) _ _ _
  obtain ⟨nm, bs, mro, ns, qn, hd, sn, sb, ab, col, del⟩ := cd
  dsimp only at dct
  subst dct
  unfold storeInOwnDict ownDictForStores
  repeat (first | with_reducible refine store_in_new ?_ ?_ | with_reducible refine wpAny_loadPart_at at_ ?_ | with_reducible refine clsL.at ?_ | wp_step)
  · exact ⟨_, #[], _, (Heap.get?_update_ne _ _ _ _ ne.symm).trans (Heap.get?_push_at rfl rfl), rfl, fun e he => absurd he (by simp), fun _ => rfl⟩
  · intro h' tk' ns1 same
    have x1 : (hp.push { cls := .type "dict", data := .dict #[] }).get? x = some { cls := .ref C, data := .fields fv } := Heap.get?_push_of_some _ at_
    refine then_ h' tk' hp.objs.size (fun b o hb ho => ?_) (Nat.le_refl _) ne.symm ?_ ns1
    · exact (same.2 b (Nat.ne_of_lt (Heap.lt_size ho))).trans ((Heap.get?_update_ne _ _ _ _ hb).trans (Heap.get?_push_of_some _ ho))
    · exact (same.2 x ne).trans (Heap.get?_update_self _ x1 rfl)
end
end PmI
namespace PmI
open PySem PySem.Spec PyProof.Rows L2
/-- what the written part says of an error class right over the builtin B, whose own line is tail -/
structure OexG (K : PySem.W.Frag) (C : Addr) (newId : String) (tail : List Value) : Prop where
  cls : ∃ nm q N bs sn sub ab col dd k0 k1 k2 k3 k5, K.lookup C = some (excClassObj nm q C N bs tail true sn sub ab col dd k0 k1 k2 k3 k5 newId)
  sa : PySem.W.findIn K (.ref C) "__setattr__" = some (some (.builtin "object.__setattr__"))
  exC : PySem.W.subIn K (.ref C) (.type "BaseException") = some true
  tyC : PySem.W.typeIn K (.ref C) = some (.type "type")
  kC : PySem.W.keepIn K (.ref C) = true
abbrev ieTail : List Value := [.type "IndexError", .type "LookupError", .type "Exception", .type "BaseException", .type "object"]
section
variable {X : Cx} {pins : List (Addr × Obj)} {σ : L2.St} {H : Hp} {s : Shared} {a C : Addr} {f : Str} {y : V} {u : Value} {Q : Unit → Shared → Prop} {E : Value → Shared → Prop} {A : Around}
theorem ost_newI (T : OexG X.K C "IndexError.__new__" ieTail) (I : L2.Inv X pins σ H s) (e : H a = some (exo a C none)) (hno : PySem.W.findIn X.K (.ref C) f = some none) (ry : RelV y u)
    (h : ∀ dx s', H dx = none → dx ≠ a → L2.Inv X pins σ (upd (upd H dx (exd dx [(f, y)])) a (exo a C (some dx))) s' → Q () s') : wpAny (model X.prog X.w) A (setAttr (.ref a) f u) Q E s := by
  obtain ⟨nm, q, N, bs, sn, sub, ab, col, dd, k0, k1, k2, k3, k5, hC⟩ := T.cls
  have hcl : PySem.W.clsIn X.K C = some { name := nm, bases := bs, mro := .ref C :: ieTail, ns := N, qualname := q, hasDict := true, slotNames := sn, subclasses := sub, abstract := ab, collection := col, hasDel := false } := by
    unfold PySem.W.clsIn; rw [hC] <;> rfl
  obtain ⟨t1, ho⟩ := exo_at I.hok e
  obtain ⟨hp, g, d, t, os⟩ := s
  refine PySem.W.set_plain I.kIn (ox := { cls := .ref C, dict := none, data := .fields #[.ref t1, .none, .none, .none, .bool false, .none] }) (od := none) ⟨ho, rfl, rfl, trivial⟩ T.sa ?_
  refine first_field I.kIn ho hcl rfl rfl (by show refuseLoop (.ref a) "__setattr__" (.ref C :: ieTail) = pure (); rw [refuseLoop_ref]; exact PySem.F.store_IndexError.passes _) rfl hno (fun h' tk' dx k dn dne hx hn => ?_)
  have hnd : H dx = none := I.hok.fresh dn
  have far : ∀ {b : Addr} {o : Obj}, hp.get? b = some o → b ≠ dx := fun {b o} q => Nat.ne_of_lt (Nat.lt_of_lt_of_le (Heap.lt_size q) dn)
  have off : ∀ {b : Addr}, H b = none → b ≠ a := fun {b} n z => by rw [z, e] at n; cases n
  have un : Un X.fs [] H (upd (upd H dx (exd dx [(f, y)])) a (exo a C (some dx))) hp h' :=
    ⟨fun b o q n _ _ => k b o (off n) q, fun b o q n _ _ => ⟨o.slots, k b o (off n) q⟩, fun b o q n _ => by rw [upd_ne (off n), upd_ne (far q)]; exact n,
     fun b o q _ => by
      by_cases hb : b = a
      · exact ⟨_, by rw [hb]; exact hx⟩
      · exact ⟨o, k b o hb q⟩,
     fun b xs q => by rw [upd_ne (at_ne e q exo_tup), upd_ne (ne_of_none q hnd)]; exact q, fun b o v q => by rw [upd_ne (at_ne e q exo_frz), upd_ne (ne_of_none q hnd)]; exact q,
     fun b ps q => ⟨#[], by rw [upd_ne (at_ne e q exo_tbl), upd_ne (ne_of_none q hnd), q]; simp⟩⟩
  refine h dx _ hnd dne (I.un (t' := tk') un fun b o q => ?_)
  by_cases hb : b = a
  · subst hb
    rw [upd_same] at q
    cases q
    exact exo_ok hx
  rw [upd_ne hb] at q
  by_cases hd : b = dx
  · subst hd
    rw [upd_same] at q
    cases q
    exact exd_ok hn (relO_put (fs := []) ry fun g => True.intro)
  rw [upd_ne hd] at q
  refine (I.hok b o q).stay (fun c v hc z => k c v ?_ z) (fun c hc => by rw [upd_ne (at_ne e hc exo_own), upd_ne (ne_of_none hc hnd)]; exact hc) (fun c xs hc => by rw [upd_ne (at_ne e hc exo_tup), upd_ne (ne_of_none hc hnd)]; exact hc)
  rcases hc with hc | hc
  · rw [hc]; exact hb
  · exact at_ne e hc exo_own
/-- self.f = e of such an error that has no dict yet -/
def tOstI (K : PySem.W.Frag) (f : Str) (to te : TE) : TS := fun D σ H => te σ H fun y H1 => to σ H1 fun x H2 => ∃ a C, x = .ref a ∧ OexG K C "IndexError.__new__" ieTail ∧ PySem.W.findIn K (.ref C) f = some none ∧ H2 a = some (exo a C none) ∧
  ∀ dx, H2 dx = none → dx ≠ a → D.nx σ (upd (upd H2 dx (exd dx [(f, y)])) a (exo a C (some dx)))
theorem ps_ostI {o e : Expr} {to te : TE} {p' pos : Pos} (ho : PE X o to) (he : PE X e te) (hs : swapsWith e (some (.Attribute o f p')) pos.line X.env = pure false := by rfl) : PS X (.Assign [.Attribute o f p'] e pos) (tOstI X.K f to te) := by
  refine ⟨fun pn t τ G D I h => ?_⟩
  refine plainObj_wpAny_Assign_Attribute (thn (he.run pn t τ G _ I h) fun v t1 ⟨y, G1, I1, r1, q1⟩ => thn (ho.run pn t1 τ G1 _ I1 q1) fun u t2 ⟨x, G2, I2, r2, a, C, ex, T, hno, ea, q⟩ => ?_) hs
  subst ex
  cases r2
  exact ost_newI T I2 ea hno r1 fun dx t3 n ne J => ⟨τ, _, J, q dx n ne⟩
/-- C(e, ..) of such a class, to be raised -/
theorem pmk_oexI {CX : CXT} {x : Str} {fI : Addr} {k : Nat} {fd : FuncData} {ps : List Str} {sp : Sp} {ds : List Value} {dvs : List V} {e : Expr} {es : List Expr} {ta : TA} {p pos : Pos} (T : OexG X.K C "IndexError.__new__" ieTail) (iC : PySem.W.findIn X.K (.ref C) "__init__" = some (some (.ref fI)))
    (tI : PySem.W.typeIn X.K (.ref fI) = some (.type "function")) (F1 : FnOk X.prog X.w X.K X.mg X.base CX k fI fd ps sp) (hr : Room (k + 1) X.A) (hb : L2.Binds X.K fd ps ds) (hd : Vals dvs ds) (hx : Passes CX X (fun _ _ _ => False)) (hg : Gl X x) (hm : X.mg x = some (.ref C)) (ha : PA X (e :: es) ta)
    (ndb : (x == ("__debug__" : Str)) = false := by decide) (each : starEach (e :: es) X.env = (false, eval e X.env) :: starEach es X.env := by rfl) (nost : (backTo pos (starEach es X.env)).any (·.1) = false := by rfl) :
    PMk X (.Call (.Name x p) (e :: es) [] pos) (tMkO C sp dvs ta) := by
  intro pn t τ G Q I h
  obtain ⟨nm, q, N, bs, sn, sub, ab, col, dd, k0, k1, k2, k3, k5, hC⟩ := T.cls
  refine wpAny_Call_Name_kw (ld_glob I hg hm ?_ ndb)
  refine PySem.W.callWith_K (h₀ := X.base) I.ok.mod.kin T.kC (thn (ha.run pos pn t τ G _ I h) fun us t1 ⟨vs, G1, I1, r1, hz, q1⟩ => ⟨I1.kIn, ?_⟩) each nost
  show wpAny _ _ (call (.ref C) us) _ _ _
  obtain ⟨hp, g, dr, tk, os⟩ := t1
  have up : hp.objs.size ≤ hp.objs.size + 1 := Nat.le_succ _
  have new : G1 (hp.objs.size + 1) = none := I1.hok.fresh up
  have asked := q1 (hp.objs.size + 1) new
  have keep : ∀ b o, hp.get? b = some o → ((hp.push (PySem.W.kdv_tup us)).push (PySem.HandSPX.excO C hp.objs.size)).get? b = some o := fun b o e => Heap.get?_push_of_some _ (Heap.get?_push_of_some _ e)
  have here : ((hp.push (PySem.W.kdv_tup us)).push (PySem.HandSPX.excO C hp.objs.size)).get? (hp.objs.size + 1) = some (PySem.HandSPX.excO C hp.objs.size) := by heap_get
  have I2 : L2.Inv X pn τ (upd G1 (hp.objs.size + 1) (exo (hp.objs.size + 1) C none)) ⟨(hp.push (PySem.W.kdv_tup us)).push (PySem.HandSPX.excO C hp.objs.size), g, dr, tk, os⟩ :=
    I1.laid (t' := tk) (a := hp.objs.size + 1) (o := exo (hp.objs.size + 1) C none) (h' := (hp.push (PySem.W.kdv_tup us)).push (PySem.HandSPX.excO C hp.objs.size)) keep up (exo_ok here)
  have args : Vals (V.ref (hp.objs.size + 1) :: (vs ++ dvs)) (Value.ref (hp.objs.size + 1) :: (us ++ ds)) := .cons rfl (r1.append hd)
  have many : (Value.ref (hp.objs.size + 1) :: us ++ ds).length = ps.length := by
    have e := args.length
    rw [F1.len _ _ _ _ asked] at e
    exact e.symm
  have few : us.length ≤ sizeLine := by
    rw [← Paired.length r1, sizeLine_eq]
    omega
  refine wpAny_call (PySem.HandSPX.call_own PySem.F.excBase_IndexError (fun Y => rfl) (I1.kIn _ _ hC) (PySem.W.looks_findIn I1.kIn iC) (fun self => PySem.W.bind_fn I1.kIn self tI) few
    (codeAny_mono (F1.run _ X.stack _ _ ⟨Value.ref (hp.objs.size + 1) :: us, []⟩ (Value.ref (hp.objs.size + 1) :: (us ++ ds)) _ _ (fun _ _ _ => False) (hr.make C us []) (I2.env0.make C us []) (hb _ (Value.ref (hp.objs.size + 1) :: us) I2.kIn many) args asked) fun r t' back => ?_))
  rcases r with er | fl
  · exact hx pn τ _ _ er t' I2 back
  · rcases fl with u | _ | _ | _
    all_goals first | exact False.elim back | skip
    obtain ⟨v, G2, os2, bare, un2, hok2, rv, ev, d, fs, ea, ed, hd1, q2⟩ := back
    subst ev
    obtain ⟨h2, g2, d2, t2, os'⟩ := t'
    exact ⟨rv, mk_end (raises_own T.exC T.tyC) I1 up keep un2 hok2 os2 bare ea ed hd1 q2⟩
end
end PmI

/-! PmExK: own errors as values: made by position and by names; their fields read; isinstance of them -/
namespace PmX
open PySem PySem.W PySem.Calls PyProof.Rows PySem.HandSPX
/-- one or two keywords -/
def Few (kw : List (Str × Value)) : Prop := kw = [] ∨ (∃ z v, kw = [(z, v)]) ∨ ∃ z v y u, kw = [(z, v), (y, u)]
section
variable {M : Model} {A : Around} {E : Value → Shared → Prop} {hp : Heap} {ge : Array GenState} {dr : Drawn} {tk : Nat} {os : OsState}
variable {nm q : Str} {C N : Addr} {bs bm bB : List Value} {hd : Bool} {sn : List Str} {sb : List Value} {ab : Bool} {co : Option Bool} {dd : Option Addr} {k0 k1 k2 k3 k5 : Option Value} {B nw ini : String}
theorem kw_check (F : ExcBaseFacts B nw ini bB) (same : ∀ x : String, bm.contains (.type x) = bB.contains (.type x)) {kw : List (Str × Value)} (few : Few kw) {Q : Unit → Shared → Prop}
    (at_ : hp.get? C = some (excClassObj nm q C N bs bm hd sn sb ab co dd k0 k1 k2 k3 k5 nw)) (go : Q () ⟨hp, ge, dr, tk, os⟩) : wpAny M A (checkBuiltinCall nw ⟨[.ref C], kw⟩) Q E ⟨hp, ge, dr, tk, os⟩ := by
  have yes : (Value.ref C :: bm).contains (.type B) = true := by rw [List.contains_cons, same, F.hasB, Bool.or_true]
  have star := F.noStar
  rcases few with rfl | ⟨z, v, rfl⟩ | ⟨z, v, y, u, rfl⟩
  all_goals
    simp only [checkBuiltinCall, F.newKind, F.newSplit, F.newRow]
    repeat (first | refine wpAny_loadPart_at at_ ?_ | (refine wpAny_isSubtype_exc at_ ?_; rw [yes]) | refine wpAny_staticBase_exc at_ ?_ | refine wpAny_madeBy_exc at_ ?_ | simp only [bne_self_eq_false, Bool.false_eq_true, if_false] | wp_step)
    exact go
end
section
variable {prog : Program} {w : World} {A : Around} {E : Value → Shared → Prop} {R : Result → Shared → Prop} {hp : Heap} {ge : Array GenState} {dr : Drawn} {tk : Nat} {os : OsState}
variable {nm q : Str} {C N : Addr} {bs bm bB : List Value} {hd : Bool} {sn : List Str} {sb : List Value} {ab : Bool} {co : Option Bool} {dd : Option Addr} {k0 k1 k2 k3 k5 : Option Value} {B nw ini : String}
theorem kw_new (F : ExcBaseFacts B nw ini bB) (same : ∀ x : String, bm.contains (.type x) = bB.contains (.type x)) {kw : List (Str × Value)}
    (at_ : hp.get? C = some (excClassObj nm q C N bs bm hd sn sb ab co dd k0 k1 k2 k3 k5 nw)) (few : Few kw)
    (go : R (.ok (.ret (.ref (hp.objs.size + 1)))) ⟨(hp.push (PySem.W.kdv_tup [])).push (excO C hp.objs.size), ge, dr, tk, os⟩) : codeAny (model prog w) A (.builtin nw ⟨[.ref C], kw⟩) R ⟨hp, ge, dr, tk, os⟩ := by
  have yes : (Value.ref C :: bm).contains (.type B) = true := by rw [List.contains_cons, same, F.hasB, Bool.or_true]
  have no1 : (Value.ref C :: bm).contains (.type "AttributeError") = false := by rw [List.contains_cons, same, F.noAttr]; rfl
  have no2 : (Value.ref C :: bm).contains (.type "NameError") = false := by rw [List.contains_cons, same, F.noName]; rfl
  have ends := F.ends
  refine codeAny_builtinAt F.entry ?_
  unfold Builtin.«BaseException.__new__»; refine PySem.wpAt_bind ?_
  show PySem.wpAt _ _ _ (stack >>= _) _ _ _
  refine PySem.wpAt_bind (PySem.wpAt_stack fun pp below => PySem.wpAt_of_wpAny ?_)
  wp_walk
  refine PySem.wpAt_of_wpAny ?_; rw [F.owner]
  repeat (first | with_reducible refine wpAny_madeHere_exc F.canon at_ ?_ | with_reducible refine wpAny_loadPart_at at_ ?_ | (with_reducible refine wpAny_isSubtype_exc at_ ?_; first | rw [yes] | rw [no1] | rw [no2]) | wp_step)
  show R _ _
  rw [Heap.size_push]; exact go
theorem kw_call (F : ExcBaseFacts B nw ini bB) (same : ∀ x : String, bm.contains (.type x) = bB.contains (.type x)) {kw : List (Str × Value)} (few : Few kw) {fI : Addr}
    (at_ : hp.get? C = some (excClassObj nm q C N bs bm hd sn sb ab co dd k0 k1 k2 k3 k5 nw)) (li : Looks (model prog w) hp (typeLookup (.ref C) "__init__") (some (.ref fI))) (lb : ∀ me, Looks (model prog w) hp (bindSpecial (.ref fI) me) (.ref fI, [me]))
    (go : codeAny (model prog w) (A.under (.builtin "type.__call__" ⟨[.ref C], kw⟩)) (.call (.ref fI) ⟨[.ref (hp.objs.size + 1)], kw⟩) (InitBack (hp.objs.size + 1) R) ⟨(hp.push (PySem.W.kdv_tup [])).push (excO C hp.objs.size), ge, dr, tk, os⟩) :
    codeAny (model prog w) A (.call (.ref C) ⟨[], kw⟩) R ⟨hp, ge, dr, tk, os⟩ := by
  have ty : (⟨hp, ge, dr, tk, os⟩ : Shared).TypeIs (.ref C) "type" := ⟨_, at_, rfl⟩
  have t1 := tc_lookup
  have t2 := tc_bind (.ref C)
  refine codeAny_of_tree ?_
  show wpAny _ _ (callAny (.ref C) _) _ _ _
  repeat (any_goals (first | assumption | with_reducible refine wpAny_loadPart_at at_ ?_ | wp_step))
  refine ⟨rfl, codeAny_call_builtin_at (Code.quiet_builtin _ (by decide +kernel)) entry_typeCall ?_⟩
  have f3 := tc_sub
  have chk : ∀ {Q' : Unit → Shared → Prop} {E' : Value → Shared → Prop} {A' : Around}, Q' () ⟨hp, ge, dr, tk, os⟩ → wpAny (model prog w) A' (checkBuiltinCall "type.__call__" ⟨[.ref C], kw⟩) Q' E' ⟨hp, ge, dr, tk, os⟩ := by
    intro Q' E' A' hq
    rcases few with rfl | ⟨z, v, rfl⟩ | ⟨z, v, y, u, rfl⟩
    all_goals
      simp only [checkBuiltinCall, tc_kind, tc_split]
      repeat (any_goals (first | assumption | with_reducible refine wpAny_loadPart_at at_ ?_ | with_reducible refine wpAny_onRaise ?_ | with_reducible refine wpAny_map ?_ | wp_step))
  refine chk ?_
  show wpAny _ _ (Builtin.«type.__call__» _) _ _ _
  repeat (first | with_reducible refine wpAny_loadPart_at at_ ?_ | with_reducible refine wpAny_madeBy_exc at_ ?_ | wp_step)
  refine codeAny_call_builtin_code (Code.quiet_builtin _ F.quiet) (kw_check F same few at_ ?_)
  refine kw_new F same at_ few ?_
  show wpAny _ _ _ _ _ _
  have k : ∀ b o, hp.get? b = some o → ((hp.push (PySem.W.kdv_tup [])).push (excO C hp.objs.size)).get? b = some o := fun b o e => Heap.get?_push_of_some _ (Heap.get?_push_of_some _ e)
  have at2 := k _ _ at_
  have me : ((hp.push (PySem.W.kdv_tup [])).push (excO C hp.objs.size)).get? (hp.objs.size + 1) = some (excO C hp.objs.size) := by heap_get
  have self_ : (Value.ref C :: bm).contains (.ref C) = true := by simp
  have l1 := li.keeps k
  have l2 := (lb (.ref (hp.objs.size + 1))).keeps k
  unfold isInstance
  repeat (first | with_reducible refine wpAny_loadPart_at me ?_ | (with_reducible refine wpAny_isSubtype_exc at2 ?_; rw [self_]) | wp_step)
  show wpAny _ _ (typeLookup (.ref C) _) _ _ _
  refine l1.at (wpAny_holding (wpAny_bind (l2.at (wpAny_bind (wpAny_call (codeAny_mono go fun r s' z => ?_))))))
  rcases r with e | (v | _ | _ | _) <;> first | exact z | exact z.elim | skip
  obtain ⟨rfl, z⟩ := z
  first | exact wpAny_pure (wpAny_pure z) | (wp_walk; exact z)
end
end PmX

namespace PmX
open PySem PySem.Spec PyProof.Rows L2
/-- which builtin stands right under the class, and what the written part says of it -/
structure OexV (K : PySem.W.Frag) (C : Addr) : Prop where
  cls : ∃ nm q N bs bm sn sub ab col dd k0 k1 k2 k3 k5 B nw ini bB, K.lookup C = some (excClassObj nm q C N bs bm true sn sub ab col dd k0 k1 k2 k3 k5 nw) ∧ ExcBaseFacts B nw ini bB ∧ ∀ x : String, bm.contains (.type x) = bB.contains (.type x)
  kC : PySem.W.keepIn K (.ref C) = true
theorem OexV.of {K : PySem.W.Frag} {C : Addr} (T : OexC K C) : OexV K C := by
  obtain ⟨nm, q, N, bs, bm, sn, sub, ab, col, dd, k0, k1, k2, k3, k5, l, r⟩ := T.cls
  exact ⟨⟨nm, q, N, bs, bm, sn, sub, ab, col, dd, k0, k1, k2, k3, k5, _, _, _, _, l, PySem.F.excBase_ValueError, fun x => HandSPX.refsVE_contains x bm r⟩, T.kC⟩
theorem OexV.ofI {K : PySem.W.Frag} {C : Addr} (T : PmI.OexG K C "IndexError.__new__" PmI.ieTail) : OexV K C := by
  obtain ⟨nm, q, N, bs, sn, sub, ab, col, dd, k0, k1, k2, k3, k5, l⟩ := T.cls
  exact ⟨⟨nm, q, N, bs, _, sn, sub, ab, col, dd, k0, k1, k2, k3, k5, _, _, _, _, l, PySem.F.excBase_IndexError, fun x => rfl⟩, T.kC⟩
/-- C(..) as a value: a new error, then its __init__ -/
def tExV (C : Addr) (m : Nat) (sp : Sp) (gV : List V → List V → List V) (t tk : TA) : TE := fun σ H Q => t σ H fun vs H1 => tk σ H1 fun zs H2 => vs.length ≤ 1000 ∧ zs.length = m ∧ ∀ x, H2 x = none → sp (gV (.ref x :: vs) zs) (upd H2 x (exo x C none)) (fun v H3 => v = .non ∧ Q (.ref x) H3) (fun _ _ _ => False)
section
variable {X : Cx} {CX : CXT} {k : Nat} {fI C : Addr} {fd : FuncData} {ps ks : List Str} {sp : Sp} {x : Str} {p pos : Pos} {e : Expr} {es : List Expr} {kws : List Keyword} {t tk : TA} {g : List Value → List Value → List Value} {gV : List V → List V → List V}
theorem born {h : Heap} {G : Hp} {gs : Array GenState} {dr : Drawn} {tk : Nat} {os : OsState} {pn : List (Addr × Obj)} {τ : L2.St} {us : List Value} (I : L2.Inv X pn τ G ⟨h, gs, dr, tk, os⟩) :
    G (h.objs.size + 1) = none ∧ L2.Inv X pn τ (upd G (h.objs.size + 1) (exo (h.objs.size + 1) C none)) ⟨(h.push (PySem.W.kdv_tup us)).push (HandSPX.excO C h.objs.size), gs, dr, tk, os⟩ := by
  have up : h.objs.size ≤ h.objs.size + 1 := Nat.le_succ _
  exact ⟨I.hok.fresh up, I.laid (t' := tk) (fun b o q => Heap.get?_push_of_some _ (Heap.get?_push_of_some _ q)) up (exo_ok (by heap_get))⟩
theorem pe_exK (T : OexV X.K C) (iC : PySem.W.findIn X.K (.ref C) "__init__" = some (some (.ref fI))) (tI : PySem.W.typeIn X.K (.ref fI) = some (.type "function")) (F : FnOk X.prog X.w X.K X.mg X.base CX k fI fd ps sp) (hr : Room (k + 1) X.A) (hb : KBn X.K fd ps 1 ks g gV)
    (hx : Passes CX X (fun _ _ _ => False)) (hg : Gl X x) (hm : X.mg x = some (.ref C)) (hkw : PK X kws tk) (small : ∀ ws : List Value, ws.length = ks.length → Few (ks.zip ws))
    (hall : (backToKw pos (keywordEach kws X.env)).all (·.1.isSome) = true := by rfl) (hks : (backToKw pos (keywordEach kws X.env)).filterMap (·.1) = ks := by rfl) (ndb : (x == ("__debug__" : Str)) = false := by decide)
    (pl : ((backTo pos (starEach [] X.env)).any (·.1) || (backToKw pos (keywordEach kws X.env)).any (·.1.isNone)) = false := by rfl) :
    PE X (.Call (.Name x p) [] kws pos) (tExV C ks.length sp gV tNil tk) := by
  refine ⟨fun pn s τ G Q I h => ?_⟩
  obtain ⟨nm, q, N, bs, bm, sn, sub, ab, col, dd, k0, k1, k2, k3, k5, B, nw, ini, bB, hC, Fb, sm⟩ := T.cls
  refine wpAny_Call_Name_kw (ld_glob I hg hm ?_ ndb)
  refine PySem.W.callWith_KW0 (h₀ := X.base) I.ok.mod.kin T.kC hall ?_ pl
  refine thn (hkw.run pos pn s τ G _ I h) fun ws s2 ⟨zs, H2, I2, rz, l1, l2, q2⟩ => ⟨I2.kIn, ?_⟩
  rw [hks]
  show wpAny _ _ (call (.ref C) [] (ks.zip ws)) _ _ _
  obtain ⟨h, gs, dr, tk, os⟩ := s2
  obtain ⟨fresh, I3⟩ := born (C := C) (us := []) I2
  have r2 := hb.rel (show Vals [V.ref (h.objs.size + 1)] [Value.ref (h.objs.size + 1)] from .cons rfl .nil) rz
  have few := small ws (rz.length.symm.trans l2)
  refine wpAny_call (kw_call Fb sm few (I2.kIn _ _ hC) (PySem.W.looks_findIn I2.kIn iC) (fun me => PySem.W.bind_fn I2.kIn me tI)
    (codeAny_mono (F.run _ X.stack _ _ ⟨[Value.ref (h.objs.size + 1)], ks.zip ws⟩ _ _ _ (fun _ _ _ => False) (hr.make C [] (ks.zip ws)) (I3.env0.make C [] (ks.zip ws)) (hb.to _ [Value.ref (h.objs.size + 1)] ws I3.kIn rfl (rz.length.symm.trans l2)) r2 (q2 _ fresh)) fun r t' back => ?_))
  rcases r with er | fl
  · exact hx pn τ _ _ er t' I3 back
  · rcases fl with u | _ | _ | _
    all_goals first | exact False.elim back | skip
    obtain ⟨v, H', I4, rv, ev, q3⟩ := I3.after back
    subst ev
    exact ⟨rv, ⟨V.ref (h.objs.size + 1), H', I4, rfl, q3⟩⟩
theorem pe_exP {ds : List Value} {dvs : List V} (T : OexV X.K C) (iC : PySem.W.findIn X.K (.ref C) "__init__" = some (some (.ref fI))) (tI : PySem.W.typeIn X.K (.ref fI) = some (.type "function")) (F : FnOk X.prog X.w X.K X.mg X.base CX k fI fd ps sp) (hr : Room (k + 1) X.A) (hb : L2.Binds X.K fd ps [])
    (hx : Passes CX X (fun _ _ _ => False)) (hg : Gl X x) (hm : X.mg x = some (.ref C)) (ha : PA X (e :: es) t)
    (ndb : (x == ("__debug__" : Str)) = false := by decide) (each : starEach (e :: es) X.env = (false, eval e X.env) :: starEach es X.env := by rfl) (nost : (backTo pos (starEach es X.env)).any (·.1) = false := by rfl) :
    PE X (.Call (.Name x p) (e :: es) [] pos) (tExV C 0 sp (fun vs _ => vs) t tNil) := by
  refine ⟨fun pn s τ G Q I h => ?_⟩
  obtain ⟨nm, q, N, bs, bm, sn, sub, ab, col, dd, k0, k1, k2, k3, k5, B, nw, ini, bB, hC, Fb, sm⟩ := T.cls
  refine wpAny_Call_Name_kw (ld_glob I hg hm ?_ ndb)
  refine PySem.W.callWith_K (h₀ := X.base) I.ok.mod.kin T.kC (thn (ha.run pos pn s τ G _ I h) fun us t1 ⟨vs, H1, I1, r1, lv, _, q1⟩ => ⟨I1.kIn, ?_⟩) each nost
  show wpAny _ _ (call (.ref C) us) _ _ _
  obtain ⟨h, gs, dr, tk, os⟩ := t1
  obtain ⟨fresh, I3⟩ := born (C := C) (us := us) I1
  have asked := q1 _ fresh
  have args : Vals (V.ref (h.objs.size + 1) :: vs) (Value.ref (h.objs.size + 1) :: us) := .cons rfl r1
  have many : (Value.ref (h.objs.size + 1) :: us ++ []).length = ps.length := by
    rw [List.append_nil, ← args.length]
    exact F.len _ _ _ _ asked
  have few : us.length ≤ sizeLine := by
    rw [← r1.length]
    exact Nat.le_of_lt (small1000 lv)
  refine wpAny_call (HandSPX.call_own Fb sm (I1.kIn _ _ hC) (PySem.W.looks_findIn I1.kIn iC) (fun me => PySem.W.bind_fn I1.kIn me tI) few
    (codeAny_mono (F.run _ X.stack _ _ ⟨Value.ref (h.objs.size + 1) :: us, []⟩ _ _ _ (fun _ _ _ => False) (hr.make C us []) (I3.env0.make C us []) (by have := hb _ (Value.ref (h.objs.size + 1) :: us) I3.kIn many; rwa [List.append_nil] at this) args asked) fun r t' back => ?_))
  rcases r with er | fl
  · exact hx pn τ _ _ er t' I3 back
  · rcases fl with u | _ | _ | _
    all_goals first | exact False.elim back | skip
    obtain ⟨v, H', I4, rv, ev, q3⟩ := I3.after back
    subst ev
    exact ⟨rv, ⟨V.ref (h.objs.size + 1), H', I4, rfl, q3⟩⟩
/-- C(), no __init__ of its own -/
theorem pe_ex0 {bmB : List Value} {B newId initId : String} (F : ExcBaseFacts B newId initId bmB) (q : PySem.W.excIn X.K C bmB newId = true) (gC : X.mg x = some (.ref C)) (kC : PySem.W.keepIn X.K (.ref C) = true) (hg : Gl X x) (ndb : (x == ("__debug__" : Str)) = false := by decide) :
    PE X (.Call (.Name x p) [] [] pos) (fun σ H Q => ∀ a, H a = none → Q (.ref a) (upd H a (exo a C none))) := by
  refine ⟨fun pn s τ G Q I h => ?_⟩
  refine wpAny_Call_Name_kw (ld_glob I hg gC ?_ ndb)
  refine PySem.W.callWith_K0 (first := []) I.kIn kC ?_
  show wpAny _ _ (call (.ref C) []) _ _ _
  obtain ⟨bm, N, nm, qn, bs, hdct, sn, sub, ab, col, dd, k0, k1, k2, k3, k5, mN, hC, hN, hni, T⟩ := exc_obj I.kIn q
  refine wpAny_call_exc_subT F T hC hN hni (fun h' a hm => ?_) (by show 0 ≤ sizeLine; rw [sizeLine_eq]; omega)
  have hn : G a = none := I.hok.gone hm.new
  obtain ⟨t1, ht, _, _⟩ := hm.there
  exact ⟨.ref a, upd G a (exo a C none), I.laidN hm.keeps hm.new hn (exo_ok ht), rfl, h a hn⟩
/-- e.f of such a value -/
def tXfV (C : Addr) (n : Str) (te : TE) : TE := fun σ H Q => te σ H fun x H1 => ∃ a dx fs v, x = .ref a ∧ H1 a = some (exo a C (some dx)) ∧ H1 dx = some (exd dx fs) ∧ fs.lookup n = some v ∧ Q v H1
theorem pe_xfV {n : Str} {te : TE} (T : XfC X.K C) (hno : PySem.W.findIn X.K (.ref C) n = some none) (he : PE X e te) (hb : attributeBase e n X.env (eval e X.env) = eval e X.env := by rfl) : PE X (.Attribute e n pos) (tXfV C n te) := by
  refine ⟨fun pn s τ G Q I h => ?_⟩
  refine attr_of hb (thn (he.run pn s τ G _ I h) fun u s1 ⟨y, H1, I1, rx, a, dx, fs, v, ex, ea, ed, l, q⟩ => ?_)
  subst ex
  obtain rfl : u = Value.ref a := rx
  obtain ⟨t1, ha⟩ := exo_at I1.hok ea
  obtain ⟨mA, hns, hr⟩ := exd_at I1.hok ed
  obtain ⟨od, ho, hl⟩ := lookIn_ns hns
  obtain ⟨u, hu, ru⟩ := RelO.some_of (v := v) (o := mA n) (by rw [← l]; exact hr n)
  have J : PySem.W.InstAt s1.heap a _ C (some od) := ⟨ha, rfl, rfl, ho⟩
  exact HandSPX.exc_get I1.kIn J T.ga T.gg T.exC (PySem.W.findObj_own T.hdC hno rfl (by rw [hl, hu])) (handed_of ru) ⟨v, H1, I1.tok _, ru, q⟩
/-- isinstance of such a value -/
def rIsV (K : PySem.W.Frag) : List V → Hp → VK → Prop := fun xs H Q => ∃ a D d c cv b, xs = [.ref a, c] ∧ ExcC K D ∧ H a = some (exo a D d) ∧ (d = none ∨ ∃ dx fs, d = some dx ∧ H dx = some (exd dx fs)) ∧ ClsV c cv ∧ PySem.W.kitOne K (.ref D) cv = some b ∧ Q (.bl b) H
theorem call_isV : CallR X (.builtin "isinstance") (rIsV X.K) := by
  rintro pn s τ G xs us Q I r ⟨a, D, d, c, cv, b, rfl, T, ea, hd, hc, e, q⟩
  obtain ⟨u1, u2, rfl, r1, r2⟩ := vals2 r
  obtain rfl : u1 = Value.ref a := r1
  have e2 := hc.eq r2
  subst e2
  obtain ⟨t1, ha⟩ := exo_at I.hok ea
  have J : ∃ od, PySem.W.InstAt s.heap a { cls := .ref D, dict := d, data := .fields #[.ref t1, .none, .none, .none, .bool false, .none] } D od := by
    rcases hd with rfl | ⟨dx, fs, rfl, ed⟩
    · exact ⟨none, ha, rfl, rfl, trivial⟩
    · obtain ⟨mA, hns, _⟩ := exd_at I.hok ed
      obtain ⟨od, ho, _⟩ := lookIn_ns hns
      exact ⟨some od, ha, rfl, rfl, ho⟩
  obtain ⟨od, J⟩ := J
  exact PySem.W.kia_one (Pm.kitx_excX T) I.kIn J e (fun z => nomatch z) fun tk => ⟨.bl b, G, I.tok tk, rfl, q⟩
end
end PmX

/-! an own instance called -/
namespace PmI
open PySem PySem.Spec PySem.Calls PyProof.Rows PySem.W
/-- a call of an own instance, its arguments worked out first: what stands there then is asked for then -/
theorem inst_call {M : Model} {A : Around} {E : Value → Shared → Prop} {s : Shared} {K : Frag} {env : Env} {pos : Pos} {x C : Addr} {ox : Obj} {Q : Value → Shared → Prop} {e : Expr} {rest : List Expr} (dat : ox.data = .plain)
    (each : starEach (e :: rest) env = (false, eval e env) :: starEach rest env) (nost : (backTo pos (starEach rest env)).any (·.1) = false)
    (h : wpAny M A (spliced (backTo pos (starEach (e :: rest) env))) (fun vs t => (∃ od, InstAt t.heap x ox C od) ∧ wpAny M A (call (.ref x) vs) Q E t) E s) :
    wpAny M A (callWith pos (.ref x) [] (backTo pos (starEach (e :: rest) env)) []) Q E s := by
  rw [each] at h ⊢
  have h2 : wpAny M A (spliced ((false, eval e env) :: backTo pos (starEach rest env))) (fun vs t => (∃ od, InstAt t.heap x ox C od) ∧ wpAny M A (call (.ref x) ([] ++ vs) []) Q E t) E s := h
  unfold callWith
  refine wpAny_bind (wpAny_holding (wpAny_mono (evalArgs_plain (f := .ref x) (x := eval e env) (rest := backTo pos (starEach rest env)) (E := E) (Q := fun a t => (∃ od, InstAt t.heap x ox C od) ∧ wpAny M A (call (.ref x) ([] ++ a.pos) a.kw) Q E t) h2) (fun a t ht => wpAny_bind (wpAny_standAt ?_)) fun _ _ y => y))
  obtain ⟨⟨od, J⟩, ht⟩ := ht
  have L := kco_keeper (M := M) J dat
  simp only [show ((false, eval e env) :: backTo pos (starEach rest env)).any (·.1) = false by rw [List.any_cons, nost]; rfl]
  refine wpAny_bind (L.here ?_)
  exact wpAny_bind (wpAny_mono (wpAny_operateT ht) (fun r t2 hr => wpAny_bind (wpAny_holding (wpAny_point (wpAny_pure hr)))) fun _ _ y => y)
end PmI
namespace Pm
open PySem PySem.Spec PyProof.Rows L2
section
variable {X : Cx} {CX : CXT} {C f : Addr} {fd : FuncData} {ps : List Str} {k : Nat} {sp : Sp} {E : XK} {e : Expr} {es : List Expr} {x : Str} {p pos : Pos} {to : TE} {t : TA}
def tCallO (C : Addr) (sp : Sp) (E : XK) (to : TE) (t : TA) : TE := fun σ H Q => to σ H fun o H1 => ∃ a dx fs, o = .ref a ∧ H1 a = some (.ins C dx fs) ∧ t σ H1 fun vs H2 => H2 a = some (.ins C dx fs) ∧ sp (.ref a :: vs) H2 Q E
/-- o(e, ..) -/
theorem pe_callO (S : Spc X.K C "__call__" f) (fn : PySem.W.fnIn X.K f = true) (F : FnOk X.prog X.w X.K X.mg X.base CX k f fd ps sp) (hr : Room (k + 1) X.A) (hb : L2.Binds X.K fd ps []) (hx : ∀ σ, PassesAt CX X σ E) (ho : PE X (.Name x p) to) (ha : PA X (e :: es) t)
    (each : starEach (e :: es) X.env = (false, eval e X.env) :: starEach es X.env := by rfl) (nost : (backTo pos (starEach es X.env)).any (·.1) = false := by rfl) :
    PE X (.Call (.Name x p) (e :: es) [] pos) (tCallO C sp E to t) := by
  refine ⟨fun pn s τ G Q I h => wpAny_Call_Name_kw (thn (ho.run pn s τ G _ I h) fun u s1 ⟨o, G1, I1, r1, a, dx, fs, eo, ea, q⟩ => ?_)⟩
  subst eo
  cases r1
  obtain ⟨od, J⟩ := inst_of I1 ea
  refine PmI.inst_call (K := X.K) (C := C) (ox := PySem.W.instObj C dx) rfl each nost (thn (ha.run pos pn s1 τ G1 _ I1 q) fun us s2 ⟨vs, G2, I2, r2, ea2, q2⟩ => ?_)
  obtain ⟨od2, J2⟩ := inst_of I2 ea2
  refine ⟨⟨_, J2⟩, ?_⟩
  have rr : Vals (V.ref a :: vs) (Value.ref a :: us) := .cons rfl r2
  have sb := sub_self (hr.mono (Nat.le_succ k))
  have len : (Value.ref a :: us).length = ps.length := rr.length.symm.trans (F.len _ _ _ _ q2)
  have bt := hb s2 (Value.ref a :: us) I2.kIn (by simpa using len)
  simp only [List.append_nil] at bt
  have e1 := I2.env0
  refine wpAny_call (PySem.W.kco_code I2.kIn J2 rfl S.at_ S.fn fn (codeAny_mono (F.run X.A X.stack s2 G2 ⟨Value.ref a :: us, []⟩ (Value.ref a :: us) (V.ref a :: vs) Q E sb.room e1 bt rr q2) fun res s' w => ?_))
  match res, w with
  | .error er, w => exact hx _ pn G2 s2 er s' I2 w
  | .ok (.ret u), w => exact I2.after w
end
end Pm
namespace PmI
open PySem PySem.Calls PySem.W PyProof.Rows
open PySem.Sem (wp)
/-- bool(t) of a tuple -/
theorem bool_tup_meets (t : Addr) (xs : Array Value) (fits : (xs.size : Int) < 2 ^ 63) :
    Meets (Builtin.«bool.__new__» ⟨[.type "bool", .ref t], []⟩) (fun _ R s => IsTup s.heap t xs ∧ ∀ k, R (.ok (.ret (.bool (!xs.isEmpty)))) { s with toks := k }) :=
  Meets.of_wp fun P w A R s asked => by
    obtain ⟨tup, asked⟩ := asked
    obtain ⟨hp, g, d, tk, os⟩ := s
    have sub := F.conv_sub_bool
    repeat (any_goals (first | assumption | (with_reducible refine truthy_tuple tup fits ?_) | wp_step))
    all_goals first | exact ⟨_, rfl, asked _⟩ | exact asked _ | skip
end PmI
namespace Pm
open PySem PySem.Spec PyProof.Rows L2
variable {X : Cx}
theorem call_boolT : CallR X (.type "bool") (fun xs H Q => ∃ (a : Addr) (zs : List V), xs = [.ref a] ∧ SqT X.K H a zs ∧ Q (.bl (!zs.isEmpty)) H) := by
  rintro pn s σ H xs us Q I r ⟨a, zs, rfl, hq, q⟩
  cases Vals.ref1 r
  obtain ⟨its, rv, tup, _⟩ := I.tuple hq
  have l1 := line63
  have l2 := rv.length
  refine PySem.call_bool_1 (PmI.bool_tup_meets a its.toArray (by simp only [List.size_toArray]; omega)) ⟨tup, fun k => ⟨rfl, .bl (!zs.isEmpty), H, I.tok _, by rw [isEmpty_of rv]; rfl, q⟩⟩
end Pm
namespace PmG
open PySem PySem.Calls L2
section
variable {X : Cx}
/-- l == [] whatever the items are -/
theorem op_eqN (hu : X.A.units < cLine) : OpR X (compareOp .Eq) (fun x y H Q => ∃ a b xs, x = .ref a ∧ y = .ref b ∧ SqL X.K H a xs ∧ SqL X.K H b [] ∧ Q (.bl (decide (xs.length = 0))) H) := by
  rintro pins s σ H x y v u Q I rx ry ⟨a, b, xs, rfl, rfl, ha, hb, q⟩
  obtain ⟨rfl, rfl⟩ : v = Value.ref a ∧ u = Value.ref b := ⟨rx, ry⟩
  obtain ⟨its, rv, p, _⟩ := I.list ha
  obtain ⟨its2, rv2, p2, _⟩ := I.list hb
  obtain rfl : its2 = [] := by cases rv2; rfl
  have pa := p.isList
  have pb := p2.isList
  obtain ⟨⟨cls, dd, data, sl⟩, ho, hc, n, hd⟩ := id pa
  obtain ⟨⟨cls2, dd2, data2, sl2⟩, ho2, hc2, n2, hd2⟩ := id pb
  simp only at hc hd hc2 hd2
  subst hc hd hc2 hd2
  have ta : s.TypeIs (.ref a) "list" := ⟨_, ho, rfl⟩
  have tyb : s.TypeIs (.ref b) "list" := ⟨_, ho2, rfl⟩
  have hl := rv.length
  refine wpAny_richCompare_same_room (op := .Eq) ta tyb PySem.F.slot_list_eq ?_ hu
  by_cases z : xs.length = 0
  · have e : its = [] := List.length_eq_zero_iff.mp (by omega)
    subst e
    refine call_meets PySem.F.slot_list_eq ta PySem.F.entry_list_eq (PySem.F.args_list_eq_2 _ _) (PySem.SeqAt.list_eqAt a b _ _ n n2 dd dd2 sl sl2 rfl (fun _ => true)) ⟨ho, ho2, fun j h1 => absurd h1 (by simp), show Value.bool _ ≠ Value.notImplemented ∧ EP X pins σ Q _ s from ⟨(fun x => nomatch x), ?_⟩⟩
    rw [z] at q
    exact ⟨.bl _, H, I, rfl, q⟩
  · refine call_meets PySem.F.slot_list_eq ta PySem.F.entry_list_eq (PySem.F.args_list_eq_2 _ _) (PySem.SeqAt.list_eq_lengthsAt a b its.toArray [].toArray n n2 dd dd2 sl sl2 (by simp; intro e; subst e; exact z (by rw [hl]; rfl))) ⟨ho, ho2, show Value.bool _ ≠ Value.notImplemented ∧ EP X pins σ Q _ s from ⟨(fun x => nomatch x), ?_⟩⟩
    rw [decide_eq_false z] at q
    exact ⟨.bl _, H, I, rfl, q⟩
end
end PmG

/-! PmZip: zip of any number of sources, each a list or a tuple. -/
namespace PmZ
open PySem PySem.Spec PyProof.Rows L2
/-- one source of a zip: its iterator, and the list or the tuple beneath -/
structure Src where
  tup : Bool
  it : Addr
  sq : Addr
def SqH (b : Bool) (h : Heap) (a : Addr) (xs : Array Value) : Prop := bif b then h.IsTuple a xs else h.IsList a xs
def ItH (b : Bool) (h : Heap) (i a : Addr) (n : Nat) : Prop := bif b then h.IsTupleIter i a n else h.IsListIter i a n
theorem ItH.at_ {b : Bool} {h h' : Heap} {i a : Addr} {n : Nat} (x : ItH b h i a n) (e : ∀ o, h.get? i = some o → h'.get? i = some o) : ItH b h' i a n := by
  cases b
  · exact Heap.IsListIter.at x e
  · exact Heap.IsTupleIter.at x e
theorem ItH.look {b : Bool} {h : Heap} {i a : Addr} {n : Nat} (x : ItH b h i a n) : ∃ o, h.get? i = some o ∧ ∀ v, o.data ≠ .cell v := by
  cases b
  · obtain ⟨o, e, _, d⟩ := x; exact ⟨o, e, fun v q => by rw [d] at q; cases q⟩
  · obtain ⟨o, e, _, d⟩ := x; exact ⟨o, e, fun v q => by rw [d] at q; cases q⟩
theorem SqH.at_ {b : Bool} {h h' : Heap} {a : Addr} {xs : Array Value} (x : SqH b h a xs) (e : ∀ o, h.get? a = some o → h'.get? a = some o) : SqH b h' a xs := by
  cases b
  · obtain ⟨o, ho, r⟩ := x; exact ⟨o, e _ ho, r⟩
  · obtain ⟨o, ho, r⟩ := x; exact ⟨o, e _ ho, r⟩
theorem SqH.lt {b : Bool} {h : Heap} {a : Addr} {xs : Array Value} (x : SqH b h a xs) : a < h.objs.size := by
  cases b
  · obtain ⟨o, ho, r⟩ := x; exact Heap.lt_size ho
  · obtain ⟨o, ho, r⟩ := x; exact Heap.lt_size ho
section
variable {prog : Program} {w : World} {A : Around} {E : Value → Shared → Prop} {s : Shared}
theorem next_item {b : Bool} {i a : Addr} {n : Nat} {xs : Array Value} {x : Value} {Q : Value → Shared → Prop} (h1 : ItH b s.heap i a n) (h2 : SqH b s.heap a xs) (hx : xs[n]? = some x)
    (q : ∀ h', ItH b h' i a (n + 1) → Heap.SameBut i s.heap h' → Q x { s with heap := h' }) : wpAny (model prog w) A (Builtin.SmallTypes.nextOf (.ref i)) Q E s := by
  cases b
  · exact wpAny_nextOf_list_item h1 h2 hx q
  · exact RZ.nextOf_tuple_item h1 h2 hx q
theorem next_end {b : Bool} {i a : Addr} {n : Nat} {xs : Array Value} {Q : Value → Shared → Prop} (hh : A.handled = none) (h1 : ItH b s.heap i a n) (h2 : SqH b s.heap a xs) (hx : xs[n]? = none)
    (q : ∀ h' e, Heap.ExtBut i s.heap h' → (∃ o, h'.get? e = some o ∧ o.cls = .type "StopIteration") → E (.ref e) { s with heap := h' }) : wpAny (model prog w) A (Builtin.SmallTypes.nextOf (.ref i)) Q E s := by
  cases b
  · exact wpAny_nextOf_list_end hh h1 h2 hx q
  · exact RZ.nextOf_tuple_end hh h1 h2 hx q
/-- a loop over the sources, none of whose turns leaves it but by an exception -/
theorem for_srcs {β : Type} {M : Model} {A : Around} {E : Value → Shared → Prop} {f : Value × Nat → β → Sem (ForInStep β)} {b : β} {rs : List Src} (I : Nat → Shared → Prop)
    (step : ∀ k r s, rs[k]? = some r → I k s → wpAny M A (f (.ref r.it, k) b) (fun x s' => x = .yield b ∧ I (k + 1) s') E s) : ∀ (us : List Src) (k : Nat) (s : Shared), (∀ j, us[j]? = rs[k + j]?) → I k s →
    wpAny M A (forIn ((us.map fun r => Value.ref r.it).zipIdx k) b f) (fun b' s' => b' = b ∧ I (k + us.length) s') E s
  | [], k, s, _, hI => by
    simp only [List.map_nil, List.zipIdx_nil, List.forIn_nil]
    exact wpAny_pure ⟨rfl, hI⟩
  | r :: us, k, s, hu, hI => by
    simp only [List.map_cons, List.zipIdx_cons, List.forIn_cons]
    refine wpAny_bind (wpAny_mono (step k r s (by have := hu 0; simpa using this.symm) hI) (fun x s' z => ?_) fun _ _ z => z)
    obtain ⟨rfl, hI'⟩ := z
    refine wpAny_mono (for_srcs I step us (k + 1) s' (fun j => by have := hu (j + 1); rw [show k + (j + 1) = k + 1 + j by omega] at this; simpa using this) hI') (fun x s'' z => ?_) fun _ _ z => z
    rw [List.length_cons, show k + (us.length + 1) = k + 1 + us.length by omega]
    exact z
/-- the objects that a zip's turn may change, and what lies beneath -/
structure Apart (z TI TO : Addr) (rs : List Src) : Prop where
  TOz : TO ≠ z
  TIz : TI ≠ z
  TIO : TI ≠ TO
  itz : ∀ r ∈ rs, r.it ≠ z ∧ r.it ≠ TO ∧ r.it ≠ TI
  sqz : ∀ r ∈ rs, r.sq ≠ z ∧ r.sq ≠ TO
  sqi : ∀ r ∈ rs, ∀ r' ∈ rs, r.sq ≠ r'.it
  two : ∀ (i j : Nat) (r r' : Src), rs[i]? = some r → rs[j]? = some r' → i ≠ j → r.it ≠ r'.it
def Chg (z TO : Addr) (rs : List Src) (c : Addr) : Prop := c = z ∨ c = TO ∨ ∃ r ∈ rs, c = r.it
abbrev tupO (xs : List Value) : Obj := { cls := .type "tuple", data := .seq xs.toArray }
theorem zip_turn {z TI TO : Addr} {rs : List Src} {n : Nat} {ks : List Value} {vs : Nat → Option Value} {Q : Value → Shared → Prop} (hh : A.handled = none) (D : Apart z TI TO rs) (ne : rs ≠ []) (few : rs.length ≤ 100)
    (hz : IsZip s.heap z TI TO .none) (hTI : s.heap.get? TI = some (tupO (rs.map fun r => Value.ref r.it))) (hTO : s.heap.get? TO = some (tupO ks)) (hk : ks.length = rs.length)
    (hI : ∀ r ∈ rs, ItH r.tup s.heap r.it r.sq n) (hS : ∀ (k : Nat) (r : Src), rs[k]? = some r → ∃ xs, SqH r.tup s.heap r.sq xs ∧ xs[n]? = vs k)
    (hQ : ∀ h' us, us.length = rs.length → (∀ k, k < rs.length → vs k = us[k]?) → IsZip h' z TI TO (rawInt s.heap.objs.size) → h'.get? TO = some (tupO us) → (∀ r ∈ rs, ItH r.tup h' r.it r.sq (n + 1)) → h'.get? s.heap.objs.size = some (tupO us) → h'.objs.size = s.heap.objs.size + 1 →
      (∀ c o, ¬ Chg z TO rs c → s.heap.get? c = some o → h'.get? c = some o) → Q (.ref s.heap.objs.size) { s with heap := h' })
    (hE : (∃ k, k < rs.length ∧ vs k = none) → ∀ h' e, (∀ c o, ¬ Chg z TO rs c → s.heap.get? c = some o → h'.get? c = some o) → (∃ o, h'.get? e = some o ∧ o.cls = .type "StopIteration") → E (.ref e) { s with heap := h' }) :
    wpAny (model prog w) A (Builtin.«zip.__next__» ⟨[.ref z], []⟩) (fun fin s' => ∃ v, fin = .done (.ret v) ∧ Q v s') E s := by
  show wpAny _ _ (field (.ref z) 2 >>= _) _ _ _
  refine wpAny_bind (wpAny_field hz rfl (x := .bool false) rfl ?_)
  show wpAny _ _ (field (.ref z) 3 >>= _) _ _ _
  refine wpAny_bind (wpAny_field hz rfl (x := .ref TI) rfl (wpAny_bind (wpAny_seqItems hTI rfl ?_)))
  have emp : ((rs.map fun r => Value.ref r.it).toArray).isEmpty = false := by
    cases rs with
    | nil => exact absurd rfl ne
    | cons r rs => rfl
  simp only [emp, Bool.false_eq_true, if_false]
  refine wpAny_bind ?_
  unfold Builtin.SmallTypes.ownedTupleIsFree
  refine wpAny_bind (wpAny_field hz rfl (x := .none) rfl (wpAny_pure ?_))
  simp only [if_true]
  refine wpAny_bind (wpAny_rule (wpAny_bind (wpAny_field hz rfl (x := .ref TO) rfl (wpAny_bind (wpAny_setField_rec hz (by simp) fun h₁ hz₁ hs₁ => ?_)))))
  replace hz₁ : IsZip h₁ z TI TO .ellipsis := hz₁
  let I : Nat → Shared → Prop := fun k s' => ∃ h, s' = { s with heap := h } ∧ IsZip h z TI TO .ellipsis ∧ (∃ us : List Value, h.get? TO = some (tupO us) ∧ us.length = rs.length ∧ ∀ j, j < k → vs j = us[j]?) ∧
    (∀ j r, rs[j]? = some r → ItH r.tup h r.it r.sq (if j < k then n + 1 else n)) ∧ (∀ c o, ¬ Chg z TO rs c → s.heap.get? c = some o → h.get? c = some o) ∧ h.objs.size = s.heap.objs.size
  have sq0 : ∀ r ∈ rs, ¬ Chg z TO rs r.sq := fun r hr h => by
    rcases h with h | h | ⟨r', hr', h⟩
    · exact (D.sqz r hr).1 h
    · exact (D.sqz r hr).2 h
    · exact D.sqi r hr r' hr' h
  refine wpAny_bind (wpAny_mono (for_srcs I (rs := rs) (fun k r s' er hI' => ?_) rs 0 _ (fun j => by rw [Nat.zero_add]) ?_) (fun x s' z => ?_) fun _ _ z => z)
  · obtain ⟨h, rfl, z1, ⟨us, t1, t2, t3⟩, i1, k1, sz⟩ := hI'
    have hr := List.mem_of_getElem? er
    obtain ⟨xs, hs, hx⟩ := hS k r er
    have hs1 : SqH r.tup h r.sq xs := hs.at_ fun o e => k1 _ o (sq0 r hr) e
    have hi := i1 k r er
    rw [if_neg (Nat.lt_irrefl k)] at hi
    obtain ⟨d1, d2, d3⟩ := D.itz r hr
    refine wpAny_bind (wpAny_onRaise ?_)
    show wpAny _ _ (Builtin.SmallTypes.nextOf (.ref r.it) >>= _) _ _ _
    cases hv : vs k with
    | none =>
      refine wpAny_bind (next_end hh hi hs1 (by rw [hx, hv]) fun h2 e x2 he => ?_)
      obtain ⟨oe, ho, hc⟩ := he
      have z2 : IsZip h2 z TI TO .ellipsis := x2 _ _ d1.symm z1
      have ez : e ≠ z := fun q => by subst q; rw [z2] at ho; cases ho; simp at hc
      refine wpAny_setField_rec z2 (by simp) fun h3 _ x3 => hE ⟨k, (List.getElem?_eq_some_iff.mp er).1, hv⟩ h3 e (fun c o nc q => ?_) ⟨oe, x3.extBut _ _ ez ho, hc⟩
      exact x3.extBut _ _ (fun w => nc (.inl w)) (x2 _ _ (fun w => nc (.inr (.inr ⟨r, hr, w⟩))) (k1 c o nc q))
    | some x =>
      refine wpAny_bind (next_item hi hs1 (by rw [hx, hv]) fun h2 i2 x2 => wpAny_pure ?_)
      have t4 : h2.get? TO = some (tupO us) := x2.extBut _ _ d2.symm t1
      have lk : us.toArray.size = rs.length := by simp [t2]
      have small : ∀ m : Nat, m ≤ 101 → m ≤ sizeLine := fun m hm => Nat.le_trans hm (by rw [sizeLine_eq]; decide)
      refine wpAny_bind (wpAny_seqItems t4 rfl (wpAny_bind (wpAny_updateSeq t4 rfl (wpAny_bind (wpAny_letGo (wpAny_pure ⟨rfl, ?_⟩))) (by rw [lk]; exact small _ (by omega)) (by rw [Array.size_setIfInBounds, lk]; exact Nat.le_succ_of_le (small _ (by omega))))))
      have x3 : Heap.SameBut TO h2 (h2.update TO (Obj.mapSeq fun a => a.setIfInBounds k x)) := Heap.SameBut.update ..
      have t5 : (h2.update TO (Obj.mapSeq fun a => a.setIfInBounds k x)).get? TO = some (tupO (us.set k x)) := by
        rw [Heap.get?_update_self _ t4 rfl]
        simp [Obj.mapSeq, tupO]
      generalize h2.update TO (Obj.mapSeq fun a => a.setIfInBounds k x) = h3 at x3 t5
      have hlt := (List.getElem?_eq_some_iff.mp er).1
      refine ⟨h3, rfl, x3.extBut _ _ D.TOz.symm (x2.extBut _ _ d1.symm z1), ⟨us.set k x, t5, by rw [List.length_set]; exact t2, fun j hj => ?_⟩, fun j r' ej => ?_, fun c o nc q => ?_, by rw [x3.1, x2.1]; exact sz⟩
      · rw [List.getElem?_set]
        by_cases e : k = j
        · subst e; rw [if_pos rfl, if_pos (by rw [t2]; exact hlt)]; exact hv
        · rw [if_neg e]; exact t3 j (by omega)
      · have hr' := List.mem_of_getElem? ej
        obtain ⟨c1, c2, c3⟩ := D.itz r' hr'
        by_cases e : j = k
        · subst e
          rw [er] at ej
          cases ej
          rw [if_pos (Nat.lt_succ_self _)]
          exact i2.at_ fun o q => x3.extBut _ _ c2 q
        · have := i1 j r' ej
          rw [show (if j < k + 1 then n + 1 else n) = if j < k then n + 1 else n by by_cases g : j < k; rw [if_pos g, if_pos (by omega)]; rw [if_neg g, if_neg (by omega)]]
          exact this.at_ fun o q => x3.extBut _ _ c2 (x2.extBut _ _ (D.two j k r' r ej er e) q)
      · exact x3.extBut _ _ (fun w => nc (.inr (.inl w))) (x2.extBut _ _ (fun w => nc (.inr (.inr ⟨r, hr, w⟩))) (k1 c o nc q))
  · exact ⟨h₁, rfl, hz₁, ⟨ks, hs₁.extBut _ _ D.TOz hTO, hk, fun j h => absurd h (Nat.not_lt_zero _)⟩, fun j r e => by
      rw [if_neg (Nat.not_lt_zero _)]
      exact (hI r (List.mem_of_getElem? e)).at_ fun o q => hs₁.extBut _ _ (D.itz r (List.mem_of_getElem? e)).1 q, fun c o nc q => hs₁.extBut _ _ (fun w => nc (.inl w)) q, hs₁.1⟩
  obtain ⟨rfl, h, rfl, z1, ⟨us, t1, t2, t3⟩, i1, k1, sz⟩ := z
  rw [Nat.zero_add] at t3 i1
  refine wpAny_bind (wpAny_seqItems t1 rfl (wpAny_bind (wpAny_newTuple ?_)))
  show wpAny _ _ (Builtin.SmallTypes.ownedTupleHandOut (.ref z) (.ref h.objs.size) >>= _) _ _ _
  refine wpAny_bind ?_
  unfold Builtin.SmallTypes.ownedTupleHandOut
  have zl : z < h.objs.size := Heap.lt_size z1
  have z3 : IsZip (h.push (tupO us)) z TI TO .ellipsis := Heap.get?_push_of_some _ z1
  refine wpAny_bind (wpAny_setField_rec (s := { s with heap := h.push (tupO us) }) z3 (by simp) fun h4 z4 x4 => ?_)
  replace z4 : IsZip h4 z TI TO (rawInt h.objs.size) := z4
  refine wpAny_setField_rec (s := { s with heap := h4 }) z4 (by simp) fun h5 z5 x5 => wpAny_pure ⟨_, rfl, ?_⟩
  replace z5 : IsZip h5 z TI TO (rawInt h.objs.size) := z5
  have up : ∀ c o, c ≠ z → h.get? c = some o → h5.get? c = some o := fun c o nc e => x5.extBut _ _ nc (x4.extBut _ _ nc (Heap.get?_push_of_some _ e))
  have new : h5.get? h.objs.size = some (tupO us) := x5.extBut _ _ (Nat.ne_of_gt zl) (x4.extBut _ _ (Nat.ne_of_gt zl) (Heap.get?_push_size _ rfl))
  have size5 : h5.objs.size = h.objs.size + 1 := by rw [x5.1, x4.1, Heap.size_push]
  show Q (.ref h.objs.size) { s with heap := h5 }
  rw [sz] at z5 new size5 ⊢
  refine hQ h5 us t2 (fun k hk' => t3 k hk') z5 (up _ _ D.TOz t1) (fun r hr => ?_) new size5 fun c o nc e => up _ _ (fun w => nc (.inl w)) (k1 c o nc e)
  obtain ⟨j, hj, ej⟩ := List.mem_iff_getElem.mp hr
  have er : rs[j]? = some r := by rw [List.getElem?_eq_getElem hj, ej]
  have := i1 j r er
  rw [if_pos hj] at this
  exact this.at_ fun o e => up _ o (D.itz r hr).1 e
theorem zip_item {z TI TO : Addr} {rs : List Src} {n : Nat} {ks us : List Value} {Q : Option Value → Shared → Prop} (hh : A.handled = none) (D : Apart z TI TO rs) (ne : rs ≠ []) (few : rs.length ≤ 100)
    (hz : IsZip s.heap z TI TO .none) (hTI : s.heap.get? TI = some (tupO (rs.map fun r => Value.ref r.it))) (hTO : s.heap.get? TO = some (tupO ks)) (hk : ks.length = rs.length)
    (hI : ∀ r ∈ rs, ItH r.tup s.heap r.it r.sq n) (lu : us.length = rs.length) (hS : ∀ (k : Nat) (r : Src), rs[k]? = some r → ∃ xs, SqH r.tup s.heap r.sq xs ∧ xs[n]? = us[k]?)
    (hQ : ∀ h', IsZip h' z TI TO (rawInt s.heap.objs.size) → h'.get? TO = some (tupO us) → (∀ r ∈ rs, ItH r.tup h' r.it r.sq (n + 1)) → h'.get? s.heap.objs.size = some (tupO us) → h'.objs.size = s.heap.objs.size + 1 →
      (∀ c o, ¬ Chg z TO rs c → s.heap.get? c = some o → h'.get? c = some o) → Q (some (.ref s.heap.objs.size)) { s with heap := h' }) : wpAny (model prog w) A (pyNext (.ref z)) Q E s := by
  have hT : s.TypeIs (.ref z) "zip" := ⟨_, hz, rfl⟩
  unfold pyNext
  refine wpAny_bind (wpAny_attempt (wpAny_callSpecial?_slot (name := Str.ofString "__next__") hT F.slot_zip_next (wpAny_call_entry F.slot_zip_next hT F.entry_zip_next
    (zip_turn (vs := fun k => us[k]?) (by exact hh) D ne few hz hTI hTO hk hI hS (fun h' us' l1 l2 a1 a2 a3 a4 a5 a6 => ?_) fun ⟨k, h1, h2⟩ => ?_) (F.args_zip_next_1 _))))
  · obtain rfl : us' = us := List.ext_getElem? fun k => by
      by_cases q : k < rs.length
      · exact (l2 k q).symm
      · rw [List.getElem?_eq_none (by omega), List.getElem?_eq_none (by omega)]
    exact wpAny_pure (hQ h' a1 a2 a3 a4 a5 a6)
  · rw [List.getElem?_eq_getElem (by omega)] at h2; cases h2
theorem zip_end {z TI TO : Addr} {rs : List Src} {n : Nat} {ks : List Value} {vs : Nat → Option Value} {Q : Option Value → Shared → Prop} (hh : A.handled = none) (D : Apart z TI TO rs) (ne : rs ≠ []) (few : rs.length ≤ 100)
    (hz : IsZip s.heap z TI TO .none) (hTI : s.heap.get? TI = some (tupO (rs.map fun r => Value.ref r.it))) (hTO : s.heap.get? TO = some (tupO ks)) (hk : ks.length = rs.length)
    (hI : ∀ r ∈ rs, ItH r.tup s.heap r.it r.sq n) (hS : ∀ (k : Nat) (r : Src), rs[k]? = some r → ∃ xs, SqH r.tup s.heap r.sq xs ∧ xs[n]? = vs k) (hN : ∃ k, k < rs.length ∧ vs k = none)
    (hQ : ∀ h', (∀ c o, ¬ Chg z TO rs c → s.heap.get? c = some o → h'.get? c = some o) → Q none { s with heap := h' }) : wpAny (model prog w) A (pyNext (.ref z)) Q E s := by
  have hT : s.TypeIs (.ref z) "zip" := ⟨_, hz, rfl⟩
  unfold pyNext
  refine wpAny_bind (wpAny_attempt (wpAny_callSpecial?_slot (name := Str.ofString "__next__") hT F.slot_zip_next (wpAny_call_entry F.slot_zip_next hT F.entry_zip_next
    (wpAny_mono (zip_turn (vs := vs) (Q := fun _ _ => False) (by exact hh) D ne few hz hTI hTO hk hI hS (fun h' us' l1 l2 _ _ _ _ _ _ => ?_) fun _ h' e a1 he => ?_) (fun _ _ q => ?_) fun _ _ q => q) (F.args_zip_next_1 _))))
  · obtain ⟨k, h1, h2⟩ := hN
    rw [l2 k h1, List.getElem?_eq_getElem (by omega)] at h2
    cases h2
  · obtain ⟨o, ho, hc⟩ := he
    exact wpAny_bind (wpAny_isInstance (T := "StopIteration") (b := true) ⟨o, ho, hc⟩ isSubtype_stop (wpAny_pure (hQ h' a1)))
  · obtain ⟨_, _, z⟩ := q
    exact z.elim
end
/-- the sequences in memory -/
def SqX (K : PySem.W.Frag) (H : Hp) (b : Bool) (a : Addr) (xs : List V) : Prop := bif b then SqT K H a xs else SqL K H a xs
section
variable {X : Cx} {pins : List (Addr × Obj)} {σ : L2.St} {H : Hp} {s : Shared} {b : Bool} {a : Addr} {xs ys : List V}
theorem SqX.get (I : L2.Inv X pins σ H s) (h : SqX X.K H b a xs) : ∃ us : List Value, Vals xs us ∧ SqH b s.heap a us.toArray := by
  cases b
  · obtain ⟨its, rv, p, _⟩ := I.list (show SqL X.K H a xs from h)
    exact ⟨its, rv, p.isList⟩
  · obtain ⟨its, rv, p, _⟩ := I.tuple (show SqT X.K H a xs from h)
    exact ⟨its, rv, p⟩
theorem SqX.inj (I : L2.Inv X pins σ H s) (h : SqX X.K H b a xs) (h' : SqX X.K H b a ys) : xs = ys := by
  cases b
  · exact I.list_inj h h'
  · exact I.tuple_inj h h'
end
theorem build {α β : Type} {R : Nat → α → β → Prop} : ∀ {xs : List α}, (∀ k x, xs[k]? = some x → ∃ y, R k x y) → ∃ ys : List β, ys.length = xs.length ∧ ∀ k x y, xs[k]? = some x → ys[k]? = some y → R k x y
  | [], _ => ⟨[], rfl, fun k x y e => by simp at e⟩
  | x :: xs, h => by
    obtain ⟨y, hy⟩ := h 0 x rfl
    obtain ⟨ys, l, hs⟩ := build (R := fun k => R (k + 1)) (xs := xs) fun k z e => h (k + 1) z (by simpa using e)
    refine ⟨y :: ys, by simp [l], fun k a b e1 e2 => ?_⟩
    cases k with
    | zero => cases e1; cases e2; exact hy
    | succ k => exact hs k a b (by simpa using e1) (by simpa using e2)
theorem vals_of : ∀ {xs : List V} {us : List Value}, us.length = xs.length → (∀ (k : Nat) (x : V) (u : Value), xs[k]? = some x → us[k]? = some u → RelV x u) → Vals xs us
  | [], [], _, _ => .nil
  | x :: xs, u :: us, l, h => .cons (h 0 x u rfl rfl) (vals_of (by simpa using l) fun k y v e1 e2 => h (k + 1) y v (by simpa using e1) (by simpa using e2))
  | [], _ :: _, l, _ => by simp at l
  | _ :: _, [], l, _ => by simp at l
/-- the sources of a zip as they stand, the items of a turn in a new tuple -/
def ItS (K : PySem.W.Frag) (ss : List (Bool × Addr)) : It :=
  ⟨fun i H => ∃ vs : List V, vs.length = ss.length ∧ ∀ (k : Nat) (b : Bool) (a : Addr), ss[k]? = some (b, a) → ∃ xs, SqX K H b a xs ∧ xs[i]? = vs[k]?,
    fun i H v H' => ∃ (T : Addr) (vs : List V), v = .ref T ∧ H T = none ∧ H' = upd H T (.tup vs) ∧ vs.length = ss.length ∧ ∀ (k : Nat) (b : Bool) (a : Addr) (xs : List V), ss[k]? = some (b, a) → SqX K H b a xs → xs[i]? = vs[k]?,
    fun i H => ∃ vs : Nat → Option V, (∃ k, k < ss.length ∧ vs k = none) ∧ ∀ (k : Nat) (b : Bool) (a : Addr), ss[k]? = some (b, a) → ∃ xs, SqX K H b a xs ∧ xs[i]? = vs k⟩
def srcs (ss : List (Bool × Addr)) (f : Nat) : List Src := ss.mapIdx fun k p => ⟨p.1, f + k, p.2⟩
theorem srcs_get {ss : List (Bool × Addr)} {f k : Nat} : (srcs ss f)[k]? = (ss[k]?).map fun p => ⟨p.1, f + k, p.2⟩ := by unfold srcs; rw [List.getElem?_mapIdx]
theorem srcs_len (ss : List (Bool × Addr)) (f : Nat) : (srcs ss f).length = ss.length := by unfold srcs; rw [List.length_mapIdx]
def TurnSt (z TI TO : Addr) (rs : List Src) (i : Nat) (h : Heap) : Prop := IsZip h z TI TO .none ∧ h.get? TI = some (tupO (rs.map fun r => Value.ref r.it)) ∧ (∃ ks : List Value, h.get? TO = some (tupO ks) ∧ ks.length = rs.length) ∧ ∀ r ∈ rs, ItH r.tup h r.it r.sq i
theorem turn_zipS {P : Program} {w : World} {K : PySem.W.Frag} {elts : List Expr} {kk : Nat} {tpos : Pos} {z TI TO : Addr} {rs : List Src} (D : Apart z TI TO rs) (ne : rs ≠ []) (few : rs.length ≤ 100) :
    Turn P w K (.Tuple elts kk tpos) (ItS K (rs.map fun r => (r.tup, r.sq))) (z :: TI :: TO :: rs.map Src.it) z (TurnSt z TI TO rs) where
  mem := List.mem_cons_self
  obj := fun i h st c hc => by
    obtain ⟨hz, hTI, ⟨ks, hTO, _⟩, hI⟩ := st
    simp only [List.mem_cons, List.mem_map] at hc
    rcases hc with rfl | rfl | rfl | ⟨r, hr, rfl⟩
    · exact ⟨_, hz, fun v q => nomatch q⟩
    · exact ⟨_, hTI, fun v q => nomatch q⟩
    · exact ⟨_, hTO, fun v q => nomatch q⟩
    · exact (hI r hr).look
  keep := fun i h h' st k => by
    obtain ⟨hz, hTI, ⟨ks, hTO, lk⟩, hI⟩ := st
    exact ⟨k z (by simp) _ hz, k TI (by simp) _ hTI, ⟨ks, k TO (by simp) _ hTO, lk⟩, fun r hr => (hI r hr).at_ fun o q => k r.it (by simp only [List.mem_cons, List.mem_map]; exact .inr (.inr (.inr ⟨r, hr, rfl⟩))) o q⟩
  item := by
    intro X hP hw hK hc i pins s σ H E I hf st hg
    subst hP hw hK
    obtain ⟨hz, hTI, ⟨ks, hTO, lk⟩, hI⟩ := st
    obtain ⟨vs, lv, hv⟩ := hg
    rw [List.length_map] at lv
    have hx : ∀ (k : Nat) (r : Src), rs[k]? = some r → ∃ xs us, SqX X.K H r.tup r.sq xs ∧ Vals xs us ∧ SqH r.tup s.heap r.sq us.toArray ∧ xs[i]? = vs[k]? := fun k r er => by
      obtain ⟨xs, h1, h2⟩ := hv k r.tup r.sq (by rw [List.getElem?_map, er]; rfl)
      obtain ⟨us, h3, h4⟩ := h1.get I
      exact ⟨xs, us, h1, h3, h4, h2⟩
    obtain ⟨us, lu, hu⟩ := build (R := fun k x (u : Value) => RelV x u ∧ ∀ r, rs[k]? = some r → ∃ ws, SqH r.tup s.heap r.sq ws ∧ ws[i]? = some u) (xs := vs) fun k x ex => by
      have hk : k < rs.length := by rw [← lv]; exact (List.getElem?_eq_some_iff.mp ex).1
      obtain ⟨xs, us, h1, h2, h3, h4⟩ := hx k _ (List.getElem?_eq_getElem hk)
      obtain ⟨u, e2, ru⟩ := h2.get (h4.trans ex)
      exact ⟨u, ru, fun r er => by rw [List.getElem?_eq_getElem hk] at er; cases er; exact ⟨us.toArray, h3, by simpa using e2⟩⟩
    have ru : Vals vs us := vals_of lu fun k x u e1 e2 => (hu k x u e1 e2).1
    have hzl : z < s.heap.objs.size := Heap.lt_size hz
    refine zip_item (us := us) (I.ok.hd hc) D ne few hz hTI hTO lk hI (by rw [lu, lv]) (fun k r er => ?_) fun h' z' TO' hI' hT hsz hk' => ?_
    · have hk2 : k < vs.length := by rw [lv]; exact (List.getElem?_eq_some_iff.mp er).1
      have e2 : us[k]? = some (us[k]'(by rw [lu]; exact hk2)) := List.getElem?_eq_getElem _
      obtain ⟨ws, g1, g2⟩ := (hu k _ _ (List.getElem?_eq_getElem hk2) e2).2 r er
      exact ⟨ws, g1, by rw [g2, e2]⟩
    refine ⟨_, rfl, wpAny_letOwnedTupleGo_zip (s := { s with heap := h' }) z' fun h2 z2 sb => ?_⟩
    have hT2 : h2.get? s.heap.objs.size = some (tupO us) := (sb.2 _ (Nat.ne_of_gt hzl)).trans hT
    have new : ObjOk X.prog X.w (upd H s.heap.objs.size (.tup vs)) h2 s.heap.objs.size (.tup vs) :=
      ⟨Nat.le_trans (show vs.length ≤ 100 by omega) (by rw [sizeLine_eq]; decide), us, ru, ⟨_, hT2, rfl, _, rfl⟩⟩
    have chg : ∀ c, Chg z TO rs c → c ∈ z :: TI :: TO :: rs.map Src.it := fun c q => by
      simp only [List.mem_cons, List.mem_map]
      rcases q with q | q | ⟨r, hr, q⟩
      · exact .inl q
      · exact .inr (.inr (.inl q))
      · exact .inr (.inr (.inr ⟨r, hr, q.symm⟩))
    have I1 : L2.Inv X pins σ (upd H s.heap.objs.size (.tup vs)) { s with heap := h2 } :=
      I.turnedNew (t' := s.toks) (ch := z :: TI :: TO :: rs.map Src.it) (fun c o hb q => (sb.2 c (fun w => hb (by simp [w]))).trans (hk' c o (fun w => hb (chg c w)) q)) hf (Nat.le_refl _) new
    have ntz : ∀ c, Chg z TO rs c → c ≠ TI := fun c q w => by
      subst w
      rcases q with q | q | ⟨r, hr, q⟩
      · exact D.TIz q
      · exact D.TIO q
      · exact (D.itz r hr).2.2 q.symm
    refine ⟨.ref s.heap.objs.size, _, I1, rfl, ⟨_, vs, rfl, I.hok.fresh (Nat.le_refl _), rfl, by rw [List.length_map, lv], fun k b a xs e q => ?_⟩, ⟨z2, ?_, ⟨us, ?_, by rw [lu, lv]⟩, fun r hr => ?_⟩, fun c hcm => ?_⟩
    · obtain ⟨xs', h1, h2⟩ := hv k b a e
      rw [q.inj I h1]
      exact h2
    · exact (sb.2 _ D.TIz).trans (hk' _ _ (fun w => ntz _ w rfl) hTI)
    · exact (sb.2 _ D.TOz).trans TO'
    · exact (hI' r hr).at_ fun o q => (sb.2 _ (D.itz r hr).1).trans q
    · have hlt : c < s.heap.objs.size := by
        simp only [List.mem_cons, List.mem_map] at hcm
        rcases hcm with rfl | rfl | rfl | ⟨r, hr, rfl⟩
        · exact hzl
        · exact Heap.lt_size hTI
        · exact Heap.lt_size hTO
        · obtain ⟨o, e, _⟩ := (hI r hr).look; exact Heap.lt_size e
      rw [upd_ne (Nat.ne_of_lt hlt)]
      exact (hf c hcm).1
  done := by
    intro X hP hw hK hc i pins s σ H E I hf st hg
    subst hP hw hK
    obtain ⟨hz, hTI, ⟨ks, hTO, lk⟩, hI⟩ := st
    obtain ⟨vs, ⟨k0, lk0, hk0⟩, hv⟩ := hg
    rw [List.length_map] at lk0
    obtain ⟨ws, hws⟩ := Classical.axiomOfChoice (r := fun (k : Nat) (w : Option Value) => (vs k = none → w = none) ∧ ∀ r, rs[k]? = some r → ∃ us, SqH r.tup s.heap r.sq us ∧ us[i]? = w) fun k => by
      cases er : rs[k]? with
      | none => exact ⟨none, fun _ => rfl, fun r e => by cases e⟩
      | some r =>
        obtain ⟨xs, h1, h2⟩ := hv k r.tup r.sq (by rw [List.getElem?_map, er]; rfl)
        obtain ⟨us, h3, h4⟩ := h1.get I
        refine ⟨us.toArray[i]?, fun q => ?_, fun r' e => by cases e; exact ⟨us.toArray, h4, rfl⟩⟩
        have := h3.none_of (i := i) (by rw [h2, q])
        simpa using this
    refine zip_end (vs := ws) (I.ok.hd hc) D ne few hz hTI hTO lk hI (fun k r er => (hws k).2 r er) ⟨k0, lk0, (hws k0).1 hk0⟩ fun h' hk' => ⟨rfl, ?_⟩
    refine I.turnedL (t' := s.toks) (ch := z :: TI :: TO :: rs.map Src.it) (fun c o hb q => hk' c o (fun w => hb ?_) q) hf
    simp only [List.mem_cons, List.mem_map]
    rcases w with q | q | ⟨r, hr, q⟩
    · exact .inl q
    · exact .inr (.inr (.inl q))
    · exact .inr (.inr (.inr ⟨r, hr, q.symm⟩))
  self := fun A i s Q E st h => wpAny_pyIter_zip st.1 h
def itNm (b : Bool) : String := bif b then "tuple_iterator" else "list_iterator"
section
variable {prog : Program} {w : World} {A : Around} {E : Value → Shared → Prop} {s : Shared}
theorem iter_any {b : Bool} {a : Addr} {xs : Array Value} {Q : Value → Shared → Prop} (h : SqH b s.heap a xs) (q : Q (.ref s.heap.objs.size) { s with heap := s.heap.push { cls := .type (itNm b), data := .fields #[.ref a, .int 0 0] } }) : wpAny (model prog w) A (pyIter (.ref a)) Q E s := by
  cases b
  · exact wpAny_pyIter_list h q
  · exact wpAny_pyIter_tuple h q
end
abbrev zip2H1 (h : Heap) (b1 : Bool) (l1 : Addr) : Heap := h.push { cls := .type (itNm b1), data := .fields #[.ref l1, .int 0 0] }
abbrev zip2H2 (h : Heap) (b1 : Bool) (l1 : Addr) (b2 : Bool) (l2 : Addr) : Heap := (zip2H1 h b1 l1).push { cls := .type (itNm b2), data := .fields #[.ref l2, .int 0 0] }
abbrev zip2T (h : Heap) (b1 : Bool) (l1 : Addr) (b2 : Bool) (l2 : Addr) : Heap := (zip2H2 h b1 l1 b2 l2).push { cls := .type "tuple", data := .seq #[.ref h.objs.size, .ref (zip2H1 h b1 l1).objs.size] }
abbrev zip2O (h : Heap) (b1 : Bool) (l1 : Addr) (b2 : Bool) (l2 : Addr) : Heap := (zip2T h b1 l1 b2 l2).push { cls := .type "tuple", data := .seq #[.none, .none] }
abbrev zip2Z (h : Heap) (b1 : Bool) (l1 : Addr) (b2 : Bool) (l2 : Addr) : Heap := (zip2O h b1 l1 b2 l2).push { cls := .type "zip", data := .fields #[.none, .bool false, .bool false, .ref (zip2H2 h b1 l1 b2 l2).objs.size, .ref (zip2T h b1 l1 b2 l2).objs.size] }
theorem meets_zip2 (b1 : Bool) (l1 : Addr) (b2 : Bool) (l2 : Addr) (x1 x2 : Array Value) : Meets (Builtin.«zip.__new__» ⟨[.type "zip", .ref l1, .ref l2], []⟩) (fun _ R s => SqH b1 s.heap l1 x1 ∧ SqH b2 s.heap l2 x2 ∧ R (.ok (.ret (.ref (zip2O s.heap b1 l1 b2 l2).objs.size))) { s with heap := zip2Z s.heap b1 l1 b2 l2 }) :=
  .of_wp fun prog w A R s h => by
    obtain ⟨hp, g, d, tk, os⟩ := s
    obtain ⟨q1, q2, h⟩ := h
    have hsub := sub_zip
    have r1 : SqH b1 (Shared.heap ⟨hp, g, d, tk, os⟩) l1 x1 := q1.at_ fun o e => e
    have r2 : SqH b2 (Shared.heap ⟨zip2H1 hp b1 l1, g, d, tk, os⟩) l2 x2 := q2.at_ fun o e => Heap.get?_push_of_some _ (e)
    wp_walk using iter_any r1, iter_any r2
    exact ⟨_, rfl, h⟩
abbrev zip3H1 (h : Heap) (b1 : Bool) (l1 : Addr) : Heap := h.push { cls := .type (itNm b1), data := .fields #[.ref l1, .int 0 0] }
abbrev zip3H2 (h : Heap) (b1 : Bool) (l1 : Addr) (b2 : Bool) (l2 : Addr) : Heap := (zip3H1 h b1 l1).push { cls := .type (itNm b2), data := .fields #[.ref l2, .int 0 0] }
abbrev zip3H3 (h : Heap) (b1 : Bool) (l1 : Addr) (b2 : Bool) (l2 : Addr) (b3 : Bool) (l3 : Addr) : Heap := (zip3H2 h b1 l1 b2 l2).push { cls := .type (itNm b3), data := .fields #[.ref l3, .int 0 0] }
abbrev zip3T (h : Heap) (b1 : Bool) (l1 : Addr) (b2 : Bool) (l2 : Addr) (b3 : Bool) (l3 : Addr) : Heap := (zip3H3 h b1 l1 b2 l2 b3 l3).push { cls := .type "tuple", data := .seq #[.ref h.objs.size, .ref (zip3H1 h b1 l1).objs.size, .ref (zip3H2 h b1 l1 b2 l2).objs.size] }
abbrev zip3O (h : Heap) (b1 : Bool) (l1 : Addr) (b2 : Bool) (l2 : Addr) (b3 : Bool) (l3 : Addr) : Heap := (zip3T h b1 l1 b2 l2 b3 l3).push { cls := .type "tuple", data := .seq #[.none, .none, .none] }
abbrev zip3Z (h : Heap) (b1 : Bool) (l1 : Addr) (b2 : Bool) (l2 : Addr) (b3 : Bool) (l3 : Addr) : Heap := (zip3O h b1 l1 b2 l2 b3 l3).push { cls := .type "zip", data := .fields #[.none, .bool false, .bool false, .ref (zip3H3 h b1 l1 b2 l2 b3 l3).objs.size, .ref (zip3T h b1 l1 b2 l2 b3 l3).objs.size] }
theorem meets_zip3 (b1 : Bool) (l1 : Addr) (b2 : Bool) (l2 : Addr) (b3 : Bool) (l3 : Addr) (x1 x2 x3 : Array Value) : Meets (Builtin.«zip.__new__» ⟨[.type "zip", .ref l1, .ref l2, .ref l3], []⟩) (fun _ R s => SqH b1 s.heap l1 x1 ∧ SqH b2 s.heap l2 x2 ∧ SqH b3 s.heap l3 x3 ∧ R (.ok (.ret (.ref (zip3O s.heap b1 l1 b2 l2 b3 l3).objs.size))) { s with heap := zip3Z s.heap b1 l1 b2 l2 b3 l3 }) :=
  .of_wp fun prog w A R s h => by
    obtain ⟨hp, g, d, tk, os⟩ := s
    obtain ⟨q1, q2, q3, h⟩ := h
    have hsub := sub_zip
    have r1 : SqH b1 (Shared.heap ⟨hp, g, d, tk, os⟩) l1 x1 := q1.at_ fun o e => e
    have r2 : SqH b2 (Shared.heap ⟨zip3H1 hp b1 l1, g, d, tk, os⟩) l2 x2 := q2.at_ fun o e => Heap.get?_push_of_some _ (e)
    have r3 : SqH b3 (Shared.heap ⟨zip3H2 hp b1 l1 b2 l2, g, d, tk, os⟩) l3 x3 := q3.at_ fun o e => Heap.get?_push_of_some _ (Heap.get?_push_of_some _ (e))
    wp_walk using iter_any r1, iter_any r2, iter_any r3
    exact ⟨_, rfl, h⟩
theorem it_new {b : Bool} {h : Heap} {i a : Addr} (e : h.get? i = some { cls := .type (itNm b), data := .fields #[.ref a, .int 0 0] }) : ItH b h i a 0 := by
  cases b
  · exact ⟨_, e, rfl, rfl⟩
  · exact ⟨_, e, rfl, rfl⟩
theorem typeCall_zip2 (l1 l2 : Value) : checkTypeCall "zip" ⟨[l1, l2], []⟩ = pure () := by kernel_rfl
theorem newCall_zip2 (l1 l2 : Value) : checkBuiltinCall "zip.__new__" ⟨[.type "zip", l1, l2], []⟩ = pure () := by kernel_rfl
theorem initArgs_zip2 (o l1 l2 : Value) : argsOk "object.__init__" ⟨[o, l1, l2], []⟩ := by
  unfold argsOk; rw [signature?_of (id := "object.__init__") (n := ['_', '_', 't', 'i', 'n', 'i', '_', '_']) (o := ['t', 'c', 'e', 'j', 'b', 'o']) (by kernel_rfl) F.owner_object]; kernel_rfl
theorem call_zip2 {prog : Program} {w : World} {A : Around} {E : Value → Shared → Prop} {s : Shared} {b1 b2 : Bool} {l1 l2 : Addr} {x1 x2 : Array Value} {Q : Value → Shared → Prop} (q1 : SqH b1 s.heap l1 x1) (q2 : SqH b2 s.heap l2 x2)
    (q : ∀ h', TurnSt (s.heap.objs.size + 4) (s.heap.objs.size + 2) (s.heap.objs.size + 3) [⟨b1, s.heap.objs.size, l1⟩, ⟨b2, s.heap.objs.size + 1, l2⟩] 0 h' → (∀ c o, s.heap.get? c = some o → h'.get? c = some o) → Q (.ref (s.heap.objs.size + 4)) { s with heap := h' }) :
    wpAny (model prog w) A (call (.type "zip") [.ref l1, .ref l2]) Q E s := by
  refine callType_new F.called_zip (by decide) (typeCall_zip2 _ _) (newCall_zip2 _ _) (fun obj => initArgs_zip2 obj _ _) F.entry_zip_new (meets_zip2 b1 l1 b2 l2 x1 x2) ⟨q1, q2, ?_⟩
  have e1 : (zip2H1 s.heap b1 l1).objs.size = s.heap.objs.size + 1 := by rw [Heap.size_push]
  have e2 : (zip2H2 s.heap b1 l1 b2 l2).objs.size = s.heap.objs.size + 2 := by rw [Heap.size_push, e1]
  have eT : (zip2T s.heap b1 l1 b2 l2).objs.size = s.heap.objs.size + 3 := by rw [Heap.size_push, e2]
  have eO : (zip2O s.heap b1 l1 b2 l2).objs.size = s.heap.objs.size + 4 := by rw [Heap.size_push, eT]
  have gz : (zip2Z s.heap b1 l1 b2 l2).get? (zip2O s.heap b1 l1 b2 l2).objs.size = some _ := Heap.get?_push_size _ rfl
  have gO : (zip2Z s.heap b1 l1 b2 l2).get? (zip2T s.heap b1 l1 b2 l2).objs.size = some _ := Heap.get?_push_of_some _ (Heap.get?_push_size _ rfl)
  have gT : (zip2Z s.heap b1 l1 b2 l2).get? (zip2H2 s.heap b1 l1 b2 l2).objs.size = some _ := Heap.get?_push_of_some _ (Heap.get?_push_of_some _ (Heap.get?_push_size _ rfl))
  have g2 : (zip2Z s.heap b1 l1 b2 l2).get? (zip2H1 s.heap b1 l1).objs.size = some _ := Heap.get?_push_of_some _ (Heap.get?_push_of_some _ (Heap.get?_push_of_some _ (Heap.get?_push_size _ rfl)))
  have g1 : (zip2Z s.heap b1 l1 b2 l2).get? s.heap.objs.size = some _ := Heap.get?_push_of_some _ (Heap.get?_push_of_some _ (Heap.get?_push_of_some _ (Heap.get?_push_of_some _ (Heap.get?_push_size _ rfl))))
  have keep : ∀ c o, s.heap.get? c = some o → (zip2Z s.heap b1 l1 b2 l2).get? c = some o := fun c o x => Heap.get?_push_of_some _ (Heap.get?_push_of_some _ (Heap.get?_push_of_some _ (Heap.get?_push_of_some _ (Heap.get?_push_of_some _ (x)))))
  rw [eT, e2] at gz
  show _ ∧ _
  rw [eO] at gz ⊢
  rw [eT] at gO
  rw [e2, e1] at gT
  rw [e1] at g2
  refine ⟨⟨_, gz, rfl⟩, q _ ⟨gz, gT, ⟨_, gO, rfl⟩, fun r hr => ?_⟩ keep⟩
  simp only [List.mem_cons, List.not_mem_nil, or_false] at hr
  rcases hr with rfl | rfl
  · exact it_new g1
  · exact it_new g2
theorem typeCall_zip3 (l1 l2 l3 : Value) : checkTypeCall "zip" ⟨[l1, l2, l3], []⟩ = pure () := by kernel_rfl
theorem newCall_zip3 (l1 l2 l3 : Value) : checkBuiltinCall "zip.__new__" ⟨[.type "zip", l1, l2, l3], []⟩ = pure () := by kernel_rfl
theorem initArgs_zip3 (o l1 l2 l3 : Value) : argsOk "object.__init__" ⟨[o, l1, l2, l3], []⟩ := by
  unfold argsOk; rw [signature?_of (id := "object.__init__") (n := ['_', '_', 't', 'i', 'n', 'i', '_', '_']) (o := ['t', 'c', 'e', 'j', 'b', 'o']) (by kernel_rfl) F.owner_object]; kernel_rfl
theorem call_zip3 {prog : Program} {w : World} {A : Around} {E : Value → Shared → Prop} {s : Shared} {b1 b2 b3 : Bool} {l1 l2 l3 : Addr} {x1 x2 x3 : Array Value} {Q : Value → Shared → Prop} (q1 : SqH b1 s.heap l1 x1) (q2 : SqH b2 s.heap l2 x2) (q3 : SqH b3 s.heap l3 x3)
    (q : ∀ h', TurnSt (s.heap.objs.size + 5) (s.heap.objs.size + 3) (s.heap.objs.size + 4) [⟨b1, s.heap.objs.size, l1⟩, ⟨b2, s.heap.objs.size + 1, l2⟩, ⟨b3, s.heap.objs.size + 2, l3⟩] 0 h' → (∀ c o, s.heap.get? c = some o → h'.get? c = some o) → Q (.ref (s.heap.objs.size + 5)) { s with heap := h' }) :
    wpAny (model prog w) A (call (.type "zip") [.ref l1, .ref l2, .ref l3]) Q E s := by
  refine callType_new F.called_zip (by decide) (typeCall_zip3 _ _ _) (newCall_zip3 _ _ _) (fun obj => initArgs_zip3 obj _ _ _) F.entry_zip_new (meets_zip3 b1 l1 b2 l2 b3 l3 x1 x2 x3) ⟨q1, q2, q3, ?_⟩
  have e1 : (zip3H1 s.heap b1 l1).objs.size = s.heap.objs.size + 1 := by rw [Heap.size_push]
  have e2 : (zip3H2 s.heap b1 l1 b2 l2).objs.size = s.heap.objs.size + 2 := by rw [Heap.size_push, e1]
  have e3 : (zip3H3 s.heap b1 l1 b2 l2 b3 l3).objs.size = s.heap.objs.size + 3 := by rw [Heap.size_push, e2]
  have eT : (zip3T s.heap b1 l1 b2 l2 b3 l3).objs.size = s.heap.objs.size + 4 := by rw [Heap.size_push, e3]
  have eO : (zip3O s.heap b1 l1 b2 l2 b3 l3).objs.size = s.heap.objs.size + 5 := by rw [Heap.size_push, eT]
  have gz : (zip3Z s.heap b1 l1 b2 l2 b3 l3).get? (zip3O s.heap b1 l1 b2 l2 b3 l3).objs.size = some _ := Heap.get?_push_size _ rfl
  have gO : (zip3Z s.heap b1 l1 b2 l2 b3 l3).get? (zip3T s.heap b1 l1 b2 l2 b3 l3).objs.size = some _ := Heap.get?_push_of_some _ (Heap.get?_push_size _ rfl)
  have gT : (zip3Z s.heap b1 l1 b2 l2 b3 l3).get? (zip3H3 s.heap b1 l1 b2 l2 b3 l3).objs.size = some _ := Heap.get?_push_of_some _ (Heap.get?_push_of_some _ (Heap.get?_push_size _ rfl))
  have g3 : (zip3Z s.heap b1 l1 b2 l2 b3 l3).get? (zip3H2 s.heap b1 l1 b2 l2).objs.size = some _ := Heap.get?_push_of_some _ (Heap.get?_push_of_some _ (Heap.get?_push_of_some _ (Heap.get?_push_size _ rfl)))
  have g2 : (zip3Z s.heap b1 l1 b2 l2 b3 l3).get? (zip3H1 s.heap b1 l1).objs.size = some _ := Heap.get?_push_of_some _ (Heap.get?_push_of_some _ (Heap.get?_push_of_some _ (Heap.get?_push_of_some _ (Heap.get?_push_size _ rfl))))
  have g1 : (zip3Z s.heap b1 l1 b2 l2 b3 l3).get? s.heap.objs.size = some _ := Heap.get?_push_of_some _ (Heap.get?_push_of_some _ (Heap.get?_push_of_some _ (Heap.get?_push_of_some _ (Heap.get?_push_of_some _ (Heap.get?_push_size _ rfl)))))
  have keep : ∀ c o, s.heap.get? c = some o → (zip3Z s.heap b1 l1 b2 l2 b3 l3).get? c = some o := fun c o x => Heap.get?_push_of_some _ (Heap.get?_push_of_some _ (Heap.get?_push_of_some _ (Heap.get?_push_of_some _ (Heap.get?_push_of_some _ (Heap.get?_push_of_some _ (x))))))
  rw [eT, e3] at gz
  show _ ∧ _
  rw [eO] at gz ⊢
  rw [eT] at gO
  rw [e3, e2, e1] at gT
  rw [e1] at g2
  rw [e2] at g3
  refine ⟨⟨_, gz, rfl⟩, q _ ⟨gz, gT, ⟨_, gO, rfl⟩, fun r hr => ?_⟩ keep⟩
  simp only [List.mem_cons, List.not_mem_nil, or_false] at hr
  rcases hr with rfl | rfl | rfl
  · exact it_new g1
  · exact it_new g2
  · exact it_new g3
def iZip2 (K : PySem.W.Frag) (ta : TA) : TI := fun σ H R => ta σ H fun vs H1 => ∃ (b1 : Bool) (a1 : Addr) (b2 : Bool) (a2 : Addr) (xs1 xs2 : List V), vs = [.ref a1, .ref a2] ∧ SqX K H1 b1 a1 xs1 ∧ SqX K H1 b2 a2 xs2 ∧ R (ItS K [(b1, a1), (b2, a2)]) H1
theorem pi_zip2 {X : Cx} {e1 e2 : Expr} {ta : TA} {p pos tpos : Pos} {elts : List Expr} {kk : Nat} (hg : Gl X "zip") (hm : X.mg "zip" = none) (ha : PA X [e1, e2] ta)
    (hs : starEach [e1, e2] X.env = (false, eval e1 X.env) :: starEach [e2] X.env := by rfl) (hpl : (backTo pos (starEach [e2] X.env)).any (·.1) = false := by rfl) :
    PI X (.Tuple elts kk tpos) (.Call (.Name "zip" p) [e1, e2] [] pos) (iZip2 X.K ta) := by
  refine ⟨fun pins s σ H R I h => ?_⟩
  refine Call_ (ld_blt I hg hm PyProof.Rows.boot_zip (PyProof.Rows.callWith_type1 (thn (ha.run pos pins s σ H _ I h) fun us s1 ⟨vs, H1, I1, r1, q1⟩ => ?_) hs hpl))
  obtain ⟨b1, a1, b2, a2, xs1, xs2, ex, h1, h2, q⟩ := q1
  subst ex
  cases r1 with
  | cons g r1 =>
    cases g
    cases r1 with
    | cons g r1 =>
      cases g
      cases r1
      obtain ⟨us1, rv1, p1⟩ := h1.get I1
      have lt1 : @LT.lt Nat _ a1 s1.heap.objs.size := p1.lt
      obtain ⟨us2, rv2, p2⟩ := h2.get I1
      have lt2 : @LT.lt Nat _ a2 s1.heap.objs.size := p2.lt
      refine call_zip2 p1 p2 fun h' st hk => ?_
      refine wpAny_pyIter_zip st.1 ?_
      have I2 : L2.Inv X pins σ H1 { s1 with heap := h' } := I1.kept (t' := s1.toks) hk
      have D : Apart (s1.heap.objs.size + 4) (s1.heap.objs.size + 2) (s1.heap.objs.size + 3) ([⟨b1, s1.heap.objs.size, a1⟩, ⟨b2, s1.heap.objs.size + 1, a2⟩] : List Src) := by
        refine ⟨by show @Ne Nat _ _; (try dsimp only); omega, by show @Ne Nat _ _; (try dsimp only); omega, by show @Ne Nat _ _; (try dsimp only); omega, fun r hr => ?_, fun r hr => ?_, fun r hr r' hr' => ?_, fun i j r r' e e' ne => ?_⟩
        · simp only [List.mem_cons, List.not_mem_nil, or_false] at hr; rcases hr with rfl | rfl <;> exact ⟨by show @Ne Nat _ _; (try dsimp only); omega, by show @Ne Nat _ _; (try dsimp only); omega, by show @Ne Nat _ _; (try dsimp only); omega⟩
        · simp only [List.mem_cons, List.not_mem_nil, or_false] at hr; rcases hr with rfl | rfl <;> exact ⟨by show @Ne Nat _ _; (try dsimp only); omega, by show @Ne Nat _ _; (try dsimp only); omega⟩
        · simp only [List.mem_cons, List.not_mem_nil, or_false] at hr hr'; rcases hr with rfl | rfl <;> rcases hr' with rfl | rfl <;> (show @Ne Nat _ _; (try dsimp only); omega)
        · have g1 : r.it = s1.heap.objs.size + i := by
            match i, e with
            | 0, e => cases e; rfl
            | 1, e => cases e; rfl
            | i + 2, e => simp at e
          have g2 : r'.it = s1.heap.objs.size + j := by
            match j, e' with
            | 0, e => cases e; rfl
            | 1, e => cases e; rfl
            | j + 2, e => simp at e
          rw [g1, g2]; show @Ne Nat _ _; (try dsimp only); omega
      refine ⟨_, _, _, _, H1, rfl, I2, turn_zipS D (by simp) (by simp), st, fun c hc => ?_, q⟩
      have hle : @LE.le Nat _ s1.heap.objs.size c := by
        simp only [List.map_cons, List.map_nil, List.mem_cons, List.not_mem_nil, or_false] at hc
        rcases hc with rfl | rfl | rfl | rfl | rfl <;> (show @LE.le Nat _ _ _; (try dsimp only); omega)
      exact I1.fpOk hle (I1.hok.fresh hle)
theorem walk_zip2 {K : PySem.W.Frag} {b1 b2 : Bool} {a1 a2 : Addr} {xs ys : List V} {n : Nat} (hn : n = min xs.length ys.length) : Walk (ItS K [(b1, a1), (b2, a2)]) n (fun H => SqX K H b1 a1 xs ∧ SqX K H b2 a2 ys) (YPair (fun i => xs[i]?) (fun i => ys[i]?)) := by
  subst hn
  refine ⟨fun i _ hi q => ⟨[xs[i]'(by omega), ys[i]'(by omega)], rfl, fun k b a e => ?_⟩, fun _ q => ?_, fun i H v H' _ q y => ?_⟩
  · match k, e with
    | 0, e => cases e; exact ⟨xs, q.1, List.getElem?_eq_getElem _⟩
    | 1, e => cases e; exact ⟨ys, q.2, List.getElem?_eq_getElem _⟩
    | k + 2, e => simp at e
  · refine ⟨fun k => match k with | 0 => xs[min xs.length ys.length]? | _ => ys[min xs.length ys.length]?, ?_, fun k b a e => ?_⟩
    · rcases Nat.le_total xs.length ys.length with c | c
      · exact ⟨0, by simp, List.getElem?_eq_none (by omega)⟩
      · exact ⟨1, by simp, List.getElem?_eq_none (by omega)⟩
    · match k, e with
      | 0, e => cases e; exact ⟨xs, q.1, rfl⟩
      | 1, e => cases e; exact ⟨ys, q.2, rfl⟩
      | k + 2, e => simp at e
  · obtain ⟨T, vs, h1, h2, h3, h4, h5⟩ := y
    match vs, h4 with
    | [x, z], _ => exact ⟨T, x, z, h1, h2, h3, h5 0 _ _ xs rfl q.1, h5 1 _ _ ys rfl q.2⟩
def iZip3 (K : PySem.W.Frag) (ta : TA) : TI := fun σ H R => ta σ H fun vs H1 => ∃ (b1 : Bool) (a1 : Addr) (b2 : Bool) (a2 : Addr) (b3 : Bool) (a3 : Addr) (xs1 xs2 xs3 : List V), vs = [.ref a1, .ref a2, .ref a3] ∧ SqX K H1 b1 a1 xs1 ∧ SqX K H1 b2 a2 xs2 ∧ SqX K H1 b3 a3 xs3 ∧ R (ItS K [(b1, a1), (b2, a2), (b3, a3)]) H1
theorem pi_zip3 {X : Cx} {e1 e2 e3 : Expr} {ta : TA} {p pos tpos : Pos} {elts : List Expr} {kk : Nat} (hg : Gl X "zip") (hm : X.mg "zip" = none) (ha : PA X [e1, e2, e3] ta)
    (hs : starEach [e1, e2, e3] X.env = (false, eval e1 X.env) :: starEach [e2, e3] X.env := by rfl) (hpl : (backTo pos (starEach [e2, e3] X.env)).any (·.1) = false := by rfl) :
    PI X (.Tuple elts kk tpos) (.Call (.Name "zip" p) [e1, e2, e3] [] pos) (iZip3 X.K ta) := by
  refine ⟨fun pins s σ H R I h => ?_⟩
  refine Call_ (ld_blt I hg hm PyProof.Rows.boot_zip (PyProof.Rows.callWith_type1 (thn (ha.run pos pins s σ H _ I h) fun us s1 ⟨vs, H1, I1, r1, q1⟩ => ?_) hs hpl))
  obtain ⟨b1, a1, b2, a2, b3, a3, xs1, xs2, xs3, ex, h1, h2, h3, q⟩ := q1
  subst ex
  cases r1 with
  | cons g r1 =>
    cases g
    cases r1 with
    | cons g r1 =>
      cases g
      cases r1 with
      | cons g r1 =>
        cases g
        cases r1
        obtain ⟨us1, rv1, p1⟩ := h1.get I1
        have lt1 : @LT.lt Nat _ a1 s1.heap.objs.size := p1.lt
        obtain ⟨us2, rv2, p2⟩ := h2.get I1
        have lt2 : @LT.lt Nat _ a2 s1.heap.objs.size := p2.lt
        obtain ⟨us3, rv3, p3⟩ := h3.get I1
        have lt3 : @LT.lt Nat _ a3 s1.heap.objs.size := p3.lt
        refine call_zip3 p1 p2 p3 fun h' st hk => ?_
        refine wpAny_pyIter_zip st.1 ?_
        have I2 : L2.Inv X pins σ H1 { s1 with heap := h' } := I1.kept (t' := s1.toks) hk
        have D : Apart (s1.heap.objs.size + 5) (s1.heap.objs.size + 3) (s1.heap.objs.size + 4) ([⟨b1, s1.heap.objs.size, a1⟩, ⟨b2, s1.heap.objs.size + 1, a2⟩, ⟨b3, s1.heap.objs.size + 2, a3⟩] : List Src) := by
          refine ⟨by show @Ne Nat _ _; (try dsimp only); omega, by show @Ne Nat _ _; (try dsimp only); omega, by show @Ne Nat _ _; (try dsimp only); omega, fun r hr => ?_, fun r hr => ?_, fun r hr r' hr' => ?_, fun i j r r' e e' ne => ?_⟩
          · simp only [List.mem_cons, List.not_mem_nil, or_false] at hr; rcases hr with rfl | rfl | rfl <;> exact ⟨by show @Ne Nat _ _; (try dsimp only); omega, by show @Ne Nat _ _; (try dsimp only); omega, by show @Ne Nat _ _; (try dsimp only); omega⟩
          · simp only [List.mem_cons, List.not_mem_nil, or_false] at hr; rcases hr with rfl | rfl | rfl <;> exact ⟨by show @Ne Nat _ _; (try dsimp only); omega, by show @Ne Nat _ _; (try dsimp only); omega⟩
          · simp only [List.mem_cons, List.not_mem_nil, or_false] at hr hr'; rcases hr with rfl | rfl | rfl <;> rcases hr' with rfl | rfl | rfl <;> (show @Ne Nat _ _; (try dsimp only); omega)
          · have g1 : r.it = s1.heap.objs.size + i := by
              match i, e with
              | 0, e => cases e; rfl
              | 1, e => cases e; rfl
              | 2, e => cases e; rfl
              | i + 3, e => simp at e
            have g2 : r'.it = s1.heap.objs.size + j := by
              match j, e' with
              | 0, e => cases e; rfl
              | 1, e => cases e; rfl
              | 2, e => cases e; rfl
              | j + 3, e => simp at e
            rw [g1, g2]; show @Ne Nat _ _; (try dsimp only); omega
        refine ⟨_, _, _, _, H1, rfl, I2, turn_zipS D (by simp) (by simp), st, fun c hc => ?_, q⟩
        have hle : @LE.le Nat _ s1.heap.objs.size c := by
          simp only [List.map_cons, List.map_nil, List.mem_cons, List.not_mem_nil, or_false] at hc
          rcases hc with rfl | rfl | rfl | rfl | rfl | rfl <;> (show @LE.le Nat _ _ _; (try dsimp only); omega)
        exact I1.fpOk hle (I1.hok.fresh hle)
def YTri (f g h : Nat → Option V) : Nat → Hp → V → Hp → Prop := fun i H v H' => ∃ T x y z, v = .ref T ∧ H T = none ∧ H' = upd H T (.tup [x, y, z]) ∧ f i = some x ∧ g i = some y ∧ h i = some z
theorem walk_zip3 {K : PySem.W.Frag} {b1 b2 b3 : Bool} {a1 a2 a3 : Addr} {xs ys zs : List V} {n : Nat} (hx : xs.length = n) (hy : ys.length = n) (hz : zs.length = n) :
    Walk (ItS K [(b1, a1), (b2, a2), (b3, a3)]) n (fun H => SqX K H b1 a1 xs ∧ SqX K H b2 a2 ys ∧ SqX K H b3 a3 zs) (YTri (fun i => xs[i]?) (fun i => ys[i]?) (fun i => zs[i]?)) := by
  refine ⟨fun i _ hi q => ⟨[xs[i]'(by omega), ys[i]'(by omega), zs[i]'(by omega)], rfl, fun k b a e => ?_⟩, fun _ q => ?_, fun i H v H' _ q y => ?_⟩
  · match k, e with
    | 0, e => cases e; exact ⟨xs, q.1, List.getElem?_eq_getElem _⟩
    | 1, e => cases e; exact ⟨ys, q.2.1, List.getElem?_eq_getElem _⟩
    | 2, e => cases e; exact ⟨zs, q.2.2, List.getElem?_eq_getElem _⟩
    | k + 3, e => simp at e
  · refine ⟨fun _ => none, ⟨0, by simp, rfl⟩, fun k b a e => ?_⟩
    match k, e with
    | 0, e => cases e; exact ⟨xs, q.1, List.getElem?_eq_none (by omega)⟩
    | 1, e => cases e; exact ⟨ys, q.2.1, List.getElem?_eq_none (by omega)⟩
    | 2, e => cases e; exact ⟨zs, q.2.2, List.getElem?_eq_none (by omega)⟩
    | k + 3, e => simp at e
  · obtain ⟨T, vs, h1, h2, h3, h4, h5⟩ := y
    match vs, h4 with
    | [x, z, u], _ => exact ⟨T, x, z, u, h1, h2, h3, h5 0 _ _ xs rfl q.1, h5 1 _ _ ys rfl q.2.1, h5 2 _ _ zs rfl q.2.2⟩
end PmZ







noncomputable section
namespace PmHd
open PySem PySem.W PySem.Calls PyProof.Rows HandSHeadRun L2
abbrev vS (s : String) (t : Nat) : Value := .str (Str.ofString s) t
abbrev dE (P : Params) (k : String) (t : Nat) (v : Value) : DictEntry := ⟨PyData.keyHash P (Str.ofString k), .str (Str.ofString k) t, v⟩
abbrev cD (name : String) (bases mro : List Value) (ns : Addr) (qual : String) (hd : Bool) (sn : List String) (sub : List Value) (ab : Bool) (col : Option Bool) (hdel : Bool) : ClassData := ⟨Str.ofString name, bases, mro, ns, Str.ofString qual, hd, sn.map Str.ofString, sub, ab, col, hdel⟩
abbrev fnB (name qual : Str) (params : Arguments) (body : List Stmt) (scope : Scope) (dV kV doc pm : Value) (an : Option Addr) (cdv ct : Value) : FuncData :=
  { name, qualname := qual, params, body := .stmts body, scope, globals := 0, closure := [], defaults := dV, kwdefaults := kV, doc, pyModule := pm, annotations := an, code := cdv, closureTuple := ct, builtins := builtinsNs }
abbrev pr : Program := PySem.Challenge.pw_poolsmeet_k01_errors
def top (i : Nat) : Stmt := pr.main.body.getD i (.Pass ⟨0, 0, 0, 0⟩)
/-! the objects -/
def o0_0 (P : Params) : Obj := ⟨(.type "dict"), none, (.dict #[dE P "__name__" 1 (vS "builtins" 160), dE P "__doc__" 2 (.builtin "builtins.__doc__:str#opaque"), dE P "__package__" 3 (.builtin "builtins.__package__:str#opaque"), dE P "__loader__" 4 (.builtin "builtins.__loader__:shared#opaque"), dE P "__spec__" 5 (.builtin "builtins.__spec__#opaque"), dE P "__build_class__" 6 (.builtin "__build_class__"), ⟨PyData.keyHash P (Str.mk #[95, 95, 105, 109, 112, 111, 114, 116, 95, 95]), .str (Str.mk #[95, 95, 105, 109, 112, 111, 114, 116, 95, 95]) 7, (.builtin "__import__")⟩, dE P "abs" 8 (.builtin "abs"), dE P "all" 9 (.builtin "all"), dE P "any" 10 (.builtin "any"), dE P "ascii" 11 (.builtin "ascii"), dE P "bin" 12 (.builtin "bin"), dE P "breakpoint" 13 (.builtin "breakpoint"), dE P "callable" 14 (.builtin "callable"), dE P "chr" 15 (.builtin "chr"), dE P "compile" 16 (.builtin "compile"), dE P "delattr" 17 (.builtin "delattr"), dE P "dir" 18 (.builtin "dir"), dE P "divmod" 19 (.builtin "divmod"), dE P "eval" 20 (.builtin "eval"), dE P "exec" 21 (.builtin "exec"), dE P "format" 22 (.builtin "format"), dE P "getattr" 23 (.builtin "getattr"), dE P "globals" 24 (.builtin "globals"), dE P "hasattr" 25 (.builtin "hasattr"), dE P "hash" 26 (.builtin "hash"), dE P "hex" 27 (.builtin "hex"), dE P "id" 28 (.builtin "id"), dE P "input" 29 (.builtin "input"), dE P "isinstance" 30 (.builtin "isinstance"), dE P "issubclass" 31 (.builtin "issubclass"), dE P "iter" 32 (.builtin "iter"), dE P "aiter" 33 (.builtin "aiter"), dE P "len" 34 (.builtin "len"), dE P "locals" 35 (.builtin "locals"), dE P "max" 36 (.builtin "max"), dE P "min" 37 (.builtin "min"), dE P "next" 38 (.builtin "next"), dE P "anext" 39 (.builtin "anext"), dE P "oct" 40 (.builtin "oct"), dE P "ord" 41 (.builtin "ord"), dE P "pow" 42 (.builtin "pow"), dE P "print" 43 (.builtin "print"), dE P "repr" 44 (.builtin "repr"), dE P "round" 45 (.builtin "round"), dE P "setattr" 46 (.builtin "setattr"), dE P "sorted" 47 (.builtin "sorted"), dE P "sum" 48 (.builtin "sum"), dE P "vars" 49 (.builtin "vars"), dE P "None" 50 .none, dE P "Ellipsis" 51 .ellipsis, dE P "NotImplemented" 52 .notImplemented, dE P "False" 53 (.bool false), dE P "True" 54 (.bool true), dE P "bool" 55 (.type "bool"), dE P "memoryview" 56 (.type "memoryview"), dE P "bytearray" 57 (.type "bytearray"), dE P "bytes" 58 (.type "bytes"), dE P "classmethod" 59 (.type "classmethod"), dE P "complex" 60 (.type "complex"), dE P "dict" 61 (.type "dict"), dE P "enumerate" 62 (.type "enumerate"), dE P "filter" 63 (.type "filter"), dE P "float" 64 (.type "float"), dE P "frozenset" 65 (.type "frozenset"), dE P "property" 66 (.type "property"), dE P "int" 67 (.type "int"), dE P "list" 68 (.type "list"), dE P "map" 69 (.type "map"), dE P "object" 70 (.type "object"), dE P "range" 71 (.type "range"), dE P "reversed" 72 (.type "reversed"), dE P "set" 73 (.type "set"), dE P "slice" 74 (.type "slice"), dE P "staticmethod" 75 (.type "staticmethod"), dE P "str" 76 (.type "str"), dE P "super" 77 (.type "super"), dE P "tuple" 78 (.type "tuple"), dE P "type" 79 (.type "type"), dE P "zip" 80 (.type "zip"), dE P "__debug__" 81 (.bool true), dE P "BaseException" 82 (.type "BaseException"), dE P "BaseExceptionGroup" 83 (.type "BaseExceptionGroup"), dE P "Exception" 84 (.type "Exception"), dE P "GeneratorExit" 85 (.type "GeneratorExit"), dE P "KeyboardInterrupt" 86 (.type "KeyboardInterrupt"), dE P "SystemExit" 87 (.type "SystemExit"), dE P "ArithmeticError" 88 (.type "ArithmeticError"), dE P "AssertionError" 89 (.type "AssertionError"), dE P "AttributeError" 90 (.type "AttributeError"), dE P "BufferError" 91 (.type "BufferError"), dE P "EOFError" 92 (.type "EOFError"), dE P "ImportError" 93 (.type "ImportError"), dE P "LookupError" 94 (.type "LookupError"), dE P "MemoryError" 95 (.type "MemoryError"), dE P "NameError" 96 (.type "NameError"), dE P "OSError" 97 (.type "OSError"), dE P "ReferenceError" 98 (.type "ReferenceError"), dE P "RuntimeError" 99 (.type "RuntimeError"), dE P "StopAsyncIteration" 100 (.type "StopAsyncIteration"), dE P "StopIteration" 101 (.type "StopIteration"), dE P "SyntaxError" 102 (.type "SyntaxError"), dE P "SystemError" 103 (.type "SystemError"), dE P "TypeError" 104 (.type "TypeError"), dE P "ValueError" 105 (.type "ValueError"), dE P "Warning" 106 (.type "Warning"), dE P "FloatingPointError" 107 (.type "FloatingPointError"), dE P "OverflowError" 108 (.type "OverflowError"), dE P "ZeroDivisionError" 109 (.type "ZeroDivisionError"), dE P "BytesWarning" 110 (.type "BytesWarning"), dE P "DeprecationWarning" 111 (.type "DeprecationWarning"), dE P "EncodingWarning" 112 (.type "EncodingWarning"), dE P "FutureWarning" 113 (.type "FutureWarning"), dE P "ImportWarning" 114 (.type "ImportWarning"), dE P "PendingDeprecationWarning" 115 (.type "PendingDeprecationWarning"), dE P "ResourceWarning" 116 (.type "ResourceWarning"), dE P "RuntimeWarning" 117 (.type "RuntimeWarning"), dE P "SyntaxWarning" 118 (.type "SyntaxWarning"), dE P "UnicodeWarning" 119 (.type "UnicodeWarning"), dE P "UserWarning" 120 (.type "UserWarning"), dE P "BlockingIOError" 121 (.type "BlockingIOError"), dE P "ChildProcessError" 122 (.type "ChildProcessError"), dE P "ConnectionError" 123 (.type "ConnectionError"), dE P "FileExistsError" 124 (.type "FileExistsError"), dE P "FileNotFoundError" 125 (.type "FileNotFoundError"), dE P "InterruptedError" 126 (.type "InterruptedError"), dE P "IsADirectoryError" 127 (.type "IsADirectoryError"), dE P "NotADirectoryError" 128 (.type "NotADirectoryError"), dE P "PermissionError" 129 (.type "PermissionError"), dE P "ProcessLookupError" 130 (.type "ProcessLookupError"), dE P "TimeoutError" 131 (.type "TimeoutError"), dE P "IndentationError" 132 (.type "IndentationError"), dE P "_IncompleteInputError" 133 (.type "_IncompleteInputError"), dE P "IndexError" 134 (.type "IndexError"), dE P "KeyError" 135 (.type "KeyError"), dE P "ModuleNotFoundError" 136 (.type "ModuleNotFoundError"), dE P "NotImplementedError" 137 (.type "NotImplementedError"), dE P "PythonFinalizationError" 138 (.type "PythonFinalizationError"), dE P "RecursionError" 139 (.type "RecursionError"), dE P "UnboundLocalError" 140 (.type "UnboundLocalError"), dE P "UnicodeError" 141 (.type "UnicodeError"), dE P "BrokenPipeError" 142 (.type "BrokenPipeError"), dE P "ConnectionAbortedError" 143 (.type "ConnectionAbortedError"), dE P "ConnectionRefusedError" 144 (.type "ConnectionRefusedError"), dE P "ConnectionResetError" 145 (.type "ConnectionResetError"), dE P "TabError" 146 (.type "TabError"), dE P "UnicodeDecodeError" 147 (.type "UnicodeDecodeError"), dE P "UnicodeEncodeError" 148 (.type "UnicodeEncodeError"), dE P "UnicodeTranslateError" 149 (.type "UnicodeTranslateError"), dE P "ExceptionGroup" 150 (.type "ExceptionGroup"), dE P "EnvironmentError" 151 (.type "OSError"), dE P "IOError" 152 (.type "OSError"), dE P "open" 153 (.builtin "open"), dE P "quit" 154 (.builtin "builtins.quit#opaque"), dE P "exit" 155 (.builtin "builtins.exit#opaque"), dE P "copyright" 156 (.builtin "builtins.copyright#opaque"), dE P "credits" 157 (.builtin "builtins.credits#opaque"), dE P "license" 158 (.builtin "builtins.license#opaque"), dE P "help" 159 (.builtin "builtins.help#opaque")] 159), #[]⟩
def o1_0 (P : Params) : Obj := ⟨(.type "dict"), none, (.dict #[dE P "builtins" 162 (.ref 4), dE P "__main__" 163 (.ref 5), dE P "math" 284 (.ref 13)] 3), #[]⟩
def o2_0 (P : Params) : Obj := ⟨.none, none, (.dict #[⟨PyData.keyHash P (Str.mk #[105, 109, 112, 111, 114, 116, 46, 108, 111, 97, 100, 101, 100, 46, 109, 97, 116, 104]), .str (Str.mk #[105, 109, 112, 111, 114, 116, 46, 108, 111, 97, 100, 101, 100, 46, 109, 97, 116, 104]) 185, (.bool true)⟩, ⟨PyData.keyHash P (Str.mk #[99, 108, 97, 115, 115, 46, 95, 102, 114, 111, 122, 101, 110, 95, 105, 109, 112, 111, 114, 116, 108, 105, 98, 95, 101, 120, 116, 101, 114, 110, 97, 108, 46, 95, 76, 111, 97, 100, 101, 114, 66, 97, 115, 105, 99, 115]), .str (Str.mk #[99, 108, 97, 115, 115, 46, 95, 102, 114, 111, 122, 101, 110, 95, 105, 109, 112, 111, 114, 116, 108, 105, 98, 95, 101, 120, 116, 101, 114, 110, 97, 108, 46, 95, 76, 111, 97, 100, 101, 114, 66, 97, 115, 105, 99, 115]) 190, (.ref 16)⟩, ⟨PyData.keyHash P (Str.mk #[119, 97, 116, 99, 104, 101, 100, 46, 105, 109, 112, 111, 114, 116]), .str (Str.mk #[119, 97, 116, 99, 104, 101, 100, 46, 105, 109, 112, 111, 114, 116]) 206, (.ref 20)⟩, ⟨PyData.keyHash P (Str.mk #[99, 108, 97, 115, 115, 46, 95, 102, 114, 111, 122, 101, 110, 95, 105, 109, 112, 111, 114, 116, 108, 105, 98, 95, 101, 120, 116, 101, 114, 110, 97, 108, 46, 70, 105, 108, 101, 76, 111, 97, 100, 101, 114]), .str (Str.mk #[99, 108, 97, 115, 115, 46, 95, 102, 114, 111, 122, 101, 110, 95, 105, 109, 112, 111, 114, 116, 108, 105, 98, 95, 101, 120, 116, 101, 114, 110, 97, 108, 46, 70, 105, 108, 101, 76, 111, 97, 100, 101, 114]) 207, (.ref 22)⟩, ⟨PyData.keyHash P (Str.mk #[99, 108, 97, 115, 115, 46, 95, 102, 114, 111, 122, 101, 110, 95, 105, 109, 112, 111, 114, 116, 108, 105, 98, 95, 101, 120, 116, 101, 114, 110, 97, 108, 46, 69, 120, 116, 101, 110, 115, 105, 111, 110, 70, 105, 108, 101, 76, 111, 97, 100, 101, 114]), .str (Str.mk #[99, 108, 97, 115, 115, 46, 95, 102, 114, 111, 122, 101, 110, 95, 105, 109, 112, 111, 114, 116, 108, 105, 98, 95, 101, 120, 116, 101, 114, 110, 97, 108, 46, 69, 120, 116, 101, 110, 115, 105, 111, 110, 70, 105, 108, 101, 76, 111, 97, 100, 101, 114]) 228, (.ref 27)⟩, ⟨PyData.keyHash P (Str.mk #[99, 108, 97, 115, 115, 46, 95, 102, 114, 111, 122, 101, 110, 95, 105, 109, 112, 111, 114, 116, 108, 105, 98, 46, 77, 111, 100, 117, 108, 101, 83, 112, 101, 99]), .str (Str.mk #[99, 108, 97, 115, 115, 46, 95, 102, 114, 111, 122, 101, 110, 95, 105, 109, 112, 111, 114, 116, 108, 105, 98, 46, 77, 111, 100, 117, 108, 101, 83, 112, 101, 99]) 256, (.ref 33)⟩, dE P "sys.modules.booked-epoch" 285 (.int 3 0), ⟨PyData.keyHash P (Str.mk #[105, 109, 112, 111, 114, 116, 46, 108, 97, 116, 101, 114, 45, 108, 97, 105, 100, 46, 109, 97, 116, 104]), .str (Str.mk #[105, 109, 112, 111, 114, 116, 46, 108, 97, 116, 101, 114, 45, 108, 97, 105, 100, 46, 109, 97, 116, 104]) 361, (.bool true)⟩, dE P "watched.library" 363 (.ref 38), dE P "watched.library-objects" 0 (.str (Str.mk #[13]) 0)] 10), #[]⟩
def o2_1 (P : Params) : Obj := ⟨.none, none, (.dict #[⟨PyData.keyHash P (Str.mk #[105, 109, 112, 111, 114, 116, 46, 108, 111, 97, 100, 101, 100, 46, 109, 97, 116, 104]), .str (Str.mk #[105, 109, 112, 111, 114, 116, 46, 108, 111, 97, 100, 101, 100, 46, 109, 97, 116, 104]) 185, (.bool true)⟩, ⟨PyData.keyHash P (Str.mk #[99, 108, 97, 115, 115, 46, 95, 102, 114, 111, 122, 101, 110, 95, 105, 109, 112, 111, 114, 116, 108, 105, 98, 95, 101, 120, 116, 101, 114, 110, 97, 108, 46, 95, 76, 111, 97, 100, 101, 114, 66, 97, 115, 105, 99, 115]), .str (Str.mk #[99, 108, 97, 115, 115, 46, 95, 102, 114, 111, 122, 101, 110, 95, 105, 109, 112, 111, 114, 116, 108, 105, 98, 95, 101, 120, 116, 101, 114, 110, 97, 108, 46, 95, 76, 111, 97, 100, 101, 114, 66, 97, 115, 105, 99, 115]) 190, (.ref 16)⟩, ⟨PyData.keyHash P (Str.mk #[119, 97, 116, 99, 104, 101, 100, 46, 105, 109, 112, 111, 114, 116]), .str (Str.mk #[119, 97, 116, 99, 104, 101, 100, 46, 105, 109, 112, 111, 114, 116]) 206, (.ref 20)⟩, ⟨PyData.keyHash P (Str.mk #[99, 108, 97, 115, 115, 46, 95, 102, 114, 111, 122, 101, 110, 95, 105, 109, 112, 111, 114, 116, 108, 105, 98, 95, 101, 120, 116, 101, 114, 110, 97, 108, 46, 70, 105, 108, 101, 76, 111, 97, 100, 101, 114]), .str (Str.mk #[99, 108, 97, 115, 115, 46, 95, 102, 114, 111, 122, 101, 110, 95, 105, 109, 112, 111, 114, 116, 108, 105, 98, 95, 101, 120, 116, 101, 114, 110, 97, 108, 46, 70, 105, 108, 101, 76, 111, 97, 100, 101, 114]) 207, (.ref 22)⟩, ⟨PyData.keyHash P (Str.mk #[99, 108, 97, 115, 115, 46, 95, 102, 114, 111, 122, 101, 110, 95, 105, 109, 112, 111, 114, 116, 108, 105, 98, 95, 101, 120, 116, 101, 114, 110, 97, 108, 46, 69, 120, 116, 101, 110, 115, 105, 111, 110, 70, 105, 108, 101, 76, 111, 97, 100, 101, 114]), .str (Str.mk #[99, 108, 97, 115, 115, 46, 95, 102, 114, 111, 122, 101, 110, 95, 105, 109, 112, 111, 114, 116, 108, 105, 98, 95, 101, 120, 116, 101, 114, 110, 97, 108, 46, 69, 120, 116, 101, 110, 115, 105, 111, 110, 70, 105, 108, 101, 76, 111, 97, 100, 101, 114]) 228, (.ref 27)⟩, ⟨PyData.keyHash P (Str.mk #[99, 108, 97, 115, 115, 46, 95, 102, 114, 111, 122, 101, 110, 95, 105, 109, 112, 111, 114, 116, 108, 105, 98, 46, 77, 111, 100, 117, 108, 101, 83, 112, 101, 99]), .str (Str.mk #[99, 108, 97, 115, 115, 46, 95, 102, 114, 111, 122, 101, 110, 95, 105, 109, 112, 111, 114, 116, 108, 105, 98, 46, 77, 111, 100, 117, 108, 101, 83, 112, 101, 99]) 256, (.ref 33)⟩, dE P "sys.modules.booked-epoch" 285 (.int 3 0), ⟨PyData.keyHash P (Str.mk #[105, 109, 112, 111, 114, 116, 46, 108, 97, 116, 101, 114, 45, 108, 97, 105, 100, 46, 109, 97, 116, 104]), .str (Str.mk #[105, 109, 112, 111, 114, 116, 46, 108, 97, 116, 101, 114, 45, 108, 97, 105, 100, 46, 109, 97, 116, 104]) 361, (.bool true)⟩, dE P "watched.library" 363 (.ref 38), dE P "watched.library-objects" 0 (.str (Str.mk #[13]) 0), dE P "type.__subclasses__.IndexError.0" 687 (.int 274 0), dE P "type.__subclasses__.IndexError.n" 688 (.int 1 0)] 12), #[]⟩
def o3_0 (P : Params) : Obj := ⟨(.type "dict"), none, (.dict #[dE P "__name__" 165 (vS "__main__" 164), dE P "__doc__" 166 .none, dE P "__package__" 167 .none, dE P "__loader__" 168 (.builtin "__main__.__loader__#opaque"), dE P "__spec__" 169 .none, dE P "__annotations__" 170 (.ref 6), dE P "__builtins__" 171 (.ref 4), dE P "__file__" 173 (vS "/claim/cut.py" 172), dE P "__cached__" 174 .none, dE P "gcd" 369 (.builtin "math.gcd")] 10), #[]⟩
def o3_1 (P : Params) : Obj := ⟨(.type "dict"), none, (.dict #[dE P "__name__" 165 (vS "poolsmeet.errors" 383), dE P "__doc__" 166 .none, dE P "__package__" 167 .none, dE P "__loader__" 168 (.builtin "__main__.__loader__#opaque"), dE P "__spec__" 169 .none, dE P "__annotations__" 170 (.ref 6), dE P "__builtins__" 171 (.ref 4), dE P "__file__" 173 (vS "/claim/cut.py" 172), dE P "__cached__" 174 .none, dE P "gcd" 369 (.builtin "math.gcd"), dE P "_wall" 382 (.ref 49), dE P "PoolError" 402 (.ref 59), dE P "InvalidNumber" 427 (.ref 79), dE P "InvalidDrop" 452 (.ref 98), dE P "InvalidTime" 477 (.ref 117), dE P "InvalidText" 502 (.ref 136), dE P "InvalidCommand" 518 (.ref 148)] 17), #[]⟩
def o3_2 (P : Params) : Obj := ⟨(.type "dict"), none, (.dict #[dE P "__name__" 165 (vS "poolsmeet.errors" 383), dE P "__doc__" 166 .none, dE P "__package__" 167 .none, dE P "__loader__" 168 (.builtin "__main__.__loader__#opaque"), dE P "__spec__" 169 .none, dE P "__annotations__" 170 (.ref 6), dE P "__builtins__" 171 (.ref 4), dE P "__file__" 173 (vS "/claim/cut.py" 172), dE P "__cached__" 174 .none, dE P "gcd" 369 (.builtin "math.gcd"), dE P "_wall" 382 (.ref 49), dE P "PoolError" 402 (.ref 59), dE P "InvalidNumber" 427 (.ref 79), dE P "InvalidDrop" 452 (.ref 98), dE P "InvalidTime" 477 (.ref 117), dE P "InvalidText" 502 (.ref 136), dE P "InvalidCommand" 518 (.ref 148), dE P "Full" 543 (.ref 167), dE P "MissingDrop" 570 (.ref 186), dE P "Touching" 595 (.ref 205), dE P "OutOfGround" 620 (.ref 224), dE P "Overfull" 645 (.ref 243), dE P "TrialError" 661 (.ref 255)] 23), #[]⟩
def o3_3 (P : Params) : Obj := ⟨(.type "dict"), none, (.dict #[dE P "__name__" 165 (vS "poolsmeet.ratios" 691), dE P "__doc__" 166 .none, dE P "__package__" 167 .none, dE P "__loader__" 168 (.builtin "__main__.__loader__#opaque"), dE P "__spec__" 169 .none, dE P "__annotations__" 170 (.ref 6), dE P "__builtins__" 171 (.ref 4), dE P "__file__" 173 (vS "/claim/cut.py" 172), dE P "__cached__" 174 .none, dE P "gcd" 369 (.builtin "math.gcd"), dE P "_wall" 382 (.ref 49), dE P "PoolError" 402 (.ref 59), dE P "InvalidNumber" 427 (.ref 79), dE P "InvalidDrop" 452 (.ref 98), dE P "InvalidTime" 477 (.ref 117), dE P "InvalidText" 502 (.ref 136), dE P "InvalidCommand" 518 (.ref 148), dE P "Full" 543 (.ref 167), dE P "MissingDrop" 570 (.ref 186), dE P "Touching" 595 (.ref 205), dE P "OutOfGround" 620 (.ref 224), dE P "Overfull" 645 (.ref 243), dE P "TrialError" 661 (.ref 255), dE P "UnknownIndex" 690 (.ref 274), dE P "MOST_DIGITS" 694 (.int 1000 693)] 25), #[]⟩
def o3_4 (P : Params) : Obj := ⟨(.type "dict"), none, (.dict #[dE P "__name__" 165 (vS "law_poolsmeet_k01_errors" 971), dE P "__doc__" 166 .none, dE P "__package__" 167 .none, dE P "__loader__" 168 (.builtin "__main__.__loader__#opaque"), dE P "__spec__" 169 .none, dE P "__annotations__" 170 (.ref 6), dE P "__builtins__" 171 (.ref 4), dE P "__file__" 173 (vS "/claim/cut.py" 172), dE P "__cached__" 174 .none, dE P "gcd" 369 (.builtin "math.gcd"), dE P "_wall" 382 (.ref 49), dE P "PoolError" 402 (.ref 59), dE P "InvalidNumber" 427 (.ref 79), dE P "InvalidDrop" 452 (.ref 98), dE P "InvalidTime" 477 (.ref 117), dE P "InvalidText" 502 (.ref 136), dE P "InvalidCommand" 518 (.ref 148), dE P "Full" 543 (.ref 167), dE P "MissingDrop" 570 (.ref 186), dE P "Touching" 595 (.ref 205), dE P "OutOfGround" 620 (.ref 224), dE P "Overfull" 645 (.ref 243), dE P "TrialError" 661 (.ref 255), dE P "UnknownIndex" 690 (.ref 274), dE P "MOST_DIGITS" 694 (.int 1000 693), dE P "Ratio" 948 (.ref 471), dE P "is_number" 955 (.ref 482), dE P "is_group" 962 (.ref 489), dE P "lead" 970 (.ref 496), dE P "_law_box" 982 (.ref 503), dE P "_law_take" 993 (.ref 510), dE P "_law_value" 999 (.ref 515), dE P "_law_alike" 1005 (.ref 520)] 33), #[]⟩
def o3_5 (P : Params) : Obj := ⟨(.type "dict"), none, (.dict #[dE P "__name__" 165 (vS "law_poolsmeet_k01_errors" 971), dE P "__doc__" 166 .none, dE P "__package__" 167 .none, dE P "__loader__" 168 (.builtin "__main__.__loader__#opaque"), dE P "__spec__" 169 .none, dE P "__annotations__" 170 (.ref 6), dE P "__builtins__" 171 (.ref 4), dE P "__file__" 173 (vS "/claim/cut.py" 172), dE P "__cached__" 174 .none, dE P "gcd" 369 (.builtin "math.gcd"), dE P "_wall" 382 (.ref 49), dE P "PoolError" 402 (.ref 59), dE P "InvalidNumber" 427 (.ref 79), dE P "InvalidDrop" 452 (.ref 98), dE P "InvalidTime" 477 (.ref 117), dE P "InvalidText" 502 (.ref 136), dE P "InvalidCommand" 518 (.ref 148), dE P "Full" 543 (.ref 167), dE P "MissingDrop" 570 (.ref 186), dE P "Touching" 595 (.ref 205), dE P "OutOfGround" 620 (.ref 224), dE P "Overfull" 645 (.ref 243), dE P "TrialError" 661 (.ref 255), dE P "UnknownIndex" 690 (.ref 274), dE P "MOST_DIGITS" 694 (.int 1000 693), dE P "Ratio" 948 (.ref 471), dE P "is_number" 955 (.ref 482), dE P "is_group" 962 (.ref 489), dE P "lead" 970 (.ref 496), dE P "_law_box" 982 (.ref 503), dE P "_law_take" 993 (.ref 510), dE P "_law_value" 999 (.ref 515), dE P "_law_alike" 1005 (.ref 520), dE P "_law_placed" 1025 (.ref 527), dE P "_law_named" 1045 (.ref 534), dE P "_law_kinds" 1054 (.ref 541), dE P "_law_right" 1060 (.ref 546), dE P "law" 1074 (.ref 553)] 38), #[]⟩
def o4_0 (P : Params) : Obj := ⟨(.type "module"), (some 0), .plain, #[]⟩
def o5_0 (P : Params) : Obj := ⟨(.type "module"), (some 3), .plain, #[]⟩
def o6_0 (P : Params) : Obj := ⟨(.type "dict"), none, (.dict #[] 0), #[]⟩
def o7_0 (P : Params) : Obj := ⟨(.type "tuple"), none, (.seq #[] 0), #[]⟩
def o8_0 (P : Params) : Obj := ⟨.none, none, (.fields #[]), #[]⟩
def o9_0 (P : Params) : Obj := ⟨(.type "code"), none, (.fields #[(vS "<module>" 176), (vS "<module>" 177), (vS "/claim/cut.py" 178), (.int 1 0), (.int 0 0), (.int 0 0), (.int 0 0), (.int 0 0), (.ref 7), (.bool false), (.int 175 0), (.ref 8), .none, .none, .none, .none, (.int 179 0), (.int 1 0), (vS "/claim/cut.py" 180)]), #[]⟩
def o10_0 (P : Params) : Obj := ⟨(.type "frame"), none, .plain, #[some (.ref 9), some (.ref 3), some (.ref 3), none, some (vS "__main__" 164), none, some (.ref 0)]⟩
def o11_0 (P : Params) : Obj := ⟨(.type "tuple"), none, (.seq #[(vS "gcd" 182)] 0), #[]⟩
def o12_0 (P : Params) : Obj := ⟨(.type "dict"), none, (.dict #[dE P "__name__" 287 (vS "math" 286), dE P "__doc__" 288 (.builtin "off-the-table:math.__doc__:shared#opaque"), dE P "__package__" 290 (vS "" 289), dE P "__loader__" 291 (.builtin "off-the-table:math.__loader__:shared#opaque"), dE P "__spec__" 292 (.builtin "off-the-table:math.__spec__:shared#opaque"), dE P "acos" 293 (.builtin "off-the-table:math.acos:shared#opaque"), dE P "acosh" 294 (.builtin "off-the-table:math.acosh:shared#opaque"), dE P "asin" 295 (.builtin "off-the-table:math.asin:shared#opaque"), dE P "asinh" 296 (.builtin "off-the-table:math.asinh:shared#opaque"), dE P "atan" 297 (.builtin "off-the-table:math.atan:shared#opaque"), dE P "atan2" 298 (.builtin "off-the-table:math.atan2:shared#opaque"), dE P "atanh" 299 (.builtin "off-the-table:math.atanh:shared#opaque"), dE P "cbrt" 300 (.builtin "off-the-table:math.cbrt:shared#opaque"), dE P "ceil" 301 (.builtin "math.ceil"), dE P "copysign" 302 (.builtin "math.copysign"), dE P "cos" 303 (.builtin "off-the-table:math.cos:shared#opaque"), dE P "cosh" 304 (.builtin "off-the-table:math.cosh:shared#opaque"), dE P "degrees" 305 (.builtin "math.degrees"), dE P "dist" 306 (.builtin "math.dist"), dE P "erf" 307 (.builtin "off-the-table:math.erf:shared#opaque"), dE P "erfc" 308 (.builtin "off-the-table:math.erfc:shared#opaque"), dE P "exp" 309 (.builtin "off-the-table:math.exp:shared#opaque"), dE P "exp2" 310 (.builtin "off-the-table:math.exp2:shared#opaque"), dE P "expm1" 311 (.builtin "off-the-table:math.expm1:shared#opaque"), dE P "fabs" 312 (.builtin "math.fabs"), dE P "factorial" 313 (.builtin "math.factorial"), dE P "floor" 314 (.builtin "math.floor"), dE P "fma" 315 (.builtin "math.fma"), dE P "fmod" 316 (.builtin "math.fmod"), dE P "frexp" 317 (.builtin "math.frexp"), dE P "fsum" 318 (.builtin "math.fsum"), dE P "gamma" 319 (.builtin "off-the-table:math.gamma:shared#opaque"), dE P "gcd" 320 (.builtin "math.gcd"), dE P "hypot" 321 (.builtin "math.hypot"), dE P "isclose" 322 (.builtin "math.isclose"), dE P "isfinite" 323 (.builtin "math.isfinite"), dE P "isinf" 324 (.builtin "math.isinf"), dE P "isnan" 325 (.builtin "math.isnan"), dE P "isqrt" 326 (.builtin "math.isqrt"), dE P "lcm" 327 (.builtin "math.lcm"), dE P "ldexp" 328 (.builtin "math.ldexp"), dE P "lgamma" 329 (.builtin "off-the-table:math.lgamma:shared#opaque"), dE P "log" 330 (.builtin "off-the-table:math.log:shared#opaque"), dE P "log1p" 331 (.builtin "off-the-table:math.log1p:shared#opaque"), dE P "log10" 332 (.builtin "off-the-table:math.log10:shared#opaque"), dE P "log2" 333 (.builtin "off-the-table:math.log2:shared#opaque"), dE P "modf" 334 (.builtin "math.modf"), dE P "pow" 335 (.builtin "off-the-table:math.pow:shared#opaque"), dE P "radians" 336 (.builtin "math.radians"), dE P "remainder" 337 (.builtin "math.remainder"), dE P "sin" 338 (.builtin "off-the-table:math.sin:shared#opaque"), dE P "sinh" 339 (.builtin "off-the-table:math.sinh:shared#opaque"), dE P "sqrt" 340 (.builtin "math.sqrt"), dE P "tan" 341 (.builtin "off-the-table:math.tan:shared#opaque"), dE P "tanh" 342 (.builtin "off-the-table:math.tanh:shared#opaque"), dE P "sumprod" 343 (.builtin "math.sumprod"), dE P "trunc" 344 (.builtin "math.trunc"), dE P "prod" 345 (.builtin "math.prod"), dE P "perm" 346 (.builtin "math.perm"), dE P "comb" 347 (.builtin "math.comb"), dE P "nextafter" 348 (.builtin "math.nextafter"), dE P "ulp" 349 (.builtin "math.ulp"), dE P "__file__" 350 (vS "/nix/store/wj1f56qky4pmjc7l0r6b6l7whnnw7hp6-python3-3.13.15/lib/python3.13/lib-dynload/math.cpython-313-x86_64-linux-gnu.so" 186), dE P "pi" 352 (.float 4614256656552045848 351), dE P "e" 354 (.float 4613303445314885481 353), dE P "tau" 356 (.float 4618760256179416344 355), dE P "inf" 358 (.float 9218868437227405312 357), dE P "nan" 360 (.float 9221120237041090560 359)] 68), #[]⟩
def o13_0 (P : Params) : Obj := ⟨(.type "module"), (some 12), .plain, #[]⟩
def o14_0 (P : Params) : Obj := ⟨(.type "dict"), none, (.dict #[dE P "name" 188 (vS "math" 187), dE P "path" 189 (vS "/nix/store/wj1f56qky4pmjc7l0r6b6l7whnnw7hp6-python3-3.13.15/lib/python3.13/lib-dynload/math.cpython-313-x86_64-linux-gnu.so" 186)] 2), #[]⟩
def o15_0 (P : Params) : Obj := ⟨(.type "dict"), none, (.dict #[dE P "__module__" 193 (.str (Str.mk #[95, 102, 114, 111, 122, 101, 110, 95, 105, 109, 112, 111, 114, 116, 108, 105, 98, 95, 101, 120, 116, 101, 114, 110, 97, 108]) 191), dE P "__firstlineno__" 194 (.int 1001 192), dE P "__doc__" 195 (.builtin "_frozen_importlib_external._LoaderBasics.__doc__:str#opaque"), dE P "is_package" 196 (.builtin "_frozen_importlib_external._LoaderBasics.is_package#opaque"), dE P "create_module" 197 (.builtin "_frozen_importlib_external._LoaderBasics.create_module#opaque"), dE P "exec_module" 198 (.builtin "_frozen_importlib_external._LoaderBasics.exec_module#opaque"), dE P "load_module" 199 (.builtin "_frozen_importlib_external._LoaderBasics.load_module#opaque"), dE P "__static_attributes__" 200 (.ref 17), dE P "__dict__" 202 (.ref 18), dE P "__weakref__" 204 (.ref 19)] 10), #[]⟩
def o16_0 (P : Params) : Obj := ⟨(.type "type"), none, (.cls (cD "_LoaderBasics" [(.type "object")] [(.ref 16), (.type "object")] 15 "_LoaderBasics" true [] [(.ref 27)] false none false)), #[]⟩
def o17_0 (P : Params) : Obj := ⟨(.type "tuple"), none, (.seq #[] 0), #[]⟩
def o18_0 (P : Params) : Obj := ⟨(.type "getset_descriptor"), none, (.fields #[(vS "__dict__" 201), (.ref 16), (.builtin "function.__dict__"), (.builtin "function.__dict__#set")]), #[]⟩
def o19_0 (P : Params) : Obj := ⟨(.type "getset_descriptor"), none, (.fields #[(vS "__weakref__" 203), (.ref 16), (.builtin "ExceptionGroup.__weakref__"), .none]), #[]⟩
def o20_0 (P : Params) : Obj := ⟨.none, none, (.seq #[(.int 15 0), (.str (Str.mk #[6, 193, 10, 95, 95, 109, 111, 100, 117, 108, 101, 95, 95, 6, 191, 26, 95, 102, 114, 111, 122, 101, 110, 95, 105, 109, 112, 111, 114, 116, 108, 105, 98, 95, 101, 120, 116, 101, 114, 110, 97, 108, 6, 194, 15, 95, 95, 102, 105, 114, 115, 116, 108, 105, 110, 101, 110, 111, 95, 95, 4, 192, 0, 1001, 6, 195, 7, 95, 95, 100, 111, 99, 95, 95, 9, 59, 95, 102, 114, 111, 122, 101, 110, 95, 105, 109, 112, 111, 114, 116, 108, 105, 98, 95, 101, 120, 116, 101, 114, 110, 97, 108, 46, 95, 76, 111, 97, 100, 101, 114, 66, 97, 115, 105, 99, 115, 46, 95, 95, 100, 111, 99, 95, 95, 58, 115, 116, 114, 35, 111, 112, 97, 113, 117, 101, 6, 196, 10, 105, 115, 95, 112, 97, 99, 107, 97, 103, 101, 9, 58, 95, 102, 114, 111, 122, 101, 110, 95, 105, 109, 112, 111, 114, 116, 108, 105, 98, 95, 101, 120, 116, 101, 114, 110, 97, 108, 46, 95, 76, 111, 97, 100, 101, 114, 66, 97, 115, 105, 99, 115, 46, 105, 115, 95, 112, 97, 99, 107, 97, 103, 101, 35, 111, 112, 97, 113, 117, 101, 6, 197, 13, 99, 114, 101, 97, 116, 101, 95, 109, 111, 100, 117, 108, 101, 9, 61, 95, 102, 114, 111, 122, 101, 110, 95, 105, 109, 112, 111, 114, 116, 108, 105, 98, 95, 101, 120, 116, 101, 114, 110, 97, 108, 46, 95, 76, 111, 97, 100, 101, 114, 66, 97, 115, 105, 99, 115, 46, 99, 114, 101, 97, 116, 101, 95, 109, 111, 100, 117, 108, 101, 35, 111, 112, 97, 113, 117, 101, 6, 198, 11, 101, 120, 101, 99, 95, 109, 111, 100, 117, 108, 101, 9, 59, 95, 102, 114, 111, 122, 101, 110, 95, 105, 109, 112, 111, 114, 116, 108, 105, 98, 95, 101, 120, 116, 101, 114, 110, 97, 108, 46, 95, 76, 111, 97, 100, 101, 114, 66, 97, 115, 105, 99, 115, 46, 101, 120, 101, 99, 95, 109, 111, 100, 117, 108, 101, 35, 111, 112, 97, 113, 117, 101, 6, 199, 11, 108, 111, 97, 100, 95, 109, 111, 100, 117, 108, 101, 9, 59, 95, 102, 114, 111, 122, 101, 110, 95, 105, 109, 112, 111, 114, 116, 108, 105, 98, 95, 101, 120, 116, 101, 114, 110, 97, 108, 46, 95, 76, 111, 97, 100, 101, 114, 66, 97, 115, 105, 99, 115, 46, 108, 111, 97, 100, 95, 109, 111, 100, 117, 108, 101, 35, 111, 112, 97, 113, 117, 101, 6, 200, 21, 95, 95, 115, 116, 97, 116, 105, 99, 95, 97, 116, 116, 114, 105, 98, 117, 116, 101, 115, 95, 95, 4, 0, 0, 17, 6, 202, 8, 95, 95, 100, 105, 99, 116, 95, 95, 4, 0, 0, 18, 6, 204, 11, 95, 95, 119, 101, 97, 107, 114, 101, 102, 95, 95, 4, 0, 0, 19]) 0), (.bool true), (.bool true), (vS "" 205), (.int 21 0), (.str (Str.mk #[6, 212, 10, 95, 95, 109, 111, 100, 117, 108, 101, 95, 95, 6, 208, 26, 95, 102, 114, 111, 122, 101, 110, 95, 105, 109, 112, 111, 114, 116, 108, 105, 98, 95, 101, 120, 116, 101, 114, 110, 97, 108, 6, 213, 15, 95, 95, 102, 105, 114, 115, 116, 108, 105, 110, 101, 110, 111, 95, 95, 4, 209, 0, 1176, 6, 214, 7, 95, 95, 100, 111, 99, 95, 95, 9, 56, 95, 102, 114, 111, 122, 101, 110, 95, 105, 109, 112, 111, 114, 116, 108, 105, 98, 95, 101, 120, 116, 101, 114, 110, 97, 108, 46, 70, 105, 108, 101, 76, 111, 97, 100, 101, 114, 46, 95, 95, 100, 111, 99, 95, 95, 58, 115, 116, 114, 35, 111, 112, 97, 113, 117, 101, 6, 215, 8, 95, 95, 105, 110, 105, 116, 95, 95, 9, 53, 95, 102, 114, 111, 122, 101, 110, 95, 105, 109, 112, 111, 114, 116, 108, 105, 98, 95, 101, 120, 116, 101, 114, 110, 97, 108, 46, 70, 105, 108, 101, 76, 111, 97, 100, 101, 114, 46, 95, 95, 105, 110, 105, 116, 95, 95, 35, 111, 112, 97, 113, 117, 101, 6, 216, 6, 95, 95, 101, 113, 95, 95, 9, 51, 95, 102, 114, 111, 122, 101, 110, 95, 105, 109, 112, 111, 114, 116, 108, 105, 98, 95, 101, 120, 116, 101, 114, 110, 97, 108, 46, 70, 105, 108, 101, 76, 111, 97, 100, 101, 114, 46, 95, 95, 101, 113, 95, 95, 35, 111, 112, 97, 113, 117, 101, 6, 217, 8, 95, 95, 104, 97, 115, 104, 95, 95, 9, 53, 95, 102, 114, 111, 122, 101, 110, 95, 105, 109, 112, 111, 114, 116, 108, 105, 98, 95, 101, 120, 116, 101, 114, 110, 97, 108, 46, 70, 105, 108, 101, 76, 111, 97, 100, 101, 114, 46, 95, 95, 104, 97, 115, 104, 95, 95, 35, 111, 112, 97, 113, 117, 101, 6, 218, 11, 108, 111, 97, 100, 95, 109, 111, 100, 117, 108, 101, 9, 56, 95, 102, 114, 111, 122, 101, 110, 95, 105, 109, 112, 111, 114, 116, 108, 105, 98, 95, 101, 120, 116, 101, 114, 110, 97, 108, 46, 70, 105, 108, 101, 76, 111, 97, 100, 101, 114, 46, 108, 111, 97, 100, 95, 109, 111, 100, 117, 108, 101, 35, 111, 112, 97, 113, 117, 101, 6, 219, 12, 103, 101, 116, 95, 102, 105, 108, 101, 110, 97, 109, 101, 9, 57, 95, 102, 114, 111, 122, 101, 110, 95, 105, 109, 112, 111, 114, 116, 108, 105, 98, 95, 101, 120, 116, 101, 114, 110, 97, 108, 46, 70, 105, 108, 101, 76, 111, 97, 100, 101, 114, 46, 103, 101, 116, 95, 102, 105, 108, 101, 110, 97, 109, 101, 35, 111, 112, 97, 113, 117, 101, 6, 220, 8, 103, 101, 116, 95, 100, 97, 116, 97, 9, 53, 95, 102, 114, 111, 122, 101, 110, 95, 105, 109, 112, 111, 114, 116, 108, 105, 98, 95, 101, 120, 116, 101, 114, 110, 97, 108, 46, 70, 105, 108, 101, 76, 111, 97, 100, 101, 114, 46, 103, 101, 116, 95, 100, 97, 116, 97, 35, 111, 112, 97, 113, 117, 101, 6, 221, 19, 103, 101, 116, 95, 114, 101, 115, 111, 117, 114, 99, 101, 95, 114, 101, 97, 100, 101, 114, 9, 64, 95, 102, 114, 111, 122, 101, 110, 95, 105, 109, 112, 111, 114, 116, 108, 105, 98, 95, 101, 120, 116, 101, 114, 110, 97, 108, 46, 70, 105, 108, 101, 76, 111, 97, 100, 101, 114, 46, 103, 101, 116, 95, 114, 101, 115, 111, 117, 114, 99, 101, 95, 114, 101, 97, 100, 101, 114, 35, 111, 112, 97, 113, 117, 101, 6, 222, 21, 95, 95, 115, 116, 97, 116, 105, 99, 95, 97, 116, 116, 114, 105, 98, 117, 116, 101, 115, 95, 95, 4, 0, 0, 23, 6, 224, 8, 95, 95, 100, 105, 99, 116, 95, 95, 4, 0, 0, 24, 6, 226, 11, 95, 95, 119, 101, 97, 107, 114, 101, 102, 95, 95, 4, 0, 0, 25]) 0), (.bool true), (.bool true), (vS "" 227), (.int 26 0), (.str (Str.mk #[6, 233, 10, 95, 95, 109, 111, 100, 117, 108, 101, 95, 95, 6, 229, 26, 95, 102, 114, 111, 122, 101, 110, 95, 105, 109, 112, 111, 114, 116, 108, 105, 98, 95, 101, 120, 116, 101, 114, 110, 97, 108, 6, 234, 15, 95, 95, 102, 105, 114, 115, 116, 108, 105, 110, 101, 110, 111, 95, 95, 4, 230, 0, 1296, 6, 235, 7, 95, 95, 100, 111, 99, 95, 95, 9, 65, 95, 102, 114, 111, 122, 101, 110, 95, 105, 109, 112, 111, 114, 116, 108, 105, 98, 95, 101, 120, 116, 101, 114, 110, 97, 108, 46, 69, 120, 116, 101, 110, 115, 105, 111, 110, 70, 105, 108, 101, 76, 111, 97, 100, 101, 114, 46, 95, 95, 100, 111, 99, 95, 95, 58, 115, 116, 114, 35, 111, 112, 97, 113, 117, 101, 6, 236, 8, 95, 95, 105, 110, 105, 116, 95, 95, 9, 62, 95, 102, 114, 111, 122, 101, 110, 95, 105, 109, 112, 111, 114, 116, 108, 105, 98, 95, 101, 120, 116, 101, 114, 110, 97, 108, 46, 69, 120, 116, 101, 110, 115, 105, 111, 110, 70, 105, 108, 101, 76, 111, 97, 100, 101, 114, 46, 95, 95, 105, 110, 105, 116, 95, 95, 35, 111, 112, 97, 113, 117, 101, 6, 237, 6, 95, 95, 101, 113, 95, 95, 9, 60, 95, 102, 114, 111, 122, 101, 110, 95, 105, 109, 112, 111, 114, 116, 108, 105, 98, 95, 101, 120, 116, 101, 114, 110, 97, 108, 46, 69, 120, 116, 101, 110, 115, 105, 111, 110, 70, 105, 108, 101, 76, 111, 97, 100, 101, 114, 46, 95, 95, 101, 113, 95, 95, 35, 111, 112, 97, 113, 117, 101, 6, 238, 8, 95, 95, 104, 97, 115, 104, 95, 95, 9, 62, 95, 102, 114, 111, 122, 101, 110, 95, 105, 109, 112, 111, 114, 116, 108, 105, 98, 95, 101, 120, 116, 101, 114, 110, 97, 108, 46, 69, 120, 116, 101, 110, 115, 105, 111, 110, 70, 105, 108, 101, 76, 111, 97, 100, 101, 114, 46, 95, 95, 104, 97, 115, 104, 95, 95, 35, 111, 112, 97, 113, 117, 101, 6, 239, 13, 99, 114, 101, 97, 116, 101, 95, 109, 111, 100, 117, 108, 101, 9, 67, 95, 102, 114, 111, 122, 101, 110, 95, 105, 109, 112, 111, 114, 116, 108, 105, 98, 95, 101, 120, 116, 101, 114, 110, 97, 108, 46, 69, 120, 116, 101, 110, 115, 105, 111, 110, 70, 105, 108, 101, 76, 111, 97, 100, 101, 114, 46, 99, 114, 101, 97, 116, 101, 95, 109, 111, 100, 117, 108, 101, 35, 111, 112, 97, 113, 117, 101, 6, 240, 11, 101, 120, 101, 99, 95, 109, 111, 100, 117, 108, 101, 9, 65, 95, 102, 114, 111, 122, 101, 110, 95, 105, 109, 112, 111, 114, 116, 108, 105, 98, 95, 101, 120, 116, 101, 114, 110, 97, 108, 46, 69, 120, 116, 101, 110, 115, 105, 111, 110, 70, 105, 108, 101, 76, 111, 97, 100, 101, 114, 46, 101, 120, 101, 99, 95, 109, 111, 100, 117, 108, 101, 35, 111, 112, 97, 113, 117, 101, 6, 241, 10, 105, 115, 95, 112, 97, 99, 107, 97, 103, 101, 9, 64, 95, 102, 114, 111, 122, 101, 110, 95, 105, 109, 112, 111, 114, 116, 108, 105, 98, 95, 101, 120, 116, 101, 114, 110, 97, 108, 46, 69, 120, 116, 101, 110, 115, 105, 111, 110, 70, 105, 108, 101, 76, 111, 97, 100, 101, 114, 46, 105, 115, 95, 112, 97, 99, 107, 97, 103, 101, 35, 111, 112, 97, 113, 117, 101, 6, 242, 8, 103, 101, 116, 95, 99, 111, 100, 101, 9, 62, 95, 102, 114, 111, 122, 101, 110, 95, 105, 109, 112, 111, 114, 116, 108, 105, 98, 95, 101, 120, 116, 101, 114, 110, 97, 108, 46, 69, 120, 116, 101, 110, 115, 105, 111, 110, 70, 105, 108, 101, 76, 111, 97, 100, 101, 114, 46, 103, 101, 116, 95, 99, 111, 100, 101, 35, 111, 112, 97, 113, 117, 101, 6, 243, 10, 103, 101, 116, 95, 115, 111, 117, 114, 99, 101, 9, 64, 95, 102, 114, 111, 122, 101, 110, 95, 105, 109, 112, 111, 114, 116, 108, 105, 98, 95, 101, 120, 116, 101, 114, 110, 97, 108, 46, 69, 120, 116, 101, 110, 115, 105, 111, 110, 70, 105, 108, 101, 76, 111, 97, 100, 101, 114, 46, 103, 101, 116, 95, 115, 111, 117, 114, 99, 101, 35, 111, 112, 97, 113, 117, 101, 6, 244, 12, 103, 101, 116, 95, 102, 105, 108, 101, 110, 97, 109, 101, 9, 66, 95, 102, 114, 111, 122, 101, 110, 95, 105, 109, 112, 111, 114, 116, 108, 105, 98, 95, 101, 120, 116, 101, 114, 110, 97, 108, 46, 69, 120, 116, 101, 110, 115, 105, 111, 110, 70, 105, 108, 101, 76, 111, 97, 100, 101, 114, 46, 103, 101, 116, 95, 102, 105, 108, 101, 110, 97, 109, 101, 35, 111, 112, 97, 113, 117, 101, 6, 245, 21, 95, 95, 115, 116, 97, 116, 105, 99, 95, 97, 116, 116, 114, 105, 98, 117, 116, 101, 115, 95, 95, 4, 0, 0, 28]) 0), (.bool true), (.bool true), (vS "" 246), (.int 32 0), (.str (Str.mk #[6, 267, 10, 95, 95, 109, 111, 100, 117, 108, 101, 95, 95, 6, 257, 17, 95, 102, 114, 111, 122, 101, 110, 95, 105, 109, 112, 111, 114, 116, 108, 105, 98, 6, 268, 15, 95, 95, 102, 105, 114, 115, 116, 108, 105, 110, 101, 110, 111, 95, 95, 4, 258, 0, 562, 6, 269, 7, 95, 95, 100, 111, 99, 95, 95, 9, 47, 95, 102, 114, 111, 122, 101, 110, 95, 105, 109, 112, 111, 114, 116, 108, 105, 98, 46, 77, 111, 100, 117, 108, 101, 83, 112, 101, 99, 46, 95, 95, 100, 111, 99, 95, 95, 58, 115, 116, 114, 35, 111, 112, 97, 113, 117, 101, 6, 270, 8, 95, 95, 105, 110, 105, 116, 95, 95, 9, 44, 95, 102, 114, 111, 122, 101, 110, 95, 105, 109, 112, 111, 114, 116, 108, 105, 98, 46, 77, 111, 100, 117, 108, 101, 83, 112, 101, 99, 46, 95, 95, 105, 110, 105, 116, 95, 95, 35, 111, 112, 97, 113, 117, 101, 6, 271, 8, 95, 95, 114, 101, 112, 114, 95, 95, 9, 44, 95, 102, 114, 111, 122, 101, 110, 95, 105, 109, 112, 111, 114, 116, 108, 105, 98, 46, 77, 111, 100, 117, 108, 101, 83, 112, 101, 99, 46, 95, 95, 114, 101, 112, 114, 95, 95, 35, 111, 112, 97, 113, 117, 101, 6, 272, 6, 95, 95, 101, 113, 95, 95, 9, 42, 95, 102, 114, 111, 122, 101, 110, 95, 105, 109, 112, 111, 114, 116, 108, 105, 98, 46, 77, 111, 100, 117, 108, 101, 83, 112, 101, 99, 46, 95, 95, 101, 113, 95, 95, 35, 111, 112, 97, 113, 117, 101, 6, 273, 6, 99, 97, 99, 104, 101, 100, 9, 42, 95, 102, 114, 111, 122, 101, 110, 95, 105, 109, 112, 111, 114, 116, 108, 105, 98, 46, 77, 111, 100, 117, 108, 101, 83, 112, 101, 99, 46, 99, 97, 99, 104, 101, 100, 35, 111, 112, 97, 113, 117, 101, 6, 274, 6, 112, 97, 114, 101, 110, 116, 9, 42, 95, 102, 114, 111, 122, 101, 110, 95, 105, 109, 112, 111, 114, 116, 108, 105, 98, 46, 77, 111, 100, 117, 108, 101, 83, 112, 101, 99, 46, 112, 97, 114, 101, 110, 116, 35, 111, 112, 97, 113, 117, 101, 6, 275, 12, 104, 97, 115, 95, 108, 111, 99, 97, 116, 105, 111, 110, 9, 48, 95, 102, 114, 111, 122, 101, 110, 95, 105, 109, 112, 111, 114, 116, 108, 105, 98, 46, 77, 111, 100, 117, 108, 101, 83, 112, 101, 99, 46, 104, 97, 115, 95, 108, 111, 99, 97, 116, 105, 111, 110, 35, 111, 112, 97, 113, 117, 101, 6, 276, 21, 95, 95, 115, 116, 97, 116, 105, 99, 95, 97, 116, 116, 114, 105, 98, 117, 116, 101, 115, 95, 95, 4, 0, 0, 34, 6, 278, 8, 95, 95, 100, 105, 99, 116, 95, 95, 4, 0, 0, 35, 6, 280, 11, 95, 95, 119, 101, 97, 107, 114, 101, 102, 95, 95, 4, 0, 0, 36, 6, 281, 8, 95, 95, 104, 97, 115, 104, 95, 95, 0]) 0), (.bool true), (.bool true), (vS "" 282)] 3), #[]⟩
def o21_0 (P : Params) : Obj := ⟨(.type "dict"), none, (.dict #[dE P "__module__" 212 (.str (Str.mk #[95, 102, 114, 111, 122, 101, 110, 95, 105, 109, 112, 111, 114, 116, 108, 105, 98, 95, 101, 120, 116, 101, 114, 110, 97, 108]) 208), dE P "__firstlineno__" 213 (.int 1176 209), dE P "__doc__" 214 (.builtin "_frozen_importlib_external.FileLoader.__doc__:str#opaque"), dE P "__init__" 215 (.builtin "_frozen_importlib_external.FileLoader.__init__#opaque"), dE P "__eq__" 216 (.builtin "_frozen_importlib_external.FileLoader.__eq__#opaque"), dE P "__hash__" 217 (.builtin "_frozen_importlib_external.FileLoader.__hash__#opaque"), dE P "load_module" 218 (.builtin "_frozen_importlib_external.FileLoader.load_module#opaque"), dE P "get_filename" 219 (.builtin "_frozen_importlib_external.FileLoader.get_filename#opaque"), dE P "get_data" 220 (.builtin "_frozen_importlib_external.FileLoader.get_data#opaque"), dE P "get_resource_reader" 221 (.builtin "_frozen_importlib_external.FileLoader.get_resource_reader#opaque"), dE P "__static_attributes__" 222 (.ref 23), dE P "__dict__" 224 (.ref 24), dE P "__weakref__" 226 (.ref 25)] 13), #[]⟩
def o22_0 (P : Params) : Obj := ⟨(.type "type"), none, (.cls (cD "FileLoader" [(.type "object")] [(.ref 22), (.type "object")] 21 "FileLoader" true [] [(.ref 27)] false none false)), #[]⟩
def o23_0 (P : Params) : Obj := ⟨(.type "tuple"), none, (.seq #[(vS "name" 210), (vS "path" 211)] 0), #[]⟩
def o24_0 (P : Params) : Obj := ⟨(.type "getset_descriptor"), none, (.fields #[(vS "__dict__" 223), (.ref 22), (.builtin "function.__dict__"), (.builtin "function.__dict__#set")]), #[]⟩
def o25_0 (P : Params) : Obj := ⟨(.type "getset_descriptor"), none, (.fields #[(vS "__weakref__" 225), (.ref 22), (.builtin "ExceptionGroup.__weakref__"), .none]), #[]⟩
def o26_0 (P : Params) : Obj := ⟨(.type "dict"), none, (.dict #[dE P "__module__" 233 (.str (Str.mk #[95, 102, 114, 111, 122, 101, 110, 95, 105, 109, 112, 111, 114, 116, 108, 105, 98, 95, 101, 120, 116, 101, 114, 110, 97, 108]) 229), dE P "__firstlineno__" 234 (.int 1296 230), dE P "__doc__" 235 (.builtin "_frozen_importlib_external.ExtensionFileLoader.__doc__:str#opaque"), dE P "__init__" 236 (.builtin "_frozen_importlib_external.ExtensionFileLoader.__init__#opaque"), dE P "__eq__" 237 (.builtin "_frozen_importlib_external.ExtensionFileLoader.__eq__#opaque"), dE P "__hash__" 238 (.builtin "_frozen_importlib_external.ExtensionFileLoader.__hash__#opaque"), dE P "create_module" 239 (.builtin "_frozen_importlib_external.ExtensionFileLoader.create_module#opaque"), dE P "exec_module" 240 (.builtin "_frozen_importlib_external.ExtensionFileLoader.exec_module#opaque"), dE P "is_package" 241 (.builtin "_frozen_importlib_external.ExtensionFileLoader.is_package#opaque"), dE P "get_code" 242 (.builtin "_frozen_importlib_external.ExtensionFileLoader.get_code#opaque"), dE P "get_source" 243 (.builtin "_frozen_importlib_external.ExtensionFileLoader.get_source#opaque"), dE P "get_filename" 244 (.builtin "_frozen_importlib_external.ExtensionFileLoader.get_filename#opaque"), dE P "__static_attributes__" 245 (.ref 28)] 13), #[]⟩
def o27_0 (P : Params) : Obj := ⟨(.type "type"), none, (.cls (cD "ExtensionFileLoader" [(.ref 22), (.ref 16)] [(.ref 27), (.ref 22), (.ref 16), (.type "object")] 26 "ExtensionFileLoader" true [] [] false none false)), #[]⟩
def o28_0 (P : Params) : Obj := ⟨(.type "tuple"), none, (.seq #[(vS "name" 231), (vS "path" 232)] 0), #[]⟩
def o29_0 (P : Params) : Obj := ⟨(.ref 27), (some 14), .plain, #[]⟩
def o30_0 (P : Params) : Obj := ⟨(.type "list"), none, (.seq #[] 0), #[]⟩
def o31_0 (P : Params) : Obj := ⟨(.type "dict"), none, (.dict #[dE P "name" 248 (vS "math" 247), dE P "loader" 249 (.ref 29), dE P "origin" 250 (vS "/nix/store/wj1f56qky4pmjc7l0r6b6l7whnnw7hp6-python3-3.13.15/lib/python3.13/lib-dynload/math.cpython-313-x86_64-linux-gnu.so" 186), dE P "loader_state" 251 .none, dE P "submodule_search_locations" 252 .none, dE P "_uninitialized_submodules" 253 (.ref 30), dE P "_set_fileattr" 254 (.bool true), dE P "_cached" 255 .none, dE P "_initializing" 283 (.bool false)] 9), #[]⟩
def o32_0 (P : Params) : Obj := ⟨(.type "dict"), none, (.dict #[dE P "__module__" 267 (.str (Str.mk #[95, 102, 114, 111, 122, 101, 110, 95, 105, 109, 112, 111, 114, 116, 108, 105, 98]) 257), dE P "__firstlineno__" 268 (.int 562 258), dE P "__doc__" 269 (.builtin "_frozen_importlib.ModuleSpec.__doc__:str#opaque"), dE P "__init__" 270 (.builtin "_frozen_importlib.ModuleSpec.__init__#opaque"), dE P "__repr__" 271 (.builtin "_frozen_importlib.ModuleSpec.__repr__#opaque"), dE P "__eq__" 272 (.builtin "_frozen_importlib.ModuleSpec.__eq__#opaque"), dE P "cached" 273 (.builtin "_frozen_importlib.ModuleSpec.cached#opaque"), dE P "parent" 274 (.builtin "_frozen_importlib.ModuleSpec.parent#opaque"), dE P "has_location" 275 (.builtin "_frozen_importlib.ModuleSpec.has_location#opaque"), dE P "__static_attributes__" 276 (.ref 34), dE P "__dict__" 278 (.ref 35), dE P "__weakref__" 280 (.ref 36), dE P "__hash__" 281 .none] 13), #[]⟩
def o33_0 (P : Params) : Obj := ⟨(.type "type"), none, (.cls (cD "ModuleSpec" [(.type "object")] [(.ref 33), (.type "object")] 32 "ModuleSpec" true [] [] false none false)), #[]⟩
def o34_0 (P : Params) : Obj := ⟨(.type "tuple"), none, (.seq #[(vS "_cached" 259), (vS "_set_fileattr" 260), (vS "_uninitialized_submodules" 261), (vS "loader" 262), (vS "loader_state" 263), (vS "name" 264), (vS "origin" 265), (vS "submodule_search_locations" 266)] 0), #[]⟩
def o35_0 (P : Params) : Obj := ⟨(.type "getset_descriptor"), none, (.fields #[(vS "__dict__" 277), (.ref 33), (.builtin "function.__dict__"), (.builtin "function.__dict__#set")]), #[]⟩
def o36_0 (P : Params) : Obj := ⟨(.type "getset_descriptor"), none, (.fields #[(vS "__weakref__" 279), (.ref 33), (.builtin "ExceptionGroup.__weakref__"), .none]), #[]⟩
def o37_0 (P : Params) : Obj := ⟨(.ref 33), (some 31), .plain, #[]⟩
def o38_0 (P : Params) : Obj := ⟨.none, none, (.seq #[(.int 12 0), (.str (Str.mk #[6, 287, 8, 95, 95, 110, 97, 109, 101, 95, 95, 6, 286, 4, 109, 97, 116, 104, 6, 288, 7, 95, 95, 100, 111, 99, 95, 95, 9, 23, 109, 97, 116, 104, 46, 95, 95, 100, 111, 99, 95, 95, 58, 115, 116, 114, 35, 111, 112, 97, 113, 117, 101, 6, 290, 11, 95, 95, 112, 97, 99, 107, 97, 103, 101, 95, 95, 6, 289, 0, 6, 291, 10, 95, 95, 108, 111, 97, 100, 101, 114, 95, 95, 4, 0, 0, 29, 6, 292, 8, 95, 95, 115, 112, 101, 99, 95, 95, 4, 0, 0, 37, 6, 293, 4, 97, 99, 111, 115, 9, 9, 109, 97, 116, 104, 46, 97, 99, 111, 115, 6, 294, 5, 97, 99, 111, 115, 104, 9, 10, 109, 97, 116, 104, 46, 97, 99, 111, 115, 104, 6, 295, 4, 97, 115, 105, 110, 9, 9, 109, 97, 116, 104, 46, 97, 115, 105, 110, 6, 296, 5, 97, 115, 105, 110, 104, 9, 10, 109, 97, 116, 104, 46, 97, 115, 105, 110, 104, 6, 297, 4, 97, 116, 97, 110, 9, 9, 109, 97, 116, 104, 46, 97, 116, 97, 110, 6, 298, 5, 97, 116, 97, 110, 50, 9, 10, 109, 97, 116, 104, 46, 97, 116, 97, 110, 50, 6, 299, 5, 97, 116, 97, 110, 104, 9, 10, 109, 97, 116, 104, 46, 97, 116, 97, 110, 104, 6, 300, 4, 99, 98, 114, 116, 9, 9, 109, 97, 116, 104, 46, 99, 98, 114, 116, 6, 301, 4, 99, 101, 105, 108, 9, 9, 109, 97, 116, 104, 46, 99, 101, 105, 108, 6, 302, 8, 99, 111, 112, 121, 115, 105, 103, 110, 9, 13, 109, 97, 116, 104, 46, 99, 111, 112, 121, 115, 105, 103, 110, 6, 303, 3, 99, 111, 115, 9, 8, 109, 97, 116, 104, 46, 99, 111, 115, 6, 304, 4, 99, 111, 115, 104, 9, 9, 109, 97, 116, 104, 46, 99, 111, 115, 104, 6, 305, 7, 100, 101, 103, 114, 101, 101, 115, 9, 12, 109, 97, 116, 104, 46, 100, 101, 103, 114, 101, 101, 115, 6, 306, 4, 100, 105, 115, 116, 9, 9, 109, 97, 116, 104, 46, 100, 105, 115, 116, 6, 307, 3, 101, 114, 102, 9, 8, 109, 97, 116, 104, 46, 101, 114, 102, 6, 308, 4, 101, 114, 102, 99, 9, 9, 109, 97, 116, 104, 46, 101, 114, 102, 99, 6, 309, 3, 101, 120, 112, 9, 8, 109, 97, 116, 104, 46, 101, 120, 112, 6, 310, 4, 101, 120, 112, 50, 9, 9, 109, 97, 116, 104, 46, 101, 120, 112, 50, 6, 311, 5, 101, 120, 112, 109, 49, 9, 10, 109, 97, 116, 104, 46, 101, 120, 112, 109, 49, 6, 312, 4, 102, 97, 98, 115, 9, 9, 109, 97, 116, 104, 46, 102, 97, 98, 115, 6, 313, 9, 102, 97, 99, 116, 111, 114, 105, 97, 108, 9, 14, 109, 97, 116, 104, 46, 102, 97, 99, 116, 111, 114, 105, 97, 108, 6, 314, 5, 102, 108, 111, 111, 114, 9, 10, 109, 97, 116, 104, 46, 102, 108, 111, 111, 114, 6, 315, 3, 102, 109, 97, 9, 8, 109, 97, 116, 104, 46, 102, 109, 97, 6, 316, 4, 102, 109, 111, 100, 9, 9, 109, 97, 116, 104, 46, 102, 109, 111, 100, 6, 317, 5, 102, 114, 101, 120, 112, 9, 10, 109, 97, 116, 104, 46, 102, 114, 101, 120, 112, 6, 318, 4, 102, 115, 117, 109, 9, 9, 109, 97, 116, 104, 46, 102, 115, 117, 109, 6, 319, 5, 103, 97, 109, 109, 97, 9, 10, 109, 97, 116, 104, 46, 103, 97, 109, 109, 97, 6, 320, 3, 103, 99, 100, 9, 8, 109, 97, 116, 104, 46, 103, 99, 100, 6, 321, 5, 104, 121, 112, 111, 116, 9, 10, 109, 97, 116, 104, 46, 104, 121, 112, 111, 116, 6, 322, 7, 105, 115, 99, 108, 111, 115, 101, 9, 12, 109, 97, 116, 104, 46, 105, 115, 99, 108, 111, 115, 101, 6, 323, 8, 105, 115, 102, 105, 110, 105, 116, 101, 9, 13, 109, 97, 116, 104, 46, 105, 115, 102, 105, 110, 105, 116, 101, 6, 324, 5, 105, 115, 105, 110, 102, 9, 10, 109, 97, 116, 104, 46, 105, 115, 105, 110, 102, 6, 325, 5, 105, 115, 110, 97, 110, 9, 10, 109, 97, 116, 104, 46, 105, 115, 110, 97, 110, 6, 326, 5, 105, 115, 113, 114, 116, 9, 10, 109, 97, 116, 104, 46, 105, 115, 113, 114, 116, 6, 327, 3, 108, 99, 109, 9, 8, 109, 97, 116, 104, 46, 108, 99, 109, 6, 328, 5, 108, 100, 101, 120, 112, 9, 10, 109, 97, 116, 104, 46, 108, 100, 101, 120, 112, 6, 329, 6, 108, 103, 97, 109, 109, 97, 9, 11, 109, 97, 116, 104, 46, 108, 103, 97, 109, 109, 97, 6, 330, 3, 108, 111, 103, 9, 8, 109, 97, 116, 104, 46, 108, 111, 103, 6, 331, 5, 108, 111, 103, 49, 112, 9, 10, 109, 97, 116, 104, 46, 108, 111, 103, 49, 112, 6, 332, 5, 108, 111, 103, 49, 48, 9, 10, 109, 97, 116, 104, 46, 108, 111, 103, 49, 48, 6, 333, 4, 108, 111, 103, 50, 9, 9, 109, 97, 116, 104, 46, 108, 111, 103, 50, 6, 334, 4, 109, 111, 100, 102, 9, 9, 109, 97, 116, 104, 46, 109, 111, 100, 102, 6, 335, 3, 112, 111, 119, 9, 8, 109, 97, 116, 104, 46, 112, 111, 119, 6, 336, 7, 114, 97, 100, 105, 97, 110, 115, 9, 12, 109, 97, 116, 104, 46, 114, 97, 100, 105, 97, 110, 115, 6, 337, 9, 114, 101, 109, 97, 105, 110, 100, 101, 114, 9, 14, 109, 97, 116, 104, 46, 114, 101, 109, 97, 105, 110, 100, 101, 114, 6, 338, 3, 115, 105, 110, 9, 8, 109, 97, 116, 104, 46, 115, 105, 110, 6, 339, 4, 115, 105, 110, 104, 9, 9, 109, 97, 116, 104, 46, 115, 105, 110, 104, 6, 340, 4, 115, 113, 114, 116, 9, 9, 109, 97, 116, 104, 46, 115, 113, 114, 116, 6, 341, 3, 116, 97, 110, 9, 8, 109, 97, 116, 104, 46, 116, 97, 110, 6, 342, 4, 116, 97, 110, 104, 9, 9, 109, 97, 116, 104, 46, 116, 97, 110, 104, 6, 343, 7, 115, 117, 109, 112, 114, 111, 100, 9, 12, 109, 97, 116, 104, 46, 115, 117, 109, 112, 114, 111, 100, 6, 344, 5, 116, 114, 117, 110, 99, 9, 10, 109, 97, 116, 104, 46, 116, 114, 117, 110, 99, 6, 345, 4, 112, 114, 111, 100, 9, 9, 109, 97, 116, 104, 46, 112, 114, 111, 100, 6, 346, 4, 112, 101, 114, 109, 9, 9, 109, 97, 116, 104, 46, 112, 101, 114, 109, 6, 347, 4, 99, 111, 109, 98, 9, 9, 109, 97, 116, 104, 46, 99, 111, 109, 98, 6, 348, 9, 110, 101, 120, 116, 97, 102, 116, 101, 114, 9, 14, 109, 97, 116, 104, 46, 110, 101, 120, 116, 97, 102, 116, 101, 114, 6, 349, 3, 117, 108, 112, 9, 8, 109, 97, 116, 104, 46, 117, 108, 112, 6, 350, 8, 95, 95, 102, 105, 108, 101, 95, 95, 6, 186, 123, 47, 110, 105, 120, 47, 115, 116, 111, 114, 101, 47, 119, 106, 49, 102, 53, 54, 113, 107, 121, 52, 112, 109, 106, 99, 55, 108, 48, 114, 54, 98, 54, 108, 55, 119, 104, 110, 110, 119, 55, 104, 112, 54, 45, 112, 121, 116, 104, 111, 110, 51, 45, 51, 46, 49, 51, 46, 49, 53, 47, 108, 105, 98, 47, 112, 121, 116, 104, 111, 110, 51, 46, 49, 51, 47, 108, 105, 98, 45, 100, 121, 110, 108, 111, 97, 100, 47, 109, 97, 116, 104, 46, 99, 112, 121, 116, 104, 111, 110, 45, 51, 49, 51, 45, 120, 56, 54, 95, 54, 52, 45, 108, 105, 110, 117, 120, 45, 103, 110, 117, 46, 115, 111, 6, 352, 2, 112, 105, 5, 351, 4614256656552045848, 6, 354, 1, 101, 5, 353, 4613303445314885481, 6, 356, 3, 116, 97, 117, 5, 355, 4618760256179416344, 6, 358, 3, 105, 110, 102, 5, 357, 9218868437227405312, 6, 360, 3, 110, 97, 110, 5, 359, 9221120237041090560]) 0), (.bool true), (.bool false), (vS "math" 362)] 0), #[]⟩
def o39_0 (P : Params) : Obj := ⟨(.type "tuple"), none, (.seq #[] 0), #[]⟩
def o40_0 (P : Params) : Obj := ⟨.none, none, (.fields #[]), #[]⟩
def o40_1 (P : Params) : Obj := ⟨.none, none, (.fields #[(.int 2 0), (.int 0 0), (.ref 48), (.int 6 0), (.int 0 0), (.ref 55), (.int 8 0), (.int 0 0), (.ref 68), (.int 12 0), (.int 0 0), (.ref 87), (.int 16 0), (.int 0 0), (.ref 106), (.int 20 0), (.int 0 0), (.ref 125), (.int 24 0), (.int 0 0), (.ref 144)]), #[]⟩
def o40_2 (P : Params) : Obj := ⟨.none, none, (.fields #[(.int 2 0), (.int 0 0), (.ref 48), (.int 6 0), (.int 0 0), (.ref 55), (.int 8 0), (.int 0 0), (.ref 68), (.int 12 0), (.int 0 0), (.ref 87), (.int 16 0), (.int 0 0), (.ref 106), (.int 20 0), (.int 0 0), (.ref 125), (.int 24 0), (.int 0 0), (.ref 144), (.int 26 0), (.int 0 0), (.ref 156), (.int 30 0), (.int 0 0), (.ref 175), (.int 35 0), (.int 0 0), (.ref 194), (.int 39 0), (.int 0 0), (.ref 213), (.int 43 0), (.int 0 0), (.ref 232), (.int 47 0), (.int 0 0), (.ref 251)]), #[]⟩
def o40_3 (P : Params) : Obj := ⟨.none, none, (.fields #[(.int 2 0), (.int 0 0), (.ref 48), (.int 6 0), (.int 0 0), (.ref 55), (.int 8 0), (.int 0 0), (.ref 68), (.int 12 0), (.int 0 0), (.ref 87), (.int 16 0), (.int 0 0), (.ref 106), (.int 20 0), (.int 0 0), (.ref 125), (.int 24 0), (.int 0 0), (.ref 144), (.int 26 0), (.int 0 0), (.ref 156), (.int 30 0), (.int 0 0), (.ref 175), (.int 35 0), (.int 0 0), (.ref 194), (.int 39 0), (.int 0 0), (.ref 213), (.int 43 0), (.int 0 0), (.ref 232), (.int 47 0), (.int 0 0), (.ref 251), (.int 49 0), (.int 0 0), (.ref 263)]), #[]⟩
def o40_4 (P : Params) : Obj := ⟨.none, none, (.fields #[(.int 2 0), (.int 0 0), (.ref 48), (.int 6 0), (.int 0 0), (.ref 55), (.int 8 0), (.int 0 0), (.ref 68), (.int 12 0), (.int 0 0), (.ref 87), (.int 16 0), (.int 0 0), (.ref 106), (.int 20 0), (.int 0 0), (.ref 125), (.int 24 0), (.int 0 0), (.ref 144), (.int 26 0), (.int 0 0), (.ref 156), (.int 30 0), (.int 0 0), (.ref 175), (.int 35 0), (.int 0 0), (.ref 194), (.int 39 0), (.int 0 0), (.ref 213), (.int 43 0), (.int 0 0), (.ref 232), (.int 47 0), (.int 0 0), (.ref 251), (.int 49 0), (.int 0 0), (.ref 263), (.int 55 0), (.int 0 0), (.ref 283), (.int 179 0), (.int 0 0), (.ref 481), (.int 181 0), (.int 0 0), (.ref 488), (.int 185 0), (.int 0 0), (.ref 495), (.int 190 0), (.int 0 0), (.ref 502), (.int 198 0), (.int 0 0), (.ref 509), (.int 208 0), (.int 0 0), (.ref 514), (.int 214 0), (.int 0 0), (.ref 519)]), #[]⟩
def o40_5 (P : Params) : Obj := ⟨.none, none, (.fields #[(.int 2 0), (.int 0 0), (.ref 48), (.int 6 0), (.int 0 0), (.ref 55), (.int 8 0), (.int 0 0), (.ref 68), (.int 12 0), (.int 0 0), (.ref 87), (.int 16 0), (.int 0 0), (.ref 106), (.int 20 0), (.int 0 0), (.ref 125), (.int 24 0), (.int 0 0), (.ref 144), (.int 26 0), (.int 0 0), (.ref 156), (.int 30 0), (.int 0 0), (.ref 175), (.int 35 0), (.int 0 0), (.ref 194), (.int 39 0), (.int 0 0), (.ref 213), (.int 43 0), (.int 0 0), (.ref 232), (.int 47 0), (.int 0 0), (.ref 251), (.int 49 0), (.int 0 0), (.ref 263), (.int 55 0), (.int 0 0), (.ref 283), (.int 179 0), (.int 0 0), (.ref 481), (.int 181 0), (.int 0 0), (.ref 488), (.int 185 0), (.int 0 0), (.ref 495), (.int 190 0), (.int 0 0), (.ref 502), (.int 198 0), (.int 0 0), (.ref 509), (.int 208 0), (.int 0 0), (.ref 514), (.int 214 0), (.int 0 0), (.ref 519), (.int 222 0), (.int 0 0), (.ref 526), (.int 231 0), (.int 0 0), (.ref 533), (.int 240 0), (.int 0 0), (.ref 540), (.int 247 0), (.int 0 0), (.ref 545), (.int 255 0), (.int 0 0), (.ref 552)]), #[]⟩
def o41_0 (P : Params) : Obj := ⟨(.type "code"), none, (.fields #[(vS "<module>" 371), (vS "<module>" 372), (vS "/claim/cut.py" 373), (.int 1 0), (.int 0 0), (.int 0 0), (.int 0 0), (.int 0 0), (.ref 39), (.bool false), (.int 370 0), (.ref 40), .none, .none, .none, .none, (.int 374 0), (.int 1 0), (vS "/claim/cut.py" 375)]), #[]⟩
def o42_0 (P : Params) : Obj := ⟨(.type "frame"), none, .plain, #[some (.ref 41), some (.ref 3), some (.ref 3), none, some (vS "__main__" 164), none, some (.ref 0)]⟩
def o43_0 (P : Params) : Obj := ⟨(.type "tuple"), none, (.seq #[] 0), #[]⟩
def o44_0 (P : Params) : Obj := ⟨.none, none, (.fields #[]), #[]⟩
def o45_0 (P : Params) : Obj := ⟨(.type "tuple"), none, (.seq #[(vS "k" 379)] 0), #[]⟩
def o46_0 (P : Params) : Obj := ⟨(.type "tuple"), none, (.seq #[] 0), #[]⟩
def o47_0 (P : Params) : Obj := ⟨.none, none, (.func (fnB "_wall" "_wall" (defArgs (top 1)) (defBody (top 1)) (defScope (top 1)) .none .none .none .none none .none .none)), #[]⟩
def o48_0 (P : Params) : Obj := ⟨(.type "code"), none, (.fields #[(vS "_wall" 376), (vS "_wall" 377), (vS "/claim/cut.py" 378), (.int 2 0), (.int 1 0), (.int 0 0), (.int 0 0), (.int 3 0), (.ref 43), (.bool true), (.int 370 0), (.ref 44), .none, (.ref 45), (.ref 46), (.ref 47), (.int 380 0), (.int 2 0), (vS "/claim/cut.py" 381)]), #[]⟩
def o49_0 (P : Params) : Obj := ⟨(.type "function"), none, (.func (PySem.W.fnOf "_wall" "_wall" (defArgs (top 1)) (defBody (top 1)) (defScope (top 1)) .none .none .none (vS "__main__" 164) none (.ref 48) .none)), #[]⟩
def o50_0 (P : Params) : Obj := ⟨(.type "tuple"), none, (.seq #[(.type "ValueError")] 0), #[]⟩
def o51_0 (P : Params) : Obj := ⟨(.type "builtin_function_or_method"), none, (.fields #[(.builtin "type.__prepare__"), (.type "type")]), #[]⟩
def o52_0 (P : Params) : Obj := ⟨(.type "dict"), none, (.dict #[dE P "__module__" 392 (vS "poolsmeet.errors" 383), dE P "__qualname__" 394 (vS "PoolError" 393), dE P "__firstlineno__" 396 (.int 6 395), dE P "__static_attributes__" 397 (.ref 57)] 4), #[]⟩
def o53_0 (P : Params) : Obj := ⟨(.type "tuple"), none, (.seq #[] 0), #[]⟩
def o54_0 (P : Params) : Obj := ⟨.none, none, (.fields #[]), #[]⟩
def o55_0 (P : Params) : Obj := ⟨(.type "code"), none, (.fields #[(vS "PoolError" 387), (vS "PoolError" 388), (vS "/claim/cut.py" 389), (.int 6 0), (.int 0 0), (.int 0 0), (.int 0 0), (.int 0 0), (.ref 53), (.bool false), (.int 370 0), (.ref 54), .none, .none, .none, .none, (.int 390 0), (.int 6 0), (vS "/claim/cut.py" 391)]), #[]⟩
def o56_0 (P : Params) : Obj := ⟨(.type "frame"), none, .plain, #[some (.ref 55), some (.ref 3), some (.ref 52), none, some (vS "poolsmeet.errors" 383), none, some (.ref 0)]⟩
def o57_0 (P : Params) : Obj := ⟨(.type "tuple"), none, (.seq #[] 0), #[]⟩
def o58_0 (P : Params) : Obj := ⟨(.type "dict"), none, (.dict #[dE P "__module__" 392 (vS "poolsmeet.errors" 383), dE P "__firstlineno__" 396 (.int 6 395), dE P "__static_attributes__" 397 (.ref 57), dE P "__weakref__" 399 (.ref 60), dE P "__doc__" 400 .none] 3), #[]⟩
def o59_0 (P : Params) : Obj := ⟨(.type "type"), none, (.cls (cD "PoolError" [(.type "ValueError")] [(.ref 59), (.type "ValueError"), (.type "Exception"), (.type "BaseException"), (.type "object")] 58 "PoolError" true [] [(.ref 79), (.ref 98), (.ref 117), (.ref 136), (.ref 148)] false none false)), #[some (.ref 50), none, some (vS "PoolError" 385), some (vS "PoolError" 393), some (.builtin "ValueError.__new__"), some (.bool true)]⟩
def o59_1 (P : Params) : Obj := ⟨(.type "type"), none, (.cls (cD "PoolError" [(.type "ValueError")] [(.ref 59), (.type "ValueError"), (.type "Exception"), (.type "BaseException"), (.type "object")] 58 "PoolError" true [] [(.ref 79), (.ref 98), (.ref 117), (.ref 136), (.ref 148), (.ref 167), (.ref 186), (.ref 205), (.ref 224), (.ref 243), (.ref 255)] false none false)), #[some (.ref 50), none, some (vS "PoolError" 385), some (vS "PoolError" 393), some (.builtin "ValueError.__new__"), some (.bool true)]⟩
def o60_0 (P : Params) : Obj := ⟨(.type "getset_descriptor"), none, (.fields #[(vS "__weakref__" 398), (.ref 59), (.builtin "ExceptionGroup.__weakref__"), .none]), #[]⟩
def o61_0 (P : Params) : Obj := ⟨(.type "super"), none, (.fields #[(.ref 59), (.ref 59), (.ref 59)]), #[]⟩
def o62_0 (P : Params) : Obj := ⟨(.type "builtin_function_or_method"), none, (.fields #[(.builtin "object.__init_subclass__"), (.ref 59)]), #[]⟩
def o63_0 (P : Params) : Obj := ⟨(.type "tuple"), none, (.seq #[(.ref 59)] 0), #[]⟩
def o64_0 (P : Params) : Obj := ⟨(.type "builtin_function_or_method"), none, (.fields #[(.builtin "type.__prepare__"), (.type "type")]), #[]⟩
def o65_0 (P : Params) : Obj := ⟨(.type "dict"), none, (.dict #[dE P "__module__" 410 (vS "poolsmeet.errors" 383), dE P "__qualname__" 412 (vS "InvalidNumber" 411), dE P "__firstlineno__" 414 (.int 8 413), dE P "__init__" 422 (.ref 76), dE P "__static_attributes__" 424 (.ref 77)] 5), #[]⟩
def o66_0 (P : Params) : Obj := ⟨(.type "tuple"), none, (.seq #[] 0), #[]⟩
def o67_0 (P : Params) : Obj := ⟨.none, none, (.fields #[(.int 10 0), (.int 4 0), (.ref 75)]), #[]⟩
def o68_0 (P : Params) : Obj := ⟨(.type "code"), none, (.fields #[(vS "InvalidNumber" 405), (vS "InvalidNumber" 406), (vS "/claim/cut.py" 407), (.int 8 0), (.int 0 0), (.int 0 0), (.int 0 0), (.int 0 0), (.ref 66), (.bool false), (.int 370 0), (.ref 67), .none, .none, .none, .none, (.int 408 0), (.int 8 0), (vS "/claim/cut.py" 409)]), #[]⟩
def o69_0 (P : Params) : Obj := ⟨(.type "frame"), none, .plain, #[some (.ref 68), some (.ref 3), some (.ref 65), none, some (vS "poolsmeet.errors" 383), none, some (.ref 0)]⟩
def o70_0 (P : Params) : Obj := ⟨(.type "tuple"), none, (.seq #[] 0), #[]⟩
def o71_0 (P : Params) : Obj := ⟨.none, none, (.fields #[]), #[]⟩
def o72_0 (P : Params) : Obj := ⟨(.type "tuple"), none, (.seq #[(vS "self" 418), (vS "value" 419)] 0), #[]⟩
def o73_0 (P : Params) : Obj := ⟨(.type "tuple"), none, (.seq #[] 0), #[]⟩
def o74_0 (P : Params) : Obj := ⟨.none, none, (.func (fnB "__init__" "InvalidNumber.__init__" (defArgs (inClass (top 4) 0)) (defBody (inClass (top 4) 0)) (defScope (inClass (top 4) 0)) .none .none .none .none none .none .none)), #[]⟩
def o75_0 (P : Params) : Obj := ⟨(.type "code"), none, (.fields #[(vS "__init__" 415), (vS "InvalidNumber.__init__" 416), (vS "/claim/cut.py" 417), (.int 10 0), (.int 2 0), (.int 0 0), (.int 0 0), (.int 3 0), (.ref 70), (.bool true), (.int 370 0), (.ref 71), .none, (.ref 72), (.ref 73), (.ref 74), (.int 420 0), (.int 10 0), (vS "/claim/cut.py" 421)]), #[]⟩
def o76_0 (P : Params) : Obj := ⟨(.type "function"), none, (.func (PySem.W.fnOf "__init__" "InvalidNumber.__init__" (defArgs (inClass (top 4) 0)) (defBody (inClass (top 4) 0)) (defScope (inClass (top 4) 0)) .none .none .none (vS "poolsmeet.errors" 383) none (.ref 75) .none)), #[]⟩
def o77_0 (P : Params) : Obj := ⟨(.type "tuple"), none, (.seq #[(vS "value" 423)] 0), #[]⟩
def o78_0 (P : Params) : Obj := ⟨(.type "dict"), none, (.dict #[dE P "__module__" 410 (vS "poolsmeet.errors" 383), dE P "__firstlineno__" 414 (.int 8 413), dE P "__init__" 422 (.ref 76), dE P "__static_attributes__" 424 (.ref 77), dE P "__doc__" 425 .none] 2), #[]⟩
def o79_0 (P : Params) : Obj := ⟨(.type "type"), none, (.cls (cD "InvalidNumber" [(.ref 59)] [(.ref 79), (.ref 59), (.type "ValueError"), (.type "Exception"), (.type "BaseException"), (.type "object")] 78 "InvalidNumber" true [] [] false none false)), #[some (.ref 63), none, some (vS "InvalidNumber" 403), some (vS "InvalidNumber" 411), some (.builtin "ValueError.__new__"), some (.bool true)]⟩
def o80_0 (P : Params) : Obj := ⟨(.type "super"), none, (.fields #[(.ref 79), (.ref 79), (.ref 79)]), #[]⟩
def o81_0 (P : Params) : Obj := ⟨(.type "builtin_function_or_method"), none, (.fields #[(.builtin "object.__init_subclass__"), (.ref 79)]), #[]⟩
def o82_0 (P : Params) : Obj := ⟨(.type "tuple"), none, (.seq #[(.ref 59)] 0), #[]⟩
def o83_0 (P : Params) : Obj := ⟨(.type "builtin_function_or_method"), none, (.fields #[(.builtin "type.__prepare__"), (.type "type")]), #[]⟩
def o84_0 (P : Params) : Obj := ⟨(.type "dict"), none, (.dict #[dE P "__module__" 435 (vS "poolsmeet.errors" 383), dE P "__qualname__" 437 (vS "InvalidDrop" 436), dE P "__firstlineno__" 439 (.int 12 438), dE P "__init__" 447 (.ref 95), dE P "__static_attributes__" 449 (.ref 96)] 5), #[]⟩
def o85_0 (P : Params) : Obj := ⟨(.type "tuple"), none, (.seq #[] 0), #[]⟩
def o86_0 (P : Params) : Obj := ⟨.none, none, (.fields #[(.int 14 0), (.int 4 0), (.ref 94)]), #[]⟩
def o87_0 (P : Params) : Obj := ⟨(.type "code"), none, (.fields #[(vS "InvalidDrop" 430), (vS "InvalidDrop" 431), (vS "/claim/cut.py" 432), (.int 12 0), (.int 0 0), (.int 0 0), (.int 0 0), (.int 0 0), (.ref 85), (.bool false), (.int 370 0), (.ref 86), .none, .none, .none, .none, (.int 433 0), (.int 12 0), (vS "/claim/cut.py" 434)]), #[]⟩
def o88_0 (P : Params) : Obj := ⟨(.type "frame"), none, .plain, #[some (.ref 87), some (.ref 3), some (.ref 84), none, some (vS "poolsmeet.errors" 383), none, some (.ref 0)]⟩
def o89_0 (P : Params) : Obj := ⟨(.type "tuple"), none, (.seq #[] 0), #[]⟩
def o90_0 (P : Params) : Obj := ⟨.none, none, (.fields #[]), #[]⟩
def o91_0 (P : Params) : Obj := ⟨(.type "tuple"), none, (.seq #[(vS "self" 443), (vS "index" 444)] 0), #[]⟩
def o92_0 (P : Params) : Obj := ⟨(.type "tuple"), none, (.seq #[] 0), #[]⟩
def o93_0 (P : Params) : Obj := ⟨.none, none, (.func (fnB "__init__" "InvalidDrop.__init__" (defArgs (inClass (top 5) 0)) (defBody (inClass (top 5) 0)) (defScope (inClass (top 5) 0)) .none .none .none .none none .none .none)), #[]⟩
def o94_0 (P : Params) : Obj := ⟨(.type "code"), none, (.fields #[(vS "__init__" 440), (vS "InvalidDrop.__init__" 441), (vS "/claim/cut.py" 442), (.int 14 0), (.int 2 0), (.int 0 0), (.int 0 0), (.int 3 0), (.ref 89), (.bool true), (.int 370 0), (.ref 90), .none, (.ref 91), (.ref 92), (.ref 93), (.int 445 0), (.int 14 0), (vS "/claim/cut.py" 446)]), #[]⟩
def o95_0 (P : Params) : Obj := ⟨(.type "function"), none, (.func (PySem.W.fnOf "__init__" "InvalidDrop.__init__" (defArgs (inClass (top 5) 0)) (defBody (inClass (top 5) 0)) (defScope (inClass (top 5) 0)) .none .none .none (vS "poolsmeet.errors" 383) none (.ref 94) .none)), #[]⟩
def o96_0 (P : Params) : Obj := ⟨(.type "tuple"), none, (.seq #[(vS "index" 448)] 0), #[]⟩
def o97_0 (P : Params) : Obj := ⟨(.type "dict"), none, (.dict #[dE P "__module__" 435 (vS "poolsmeet.errors" 383), dE P "__firstlineno__" 439 (.int 12 438), dE P "__init__" 447 (.ref 95), dE P "__static_attributes__" 449 (.ref 96), dE P "__doc__" 450 .none] 2), #[]⟩
def o98_0 (P : Params) : Obj := ⟨(.type "type"), none, (.cls (cD "InvalidDrop" [(.ref 59)] [(.ref 98), (.ref 59), (.type "ValueError"), (.type "Exception"), (.type "BaseException"), (.type "object")] 97 "InvalidDrop" true [] [] false none false)), #[some (.ref 82), none, some (vS "InvalidDrop" 428), some (vS "InvalidDrop" 436), some (.builtin "ValueError.__new__"), some (.bool true)]⟩
def o99_0 (P : Params) : Obj := ⟨(.type "super"), none, (.fields #[(.ref 98), (.ref 98), (.ref 98)]), #[]⟩
def o100_0 (P : Params) : Obj := ⟨(.type "builtin_function_or_method"), none, (.fields #[(.builtin "object.__init_subclass__"), (.ref 98)]), #[]⟩
def o101_0 (P : Params) : Obj := ⟨(.type "tuple"), none, (.seq #[(.ref 59)] 0), #[]⟩
def o102_0 (P : Params) : Obj := ⟨(.type "builtin_function_or_method"), none, (.fields #[(.builtin "type.__prepare__"), (.type "type")]), #[]⟩
def o103_0 (P : Params) : Obj := ⟨(.type "dict"), none, (.dict #[dE P "__module__" 460 (vS "poolsmeet.errors" 383), dE P "__qualname__" 462 (vS "InvalidTime" 461), dE P "__firstlineno__" 464 (.int 16 463), dE P "__init__" 472 (.ref 114), dE P "__static_attributes__" 474 (.ref 115)] 5), #[]⟩
def o104_0 (P : Params) : Obj := ⟨(.type "tuple"), none, (.seq #[] 0), #[]⟩
def o105_0 (P : Params) : Obj := ⟨.none, none, (.fields #[(.int 18 0), (.int 4 0), (.ref 113)]), #[]⟩
def o106_0 (P : Params) : Obj := ⟨(.type "code"), none, (.fields #[(vS "InvalidTime" 455), (vS "InvalidTime" 456), (vS "/claim/cut.py" 457), (.int 16 0), (.int 0 0), (.int 0 0), (.int 0 0), (.int 0 0), (.ref 104), (.bool false), (.int 370 0), (.ref 105), .none, .none, .none, .none, (.int 458 0), (.int 16 0), (vS "/claim/cut.py" 459)]), #[]⟩
def o107_0 (P : Params) : Obj := ⟨(.type "frame"), none, .plain, #[some (.ref 106), some (.ref 3), some (.ref 103), none, some (vS "poolsmeet.errors" 383), none, some (.ref 0)]⟩
def o108_0 (P : Params) : Obj := ⟨(.type "tuple"), none, (.seq #[] 0), #[]⟩
def o109_0 (P : Params) : Obj := ⟨.none, none, (.fields #[]), #[]⟩
def o110_0 (P : Params) : Obj := ⟨(.type "tuple"), none, (.seq #[(vS "self" 468), (vS "time" 469)] 0), #[]⟩
def o111_0 (P : Params) : Obj := ⟨(.type "tuple"), none, (.seq #[] 0), #[]⟩
def o112_0 (P : Params) : Obj := ⟨.none, none, (.func (fnB "__init__" "InvalidTime.__init__" (defArgs (inClass (top 6) 0)) (defBody (inClass (top 6) 0)) (defScope (inClass (top 6) 0)) .none .none .none .none none .none .none)), #[]⟩
def o113_0 (P : Params) : Obj := ⟨(.type "code"), none, (.fields #[(vS "__init__" 465), (vS "InvalidTime.__init__" 466), (vS "/claim/cut.py" 467), (.int 18 0), (.int 2 0), (.int 0 0), (.int 0 0), (.int 3 0), (.ref 108), (.bool true), (.int 370 0), (.ref 109), .none, (.ref 110), (.ref 111), (.ref 112), (.int 470 0), (.int 18 0), (vS "/claim/cut.py" 471)]), #[]⟩
def o114_0 (P : Params) : Obj := ⟨(.type "function"), none, (.func (PySem.W.fnOf "__init__" "InvalidTime.__init__" (defArgs (inClass (top 6) 0)) (defBody (inClass (top 6) 0)) (defScope (inClass (top 6) 0)) .none .none .none (vS "poolsmeet.errors" 383) none (.ref 113) .none)), #[]⟩
def o115_0 (P : Params) : Obj := ⟨(.type "tuple"), none, (.seq #[(vS "time" 473)] 0), #[]⟩
def o116_0 (P : Params) : Obj := ⟨(.type "dict"), none, (.dict #[dE P "__module__" 460 (vS "poolsmeet.errors" 383), dE P "__firstlineno__" 464 (.int 16 463), dE P "__init__" 472 (.ref 114), dE P "__static_attributes__" 474 (.ref 115), dE P "__doc__" 475 .none] 2), #[]⟩
def o117_0 (P : Params) : Obj := ⟨(.type "type"), none, (.cls (cD "InvalidTime" [(.ref 59)] [(.ref 117), (.ref 59), (.type "ValueError"), (.type "Exception"), (.type "BaseException"), (.type "object")] 116 "InvalidTime" true [] [] false none false)), #[some (.ref 101), none, some (vS "InvalidTime" 453), some (vS "InvalidTime" 461), some (.builtin "ValueError.__new__"), some (.bool true)]⟩
def o118_0 (P : Params) : Obj := ⟨(.type "super"), none, (.fields #[(.ref 117), (.ref 117), (.ref 117)]), #[]⟩
def o119_0 (P : Params) : Obj := ⟨(.type "builtin_function_or_method"), none, (.fields #[(.builtin "object.__init_subclass__"), (.ref 117)]), #[]⟩
def o120_0 (P : Params) : Obj := ⟨(.type "tuple"), none, (.seq #[(.ref 59)] 0), #[]⟩
def o121_0 (P : Params) : Obj := ⟨(.type "builtin_function_or_method"), none, (.fields #[(.builtin "type.__prepare__"), (.type "type")]), #[]⟩
def o122_0 (P : Params) : Obj := ⟨(.type "dict"), none, (.dict #[dE P "__module__" 485 (vS "poolsmeet.errors" 383), dE P "__qualname__" 487 (vS "InvalidText" 486), dE P "__firstlineno__" 489 (.int 20 488), dE P "__init__" 497 (.ref 133), dE P "__static_attributes__" 499 (.ref 134)] 5), #[]⟩
def o123_0 (P : Params) : Obj := ⟨(.type "tuple"), none, (.seq #[] 0), #[]⟩
def o124_0 (P : Params) : Obj := ⟨.none, none, (.fields #[(.int 22 0), (.int 4 0), (.ref 132)]), #[]⟩
def o125_0 (P : Params) : Obj := ⟨(.type "code"), none, (.fields #[(vS "InvalidText" 480), (vS "InvalidText" 481), (vS "/claim/cut.py" 482), (.int 20 0), (.int 0 0), (.int 0 0), (.int 0 0), (.int 0 0), (.ref 123), (.bool false), (.int 370 0), (.ref 124), .none, .none, .none, .none, (.int 483 0), (.int 20 0), (vS "/claim/cut.py" 484)]), #[]⟩
def o126_0 (P : Params) : Obj := ⟨(.type "frame"), none, .plain, #[some (.ref 125), some (.ref 3), some (.ref 122), none, some (vS "poolsmeet.errors" 383), none, some (.ref 0)]⟩
def o127_0 (P : Params) : Obj := ⟨(.type "tuple"), none, (.seq #[] 0), #[]⟩
def o128_0 (P : Params) : Obj := ⟨.none, none, (.fields #[]), #[]⟩
def o129_0 (P : Params) : Obj := ⟨(.type "tuple"), none, (.seq #[(vS "self" 493), (vS "line" 494)] 0), #[]⟩
def o130_0 (P : Params) : Obj := ⟨(.type "tuple"), none, (.seq #[] 0), #[]⟩
def o131_0 (P : Params) : Obj := ⟨.none, none, (.func (fnB "__init__" "InvalidText.__init__" (defArgs (inClass (top 7) 0)) (defBody (inClass (top 7) 0)) (defScope (inClass (top 7) 0)) .none .none .none .none none .none .none)), #[]⟩
def o132_0 (P : Params) : Obj := ⟨(.type "code"), none, (.fields #[(vS "__init__" 490), (vS "InvalidText.__init__" 491), (vS "/claim/cut.py" 492), (.int 22 0), (.int 2 0), (.int 0 0), (.int 0 0), (.int 3 0), (.ref 127), (.bool true), (.int 370 0), (.ref 128), .none, (.ref 129), (.ref 130), (.ref 131), (.int 495 0), (.int 22 0), (vS "/claim/cut.py" 496)]), #[]⟩
def o133_0 (P : Params) : Obj := ⟨(.type "function"), none, (.func (PySem.W.fnOf "__init__" "InvalidText.__init__" (defArgs (inClass (top 7) 0)) (defBody (inClass (top 7) 0)) (defScope (inClass (top 7) 0)) .none .none .none (vS "poolsmeet.errors" 383) none (.ref 132) .none)), #[]⟩
def o134_0 (P : Params) : Obj := ⟨(.type "tuple"), none, (.seq #[(vS "line" 498)] 0), #[]⟩
def o135_0 (P : Params) : Obj := ⟨(.type "dict"), none, (.dict #[dE P "__module__" 485 (vS "poolsmeet.errors" 383), dE P "__firstlineno__" 489 (.int 20 488), dE P "__init__" 497 (.ref 133), dE P "__static_attributes__" 499 (.ref 134), dE P "__doc__" 500 .none] 2), #[]⟩
def o136_0 (P : Params) : Obj := ⟨(.type "type"), none, (.cls (cD "InvalidText" [(.ref 59)] [(.ref 136), (.ref 59), (.type "ValueError"), (.type "Exception"), (.type "BaseException"), (.type "object")] 135 "InvalidText" true [] [] false none false)), #[some (.ref 120), none, some (vS "InvalidText" 478), some (vS "InvalidText" 486), some (.builtin "ValueError.__new__"), some (.bool true)]⟩
def o137_0 (P : Params) : Obj := ⟨(.type "super"), none, (.fields #[(.ref 136), (.ref 136), (.ref 136)]), #[]⟩
def o138_0 (P : Params) : Obj := ⟨(.type "builtin_function_or_method"), none, (.fields #[(.builtin "object.__init_subclass__"), (.ref 136)]), #[]⟩
def o139_0 (P : Params) : Obj := ⟨(.type "tuple"), none, (.seq #[(.ref 59)] 0), #[]⟩
def o140_0 (P : Params) : Obj := ⟨(.type "builtin_function_or_method"), none, (.fields #[(.builtin "type.__prepare__"), (.type "type")]), #[]⟩
def o141_0 (P : Params) : Obj := ⟨(.type "dict"), none, (.dict #[dE P "__module__" 510 (vS "poolsmeet.errors" 383), dE P "__qualname__" 512 (vS "InvalidCommand" 511), dE P "__firstlineno__" 514 (.int 24 513), dE P "__static_attributes__" 515 (.ref 146)] 4), #[]⟩
def o142_0 (P : Params) : Obj := ⟨(.type "tuple"), none, (.seq #[] 0), #[]⟩
def o143_0 (P : Params) : Obj := ⟨.none, none, (.fields #[]), #[]⟩
def o144_0 (P : Params) : Obj := ⟨(.type "code"), none, (.fields #[(vS "InvalidCommand" 505), (vS "InvalidCommand" 506), (vS "/claim/cut.py" 507), (.int 24 0), (.int 0 0), (.int 0 0), (.int 0 0), (.int 0 0), (.ref 142), (.bool false), (.int 370 0), (.ref 143), .none, .none, .none, .none, (.int 508 0), (.int 24 0), (vS "/claim/cut.py" 509)]), #[]⟩
def o145_0 (P : Params) : Obj := ⟨(.type "frame"), none, .plain, #[some (.ref 144), some (.ref 3), some (.ref 141), none, some (vS "poolsmeet.errors" 383), none, some (.ref 0)]⟩
def o146_0 (P : Params) : Obj := ⟨(.type "tuple"), none, (.seq #[] 0), #[]⟩
def o147_0 (P : Params) : Obj := ⟨(.type "dict"), none, (.dict #[dE P "__module__" 510 (vS "poolsmeet.errors" 383), dE P "__firstlineno__" 514 (.int 24 513), dE P "__static_attributes__" 515 (.ref 146), dE P "__doc__" 516 .none] 2), #[]⟩
def o148_0 (P : Params) : Obj := ⟨(.type "type"), none, (.cls (cD "InvalidCommand" [(.ref 59)] [(.ref 148), (.ref 59), (.type "ValueError"), (.type "Exception"), (.type "BaseException"), (.type "object")] 147 "InvalidCommand" true [] [] false none false)), #[some (.ref 139), none, some (vS "InvalidCommand" 503), some (vS "InvalidCommand" 511), some (.builtin "ValueError.__new__"), some (.bool true)]⟩
def o149_0 (P : Params) : Obj := ⟨(.type "super"), none, (.fields #[(.ref 148), (.ref 148), (.ref 148)]), #[]⟩
def o150_0 (P : Params) : Obj := ⟨(.type "builtin_function_or_method"), none, (.fields #[(.builtin "object.__init_subclass__"), (.ref 148)]), #[]⟩
def o151_0 (P : Params) : Obj := ⟨(.type "tuple"), none, (.seq #[(.ref 59)] 0), #[]⟩
def o152_0 (P : Params) : Obj := ⟨(.type "builtin_function_or_method"), none, (.fields #[(.builtin "type.__prepare__"), (.type "type")]), #[]⟩
def o153_0 (P : Params) : Obj := ⟨(.type "dict"), none, (.dict #[dE P "__module__" 526 (vS "poolsmeet.errors" 383), dE P "__qualname__" 528 (vS "Full" 527), dE P "__firstlineno__" 530 (.int 26 529), dE P "__init__" 538 (.ref 164), dE P "__static_attributes__" 540 (.ref 165)] 5), #[]⟩
def o154_0 (P : Params) : Obj := ⟨(.type "tuple"), none, (.seq #[] 0), #[]⟩
def o155_0 (P : Params) : Obj := ⟨.none, none, (.fields #[(.int 28 0), (.int 4 0), (.ref 163)]), #[]⟩
def o156_0 (P : Params) : Obj := ⟨(.type "code"), none, (.fields #[(vS "Full" 521), (vS "Full" 522), (vS "/claim/cut.py" 523), (.int 26 0), (.int 0 0), (.int 0 0), (.int 0 0), (.int 0 0), (.ref 154), (.bool false), (.int 370 0), (.ref 155), .none, .none, .none, .none, (.int 524 0), (.int 26 0), (vS "/claim/cut.py" 525)]), #[]⟩
def o157_0 (P : Params) : Obj := ⟨(.type "frame"), none, .plain, #[some (.ref 156), some (.ref 3), some (.ref 153), none, some (vS "poolsmeet.errors" 383), none, some (.ref 0)]⟩
def o158_0 (P : Params) : Obj := ⟨(.type "tuple"), none, (.seq #[] 0), #[]⟩
def o159_0 (P : Params) : Obj := ⟨.none, none, (.fields #[]), #[]⟩
def o160_0 (P : Params) : Obj := ⟨(.type "tuple"), none, (.seq #[(vS "self" 534), (vS "limit" 535)] 0), #[]⟩
def o161_0 (P : Params) : Obj := ⟨(.type "tuple"), none, (.seq #[] 0), #[]⟩
def o162_0 (P : Params) : Obj := ⟨.none, none, (.func (fnB "__init__" "Full.__init__" (defArgs (inClass (top 9) 0)) (defBody (inClass (top 9) 0)) (defScope (inClass (top 9) 0)) .none .none .none .none none .none .none)), #[]⟩
def o163_0 (P : Params) : Obj := ⟨(.type "code"), none, (.fields #[(vS "__init__" 531), (vS "Full.__init__" 532), (vS "/claim/cut.py" 533), (.int 28 0), (.int 2 0), (.int 0 0), (.int 0 0), (.int 3 0), (.ref 158), (.bool true), (.int 370 0), (.ref 159), .none, (.ref 160), (.ref 161), (.ref 162), (.int 536 0), (.int 28 0), (vS "/claim/cut.py" 537)]), #[]⟩
def o164_0 (P : Params) : Obj := ⟨(.type "function"), none, (.func (PySem.W.fnOf "__init__" "Full.__init__" (defArgs (inClass (top 9) 0)) (defBody (inClass (top 9) 0)) (defScope (inClass (top 9) 0)) .none .none .none (vS "poolsmeet.errors" 383) none (.ref 163) .none)), #[]⟩
def o165_0 (P : Params) : Obj := ⟨(.type "tuple"), none, (.seq #[(vS "limit" 539)] 0), #[]⟩
def o166_0 (P : Params) : Obj := ⟨(.type "dict"), none, (.dict #[dE P "__module__" 526 (vS "poolsmeet.errors" 383), dE P "__firstlineno__" 530 (.int 26 529), dE P "__init__" 538 (.ref 164), dE P "__static_attributes__" 540 (.ref 165), dE P "__doc__" 541 .none] 2), #[]⟩
def o167_0 (P : Params) : Obj := ⟨(.type "type"), none, (.cls (cD "Full" [(.ref 59)] [(.ref 167), (.ref 59), (.type "ValueError"), (.type "Exception"), (.type "BaseException"), (.type "object")] 166 "Full" true [] [] false none false)), #[some (.ref 151), none, some (vS "Full" 519), some (vS "Full" 527), some (.builtin "ValueError.__new__"), some (.bool true)]⟩
def o168_0 (P : Params) : Obj := ⟨(.type "super"), none, (.fields #[(.ref 167), (.ref 167), (.ref 167)]), #[]⟩
def o169_0 (P : Params) : Obj := ⟨(.type "builtin_function_or_method"), none, (.fields #[(.builtin "object.__init_subclass__"), (.ref 167)]), #[]⟩
def o170_0 (P : Params) : Obj := ⟨(.type "tuple"), none, (.seq #[(.ref 59)] 0), #[]⟩
def o171_0 (P : Params) : Obj := ⟨(.type "builtin_function_or_method"), none, (.fields #[(.builtin "type.__prepare__"), (.type "type")]), #[]⟩
def o172_0 (P : Params) : Obj := ⟨(.type "dict"), none, (.dict #[dE P "__module__" 551 (vS "poolsmeet.errors" 383), dE P "__qualname__" 553 (vS "MissingDrop" 552), dE P "__firstlineno__" 555 (.int 30 554), dE P "__init__" 564 (.ref 183), dE P "__static_attributes__" 567 (.ref 184)] 5), #[]⟩
def o173_0 (P : Params) : Obj := ⟨(.type "tuple"), none, (.seq #[] 0), #[]⟩
def o174_0 (P : Params) : Obj := ⟨.none, none, (.fields #[(.int 32 0), (.int 4 0), (.ref 182)]), #[]⟩
def o175_0 (P : Params) : Obj := ⟨(.type "code"), none, (.fields #[(vS "MissingDrop" 546), (vS "MissingDrop" 547), (vS "/claim/cut.py" 548), (.int 30 0), (.int 0 0), (.int 0 0), (.int 0 0), (.int 0 0), (.ref 173), (.bool false), (.int 370 0), (.ref 174), .none, .none, .none, .none, (.int 549 0), (.int 30 0), (vS "/claim/cut.py" 550)]), #[]⟩
def o176_0 (P : Params) : Obj := ⟨(.type "frame"), none, .plain, #[some (.ref 175), some (.ref 3), some (.ref 172), none, some (vS "poolsmeet.errors" 383), none, some (.ref 0)]⟩
def o177_0 (P : Params) : Obj := ⟨(.type "tuple"), none, (.seq #[] 0), #[]⟩
def o178_0 (P : Params) : Obj := ⟨.none, none, (.fields #[]), #[]⟩
def o179_0 (P : Params) : Obj := ⟨(.type "tuple"), none, (.seq #[(vS "self" 559), (vS "spot" 560), (vS "amount" 561)] 0), #[]⟩
def o180_0 (P : Params) : Obj := ⟨(.type "tuple"), none, (.seq #[] 0), #[]⟩
def o181_0 (P : Params) : Obj := ⟨.none, none, (.func (fnB "__init__" "MissingDrop.__init__" (defArgs (inClass (top 10) 0)) (defBody (inClass (top 10) 0)) (defScope (inClass (top 10) 0)) .none .none .none .none none .none .none)), #[]⟩
def o182_0 (P : Params) : Obj := ⟨(.type "code"), none, (.fields #[(vS "__init__" 556), (vS "MissingDrop.__init__" 557), (vS "/claim/cut.py" 558), (.int 32 0), (.int 3 0), (.int 0 0), (.int 0 0), (.int 3 0), (.ref 177), (.bool true), (.int 370 0), (.ref 178), .none, (.ref 179), (.ref 180), (.ref 181), (.int 562 0), (.int 32 0), (vS "/claim/cut.py" 563)]), #[]⟩
def o183_0 (P : Params) : Obj := ⟨(.type "function"), none, (.func (PySem.W.fnOf "__init__" "MissingDrop.__init__" (defArgs (inClass (top 10) 0)) (defBody (inClass (top 10) 0)) (defScope (inClass (top 10) 0)) .none .none .none (vS "poolsmeet.errors" 383) none (.ref 182) .none)), #[]⟩
def o184_0 (P : Params) : Obj := ⟨(.type "tuple"), none, (.seq #[(vS "amount" 565), (vS "spot" 566)] 0), #[]⟩
def o185_0 (P : Params) : Obj := ⟨(.type "dict"), none, (.dict #[dE P "__module__" 551 (vS "poolsmeet.errors" 383), dE P "__firstlineno__" 555 (.int 30 554), dE P "__init__" 564 (.ref 183), dE P "__static_attributes__" 567 (.ref 184), dE P "__doc__" 568 .none] 2), #[]⟩
def o186_0 (P : Params) : Obj := ⟨(.type "type"), none, (.cls (cD "MissingDrop" [(.ref 59)] [(.ref 186), (.ref 59), (.type "ValueError"), (.type "Exception"), (.type "BaseException"), (.type "object")] 185 "MissingDrop" true [] [] false none false)), #[some (.ref 170), none, some (vS "MissingDrop" 544), some (vS "MissingDrop" 552), some (.builtin "ValueError.__new__"), some (.bool true)]⟩
def o187_0 (P : Params) : Obj := ⟨(.type "super"), none, (.fields #[(.ref 186), (.ref 186), (.ref 186)]), #[]⟩
def o188_0 (P : Params) : Obj := ⟨(.type "builtin_function_or_method"), none, (.fields #[(.builtin "object.__init_subclass__"), (.ref 186)]), #[]⟩
def o189_0 (P : Params) : Obj := ⟨(.type "tuple"), none, (.seq #[(.ref 59)] 0), #[]⟩
def o190_0 (P : Params) : Obj := ⟨(.type "builtin_function_or_method"), none, (.fields #[(.builtin "type.__prepare__"), (.type "type")]), #[]⟩
def o191_0 (P : Params) : Obj := ⟨(.type "dict"), none, (.dict #[dE P "__module__" 578 (vS "poolsmeet.errors" 383), dE P "__qualname__" 580 (vS "Touching" 579), dE P "__firstlineno__" 582 (.int 35 581), dE P "__init__" 590 (.ref 202), dE P "__static_attributes__" 592 (.ref 203)] 5), #[]⟩
def o192_0 (P : Params) : Obj := ⟨(.type "tuple"), none, (.seq #[] 0), #[]⟩
def o193_0 (P : Params) : Obj := ⟨.none, none, (.fields #[(.int 37 0), (.int 4 0), (.ref 201)]), #[]⟩
def o194_0 (P : Params) : Obj := ⟨(.type "code"), none, (.fields #[(vS "Touching" 573), (vS "Touching" 574), (vS "/claim/cut.py" 575), (.int 35 0), (.int 0 0), (.int 0 0), (.int 0 0), (.int 0 0), (.ref 192), (.bool false), (.int 370 0), (.ref 193), .none, .none, .none, .none, (.int 576 0), (.int 35 0), (vS "/claim/cut.py" 577)]), #[]⟩
def o195_0 (P : Params) : Obj := ⟨(.type "frame"), none, .plain, #[some (.ref 194), some (.ref 3), some (.ref 191), none, some (vS "poolsmeet.errors" 383), none, some (.ref 0)]⟩
def o196_0 (P : Params) : Obj := ⟨(.type "tuple"), none, (.seq #[] 0), #[]⟩
def o197_0 (P : Params) : Obj := ⟨.none, none, (.fields #[]), #[]⟩
def o198_0 (P : Params) : Obj := ⟨(.type "tuple"), none, (.seq #[(vS "self" 586), (vS "index" 587)] 0), #[]⟩
def o199_0 (P : Params) : Obj := ⟨(.type "tuple"), none, (.seq #[] 0), #[]⟩
def o200_0 (P : Params) : Obj := ⟨.none, none, (.func (fnB "__init__" "Touching.__init__" (defArgs (inClass (top 11) 0)) (defBody (inClass (top 11) 0)) (defScope (inClass (top 11) 0)) .none .none .none .none none .none .none)), #[]⟩
def o201_0 (P : Params) : Obj := ⟨(.type "code"), none, (.fields #[(vS "__init__" 583), (vS "Touching.__init__" 584), (vS "/claim/cut.py" 585), (.int 37 0), (.int 2 0), (.int 0 0), (.int 0 0), (.int 3 0), (.ref 196), (.bool true), (.int 370 0), (.ref 197), .none, (.ref 198), (.ref 199), (.ref 200), (.int 588 0), (.int 37 0), (vS "/claim/cut.py" 589)]), #[]⟩
def o202_0 (P : Params) : Obj := ⟨(.type "function"), none, (.func (PySem.W.fnOf "__init__" "Touching.__init__" (defArgs (inClass (top 11) 0)) (defBody (inClass (top 11) 0)) (defScope (inClass (top 11) 0)) .none .none .none (vS "poolsmeet.errors" 383) none (.ref 201) .none)), #[]⟩
def o203_0 (P : Params) : Obj := ⟨(.type "tuple"), none, (.seq #[(vS "index" 591)] 0), #[]⟩
def o204_0 (P : Params) : Obj := ⟨(.type "dict"), none, (.dict #[dE P "__module__" 578 (vS "poolsmeet.errors" 383), dE P "__firstlineno__" 582 (.int 35 581), dE P "__init__" 590 (.ref 202), dE P "__static_attributes__" 592 (.ref 203), dE P "__doc__" 593 .none] 2), #[]⟩
def o205_0 (P : Params) : Obj := ⟨(.type "type"), none, (.cls (cD "Touching" [(.ref 59)] [(.ref 205), (.ref 59), (.type "ValueError"), (.type "Exception"), (.type "BaseException"), (.type "object")] 204 "Touching" true [] [] false none false)), #[some (.ref 189), none, some (vS "Touching" 571), some (vS "Touching" 579), some (.builtin "ValueError.__new__"), some (.bool true)]⟩
def o206_0 (P : Params) : Obj := ⟨(.type "super"), none, (.fields #[(.ref 205), (.ref 205), (.ref 205)]), #[]⟩
def o207_0 (P : Params) : Obj := ⟨(.type "builtin_function_or_method"), none, (.fields #[(.builtin "object.__init_subclass__"), (.ref 205)]), #[]⟩
def o208_0 (P : Params) : Obj := ⟨(.type "tuple"), none, (.seq #[(.ref 59)] 0), #[]⟩
def o209_0 (P : Params) : Obj := ⟨(.type "builtin_function_or_method"), none, (.fields #[(.builtin "type.__prepare__"), (.type "type")]), #[]⟩
def o210_0 (P : Params) : Obj := ⟨(.type "dict"), none, (.dict #[dE P "__module__" 603 (vS "poolsmeet.errors" 383), dE P "__qualname__" 605 (vS "OutOfGround" 604), dE P "__firstlineno__" 607 (.int 39 606), dE P "__init__" 615 (.ref 221), dE P "__static_attributes__" 617 (.ref 222)] 5), #[]⟩
def o211_0 (P : Params) : Obj := ⟨(.type "tuple"), none, (.seq #[] 0), #[]⟩
def o212_0 (P : Params) : Obj := ⟨.none, none, (.fields #[(.int 41 0), (.int 4 0), (.ref 220)]), #[]⟩
def o213_0 (P : Params) : Obj := ⟨(.type "code"), none, (.fields #[(vS "OutOfGround" 598), (vS "OutOfGround" 599), (vS "/claim/cut.py" 600), (.int 39 0), (.int 0 0), (.int 0 0), (.int 0 0), (.int 0 0), (.ref 211), (.bool false), (.int 370 0), (.ref 212), .none, .none, .none, .none, (.int 601 0), (.int 39 0), (vS "/claim/cut.py" 602)]), #[]⟩
def o214_0 (P : Params) : Obj := ⟨(.type "frame"), none, .plain, #[some (.ref 213), some (.ref 3), some (.ref 210), none, some (vS "poolsmeet.errors" 383), none, some (.ref 0)]⟩
def o215_0 (P : Params) : Obj := ⟨(.type "tuple"), none, (.seq #[] 0), #[]⟩
def o216_0 (P : Params) : Obj := ⟨.none, none, (.fields #[]), #[]⟩
def o217_0 (P : Params) : Obj := ⟨(.type "tuple"), none, (.seq #[(vS "self" 611), (vS "spot" 612)] 0), #[]⟩
def o218_0 (P : Params) : Obj := ⟨(.type "tuple"), none, (.seq #[] 0), #[]⟩
def o219_0 (P : Params) : Obj := ⟨.none, none, (.func (fnB "__init__" "OutOfGround.__init__" (defArgs (inClass (top 12) 0)) (defBody (inClass (top 12) 0)) (defScope (inClass (top 12) 0)) .none .none .none .none none .none .none)), #[]⟩
def o220_0 (P : Params) : Obj := ⟨(.type "code"), none, (.fields #[(vS "__init__" 608), (vS "OutOfGround.__init__" 609), (vS "/claim/cut.py" 610), (.int 41 0), (.int 2 0), (.int 0 0), (.int 0 0), (.int 3 0), (.ref 215), (.bool true), (.int 370 0), (.ref 216), .none, (.ref 217), (.ref 218), (.ref 219), (.int 613 0), (.int 41 0), (vS "/claim/cut.py" 614)]), #[]⟩
def o221_0 (P : Params) : Obj := ⟨(.type "function"), none, (.func (PySem.W.fnOf "__init__" "OutOfGround.__init__" (defArgs (inClass (top 12) 0)) (defBody (inClass (top 12) 0)) (defScope (inClass (top 12) 0)) .none .none .none (vS "poolsmeet.errors" 383) none (.ref 220) .none)), #[]⟩
def o222_0 (P : Params) : Obj := ⟨(.type "tuple"), none, (.seq #[(vS "spot" 616)] 0), #[]⟩
def o223_0 (P : Params) : Obj := ⟨(.type "dict"), none, (.dict #[dE P "__module__" 603 (vS "poolsmeet.errors" 383), dE P "__firstlineno__" 607 (.int 39 606), dE P "__init__" 615 (.ref 221), dE P "__static_attributes__" 617 (.ref 222), dE P "__doc__" 618 .none] 2), #[]⟩
def o224_0 (P : Params) : Obj := ⟨(.type "type"), none, (.cls (cD "OutOfGround" [(.ref 59)] [(.ref 224), (.ref 59), (.type "ValueError"), (.type "Exception"), (.type "BaseException"), (.type "object")] 223 "OutOfGround" true [] [] false none false)), #[some (.ref 208), none, some (vS "OutOfGround" 596), some (vS "OutOfGround" 604), some (.builtin "ValueError.__new__"), some (.bool true)]⟩
def o225_0 (P : Params) : Obj := ⟨(.type "super"), none, (.fields #[(.ref 224), (.ref 224), (.ref 224)]), #[]⟩
def o226_0 (P : Params) : Obj := ⟨(.type "builtin_function_or_method"), none, (.fields #[(.builtin "object.__init_subclass__"), (.ref 224)]), #[]⟩
def o227_0 (P : Params) : Obj := ⟨(.type "tuple"), none, (.seq #[(.ref 59)] 0), #[]⟩
def o228_0 (P : Params) : Obj := ⟨(.type "builtin_function_or_method"), none, (.fields #[(.builtin "type.__prepare__"), (.type "type")]), #[]⟩
def o229_0 (P : Params) : Obj := ⟨(.type "dict"), none, (.dict #[dE P "__module__" 628 (vS "poolsmeet.errors" 383), dE P "__qualname__" 630 (vS "Overfull" 629), dE P "__firstlineno__" 632 (.int 43 631), dE P "__init__" 640 (.ref 240), dE P "__static_attributes__" 642 (.ref 241)] 5), #[]⟩
def o230_0 (P : Params) : Obj := ⟨(.type "tuple"), none, (.seq #[] 0), #[]⟩
def o231_0 (P : Params) : Obj := ⟨.none, none, (.fields #[(.int 45 0), (.int 4 0), (.ref 239)]), #[]⟩
def o232_0 (P : Params) : Obj := ⟨(.type "code"), none, (.fields #[(vS "Overfull" 623), (vS "Overfull" 624), (vS "/claim/cut.py" 625), (.int 43 0), (.int 0 0), (.int 0 0), (.int 0 0), (.int 0 0), (.ref 230), (.bool false), (.int 370 0), (.ref 231), .none, .none, .none, .none, (.int 626 0), (.int 43 0), (vS "/claim/cut.py" 627)]), #[]⟩
def o233_0 (P : Params) : Obj := ⟨(.type "frame"), none, .plain, #[some (.ref 232), some (.ref 3), some (.ref 229), none, some (vS "poolsmeet.errors" 383), none, some (.ref 0)]⟩
def o234_0 (P : Params) : Obj := ⟨(.type "tuple"), none, (.seq #[] 0), #[]⟩
def o235_0 (P : Params) : Obj := ⟨.none, none, (.fields #[]), #[]⟩
def o236_0 (P : Params) : Obj := ⟨(.type "tuple"), none, (.seq #[(vS "self" 636), (vS "total" 637)] 0), #[]⟩
def o237_0 (P : Params) : Obj := ⟨(.type "tuple"), none, (.seq #[] 0), #[]⟩
def o238_0 (P : Params) : Obj := ⟨.none, none, (.func (fnB "__init__" "Overfull.__init__" (defArgs (inClass (top 13) 0)) (defBody (inClass (top 13) 0)) (defScope (inClass (top 13) 0)) .none .none .none .none none .none .none)), #[]⟩
def o239_0 (P : Params) : Obj := ⟨(.type "code"), none, (.fields #[(vS "__init__" 633), (vS "Overfull.__init__" 634), (vS "/claim/cut.py" 635), (.int 45 0), (.int 2 0), (.int 0 0), (.int 0 0), (.int 3 0), (.ref 234), (.bool true), (.int 370 0), (.ref 235), .none, (.ref 236), (.ref 237), (.ref 238), (.int 638 0), (.int 45 0), (vS "/claim/cut.py" 639)]), #[]⟩
def o240_0 (P : Params) : Obj := ⟨(.type "function"), none, (.func (PySem.W.fnOf "__init__" "Overfull.__init__" (defArgs (inClass (top 13) 0)) (defBody (inClass (top 13) 0)) (defScope (inClass (top 13) 0)) .none .none .none (vS "poolsmeet.errors" 383) none (.ref 239) .none)), #[]⟩
def o241_0 (P : Params) : Obj := ⟨(.type "tuple"), none, (.seq #[(vS "total" 641)] 0), #[]⟩
def o242_0 (P : Params) : Obj := ⟨(.type "dict"), none, (.dict #[dE P "__module__" 628 (vS "poolsmeet.errors" 383), dE P "__firstlineno__" 632 (.int 43 631), dE P "__init__" 640 (.ref 240), dE P "__static_attributes__" 642 (.ref 241), dE P "__doc__" 643 .none] 2), #[]⟩
def o243_0 (P : Params) : Obj := ⟨(.type "type"), none, (.cls (cD "Overfull" [(.ref 59)] [(.ref 243), (.ref 59), (.type "ValueError"), (.type "Exception"), (.type "BaseException"), (.type "object")] 242 "Overfull" true [] [] false none false)), #[some (.ref 227), none, some (vS "Overfull" 621), some (vS "Overfull" 629), some (.builtin "ValueError.__new__"), some (.bool true)]⟩
def o244_0 (P : Params) : Obj := ⟨(.type "super"), none, (.fields #[(.ref 243), (.ref 243), (.ref 243)]), #[]⟩
def o245_0 (P : Params) : Obj := ⟨(.type "builtin_function_or_method"), none, (.fields #[(.builtin "object.__init_subclass__"), (.ref 243)]), #[]⟩
def o246_0 (P : Params) : Obj := ⟨(.type "tuple"), none, (.seq #[(.ref 59)] 0), #[]⟩
def o247_0 (P : Params) : Obj := ⟨(.type "builtin_function_or_method"), none, (.fields #[(.builtin "type.__prepare__"), (.type "type")]), #[]⟩
def o248_0 (P : Params) : Obj := ⟨(.type "dict"), none, (.dict #[dE P "__module__" 653 (vS "poolsmeet.errors" 383), dE P "__qualname__" 655 (vS "TrialError" 654), dE P "__firstlineno__" 657 (.int 47 656), dE P "__static_attributes__" 658 (.ref 253)] 4), #[]⟩
def o249_0 (P : Params) : Obj := ⟨(.type "tuple"), none, (.seq #[] 0), #[]⟩
def o250_0 (P : Params) : Obj := ⟨.none, none, (.fields #[]), #[]⟩
def o251_0 (P : Params) : Obj := ⟨(.type "code"), none, (.fields #[(vS "TrialError" 648), (vS "TrialError" 649), (vS "/claim/cut.py" 650), (.int 47 0), (.int 0 0), (.int 0 0), (.int 0 0), (.int 0 0), (.ref 249), (.bool false), (.int 370 0), (.ref 250), .none, .none, .none, .none, (.int 651 0), (.int 47 0), (vS "/claim/cut.py" 652)]), #[]⟩
def o252_0 (P : Params) : Obj := ⟨(.type "frame"), none, .plain, #[some (.ref 251), some (.ref 3), some (.ref 248), none, some (vS "poolsmeet.errors" 383), none, some (.ref 0)]⟩
def o253_0 (P : Params) : Obj := ⟨(.type "tuple"), none, (.seq #[] 0), #[]⟩
def o254_0 (P : Params) : Obj := ⟨(.type "dict"), none, (.dict #[dE P "__module__" 653 (vS "poolsmeet.errors" 383), dE P "__firstlineno__" 657 (.int 47 656), dE P "__static_attributes__" 658 (.ref 253), dE P "__doc__" 659 .none] 2), #[]⟩
def o255_0 (P : Params) : Obj := ⟨(.type "type"), none, (.cls (cD "TrialError" [(.ref 59)] [(.ref 255), (.ref 59), (.type "ValueError"), (.type "Exception"), (.type "BaseException"), (.type "object")] 254 "TrialError" true [] [] false none false)), #[some (.ref 246), none, some (vS "TrialError" 646), some (vS "TrialError" 654), some (.builtin "ValueError.__new__"), some (.bool true)]⟩
def o256_0 (P : Params) : Obj := ⟨(.type "super"), none, (.fields #[(.ref 255), (.ref 255), (.ref 255)]), #[]⟩
def o257_0 (P : Params) : Obj := ⟨(.type "builtin_function_or_method"), none, (.fields #[(.builtin "object.__init_subclass__"), (.ref 255)]), #[]⟩
def o258_0 (P : Params) : Obj := ⟨(.type "tuple"), none, (.seq #[(.type "IndexError")] 0), #[]⟩
def o259_0 (P : Params) : Obj := ⟨(.type "builtin_function_or_method"), none, (.fields #[(.builtin "type.__prepare__"), (.type "type")]), #[]⟩
def o260_0 (P : Params) : Obj := ⟨(.type "dict"), none, (.dict #[dE P "__module__" 669 (vS "poolsmeet.errors" 383), dE P "__qualname__" 671 (vS "UnknownIndex" 670), dE P "__firstlineno__" 673 (.int 49 672), dE P "__init__" 681 (.ref 271), dE P "__static_attributes__" 683 (.ref 272)] 5), #[]⟩
def o261_0 (P : Params) : Obj := ⟨(.type "tuple"), none, (.seq #[] 0), #[]⟩
def o262_0 (P : Params) : Obj := ⟨.none, none, (.fields #[(.int 51 0), (.int 4 0), (.ref 270)]), #[]⟩
def o263_0 (P : Params) : Obj := ⟨(.type "code"), none, (.fields #[(vS "UnknownIndex" 664), (vS "UnknownIndex" 665), (vS "/claim/cut.py" 666), (.int 49 0), (.int 0 0), (.int 0 0), (.int 0 0), (.int 0 0), (.ref 261), (.bool false), (.int 370 0), (.ref 262), .none, .none, .none, .none, (.int 667 0), (.int 49 0), (vS "/claim/cut.py" 668)]), #[]⟩
def o264_0 (P : Params) : Obj := ⟨(.type "frame"), none, .plain, #[some (.ref 263), some (.ref 3), some (.ref 260), none, some (vS "poolsmeet.errors" 383), none, some (.ref 0)]⟩
def o265_0 (P : Params) : Obj := ⟨(.type "tuple"), none, (.seq #[] 0), #[]⟩
def o266_0 (P : Params) : Obj := ⟨.none, none, (.fields #[]), #[]⟩
def o267_0 (P : Params) : Obj := ⟨(.type "tuple"), none, (.seq #[(vS "self" 677), (vS "index" 678)] 0), #[]⟩
def o268_0 (P : Params) : Obj := ⟨(.type "tuple"), none, (.seq #[] 0), #[]⟩
def o269_0 (P : Params) : Obj := ⟨.none, none, (.func (fnB "__init__" "UnknownIndex.__init__" (defArgs (inClass (top 15) 0)) (defBody (inClass (top 15) 0)) (defScope (inClass (top 15) 0)) .none .none .none .none none .none .none)), #[]⟩
def o270_0 (P : Params) : Obj := ⟨(.type "code"), none, (.fields #[(vS "__init__" 674), (vS "UnknownIndex.__init__" 675), (vS "/claim/cut.py" 676), (.int 51 0), (.int 2 0), (.int 0 0), (.int 0 0), (.int 3 0), (.ref 265), (.bool true), (.int 370 0), (.ref 266), .none, (.ref 267), (.ref 268), (.ref 269), (.int 679 0), (.int 51 0), (vS "/claim/cut.py" 680)]), #[]⟩
def o271_0 (P : Params) : Obj := ⟨(.type "function"), none, (.func (PySem.W.fnOf "__init__" "UnknownIndex.__init__" (defArgs (inClass (top 15) 0)) (defBody (inClass (top 15) 0)) (defScope (inClass (top 15) 0)) .none .none .none (vS "poolsmeet.errors" 383) none (.ref 270) .none)), #[]⟩
def o272_0 (P : Params) : Obj := ⟨(.type "tuple"), none, (.seq #[(vS "index" 682)] 0), #[]⟩
def o273_0 (P : Params) : Obj := ⟨(.type "dict"), none, (.dict #[dE P "__module__" 669 (vS "poolsmeet.errors" 383), dE P "__firstlineno__" 673 (.int 49 672), dE P "__init__" 681 (.ref 271), dE P "__static_attributes__" 683 (.ref 272), dE P "__weakref__" 685 (.ref 275), dE P "__doc__" 686 .none] 3), #[]⟩
def o274_0 (P : Params) : Obj := ⟨(.type "type"), none, (.cls (cD "UnknownIndex" [(.type "IndexError")] [(.ref 274), (.type "IndexError"), (.type "LookupError"), (.type "Exception"), (.type "BaseException"), (.type "object")] 273 "UnknownIndex" true [] [] false none false)), #[some (.ref 258), none, some (vS "UnknownIndex" 662), some (vS "UnknownIndex" 670), some (.builtin "IndexError.__new__"), some (.bool true)]⟩
def o275_0 (P : Params) : Obj := ⟨(.type "getset_descriptor"), none, (.fields #[(vS "__weakref__" 684), (.ref 274), (.builtin "ExceptionGroup.__weakref__"), .none]), #[]⟩
def o276_0 (P : Params) : Obj := ⟨(.type "super"), none, (.fields #[(.ref 274), (.ref 274), (.ref 274)]), #[]⟩
def o277_0 (P : Params) : Obj := ⟨(.type "builtin_function_or_method"), none, (.fields #[(.builtin "object.__init_subclass__"), (.ref 274)]), #[]⟩
def o278_0 (P : Params) : Obj := ⟨(.type "tuple"), none, (.seq #[] 0), #[]⟩
def o279_0 (P : Params) : Obj := ⟨(.type "builtin_function_or_method"), none, (.fields #[(.builtin "type.__prepare__"), (.type "type")]), #[]⟩
def o280_0 (P : Params) : Obj := ⟨(.type "dict"), none, (.dict #[dE P "__module__" 702 (vS "poolsmeet.ratios" 691), dE P "__qualname__" 704 (vS "Ratio" 703), dE P "__firstlineno__" 706 (.int 55 705), dE P "__init__" 717 (.ref 292), dE P "of" 737 (.ref 301), dE P "read" 762 (.ref 311), dE P "is_whole" 770 (.ref 320), dE P "floor" 778 (.ref 328), dE P "over" 787 (.ref 335), dE P "__add__" 796 (.ref 342), dE P "__radd__" 804 (.ref 349), dE P "__sub__" 813 (.ref 356), dE P "__rsub__" 821 (.ref 363), dE P "__mul__" 830 (.ref 370), dE P "__rmul__" 838 (.ref 377), dE P "__floordiv__" 846 (.ref 384), dE P "__mod__" 854 (.ref 391), dE P "__neg__" 861 (.ref 398), dE P "__abs__" 868 (.ref 405), dE P "__bool__" 875 (.ref 412), dE P "__eq__" 883 (.ref 419), dE P "__ne__" 891 (.ref 426), dE P "__lt__" 899 (.ref 433), dE P "__le__" 907 (.ref 440), dE P "__gt__" 915 (.ref 447), dE P "__ge__" 923 (.ref 454), dE P "__str__" 930 (.ref 461), dE P "__repr__" 937 (.ref 468), dE P "__static_attributes__" 940 (.ref 469)] 29), #[]⟩
def o281_0 (P : Params) : Obj := ⟨(.type "tuple"), none, (.seq #[] 0), #[]⟩
def o282_0 (P : Params) : Obj := ⟨.none, none, (.fields #[(.int 57 0), (.int 4 0), (.ref 291), (.int 67 0), (.int 4 0), (.ref 298), (.int 75 0), (.int 4 0), (.ref 308), (.int 89 0), (.int 4 0), (.ref 318), (.int 93 0), (.int 4 0), (.ref 326), (.int 96 0), (.int 4 0), (.ref 334), (.int 100 0), (.int 4 0), (.ref 341), (.int 106 0), (.int 4 0), (.ref 348), (.int 109 0), (.int 4 0), (.ref 355), (.int 115 0), (.int 4 0), (.ref 362), (.int 118 0), (.int 4 0), (.ref 369), (.int 124 0), (.int 4 0), (.ref 376), (.int 127 0), (.int 4 0), (.ref 383), (.int 132 0), (.int 4 0), (.ref 390), (.int 137 0), (.int 4 0), (.ref 397), (.int 140 0), (.int 4 0), (.ref 404), (.int 143 0), (.int 4 0), (.ref 411), (.int 146 0), (.int 4 0), (.ref 418), (.int 149 0), (.int 4 0), (.ref 425), (.int 152 0), (.int 4 0), (.ref 432), (.int 157 0), (.int 4 0), (.ref 439), (.int 162 0), (.int 4 0), (.ref 446), (.int 167 0), (.int 4 0), (.ref 453), (.int 172 0), (.int 4 0), (.ref 460), (.int 177 0), (.int 4 0), (.ref 467)]), #[]⟩
def o283_0 (P : Params) : Obj := ⟨(.type "code"), none, (.fields #[(vS "Ratio" 697), (vS "Ratio" 698), (vS "/claim/cut.py" 699), (.int 55 0), (.int 0 0), (.int 0 0), (.int 0 0), (.int 0 0), (.ref 281), (.bool false), (.int 370 0), (.ref 282), .none, .none, .none, .none, (.int 700 0), (.int 55 0), (vS "/claim/cut.py" 701)]), #[]⟩
def o284_0 (P : Params) : Obj := ⟨(.type "frame"), none, .plain, #[some (.ref 283), some (.ref 3), some (.ref 280), none, some (vS "poolsmeet.ratios" 691), none, some (.ref 0)]⟩
def o285_0 (P : Params) : Obj := ⟨(.type "tuple"), none, (.seq #[(.int 1 707)] 0), #[]⟩
def o286_0 (P : Params) : Obj := ⟨(.type "tuple"), none, (.seq #[] 0), #[]⟩
def o287_0 (P : Params) : Obj := ⟨.none, none, (.fields #[]), #[]⟩
def o288_0 (P : Params) : Obj := ⟨(.type "tuple"), none, (.seq #[(vS "self" 711), (vS "top" 712), (vS "bottom" 713), (vS "shared" 714)] 0), #[]⟩
def o289_0 (P : Params) : Obj := ⟨(.type "tuple"), none, (.seq #[] 0), #[]⟩
def o290_0 (P : Params) : Obj := ⟨.none, none, (.func (fnB "__init__" "Ratio.__init__" (defArgs (inClass (top 18) 0)) (defBody (inClass (top 18) 0)) (defScope (inClass (top 18) 0)) .none .none .none .none none .none .none)), #[]⟩
def o291_0 (P : Params) : Obj := ⟨(.type "code"), none, (.fields #[(vS "__init__" 708), (vS "Ratio.__init__" 709), (vS "/claim/cut.py" 710), (.int 57 0), (.int 3 0), (.int 0 0), (.int 0 0), (.int 3 0), (.ref 286), (.bool true), (.int 370 0), (.ref 287), .none, (.ref 288), (.ref 289), (.ref 290), (.int 715 0), (.int 57 0), (vS "/claim/cut.py" 716)]), #[]⟩
def o292_0 (P : Params) : Obj := ⟨(.type "function"), none, (.func (PySem.W.fnOf "__init__" "Ratio.__init__" (defArgs (inClass (top 18) 0)) (defBody (inClass (top 18) 0)) (defScope (inClass (top 18) 0)) (.ref 285) .none .none (vS "poolsmeet.ratios" 691) none (.ref 291) .none)), #[]⟩
def o293_0 (P : Params) : Obj := ⟨(.type "tuple"), none, (.seq #[] 0), #[]⟩
def o294_0 (P : Params) : Obj := ⟨.none, none, (.fields #[]), #[]⟩
def o295_0 (P : Params) : Obj := ⟨(.type "tuple"), none, (.seq #[(vS "cls" 721), (vS "value" 722)] 0), #[]⟩
def o296_0 (P : Params) : Obj := ⟨(.type "tuple"), none, (.seq #[] 0), #[]⟩
def o297_0 (P : Params) : Obj := ⟨.none, none, (.func (fnB "of" "Ratio.of" (defArgs (inClass (top 18) 1)) (defBody (inClass (top 18) 1)) (defScope (inClass (top 18) 1)) .none .none .none .none none .none .none)), #[]⟩
def o298_0 (P : Params) : Obj := ⟨(.type "code"), none, (.fields #[(vS "of" 718), (vS "Ratio.of" 719), (vS "/claim/cut.py" 720), (.int 66 0), (.int 2 0), (.int 0 0), (.int 0 0), (.int 3 0), (.ref 293), (.bool true), (.int 370 0), (.ref 294), .none, (.ref 295), (.ref 296), (.ref 297), (.int 723 0), (.int 66 0), (vS "/claim/cut.py" 724)]), #[]⟩
def o299_0 (P : Params) : Obj := ⟨(.type "function"), none, (.func (PySem.W.fnOf "of" "Ratio.of" (defArgs (inClass (top 18) 1)) (defBody (inClass (top 18) 1)) (defScope (inClass (top 18) 1)) .none .none .none (vS "poolsmeet.ratios" 691) (some 302) (.ref 298) .none)), #[]⟩
def o300_0 (P : Params) : Obj := ⟨(.type "dict"), none, (.dict #[dE P "__module__" 726 (vS "poolsmeet.ratios" 691), dE P "__name__" 729 (vS "of" 728), dE P "__qualname__" 732 (vS "Ratio.of" 731), dE P "__doc__" 734 .none, dE P "__annotations__" 736 (.ref 302)] 5), #[]⟩
def o301_0 (P : Params) : Obj := ⟨(.type "classmethod"), (some 300), (.fields #[(.ref 299), (.bool false)]), #[]⟩
def o302_0 (P : Params) : Obj := ⟨(.type "dict"), none, (.dict #[] 0), #[]⟩
def o303_0 (P : Params) : Obj := ⟨(.type "tuple"), none, (.seq #[] 0), #[]⟩
def o304_0 (P : Params) : Obj := ⟨.none, none, (.fields #[]), #[]⟩
def o305_0 (P : Params) : Obj := ⟨(.type "tuple"), none, (.seq #[(vS "cls" 741), (vS "text" 742), (vS "first" 743), (vS "slash" 744), (vS "second" 745), (vS "top" 746), (vS "bottom" 747)] 0), #[]⟩
def o306_0 (P : Params) : Obj := ⟨(.type "tuple"), none, (.seq #[] 0), #[]⟩
def o307_0 (P : Params) : Obj := ⟨.none, none, (.func (fnB "read" "Ratio.read" (defArgs (inClass (top 18) 2)) (defBody (inClass (top 18) 2)) (defScope (inClass (top 18) 2)) .none .none .none .none none .none .none)), #[]⟩
def o308_0 (P : Params) : Obj := ⟨(.type "code"), none, (.fields #[(vS "read" 738), (vS "Ratio.read" 739), (vS "/claim/cut.py" 740), (.int 74 0), (.int 2 0), (.int 0 0), (.int 0 0), (.int 3 0), (.ref 303), (.bool true), (.int 370 0), (.ref 304), .none, (.ref 305), (.ref 306), (.ref 307), (.int 748 0), (.int 74 0), (vS "/claim/cut.py" 749)]), #[]⟩
def o309_0 (P : Params) : Obj := ⟨(.type "function"), none, (.func (PySem.W.fnOf "read" "Ratio.read" (defArgs (inClass (top 18) 2)) (defBody (inClass (top 18) 2)) (defScope (inClass (top 18) 2)) .none .none .none (vS "poolsmeet.ratios" 691) (some 312) (.ref 308) .none)), #[]⟩
def o310_0 (P : Params) : Obj := ⟨(.type "dict"), none, (.dict #[dE P "__module__" 751 (vS "poolsmeet.ratios" 691), dE P "__name__" 754 (vS "read" 753), dE P "__qualname__" 757 (vS "Ratio.read" 756), dE P "__doc__" 759 .none, dE P "__annotations__" 761 (.ref 312)] 5), #[]⟩
def o311_0 (P : Params) : Obj := ⟨(.type "classmethod"), (some 310), (.fields #[(.ref 309), (.bool false)]), #[]⟩
def o312_0 (P : Params) : Obj := ⟨(.type "dict"), none, (.dict #[] 0), #[]⟩
def o313_0 (P : Params) : Obj := ⟨(.type "tuple"), none, (.seq #[] 0), #[]⟩
def o314_0 (P : Params) : Obj := ⟨.none, none, (.fields #[]), #[]⟩
def o315_0 (P : Params) : Obj := ⟨(.type "tuple"), none, (.seq #[(vS "self" 766)] 0), #[]⟩
def o316_0 (P : Params) : Obj := ⟨(.type "tuple"), none, (.seq #[] 0), #[]⟩
def o317_0 (P : Params) : Obj := ⟨.none, none, (.func (fnB "is_whole" "Ratio.is_whole" (defArgs (inClass (top 18) 3)) (defBody (inClass (top 18) 3)) (defScope (inClass (top 18) 3)) .none .none .none .none none .none .none)), #[]⟩
def o318_0 (P : Params) : Obj := ⟨(.type "code"), none, (.fields #[(vS "is_whole" 763), (vS "Ratio.is_whole" 764), (vS "/claim/cut.py" 765), (.int 88 0), (.int 1 0), (.int 0 0), (.int 0 0), (.int 3 0), (.ref 313), (.bool true), (.int 370 0), (.ref 314), .none, (.ref 315), (.ref 316), (.ref 317), (.int 767 0), (.int 88 0), (vS "/claim/cut.py" 768)]), #[]⟩
def o319_0 (P : Params) : Obj := ⟨(.type "function"), none, (.func (PySem.W.fnOf "is_whole" "Ratio.is_whole" (defArgs (inClass (top 18) 3)) (defBody (inClass (top 18) 3)) (defScope (inClass (top 18) 3)) .none .none .none (vS "poolsmeet.ratios" 691) none (.ref 318) .none)), #[]⟩
def o320_0 (P : Params) : Obj := ⟨(.type "property"), none, (.fields #[(.ref 319), .none, .none, .none, (vS "is_whole" 770), (.bool false)]), #[]⟩
def o321_0 (P : Params) : Obj := ⟨(.type "tuple"), none, (.seq #[] 0), #[]⟩
def o322_0 (P : Params) : Obj := ⟨.none, none, (.fields #[]), #[]⟩
def o323_0 (P : Params) : Obj := ⟨(.type "tuple"), none, (.seq #[(vS "self" 774)] 0), #[]⟩
def o324_0 (P : Params) : Obj := ⟨(.type "tuple"), none, (.seq #[] 0), #[]⟩
def o325_0 (P : Params) : Obj := ⟨.none, none, (.func (fnB "floor" "Ratio.floor" (defArgs (inClass (top 18) 4)) (defBody (inClass (top 18) 4)) (defScope (inClass (top 18) 4)) .none .none .none .none none .none .none)), #[]⟩
def o326_0 (P : Params) : Obj := ⟨(.type "code"), none, (.fields #[(vS "floor" 771), (vS "Ratio.floor" 772), (vS "/claim/cut.py" 773), (.int 92 0), (.int 1 0), (.int 0 0), (.int 0 0), (.int 3 0), (.ref 321), (.bool true), (.int 370 0), (.ref 322), .none, (.ref 323), (.ref 324), (.ref 325), (.int 775 0), (.int 92 0), (vS "/claim/cut.py" 776)]), #[]⟩
def o327_0 (P : Params) : Obj := ⟨(.type "function"), none, (.func (PySem.W.fnOf "floor" "Ratio.floor" (defArgs (inClass (top 18) 4)) (defBody (inClass (top 18) 4)) (defScope (inClass (top 18) 4)) .none .none .none (vS "poolsmeet.ratios" 691) none (.ref 326) .none)), #[]⟩
def o328_0 (P : Params) : Obj := ⟨(.type "property"), none, (.fields #[(.ref 327), .none, .none, .none, (vS "floor" 778), (.bool false)]), #[]⟩
def o329_0 (P : Params) : Obj := ⟨(.type "tuple"), none, (.seq #[] 0), #[]⟩
def o330_0 (P : Params) : Obj := ⟨.none, none, (.fields #[]), #[]⟩
def o331_0 (P : Params) : Obj := ⟨(.type "tuple"), none, (.seq #[(vS "self" 782), (vS "other" 783), (vS "divisor" 784)] 0), #[]⟩
def o332_0 (P : Params) : Obj := ⟨(.type "tuple"), none, (.seq #[] 0), #[]⟩
def o333_0 (P : Params) : Obj := ⟨.none, none, (.func (fnB "over" "Ratio.over" (defArgs (inClass (top 18) 5)) (defBody (inClass (top 18) 5)) (defScope (inClass (top 18) 5)) .none .none .none .none none .none .none)), #[]⟩
def o334_0 (P : Params) : Obj := ⟨(.type "code"), none, (.fields #[(vS "over" 779), (vS "Ratio.over" 780), (vS "/claim/cut.py" 781), (.int 96 0), (.int 2 0), (.int 0 0), (.int 0 0), (.int 3 0), (.ref 329), (.bool true), (.int 370 0), (.ref 330), .none, (.ref 331), (.ref 332), (.ref 333), (.int 785 0), (.int 96 0), (vS "/claim/cut.py" 786)]), #[]⟩
def o335_0 (P : Params) : Obj := ⟨(.type "function"), none, (.func (PySem.W.fnOf "over" "Ratio.over" (defArgs (inClass (top 18) 5)) (defBody (inClass (top 18) 5)) (defScope (inClass (top 18) 5)) .none .none .none (vS "poolsmeet.ratios" 691) none (.ref 334) .none)), #[]⟩
def o336_0 (P : Params) : Obj := ⟨(.type "tuple"), none, (.seq #[] 0), #[]⟩
def o337_0 (P : Params) : Obj := ⟨.none, none, (.fields #[]), #[]⟩
def o338_0 (P : Params) : Obj := ⟨(.type "tuple"), none, (.seq #[(vS "self" 791), (vS "other" 792), (vS "number" 793)] 0), #[]⟩
def o339_0 (P : Params) : Obj := ⟨(.type "tuple"), none, (.seq #[] 0), #[]⟩
def o340_0 (P : Params) : Obj := ⟨.none, none, (.func (fnB "__add__" "Ratio.__add__" (defArgs (inClass (top 18) 6)) (defBody (inClass (top 18) 6)) (defScope (inClass (top 18) 6)) .none .none .none .none none .none .none)), #[]⟩
def o341_0 (P : Params) : Obj := ⟨(.type "code"), none, (.fields #[(vS "__add__" 788), (vS "Ratio.__add__" 789), (vS "/claim/cut.py" 790), (.int 100 0), (.int 2 0), (.int 0 0), (.int 0 0), (.int 3 0), (.ref 336), (.bool true), (.int 370 0), (.ref 337), .none, (.ref 338), (.ref 339), (.ref 340), (.int 794 0), (.int 100 0), (vS "/claim/cut.py" 795)]), #[]⟩
def o342_0 (P : Params) : Obj := ⟨(.type "function"), none, (.func (PySem.W.fnOf "__add__" "Ratio.__add__" (defArgs (inClass (top 18) 6)) (defBody (inClass (top 18) 6)) (defScope (inClass (top 18) 6)) .none .none .none (vS "poolsmeet.ratios" 691) none (.ref 341) .none)), #[]⟩
def o343_0 (P : Params) : Obj := ⟨(.type "tuple"), none, (.seq #[] 0), #[]⟩
def o344_0 (P : Params) : Obj := ⟨.none, none, (.fields #[]), #[]⟩
def o345_0 (P : Params) : Obj := ⟨(.type "tuple"), none, (.seq #[(vS "self" 800), (vS "other" 801)] 0), #[]⟩
def o346_0 (P : Params) : Obj := ⟨(.type "tuple"), none, (.seq #[] 0), #[]⟩
def o347_0 (P : Params) : Obj := ⟨.none, none, (.func (fnB "__radd__" "Ratio.__radd__" (defArgs (inClass (top 18) 7)) (defBody (inClass (top 18) 7)) (defScope (inClass (top 18) 7)) .none .none .none .none none .none .none)), #[]⟩
def o348_0 (P : Params) : Obj := ⟨(.type "code"), none, (.fields #[(vS "__radd__" 797), (vS "Ratio.__radd__" 798), (vS "/claim/cut.py" 799), (.int 106 0), (.int 2 0), (.int 0 0), (.int 0 0), (.int 3 0), (.ref 343), (.bool true), (.int 370 0), (.ref 344), .none, (.ref 345), (.ref 346), (.ref 347), (.int 802 0), (.int 106 0), (vS "/claim/cut.py" 803)]), #[]⟩
def o349_0 (P : Params) : Obj := ⟨(.type "function"), none, (.func (PySem.W.fnOf "__radd__" "Ratio.__radd__" (defArgs (inClass (top 18) 7)) (defBody (inClass (top 18) 7)) (defScope (inClass (top 18) 7)) .none .none .none (vS "poolsmeet.ratios" 691) none (.ref 348) .none)), #[]⟩
def o350_0 (P : Params) : Obj := ⟨(.type "tuple"), none, (.seq #[] 0), #[]⟩
def o351_0 (P : Params) : Obj := ⟨.none, none, (.fields #[]), #[]⟩
def o352_0 (P : Params) : Obj := ⟨(.type "tuple"), none, (.seq #[(vS "self" 808), (vS "other" 809), (vS "number" 810)] 0), #[]⟩
def o353_0 (P : Params) : Obj := ⟨(.type "tuple"), none, (.seq #[] 0), #[]⟩
def o354_0 (P : Params) : Obj := ⟨.none, none, (.func (fnB "__sub__" "Ratio.__sub__" (defArgs (inClass (top 18) 8)) (defBody (inClass (top 18) 8)) (defScope (inClass (top 18) 8)) .none .none .none .none none .none .none)), #[]⟩
def o355_0 (P : Params) : Obj := ⟨(.type "code"), none, (.fields #[(vS "__sub__" 805), (vS "Ratio.__sub__" 806), (vS "/claim/cut.py" 807), (.int 109 0), (.int 2 0), (.int 0 0), (.int 0 0), (.int 3 0), (.ref 350), (.bool true), (.int 370 0), (.ref 351), .none, (.ref 352), (.ref 353), (.ref 354), (.int 811 0), (.int 109 0), (vS "/claim/cut.py" 812)]), #[]⟩
def o356_0 (P : Params) : Obj := ⟨(.type "function"), none, (.func (PySem.W.fnOf "__sub__" "Ratio.__sub__" (defArgs (inClass (top 18) 8)) (defBody (inClass (top 18) 8)) (defScope (inClass (top 18) 8)) .none .none .none (vS "poolsmeet.ratios" 691) none (.ref 355) .none)), #[]⟩
def o357_0 (P : Params) : Obj := ⟨(.type "tuple"), none, (.seq #[] 0), #[]⟩
def o358_0 (P : Params) : Obj := ⟨.none, none, (.fields #[]), #[]⟩
def o359_0 (P : Params) : Obj := ⟨(.type "tuple"), none, (.seq #[(vS "self" 817), (vS "other" 818)] 0), #[]⟩
def o360_0 (P : Params) : Obj := ⟨(.type "tuple"), none, (.seq #[] 0), #[]⟩
def o361_0 (P : Params) : Obj := ⟨.none, none, (.func (fnB "__rsub__" "Ratio.__rsub__" (defArgs (inClass (top 18) 9)) (defBody (inClass (top 18) 9)) (defScope (inClass (top 18) 9)) .none .none .none .none none .none .none)), #[]⟩
def o362_0 (P : Params) : Obj := ⟨(.type "code"), none, (.fields #[(vS "__rsub__" 814), (vS "Ratio.__rsub__" 815), (vS "/claim/cut.py" 816), (.int 115 0), (.int 2 0), (.int 0 0), (.int 0 0), (.int 3 0), (.ref 357), (.bool true), (.int 370 0), (.ref 358), .none, (.ref 359), (.ref 360), (.ref 361), (.int 819 0), (.int 115 0), (vS "/claim/cut.py" 820)]), #[]⟩
def o363_0 (P : Params) : Obj := ⟨(.type "function"), none, (.func (PySem.W.fnOf "__rsub__" "Ratio.__rsub__" (defArgs (inClass (top 18) 9)) (defBody (inClass (top 18) 9)) (defScope (inClass (top 18) 9)) .none .none .none (vS "poolsmeet.ratios" 691) none (.ref 362) .none)), #[]⟩
def o364_0 (P : Params) : Obj := ⟨(.type "tuple"), none, (.seq #[] 0), #[]⟩
def o365_0 (P : Params) : Obj := ⟨.none, none, (.fields #[]), #[]⟩
def o366_0 (P : Params) : Obj := ⟨(.type "tuple"), none, (.seq #[(vS "self" 825), (vS "other" 826), (vS "number" 827)] 0), #[]⟩
def o367_0 (P : Params) : Obj := ⟨(.type "tuple"), none, (.seq #[] 0), #[]⟩
def o368_0 (P : Params) : Obj := ⟨.none, none, (.func (fnB "__mul__" "Ratio.__mul__" (defArgs (inClass (top 18) 10)) (defBody (inClass (top 18) 10)) (defScope (inClass (top 18) 10)) .none .none .none .none none .none .none)), #[]⟩
def o369_0 (P : Params) : Obj := ⟨(.type "code"), none, (.fields #[(vS "__mul__" 822), (vS "Ratio.__mul__" 823), (vS "/claim/cut.py" 824), (.int 118 0), (.int 2 0), (.int 0 0), (.int 0 0), (.int 3 0), (.ref 364), (.bool true), (.int 370 0), (.ref 365), .none, (.ref 366), (.ref 367), (.ref 368), (.int 828 0), (.int 118 0), (vS "/claim/cut.py" 829)]), #[]⟩
def o370_0 (P : Params) : Obj := ⟨(.type "function"), none, (.func (PySem.W.fnOf "__mul__" "Ratio.__mul__" (defArgs (inClass (top 18) 10)) (defBody (inClass (top 18) 10)) (defScope (inClass (top 18) 10)) .none .none .none (vS "poolsmeet.ratios" 691) none (.ref 369) .none)), #[]⟩
def o371_0 (P : Params) : Obj := ⟨(.type "tuple"), none, (.seq #[] 0), #[]⟩
def o372_0 (P : Params) : Obj := ⟨.none, none, (.fields #[]), #[]⟩
def o373_0 (P : Params) : Obj := ⟨(.type "tuple"), none, (.seq #[(vS "self" 834), (vS "other" 835)] 0), #[]⟩
def o374_0 (P : Params) : Obj := ⟨(.type "tuple"), none, (.seq #[] 0), #[]⟩
def o375_0 (P : Params) : Obj := ⟨.none, none, (.func (fnB "__rmul__" "Ratio.__rmul__" (defArgs (inClass (top 18) 11)) (defBody (inClass (top 18) 11)) (defScope (inClass (top 18) 11)) .none .none .none .none none .none .none)), #[]⟩
def o376_0 (P : Params) : Obj := ⟨(.type "code"), none, (.fields #[(vS "__rmul__" 831), (vS "Ratio.__rmul__" 832), (vS "/claim/cut.py" 833), (.int 124 0), (.int 2 0), (.int 0 0), (.int 0 0), (.int 3 0), (.ref 371), (.bool true), (.int 370 0), (.ref 372), .none, (.ref 373), (.ref 374), (.ref 375), (.int 836 0), (.int 124 0), (vS "/claim/cut.py" 837)]), #[]⟩
def o377_0 (P : Params) : Obj := ⟨(.type "function"), none, (.func (PySem.W.fnOf "__rmul__" "Ratio.__rmul__" (defArgs (inClass (top 18) 11)) (defBody (inClass (top 18) 11)) (defScope (inClass (top 18) 11)) .none .none .none (vS "poolsmeet.ratios" 691) none (.ref 376) .none)), #[]⟩
def o378_0 (P : Params) : Obj := ⟨(.type "tuple"), none, (.seq #[] 0), #[]⟩
def o379_0 (P : Params) : Obj := ⟨.none, none, (.fields #[]), #[]⟩
def o380_0 (P : Params) : Obj := ⟨(.type "tuple"), none, (.seq #[(vS "self" 842), (vS "other" 843)] 0), #[]⟩
def o381_0 (P : Params) : Obj := ⟨(.type "tuple"), none, (.seq #[] 0), #[]⟩
def o382_0 (P : Params) : Obj := ⟨.none, none, (.func (fnB "__floordiv__" "Ratio.__floordiv__" (defArgs (inClass (top 18) 12)) (defBody (inClass (top 18) 12)) (defScope (inClass (top 18) 12)) .none .none .none .none none .none .none)), #[]⟩
def o383_0 (P : Params) : Obj := ⟨(.type "code"), none, (.fields #[(vS "__floordiv__" 839), (vS "Ratio.__floordiv__" 840), (vS "/claim/cut.py" 841), (.int 127 0), (.int 2 0), (.int 0 0), (.int 0 0), (.int 3 0), (.ref 378), (.bool true), (.int 370 0), (.ref 379), .none, (.ref 380), (.ref 381), (.ref 382), (.int 844 0), (.int 127 0), (vS "/claim/cut.py" 845)]), #[]⟩
def o384_0 (P : Params) : Obj := ⟨(.type "function"), none, (.func (PySem.W.fnOf "__floordiv__" "Ratio.__floordiv__" (defArgs (inClass (top 18) 12)) (defBody (inClass (top 18) 12)) (defScope (inClass (top 18) 12)) .none .none .none (vS "poolsmeet.ratios" 691) none (.ref 383) .none)), #[]⟩
def o385_0 (P : Params) : Obj := ⟨(.type "tuple"), none, (.seq #[] 0), #[]⟩
def o386_0 (P : Params) : Obj := ⟨.none, none, (.fields #[]), #[]⟩
def o387_0 (P : Params) : Obj := ⟨(.type "tuple"), none, (.seq #[(vS "self" 850), (vS "other" 851)] 0), #[]⟩
def o388_0 (P : Params) : Obj := ⟨(.type "tuple"), none, (.seq #[] 0), #[]⟩
def o389_0 (P : Params) : Obj := ⟨.none, none, (.func (fnB "__mod__" "Ratio.__mod__" (defArgs (inClass (top 18) 13)) (defBody (inClass (top 18) 13)) (defScope (inClass (top 18) 13)) .none .none .none .none none .none .none)), #[]⟩
def o390_0 (P : Params) : Obj := ⟨(.type "code"), none, (.fields #[(vS "__mod__" 847), (vS "Ratio.__mod__" 848), (vS "/claim/cut.py" 849), (.int 132 0), (.int 2 0), (.int 0 0), (.int 0 0), (.int 3 0), (.ref 385), (.bool true), (.int 370 0), (.ref 386), .none, (.ref 387), (.ref 388), (.ref 389), (.int 852 0), (.int 132 0), (vS "/claim/cut.py" 853)]), #[]⟩
def o391_0 (P : Params) : Obj := ⟨(.type "function"), none, (.func (PySem.W.fnOf "__mod__" "Ratio.__mod__" (defArgs (inClass (top 18) 13)) (defBody (inClass (top 18) 13)) (defScope (inClass (top 18) 13)) .none .none .none (vS "poolsmeet.ratios" 691) none (.ref 390) .none)), #[]⟩
def o392_0 (P : Params) : Obj := ⟨(.type "tuple"), none, (.seq #[] 0), #[]⟩
def o393_0 (P : Params) : Obj := ⟨.none, none, (.fields #[]), #[]⟩
def o394_0 (P : Params) : Obj := ⟨(.type "tuple"), none, (.seq #[(vS "self" 858)] 0), #[]⟩
def o395_0 (P : Params) : Obj := ⟨(.type "tuple"), none, (.seq #[] 0), #[]⟩
def o396_0 (P : Params) : Obj := ⟨.none, none, (.func (fnB "__neg__" "Ratio.__neg__" (defArgs (inClass (top 18) 14)) (defBody (inClass (top 18) 14)) (defScope (inClass (top 18) 14)) .none .none .none .none none .none .none)), #[]⟩
def o397_0 (P : Params) : Obj := ⟨(.type "code"), none, (.fields #[(vS "__neg__" 855), (vS "Ratio.__neg__" 856), (vS "/claim/cut.py" 857), (.int 137 0), (.int 1 0), (.int 0 0), (.int 0 0), (.int 3 0), (.ref 392), (.bool true), (.int 370 0), (.ref 393), .none, (.ref 394), (.ref 395), (.ref 396), (.int 859 0), (.int 137 0), (vS "/claim/cut.py" 860)]), #[]⟩
def o398_0 (P : Params) : Obj := ⟨(.type "function"), none, (.func (PySem.W.fnOf "__neg__" "Ratio.__neg__" (defArgs (inClass (top 18) 14)) (defBody (inClass (top 18) 14)) (defScope (inClass (top 18) 14)) .none .none .none (vS "poolsmeet.ratios" 691) none (.ref 397) .none)), #[]⟩
def o399_0 (P : Params) : Obj := ⟨(.type "tuple"), none, (.seq #[] 0), #[]⟩
def o400_0 (P : Params) : Obj := ⟨.none, none, (.fields #[]), #[]⟩
def o401_0 (P : Params) : Obj := ⟨(.type "tuple"), none, (.seq #[(vS "self" 865)] 0), #[]⟩
def o402_0 (P : Params) : Obj := ⟨(.type "tuple"), none, (.seq #[] 0), #[]⟩
def o403_0 (P : Params) : Obj := ⟨.none, none, (.func (fnB "__abs__" "Ratio.__abs__" (defArgs (inClass (top 18) 15)) (defBody (inClass (top 18) 15)) (defScope (inClass (top 18) 15)) .none .none .none .none none .none .none)), #[]⟩
def o404_0 (P : Params) : Obj := ⟨(.type "code"), none, (.fields #[(vS "__abs__" 862), (vS "Ratio.__abs__" 863), (vS "/claim/cut.py" 864), (.int 140 0), (.int 1 0), (.int 0 0), (.int 0 0), (.int 3 0), (.ref 399), (.bool true), (.int 370 0), (.ref 400), .none, (.ref 401), (.ref 402), (.ref 403), (.int 866 0), (.int 140 0), (vS "/claim/cut.py" 867)]), #[]⟩
def o405_0 (P : Params) : Obj := ⟨(.type "function"), none, (.func (PySem.W.fnOf "__abs__" "Ratio.__abs__" (defArgs (inClass (top 18) 15)) (defBody (inClass (top 18) 15)) (defScope (inClass (top 18) 15)) .none .none .none (vS "poolsmeet.ratios" 691) none (.ref 404) .none)), #[]⟩
def o406_0 (P : Params) : Obj := ⟨(.type "tuple"), none, (.seq #[] 0), #[]⟩
def o407_0 (P : Params) : Obj := ⟨.none, none, (.fields #[]), #[]⟩
def o408_0 (P : Params) : Obj := ⟨(.type "tuple"), none, (.seq #[(vS "self" 872)] 0), #[]⟩
def o409_0 (P : Params) : Obj := ⟨(.type "tuple"), none, (.seq #[] 0), #[]⟩
def o410_0 (P : Params) : Obj := ⟨.none, none, (.func (fnB "__bool__" "Ratio.__bool__" (defArgs (inClass (top 18) 16)) (defBody (inClass (top 18) 16)) (defScope (inClass (top 18) 16)) .none .none .none .none none .none .none)), #[]⟩
def o411_0 (P : Params) : Obj := ⟨(.type "code"), none, (.fields #[(vS "__bool__" 869), (vS "Ratio.__bool__" 870), (vS "/claim/cut.py" 871), (.int 143 0), (.int 1 0), (.int 0 0), (.int 0 0), (.int 3 0), (.ref 406), (.bool true), (.int 370 0), (.ref 407), .none, (.ref 408), (.ref 409), (.ref 410), (.int 873 0), (.int 143 0), (vS "/claim/cut.py" 874)]), #[]⟩
def o412_0 (P : Params) : Obj := ⟨(.type "function"), none, (.func (PySem.W.fnOf "__bool__" "Ratio.__bool__" (defArgs (inClass (top 18) 16)) (defBody (inClass (top 18) 16)) (defScope (inClass (top 18) 16)) .none .none .none (vS "poolsmeet.ratios" 691) none (.ref 411) .none)), #[]⟩
def o413_0 (P : Params) : Obj := ⟨(.type "tuple"), none, (.seq #[] 0), #[]⟩
def o414_0 (P : Params) : Obj := ⟨.none, none, (.fields #[]), #[]⟩
def o415_0 (P : Params) : Obj := ⟨(.type "tuple"), none, (.seq #[(vS "self" 879), (vS "other" 880)] 0), #[]⟩
def o416_0 (P : Params) : Obj := ⟨(.type "tuple"), none, (.seq #[] 0), #[]⟩
def o417_0 (P : Params) : Obj := ⟨.none, none, (.func (fnB "__eq__" "Ratio.__eq__" (defArgs (inClass (top 18) 17)) (defBody (inClass (top 18) 17)) (defScope (inClass (top 18) 17)) .none .none .none .none none .none .none)), #[]⟩
def o418_0 (P : Params) : Obj := ⟨(.type "code"), none, (.fields #[(vS "__eq__" 876), (vS "Ratio.__eq__" 877), (vS "/claim/cut.py" 878), (.int 146 0), (.int 2 0), (.int 0 0), (.int 0 0), (.int 3 0), (.ref 413), (.bool true), (.int 370 0), (.ref 414), .none, (.ref 415), (.ref 416), (.ref 417), (.int 881 0), (.int 146 0), (vS "/claim/cut.py" 882)]), #[]⟩
def o419_0 (P : Params) : Obj := ⟨(.type "function"), none, (.func (PySem.W.fnOf "__eq__" "Ratio.__eq__" (defArgs (inClass (top 18) 17)) (defBody (inClass (top 18) 17)) (defScope (inClass (top 18) 17)) .none .none .none (vS "poolsmeet.ratios" 691) none (.ref 418) .none)), #[]⟩
def o420_0 (P : Params) : Obj := ⟨(.type "tuple"), none, (.seq #[] 0), #[]⟩
def o421_0 (P : Params) : Obj := ⟨.none, none, (.fields #[]), #[]⟩
def o422_0 (P : Params) : Obj := ⟨(.type "tuple"), none, (.seq #[(vS "self" 887), (vS "other" 888)] 0), #[]⟩
def o423_0 (P : Params) : Obj := ⟨(.type "tuple"), none, (.seq #[] 0), #[]⟩
def o424_0 (P : Params) : Obj := ⟨.none, none, (.func (fnB "__ne__" "Ratio.__ne__" (defArgs (inClass (top 18) 18)) (defBody (inClass (top 18) 18)) (defScope (inClass (top 18) 18)) .none .none .none .none none .none .none)), #[]⟩
def o425_0 (P : Params) : Obj := ⟨(.type "code"), none, (.fields #[(vS "__ne__" 884), (vS "Ratio.__ne__" 885), (vS "/claim/cut.py" 886), (.int 149 0), (.int 2 0), (.int 0 0), (.int 0 0), (.int 3 0), (.ref 420), (.bool true), (.int 370 0), (.ref 421), .none, (.ref 422), (.ref 423), (.ref 424), (.int 889 0), (.int 149 0), (vS "/claim/cut.py" 890)]), #[]⟩
def o426_0 (P : Params) : Obj := ⟨(.type "function"), none, (.func (PySem.W.fnOf "__ne__" "Ratio.__ne__" (defArgs (inClass (top 18) 18)) (defBody (inClass (top 18) 18)) (defScope (inClass (top 18) 18)) .none .none .none (vS "poolsmeet.ratios" 691) none (.ref 425) .none)), #[]⟩
def o427_0 (P : Params) : Obj := ⟨(.type "tuple"), none, (.seq #[] 0), #[]⟩
def o428_0 (P : Params) : Obj := ⟨.none, none, (.fields #[]), #[]⟩
def o429_0 (P : Params) : Obj := ⟨(.type "tuple"), none, (.seq #[(vS "self" 895), (vS "other" 896)] 0), #[]⟩
def o430_0 (P : Params) : Obj := ⟨(.type "tuple"), none, (.seq #[] 0), #[]⟩
def o431_0 (P : Params) : Obj := ⟨.none, none, (.func (fnB "__lt__" "Ratio.__lt__" (defArgs (inClass (top 18) 19)) (defBody (inClass (top 18) 19)) (defScope (inClass (top 18) 19)) .none .none .none .none none .none .none)), #[]⟩
def o432_0 (P : Params) : Obj := ⟨(.type "code"), none, (.fields #[(vS "__lt__" 892), (vS "Ratio.__lt__" 893), (vS "/claim/cut.py" 894), (.int 152 0), (.int 2 0), (.int 0 0), (.int 0 0), (.int 3 0), (.ref 427), (.bool true), (.int 370 0), (.ref 428), .none, (.ref 429), (.ref 430), (.ref 431), (.int 897 0), (.int 152 0), (vS "/claim/cut.py" 898)]), #[]⟩
def o433_0 (P : Params) : Obj := ⟨(.type "function"), none, (.func (PySem.W.fnOf "__lt__" "Ratio.__lt__" (defArgs (inClass (top 18) 19)) (defBody (inClass (top 18) 19)) (defScope (inClass (top 18) 19)) .none .none .none (vS "poolsmeet.ratios" 691) none (.ref 432) .none)), #[]⟩
def o434_0 (P : Params) : Obj := ⟨(.type "tuple"), none, (.seq #[] 0), #[]⟩
def o435_0 (P : Params) : Obj := ⟨.none, none, (.fields #[]), #[]⟩
def o436_0 (P : Params) : Obj := ⟨(.type "tuple"), none, (.seq #[(vS "self" 903), (vS "other" 904)] 0), #[]⟩
def o437_0 (P : Params) : Obj := ⟨(.type "tuple"), none, (.seq #[] 0), #[]⟩
def o438_0 (P : Params) : Obj := ⟨.none, none, (.func (fnB "__le__" "Ratio.__le__" (defArgs (inClass (top 18) 20)) (defBody (inClass (top 18) 20)) (defScope (inClass (top 18) 20)) .none .none .none .none none .none .none)), #[]⟩
def o439_0 (P : Params) : Obj := ⟨(.type "code"), none, (.fields #[(vS "__le__" 900), (vS "Ratio.__le__" 901), (vS "/claim/cut.py" 902), (.int 157 0), (.int 2 0), (.int 0 0), (.int 0 0), (.int 3 0), (.ref 434), (.bool true), (.int 370 0), (.ref 435), .none, (.ref 436), (.ref 437), (.ref 438), (.int 905 0), (.int 157 0), (vS "/claim/cut.py" 906)]), #[]⟩
def o440_0 (P : Params) : Obj := ⟨(.type "function"), none, (.func (PySem.W.fnOf "__le__" "Ratio.__le__" (defArgs (inClass (top 18) 20)) (defBody (inClass (top 18) 20)) (defScope (inClass (top 18) 20)) .none .none .none (vS "poolsmeet.ratios" 691) none (.ref 439) .none)), #[]⟩
def o441_0 (P : Params) : Obj := ⟨(.type "tuple"), none, (.seq #[] 0), #[]⟩
def o442_0 (P : Params) : Obj := ⟨.none, none, (.fields #[]), #[]⟩
def o443_0 (P : Params) : Obj := ⟨(.type "tuple"), none, (.seq #[(vS "self" 911), (vS "other" 912)] 0), #[]⟩
def o444_0 (P : Params) : Obj := ⟨(.type "tuple"), none, (.seq #[] 0), #[]⟩
def o445_0 (P : Params) : Obj := ⟨.none, none, (.func (fnB "__gt__" "Ratio.__gt__" (defArgs (inClass (top 18) 21)) (defBody (inClass (top 18) 21)) (defScope (inClass (top 18) 21)) .none .none .none .none none .none .none)), #[]⟩
def o446_0 (P : Params) : Obj := ⟨(.type "code"), none, (.fields #[(vS "__gt__" 908), (vS "Ratio.__gt__" 909), (vS "/claim/cut.py" 910), (.int 162 0), (.int 2 0), (.int 0 0), (.int 0 0), (.int 3 0), (.ref 441), (.bool true), (.int 370 0), (.ref 442), .none, (.ref 443), (.ref 444), (.ref 445), (.int 913 0), (.int 162 0), (vS "/claim/cut.py" 914)]), #[]⟩
def o447_0 (P : Params) : Obj := ⟨(.type "function"), none, (.func (PySem.W.fnOf "__gt__" "Ratio.__gt__" (defArgs (inClass (top 18) 21)) (defBody (inClass (top 18) 21)) (defScope (inClass (top 18) 21)) .none .none .none (vS "poolsmeet.ratios" 691) none (.ref 446) .none)), #[]⟩
def o448_0 (P : Params) : Obj := ⟨(.type "tuple"), none, (.seq #[] 0), #[]⟩
def o449_0 (P : Params) : Obj := ⟨.none, none, (.fields #[]), #[]⟩
def o450_0 (P : Params) : Obj := ⟨(.type "tuple"), none, (.seq #[(vS "self" 919), (vS "other" 920)] 0), #[]⟩
def o451_0 (P : Params) : Obj := ⟨(.type "tuple"), none, (.seq #[] 0), #[]⟩
def o452_0 (P : Params) : Obj := ⟨.none, none, (.func (fnB "__ge__" "Ratio.__ge__" (defArgs (inClass (top 18) 22)) (defBody (inClass (top 18) 22)) (defScope (inClass (top 18) 22)) .none .none .none .none none .none .none)), #[]⟩
def o453_0 (P : Params) : Obj := ⟨(.type "code"), none, (.fields #[(vS "__ge__" 916), (vS "Ratio.__ge__" 917), (vS "/claim/cut.py" 918), (.int 167 0), (.int 2 0), (.int 0 0), (.int 0 0), (.int 3 0), (.ref 448), (.bool true), (.int 370 0), (.ref 449), .none, (.ref 450), (.ref 451), (.ref 452), (.int 921 0), (.int 167 0), (vS "/claim/cut.py" 922)]), #[]⟩
def o454_0 (P : Params) : Obj := ⟨(.type "function"), none, (.func (PySem.W.fnOf "__ge__" "Ratio.__ge__" (defArgs (inClass (top 18) 22)) (defBody (inClass (top 18) 22)) (defScope (inClass (top 18) 22)) .none .none .none (vS "poolsmeet.ratios" 691) none (.ref 453) .none)), #[]⟩
def o455_0 (P : Params) : Obj := ⟨(.type "tuple"), none, (.seq #[] 0), #[]⟩
def o456_0 (P : Params) : Obj := ⟨.none, none, (.fields #[]), #[]⟩
def o457_0 (P : Params) : Obj := ⟨(.type "tuple"), none, (.seq #[(vS "self" 927)] 0), #[]⟩
def o458_0 (P : Params) : Obj := ⟨(.type "tuple"), none, (.seq #[] 0), #[]⟩
def o459_0 (P : Params) : Obj := ⟨.none, none, (.func (fnB "__str__" "Ratio.__str__" (defArgs (inClass (top 18) 23)) (defBody (inClass (top 18) 23)) (defScope (inClass (top 18) 23)) .none .none .none .none none .none .none)), #[]⟩
def o460_0 (P : Params) : Obj := ⟨(.type "code"), none, (.fields #[(vS "__str__" 924), (vS "Ratio.__str__" 925), (vS "/claim/cut.py" 926), (.int 172 0), (.int 1 0), (.int 0 0), (.int 0 0), (.int 3 0), (.ref 455), (.bool true), (.int 370 0), (.ref 456), .none, (.ref 457), (.ref 458), (.ref 459), (.int 928 0), (.int 172 0), (vS "/claim/cut.py" 929)]), #[]⟩
def o461_0 (P : Params) : Obj := ⟨(.type "function"), none, (.func (PySem.W.fnOf "__str__" "Ratio.__str__" (defArgs (inClass (top 18) 23)) (defBody (inClass (top 18) 23)) (defScope (inClass (top 18) 23)) .none .none .none (vS "poolsmeet.ratios" 691) none (.ref 460) .none)), #[]⟩
def o462_0 (P : Params) : Obj := ⟨(.type "tuple"), none, (.seq #[] 0), #[]⟩
def o463_0 (P : Params) : Obj := ⟨.none, none, (.fields #[]), #[]⟩
def o464_0 (P : Params) : Obj := ⟨(.type "tuple"), none, (.seq #[(vS "self" 934)] 0), #[]⟩
def o465_0 (P : Params) : Obj := ⟨(.type "tuple"), none, (.seq #[] 0), #[]⟩
def o466_0 (P : Params) : Obj := ⟨.none, none, (.func (fnB "__repr__" "Ratio.__repr__" (defArgs (inClass (top 18) 24)) (defBody (inClass (top 18) 24)) (defScope (inClass (top 18) 24)) .none .none .none .none none .none .none)), #[]⟩
def o467_0 (P : Params) : Obj := ⟨(.type "code"), none, (.fields #[(vS "__repr__" 931), (vS "Ratio.__repr__" 932), (vS "/claim/cut.py" 933), (.int 177 0), (.int 1 0), (.int 0 0), (.int 0 0), (.int 3 0), (.ref 462), (.bool true), (.int 370 0), (.ref 463), .none, (.ref 464), (.ref 465), (.ref 466), (.int 935 0), (.int 177 0), (vS "/claim/cut.py" 936)]), #[]⟩
def o468_0 (P : Params) : Obj := ⟨(.type "function"), none, (.func (PySem.W.fnOf "__repr__" "Ratio.__repr__" (defArgs (inClass (top 18) 24)) (defBody (inClass (top 18) 24)) (defScope (inClass (top 18) 24)) .none .none .none (vS "poolsmeet.ratios" 691) none (.ref 467) .none)), #[]⟩
def o469_0 (P : Params) : Obj := ⟨(.type "tuple"), none, (.seq #[(vS "bottom" 938), (vS "top" 939)] 0), #[]⟩
def o470_0 (P : Params) : Obj := ⟨(.type "dict"), none, (.dict #[dE P "__module__" 702 (vS "poolsmeet.ratios" 691), dE P "__firstlineno__" 706 (.int 55 705), dE P "__init__" 717 (.ref 292), dE P "of" 737 (.ref 301), dE P "read" 762 (.ref 311), dE P "is_whole" 770 (.ref 320), dE P "floor" 778 (.ref 328), dE P "over" 787 (.ref 335), dE P "__add__" 796 (.ref 342), dE P "__radd__" 804 (.ref 349), dE P "__sub__" 813 (.ref 356), dE P "__rsub__" 821 (.ref 363), dE P "__mul__" 830 (.ref 370), dE P "__rmul__" 838 (.ref 377), dE P "__floordiv__" 846 (.ref 384), dE P "__mod__" 854 (.ref 391), dE P "__neg__" 861 (.ref 398), dE P "__abs__" 868 (.ref 405), dE P "__bool__" 875 (.ref 412), dE P "__eq__" 883 (.ref 419), dE P "__ne__" 891 (.ref 426), dE P "__lt__" 899 (.ref 433), dE P "__le__" 907 (.ref 440), dE P "__gt__" 915 (.ref 447), dE P "__ge__" 923 (.ref 454), dE P "__str__" 930 (.ref 461), dE P "__repr__" 937 (.ref 468), dE P "__static_attributes__" 940 (.ref 469), dE P "__dict__" 942 (.ref 472), dE P "__weakref__" 944 (.ref 473), dE P "__doc__" 945 .none, dE P "__hash__" 946 .none] 5), #[]⟩
def o471_0 (P : Params) : Obj := ⟨(.type "type"), none, (.cls (cD "Ratio" [(.type "object")] [(.ref 471), (.type "object")] 470 "Ratio" true [] [] false none false)), #[none, none, some (vS "Ratio" 695), some (vS "Ratio" 703), some (.builtin "object.__new__"), some (.bool true)]⟩
def o472_0 (P : Params) : Obj := ⟨(.type "getset_descriptor"), none, (.fields #[(vS "__dict__" 941), (.ref 471), (.builtin "function.__dict__"), (.builtin "function.__dict__#set")]), #[]⟩
def o473_0 (P : Params) : Obj := ⟨(.type "getset_descriptor"), none, (.fields #[(vS "__weakref__" 943), (.ref 471), (.builtin "ExceptionGroup.__weakref__"), .none]), #[]⟩
def o474_0 (P : Params) : Obj := ⟨(.type "super"), none, (.fields #[(.ref 471), (.ref 471), (.ref 471)]), #[]⟩
def o475_0 (P : Params) : Obj := ⟨(.type "builtin_function_or_method"), none, (.fields #[(.builtin "object.__init_subclass__"), (.ref 471)]), #[]⟩
def o476_0 (P : Params) : Obj := ⟨(.type "tuple"), none, (.seq #[] 0), #[]⟩
def o477_0 (P : Params) : Obj := ⟨.none, none, (.fields #[]), #[]⟩
def o478_0 (P : Params) : Obj := ⟨(.type "tuple"), none, (.seq #[(vS "value" 952)] 0), #[]⟩
def o479_0 (P : Params) : Obj := ⟨(.type "tuple"), none, (.seq #[] 0), #[]⟩
def o480_0 (P : Params) : Obj := ⟨.none, none, (.func (fnB "is_number" "is_number" (defArgs (top 19)) (defBody (top 19)) (defScope (top 19)) .none .none .none .none none .none .none)), #[]⟩
def o481_0 (P : Params) : Obj := ⟨(.type "code"), none, (.fields #[(vS "is_number" 949), (vS "is_number" 950), (vS "/claim/cut.py" 951), (.int 179 0), (.int 1 0), (.int 0 0), (.int 0 0), (.int 3 0), (.ref 476), (.bool true), (.int 370 0), (.ref 477), .none, (.ref 478), (.ref 479), (.ref 480), (.int 953 0), (.int 179 0), (vS "/claim/cut.py" 954)]), #[]⟩
def o482_0 (P : Params) : Obj := ⟨(.type "function"), none, (.func (PySem.W.fnOf "is_number" "is_number" (defArgs (top 19)) (defBody (top 19)) (defScope (top 19)) .none .none .none (vS "poolsmeet.ratios" 691) none (.ref 481) .none)), #[]⟩
def o483_0 (P : Params) : Obj := ⟨(.type "tuple"), none, (.seq #[] 0), #[]⟩
def o484_0 (P : Params) : Obj := ⟨.none, none, (.fields #[]), #[]⟩
def o485_0 (P : Params) : Obj := ⟨(.type "tuple"), none, (.seq #[(vS "digits" 959)] 0), #[]⟩
def o486_0 (P : Params) : Obj := ⟨(.type "tuple"), none, (.seq #[] 0), #[]⟩
def o487_0 (P : Params) : Obj := ⟨.none, none, (.func (fnB "is_group" "is_group" (defArgs (top 20)) (defBody (top 20)) (defScope (top 20)) .none .none .none .none none .none .none)), #[]⟩
def o488_0 (P : Params) : Obj := ⟨(.type "code"), none, (.fields #[(vS "is_group" 956), (vS "is_group" 957), (vS "/claim/cut.py" 958), (.int 181 0), (.int 1 0), (.int 0 0), (.int 0 0), (.int 3 0), (.ref 483), (.bool true), (.int 370 0), (.ref 484), .none, (.ref 485), (.ref 486), (.ref 487), (.int 960 0), (.int 181 0), (vS "/claim/cut.py" 961)]), #[]⟩
def o489_0 (P : Params) : Obj := ⟨(.type "function"), none, (.func (PySem.W.fnOf "is_group" "is_group" (defArgs (top 20)) (defBody (top 20)) (defScope (top 20)) .none .none .none (vS "poolsmeet.ratios" 691) none (.ref 488) .none)), #[]⟩
def o490_0 (P : Params) : Obj := ⟨(.type "tuple"), none, (.seq #[] 0), #[]⟩
def o491_0 (P : Params) : Obj := ⟨.none, none, (.fields #[]), #[]⟩
def o492_0 (P : Params) : Obj := ⟨(.type "tuple"), none, (.seq #[(vS "one" 966), (vS "other" 967)] 0), #[]⟩
def o493_0 (P : Params) : Obj := ⟨(.type "tuple"), none, (.seq #[] 0), #[]⟩
def o494_0 (P : Params) : Obj := ⟨.none, none, (.func (fnB "lead" "lead" (defArgs (top 21)) (defBody (top 21)) (defScope (top 21)) .none .none .none .none none .none .none)), #[]⟩
def o495_0 (P : Params) : Obj := ⟨(.type "code"), none, (.fields #[(vS "lead" 963), (vS "lead" 964), (vS "/claim/cut.py" 965), (.int 185 0), (.int 2 0), (.int 0 0), (.int 0 0), (.int 3 0), (.ref 490), (.bool true), (.int 370 0), (.ref 491), .none, (.ref 492), (.ref 493), (.ref 494), (.int 968 0), (.int 185 0), (vS "/claim/cut.py" 969)]), #[]⟩
def o496_0 (P : Params) : Obj := ⟨(.type "function"), none, (.func (PySem.W.fnOf "lead" "lead" (defArgs (top 21)) (defBody (top 21)) (defScope (top 21)) .none .none .none (vS "poolsmeet.ratios" 691) none (.ref 495) .none)), #[]⟩
def o497_0 (P : Params) : Obj := ⟨(.type "tuple"), none, (.seq #[] 0), #[]⟩
def o498_0 (P : Params) : Obj := ⟨.none, none, (.fields #[]), #[]⟩
def o499_0 (P : Params) : Obj := ⟨(.type "tuple"), none, (.seq #[(vS "_law_script" 976), (vS "_law_k" 977), (vS "_law_cell" 978), (vS "_law_seed" 979)] 0), #[]⟩
def o500_0 (P : Params) : Obj := ⟨(.type "tuple"), none, (.seq #[] 0), #[]⟩
def o501_0 (P : Params) : Obj := ⟨.none, none, (.func (fnB "_law_box" "_law_box" (defArgs (top 23)) (defBody (top 23)) (defScope (top 23)) .none .none .none .none none .none .none)), #[]⟩
def o502_0 (P : Params) : Obj := ⟨(.type "code"), none, (.fields #[(vS "_law_box" 973), (vS "_law_box" 974), (vS "/claim/cut.py" 975), (.int 190 0), (.int 2 0), (.int 0 0), (.int 0 0), (.int 3 0), (.ref 497), (.bool true), (.int 370 0), (.ref 498), .none, (.ref 499), (.ref 500), (.ref 501), (.int 980 0), (.int 190 0), (vS "/claim/cut.py" 981)]), #[]⟩
def o503_0 (P : Params) : Obj := ⟨(.type "function"), none, (.func (PySem.W.fnOf "_law_box" "_law_box" (defArgs (top 23)) (defBody (top 23)) (defScope (top 23)) .none .none .none (vS "law_poolsmeet_k01_errors" 971) none (.ref 502) .none)), #[]⟩
def o504_0 (P : Params) : Obj := ⟨(.type "tuple"), none, (.seq #[] 0), #[]⟩
def o505_0 (P : Params) : Obj := ⟨.none, none, (.fields #[]), #[]⟩
def o506_0 (P : Params) : Obj := ⟨(.type "tuple"), none, (.seq #[(vS "_law_box_here" 986), (vS "_law_many" 987), (vS "_law_digit" 988), (vS "_law_first" 989), (vS "_law_mixed" 990)] 0), #[]⟩
def o507_0 (P : Params) : Obj := ⟨(.type "tuple"), none, (.seq #[] 0), #[]⟩
def o508_0 (P : Params) : Obj := ⟨.none, none, (.func (fnB "_law_take" "_law_take" (defArgs (top 24)) (defBody (top 24)) (defScope (top 24)) .none .none .none .none none .none .none)), #[]⟩
def o509_0 (P : Params) : Obj := ⟨(.type "code"), none, (.fields #[(vS "_law_take" 983), (vS "_law_take" 984), (vS "/claim/cut.py" 985), (.int 198 0), (.int 2 0), (.int 0 0), (.int 0 0), (.int 3 0), (.ref 504), (.bool true), (.int 370 0), (.ref 505), .none, (.ref 506), (.ref 507), (.ref 508), (.int 991 0), (.int 198 0), (vS "/claim/cut.py" 992)]), #[]⟩
def o510_0 (P : Params) : Obj := ⟨(.type "function"), none, (.func (PySem.W.fnOf "_law_take" "_law_take" (defArgs (top 24)) (defBody (top 24)) (defScope (top 24)) .none .none .none (vS "law_poolsmeet_k01_errors" 971) none (.ref 509) .none)), #[]⟩
def o511_0 (P : Params) : Obj := ⟨(.type "tuple"), none, (.seq #[] 0), #[]⟩
def o512_0 (P : Params) : Obj := ⟨.none, none, (.fields #[]), #[]⟩
def o513_0 (P : Params) : Obj := ⟨.none, none, (.func (fnB "_law_value" "_law_value" (defArgs (top 25)) (defBody (top 25)) (defScope (top 25)) .none .none .none .none none .none .none)), #[]⟩
def o514_0 (P : Params) : Obj := ⟨(.type "code"), none, (.fields #[(vS "_law_value" 994), (vS "_law_value" 995), (vS "/claim/cut.py" 996), (.int 208 0), (.int 2 0), (.int 0 0), (.int 0 0), (.int 3 0), (.ref 511), (.bool true), (.int 370 0), (.ref 512), .none, .none, .none, (.ref 513), (.int 997 0), (.int 208 0), (vS "/claim/cut.py" 998)]), #[]⟩
def o515_0 (P : Params) : Obj := ⟨(.type "function"), none, (.func (PySem.W.fnOf "_law_value" "_law_value" (defArgs (top 25)) (defBody (top 25)) (defScope (top 25)) .none .none .none (vS "law_poolsmeet_k01_errors" 971) none (.ref 514) .none)), #[]⟩
def o516_0 (P : Params) : Obj := ⟨(.type "tuple"), none, (.seq #[] 0), #[]⟩
def o517_0 (P : Params) : Obj := ⟨.none, none, (.fields #[]), #[]⟩
def o518_0 (P : Params) : Obj := ⟨.none, none, (.func (fnB "_law_alike" "_law_alike" (defArgs (top 26)) (defBody (top 26)) (defScope (top 26)) .none .none .none .none none .none .none)), #[]⟩
def o519_0 (P : Params) : Obj := ⟨(.type "code"), none, (.fields #[(vS "_law_alike" 1000), (vS "_law_alike" 1001), (vS "/claim/cut.py" 1002), (.int 214 0), (.int 2 0), (.int 0 0), (.int 0 0), (.int 3 0), (.ref 516), (.bool true), (.int 370 0), (.ref 517), .none, .none, .none, (.ref 518), (.int 1003 0), (.int 214 0), (vS "/claim/cut.py" 1004)]), #[]⟩
def o520_0 (P : Params) : Obj := ⟨(.type "function"), none, (.func (PySem.W.fnOf "_law_alike" "_law_alike" (defArgs (top 26)) (defBody (top 26)) (defScope (top 26)) .none .none .none (vS "law_poolsmeet_k01_errors" 971) none (.ref 519) .none)), #[]⟩
def o521_0 (P : Params) : Obj := ⟨(.type "tuple"), none, (.seq #[] 0), #[]⟩
def o522_0 (P : Params) : Obj := ⟨.none, none, (.fields #[]), #[]⟩
def o523_0 (P : Params) : Obj := ⟨(.type "tuple"), none, (.seq #[(vS "_law_a" 1009), (vS "_law_b" 1010), (vS "_law_one" 1011), (vS "_law_two" 1012), (vS "_law_three" 1013), (vS "_law_four" 1014), (vS "_law_five" 1015), (vS "_law_six" 1016), (vS "_law_seven" 1017), (vS "_law_eight" 1018), (vS "_law_nine" 1019), (vS "_law_last" 1020), (vS "_law_errors" 1021), (vS "_law_told" 1022)] 0), #[]⟩
def o524_0 (P : Params) : Obj := ⟨(.type "tuple"), none, (.seq #[] 0), #[]⟩
def o525_0 (P : Params) : Obj := ⟨.none, none, (.func (fnB "_law_placed" "_law_placed" (defArgs (top 27)) (defBody (top 27)) (defScope (top 27)) .none .none .none .none none .none .none)), #[]⟩
def o526_0 (P : Params) : Obj := ⟨(.type "code"), none, (.fields #[(vS "_law_placed" 1006), (vS "_law_placed" 1007), (vS "/claim/cut.py" 1008), (.int 222 0), (.int 2 0), (.int 0 0), (.int 0 0), (.int 3 0), (.ref 521), (.bool true), (.int 370 0), (.ref 522), .none, (.ref 523), (.ref 524), (.ref 525), (.int 1023 0), (.int 222 0), (vS "/claim/cut.py" 1024)]), #[]⟩
def o527_0 (P : Params) : Obj := ⟨(.type "function"), none, (.func (PySem.W.fnOf "_law_placed" "_law_placed" (defArgs (top 27)) (defBody (top 27)) (defScope (top 27)) .none .none .none (vS "law_poolsmeet_k01_errors" 971) none (.ref 526) .none)), #[]⟩
def o528_0 (P : Params) : Obj := ⟨(.type "tuple"), none, (.seq #[] 0), #[]⟩
def o529_0 (P : Params) : Obj := ⟨.none, none, (.fields #[]), #[]⟩
def o530_0 (P : Params) : Obj := ⟨(.type "tuple"), none, (.seq #[(vS "_law_a" 1029), (vS "_law_b" 1030), (vS "_law_one" 1031), (vS "_law_two" 1032), (vS "_law_three" 1033), (vS "_law_four" 1034), (vS "_law_five" 1035), (vS "_law_six" 1036), (vS "_law_seven" 1037), (vS "_law_eight" 1038), (vS "_law_nine" 1039), (vS "_law_last" 1040), (vS "_law_errors" 1041), (vS "_law_told" 1042)] 0), #[]⟩
def o531_0 (P : Params) : Obj := ⟨(.type "tuple"), none, (.seq #[] 0), #[]⟩
def o532_0 (P : Params) : Obj := ⟨.none, none, (.func (fnB "_law_named" "_law_named" (defArgs (top 28)) (defBody (top 28)) (defScope (top 28)) .none .none .none .none none .none .none)), #[]⟩
def o533_0 (P : Params) : Obj := ⟨(.type "code"), none, (.fields #[(vS "_law_named" 1026), (vS "_law_named" 1027), (vS "/claim/cut.py" 1028), (.int 231 0), (.int 2 0), (.int 0 0), (.int 0 0), (.int 3 0), (.ref 528), (.bool true), (.int 370 0), (.ref 529), .none, (.ref 530), (.ref 531), (.ref 532), (.int 1043 0), (.int 231 0), (vS "/claim/cut.py" 1044)]), #[]⟩
def o534_0 (P : Params) : Obj := ⟨(.type "function"), none, (.func (PySem.W.fnOf "_law_named" "_law_named" (defArgs (top 28)) (defBody (top 28)) (defScope (top 28)) .none .none .none (vS "law_poolsmeet_k01_errors" 971) none (.ref 533) .none)), #[]⟩
def o535_0 (P : Params) : Obj := ⟨(.type "tuple"), none, (.seq #[] 0), #[]⟩
def o536_0 (P : Params) : Obj := ⟨.none, none, (.fields #[]), #[]⟩
def o537_0 (P : Params) : Obj := ⟨(.type "tuple"), none, (.seq #[(vS "_law_e" 1049), (vS "_law_found" 1050), (vS "_law_bases" 1051)] 0), #[]⟩
def o538_0 (P : Params) : Obj := ⟨(.type "tuple"), none, (.seq #[] 0), #[]⟩
def o539_0 (P : Params) : Obj := ⟨.none, none, (.func (fnB "_law_kinds" "_law_kinds" (defArgs (top 29)) (defBody (top 29)) (defScope (top 29)) .none .none .none .none none .none .none)), #[]⟩
def o540_0 (P : Params) : Obj := ⟨(.type "code"), none, (.fields #[(vS "_law_kinds" 1046), (vS "_law_kinds" 1047), (vS "/claim/cut.py" 1048), (.int 240 0), (.int 1 0), (.int 0 0), (.int 0 0), (.int 3 0), (.ref 535), (.bool true), (.int 370 0), (.ref 536), .none, (.ref 537), (.ref 538), (.ref 539), (.int 1052 0), (.int 240 0), (vS "/claim/cut.py" 1053)]), #[]⟩
def o541_0 (P : Params) : Obj := ⟨(.type "function"), none, (.func (PySem.W.fnOf "_law_kinds" "_law_kinds" (defArgs (top 29)) (defBody (top 29)) (defScope (top 29)) .none .none .none (vS "law_poolsmeet_k01_errors" 971) none (.ref 540) .none)), #[]⟩
def o542_0 (P : Params) : Obj := ⟨(.type "tuple"), none, (.seq #[] 0), #[]⟩
def o543_0 (P : Params) : Obj := ⟨.none, none, (.fields #[]), #[]⟩
def o544_0 (P : Params) : Obj := ⟨.none, none, (.func (fnB "_law_right" "_law_right" (defArgs (top 30)) (defBody (top 30)) (defScope (top 30)) .none .none .none .none none .none .none)), #[]⟩
def o545_0 (P : Params) : Obj := ⟨(.type "code"), none, (.fields #[(vS "_law_right" 1055), (vS "_law_right" 1056), (vS "/claim/cut.py" 1057), (.int 247 0), (.int 5 0), (.int 0 0), (.int 0 0), (.int 3 0), (.ref 542), (.bool true), (.int 370 0), (.ref 543), .none, .none, .none, (.ref 544), (.int 1058 0), (.int 247 0), (vS "/claim/cut.py" 1059)]), #[]⟩
def o546_0 (P : Params) : Obj := ⟨(.type "function"), none, (.func (PySem.W.fnOf "_law_right" "_law_right" (defArgs (top 30)) (defBody (top 30)) (defScope (top 30)) .none .none .none (vS "law_poolsmeet_k01_errors" 971) none (.ref 545) .none)), #[]⟩
def o547_0 (P : Params) : Obj := ⟨(.type "tuple"), none, (.seq #[] 0), #[]⟩
def o548_0 (P : Params) : Obj := ⟨.none, none, (.fields #[]), #[]⟩
def o549_0 (P : Params) : Obj := ⟨(.type "tuple"), none, (.seq #[(vS "_law_script" 1064), (vS "_law_k" 1065), (vS "_law_box_here" 1066), (vS "_law_a" 1067), (vS "_law_b" 1068), (vS "_law_errors" 1069), (vS "_law_told" 1070), (vS "_law_second" 1071)] 0), #[]⟩
def o550_0 (P : Params) : Obj := ⟨(.type "tuple"), none, (.seq #[] 0), #[]⟩
def o551_0 (P : Params) : Obj := ⟨.none, none, (.func (fnB "law" "law" (defArgs (top 31)) (defBody (top 31)) (defScope (top 31)) .none .none .none .none none .none .none)), #[]⟩
def o552_0 (P : Params) : Obj := ⟨(.type "code"), none, (.fields #[(vS "law" 1061), (vS "law" 1062), (vS "/claim/cut.py" 1063), (.int 255 0), (.int 1 0), (.int 0 0), (.int 0 0), (.int 3 0), (.ref 547), (.bool true), (.int 370 0), (.ref 548), .none, (.ref 549), (.ref 550), (.ref 551), (.int 1072 0), (.int 255 0), (vS "/claim/cut.py" 1073)]), #[]⟩
def o553_0 (P : Params) : Obj := ⟨(.type "function"), none, (.func (PySem.W.fnOf "law" "law" (defArgs (top 31)) (defBody (top 31)) (defScope (top 31)) .none .none .none (vS "law_poolsmeet_k01_errors" 971) none (.ref 552) .none)), #[]⟩
abbrev z : PySem.W.BT := .nil
abbrev n0 (o : Obj) : PySem.W.BT := .node o .nil .nil
abbrev n1 (o : Obj) (l : PySem.W.BT) : PySem.W.BT := .node o l .nil
abbrev n2 (o : Obj) (l r : PySem.W.BT) : PySem.W.BT := .node o l r
def life0 : Life := { registered := [], finalised := [], alive := [], known := 0, ids := [], orphanDicts := [], counting := false, cnt := #[], zero := [], soft := 0, below := false, collecting := false, loading := false, debug := 0, thresholds := [2000, 10, 10], woke := false, asked := 0, gcEnabled := true, old := [], middle := [], young := 0, intoMiddle := false }
def T0 (P : Params) : PySem.W.BT := (n2 (o0_0 P) (n2 (o1_0 P) (n2 (o3_0 P) (n2 (o7_0 P) (n1 (o15_0 P) (n0 (o31_0 P))) (n0 (o23_0 P))) (n2 (o11_0 P) (n1 (o19_0 P) (n0 (o35_0 P))) (n0 (o27_0 P)))) (n2 (o5_0 P) (n2 (o9_0 P) (n1 (o17_0 P) (n0 (o33_0 P))) (n0 (o25_0 P))) (n2 (o13_0 P) (n1 (o21_0 P) (n0 (o37_0 P))) (n0 (o29_0 P))))) (n2 (o2_0 P) (n2 (o4_0 P) (n2 (o8_0 P) (n1 (o16_0 P) (n0 (o32_0 P))) (n0 (o24_0 P))) (n2 (o12_0 P) (n1 (o20_0 P) (n0 (o36_0 P))) (n0 (o28_0 P)))) (n2 (o6_0 P) (n2 (o10_0 P) (n1 (o18_0 P) (n0 (o34_0 P))) (n0 (o26_0 P))) (n2 (o14_0 P) (n1 (o22_0 P) (n0 (o38_0 P))) (n0 (o30_0 P))))))
abbrev S0 (w : World) (os : OsState) : SharedT := ⟨T0 w.params, 39, life0, #[], ⟨0, 0, 0, 0⟩, 370, os⟩
def Ta (P : Params) : PySem.W.BT := (n2 (o0_0 P) (n2 (o1_0 P) (n2 (o3_0 P) (n2 (o7_0 P) (n1 (o15_0 P) (n0 (o31_0 P))) (n1 (o23_0 P) (n0 (o39_0 P)))) (n2 (o11_0 P) (n1 (o19_0 P) (n0 (o35_0 P))) (n0 (o27_0 P)))) (n2 (o5_0 P) (n2 (o9_0 P) (n1 (o17_0 P) (n0 (o33_0 P))) (n1 (o25_0 P) (n0 (o41_0 P)))) (n2 (o13_0 P) (n1 (o21_0 P) (n0 (o37_0 P))) (n0 (o29_0 P))))) (n2 (o2_0 P) (n2 (o4_0 P) (n2 (o8_0 P) (n1 (o16_0 P) (n0 (o32_0 P))) (n1 (o24_0 P) (n0 (o40_0 P)))) (n2 (o12_0 P) (n1 (o20_0 P) (n0 (o36_0 P))) (n0 (o28_0 P)))) (n2 (o6_0 P) (n2 (o10_0 P) (n1 (o18_0 P) (n0 (o34_0 P))) (n1 (o26_0 P) (n0 (o42_0 P)))) (n2 (o14_0 P) (n1 (o22_0 P) (n0 (o38_0 P))) (n0 (o30_0 P))))))
abbrev Sa (w : World) (os : OsState) : SharedT := ⟨Ta w.params, 43, life0, #[], ⟨0, 0, 0, 0⟩, 376, os⟩
def Tb (P : Params) : PySem.W.BT := (n2 (o0_0 P) (n2 (o1_0 P) (n2 (o3_0 P) (n2 (o7_0 P) (n1 (o15_0 P) (n0 (o31_0 P))) (n1 (o23_0 P) (n0 (o39_0 P)))) (n2 (o11_0 P) (n1 (o19_0 P) (n0 (o35_0 P))) (n0 (o27_0 P)))) (n2 (o5_0 P) (n2 (o9_0 P) (n1 (o17_0 P) (n0 (o33_0 P))) (n1 (o25_0 P) (n0 (o41_0 P)))) (n2 (o13_0 P) (n1 (o21_0 P) (n0 (o37_0 P))) (n0 (o29_0 P))))) (n2 (o2_0 P) (n2 (o4_0 P) (n2 (o8_0 P) (n1 (o16_0 P) (n0 (o32_0 P))) (n1 (o24_0 P) (n0 (o40_0 P)))) (n2 (o12_0 P) (n1 (o20_0 P) (n0 (o36_0 P))) (n0 (o28_0 P)))) (n2 (o6_0 P) (n2 (o10_0 P) (n1 (o18_0 P) (n0 (o34_0 P))) (n1 (o26_0 P) (n0 (o42_0 P)))) (n2 (o14_0 P) (n1 (o22_0 P) (n0 (o38_0 P))) (n0 (o30_0 P))))))
abbrev Sb (w : World) (os : OsState) : SharedT := ⟨Tb w.params, 43, life0, #[], ⟨0, 0, 0, 0⟩, 376, os⟩
def T8 (P : Params) : PySem.W.BT := (n2 (o0_0 P) (n2 (o1_0 P) (n2 (o3_1 P) (n2 (o7_0 P) (n2 (o15_0 P) (n2 (o31_0 P) (n1 (o63_0 P) (n0 (o127_0 P))) (n0 (o95_0 P))) (n2 (o47_0 P) (n1 (o79_0 P) (n0 (o143_0 P))) (n0 (o111_0 P)))) (n2 (o23_0 P) (n2 (o39_0 P) (n1 (o71_0 P) (n0 (o135_0 P))) (n0 (o103_0 P))) (n2 (o55_0 P) (n0 (o87_0 P)) (n0 (o119_0 P))))) (n2 (o11_0 P) (n2 (o19_0 P) (n2 (o35_0 P) (n1 (o67_0 P) (n0 (o131_0 P))) (n0 (o99_0 P))) (n2 (o51_0 P) (n1 (o83_0 P) (n0 (o147_0 P))) (n0 (o115_0 P)))) (n2 (o27_0 P) (n2 (o43_0 P) (n1 (o75_0 P) (n0 (o139_0 P))) (n0 (o107_0 P))) (n2 (o59_0 P) (n0 (o91_0 P)) (n0 (o123_0 P)))))) (n2 (o5_0 P) (n2 (o9_0 P) (n2 (o17_0 P) (n2 (o33_0 P) (n1 (o65_0 P) (n0 (o129_0 P))) (n0 (o97_0 P))) (n2 (o49_0 P) (n1 (o81_0 P) (n0 (o145_0 P))) (n0 (o113_0 P)))) (n2 (o25_0 P) (n2 (o41_0 P) (n1 (o73_0 P) (n0 (o137_0 P))) (n0 (o105_0 P))) (n2 (o57_0 P) (n0 (o89_0 P)) (n0 (o121_0 P))))) (n2 (o13_0 P) (n2 (o21_0 P) (n2 (o37_0 P) (n1 (o69_0 P) (n0 (o133_0 P))) (n0 (o101_0 P))) (n2 (o53_0 P) (n1 (o85_0 P) (n0 (o149_0 P))) (n0 (o117_0 P)))) (n2 (o29_0 P) (n2 (o45_0 P) (n1 (o77_0 P) (n0 (o141_0 P))) (n0 (o109_0 P))) (n2 (o61_0 P) (n0 (o93_0 P)) (n0 (o125_0 P))))))) (n2 (o2_0 P) (n2 (o4_0 P) (n2 (o8_0 P) (n2 (o16_0 P) (n2 (o32_0 P) (n1 (o64_0 P) (n0 (o128_0 P))) (n0 (o96_0 P))) (n2 (o48_0 P) (n1 (o80_0 P) (n0 (o144_0 P))) (n0 (o112_0 P)))) (n2 (o24_0 P) (n2 (o40_1 P) (n1 (o72_0 P) (n0 (o136_0 P))) (n0 (o104_0 P))) (n2 (o56_0 P) (n0 (o88_0 P)) (n0 (o120_0 P))))) (n2 (o12_0 P) (n2 (o20_0 P) (n2 (o36_0 P) (n1 (o68_0 P) (n0 (o132_0 P))) (n0 (o100_0 P))) (n2 (o52_0 P) (n1 (o84_0 P) (n0 (o148_0 P))) (n0 (o116_0 P)))) (n2 (o28_0 P) (n2 (o44_0 P) (n1 (o76_0 P) (n0 (o140_0 P))) (n0 (o108_0 P))) (n2 (o60_0 P) (n0 (o92_0 P)) (n0 (o124_0 P)))))) (n2 (o6_0 P) (n2 (o10_0 P) (n2 (o18_0 P) (n2 (o34_0 P) (n1 (o66_0 P) (n0 (o130_0 P))) (n0 (o98_0 P))) (n2 (o50_0 P) (n1 (o82_0 P) (n0 (o146_0 P))) (n0 (o114_0 P)))) (n2 (o26_0 P) (n2 (o42_0 P) (n1 (o74_0 P) (n0 (o138_0 P))) (n0 (o106_0 P))) (n2 (o58_0 P) (n0 (o90_0 P)) (n0 (o122_0 P))))) (n2 (o14_0 P) (n2 (o22_0 P) (n2 (o38_0 P) (n1 (o70_0 P) (n0 (o134_0 P))) (n0 (o102_0 P))) (n2 (o54_0 P) (n1 (o86_0 P) (n0 (o150_0 P))) (n0 (o118_0 P)))) (n2 (o30_0 P) (n2 (o46_0 P) (n1 (o78_0 P) (n0 (o142_0 P))) (n0 (o110_0 P))) (n2 (o62_0 P) (n0 (o94_0 P)) (n0 (o126_0 P))))))))
abbrev S8 (w : World) (os : OsState) : SharedT := ⟨T8 w.params, 151, life0, #[], ⟨0, 0, 0, 0⟩, 519, os⟩
def T14 (P : Params) : PySem.W.BT := (n2 (o0_0 P) (n2 (o1_0 P) (n2 (o3_2 P) (n2 (o7_0 P) (n2 (o15_0 P) (n2 (o31_0 P) (n2 (o63_0 P) (n1 (o127_0 P) (n0 (o255_0 P))) (n0 (o191_0 P))) (n2 (o95_0 P) (n0 (o159_0 P)) (n0 (o223_0 P)))) (n2 (o47_0 P) (n2 (o79_0 P) (n0 (o143_0 P)) (n0 (o207_0 P))) (n2 (o111_0 P) (n0 (o175_0 P)) (n0 (o239_0 P))))) (n2 (o23_0 P) (n2 (o39_0 P) (n2 (o71_0 P) (n0 (o135_0 P)) (n0 (o199_0 P))) (n2 (o103_0 P) (n0 (o167_0 P)) (n0 (o231_0 P)))) (n2 (o55_0 P) (n2 (o87_0 P) (n0 (o151_0 P)) (n0 (o215_0 P))) (n2 (o119_0 P) (n0 (o183_0 P)) (n0 (o247_0 P)))))) (n2 (o11_0 P) (n2 (o19_0 P) (n2 (o35_0 P) (n2 (o67_0 P) (n0 (o131_0 P)) (n0 (o195_0 P))) (n2 (o99_0 P) (n0 (o163_0 P)) (n0 (o227_0 P)))) (n2 (o51_0 P) (n2 (o83_0 P) (n0 (o147_0 P)) (n0 (o211_0 P))) (n2 (o115_0 P) (n0 (o179_0 P)) (n0 (o243_0 P))))) (n2 (o27_0 P) (n2 (o43_0 P) (n2 (o75_0 P) (n0 (o139_0 P)) (n0 (o203_0 P))) (n2 (o107_0 P) (n0 (o171_0 P)) (n0 (o235_0 P)))) (n2 (o59_1 P) (n2 (o91_0 P) (n0 (o155_0 P)) (n0 (o219_0 P))) (n2 (o123_0 P) (n0 (o187_0 P)) (n0 (o251_0 P))))))) (n2 (o5_0 P) (n2 (o9_0 P) (n2 (o17_0 P) (n2 (o33_0 P) (n2 (o65_0 P) (n1 (o129_0 P) (n0 (o257_0 P))) (n0 (o193_0 P))) (n2 (o97_0 P) (n0 (o161_0 P)) (n0 (o225_0 P)))) (n2 (o49_0 P) (n2 (o81_0 P) (n0 (o145_0 P)) (n0 (o209_0 P))) (n2 (o113_0 P) (n0 (o177_0 P)) (n0 (o241_0 P))))) (n2 (o25_0 P) (n2 (o41_0 P) (n2 (o73_0 P) (n0 (o137_0 P)) (n0 (o201_0 P))) (n2 (o105_0 P) (n0 (o169_0 P)) (n0 (o233_0 P)))) (n2 (o57_0 P) (n2 (o89_0 P) (n0 (o153_0 P)) (n0 (o217_0 P))) (n2 (o121_0 P) (n0 (o185_0 P)) (n0 (o249_0 P)))))) (n2 (o13_0 P) (n2 (o21_0 P) (n2 (o37_0 P) (n2 (o69_0 P) (n0 (o133_0 P)) (n0 (o197_0 P))) (n2 (o101_0 P) (n0 (o165_0 P)) (n0 (o229_0 P)))) (n2 (o53_0 P) (n2 (o85_0 P) (n0 (o149_0 P)) (n0 (o213_0 P))) (n2 (o117_0 P) (n0 (o181_0 P)) (n0 (o245_0 P))))) (n2 (o29_0 P) (n2 (o45_0 P) (n2 (o77_0 P) (n0 (o141_0 P)) (n0 (o205_0 P))) (n2 (o109_0 P) (n0 (o173_0 P)) (n0 (o237_0 P)))) (n2 (o61_0 P) (n2 (o93_0 P) (n0 (o157_0 P)) (n0 (o221_0 P))) (n2 (o125_0 P) (n0 (o189_0 P)) (n0 (o253_0 P)))))))) (n2 (o2_0 P) (n2 (o4_0 P) (n2 (o8_0 P) (n2 (o16_0 P) (n2 (o32_0 P) (n2 (o64_0 P) (n1 (o128_0 P) (n0 (o256_0 P))) (n0 (o192_0 P))) (n2 (o96_0 P) (n0 (o160_0 P)) (n0 (o224_0 P)))) (n2 (o48_0 P) (n2 (o80_0 P) (n0 (o144_0 P)) (n0 (o208_0 P))) (n2 (o112_0 P) (n0 (o176_0 P)) (n0 (o240_0 P))))) (n2 (o24_0 P) (n2 (o40_2 P) (n2 (o72_0 P) (n0 (o136_0 P)) (n0 (o200_0 P))) (n2 (o104_0 P) (n0 (o168_0 P)) (n0 (o232_0 P)))) (n2 (o56_0 P) (n2 (o88_0 P) (n0 (o152_0 P)) (n0 (o216_0 P))) (n2 (o120_0 P) (n0 (o184_0 P)) (n0 (o248_0 P)))))) (n2 (o12_0 P) (n2 (o20_0 P) (n2 (o36_0 P) (n2 (o68_0 P) (n0 (o132_0 P)) (n0 (o196_0 P))) (n2 (o100_0 P) (n0 (o164_0 P)) (n0 (o228_0 P)))) (n2 (o52_0 P) (n2 (o84_0 P) (n0 (o148_0 P)) (n0 (o212_0 P))) (n2 (o116_0 P) (n0 (o180_0 P)) (n0 (o244_0 P))))) (n2 (o28_0 P) (n2 (o44_0 P) (n2 (o76_0 P) (n0 (o140_0 P)) (n0 (o204_0 P))) (n2 (o108_0 P) (n0 (o172_0 P)) (n0 (o236_0 P)))) (n2 (o60_0 P) (n2 (o92_0 P) (n0 (o156_0 P)) (n0 (o220_0 P))) (n2 (o124_0 P) (n0 (o188_0 P)) (n0 (o252_0 P))))))) (n2 (o6_0 P) (n2 (o10_0 P) (n2 (o18_0 P) (n2 (o34_0 P) (n2 (o66_0 P) (n0 (o130_0 P)) (n0 (o194_0 P))) (n2 (o98_0 P) (n0 (o162_0 P)) (n0 (o226_0 P)))) (n2 (o50_0 P) (n2 (o82_0 P) (n0 (o146_0 P)) (n0 (o210_0 P))) (n2 (o114_0 P) (n0 (o178_0 P)) (n0 (o242_0 P))))) (n2 (o26_0 P) (n2 (o42_0 P) (n2 (o74_0 P) (n0 (o138_0 P)) (n0 (o202_0 P))) (n2 (o106_0 P) (n0 (o170_0 P)) (n0 (o234_0 P)))) (n2 (o58_0 P) (n2 (o90_0 P) (n0 (o154_0 P)) (n0 (o218_0 P))) (n2 (o122_0 P) (n0 (o186_0 P)) (n0 (o250_0 P)))))) (n2 (o14_0 P) (n2 (o22_0 P) (n2 (o38_0 P) (n2 (o70_0 P) (n0 (o134_0 P)) (n0 (o198_0 P))) (n2 (o102_0 P) (n0 (o166_0 P)) (n0 (o230_0 P)))) (n2 (o54_0 P) (n2 (o86_0 P) (n0 (o150_0 P)) (n0 (o214_0 P))) (n2 (o118_0 P) (n0 (o182_0 P)) (n0 (o246_0 P))))) (n2 (o30_0 P) (n2 (o46_0 P) (n2 (o78_0 P) (n0 (o142_0 P)) (n0 (o206_0 P))) (n2 (o110_0 P) (n0 (o174_0 P)) (n0 (o238_0 P)))) (n2 (o62_0 P) (n2 (o94_0 P) (n0 (o158_0 P)) (n0 (o222_0 P))) (n2 (o126_0 P) (n0 (o190_0 P)) (n0 (o254_0 P)))))))))
abbrev S14 (w : World) (os : OsState) : SharedT := ⟨T14 w.params, 258, life0, #[], ⟨0, 0, 0, 0⟩, 662, os⟩
def T17 (P : Params) : PySem.W.BT := (n2 (o0_0 P) (n2 (o1_0 P) (n2 (o3_3 P) (n2 (o7_0 P) (n2 (o15_0 P) (n2 (o31_0 P) (n2 (o63_0 P) (n1 (o127_0 P) (n0 (o255_0 P))) (n0 (o191_0 P))) (n2 (o95_0 P) (n0 (o159_0 P)) (n0 (o223_0 P)))) (n2 (o47_0 P) (n2 (o79_0 P) (n1 (o143_0 P) (n0 (o271_0 P))) (n0 (o207_0 P))) (n2 (o111_0 P) (n0 (o175_0 P)) (n0 (o239_0 P))))) (n2 (o23_0 P) (n2 (o39_0 P) (n2 (o71_0 P) (n1 (o135_0 P) (n0 (o263_0 P))) (n0 (o199_0 P))) (n2 (o103_0 P) (n0 (o167_0 P)) (n0 (o231_0 P)))) (n2 (o55_0 P) (n2 (o87_0 P) (n0 (o151_0 P)) (n0 (o215_0 P))) (n2 (o119_0 P) (n0 (o183_0 P)) (n0 (o247_0 P)))))) (n2 (o11_0 P) (n2 (o19_0 P) (n2 (o35_0 P) (n2 (o67_0 P) (n1 (o131_0 P) (n0 (o259_0 P))) (n0 (o195_0 P))) (n2 (o99_0 P) (n0 (o163_0 P)) (n0 (o227_0 P)))) (n2 (o51_0 P) (n2 (o83_0 P) (n1 (o147_0 P) (n0 (o275_0 P))) (n0 (o211_0 P))) (n2 (o115_0 P) (n0 (o179_0 P)) (n0 (o243_0 P))))) (n2 (o27_0 P) (n2 (o43_0 P) (n2 (o75_0 P) (n1 (o139_0 P) (n0 (o267_0 P))) (n0 (o203_0 P))) (n2 (o107_0 P) (n0 (o171_0 P)) (n0 (o235_0 P)))) (n2 (o59_1 P) (n2 (o91_0 P) (n0 (o155_0 P)) (n0 (o219_0 P))) (n2 (o123_0 P) (n0 (o187_0 P)) (n0 (o251_0 P))))))) (n2 (o5_0 P) (n2 (o9_0 P) (n2 (o17_0 P) (n2 (o33_0 P) (n2 (o65_0 P) (n1 (o129_0 P) (n0 (o257_0 P))) (n0 (o193_0 P))) (n2 (o97_0 P) (n0 (o161_0 P)) (n0 (o225_0 P)))) (n2 (o49_0 P) (n2 (o81_0 P) (n1 (o145_0 P) (n0 (o273_0 P))) (n0 (o209_0 P))) (n2 (o113_0 P) (n0 (o177_0 P)) (n0 (o241_0 P))))) (n2 (o25_0 P) (n2 (o41_0 P) (n2 (o73_0 P) (n1 (o137_0 P) (n0 (o265_0 P))) (n0 (o201_0 P))) (n2 (o105_0 P) (n0 (o169_0 P)) (n0 (o233_0 P)))) (n2 (o57_0 P) (n2 (o89_0 P) (n0 (o153_0 P)) (n0 (o217_0 P))) (n2 (o121_0 P) (n0 (o185_0 P)) (n0 (o249_0 P)))))) (n2 (o13_0 P) (n2 (o21_0 P) (n2 (o37_0 P) (n2 (o69_0 P) (n1 (o133_0 P) (n0 (o261_0 P))) (n0 (o197_0 P))) (n2 (o101_0 P) (n0 (o165_0 P)) (n0 (o229_0 P)))) (n2 (o53_0 P) (n2 (o85_0 P) (n1 (o149_0 P) (n0 (o277_0 P))) (n0 (o213_0 P))) (n2 (o117_0 P) (n0 (o181_0 P)) (n0 (o245_0 P))))) (n2 (o29_0 P) (n2 (o45_0 P) (n2 (o77_0 P) (n1 (o141_0 P) (n0 (o269_0 P))) (n0 (o205_0 P))) (n2 (o109_0 P) (n0 (o173_0 P)) (n0 (o237_0 P)))) (n2 (o61_0 P) (n2 (o93_0 P) (n0 (o157_0 P)) (n0 (o221_0 P))) (n2 (o125_0 P) (n0 (o189_0 P)) (n0 (o253_0 P)))))))) (n2 (o2_1 P) (n2 (o4_0 P) (n2 (o8_0 P) (n2 (o16_0 P) (n2 (o32_0 P) (n2 (o64_0 P) (n1 (o128_0 P) (n0 (o256_0 P))) (n0 (o192_0 P))) (n2 (o96_0 P) (n0 (o160_0 P)) (n0 (o224_0 P)))) (n2 (o48_0 P) (n2 (o80_0 P) (n1 (o144_0 P) (n0 (o272_0 P))) (n0 (o208_0 P))) (n2 (o112_0 P) (n0 (o176_0 P)) (n0 (o240_0 P))))) (n2 (o24_0 P) (n2 (o40_3 P) (n2 (o72_0 P) (n1 (o136_0 P) (n0 (o264_0 P))) (n0 (o200_0 P))) (n2 (o104_0 P) (n0 (o168_0 P)) (n0 (o232_0 P)))) (n2 (o56_0 P) (n2 (o88_0 P) (n0 (o152_0 P)) (n0 (o216_0 P))) (n2 (o120_0 P) (n0 (o184_0 P)) (n0 (o248_0 P)))))) (n2 (o12_0 P) (n2 (o20_0 P) (n2 (o36_0 P) (n2 (o68_0 P) (n1 (o132_0 P) (n0 (o260_0 P))) (n0 (o196_0 P))) (n2 (o100_0 P) (n0 (o164_0 P)) (n0 (o228_0 P)))) (n2 (o52_0 P) (n2 (o84_0 P) (n1 (o148_0 P) (n0 (o276_0 P))) (n0 (o212_0 P))) (n2 (o116_0 P) (n0 (o180_0 P)) (n0 (o244_0 P))))) (n2 (o28_0 P) (n2 (o44_0 P) (n2 (o76_0 P) (n1 (o140_0 P) (n0 (o268_0 P))) (n0 (o204_0 P))) (n2 (o108_0 P) (n0 (o172_0 P)) (n0 (o236_0 P)))) (n2 (o60_0 P) (n2 (o92_0 P) (n0 (o156_0 P)) (n0 (o220_0 P))) (n2 (o124_0 P) (n0 (o188_0 P)) (n0 (o252_0 P))))))) (n2 (o6_0 P) (n2 (o10_0 P) (n2 (o18_0 P) (n2 (o34_0 P) (n2 (o66_0 P) (n1 (o130_0 P) (n0 (o258_0 P))) (n0 (o194_0 P))) (n2 (o98_0 P) (n0 (o162_0 P)) (n0 (o226_0 P)))) (n2 (o50_0 P) (n2 (o82_0 P) (n1 (o146_0 P) (n0 (o274_0 P))) (n0 (o210_0 P))) (n2 (o114_0 P) (n0 (o178_0 P)) (n0 (o242_0 P))))) (n2 (o26_0 P) (n2 (o42_0 P) (n2 (o74_0 P) (n1 (o138_0 P) (n0 (o266_0 P))) (n0 (o202_0 P))) (n2 (o106_0 P) (n0 (o170_0 P)) (n0 (o234_0 P)))) (n2 (o58_0 P) (n2 (o90_0 P) (n0 (o154_0 P)) (n0 (o218_0 P))) (n2 (o122_0 P) (n0 (o186_0 P)) (n0 (o250_0 P)))))) (n2 (o14_0 P) (n2 (o22_0 P) (n2 (o38_0 P) (n2 (o70_0 P) (n1 (o134_0 P) (n0 (o262_0 P))) (n0 (o198_0 P))) (n2 (o102_0 P) (n0 (o166_0 P)) (n0 (o230_0 P)))) (n2 (o54_0 P) (n2 (o86_0 P) (n0 (o150_0 P)) (n0 (o214_0 P))) (n2 (o118_0 P) (n0 (o182_0 P)) (n0 (o246_0 P))))) (n2 (o30_0 P) (n2 (o46_0 P) (n2 (o78_0 P) (n1 (o142_0 P) (n0 (o270_0 P))) (n0 (o206_0 P))) (n2 (o110_0 P) (n0 (o174_0 P)) (n0 (o238_0 P)))) (n2 (o62_0 P) (n2 (o94_0 P) (n0 (o158_0 P)) (n0 (o222_0 P))) (n2 (o126_0 P) (n0 (o190_0 P)) (n0 (o254_0 P)))))))))
abbrev S17 (w : World) (os : OsState) : SharedT := ⟨T17 w.params, 278, life0, #[], ⟨0, 0, 0, 0⟩, 695, os⟩
def T26 (P : Params) : PySem.W.BT := (n2 (o0_0 P) (n2 (o1_0 P) (n2 (o3_4 P) (n2 (o7_0 P) (n2 (o15_0 P) (n2 (o31_0 P) (n2 (o63_0 P) (n2 (o127_0 P) (n1 (o255_0 P) (n0 (o511_0 P))) (n0 (o383_0 P))) (n2 (o191_0 P) (n0 (o319_0 P)) (n0 (o447_0 P)))) (n2 (o95_0 P) (n2 (o159_0 P) (n0 (o287_0 P)) (n0 (o415_0 P))) (n2 (o223_0 P) (n0 (o351_0 P)) (n0 (o479_0 P))))) (n2 (o47_0 P) (n2 (o79_0 P) (n2 (o143_0 P) (n0 (o271_0 P)) (n0 (o399_0 P))) (n2 (o207_0 P) (n0 (o335_0 P)) (n0 (o463_0 P)))) (n2 (o111_0 P) (n2 (o175_0 P) (n0 (o303_0 P)) (n0 (o431_0 P))) (n2 (o239_0 P) (n0 (o367_0 P)) (n0 (o495_0 P)))))) (n2 (o23_0 P) (n2 (o39_0 P) (n2 (o71_0 P) (n2 (o135_0 P) (n1 (o263_0 P) (n0 (o519_0 P))) (n0 (o391_0 P))) (n2 (o199_0 P) (n0 (o327_0 P)) (n0 (o455_0 P)))) (n2 (o103_0 P) (n2 (o167_0 P) (n0 (o295_0 P)) (n0 (o423_0 P))) (n2 (o231_0 P) (n0 (o359_0 P)) (n0 (o487_0 P))))) (n2 (o55_0 P) (n2 (o87_0 P) (n2 (o151_0 P) (n0 (o279_0 P)) (n0 (o407_0 P))) (n2 (o215_0 P) (n0 (o343_0 P)) (n0 (o471_0 P)))) (n2 (o119_0 P) (n2 (o183_0 P) (n0 (o311_0 P)) (n0 (o439_0 P))) (n2 (o247_0 P) (n0 (o375_0 P)) (n0 (o503_0 P))))))) (n2 (o11_0 P) (n2 (o19_0 P) (n2 (o35_0 P) (n2 (o67_0 P) (n2 (o131_0 P) (n1 (o259_0 P) (n0 (o515_0 P))) (n0 (o387_0 P))) (n2 (o195_0 P) (n0 (o323_0 P)) (n0 (o451_0 P)))) (n2 (o99_0 P) (n2 (o163_0 P) (n0 (o291_0 P)) (n0 (o419_0 P))) (n2 (o227_0 P) (n0 (o355_0 P)) (n0 (o483_0 P))))) (n2 (o51_0 P) (n2 (o83_0 P) (n2 (o147_0 P) (n0 (o275_0 P)) (n0 (o403_0 P))) (n2 (o211_0 P) (n0 (o339_0 P)) (n0 (o467_0 P)))) (n2 (o115_0 P) (n2 (o179_0 P) (n0 (o307_0 P)) (n0 (o435_0 P))) (n2 (o243_0 P) (n0 (o371_0 P)) (n0 (o499_0 P)))))) (n2 (o27_0 P) (n2 (o43_0 P) (n2 (o75_0 P) (n2 (o139_0 P) (n0 (o267_0 P)) (n0 (o395_0 P))) (n2 (o203_0 P) (n0 (o331_0 P)) (n0 (o459_0 P)))) (n2 (o107_0 P) (n2 (o171_0 P) (n0 (o299_0 P)) (n0 (o427_0 P))) (n2 (o235_0 P) (n0 (o363_0 P)) (n0 (o491_0 P))))) (n2 (o59_1 P) (n2 (o91_0 P) (n2 (o155_0 P) (n0 (o283_0 P)) (n0 (o411_0 P))) (n2 (o219_0 P) (n0 (o347_0 P)) (n0 (o475_0 P)))) (n2 (o123_0 P) (n2 (o187_0 P) (n0 (o315_0 P)) (n0 (o443_0 P))) (n2 (o251_0 P) (n0 (o379_0 P)) (n0 (o507_0 P)))))))) (n2 (o5_0 P) (n2 (o9_0 P) (n2 (o17_0 P) (n2 (o33_0 P) (n2 (o65_0 P) (n2 (o129_0 P) (n1 (o257_0 P) (n0 (o513_0 P))) (n0 (o385_0 P))) (n2 (o193_0 P) (n0 (o321_0 P)) (n0 (o449_0 P)))) (n2 (o97_0 P) (n2 (o161_0 P) (n0 (o289_0 P)) (n0 (o417_0 P))) (n2 (o225_0 P) (n0 (o353_0 P)) (n0 (o481_0 P))))) (n2 (o49_0 P) (n2 (o81_0 P) (n2 (o145_0 P) (n0 (o273_0 P)) (n0 (o401_0 P))) (n2 (o209_0 P) (n0 (o337_0 P)) (n0 (o465_0 P)))) (n2 (o113_0 P) (n2 (o177_0 P) (n0 (o305_0 P)) (n0 (o433_0 P))) (n2 (o241_0 P) (n0 (o369_0 P)) (n0 (o497_0 P)))))) (n2 (o25_0 P) (n2 (o41_0 P) (n2 (o73_0 P) (n2 (o137_0 P) (n0 (o265_0 P)) (n0 (o393_0 P))) (n2 (o201_0 P) (n0 (o329_0 P)) (n0 (o457_0 P)))) (n2 (o105_0 P) (n2 (o169_0 P) (n0 (o297_0 P)) (n0 (o425_0 P))) (n2 (o233_0 P) (n0 (o361_0 P)) (n0 (o489_0 P))))) (n2 (o57_0 P) (n2 (o89_0 P) (n2 (o153_0 P) (n0 (o281_0 P)) (n0 (o409_0 P))) (n2 (o217_0 P) (n0 (o345_0 P)) (n0 (o473_0 P)))) (n2 (o121_0 P) (n2 (o185_0 P) (n0 (o313_0 P)) (n0 (o441_0 P))) (n2 (o249_0 P) (n0 (o377_0 P)) (n0 (o505_0 P))))))) (n2 (o13_0 P) (n2 (o21_0 P) (n2 (o37_0 P) (n2 (o69_0 P) (n2 (o133_0 P) (n1 (o261_0 P) (n0 (o517_0 P))) (n0 (o389_0 P))) (n2 (o197_0 P) (n0 (o325_0 P)) (n0 (o453_0 P)))) (n2 (o101_0 P) (n2 (o165_0 P) (n0 (o293_0 P)) (n0 (o421_0 P))) (n2 (o229_0 P) (n0 (o357_0 P)) (n0 (o485_0 P))))) (n2 (o53_0 P) (n2 (o85_0 P) (n2 (o149_0 P) (n0 (o277_0 P)) (n0 (o405_0 P))) (n2 (o213_0 P) (n0 (o341_0 P)) (n0 (o469_0 P)))) (n2 (o117_0 P) (n2 (o181_0 P) (n0 (o309_0 P)) (n0 (o437_0 P))) (n2 (o245_0 P) (n0 (o373_0 P)) (n0 (o501_0 P)))))) (n2 (o29_0 P) (n2 (o45_0 P) (n2 (o77_0 P) (n2 (o141_0 P) (n0 (o269_0 P)) (n0 (o397_0 P))) (n2 (o205_0 P) (n0 (o333_0 P)) (n0 (o461_0 P)))) (n2 (o109_0 P) (n2 (o173_0 P) (n0 (o301_0 P)) (n0 (o429_0 P))) (n2 (o237_0 P) (n0 (o365_0 P)) (n0 (o493_0 P))))) (n2 (o61_0 P) (n2 (o93_0 P) (n2 (o157_0 P) (n0 (o285_0 P)) (n0 (o413_0 P))) (n2 (o221_0 P) (n0 (o349_0 P)) (n0 (o477_0 P)))) (n2 (o125_0 P) (n2 (o189_0 P) (n0 (o317_0 P)) (n0 (o445_0 P))) (n2 (o253_0 P) (n0 (o381_0 P)) (n0 (o509_0 P))))))))) (n2 (o2_1 P) (n2 (o4_0 P) (n2 (o8_0 P) (n2 (o16_0 P) (n2 (o32_0 P) (n2 (o64_0 P) (n2 (o128_0 P) (n1 (o256_0 P) (n0 (o512_0 P))) (n0 (o384_0 P))) (n2 (o192_0 P) (n0 (o320_0 P)) (n0 (o448_0 P)))) (n2 (o96_0 P) (n2 (o160_0 P) (n0 (o288_0 P)) (n0 (o416_0 P))) (n2 (o224_0 P) (n0 (o352_0 P)) (n0 (o480_0 P))))) (n2 (o48_0 P) (n2 (o80_0 P) (n2 (o144_0 P) (n0 (o272_0 P)) (n0 (o400_0 P))) (n2 (o208_0 P) (n0 (o336_0 P)) (n0 (o464_0 P)))) (n2 (o112_0 P) (n2 (o176_0 P) (n0 (o304_0 P)) (n0 (o432_0 P))) (n2 (o240_0 P) (n0 (o368_0 P)) (n0 (o496_0 P)))))) (n2 (o24_0 P) (n2 (o40_4 P) (n2 (o72_0 P) (n2 (o136_0 P) (n1 (o264_0 P) (n0 (o520_0 P))) (n0 (o392_0 P))) (n2 (o200_0 P) (n0 (o328_0 P)) (n0 (o456_0 P)))) (n2 (o104_0 P) (n2 (o168_0 P) (n0 (o296_0 P)) (n0 (o424_0 P))) (n2 (o232_0 P) (n0 (o360_0 P)) (n0 (o488_0 P))))) (n2 (o56_0 P) (n2 (o88_0 P) (n2 (o152_0 P) (n0 (o280_0 P)) (n0 (o408_0 P))) (n2 (o216_0 P) (n0 (o344_0 P)) (n0 (o472_0 P)))) (n2 (o120_0 P) (n2 (o184_0 P) (n0 (o312_0 P)) (n0 (o440_0 P))) (n2 (o248_0 P) (n0 (o376_0 P)) (n0 (o504_0 P))))))) (n2 (o12_0 P) (n2 (o20_0 P) (n2 (o36_0 P) (n2 (o68_0 P) (n2 (o132_0 P) (n1 (o260_0 P) (n0 (o516_0 P))) (n0 (o388_0 P))) (n2 (o196_0 P) (n0 (o324_0 P)) (n0 (o452_0 P)))) (n2 (o100_0 P) (n2 (o164_0 P) (n0 (o292_0 P)) (n0 (o420_0 P))) (n2 (o228_0 P) (n0 (o356_0 P)) (n0 (o484_0 P))))) (n2 (o52_0 P) (n2 (o84_0 P) (n2 (o148_0 P) (n0 (o276_0 P)) (n0 (o404_0 P))) (n2 (o212_0 P) (n0 (o340_0 P)) (n0 (o468_0 P)))) (n2 (o116_0 P) (n2 (o180_0 P) (n0 (o308_0 P)) (n0 (o436_0 P))) (n2 (o244_0 P) (n0 (o372_0 P)) (n0 (o500_0 P)))))) (n2 (o28_0 P) (n2 (o44_0 P) (n2 (o76_0 P) (n2 (o140_0 P) (n0 (o268_0 P)) (n0 (o396_0 P))) (n2 (o204_0 P) (n0 (o332_0 P)) (n0 (o460_0 P)))) (n2 (o108_0 P) (n2 (o172_0 P) (n0 (o300_0 P)) (n0 (o428_0 P))) (n2 (o236_0 P) (n0 (o364_0 P)) (n0 (o492_0 P))))) (n2 (o60_0 P) (n2 (o92_0 P) (n2 (o156_0 P) (n0 (o284_0 P)) (n0 (o412_0 P))) (n2 (o220_0 P) (n0 (o348_0 P)) (n0 (o476_0 P)))) (n2 (o124_0 P) (n2 (o188_0 P) (n0 (o316_0 P)) (n0 (o444_0 P))) (n2 (o252_0 P) (n0 (o380_0 P)) (n0 (o508_0 P)))))))) (n2 (o6_0 P) (n2 (o10_0 P) (n2 (o18_0 P) (n2 (o34_0 P) (n2 (o66_0 P) (n2 (o130_0 P) (n1 (o258_0 P) (n0 (o514_0 P))) (n0 (o386_0 P))) (n2 (o194_0 P) (n0 (o322_0 P)) (n0 (o450_0 P)))) (n2 (o98_0 P) (n2 (o162_0 P) (n0 (o290_0 P)) (n0 (o418_0 P))) (n2 (o226_0 P) (n0 (o354_0 P)) (n0 (o482_0 P))))) (n2 (o50_0 P) (n2 (o82_0 P) (n2 (o146_0 P) (n0 (o274_0 P)) (n0 (o402_0 P))) (n2 (o210_0 P) (n0 (o338_0 P)) (n0 (o466_0 P)))) (n2 (o114_0 P) (n2 (o178_0 P) (n0 (o306_0 P)) (n0 (o434_0 P))) (n2 (o242_0 P) (n0 (o370_0 P)) (n0 (o498_0 P)))))) (n2 (o26_0 P) (n2 (o42_0 P) (n2 (o74_0 P) (n2 (o138_0 P) (n0 (o266_0 P)) (n0 (o394_0 P))) (n2 (o202_0 P) (n0 (o330_0 P)) (n0 (o458_0 P)))) (n2 (o106_0 P) (n2 (o170_0 P) (n0 (o298_0 P)) (n0 (o426_0 P))) (n2 (o234_0 P) (n0 (o362_0 P)) (n0 (o490_0 P))))) (n2 (o58_0 P) (n2 (o90_0 P) (n2 (o154_0 P) (n0 (o282_0 P)) (n0 (o410_0 P))) (n2 (o218_0 P) (n0 (o346_0 P)) (n0 (o474_0 P)))) (n2 (o122_0 P) (n2 (o186_0 P) (n0 (o314_0 P)) (n0 (o442_0 P))) (n2 (o250_0 P) (n0 (o378_0 P)) (n0 (o506_0 P))))))) (n2 (o14_0 P) (n2 (o22_0 P) (n2 (o38_0 P) (n2 (o70_0 P) (n2 (o134_0 P) (n1 (o262_0 P) (n0 (o518_0 P))) (n0 (o390_0 P))) (n2 (o198_0 P) (n0 (o326_0 P)) (n0 (o454_0 P)))) (n2 (o102_0 P) (n2 (o166_0 P) (n0 (o294_0 P)) (n0 (o422_0 P))) (n2 (o230_0 P) (n0 (o358_0 P)) (n0 (o486_0 P))))) (n2 (o54_0 P) (n2 (o86_0 P) (n2 (o150_0 P) (n0 (o278_0 P)) (n0 (o406_0 P))) (n2 (o214_0 P) (n0 (o342_0 P)) (n0 (o470_0 P)))) (n2 (o118_0 P) (n2 (o182_0 P) (n0 (o310_0 P)) (n0 (o438_0 P))) (n2 (o246_0 P) (n0 (o374_0 P)) (n0 (o502_0 P)))))) (n2 (o30_0 P) (n2 (o46_0 P) (n2 (o78_0 P) (n2 (o142_0 P) (n0 (o270_0 P)) (n0 (o398_0 P))) (n2 (o206_0 P) (n0 (o334_0 P)) (n0 (o462_0 P)))) (n2 (o110_0 P) (n2 (o174_0 P) (n0 (o302_0 P)) (n0 (o430_0 P))) (n2 (o238_0 P) (n0 (o366_0 P)) (n0 (o494_0 P))))) (n2 (o62_0 P) (n2 (o94_0 P) (n2 (o158_0 P) (n0 (o286_0 P)) (n0 (o414_0 P))) (n2 (o222_0 P) (n0 (o350_0 P)) (n0 (o478_0 P)))) (n2 (o126_0 P) (n2 (o190_0 P) (n0 (o318_0 P)) (n0 (o446_0 P))) (n2 (o254_0 P) (n0 (o382_0 P)) (n0 (o510_0 P))))))))))
abbrev S26 (w : World) (os : OsState) : SharedT := ⟨T26 w.params, 521, life0, #[], ⟨0, 0, 0, 0⟩, 1006, os⟩
def Tf (P : Params) : PySem.W.BT := (n2 (o0_0 P) (n2 (o1_0 P) (n2 (o3_5 P) (n2 (o7_0 P) (n2 (o15_0 P) (n2 (o31_0 P) (n2 (o63_0 P) (n2 (o127_0 P) (n1 (o255_0 P) (n0 (o511_0 P))) (n0 (o383_0 P))) (n2 (o191_0 P) (n0 (o319_0 P)) (n0 (o447_0 P)))) (n2 (o95_0 P) (n2 (o159_0 P) (n1 (o287_0 P) (n0 (o543_0 P))) (n0 (o415_0 P))) (n2 (o223_0 P) (n0 (o351_0 P)) (n0 (o479_0 P))))) (n2 (o47_0 P) (n2 (o79_0 P) (n2 (o143_0 P) (n1 (o271_0 P) (n0 (o527_0 P))) (n0 (o399_0 P))) (n2 (o207_0 P) (n0 (o335_0 P)) (n0 (o463_0 P)))) (n2 (o111_0 P) (n2 (o175_0 P) (n0 (o303_0 P)) (n0 (o431_0 P))) (n2 (o239_0 P) (n0 (o367_0 P)) (n0 (o495_0 P)))))) (n2 (o23_0 P) (n2 (o39_0 P) (n2 (o71_0 P) (n2 (o135_0 P) (n1 (o263_0 P) (n0 (o519_0 P))) (n0 (o391_0 P))) (n2 (o199_0 P) (n0 (o327_0 P)) (n0 (o455_0 P)))) (n2 (o103_0 P) (n2 (o167_0 P) (n1 (o295_0 P) (n0 (o551_0 P))) (n0 (o423_0 P))) (n2 (o231_0 P) (n0 (o359_0 P)) (n0 (o487_0 P))))) (n2 (o55_0 P) (n2 (o87_0 P) (n2 (o151_0 P) (n1 (o279_0 P) (n0 (o535_0 P))) (n0 (o407_0 P))) (n2 (o215_0 P) (n0 (o343_0 P)) (n0 (o471_0 P)))) (n2 (o119_0 P) (n2 (o183_0 P) (n0 (o311_0 P)) (n0 (o439_0 P))) (n2 (o247_0 P) (n0 (o375_0 P)) (n0 (o503_0 P))))))) (n2 (o11_0 P) (n2 (o19_0 P) (n2 (o35_0 P) (n2 (o67_0 P) (n2 (o131_0 P) (n1 (o259_0 P) (n0 (o515_0 P))) (n0 (o387_0 P))) (n2 (o195_0 P) (n0 (o323_0 P)) (n0 (o451_0 P)))) (n2 (o99_0 P) (n2 (o163_0 P) (n1 (o291_0 P) (n0 (o547_0 P))) (n0 (o419_0 P))) (n2 (o227_0 P) (n0 (o355_0 P)) (n0 (o483_0 P))))) (n2 (o51_0 P) (n2 (o83_0 P) (n2 (o147_0 P) (n1 (o275_0 P) (n0 (o531_0 P))) (n0 (o403_0 P))) (n2 (o211_0 P) (n0 (o339_0 P)) (n0 (o467_0 P)))) (n2 (o115_0 P) (n2 (o179_0 P) (n0 (o307_0 P)) (n0 (o435_0 P))) (n2 (o243_0 P) (n0 (o371_0 P)) (n0 (o499_0 P)))))) (n2 (o27_0 P) (n2 (o43_0 P) (n2 (o75_0 P) (n2 (o139_0 P) (n1 (o267_0 P) (n0 (o523_0 P))) (n0 (o395_0 P))) (n2 (o203_0 P) (n0 (o331_0 P)) (n0 (o459_0 P)))) (n2 (o107_0 P) (n2 (o171_0 P) (n0 (o299_0 P)) (n0 (o427_0 P))) (n2 (o235_0 P) (n0 (o363_0 P)) (n0 (o491_0 P))))) (n2 (o59_1 P) (n2 (o91_0 P) (n2 (o155_0 P) (n1 (o283_0 P) (n0 (o539_0 P))) (n0 (o411_0 P))) (n2 (o219_0 P) (n0 (o347_0 P)) (n0 (o475_0 P)))) (n2 (o123_0 P) (n2 (o187_0 P) (n0 (o315_0 P)) (n0 (o443_0 P))) (n2 (o251_0 P) (n0 (o379_0 P)) (n0 (o507_0 P)))))))) (n2 (o5_0 P) (n2 (o9_0 P) (n2 (o17_0 P) (n2 (o33_0 P) (n2 (o65_0 P) (n2 (o129_0 P) (n1 (o257_0 P) (n0 (o513_0 P))) (n0 (o385_0 P))) (n2 (o193_0 P) (n0 (o321_0 P)) (n0 (o449_0 P)))) (n2 (o97_0 P) (n2 (o161_0 P) (n1 (o289_0 P) (n0 (o545_0 P))) (n0 (o417_0 P))) (n2 (o225_0 P) (n0 (o353_0 P)) (n0 (o481_0 P))))) (n2 (o49_0 P) (n2 (o81_0 P) (n2 (o145_0 P) (n1 (o273_0 P) (n0 (o529_0 P))) (n0 (o401_0 P))) (n2 (o209_0 P) (n0 (o337_0 P)) (n0 (o465_0 P)))) (n2 (o113_0 P) (n2 (o177_0 P) (n0 (o305_0 P)) (n0 (o433_0 P))) (n2 (o241_0 P) (n0 (o369_0 P)) (n0 (o497_0 P)))))) (n2 (o25_0 P) (n2 (o41_0 P) (n2 (o73_0 P) (n2 (o137_0 P) (n1 (o265_0 P) (n0 (o521_0 P))) (n0 (o393_0 P))) (n2 (o201_0 P) (n0 (o329_0 P)) (n0 (o457_0 P)))) (n2 (o105_0 P) (n2 (o169_0 P) (n1 (o297_0 P) (n0 (o553_0 P))) (n0 (o425_0 P))) (n2 (o233_0 P) (n0 (o361_0 P)) (n0 (o489_0 P))))) (n2 (o57_0 P) (n2 (o89_0 P) (n2 (o153_0 P) (n1 (o281_0 P) (n0 (o537_0 P))) (n0 (o409_0 P))) (n2 (o217_0 P) (n0 (o345_0 P)) (n0 (o473_0 P)))) (n2 (o121_0 P) (n2 (o185_0 P) (n0 (o313_0 P)) (n0 (o441_0 P))) (n2 (o249_0 P) (n0 (o377_0 P)) (n0 (o505_0 P))))))) (n2 (o13_0 P) (n2 (o21_0 P) (n2 (o37_0 P) (n2 (o69_0 P) (n2 (o133_0 P) (n1 (o261_0 P) (n0 (o517_0 P))) (n0 (o389_0 P))) (n2 (o197_0 P) (n0 (o325_0 P)) (n0 (o453_0 P)))) (n2 (o101_0 P) (n2 (o165_0 P) (n1 (o293_0 P) (n0 (o549_0 P))) (n0 (o421_0 P))) (n2 (o229_0 P) (n0 (o357_0 P)) (n0 (o485_0 P))))) (n2 (o53_0 P) (n2 (o85_0 P) (n2 (o149_0 P) (n1 (o277_0 P) (n0 (o533_0 P))) (n0 (o405_0 P))) (n2 (o213_0 P) (n0 (o341_0 P)) (n0 (o469_0 P)))) (n2 (o117_0 P) (n2 (o181_0 P) (n0 (o309_0 P)) (n0 (o437_0 P))) (n2 (o245_0 P) (n0 (o373_0 P)) (n0 (o501_0 P)))))) (n2 (o29_0 P) (n2 (o45_0 P) (n2 (o77_0 P) (n2 (o141_0 P) (n1 (o269_0 P) (n0 (o525_0 P))) (n0 (o397_0 P))) (n2 (o205_0 P) (n0 (o333_0 P)) (n0 (o461_0 P)))) (n2 (o109_0 P) (n2 (o173_0 P) (n0 (o301_0 P)) (n0 (o429_0 P))) (n2 (o237_0 P) (n0 (o365_0 P)) (n0 (o493_0 P))))) (n2 (o61_0 P) (n2 (o93_0 P) (n2 (o157_0 P) (n1 (o285_0 P) (n0 (o541_0 P))) (n0 (o413_0 P))) (n2 (o221_0 P) (n0 (o349_0 P)) (n0 (o477_0 P)))) (n2 (o125_0 P) (n2 (o189_0 P) (n0 (o317_0 P)) (n0 (o445_0 P))) (n2 (o253_0 P) (n0 (o381_0 P)) (n0 (o509_0 P))))))))) (n2 (o2_1 P) (n2 (o4_0 P) (n2 (o8_0 P) (n2 (o16_0 P) (n2 (o32_0 P) (n2 (o64_0 P) (n2 (o128_0 P) (n1 (o256_0 P) (n0 (o512_0 P))) (n0 (o384_0 P))) (n2 (o192_0 P) (n0 (o320_0 P)) (n0 (o448_0 P)))) (n2 (o96_0 P) (n2 (o160_0 P) (n1 (o288_0 P) (n0 (o544_0 P))) (n0 (o416_0 P))) (n2 (o224_0 P) (n0 (o352_0 P)) (n0 (o480_0 P))))) (n2 (o48_0 P) (n2 (o80_0 P) (n2 (o144_0 P) (n1 (o272_0 P) (n0 (o528_0 P))) (n0 (o400_0 P))) (n2 (o208_0 P) (n0 (o336_0 P)) (n0 (o464_0 P)))) (n2 (o112_0 P) (n2 (o176_0 P) (n0 (o304_0 P)) (n0 (o432_0 P))) (n2 (o240_0 P) (n0 (o368_0 P)) (n0 (o496_0 P)))))) (n2 (o24_0 P) (n2 (o40_5 P) (n2 (o72_0 P) (n2 (o136_0 P) (n1 (o264_0 P) (n0 (o520_0 P))) (n0 (o392_0 P))) (n2 (o200_0 P) (n0 (o328_0 P)) (n0 (o456_0 P)))) (n2 (o104_0 P) (n2 (o168_0 P) (n1 (o296_0 P) (n0 (o552_0 P))) (n0 (o424_0 P))) (n2 (o232_0 P) (n0 (o360_0 P)) (n0 (o488_0 P))))) (n2 (o56_0 P) (n2 (o88_0 P) (n2 (o152_0 P) (n1 (o280_0 P) (n0 (o536_0 P))) (n0 (o408_0 P))) (n2 (o216_0 P) (n0 (o344_0 P)) (n0 (o472_0 P)))) (n2 (o120_0 P) (n2 (o184_0 P) (n0 (o312_0 P)) (n0 (o440_0 P))) (n2 (o248_0 P) (n0 (o376_0 P)) (n0 (o504_0 P))))))) (n2 (o12_0 P) (n2 (o20_0 P) (n2 (o36_0 P) (n2 (o68_0 P) (n2 (o132_0 P) (n1 (o260_0 P) (n0 (o516_0 P))) (n0 (o388_0 P))) (n2 (o196_0 P) (n0 (o324_0 P)) (n0 (o452_0 P)))) (n2 (o100_0 P) (n2 (o164_0 P) (n1 (o292_0 P) (n0 (o548_0 P))) (n0 (o420_0 P))) (n2 (o228_0 P) (n0 (o356_0 P)) (n0 (o484_0 P))))) (n2 (o52_0 P) (n2 (o84_0 P) (n2 (o148_0 P) (n1 (o276_0 P) (n0 (o532_0 P))) (n0 (o404_0 P))) (n2 (o212_0 P) (n0 (o340_0 P)) (n0 (o468_0 P)))) (n2 (o116_0 P) (n2 (o180_0 P) (n0 (o308_0 P)) (n0 (o436_0 P))) (n2 (o244_0 P) (n0 (o372_0 P)) (n0 (o500_0 P)))))) (n2 (o28_0 P) (n2 (o44_0 P) (n2 (o76_0 P) (n2 (o140_0 P) (n1 (o268_0 P) (n0 (o524_0 P))) (n0 (o396_0 P))) (n2 (o204_0 P) (n0 (o332_0 P)) (n0 (o460_0 P)))) (n2 (o108_0 P) (n2 (o172_0 P) (n0 (o300_0 P)) (n0 (o428_0 P))) (n2 (o236_0 P) (n0 (o364_0 P)) (n0 (o492_0 P))))) (n2 (o60_0 P) (n2 (o92_0 P) (n2 (o156_0 P) (n1 (o284_0 P) (n0 (o540_0 P))) (n0 (o412_0 P))) (n2 (o220_0 P) (n0 (o348_0 P)) (n0 (o476_0 P)))) (n2 (o124_0 P) (n2 (o188_0 P) (n0 (o316_0 P)) (n0 (o444_0 P))) (n2 (o252_0 P) (n0 (o380_0 P)) (n0 (o508_0 P)))))))) (n2 (o6_0 P) (n2 (o10_0 P) (n2 (o18_0 P) (n2 (o34_0 P) (n2 (o66_0 P) (n2 (o130_0 P) (n1 (o258_0 P) (n0 (o514_0 P))) (n0 (o386_0 P))) (n2 (o194_0 P) (n0 (o322_0 P)) (n0 (o450_0 P)))) (n2 (o98_0 P) (n2 (o162_0 P) (n1 (o290_0 P) (n0 (o546_0 P))) (n0 (o418_0 P))) (n2 (o226_0 P) (n0 (o354_0 P)) (n0 (o482_0 P))))) (n2 (o50_0 P) (n2 (o82_0 P) (n2 (o146_0 P) (n1 (o274_0 P) (n0 (o530_0 P))) (n0 (o402_0 P))) (n2 (o210_0 P) (n0 (o338_0 P)) (n0 (o466_0 P)))) (n2 (o114_0 P) (n2 (o178_0 P) (n0 (o306_0 P)) (n0 (o434_0 P))) (n2 (o242_0 P) (n0 (o370_0 P)) (n0 (o498_0 P)))))) (n2 (o26_0 P) (n2 (o42_0 P) (n2 (o74_0 P) (n2 (o138_0 P) (n1 (o266_0 P) (n0 (o522_0 P))) (n0 (o394_0 P))) (n2 (o202_0 P) (n0 (o330_0 P)) (n0 (o458_0 P)))) (n2 (o106_0 P) (n2 (o170_0 P) (n0 (o298_0 P)) (n0 (o426_0 P))) (n2 (o234_0 P) (n0 (o362_0 P)) (n0 (o490_0 P))))) (n2 (o58_0 P) (n2 (o90_0 P) (n2 (o154_0 P) (n1 (o282_0 P) (n0 (o538_0 P))) (n0 (o410_0 P))) (n2 (o218_0 P) (n0 (o346_0 P)) (n0 (o474_0 P)))) (n2 (o122_0 P) (n2 (o186_0 P) (n0 (o314_0 P)) (n0 (o442_0 P))) (n2 (o250_0 P) (n0 (o378_0 P)) (n0 (o506_0 P))))))) (n2 (o14_0 P) (n2 (o22_0 P) (n2 (o38_0 P) (n2 (o70_0 P) (n2 (o134_0 P) (n1 (o262_0 P) (n0 (o518_0 P))) (n0 (o390_0 P))) (n2 (o198_0 P) (n0 (o326_0 P)) (n0 (o454_0 P)))) (n2 (o102_0 P) (n2 (o166_0 P) (n1 (o294_0 P) (n0 (o550_0 P))) (n0 (o422_0 P))) (n2 (o230_0 P) (n0 (o358_0 P)) (n0 (o486_0 P))))) (n2 (o54_0 P) (n2 (o86_0 P) (n2 (o150_0 P) (n1 (o278_0 P) (n0 (o534_0 P))) (n0 (o406_0 P))) (n2 (o214_0 P) (n0 (o342_0 P)) (n0 (o470_0 P)))) (n2 (o118_0 P) (n2 (o182_0 P) (n0 (o310_0 P)) (n0 (o438_0 P))) (n2 (o246_0 P) (n0 (o374_0 P)) (n0 (o502_0 P)))))) (n2 (o30_0 P) (n2 (o46_0 P) (n2 (o78_0 P) (n2 (o142_0 P) (n1 (o270_0 P) (n0 (o526_0 P))) (n0 (o398_0 P))) (n2 (o206_0 P) (n0 (o334_0 P)) (n0 (o462_0 P)))) (n2 (o110_0 P) (n2 (o174_0 P) (n0 (o302_0 P)) (n0 (o430_0 P))) (n2 (o238_0 P) (n0 (o366_0 P)) (n0 (o494_0 P))))) (n2 (o62_0 P) (n2 (o94_0 P) (n2 (o158_0 P) (n1 (o286_0 P) (n0 (o542_0 P))) (n0 (o414_0 P))) (n2 (o222_0 P) (n0 (o350_0 P)) (n0 (o478_0 P)))) (n2 (o126_0 P) (n2 (o190_0 P) (n0 (o318_0 P)) (n0 (o446_0 P))) (n2 (o254_0 P) (n0 (o382_0 P)) (n0 (o510_0 P))))))))))
abbrev Sf (w : World) (os : OsState) : SharedT := ⟨Tf w.params, 554, life0, #[], ⟨0, 0, 0, 0⟩, 1075, os⟩
abbrev bE : List Stmt := behindTheImports pr
def env : Env := { scope := pr.main.scope, locals := mainNs, globals := mainNs, cells := [], code := (.ref 41), frame := some 42 }
abbrev cE : Code := .body bE env
/-! the pieces -/
theorem r0 (w : World) : (openF (stepQ (denQ tabQ) (opening pr) w) fenceQ 10580 pr).map (fun x => (x.tree, x.n, x.life, x.gens, x.drawn, x.toks)) = some (T0 w.params, 39, life0, #[], ⟨0, 0, 0, 0⟩, 370) := by kernel_rfl
theorem size1 (w : World) : (absHeap (T0 w.params) 39 life0).isNs mainGlobals = true := by kernel_rfl
theorem size2 (w : World) : (absHeap (T0 w.params) 39 life0).nsMap mainGlobals "__annotations__" = (some (.ref 6)) := by kernel_rfl
theorem size (w : World) : ((absHeap (T0 w.params) 39 life0).isNs mainGlobals && (#[] : Array GenState).size == 0, (absHeap (T0 w.params) 39 life0).objs.size, (absHeap (T0 w.params) 39 life0).nsMap mainGlobals "__annotations__") = (true, 39, (some (.ref 6))) := by rw [size1, size2, absHeap_size]; rfl
theorem ra (w : World) (os : OsState) : topF (stepQ (denQ tabQ) pr w) 39 (some (.ref 6)) 12 (S0 w os) (topStub pr) = some (Sa w os, ⟨denQ tabQ cE, cE, ⟨0, 0, 0, 0⟩, [topFrame ⟨0, 0, 0, 0⟩]⟩) := by kernel_rfl
theorem rb (w : World) (os : OsState) : segF (stepQ (denQ tabQ) pr w) 39 (some (.ref 6)) 1 (Sa w os) ⟨(startQ bE env).wrap (fun _ => doneF .next) deadEnd id id, cE, ⟨0, 0, 0, 0⟩, [topFrame ⟨0, 0, 0, 0⟩]⟩ = some (.next, Sb w os, cE, ⟨0, 0, 0, 0⟩) := by kernel_rfl
theorem r_8 (w : World) (os : OsState) : segF (stepQ (denQ tabQ) pr w) 39 (some (.ref 6)) 1418 (Sb w os) ⟨(execQ ((bE.drop 0).take 8) env).wrap doneF deadEnd id id, cE, ⟨0, 0, 0, 0⟩, [topFrame ⟨0, 0, 0, 0⟩]⟩ = some (.next, S8 w os, cE, ⟨24, 0, 25, 8⟩) := by kernel_rfl
theorem r_14 (w : World) (os : OsState) : segF (stepQ (denQ tabQ) pr w) 39 (some (.ref 6)) 1441 (S8 w os) ⟨(execQ ((bE.drop 8).take 6) env).wrap doneF deadEnd id id, cE, ⟨24, 0, 25, 8⟩, [topFrame ⟨0, 0, 0, 0⟩]⟩ = some (.next, S14 w os, cE, ⟨47, 0, 48, 8⟩) := by kernel_rfl
theorem r_17 (w : World) (os : OsState) : segF (stepQ (denQ tabQ) pr w) 39 (some (.ref 6)) 247 (S14 w os) ⟨(execQ ((bE.drop 14).take 3) env).wrap doneF deadEnd id id, cE, ⟨47, 0, 48, 8⟩, [topFrame ⟨0, 0, 0, 0⟩]⟩ = some (.next, S17 w os, cE, ⟨54, 0, 54, 11⟩) := by kernel_rfl
theorem r_26 (w : World) (os : OsState) : segF (stepQ (denQ tabQ) pr w) 39 (some (.ref 6)) 1598 (S17 w os) ⟨(execQ ((bE.drop 17).take 9) env).wrap doneF deadEnd id id, cE, ⟨54, 0, 54, 11⟩, [topFrame ⟨0, 0, 0, 0⟩]⟩ = some (.next, S26 w os, cE, ⟨214, 0, 221, 92⟩) := by kernel_rfl
theorem r_f (w : World) (os : OsState) : segF (stepQ (denQ tabQ) pr w) 39 (some (.ref 6)) 178 (S26 w os) ⟨(execQ ((bE.drop 26).take 5) env).wrap doneF deadEnd id id, cE, ⟨214, 0, 221, 92⟩, [topFrame ⟨0, 0, 0, 0⟩]⟩ = some (.next, Sf w os, cE, ⟨255, 0, 262, 15⟩) := by kernel_rfl
theorem re (w : World) (os : OsState) : goF (stepQ (denQ tabQ) pr w) 39 (some (.ref 6)) 2 (Sf w os) ⟨doneF .next, cE, ⟨255, 0, 262, 15⟩, [topFrame ⟨0, 0, 0, 0⟩]⟩ = some (Sf w os) := by kernel_rfl
theorem long : bE.length ≤ 31 := by decide +kernel
theorem run (w : World) (os : OsState) : topRun treeTable pr w 39 (some (.ref 6)) (12 + (1 + (1418 + (1441 + (247 + (1598 + (178 + 2))))))) (S0 w os).abs (topStub pr) = some (Sf w os).abs :=
  pre_go (ra w os) (blk_go (rb w os) (cut_start (cut_go (l := bE.drop 0) (m := 8) (r_8 w os) (cut_next 0 8 8 rfl (cut_go (l := bE.drop 8) (m := 6) (r_14 w os) (cut_next 8 6 14 rfl (cut_go (l := bE.drop 14) (m := 3) (r_17 w os) (cut_next 14 3 17 rfl (cut_go (l := bE.drop 17) (m := 9) (r_26 w os) (cut_next 17 9 26 rfl (cut_go (l := bE.drop 26) (m := 5) (r_f w os) (cut_end long 26 5 (end_go (re w os))))))))))))))
/-! the written part, the view, the looks -/
def Kf : Params → PySem.W.Frag := fun P => (nat_lit 2, o2_1 P) :: (nat_lit 3, o3_5 P) :: (nat_lit 43, o43_0 P) :: (nat_lit 45, o45_0 P) :: (nat_lit 46, o46_0 P) :: (nat_lit 48, o48_0 P) :: (nat_lit 49, o49_0 P) :: (nat_lit 50, o50_0 P) :: (nat_lit 57, o57_0 P) :: (nat_lit 58, o58_0 P) :: (nat_lit 59, o59_1 P) :: (nat_lit 60, o60_0 P) :: (nat_lit 63, o63_0 P) :: (nat_lit 70, o70_0 P) :: (nat_lit 72, o72_0 P) :: (nat_lit 73, o73_0 P) :: (nat_lit 75, o75_0 P) :: (nat_lit 76, o76_0 P) :: (nat_lit 77, o77_0 P) :: (nat_lit 78, o78_0 P) :: (nat_lit 79, o79_0 P) :: (nat_lit 82, o82_0 P) :: (nat_lit 89, o89_0 P) :: (nat_lit 91, o91_0 P) :: (nat_lit 92, o92_0 P) :: (nat_lit 94, o94_0 P) :: (nat_lit 95, o95_0 P) :: (nat_lit 96, o96_0 P) :: (nat_lit 97, o97_0 P) :: (nat_lit 98, o98_0 P) :: (nat_lit 101, o101_0 P) :: (nat_lit 108, o108_0 P) :: (nat_lit 110, o110_0 P) :: (nat_lit 111, o111_0 P) :: (nat_lit 113, o113_0 P) :: (nat_lit 114, o114_0 P) :: (nat_lit 115, o115_0 P) :: (nat_lit 116, o116_0 P) :: (nat_lit 117, o117_0 P) :: (nat_lit 120, o120_0 P) :: (nat_lit 127, o127_0 P) :: (nat_lit 129, o129_0 P) :: (nat_lit 130, o130_0 P) :: (nat_lit 132, o132_0 P) :: (nat_lit 133, o133_0 P) :: (nat_lit 134, o134_0 P) :: (nat_lit 135, o135_0 P) :: (nat_lit 136, o136_0 P) :: (nat_lit 139, o139_0 P) :: (nat_lit 146, o146_0 P) :: (nat_lit 147, o147_0 P) :: (nat_lit 148, o148_0 P) :: (nat_lit 151, o151_0 P) :: (nat_lit 158, o158_0 P) :: (nat_lit 160, o160_0 P) :: (nat_lit 161, o161_0 P) :: (nat_lit 163, o163_0 P) :: (nat_lit 164, o164_0 P) :: (nat_lit 165, o165_0 P) :: (nat_lit 166, o166_0 P) :: (nat_lit 167, o167_0 P) :: (nat_lit 170, o170_0 P) :: (nat_lit 177, o177_0 P) :: (nat_lit 179, o179_0 P) :: (nat_lit 180, o180_0 P) :: (nat_lit 182, o182_0 P) :: (nat_lit 183, o183_0 P) :: (nat_lit 184, o184_0 P) :: (nat_lit 185, o185_0 P) :: (nat_lit 186, o186_0 P) :: (nat_lit 189, o189_0 P) :: (nat_lit 196, o196_0 P) :: (nat_lit 198, o198_0 P) :: (nat_lit 199, o199_0 P) :: (nat_lit 201, o201_0 P) :: (nat_lit 202, o202_0 P) :: (nat_lit 203, o203_0 P) :: (nat_lit 204, o204_0 P) :: (nat_lit 205, o205_0 P) :: (nat_lit 208, o208_0 P) :: (nat_lit 215, o215_0 P) :: (nat_lit 217, o217_0 P) :: (nat_lit 218, o218_0 P) :: (nat_lit 220, o220_0 P) :: (nat_lit 221, o221_0 P) :: (nat_lit 222, o222_0 P) :: (nat_lit 223, o223_0 P) :: (nat_lit 224, o224_0 P) :: (nat_lit 227, o227_0 P) :: (nat_lit 234, o234_0 P) :: (nat_lit 236, o236_0 P) :: (nat_lit 237, o237_0 P) :: (nat_lit 239, o239_0 P) :: (nat_lit 240, o240_0 P) :: (nat_lit 241, o241_0 P) :: (nat_lit 242, o242_0 P) :: (nat_lit 243, o243_0 P) :: (nat_lit 246, o246_0 P) :: (nat_lit 253, o253_0 P) :: (nat_lit 254, o254_0 P) :: (nat_lit 255, o255_0 P) :: (nat_lit 258, o258_0 P) :: (nat_lit 265, o265_0 P) :: (nat_lit 267, o267_0 P) :: (nat_lit 268, o268_0 P) :: (nat_lit 270, o270_0 P) :: (nat_lit 271, o271_0 P) :: (nat_lit 272, o272_0 P) :: (nat_lit 273, o273_0 P) :: (nat_lit 274, o274_0 P) :: (nat_lit 275, o275_0 P) :: (nat_lit 285, o285_0 P) :: (nat_lit 286, o286_0 P) :: (nat_lit 288, o288_0 P) :: (nat_lit 289, o289_0 P) :: (nat_lit 291, o291_0 P) :: (nat_lit 292, o292_0 P) :: (nat_lit 293, o293_0 P) :: (nat_lit 295, o295_0 P) :: (nat_lit 296, o296_0 P) :: (nat_lit 298, o298_0 P) :: (nat_lit 299, o299_0 P) :: (nat_lit 300, o300_0 P) :: (nat_lit 301, o301_0 P) :: (nat_lit 302, o302_0 P) :: (nat_lit 303, o303_0 P) :: (nat_lit 305, o305_0 P) :: (nat_lit 306, o306_0 P) :: (nat_lit 308, o308_0 P) :: (nat_lit 309, o309_0 P) :: (nat_lit 310, o310_0 P) :: (nat_lit 311, o311_0 P) :: (nat_lit 312, o312_0 P) :: (nat_lit 313, o313_0 P) :: (nat_lit 315, o315_0 P) :: (nat_lit 316, o316_0 P) :: (nat_lit 318, o318_0 P) :: (nat_lit 319, o319_0 P) :: (nat_lit 320, o320_0 P) :: (nat_lit 321, o321_0 P) :: (nat_lit 323, o323_0 P) :: (nat_lit 324, o324_0 P) :: (nat_lit 326, o326_0 P) :: (nat_lit 327, o327_0 P) :: (nat_lit 328, o328_0 P) :: (nat_lit 329, o329_0 P) :: (nat_lit 331, o331_0 P) :: (nat_lit 332, o332_0 P) :: (nat_lit 334, o334_0 P) :: (nat_lit 335, o335_0 P) :: (nat_lit 336, o336_0 P) :: (nat_lit 338, o338_0 P) :: (nat_lit 339, o339_0 P) :: (nat_lit 341, o341_0 P) :: (nat_lit 342, o342_0 P) :: (nat_lit 343, o343_0 P) :: (nat_lit 345, o345_0 P) :: (nat_lit 346, o346_0 P) :: (nat_lit 348, o348_0 P) :: (nat_lit 349, o349_0 P) :: (nat_lit 350, o350_0 P) :: (nat_lit 352, o352_0 P) :: (nat_lit 353, o353_0 P) :: (nat_lit 355, o355_0 P) :: (nat_lit 356, o356_0 P) :: (nat_lit 357, o357_0 P) :: (nat_lit 359, o359_0 P) :: (nat_lit 360, o360_0 P) :: (nat_lit 362, o362_0 P) :: (nat_lit 363, o363_0 P) :: (nat_lit 364, o364_0 P) :: (nat_lit 366, o366_0 P) :: (nat_lit 367, o367_0 P) :: (nat_lit 369, o369_0 P) :: (nat_lit 370, o370_0 P) :: (nat_lit 371, o371_0 P) :: (nat_lit 373, o373_0 P) :: (nat_lit 374, o374_0 P) :: (nat_lit 376, o376_0 P) :: (nat_lit 377, o377_0 P) :: (nat_lit 378, o378_0 P) :: (nat_lit 380, o380_0 P) :: (nat_lit 381, o381_0 P) :: (nat_lit 383, o383_0 P) :: (nat_lit 384, o384_0 P) :: (nat_lit 385, o385_0 P) :: (nat_lit 387, o387_0 P) :: (nat_lit 388, o388_0 P) :: (nat_lit 390, o390_0 P) :: (nat_lit 391, o391_0 P) :: (nat_lit 392, o392_0 P) :: (nat_lit 394, o394_0 P) :: (nat_lit 395, o395_0 P) :: (nat_lit 397, o397_0 P) :: (nat_lit 398, o398_0 P) :: (nat_lit 399, o399_0 P) :: (nat_lit 401, o401_0 P) :: (nat_lit 402, o402_0 P) :: (nat_lit 404, o404_0 P) :: (nat_lit 405, o405_0 P) :: (nat_lit 406, o406_0 P) :: (nat_lit 408, o408_0 P) :: (nat_lit 409, o409_0 P) :: (nat_lit 411, o411_0 P) :: (nat_lit 412, o412_0 P) :: (nat_lit 413, o413_0 P) :: (nat_lit 415, o415_0 P) :: (nat_lit 416, o416_0 P) :: (nat_lit 418, o418_0 P) :: (nat_lit 419, o419_0 P) :: (nat_lit 420, o420_0 P) :: (nat_lit 422, o422_0 P) :: (nat_lit 423, o423_0 P) :: (nat_lit 425, o425_0 P) :: (nat_lit 426, o426_0 P) :: (nat_lit 427, o427_0 P) :: (nat_lit 429, o429_0 P) :: (nat_lit 430, o430_0 P) :: (nat_lit 432, o432_0 P) :: (nat_lit 433, o433_0 P) :: (nat_lit 434, o434_0 P) :: (nat_lit 436, o436_0 P) :: (nat_lit 437, o437_0 P) :: (nat_lit 439, o439_0 P) :: (nat_lit 440, o440_0 P) :: (nat_lit 441, o441_0 P) :: (nat_lit 443, o443_0 P) :: (nat_lit 444, o444_0 P) :: (nat_lit 446, o446_0 P) :: (nat_lit 447, o447_0 P) :: (nat_lit 448, o448_0 P) :: (nat_lit 450, o450_0 P) :: (nat_lit 451, o451_0 P) :: (nat_lit 453, o453_0 P) :: (nat_lit 454, o454_0 P) :: (nat_lit 455, o455_0 P) :: (nat_lit 457, o457_0 P) :: (nat_lit 458, o458_0 P) :: (nat_lit 460, o460_0 P) :: (nat_lit 461, o461_0 P) :: (nat_lit 462, o462_0 P) :: (nat_lit 464, o464_0 P) :: (nat_lit 465, o465_0 P) :: (nat_lit 467, o467_0 P) :: (nat_lit 468, o468_0 P) :: (nat_lit 469, o469_0 P) :: (nat_lit 470, o470_0 P) :: (nat_lit 471, o471_0 P) :: (nat_lit 472, o472_0 P) :: (nat_lit 473, o473_0 P) :: (nat_lit 476, o476_0 P) :: (nat_lit 478, o478_0 P) :: (nat_lit 479, o479_0 P) :: (nat_lit 481, o481_0 P) :: (nat_lit 482, o482_0 P) :: (nat_lit 483, o483_0 P) :: (nat_lit 485, o485_0 P) :: (nat_lit 486, o486_0 P) :: (nat_lit 488, o488_0 P) :: (nat_lit 489, o489_0 P) :: (nat_lit 490, o490_0 P) :: (nat_lit 492, o492_0 P) :: (nat_lit 493, o493_0 P) :: (nat_lit 495, o495_0 P) :: (nat_lit 496, o496_0 P) :: (nat_lit 497, o497_0 P) :: (nat_lit 499, o499_0 P) :: (nat_lit 500, o500_0 P) :: (nat_lit 502, o502_0 P) :: (nat_lit 503, o503_0 P) :: (nat_lit 504, o504_0 P) :: (nat_lit 506, o506_0 P) :: (nat_lit 507, o507_0 P) :: (nat_lit 509, o509_0 P) :: (nat_lit 510, o510_0 P) :: (nat_lit 511, o511_0 P) :: (nat_lit 514, o514_0 P) :: (nat_lit 515, o515_0 P) :: (nat_lit 516, o516_0 P) :: (nat_lit 519, o519_0 P) :: (nat_lit 520, o520_0 P) :: (nat_lit 521, o521_0 P) :: (nat_lit 523, o523_0 P) :: (nat_lit 524, o524_0 P) :: (nat_lit 526, o526_0 P) :: (nat_lit 527, o527_0 P) :: (nat_lit 528, o528_0 P) :: (nat_lit 530, o530_0 P) :: (nat_lit 531, o531_0 P) :: (nat_lit 533, o533_0 P) :: (nat_lit 534, o534_0 P) :: (nat_lit 535, o535_0 P) :: (nat_lit 537, o537_0 P) :: (nat_lit 538, o538_0 P) :: (nat_lit 540, o540_0 P) :: (nat_lit 541, o541_0 P) :: (nat_lit 542, o542_0 P) :: (nat_lit 545, o545_0 P) :: (nat_lit 546, o546_0 P) :: (nat_lit 547, o547_0 P) :: (nat_lit 549, o549_0 P) :: (nat_lit 550, o550_0 P) :: (nat_lit 552, o552_0 P) :: (nat_lit 553, o553_0 P) :: []
def as : List Addr := nat_lit 2 :: nat_lit 3 :: nat_lit 43 :: nat_lit 45 :: nat_lit 46 :: nat_lit 48 :: nat_lit 49 :: nat_lit 50 :: nat_lit 57 :: nat_lit 58 :: nat_lit 59 :: nat_lit 60 :: nat_lit 63 :: nat_lit 70 :: nat_lit 72 :: nat_lit 73 :: nat_lit 75 :: nat_lit 76 :: nat_lit 77 :: nat_lit 78 :: nat_lit 79 :: nat_lit 82 :: nat_lit 89 :: nat_lit 91 :: nat_lit 92 :: nat_lit 94 :: nat_lit 95 :: nat_lit 96 :: nat_lit 97 :: nat_lit 98 :: nat_lit 101 :: nat_lit 108 :: nat_lit 110 :: nat_lit 111 :: nat_lit 113 :: nat_lit 114 :: nat_lit 115 :: nat_lit 116 :: nat_lit 117 :: nat_lit 120 :: nat_lit 127 :: nat_lit 129 :: nat_lit 130 :: nat_lit 132 :: nat_lit 133 :: nat_lit 134 :: nat_lit 135 :: nat_lit 136 :: nat_lit 139 :: nat_lit 146 :: nat_lit 147 :: nat_lit 148 :: nat_lit 151 :: nat_lit 158 :: nat_lit 160 :: nat_lit 161 :: nat_lit 163 :: nat_lit 164 :: nat_lit 165 :: nat_lit 166 :: nat_lit 167 :: nat_lit 170 :: nat_lit 177 :: nat_lit 179 :: nat_lit 180 :: nat_lit 182 :: nat_lit 183 :: nat_lit 184 :: nat_lit 185 :: nat_lit 186 :: nat_lit 189 :: nat_lit 196 :: nat_lit 198 :: nat_lit 199 :: nat_lit 201 :: nat_lit 202 :: nat_lit 203 :: nat_lit 204 :: nat_lit 205 :: nat_lit 208 :: nat_lit 215 :: nat_lit 217 :: nat_lit 218 :: nat_lit 220 :: nat_lit 221 :: nat_lit 222 :: nat_lit 223 :: nat_lit 224 :: nat_lit 227 :: nat_lit 234 :: nat_lit 236 :: nat_lit 237 :: nat_lit 239 :: nat_lit 240 :: nat_lit 241 :: nat_lit 242 :: nat_lit 243 :: nat_lit 246 :: nat_lit 253 :: nat_lit 254 :: nat_lit 255 :: nat_lit 258 :: nat_lit 265 :: nat_lit 267 :: nat_lit 268 :: nat_lit 270 :: nat_lit 271 :: nat_lit 272 :: nat_lit 273 :: nat_lit 274 :: nat_lit 275 :: nat_lit 285 :: nat_lit 286 :: nat_lit 288 :: nat_lit 289 :: nat_lit 291 :: nat_lit 292 :: nat_lit 293 :: nat_lit 295 :: nat_lit 296 :: nat_lit 298 :: nat_lit 299 :: nat_lit 300 :: nat_lit 301 :: nat_lit 302 :: nat_lit 303 :: nat_lit 305 :: nat_lit 306 :: nat_lit 308 :: nat_lit 309 :: nat_lit 310 :: nat_lit 311 :: nat_lit 312 :: nat_lit 313 :: nat_lit 315 :: nat_lit 316 :: nat_lit 318 :: nat_lit 319 :: nat_lit 320 :: nat_lit 321 :: nat_lit 323 :: nat_lit 324 :: nat_lit 326 :: nat_lit 327 :: nat_lit 328 :: nat_lit 329 :: nat_lit 331 :: nat_lit 332 :: nat_lit 334 :: nat_lit 335 :: nat_lit 336 :: nat_lit 338 :: nat_lit 339 :: nat_lit 341 :: nat_lit 342 :: nat_lit 343 :: nat_lit 345 :: nat_lit 346 :: nat_lit 348 :: nat_lit 349 :: nat_lit 350 :: nat_lit 352 :: nat_lit 353 :: nat_lit 355 :: nat_lit 356 :: nat_lit 357 :: nat_lit 359 :: nat_lit 360 :: nat_lit 362 :: nat_lit 363 :: nat_lit 364 :: nat_lit 366 :: nat_lit 367 :: nat_lit 369 :: nat_lit 370 :: nat_lit 371 :: nat_lit 373 :: nat_lit 374 :: nat_lit 376 :: nat_lit 377 :: nat_lit 378 :: nat_lit 380 :: nat_lit 381 :: nat_lit 383 :: nat_lit 384 :: nat_lit 385 :: nat_lit 387 :: nat_lit 388 :: nat_lit 390 :: nat_lit 391 :: nat_lit 392 :: nat_lit 394 :: nat_lit 395 :: nat_lit 397 :: nat_lit 398 :: nat_lit 399 :: nat_lit 401 :: nat_lit 402 :: nat_lit 404 :: nat_lit 405 :: nat_lit 406 :: nat_lit 408 :: nat_lit 409 :: nat_lit 411 :: nat_lit 412 :: nat_lit 413 :: nat_lit 415 :: nat_lit 416 :: nat_lit 418 :: nat_lit 419 :: nat_lit 420 :: nat_lit 422 :: nat_lit 423 :: nat_lit 425 :: nat_lit 426 :: nat_lit 427 :: nat_lit 429 :: nat_lit 430 :: nat_lit 432 :: nat_lit 433 :: nat_lit 434 :: nat_lit 436 :: nat_lit 437 :: nat_lit 439 :: nat_lit 440 :: nat_lit 441 :: nat_lit 443 :: nat_lit 444 :: nat_lit 446 :: nat_lit 447 :: nat_lit 448 :: nat_lit 450 :: nat_lit 451 :: nat_lit 453 :: nat_lit 454 :: nat_lit 455 :: nat_lit 457 :: nat_lit 458 :: nat_lit 460 :: nat_lit 461 :: nat_lit 462 :: nat_lit 464 :: nat_lit 465 :: nat_lit 467 :: nat_lit 468 :: nat_lit 469 :: nat_lit 470 :: nat_lit 471 :: nat_lit 472 :: nat_lit 473 :: nat_lit 476 :: nat_lit 478 :: nat_lit 479 :: nat_lit 481 :: nat_lit 482 :: nat_lit 483 :: nat_lit 485 :: nat_lit 486 :: nat_lit 488 :: nat_lit 489 :: nat_lit 490 :: nat_lit 492 :: nat_lit 493 :: nat_lit 495 :: nat_lit 496 :: nat_lit 497 :: nat_lit 499 :: nat_lit 500 :: nat_lit 502 :: nat_lit 503 :: nat_lit 504 :: nat_lit 506 :: nat_lit 507 :: nat_lit 509 :: nat_lit 510 :: nat_lit 511 :: nat_lit 514 :: nat_lit 515 :: nat_lit 516 :: nat_lit 519 :: nat_lit 520 :: nat_lit 521 :: nat_lit 523 :: nat_lit 524 :: nat_lit 526 :: nat_lit 527 :: nat_lit 528 :: nat_lit 530 :: nat_lit 531 :: nat_lit 533 :: nat_lit 534 :: nat_lit 535 :: nat_lit 537 :: nat_lit 538 :: nat_lit 540 :: nat_lit 541 :: nat_lit 542 :: nat_lit 545 :: nat_lit 546 :: nat_lit 547 :: nat_lit 549 :: nat_lit 550 :: nat_lit 552 :: nat_lit 553 :: []
theorem ekf : ∀ P, as = (Kf P).map (·.1) := fun _ => by kernel_rfl
abbrev Hk : Hook := kHook Kf as ekf
abbrev R : OpenRow := OpenLaw.row PySem.Challenge.rw_poolsmeet_k01_errors
def qv : Program := view R.prog [0, 1, 3, 4, 5, 6, 7, 8, 9, 10, 11, 12, 13, 14, 15, 17, 18, 19, 20, 21, 23, 24, 25, 26, 27, 28, 29, 30, 31]
def loose : List PySem.Str := [PySem.Str.ofString "Ratio"]
theorem le : Nat.ble (12 + (1 + (1418 + (1441 + (247 + (1598 + (178 + 2))))))) 10580 = true := by decide
theorem look1 (w : World) (os : OsState) : looksF pr (absHeap (T0 w.params) 39 life0) (Sf w os).abs = true := by kernel_rfl
theorem look2_0 (w : World) (os : OsState) : p1 (seenQ qv loose (importedModules pr.main.body) (fun s => xlAt qv [] s && recOk R.toRowW.records s) (Sf w os).abs) = (openGood qv loose).1 := by kernel_rfl
theorem look2_1 (w : World) (os : OsState) : p1 (p2 (seenQ qv loose (importedModules pr.main.body) (fun s => xlAt qv [] s && recOk R.toRowW.records s) (Sf w os).abs)) = (openGood qv loose).2.1 := by kernel_rfl
theorem look2_2 (w : World) (os : OsState) : p1 (p2 (p2 (seenQ qv loose (importedModules pr.main.body) (fun s => xlAt qv [] s && recOk R.toRowW.records s) (Sf w os).abs))) = (openGood qv loose).2.2.1 := by kernel_rfl
theorem look2_3 (w : World) (os : OsState) : p1 (p2 (p2 (p2 (seenQ qv loose (importedModules pr.main.body) (fun s => xlAt qv [] s && recOk R.toRowW.records s) (Sf w os).abs)))) = (openGood qv loose).2.2.2.1 := by kernel_rfl
theorem look2_4 (w : World) (os : OsState) : p1 (p2 (p2 (p2 (p2 (seenQ qv loose (importedModules pr.main.body) (fun s => xlAt qv [] s && recOk R.toRowW.records s) (Sf w os).abs))))) = (openGood qv loose).2.2.2.2.1 := by kernel_rfl
theorem look2_5 (w : World) (os : OsState) : p1 (p2 (p2 (p2 (p2 (p2 (seenQ qv loose (importedModules pr.main.body) (fun s => xlAt qv [] s && recOk R.toRowW.records s) (Sf w os).abs)))))) = (openGood qv loose).2.2.2.2.2.1 := by kernel_rfl
theorem look2_6 (w : World) (os : OsState) : p1 (p2 (p2 (p2 (p2 (p2 (p2 (seenQ qv loose (importedModules pr.main.body) (fun s => xlAt qv [] s && recOk R.toRowW.records s) (Sf w os).abs))))))) = (openGood qv loose).2.2.2.2.2.2.1 := by kernel_rfl
theorem look2_7 (w : World) (os : OsState) : p1 (p2 (p2 (p2 (p2 (p2 (p2 (p2 (seenQ qv loose (importedModules pr.main.body) (fun s => xlAt qv [] s && recOk R.toRowW.records s) (Sf w os).abs)))))))) = (openGood qv loose).2.2.2.2.2.2.2.1 := by kernel_rfl
theorem look2_8 (w : World) (os : OsState) : (p2 (p2 (p2 (p2 (p2 (p2 (p2 (p2 (seenQ qv loose (importedModules pr.main.body) (fun s => xlAt qv [] s && recOk R.toRowW.records s) (Sf w os).abs))))))))) = (openGood qv loose).2.2.2.2.2.2.2.2 := by kernel_rfl
theorem look2 (w : World) (os : OsState) : seenQ qv loose (importedModules pr.main.body) (fun s => xlAt qv [] s && recOk R.toRowW.records s) (Sf w os).abs = openGood qv loose := p_ext (look2_0 w os) (p_ext (look2_1 w os) (p_ext (look2_2 w os) (p_ext (look2_3 w os) (p_ext (look2_4 w os) (p_ext (look2_5 w os) (p_ext (look2_6 w os) (p_ext (look2_7 w os) (look2_8 w os))))))))
theorem look3 (w : World) (os : OsState) : as.map (getT (Sf w os)) = (Kf w.params).map fun x => some x.2 := by kernel_rfl
theorem left : LeftO R.prog qv loose (fun s => xlAt qv [] s && recOk R.toRowW.records s) (Hook.obs Hk) (Hook.val Hk) 10580 true :=
  LeftO.of_pieces (H₀ := fun P => absHeap (T0 P) 39 life0) (H₁ := fun P => absHeap (Tf P) 554 life0) (open_of r0) size (fun w os => run w os) le (fun w => funext fun os => Prod.ext (look1 w os) (Prod.ext
    ((seenQ_eq qv loose _ _ _).trans (look2 w os)) ((List.map_congr_left fun a _ => (getT_eq (Sf w os) a).symm).trans (look3 w os))))
abbrev dL : DefRec := topDef R.prog 31
set_option maxHeartbeats 0 in
theorem Pm_hd (walk : WalkO qv loose (XL qv []) (kHook Kf as ekf).says (OpenLaw.row PySem.Challenge.rw_poolsmeet_k01_errors).toRowW dL [] (fun f vs => PySem.call f vs)) : PySem.Challenge.rw_poolsmeet_k01_errors.Holds := by
  w_on; o_law
  refine holds_open (r := R) (q := qv) (loose := loose) (XP := XL qv []) (YP := Hk.says) (d := dL) (kwd := []) left Hk.of Hk.keeps (fun s e => xl_of s (Bool.and_eq_true_iff.mp e).1) XL.keeps (by kernel_rfl) (by kernel_rfl) (by kernel_rfl) (fun s e => recFacts_of (Bool.and_eq_true_iff.mp e).2) (by rfl) (by first | assumption | decide +kernel) (by decide +kernel) ⟨rfl, rfl, rfl, rfl, rfl, by decide +kernel⟩ ?hw walk
  case hw => w_witness2
end PmHd
end
namespace Pm
open PySem PySem.Spec PyProof.Rows L2
/-- what isinstance asks of an own class -/
structure TyC (K : PySem.W.Frag) (C : Addr) : Prop where
  at_ : PySem.W.findIn K (.ref C) "__class__" = some (some (.builtin "object.__class__")) ∧ PySem.W.specialIn K (.builtin "object.__class__") "__get__" = some (some (.builtin "getset_descriptor.__get__")) ∧
    PySem.W.takesIn K (.builtin "object.__class__") = some true ∧ PySem.W.mroIn K C (.type "object") = some true
  ic : PySem.W.isClsIn K C = true
  ty : PySem.W.typeIn K (.ref C) = some (.type "type")
  ss : PySem.W.subIn K (.ref C) (.ref C) = some true

/-! ### the text by places (generated from the linked text) -/
def top (i : Nat) : Stmt := PySem.Challenge.pw_poolsmeet_k01_errors.main.body.getD i (.Pass ⟨0, 0, 0, 0⟩)
abbrev s_InvalidNumber_init_d : Stmt := inClass (top 4) 0
abbrev s_InvalidDrop_init_d : Stmt := inClass (top 5) 0
abbrev s_InvalidTime_init_d : Stmt := inClass (top 6) 0
abbrev s_InvalidText_init_d : Stmt := inClass (top 7) 0
abbrev s_Full_init_d : Stmt := inClass (top 9) 0
abbrev s_MissingDrop_init_d : Stmt := inClass (top 10) 0
abbrev s_Touching_init_d : Stmt := inClass (top 11) 0
abbrev s_OutOfGround_init_d : Stmt := inClass (top 12) 0
abbrev s_Overfull_init_d : Stmt := inClass (top 13) 0
abbrev s_UnknownIndex_init_d : Stmt := inClass (top 15) 0
abbrev s_Ratio_init_d : Stmt := inClass (top 18) 0
abbrev s_lw_box : Stmt := top 23
abbrev s_lw_take : Stmt := top 24
abbrev s_lw_value : Stmt := top 25
abbrev s_lw_alike : Stmt := top 26
abbrev s_lw_placed : Stmt := top 27
abbrev s_lw_named : Stmt := top 28
abbrev s_lw_kinds : Stmt := top 29
abbrev s_lw_right : Stmt := top 30
abbrev s_law : Stmt := top 31
theorem sc_InvalidNumber_init_d : FnScope ["self", "value"] ["self", "value"] (defScope s_InvalidNumber_init_d) := ⟨rfl, rfl, rfl, by decide +kernel, rfl, by decide +kernel, by decide +kernel⟩
theorem sc_InvalidDrop_init_d : FnScope ["self", "index"] ["self", "index"] (defScope s_InvalidDrop_init_d) := ⟨rfl, rfl, rfl, by decide +kernel, rfl, by decide +kernel, by decide +kernel⟩
theorem sc_InvalidTime_init_d : FnScope ["self", "time"] ["self", "time"] (defScope s_InvalidTime_init_d) := ⟨rfl, rfl, rfl, by decide +kernel, rfl, by decide +kernel, by decide +kernel⟩
theorem sc_InvalidText_init_d : FnScope ["self", "line"] ["self", "line"] (defScope s_InvalidText_init_d) := ⟨rfl, rfl, rfl, by decide +kernel, rfl, by decide +kernel, by decide +kernel⟩
theorem sc_Full_init_d : FnScope ["self", "limit"] ["self", "limit"] (defScope s_Full_init_d) := ⟨rfl, rfl, rfl, by decide +kernel, rfl, by decide +kernel, by decide +kernel⟩
theorem sc_MissingDrop_init_d : FnScope ["self", "spot", "amount"] ["self", "spot", "amount"] (defScope s_MissingDrop_init_d) := ⟨rfl, rfl, rfl, by decide +kernel, rfl, by decide +kernel, by decide +kernel⟩
theorem sc_Touching_init_d : FnScope ["self", "index"] ["self", "index"] (defScope s_Touching_init_d) := ⟨rfl, rfl, rfl, by decide +kernel, rfl, by decide +kernel, by decide +kernel⟩
theorem sc_OutOfGround_init_d : FnScope ["self", "spot"] ["self", "spot"] (defScope s_OutOfGround_init_d) := ⟨rfl, rfl, rfl, by decide +kernel, rfl, by decide +kernel, by decide +kernel⟩
theorem sc_Overfull_init_d : FnScope ["self", "total"] ["self", "total"] (defScope s_Overfull_init_d) := ⟨rfl, rfl, rfl, by decide +kernel, rfl, by decide +kernel, by decide +kernel⟩
theorem sc_UnknownIndex_init_d : FnScope ["self", "index"] ["self", "index"] (defScope s_UnknownIndex_init_d) := ⟨rfl, rfl, rfl, by decide +kernel, rfl, by decide +kernel, by decide +kernel⟩
theorem sc_Ratio_init_d : FnScope ["self", "top", "bottom", "shared"] ["self", "top", "bottom"] (defScope s_Ratio_init_d) := ⟨rfl, rfl, rfl, by decide +kernel, rfl, by decide +kernel, by decide +kernel⟩
theorem sc_lw_box : FnScope ["_law_script", "_law_k", "_law_cell", "_law_seed"] ["_law_script", "_law_k"] (defScope s_lw_box) := ⟨rfl, rfl, rfl, by decide +kernel, rfl, by decide +kernel, by decide +kernel⟩
theorem sc_lw_take : FnScope ["_law_box_here", "_law_many", "_law_digit", "_law_first", "_law_mixed"] ["_law_box_here", "_law_many"] (defScope s_lw_take) := ⟨rfl, rfl, rfl, by decide +kernel, rfl, by decide +kernel, by decide +kernel⟩
theorem sc_lw_value : FnScope ["_law_box_here", "_law_deep", "_law_form", "_law_turn", "_law_some"] ["_law_box_here", "_law_deep"] (defScope s_lw_value) := ⟨rfl, rfl, rfl, by decide +kernel, rfl, by decide +kernel, by decide +kernel⟩
theorem sc_lw_alike : FnScope ["_law_found", "_law_due", "_law_one", "_law_other"] ["_law_found", "_law_due"] (defScope s_lw_alike) := ⟨rfl, rfl, rfl, by decide +kernel, rfl, by decide +kernel, by decide +kernel⟩
theorem sc_lw_placed : FnScope ["_law_a", "_law_b", "_law_one", "_law_two", "_law_three", "_law_four", "_law_five", "_law_six", "_law_seven", "_law_eight", "_law_nine", "_law_last", "_law_errors", "_law_told"] ["_law_a", "_law_b"] (defScope s_lw_placed) := ⟨rfl, rfl, rfl, by decide +kernel, rfl, by decide +kernel, by decide +kernel⟩
theorem sc_lw_named : FnScope ["_law_a", "_law_b", "_law_one", "_law_two", "_law_three", "_law_four", "_law_five", "_law_six", "_law_seven", "_law_eight", "_law_nine", "_law_last", "_law_errors", "_law_told"] ["_law_a", "_law_b"] (defScope s_lw_named) := ⟨rfl, rfl, rfl, by decide +kernel, rfl, by decide +kernel, by decide +kernel⟩
theorem sc_lw_kinds : FnScope ["_law_e", "_law_found", "_law_bases"] ["_law_e"] (defScope s_lw_kinds) := ⟨rfl, rfl, rfl, by decide +kernel, rfl, by decide +kernel, by decide +kernel⟩
theorem sc_lw_right : FnScope ["_law_errors", "_law_told", "_law_second", "_law_a", "_law_b", "_law_at", "_law_error", "_law_found", "_law_bases", "_law_k", "_law_one"] ["_law_errors", "_law_told", "_law_second", "_law_a", "_law_b"] (defScope s_lw_right) := ⟨rfl, rfl, rfl, by decide +kernel, rfl, by decide +kernel, by decide +kernel⟩
theorem sc_law : FnScope ["_law_script", "_law_k", "_law_box_here", "_law_a", "_law_b", "_law_errors", "_law_told", "_law_second"] ["_law_script"] (defScope s_law) := ⟨rfl, rfl, rfl, by decide +kernel, rfl, by decide +kernel, by decide +kernel⟩
/-- what the top has written -/
structure Txt (K : PySem.W.Frag) (mg : Str → Option Value) where
  b_len : mg "len" = none
  b_range : mg "range" = none
  b_int : mg "int" = none
  b_str : mg "str" = none
  b_bool : mg "bool" = none
  b_abs : mg "abs" = none
  b_isinstance : mg "isinstance" = none
  b_repr : mg "repr" = none
  b_max : mg "max" = none
  b_min : mg "min" = none
  b_tuple : mg "tuple" = none
  b_all : mg "all" = none
  b_zip : mg "zip" = none
  b_enumerate : mg "enumerate" = none
  b_ValueError : mg "ValueError" = none
  b_IndexError : mg "IndexError" = none
  b_KeyError : mg "KeyError" = none
  g_gcd : mg "gcd" = some (.builtin "math.gcd")
  C_PoolError : Addr
  g_PoolError : mg "PoolError" = some (.ref C_PoolError)
  ox_PoolError : OexC K C_PoolError
  xf_PoolError : XfC K C_PoolError
  ic_PoolError : PySem.W.isClsIn K C_PoolError = true
  ss_PoolError : PySem.W.subIn K (.ref C_PoolError) (.ref C_PoolError) = some true
  C_InvalidNumber : Addr
  g_InvalidNumber : mg "InvalidNumber" = some (.ref C_InvalidNumber)
  ox_InvalidNumber : OexC K C_InvalidNumber
  xf_InvalidNumber : XfC K C_InvalidNumber
  ic_InvalidNumber : PySem.W.isClsIn K C_InvalidNumber = true
  ss_InvalidNumber : PySem.W.subIn K (.ref C_InvalidNumber) (.ref C_InvalidNumber) = some true
  n_InvalidNumber_value : PySem.W.findIn K (.ref C_InvalidNumber) "value" = some none
  ec_InvalidNumber : ExcC K C_InvalidNumber
  C_InvalidDrop : Addr
  g_InvalidDrop : mg "InvalidDrop" = some (.ref C_InvalidDrop)
  ox_InvalidDrop : OexC K C_InvalidDrop
  xf_InvalidDrop : XfC K C_InvalidDrop
  ic_InvalidDrop : PySem.W.isClsIn K C_InvalidDrop = true
  ss_InvalidDrop : PySem.W.subIn K (.ref C_InvalidDrop) (.ref C_InvalidDrop) = some true
  n_InvalidDrop_index : PySem.W.findIn K (.ref C_InvalidDrop) "index" = some none
  ec_InvalidDrop : ExcC K C_InvalidDrop
  C_InvalidTime : Addr
  g_InvalidTime : mg "InvalidTime" = some (.ref C_InvalidTime)
  ox_InvalidTime : OexC K C_InvalidTime
  xf_InvalidTime : XfC K C_InvalidTime
  ic_InvalidTime : PySem.W.isClsIn K C_InvalidTime = true
  ss_InvalidTime : PySem.W.subIn K (.ref C_InvalidTime) (.ref C_InvalidTime) = some true
  n_InvalidTime_time : PySem.W.findIn K (.ref C_InvalidTime) "time" = some none
  ec_InvalidTime : ExcC K C_InvalidTime
  C_InvalidText : Addr
  g_InvalidText : mg "InvalidText" = some (.ref C_InvalidText)
  ox_InvalidText : OexC K C_InvalidText
  xf_InvalidText : XfC K C_InvalidText
  ic_InvalidText : PySem.W.isClsIn K C_InvalidText = true
  ss_InvalidText : PySem.W.subIn K (.ref C_InvalidText) (.ref C_InvalidText) = some true
  n_InvalidText_line : PySem.W.findIn K (.ref C_InvalidText) "line" = some none
  ec_InvalidText : ExcC K C_InvalidText
  C_InvalidCommand : Addr
  g_InvalidCommand : mg "InvalidCommand" = some (.ref C_InvalidCommand)
  ox_InvalidCommand : OexC K C_InvalidCommand
  xf_InvalidCommand : XfC K C_InvalidCommand
  ic_InvalidCommand : PySem.W.isClsIn K C_InvalidCommand = true
  ss_InvalidCommand : PySem.W.subIn K (.ref C_InvalidCommand) (.ref C_InvalidCommand) = some true
  ec_InvalidCommand : ExcC K C_InvalidCommand
  C_Full : Addr
  g_Full : mg "Full" = some (.ref C_Full)
  ox_Full : OexC K C_Full
  xf_Full : XfC K C_Full
  ic_Full : PySem.W.isClsIn K C_Full = true
  ss_Full : PySem.W.subIn K (.ref C_Full) (.ref C_Full) = some true
  n_Full_limit : PySem.W.findIn K (.ref C_Full) "limit" = some none
  ec_Full : ExcC K C_Full
  C_MissingDrop : Addr
  g_MissingDrop : mg "MissingDrop" = some (.ref C_MissingDrop)
  ox_MissingDrop : OexC K C_MissingDrop
  xf_MissingDrop : XfC K C_MissingDrop
  ic_MissingDrop : PySem.W.isClsIn K C_MissingDrop = true
  ss_MissingDrop : PySem.W.subIn K (.ref C_MissingDrop) (.ref C_MissingDrop) = some true
  n_MissingDrop_spot : PySem.W.findIn K (.ref C_MissingDrop) "spot" = some none
  n_MissingDrop_amount : PySem.W.findIn K (.ref C_MissingDrop) "amount" = some none
  ec_MissingDrop : ExcC K C_MissingDrop
  C_Touching : Addr
  g_Touching : mg "Touching" = some (.ref C_Touching)
  ox_Touching : OexC K C_Touching
  xf_Touching : XfC K C_Touching
  ic_Touching : PySem.W.isClsIn K C_Touching = true
  ss_Touching : PySem.W.subIn K (.ref C_Touching) (.ref C_Touching) = some true
  n_Touching_index : PySem.W.findIn K (.ref C_Touching) "index" = some none
  ec_Touching : ExcC K C_Touching
  C_OutOfGround : Addr
  g_OutOfGround : mg "OutOfGround" = some (.ref C_OutOfGround)
  ox_OutOfGround : OexC K C_OutOfGround
  xf_OutOfGround : XfC K C_OutOfGround
  ic_OutOfGround : PySem.W.isClsIn K C_OutOfGround = true
  ss_OutOfGround : PySem.W.subIn K (.ref C_OutOfGround) (.ref C_OutOfGround) = some true
  n_OutOfGround_spot : PySem.W.findIn K (.ref C_OutOfGround) "spot" = some none
  ec_OutOfGround : ExcC K C_OutOfGround
  C_Overfull : Addr
  g_Overfull : mg "Overfull" = some (.ref C_Overfull)
  ox_Overfull : OexC K C_Overfull
  xf_Overfull : XfC K C_Overfull
  ic_Overfull : PySem.W.isClsIn K C_Overfull = true
  ss_Overfull : PySem.W.subIn K (.ref C_Overfull) (.ref C_Overfull) = some true
  n_Overfull_total : PySem.W.findIn K (.ref C_Overfull) "total" = some none
  ec_Overfull : ExcC K C_Overfull
  C_TrialError : Addr
  g_TrialError : mg "TrialError" = some (.ref C_TrialError)
  ox_TrialError : OexC K C_TrialError
  xf_TrialError : XfC K C_TrialError
  ic_TrialError : PySem.W.isClsIn K C_TrialError = true
  ss_TrialError : PySem.W.subIn K (.ref C_TrialError) (.ref C_TrialError) = some true
  ec_TrialError : ExcC K C_TrialError
  C_UnknownIndex : Addr
  g_UnknownIndex : mg "UnknownIndex" = some (.ref C_UnknownIndex)
  ox_UnknownIndex : PmI.OexG K C_UnknownIndex "IndexError.__new__" PmI.ieTail
  xf_UnknownIndex : XfC K C_UnknownIndex
  ic_UnknownIndex : PySem.W.isClsIn K C_UnknownIndex = true
  ss_UnknownIndex : PySem.W.subIn K (.ref C_UnknownIndex) (.ref C_UnknownIndex) = some true
  n_UnknownIndex_index : PySem.W.findIn K (.ref C_UnknownIndex) "index" = some none
  ec_UnknownIndex : ExcC K C_UnknownIndex
  C_Ratio : Addr
  g_Ratio : mg "Ratio" = some (.ref C_Ratio)
  cl_Ratio : Cls K C_Ratio
  tc_Ratio : TyC K C_Ratio
  rd_Ratio : ClX.CRead K C_Ratio (.type "type")
  mk_Ratio : PySem.W.makesIn K C_Ratio = true
  kp_Ratio : PySem.W.keepIn K (.ref C_Ratio) = true
  sf_Ratio : PySem.W.selfFirst K C_Ratio = true
  mr_Ratio : ∃ cd, PySem.W.clsIn K C_Ratio = some cd ∧ cd.mro = [.ref C_Ratio, .type "object"]
  st_Ratio_int : PySem.W.subIn K (.type "int") (.ref C_Ratio) = some false
  st_Ratio_bool : PySem.W.subIn K (.type "bool") (.ref C_Ratio) = some false
  st_Ratio_str : PySem.W.subIn K (.type "str") (.ref C_Ratio) = some false
  st_Ratio_NoneType : PySem.W.subIn K (.type "NoneType") (.ref C_Ratio) = some false
  st_Ratio_tuple : PySem.W.subIn K (.type "tuple") (.ref C_Ratio) = some false
  su_Ratio_int : PySem.W.subIn K (.ref C_Ratio) (.type "int") = some false
  su_Ratio_bool : PySem.W.subIn K (.ref C_Ratio) (.type "bool") = some false
  su_Ratio_tuple : PySem.W.subIn K (.ref C_Ratio) (.type "tuple") = some false
  su_Ratio_str : PySem.W.subIn K (.ref C_Ratio) (.type "str") = some false
  su_Ratio_NoneType : PySem.W.subIn K (.ref C_Ratio) (.type "NoneType") = some false
  n_Ratio_top : NoAttr K C_Ratio "top"
  n_Ratio_bottom : NoAttr K C_Ratio "bottom"
  sx_InvalidNumber_PoolError : PySem.W.subIn K (.ref C_InvalidNumber) (.ref C_PoolError) = some true
  sx_InvalidNumber_InvalidDrop : PySem.W.subIn K (.ref C_InvalidNumber) (.ref C_InvalidDrop) = some false
  sx_InvalidNumber_InvalidTime : PySem.W.subIn K (.ref C_InvalidNumber) (.ref C_InvalidTime) = some false
  sx_InvalidNumber_InvalidText : PySem.W.subIn K (.ref C_InvalidNumber) (.ref C_InvalidText) = some false
  sx_InvalidNumber_InvalidCommand : PySem.W.subIn K (.ref C_InvalidNumber) (.ref C_InvalidCommand) = some false
  sx_InvalidNumber_Full : PySem.W.subIn K (.ref C_InvalidNumber) (.ref C_Full) = some false
  sx_InvalidNumber_MissingDrop : PySem.W.subIn K (.ref C_InvalidNumber) (.ref C_MissingDrop) = some false
  sx_InvalidNumber_Touching : PySem.W.subIn K (.ref C_InvalidNumber) (.ref C_Touching) = some false
  sx_InvalidNumber_OutOfGround : PySem.W.subIn K (.ref C_InvalidNumber) (.ref C_OutOfGround) = some false
  sx_InvalidNumber_Overfull : PySem.W.subIn K (.ref C_InvalidNumber) (.ref C_Overfull) = some false
  sx_InvalidNumber_TrialError : PySem.W.subIn K (.ref C_InvalidNumber) (.ref C_TrialError) = some false
  sx_InvalidNumber_UnknownIndex : PySem.W.subIn K (.ref C_InvalidNumber) (.ref C_UnknownIndex) = some false
  sx_InvalidDrop_PoolError : PySem.W.subIn K (.ref C_InvalidDrop) (.ref C_PoolError) = some true
  sx_InvalidDrop_InvalidNumber : PySem.W.subIn K (.ref C_InvalidDrop) (.ref C_InvalidNumber) = some false
  sx_InvalidDrop_InvalidTime : PySem.W.subIn K (.ref C_InvalidDrop) (.ref C_InvalidTime) = some false
  sx_InvalidDrop_InvalidText : PySem.W.subIn K (.ref C_InvalidDrop) (.ref C_InvalidText) = some false
  sx_InvalidDrop_InvalidCommand : PySem.W.subIn K (.ref C_InvalidDrop) (.ref C_InvalidCommand) = some false
  sx_InvalidDrop_Full : PySem.W.subIn K (.ref C_InvalidDrop) (.ref C_Full) = some false
  sx_InvalidDrop_MissingDrop : PySem.W.subIn K (.ref C_InvalidDrop) (.ref C_MissingDrop) = some false
  sx_InvalidDrop_Touching : PySem.W.subIn K (.ref C_InvalidDrop) (.ref C_Touching) = some false
  sx_InvalidDrop_OutOfGround : PySem.W.subIn K (.ref C_InvalidDrop) (.ref C_OutOfGround) = some false
  sx_InvalidDrop_Overfull : PySem.W.subIn K (.ref C_InvalidDrop) (.ref C_Overfull) = some false
  sx_InvalidDrop_TrialError : PySem.W.subIn K (.ref C_InvalidDrop) (.ref C_TrialError) = some false
  sx_InvalidDrop_UnknownIndex : PySem.W.subIn K (.ref C_InvalidDrop) (.ref C_UnknownIndex) = some false
  sx_InvalidTime_PoolError : PySem.W.subIn K (.ref C_InvalidTime) (.ref C_PoolError) = some true
  sx_InvalidTime_InvalidNumber : PySem.W.subIn K (.ref C_InvalidTime) (.ref C_InvalidNumber) = some false
  sx_InvalidTime_InvalidDrop : PySem.W.subIn K (.ref C_InvalidTime) (.ref C_InvalidDrop) = some false
  sx_InvalidTime_InvalidText : PySem.W.subIn K (.ref C_InvalidTime) (.ref C_InvalidText) = some false
  sx_InvalidTime_InvalidCommand : PySem.W.subIn K (.ref C_InvalidTime) (.ref C_InvalidCommand) = some false
  sx_InvalidTime_Full : PySem.W.subIn K (.ref C_InvalidTime) (.ref C_Full) = some false
  sx_InvalidTime_MissingDrop : PySem.W.subIn K (.ref C_InvalidTime) (.ref C_MissingDrop) = some false
  sx_InvalidTime_Touching : PySem.W.subIn K (.ref C_InvalidTime) (.ref C_Touching) = some false
  sx_InvalidTime_OutOfGround : PySem.W.subIn K (.ref C_InvalidTime) (.ref C_OutOfGround) = some false
  sx_InvalidTime_Overfull : PySem.W.subIn K (.ref C_InvalidTime) (.ref C_Overfull) = some false
  sx_InvalidTime_TrialError : PySem.W.subIn K (.ref C_InvalidTime) (.ref C_TrialError) = some false
  sx_InvalidTime_UnknownIndex : PySem.W.subIn K (.ref C_InvalidTime) (.ref C_UnknownIndex) = some false
  sx_InvalidText_PoolError : PySem.W.subIn K (.ref C_InvalidText) (.ref C_PoolError) = some true
  sx_InvalidText_InvalidNumber : PySem.W.subIn K (.ref C_InvalidText) (.ref C_InvalidNumber) = some false
  sx_InvalidText_InvalidDrop : PySem.W.subIn K (.ref C_InvalidText) (.ref C_InvalidDrop) = some false
  sx_InvalidText_InvalidTime : PySem.W.subIn K (.ref C_InvalidText) (.ref C_InvalidTime) = some false
  sx_InvalidText_InvalidCommand : PySem.W.subIn K (.ref C_InvalidText) (.ref C_InvalidCommand) = some false
  sx_InvalidText_Full : PySem.W.subIn K (.ref C_InvalidText) (.ref C_Full) = some false
  sx_InvalidText_MissingDrop : PySem.W.subIn K (.ref C_InvalidText) (.ref C_MissingDrop) = some false
  sx_InvalidText_Touching : PySem.W.subIn K (.ref C_InvalidText) (.ref C_Touching) = some false
  sx_InvalidText_OutOfGround : PySem.W.subIn K (.ref C_InvalidText) (.ref C_OutOfGround) = some false
  sx_InvalidText_Overfull : PySem.W.subIn K (.ref C_InvalidText) (.ref C_Overfull) = some false
  sx_InvalidText_TrialError : PySem.W.subIn K (.ref C_InvalidText) (.ref C_TrialError) = some false
  sx_InvalidText_UnknownIndex : PySem.W.subIn K (.ref C_InvalidText) (.ref C_UnknownIndex) = some false
  sx_Full_PoolError : PySem.W.subIn K (.ref C_Full) (.ref C_PoolError) = some true
  sx_Full_InvalidNumber : PySem.W.subIn K (.ref C_Full) (.ref C_InvalidNumber) = some false
  sx_Full_InvalidDrop : PySem.W.subIn K (.ref C_Full) (.ref C_InvalidDrop) = some false
  sx_Full_InvalidTime : PySem.W.subIn K (.ref C_Full) (.ref C_InvalidTime) = some false
  sx_Full_InvalidText : PySem.W.subIn K (.ref C_Full) (.ref C_InvalidText) = some false
  sx_Full_InvalidCommand : PySem.W.subIn K (.ref C_Full) (.ref C_InvalidCommand) = some false
  sx_Full_MissingDrop : PySem.W.subIn K (.ref C_Full) (.ref C_MissingDrop) = some false
  sx_Full_Touching : PySem.W.subIn K (.ref C_Full) (.ref C_Touching) = some false
  sx_Full_OutOfGround : PySem.W.subIn K (.ref C_Full) (.ref C_OutOfGround) = some false
  sx_Full_Overfull : PySem.W.subIn K (.ref C_Full) (.ref C_Overfull) = some false
  sx_Full_TrialError : PySem.W.subIn K (.ref C_Full) (.ref C_TrialError) = some false
  sx_Full_UnknownIndex : PySem.W.subIn K (.ref C_Full) (.ref C_UnknownIndex) = some false
  sx_MissingDrop_PoolError : PySem.W.subIn K (.ref C_MissingDrop) (.ref C_PoolError) = some true
  sx_MissingDrop_InvalidNumber : PySem.W.subIn K (.ref C_MissingDrop) (.ref C_InvalidNumber) = some false
  sx_MissingDrop_InvalidDrop : PySem.W.subIn K (.ref C_MissingDrop) (.ref C_InvalidDrop) = some false
  sx_MissingDrop_InvalidTime : PySem.W.subIn K (.ref C_MissingDrop) (.ref C_InvalidTime) = some false
  sx_MissingDrop_InvalidText : PySem.W.subIn K (.ref C_MissingDrop) (.ref C_InvalidText) = some false
  sx_MissingDrop_InvalidCommand : PySem.W.subIn K (.ref C_MissingDrop) (.ref C_InvalidCommand) = some false
  sx_MissingDrop_Full : PySem.W.subIn K (.ref C_MissingDrop) (.ref C_Full) = some false
  sx_MissingDrop_Touching : PySem.W.subIn K (.ref C_MissingDrop) (.ref C_Touching) = some false
  sx_MissingDrop_OutOfGround : PySem.W.subIn K (.ref C_MissingDrop) (.ref C_OutOfGround) = some false
  sx_MissingDrop_Overfull : PySem.W.subIn K (.ref C_MissingDrop) (.ref C_Overfull) = some false
  sx_MissingDrop_TrialError : PySem.W.subIn K (.ref C_MissingDrop) (.ref C_TrialError) = some false
  sx_MissingDrop_UnknownIndex : PySem.W.subIn K (.ref C_MissingDrop) (.ref C_UnknownIndex) = some false
  sx_Touching_PoolError : PySem.W.subIn K (.ref C_Touching) (.ref C_PoolError) = some true
  sx_Touching_InvalidNumber : PySem.W.subIn K (.ref C_Touching) (.ref C_InvalidNumber) = some false
  sx_Touching_InvalidDrop : PySem.W.subIn K (.ref C_Touching) (.ref C_InvalidDrop) = some false
  sx_Touching_InvalidTime : PySem.W.subIn K (.ref C_Touching) (.ref C_InvalidTime) = some false
  sx_Touching_InvalidText : PySem.W.subIn K (.ref C_Touching) (.ref C_InvalidText) = some false
  sx_Touching_InvalidCommand : PySem.W.subIn K (.ref C_Touching) (.ref C_InvalidCommand) = some false
  sx_Touching_Full : PySem.W.subIn K (.ref C_Touching) (.ref C_Full) = some false
  sx_Touching_MissingDrop : PySem.W.subIn K (.ref C_Touching) (.ref C_MissingDrop) = some false
  sx_Touching_OutOfGround : PySem.W.subIn K (.ref C_Touching) (.ref C_OutOfGround) = some false
  sx_Touching_Overfull : PySem.W.subIn K (.ref C_Touching) (.ref C_Overfull) = some false
  sx_Touching_TrialError : PySem.W.subIn K (.ref C_Touching) (.ref C_TrialError) = some false
  sx_Touching_UnknownIndex : PySem.W.subIn K (.ref C_Touching) (.ref C_UnknownIndex) = some false
  sx_OutOfGround_PoolError : PySem.W.subIn K (.ref C_OutOfGround) (.ref C_PoolError) = some true
  sx_OutOfGround_InvalidNumber : PySem.W.subIn K (.ref C_OutOfGround) (.ref C_InvalidNumber) = some false
  sx_OutOfGround_InvalidDrop : PySem.W.subIn K (.ref C_OutOfGround) (.ref C_InvalidDrop) = some false
  sx_OutOfGround_InvalidTime : PySem.W.subIn K (.ref C_OutOfGround) (.ref C_InvalidTime) = some false
  sx_OutOfGround_InvalidText : PySem.W.subIn K (.ref C_OutOfGround) (.ref C_InvalidText) = some false
  sx_OutOfGround_InvalidCommand : PySem.W.subIn K (.ref C_OutOfGround) (.ref C_InvalidCommand) = some false
  sx_OutOfGround_Full : PySem.W.subIn K (.ref C_OutOfGround) (.ref C_Full) = some false
  sx_OutOfGround_MissingDrop : PySem.W.subIn K (.ref C_OutOfGround) (.ref C_MissingDrop) = some false
  sx_OutOfGround_Touching : PySem.W.subIn K (.ref C_OutOfGround) (.ref C_Touching) = some false
  sx_OutOfGround_Overfull : PySem.W.subIn K (.ref C_OutOfGround) (.ref C_Overfull) = some false
  sx_OutOfGround_TrialError : PySem.W.subIn K (.ref C_OutOfGround) (.ref C_TrialError) = some false
  sx_OutOfGround_UnknownIndex : PySem.W.subIn K (.ref C_OutOfGround) (.ref C_UnknownIndex) = some false
  sx_Overfull_PoolError : PySem.W.subIn K (.ref C_Overfull) (.ref C_PoolError) = some true
  sx_Overfull_InvalidNumber : PySem.W.subIn K (.ref C_Overfull) (.ref C_InvalidNumber) = some false
  sx_Overfull_InvalidDrop : PySem.W.subIn K (.ref C_Overfull) (.ref C_InvalidDrop) = some false
  sx_Overfull_InvalidTime : PySem.W.subIn K (.ref C_Overfull) (.ref C_InvalidTime) = some false
  sx_Overfull_InvalidText : PySem.W.subIn K (.ref C_Overfull) (.ref C_InvalidText) = some false
  sx_Overfull_InvalidCommand : PySem.W.subIn K (.ref C_Overfull) (.ref C_InvalidCommand) = some false
  sx_Overfull_Full : PySem.W.subIn K (.ref C_Overfull) (.ref C_Full) = some false
  sx_Overfull_MissingDrop : PySem.W.subIn K (.ref C_Overfull) (.ref C_MissingDrop) = some false
  sx_Overfull_Touching : PySem.W.subIn K (.ref C_Overfull) (.ref C_Touching) = some false
  sx_Overfull_OutOfGround : PySem.W.subIn K (.ref C_Overfull) (.ref C_OutOfGround) = some false
  sx_Overfull_TrialError : PySem.W.subIn K (.ref C_Overfull) (.ref C_TrialError) = some false
  sx_Overfull_UnknownIndex : PySem.W.subIn K (.ref C_Overfull) (.ref C_UnknownIndex) = some false
  sx_InvalidCommand_PoolError : PySem.W.subIn K (.ref C_InvalidCommand) (.ref C_PoolError) = some true
  sx_InvalidCommand_InvalidNumber : PySem.W.subIn K (.ref C_InvalidCommand) (.ref C_InvalidNumber) = some false
  sx_InvalidCommand_InvalidDrop : PySem.W.subIn K (.ref C_InvalidCommand) (.ref C_InvalidDrop) = some false
  sx_InvalidCommand_InvalidTime : PySem.W.subIn K (.ref C_InvalidCommand) (.ref C_InvalidTime) = some false
  sx_InvalidCommand_InvalidText : PySem.W.subIn K (.ref C_InvalidCommand) (.ref C_InvalidText) = some false
  sx_InvalidCommand_Full : PySem.W.subIn K (.ref C_InvalidCommand) (.ref C_Full) = some false
  sx_InvalidCommand_MissingDrop : PySem.W.subIn K (.ref C_InvalidCommand) (.ref C_MissingDrop) = some false
  sx_InvalidCommand_Touching : PySem.W.subIn K (.ref C_InvalidCommand) (.ref C_Touching) = some false
  sx_InvalidCommand_OutOfGround : PySem.W.subIn K (.ref C_InvalidCommand) (.ref C_OutOfGround) = some false
  sx_InvalidCommand_Overfull : PySem.W.subIn K (.ref C_InvalidCommand) (.ref C_Overfull) = some false
  sx_InvalidCommand_TrialError : PySem.W.subIn K (.ref C_InvalidCommand) (.ref C_TrialError) = some false
  sx_InvalidCommand_UnknownIndex : PySem.W.subIn K (.ref C_InvalidCommand) (.ref C_UnknownIndex) = some false
  sx_TrialError_PoolError : PySem.W.subIn K (.ref C_TrialError) (.ref C_PoolError) = some true
  sx_TrialError_InvalidNumber : PySem.W.subIn K (.ref C_TrialError) (.ref C_InvalidNumber) = some false
  sx_TrialError_InvalidDrop : PySem.W.subIn K (.ref C_TrialError) (.ref C_InvalidDrop) = some false
  sx_TrialError_InvalidTime : PySem.W.subIn K (.ref C_TrialError) (.ref C_InvalidTime) = some false
  sx_TrialError_InvalidText : PySem.W.subIn K (.ref C_TrialError) (.ref C_InvalidText) = some false
  sx_TrialError_InvalidCommand : PySem.W.subIn K (.ref C_TrialError) (.ref C_InvalidCommand) = some false
  sx_TrialError_Full : PySem.W.subIn K (.ref C_TrialError) (.ref C_Full) = some false
  sx_TrialError_MissingDrop : PySem.W.subIn K (.ref C_TrialError) (.ref C_MissingDrop) = some false
  sx_TrialError_Touching : PySem.W.subIn K (.ref C_TrialError) (.ref C_Touching) = some false
  sx_TrialError_OutOfGround : PySem.W.subIn K (.ref C_TrialError) (.ref C_OutOfGround) = some false
  sx_TrialError_Overfull : PySem.W.subIn K (.ref C_TrialError) (.ref C_Overfull) = some false
  sx_TrialError_UnknownIndex : PySem.W.subIn K (.ref C_TrialError) (.ref C_UnknownIndex) = some false
  sx_UnknownIndex_PoolError : PySem.W.subIn K (.ref C_UnknownIndex) (.ref C_PoolError) = some false
  sx_UnknownIndex_InvalidNumber : PySem.W.subIn K (.ref C_UnknownIndex) (.ref C_InvalidNumber) = some false
  sx_UnknownIndex_InvalidDrop : PySem.W.subIn K (.ref C_UnknownIndex) (.ref C_InvalidDrop) = some false
  sx_UnknownIndex_InvalidTime : PySem.W.subIn K (.ref C_UnknownIndex) (.ref C_InvalidTime) = some false
  sx_UnknownIndex_InvalidText : PySem.W.subIn K (.ref C_UnknownIndex) (.ref C_InvalidText) = some false
  sx_UnknownIndex_InvalidCommand : PySem.W.subIn K (.ref C_UnknownIndex) (.ref C_InvalidCommand) = some false
  sx_UnknownIndex_Full : PySem.W.subIn K (.ref C_UnknownIndex) (.ref C_Full) = some false
  sx_UnknownIndex_MissingDrop : PySem.W.subIn K (.ref C_UnknownIndex) (.ref C_MissingDrop) = some false
  sx_UnknownIndex_Touching : PySem.W.subIn K (.ref C_UnknownIndex) (.ref C_Touching) = some false
  sx_UnknownIndex_OutOfGround : PySem.W.subIn K (.ref C_UnknownIndex) (.ref C_OutOfGround) = some false
  sx_UnknownIndex_Overfull : PySem.W.subIn K (.ref C_UnknownIndex) (.ref C_Overfull) = some false
  sx_UnknownIndex_TrialError : PySem.W.subIn K (.ref C_UnknownIndex) (.ref C_TrialError) = some false
  f_InvalidNumber_init_d : Addr
  d_InvalidNumber_init_d : FuncData
  F_InvalidNumber_init_d : Fun K "__init__" "InvalidNumber.__init__" s_InvalidNumber_init_d f_InvalidNumber_init_d d_InvalidNumber_init_d
  B_InvalidNumber_init_d : Binds K d_InvalidNumber_init_d ["self", "value"] []
  m_InvalidNumber_init_d : Spc K C_InvalidNumber "__init__" f_InvalidNumber_init_d
  t_InvalidNumber_init_d : PySem.W.typeIn K (.ref f_InvalidNumber_init_d) = some (.type "function")
  f_InvalidDrop_init_d : Addr
  d_InvalidDrop_init_d : FuncData
  F_InvalidDrop_init_d : Fun K "__init__" "InvalidDrop.__init__" s_InvalidDrop_init_d f_InvalidDrop_init_d d_InvalidDrop_init_d
  B_InvalidDrop_init_d : Binds K d_InvalidDrop_init_d ["self", "index"] []
  m_InvalidDrop_init_d : Spc K C_InvalidDrop "__init__" f_InvalidDrop_init_d
  t_InvalidDrop_init_d : PySem.W.typeIn K (.ref f_InvalidDrop_init_d) = some (.type "function")
  f_InvalidTime_init_d : Addr
  d_InvalidTime_init_d : FuncData
  F_InvalidTime_init_d : Fun K "__init__" "InvalidTime.__init__" s_InvalidTime_init_d f_InvalidTime_init_d d_InvalidTime_init_d
  B_InvalidTime_init_d : Binds K d_InvalidTime_init_d ["self", "time"] []
  m_InvalidTime_init_d : Spc K C_InvalidTime "__init__" f_InvalidTime_init_d
  t_InvalidTime_init_d : PySem.W.typeIn K (.ref f_InvalidTime_init_d) = some (.type "function")
  f_InvalidText_init_d : Addr
  d_InvalidText_init_d : FuncData
  F_InvalidText_init_d : Fun K "__init__" "InvalidText.__init__" s_InvalidText_init_d f_InvalidText_init_d d_InvalidText_init_d
  B_InvalidText_init_d : Binds K d_InvalidText_init_d ["self", "line"] []
  m_InvalidText_init_d : Spc K C_InvalidText "__init__" f_InvalidText_init_d
  t_InvalidText_init_d : PySem.W.typeIn K (.ref f_InvalidText_init_d) = some (.type "function")
  f_Full_init_d : Addr
  d_Full_init_d : FuncData
  F_Full_init_d : Fun K "__init__" "Full.__init__" s_Full_init_d f_Full_init_d d_Full_init_d
  B_Full_init_d : Binds K d_Full_init_d ["self", "limit"] []
  m_Full_init_d : Spc K C_Full "__init__" f_Full_init_d
  t_Full_init_d : PySem.W.typeIn K (.ref f_Full_init_d) = some (.type "function")
  f_MissingDrop_init_d : Addr
  d_MissingDrop_init_d : FuncData
  F_MissingDrop_init_d : Fun K "__init__" "MissingDrop.__init__" s_MissingDrop_init_d f_MissingDrop_init_d d_MissingDrop_init_d
  B_MissingDrop_init_d : Binds K d_MissingDrop_init_d ["self", "spot", "amount"] []
  m_MissingDrop_init_d : Spc K C_MissingDrop "__init__" f_MissingDrop_init_d
  t_MissingDrop_init_d : PySem.W.typeIn K (.ref f_MissingDrop_init_d) = some (.type "function")
  f_Touching_init_d : Addr
  d_Touching_init_d : FuncData
  F_Touching_init_d : Fun K "__init__" "Touching.__init__" s_Touching_init_d f_Touching_init_d d_Touching_init_d
  B_Touching_init_d : Binds K d_Touching_init_d ["self", "index"] []
  m_Touching_init_d : Spc K C_Touching "__init__" f_Touching_init_d
  t_Touching_init_d : PySem.W.typeIn K (.ref f_Touching_init_d) = some (.type "function")
  f_OutOfGround_init_d : Addr
  d_OutOfGround_init_d : FuncData
  F_OutOfGround_init_d : Fun K "__init__" "OutOfGround.__init__" s_OutOfGround_init_d f_OutOfGround_init_d d_OutOfGround_init_d
  B_OutOfGround_init_d : Binds K d_OutOfGround_init_d ["self", "spot"] []
  m_OutOfGround_init_d : Spc K C_OutOfGround "__init__" f_OutOfGround_init_d
  t_OutOfGround_init_d : PySem.W.typeIn K (.ref f_OutOfGround_init_d) = some (.type "function")
  f_Overfull_init_d : Addr
  d_Overfull_init_d : FuncData
  F_Overfull_init_d : Fun K "__init__" "Overfull.__init__" s_Overfull_init_d f_Overfull_init_d d_Overfull_init_d
  B_Overfull_init_d : Binds K d_Overfull_init_d ["self", "total"] []
  m_Overfull_init_d : Spc K C_Overfull "__init__" f_Overfull_init_d
  t_Overfull_init_d : PySem.W.typeIn K (.ref f_Overfull_init_d) = some (.type "function")
  f_UnknownIndex_init_d : Addr
  d_UnknownIndex_init_d : FuncData
  F_UnknownIndex_init_d : Fun K "__init__" "UnknownIndex.__init__" s_UnknownIndex_init_d f_UnknownIndex_init_d d_UnknownIndex_init_d
  B_UnknownIndex_init_d : Binds K d_UnknownIndex_init_d ["self", "index"] []
  m_UnknownIndex_init_d : Spc K C_UnknownIndex "__init__" f_UnknownIndex_init_d
  t_UnknownIndex_init_d : PySem.W.typeIn K (.ref f_UnknownIndex_init_d) = some (.type "function")
  f_Ratio_init_d : Addr
  d_Ratio_init_d : FuncData
  F_Ratio_init_d : FunD K "__init__" "Ratio.__init__" (defArgs s_Ratio_init_d) (defBody s_Ratio_init_d) (defScope s_Ratio_init_d) [V.int 1] [] f_Ratio_init_d d_Ratio_init_d
  m_Ratio_init_d : Spc K C_Ratio "__init__" f_Ratio_init_d
  f_lw_box : Addr
  d_lw_box : FuncData
  F_lw_box : Fun K "_law_box" "_law_box" s_lw_box f_lw_box d_lw_box
  B_lw_box : Binds K d_lw_box ["_law_script", "_law_k"] []
  g_lw_box : mg "_law_box" = some (.ref f_lw_box)
  f_lw_take : Addr
  d_lw_take : FuncData
  F_lw_take : Fun K "_law_take" "_law_take" s_lw_take f_lw_take d_lw_take
  B_lw_take : Binds K d_lw_take ["_law_box_here", "_law_many"] []
  g_lw_take : mg "_law_take" = some (.ref f_lw_take)
  f_lw_value : Addr
  d_lw_value : FuncData
  F_lw_value : Fun K "_law_value" "_law_value" s_lw_value f_lw_value d_lw_value
  B_lw_value : Binds K d_lw_value ["_law_box_here", "_law_deep"] []
  g_lw_value : mg "_law_value" = some (.ref f_lw_value)
  f_lw_alike : Addr
  d_lw_alike : FuncData
  F_lw_alike : Fun K "_law_alike" "_law_alike" s_lw_alike f_lw_alike d_lw_alike
  B_lw_alike : Binds K d_lw_alike ["_law_found", "_law_due"] []
  g_lw_alike : mg "_law_alike" = some (.ref f_lw_alike)
  f_lw_placed : Addr
  d_lw_placed : FuncData
  F_lw_placed : Fun K "_law_placed" "_law_placed" s_lw_placed f_lw_placed d_lw_placed
  B_lw_placed : Binds K d_lw_placed ["_law_a", "_law_b"] []
  g_lw_placed : mg "_law_placed" = some (.ref f_lw_placed)
  f_lw_named : Addr
  d_lw_named : FuncData
  F_lw_named : Fun K "_law_named" "_law_named" s_lw_named f_lw_named d_lw_named
  B_lw_named : Binds K d_lw_named ["_law_a", "_law_b"] []
  g_lw_named : mg "_law_named" = some (.ref f_lw_named)
  f_lw_kinds : Addr
  d_lw_kinds : FuncData
  F_lw_kinds : Fun K "_law_kinds" "_law_kinds" s_lw_kinds f_lw_kinds d_lw_kinds
  B_lw_kinds : Binds K d_lw_kinds ["_law_e"] []
  g_lw_kinds : mg "_law_kinds" = some (.ref f_lw_kinds)
  f_lw_right : Addr
  d_lw_right : FuncData
  F_lw_right : Fun K "_law_right" "_law_right" s_lw_right f_lw_right d_lw_right
  B_lw_right : Binds K d_lw_right ["_law_errors", "_law_told", "_law_second", "_law_a", "_law_b"] []
  g_lw_right : mg "_law_right" = some (.ref f_lw_right)
  f_law : Addr
  d_law : FuncData
  F_law : Fun K "law" "law" s_law f_law d_law
  B_law : Binds K d_law ["_law_script"] []
  g_law : mg "law" = some (.ref f_law)
  xb_InvalidNumber_ValueError : PySem.W.subIn K (.ref C_InvalidNumber) (.type "ValueError") = some true
  xb_InvalidNumber_IndexError : PySem.W.subIn K (.ref C_InvalidNumber) (.type "IndexError") = some false
  xb_InvalidNumber_KeyError : PySem.W.subIn K (.ref C_InvalidNumber) (.type "KeyError") = some false
  xb_InvalidDrop_ValueError : PySem.W.subIn K (.ref C_InvalidDrop) (.type "ValueError") = some true
  xb_InvalidDrop_IndexError : PySem.W.subIn K (.ref C_InvalidDrop) (.type "IndexError") = some false
  xb_InvalidDrop_KeyError : PySem.W.subIn K (.ref C_InvalidDrop) (.type "KeyError") = some false
  xb_InvalidTime_ValueError : PySem.W.subIn K (.ref C_InvalidTime) (.type "ValueError") = some true
  xb_InvalidTime_IndexError : PySem.W.subIn K (.ref C_InvalidTime) (.type "IndexError") = some false
  xb_InvalidTime_KeyError : PySem.W.subIn K (.ref C_InvalidTime) (.type "KeyError") = some false
  xb_InvalidText_ValueError : PySem.W.subIn K (.ref C_InvalidText) (.type "ValueError") = some true
  xb_InvalidText_IndexError : PySem.W.subIn K (.ref C_InvalidText) (.type "IndexError") = some false
  xb_InvalidText_KeyError : PySem.W.subIn K (.ref C_InvalidText) (.type "KeyError") = some false
  xb_Full_ValueError : PySem.W.subIn K (.ref C_Full) (.type "ValueError") = some true
  xb_Full_IndexError : PySem.W.subIn K (.ref C_Full) (.type "IndexError") = some false
  xb_Full_KeyError : PySem.W.subIn K (.ref C_Full) (.type "KeyError") = some false
  xb_MissingDrop_ValueError : PySem.W.subIn K (.ref C_MissingDrop) (.type "ValueError") = some true
  xb_MissingDrop_IndexError : PySem.W.subIn K (.ref C_MissingDrop) (.type "IndexError") = some false
  xb_MissingDrop_KeyError : PySem.W.subIn K (.ref C_MissingDrop) (.type "KeyError") = some false
  xb_Touching_ValueError : PySem.W.subIn K (.ref C_Touching) (.type "ValueError") = some true
  xb_Touching_IndexError : PySem.W.subIn K (.ref C_Touching) (.type "IndexError") = some false
  xb_Touching_KeyError : PySem.W.subIn K (.ref C_Touching) (.type "KeyError") = some false
  xb_OutOfGround_ValueError : PySem.W.subIn K (.ref C_OutOfGround) (.type "ValueError") = some true
  xb_OutOfGround_IndexError : PySem.W.subIn K (.ref C_OutOfGround) (.type "IndexError") = some false
  xb_OutOfGround_KeyError : PySem.W.subIn K (.ref C_OutOfGround) (.type "KeyError") = some false
  xb_Overfull_ValueError : PySem.W.subIn K (.ref C_Overfull) (.type "ValueError") = some true
  xb_Overfull_IndexError : PySem.W.subIn K (.ref C_Overfull) (.type "IndexError") = some false
  xb_Overfull_KeyError : PySem.W.subIn K (.ref C_Overfull) (.type "KeyError") = some false
  xb_InvalidCommand_ValueError : PySem.W.subIn K (.ref C_InvalidCommand) (.type "ValueError") = some true
  xb_InvalidCommand_IndexError : PySem.W.subIn K (.ref C_InvalidCommand) (.type "IndexError") = some false
  xb_InvalidCommand_KeyError : PySem.W.subIn K (.ref C_InvalidCommand) (.type "KeyError") = some false
  xb_TrialError_ValueError : PySem.W.subIn K (.ref C_TrialError) (.type "ValueError") = some true
  xb_TrialError_IndexError : PySem.W.subIn K (.ref C_TrialError) (.type "IndexError") = some false
  xb_TrialError_KeyError : PySem.W.subIn K (.ref C_TrialError) (.type "KeyError") = some false
  xb_UnknownIndex_ValueError : PySem.W.subIn K (.ref C_UnknownIndex) (.type "ValueError") = some false
  xb_UnknownIndex_IndexError : PySem.W.subIn K (.ref C_UnknownIndex) (.type "IndexError") = some true
  xb_UnknownIndex_KeyError : PySem.W.subIn K (.ref C_UnknownIndex) (.type "KeyError") = some false
  xo_InvalidCommand : PySem.W.excIn K C_InvalidCommand [.type "ValueError", .type "Exception", .type "BaseException", .type "object"] "ValueError.__new__" = true
  xo_TrialError : PySem.W.excIn K C_TrialError [.type "ValueError", .type "Exception", .type "BaseException", .type "object"] "ValueError.__new__" = true
  KB_InvalidNumber : KBn K d_InvalidNumber_init_d ["self", "value"] 1 ["value"] (fun us ws => us ++ ws) (fun us ws => us ++ ws)
  KB_InvalidDrop : KBn K d_InvalidDrop_init_d ["self", "index"] 1 ["index"] (fun us ws => us ++ ws) (fun us ws => us ++ ws)
  KB_InvalidTime : KBn K d_InvalidTime_init_d ["self", "time"] 1 ["time"] (fun us ws => us ++ ws) (fun us ws => us ++ ws)
  KB_InvalidText : KBn K d_InvalidText_init_d ["self", "line"] 1 ["line"] (fun us ws => us ++ ws) (fun us ws => us ++ ws)
  KB_Full : KBn K d_Full_init_d ["self", "limit"] 1 ["limit"] (fun us ws => us ++ ws) (fun us ws => us ++ ws)
  KB_MissingDrop : KBn K d_MissingDrop_init_d ["self", "spot", "amount"] 1 ["amount", "spot"] (fun us ws => us ++ ws.reverse) (fun us ws => us ++ ws.reverse)
  KB_Touching : KBn K d_Touching_init_d ["self", "index"] 1 ["index"] (fun us ws => us ++ ws) (fun us ws => us ++ ws)
  KB_OutOfGround : KBn K d_OutOfGround_init_d ["self", "spot"] 1 ["spot"] (fun us ws => us ++ ws) (fun us ws => us ++ ws)
  KB_Overfull : KBn K d_Overfull_init_d ["self", "total"] 1 ["total"] (fun us ws => us ++ ws) (fun us ws => us ++ ws)
  KB_UnknownIndex : KBn K d_UnknownIndex_init_d ["self", "index"] 1 ["index"] (fun us ws => us ++ ws) (fun us ws => us ++ ws)
abbrev SpK := PySem.W.Frag → Sp
abbrev LvOk (lv : Nat) : Prop := Room lv callerA
abbrev Kept (lv : Nat) (sp : SpK) : Prop := ∀ {P : Program} {w : World} {K : PySem.W.Frag} {mg : Str → Option Value} {base : Heap} (T : Txt K mg), FnG P w K mg base CX0 lv T.f_law T.d_law ["_law_script"] (sp K)
abbrev Asked (sp : SpK) : Prop := ∀ {K : PySem.W.Frag} {H : Hp} {a : Addr} {ns : List Int}, ns.length ≤ 63 → SqL K H a (ns.map V.int) → sp K [.ref a] H (fun v _ => v = .bl true) E0
theorem all_mk {lv : Nat} {sp : SpK} (ok_law : Kept lv sp)
    {P : Program} {w : World} {K : PySem.W.Frag} {h : Heap} {mg : Str → Option Value} {fa : Addr} (X : K.In h) (G : h.Ns mainGlobals mg) (hfa : mg "law" = some (.ref fa)) {C_PoolError C_InvalidNumber C_InvalidDrop C_InvalidTime C_InvalidText C_InvalidCommand C_Full C_MissingDrop C_Touching C_OutOfGround C_Overfull C_TrialError C_UnknownIndex C_Ratio f_InvalidNumber_init_d f_InvalidDrop_init_d f_InvalidTime_init_d f_InvalidText_init_d f_Full_init_d f_MissingDrop_init_d f_Touching_init_d f_OutOfGround_init_d f_Overfull_init_d f_UnknownIndex_init_d f_Ratio_init_d f_lw_box f_lw_take f_lw_value f_lw_alike f_lw_placed f_lw_named f_lw_kinds f_lw_right f_law : Addr}
    {nm_PoolError q_PoolError : Str} {N_PoolError : Addr} {bs_PoolError bm_PoolError : List Value} {sn_PoolError : List Str} {sub_PoolError : List Value} {ab_PoolError : Bool} {col_PoolError : Option Bool} {dd_PoolError : Option Addr} {k0_PoolError k1_PoolError k2_PoolError k3_PoolError k5_PoolError : Option Value} {nm_InvalidNumber q_InvalidNumber : Str} {N_InvalidNumber : Addr} {bs_InvalidNumber bm_InvalidNumber : List Value} {sn_InvalidNumber : List Str} {sub_InvalidNumber : List Value} {ab_InvalidNumber : Bool} {col_InvalidNumber : Option Bool} {dd_InvalidNumber : Option Addr} {k0_InvalidNumber k1_InvalidNumber k2_InvalidNumber k3_InvalidNumber k5_InvalidNumber : Option Value} {nm_InvalidDrop q_InvalidDrop : Str} {N_InvalidDrop : Addr} {bs_InvalidDrop bm_InvalidDrop : List Value} {sn_InvalidDrop : List Str} {sub_InvalidDrop : List Value} {ab_InvalidDrop : Bool} {col_InvalidDrop : Option Bool} {dd_InvalidDrop : Option Addr} {k0_InvalidDrop k1_InvalidDrop k2_InvalidDrop k3_InvalidDrop k5_InvalidDrop : Option Value} {nm_InvalidTime q_InvalidTime : Str} {N_InvalidTime : Addr} {bs_InvalidTime bm_InvalidTime : List Value} {sn_InvalidTime : List Str} {sub_InvalidTime : List Value} {ab_InvalidTime : Bool} {col_InvalidTime : Option Bool} {dd_InvalidTime : Option Addr} {k0_InvalidTime k1_InvalidTime k2_InvalidTime k3_InvalidTime k5_InvalidTime : Option Value} {nm_InvalidText q_InvalidText : Str} {N_InvalidText : Addr} {bs_InvalidText bm_InvalidText : List Value} {sn_InvalidText : List Str} {sub_InvalidText : List Value} {ab_InvalidText : Bool} {col_InvalidText : Option Bool} {dd_InvalidText : Option Addr} {k0_InvalidText k1_InvalidText k2_InvalidText k3_InvalidText k5_InvalidText : Option Value} {nm_InvalidCommand q_InvalidCommand : Str} {N_InvalidCommand : Addr} {bs_InvalidCommand bm_InvalidCommand : List Value} {sn_InvalidCommand : List Str} {sub_InvalidCommand : List Value} {ab_InvalidCommand : Bool} {col_InvalidCommand : Option Bool} {dd_InvalidCommand : Option Addr} {k0_InvalidCommand k1_InvalidCommand k2_InvalidCommand k3_InvalidCommand k5_InvalidCommand : Option Value} {nm_Full q_Full : Str} {N_Full : Addr} {bs_Full bm_Full : List Value} {sn_Full : List Str} {sub_Full : List Value} {ab_Full : Bool} {col_Full : Option Bool} {dd_Full : Option Addr} {k0_Full k1_Full k2_Full k3_Full k5_Full : Option Value} {nm_MissingDrop q_MissingDrop : Str} {N_MissingDrop : Addr} {bs_MissingDrop bm_MissingDrop : List Value} {sn_MissingDrop : List Str} {sub_MissingDrop : List Value} {ab_MissingDrop : Bool} {col_MissingDrop : Option Bool} {dd_MissingDrop : Option Addr} {k0_MissingDrop k1_MissingDrop k2_MissingDrop k3_MissingDrop k5_MissingDrop : Option Value} {nm_Touching q_Touching : Str} {N_Touching : Addr} {bs_Touching bm_Touching : List Value} {sn_Touching : List Str} {sub_Touching : List Value} {ab_Touching : Bool} {col_Touching : Option Bool} {dd_Touching : Option Addr} {k0_Touching k1_Touching k2_Touching k3_Touching k5_Touching : Option Value} {nm_OutOfGround q_OutOfGround : Str} {N_OutOfGround : Addr} {bs_OutOfGround bm_OutOfGround : List Value} {sn_OutOfGround : List Str} {sub_OutOfGround : List Value} {ab_OutOfGround : Bool} {col_OutOfGround : Option Bool} {dd_OutOfGround : Option Addr} {k0_OutOfGround k1_OutOfGround k2_OutOfGround k3_OutOfGround k5_OutOfGround : Option Value} {nm_Overfull q_Overfull : Str} {N_Overfull : Addr} {bs_Overfull bm_Overfull : List Value} {sn_Overfull : List Str} {sub_Overfull : List Value} {ab_Overfull : Bool} {col_Overfull : Option Bool} {dd_Overfull : Option Addr} {k0_Overfull k1_Overfull k2_Overfull k3_Overfull k5_Overfull : Option Value} {nm_TrialError q_TrialError : Str} {N_TrialError : Addr} {bs_TrialError bm_TrialError : List Value} {sn_TrialError : List Str} {sub_TrialError : List Value} {ab_TrialError : Bool} {col_TrialError : Option Bool} {dd_TrialError : Option Addr} {k0_TrialError k1_TrialError k2_TrialError k3_TrialError k5_TrialError : Option Value} {nm_UnknownIndex q_UnknownIndex : Str} {N_UnknownIndex : Addr} {bs_UnknownIndex : List Value} {sn_UnknownIndex : List Str} {sub_UnknownIndex : List Value} {ab_UnknownIndex : Bool} {col_UnknownIndex : Option Bool} {dd_UnknownIndex : Option Addr} {k0_UnknownIndex k1_UnknownIndex k2_UnknownIndex k3_UnknownIndex k5_UnknownIndex : Option Value} {cd_Ratio : ClassData} {oc_InvalidNumber_init_d kV_InvalidNumber_init_d dc_InvalidNumber_init_d pm_InvalidNumber_init_d cd_InvalidNumber_init_d ct_InvalidNumber_init_d : Value} {od_InvalidNumber_init_d an_InvalidNumber_init_d : Option Addr} {sl_InvalidNumber_init_d : Array (Option Value)} {oc_InvalidDrop_init_d kV_InvalidDrop_init_d dc_InvalidDrop_init_d pm_InvalidDrop_init_d cd_InvalidDrop_init_d ct_InvalidDrop_init_d : Value} {od_InvalidDrop_init_d an_InvalidDrop_init_d : Option Addr} {sl_InvalidDrop_init_d : Array (Option Value)} {oc_InvalidTime_init_d kV_InvalidTime_init_d dc_InvalidTime_init_d pm_InvalidTime_init_d cd_InvalidTime_init_d ct_InvalidTime_init_d : Value} {od_InvalidTime_init_d an_InvalidTime_init_d : Option Addr} {sl_InvalidTime_init_d : Array (Option Value)} {oc_InvalidText_init_d kV_InvalidText_init_d dc_InvalidText_init_d pm_InvalidText_init_d cd_InvalidText_init_d ct_InvalidText_init_d : Value} {od_InvalidText_init_d an_InvalidText_init_d : Option Addr} {sl_InvalidText_init_d : Array (Option Value)} {oc_Full_init_d kV_Full_init_d dc_Full_init_d pm_Full_init_d cd_Full_init_d ct_Full_init_d : Value} {od_Full_init_d an_Full_init_d : Option Addr} {sl_Full_init_d : Array (Option Value)} {oc_MissingDrop_init_d kV_MissingDrop_init_d dc_MissingDrop_init_d pm_MissingDrop_init_d cd_MissingDrop_init_d ct_MissingDrop_init_d : Value} {od_MissingDrop_init_d an_MissingDrop_init_d : Option Addr} {sl_MissingDrop_init_d : Array (Option Value)} {oc_Touching_init_d kV_Touching_init_d dc_Touching_init_d pm_Touching_init_d cd_Touching_init_d ct_Touching_init_d : Value} {od_Touching_init_d an_Touching_init_d : Option Addr} {sl_Touching_init_d : Array (Option Value)} {oc_OutOfGround_init_d kV_OutOfGround_init_d dc_OutOfGround_init_d pm_OutOfGround_init_d cd_OutOfGround_init_d ct_OutOfGround_init_d : Value} {od_OutOfGround_init_d an_OutOfGround_init_d : Option Addr} {sl_OutOfGround_init_d : Array (Option Value)} {oc_Overfull_init_d kV_Overfull_init_d dc_Overfull_init_d pm_Overfull_init_d cd_Overfull_init_d ct_Overfull_init_d : Value} {od_Overfull_init_d an_Overfull_init_d : Option Addr} {sl_Overfull_init_d : Array (Option Value)} {oc_UnknownIndex_init_d kV_UnknownIndex_init_d dc_UnknownIndex_init_d pm_UnknownIndex_init_d cd_UnknownIndex_init_d ct_UnknownIndex_init_d : Value} {od_UnknownIndex_init_d an_UnknownIndex_init_d : Option Addr} {sl_UnknownIndex_init_d : Array (Option Value)} {oc_Ratio_init_d kV_Ratio_init_d dc_Ratio_init_d pm_Ratio_init_d cd_Ratio_init_d ct_Ratio_init_d : Value} {od_Ratio_init_d an_Ratio_init_d : Option Addr} {sl_Ratio_init_d : Array (Option Value)} {T_Ratio_init_d : Addr} {to_Ratio_init_d : Obj} {ti_Ratio_init_d : List Value} {tn_Ratio_init_d : Nat} {oc_lw_box kV_lw_box dc_lw_box pm_lw_box cd_lw_box ct_lw_box : Value} {od_lw_box an_lw_box : Option Addr} {sl_lw_box : Array (Option Value)} {oc_lw_take kV_lw_take dc_lw_take pm_lw_take cd_lw_take ct_lw_take : Value} {od_lw_take an_lw_take : Option Addr} {sl_lw_take : Array (Option Value)} {oc_lw_value kV_lw_value dc_lw_value pm_lw_value cd_lw_value ct_lw_value : Value} {od_lw_value an_lw_value : Option Addr} {sl_lw_value : Array (Option Value)} {oc_lw_alike kV_lw_alike dc_lw_alike pm_lw_alike cd_lw_alike ct_lw_alike : Value} {od_lw_alike an_lw_alike : Option Addr} {sl_lw_alike : Array (Option Value)} {oc_lw_placed kV_lw_placed dc_lw_placed pm_lw_placed cd_lw_placed ct_lw_placed : Value} {od_lw_placed an_lw_placed : Option Addr} {sl_lw_placed : Array (Option Value)} {oc_lw_named kV_lw_named dc_lw_named pm_lw_named cd_lw_named ct_lw_named : Value} {od_lw_named an_lw_named : Option Addr} {sl_lw_named : Array (Option Value)} {oc_lw_kinds kV_lw_kinds dc_lw_kinds pm_lw_kinds cd_lw_kinds ct_lw_kinds : Value} {od_lw_kinds an_lw_kinds : Option Addr} {sl_lw_kinds : Array (Option Value)} {oc_lw_right kV_lw_right dc_lw_right pm_lw_right cd_lw_right ct_lw_right : Value} {od_lw_right an_lw_right : Option Addr} {sl_lw_right : Array (Option Value)} {oc_law kV_law dc_law pm_law cd_law ct_law : Value} {od_law an_law : Option Addr} {sl_law : Array (Option Value)}
    (zb_len : PySem.W.nsIn K mainGlobals "len" = some none)
    (zb_range : PySem.W.nsIn K mainGlobals "range" = some none)
    (zb_int : PySem.W.nsIn K mainGlobals "int" = some none)
    (zb_str : PySem.W.nsIn K mainGlobals "str" = some none)
    (zb_bool : PySem.W.nsIn K mainGlobals "bool" = some none)
    (zb_abs : PySem.W.nsIn K mainGlobals "abs" = some none)
    (zb_isinstance : PySem.W.nsIn K mainGlobals "isinstance" = some none)
    (zb_repr : PySem.W.nsIn K mainGlobals "repr" = some none)
    (zb_max : PySem.W.nsIn K mainGlobals "max" = some none)
    (zb_min : PySem.W.nsIn K mainGlobals "min" = some none)
    (zb_tuple : PySem.W.nsIn K mainGlobals "tuple" = some none)
    (zb_all : PySem.W.nsIn K mainGlobals "all" = some none)
    (zb_zip : PySem.W.nsIn K mainGlobals "zip" = some none)
    (zb_enumerate : PySem.W.nsIn K mainGlobals "enumerate" = some none)
    (zb_ValueError : PySem.W.nsIn K mainGlobals "ValueError" = some none)
    (zb_IndexError : PySem.W.nsIn K mainGlobals "IndexError" = some none)
    (zb_KeyError : PySem.W.nsIn K mainGlobals "KeyError" = some none)
    (gi_gcd : PySem.W.nsIn K mainGlobals "gcd" = some (some (.builtin "math.gcd")))
    (gc_PoolError : PySem.W.nsIn K mainGlobals "PoolError" = some (some (.ref C_PoolError)))
    (xl_PoolError : K.lookup C_PoolError = some (PySem.excClassObj nm_PoolError q_PoolError C_PoolError N_PoolError bs_PoolError bm_PoolError true sn_PoolError sub_PoolError ab_PoolError col_PoolError dd_PoolError k0_PoolError k1_PoolError k2_PoolError k3_PoolError k5_PoolError "ValueError.__new__"))
    (xr_PoolError : PySem.HandSPX.refsVE bm_PoolError = true)
    (xs_PoolError : PySem.W.findIn K (.ref C_PoolError) "__setattr__" = some (some (.builtin "object.__setattr__")))
    (xa_PoolError : PySem.W.findIn K (.ref C_PoolError) "__getattribute__" = some (some (.builtin "BaseException.__getattribute__")))
    (xg_PoolError : PySem.W.findIn K (.ref C_PoolError) "__getattr__" = some none)
    (xe_PoolError : PySem.W.subIn K (.ref C_PoolError) (.type "BaseException") = some true)
    (xt_PoolError : PySem.W.typeIn K (.ref C_PoolError) = some (.type "type"))
    (xh_PoolError : PySem.W.hasDictIn K C_PoolError = true)
    (xk_PoolError : PySem.W.keepIn K (.ref C_PoolError) = true)
    (xi_PoolError : PySem.W.isClsIn K C_PoolError = true)
    (xq_PoolError : PySem.W.subIn K (.ref C_PoolError) (.ref C_PoolError) = some true)
    (gc_InvalidNumber : PySem.W.nsIn K mainGlobals "InvalidNumber" = some (some (.ref C_InvalidNumber)))
    (xl_InvalidNumber : K.lookup C_InvalidNumber = some (PySem.excClassObj nm_InvalidNumber q_InvalidNumber C_InvalidNumber N_InvalidNumber bs_InvalidNumber bm_InvalidNumber true sn_InvalidNumber sub_InvalidNumber ab_InvalidNumber col_InvalidNumber dd_InvalidNumber k0_InvalidNumber k1_InvalidNumber k2_InvalidNumber k3_InvalidNumber k5_InvalidNumber "ValueError.__new__"))
    (xr_InvalidNumber : PySem.HandSPX.refsVE bm_InvalidNumber = true)
    (xs_InvalidNumber : PySem.W.findIn K (.ref C_InvalidNumber) "__setattr__" = some (some (.builtin "object.__setattr__")))
    (xa_InvalidNumber : PySem.W.findIn K (.ref C_InvalidNumber) "__getattribute__" = some (some (.builtin "BaseException.__getattribute__")))
    (xg_InvalidNumber : PySem.W.findIn K (.ref C_InvalidNumber) "__getattr__" = some none)
    (xe_InvalidNumber : PySem.W.subIn K (.ref C_InvalidNumber) (.type "BaseException") = some true)
    (xt_InvalidNumber : PySem.W.typeIn K (.ref C_InvalidNumber) = some (.type "type"))
    (xh_InvalidNumber : PySem.W.hasDictIn K C_InvalidNumber = true)
    (xk_InvalidNumber : PySem.W.keepIn K (.ref C_InvalidNumber) = true)
    (xi_InvalidNumber : PySem.W.isClsIn K C_InvalidNumber = true)
    (xq_InvalidNumber : PySem.W.subIn K (.ref C_InvalidNumber) (.ref C_InvalidNumber) = some true)
    (ea_InvalidNumber : PySem.W.findIn K (.ref C_InvalidNumber) "__class__" = some (some (.builtin "object.__class__")))
    (eb_InvalidNumber : PySem.W.specialIn K (.builtin "object.__class__") "__get__" = some (some (.builtin "getset_descriptor.__get__")))
    (et_InvalidNumber : PySem.W.takesIn K (.builtin "object.__class__") = some true)
    (em_InvalidNumber : PySem.W.mroIn K C_InvalidNumber (.type "object") = some true)
    (na_InvalidNumber_value : PySem.W.findIn K (.ref C_InvalidNumber) "value" = some none)
    (gc_InvalidDrop : PySem.W.nsIn K mainGlobals "InvalidDrop" = some (some (.ref C_InvalidDrop)))
    (xl_InvalidDrop : K.lookup C_InvalidDrop = some (PySem.excClassObj nm_InvalidDrop q_InvalidDrop C_InvalidDrop N_InvalidDrop bs_InvalidDrop bm_InvalidDrop true sn_InvalidDrop sub_InvalidDrop ab_InvalidDrop col_InvalidDrop dd_InvalidDrop k0_InvalidDrop k1_InvalidDrop k2_InvalidDrop k3_InvalidDrop k5_InvalidDrop "ValueError.__new__"))
    (xr_InvalidDrop : PySem.HandSPX.refsVE bm_InvalidDrop = true)
    (xs_InvalidDrop : PySem.W.findIn K (.ref C_InvalidDrop) "__setattr__" = some (some (.builtin "object.__setattr__")))
    (xa_InvalidDrop : PySem.W.findIn K (.ref C_InvalidDrop) "__getattribute__" = some (some (.builtin "BaseException.__getattribute__")))
    (xg_InvalidDrop : PySem.W.findIn K (.ref C_InvalidDrop) "__getattr__" = some none)
    (xe_InvalidDrop : PySem.W.subIn K (.ref C_InvalidDrop) (.type "BaseException") = some true)
    (xt_InvalidDrop : PySem.W.typeIn K (.ref C_InvalidDrop) = some (.type "type"))
    (xh_InvalidDrop : PySem.W.hasDictIn K C_InvalidDrop = true)
    (xk_InvalidDrop : PySem.W.keepIn K (.ref C_InvalidDrop) = true)
    (xi_InvalidDrop : PySem.W.isClsIn K C_InvalidDrop = true)
    (xq_InvalidDrop : PySem.W.subIn K (.ref C_InvalidDrop) (.ref C_InvalidDrop) = some true)
    (ea_InvalidDrop : PySem.W.findIn K (.ref C_InvalidDrop) "__class__" = some (some (.builtin "object.__class__")))
    (eb_InvalidDrop : PySem.W.specialIn K (.builtin "object.__class__") "__get__" = some (some (.builtin "getset_descriptor.__get__")))
    (et_InvalidDrop : PySem.W.takesIn K (.builtin "object.__class__") = some true)
    (em_InvalidDrop : PySem.W.mroIn K C_InvalidDrop (.type "object") = some true)
    (na_InvalidDrop_index : PySem.W.findIn K (.ref C_InvalidDrop) "index" = some none)
    (gc_InvalidTime : PySem.W.nsIn K mainGlobals "InvalidTime" = some (some (.ref C_InvalidTime)))
    (xl_InvalidTime : K.lookup C_InvalidTime = some (PySem.excClassObj nm_InvalidTime q_InvalidTime C_InvalidTime N_InvalidTime bs_InvalidTime bm_InvalidTime true sn_InvalidTime sub_InvalidTime ab_InvalidTime col_InvalidTime dd_InvalidTime k0_InvalidTime k1_InvalidTime k2_InvalidTime k3_InvalidTime k5_InvalidTime "ValueError.__new__"))
    (xr_InvalidTime : PySem.HandSPX.refsVE bm_InvalidTime = true)
    (xs_InvalidTime : PySem.W.findIn K (.ref C_InvalidTime) "__setattr__" = some (some (.builtin "object.__setattr__")))
    (xa_InvalidTime : PySem.W.findIn K (.ref C_InvalidTime) "__getattribute__" = some (some (.builtin "BaseException.__getattribute__")))
    (xg_InvalidTime : PySem.W.findIn K (.ref C_InvalidTime) "__getattr__" = some none)
    (xe_InvalidTime : PySem.W.subIn K (.ref C_InvalidTime) (.type "BaseException") = some true)
    (xt_InvalidTime : PySem.W.typeIn K (.ref C_InvalidTime) = some (.type "type"))
    (xh_InvalidTime : PySem.W.hasDictIn K C_InvalidTime = true)
    (xk_InvalidTime : PySem.W.keepIn K (.ref C_InvalidTime) = true)
    (xi_InvalidTime : PySem.W.isClsIn K C_InvalidTime = true)
    (xq_InvalidTime : PySem.W.subIn K (.ref C_InvalidTime) (.ref C_InvalidTime) = some true)
    (ea_InvalidTime : PySem.W.findIn K (.ref C_InvalidTime) "__class__" = some (some (.builtin "object.__class__")))
    (eb_InvalidTime : PySem.W.specialIn K (.builtin "object.__class__") "__get__" = some (some (.builtin "getset_descriptor.__get__")))
    (et_InvalidTime : PySem.W.takesIn K (.builtin "object.__class__") = some true)
    (em_InvalidTime : PySem.W.mroIn K C_InvalidTime (.type "object") = some true)
    (na_InvalidTime_time : PySem.W.findIn K (.ref C_InvalidTime) "time" = some none)
    (gc_InvalidText : PySem.W.nsIn K mainGlobals "InvalidText" = some (some (.ref C_InvalidText)))
    (xl_InvalidText : K.lookup C_InvalidText = some (PySem.excClassObj nm_InvalidText q_InvalidText C_InvalidText N_InvalidText bs_InvalidText bm_InvalidText true sn_InvalidText sub_InvalidText ab_InvalidText col_InvalidText dd_InvalidText k0_InvalidText k1_InvalidText k2_InvalidText k3_InvalidText k5_InvalidText "ValueError.__new__"))
    (xr_InvalidText : PySem.HandSPX.refsVE bm_InvalidText = true)
    (xs_InvalidText : PySem.W.findIn K (.ref C_InvalidText) "__setattr__" = some (some (.builtin "object.__setattr__")))
    (xa_InvalidText : PySem.W.findIn K (.ref C_InvalidText) "__getattribute__" = some (some (.builtin "BaseException.__getattribute__")))
    (xg_InvalidText : PySem.W.findIn K (.ref C_InvalidText) "__getattr__" = some none)
    (xe_InvalidText : PySem.W.subIn K (.ref C_InvalidText) (.type "BaseException") = some true)
    (xt_InvalidText : PySem.W.typeIn K (.ref C_InvalidText) = some (.type "type"))
    (xh_InvalidText : PySem.W.hasDictIn K C_InvalidText = true)
    (xk_InvalidText : PySem.W.keepIn K (.ref C_InvalidText) = true)
    (xi_InvalidText : PySem.W.isClsIn K C_InvalidText = true)
    (xq_InvalidText : PySem.W.subIn K (.ref C_InvalidText) (.ref C_InvalidText) = some true)
    (ea_InvalidText : PySem.W.findIn K (.ref C_InvalidText) "__class__" = some (some (.builtin "object.__class__")))
    (eb_InvalidText : PySem.W.specialIn K (.builtin "object.__class__") "__get__" = some (some (.builtin "getset_descriptor.__get__")))
    (et_InvalidText : PySem.W.takesIn K (.builtin "object.__class__") = some true)
    (em_InvalidText : PySem.W.mroIn K C_InvalidText (.type "object") = some true)
    (na_InvalidText_line : PySem.W.findIn K (.ref C_InvalidText) "line" = some none)
    (gc_InvalidCommand : PySem.W.nsIn K mainGlobals "InvalidCommand" = some (some (.ref C_InvalidCommand)))
    (xl_InvalidCommand : K.lookup C_InvalidCommand = some (PySem.excClassObj nm_InvalidCommand q_InvalidCommand C_InvalidCommand N_InvalidCommand bs_InvalidCommand bm_InvalidCommand true sn_InvalidCommand sub_InvalidCommand ab_InvalidCommand col_InvalidCommand dd_InvalidCommand k0_InvalidCommand k1_InvalidCommand k2_InvalidCommand k3_InvalidCommand k5_InvalidCommand "ValueError.__new__"))
    (xr_InvalidCommand : PySem.HandSPX.refsVE bm_InvalidCommand = true)
    (xs_InvalidCommand : PySem.W.findIn K (.ref C_InvalidCommand) "__setattr__" = some (some (.builtin "object.__setattr__")))
    (xa_InvalidCommand : PySem.W.findIn K (.ref C_InvalidCommand) "__getattribute__" = some (some (.builtin "BaseException.__getattribute__")))
    (xg_InvalidCommand : PySem.W.findIn K (.ref C_InvalidCommand) "__getattr__" = some none)
    (xe_InvalidCommand : PySem.W.subIn K (.ref C_InvalidCommand) (.type "BaseException") = some true)
    (xt_InvalidCommand : PySem.W.typeIn K (.ref C_InvalidCommand) = some (.type "type"))
    (xh_InvalidCommand : PySem.W.hasDictIn K C_InvalidCommand = true)
    (xk_InvalidCommand : PySem.W.keepIn K (.ref C_InvalidCommand) = true)
    (xi_InvalidCommand : PySem.W.isClsIn K C_InvalidCommand = true)
    (xq_InvalidCommand : PySem.W.subIn K (.ref C_InvalidCommand) (.ref C_InvalidCommand) = some true)
    (ea_InvalidCommand : PySem.W.findIn K (.ref C_InvalidCommand) "__class__" = some (some (.builtin "object.__class__")))
    (eb_InvalidCommand : PySem.W.specialIn K (.builtin "object.__class__") "__get__" = some (some (.builtin "getset_descriptor.__get__")))
    (et_InvalidCommand : PySem.W.takesIn K (.builtin "object.__class__") = some true)
    (em_InvalidCommand : PySem.W.mroIn K C_InvalidCommand (.type "object") = some true)
    (gc_Full : PySem.W.nsIn K mainGlobals "Full" = some (some (.ref C_Full)))
    (xl_Full : K.lookup C_Full = some (PySem.excClassObj nm_Full q_Full C_Full N_Full bs_Full bm_Full true sn_Full sub_Full ab_Full col_Full dd_Full k0_Full k1_Full k2_Full k3_Full k5_Full "ValueError.__new__"))
    (xr_Full : PySem.HandSPX.refsVE bm_Full = true)
    (xs_Full : PySem.W.findIn K (.ref C_Full) "__setattr__" = some (some (.builtin "object.__setattr__")))
    (xa_Full : PySem.W.findIn K (.ref C_Full) "__getattribute__" = some (some (.builtin "BaseException.__getattribute__")))
    (xg_Full : PySem.W.findIn K (.ref C_Full) "__getattr__" = some none)
    (xe_Full : PySem.W.subIn K (.ref C_Full) (.type "BaseException") = some true)
    (xt_Full : PySem.W.typeIn K (.ref C_Full) = some (.type "type"))
    (xh_Full : PySem.W.hasDictIn K C_Full = true)
    (xk_Full : PySem.W.keepIn K (.ref C_Full) = true)
    (xi_Full : PySem.W.isClsIn K C_Full = true)
    (xq_Full : PySem.W.subIn K (.ref C_Full) (.ref C_Full) = some true)
    (ea_Full : PySem.W.findIn K (.ref C_Full) "__class__" = some (some (.builtin "object.__class__")))
    (eb_Full : PySem.W.specialIn K (.builtin "object.__class__") "__get__" = some (some (.builtin "getset_descriptor.__get__")))
    (et_Full : PySem.W.takesIn K (.builtin "object.__class__") = some true)
    (em_Full : PySem.W.mroIn K C_Full (.type "object") = some true)
    (na_Full_limit : PySem.W.findIn K (.ref C_Full) "limit" = some none)
    (gc_MissingDrop : PySem.W.nsIn K mainGlobals "MissingDrop" = some (some (.ref C_MissingDrop)))
    (xl_MissingDrop : K.lookup C_MissingDrop = some (PySem.excClassObj nm_MissingDrop q_MissingDrop C_MissingDrop N_MissingDrop bs_MissingDrop bm_MissingDrop true sn_MissingDrop sub_MissingDrop ab_MissingDrop col_MissingDrop dd_MissingDrop k0_MissingDrop k1_MissingDrop k2_MissingDrop k3_MissingDrop k5_MissingDrop "ValueError.__new__"))
    (xr_MissingDrop : PySem.HandSPX.refsVE bm_MissingDrop = true)
    (xs_MissingDrop : PySem.W.findIn K (.ref C_MissingDrop) "__setattr__" = some (some (.builtin "object.__setattr__")))
    (xa_MissingDrop : PySem.W.findIn K (.ref C_MissingDrop) "__getattribute__" = some (some (.builtin "BaseException.__getattribute__")))
    (xg_MissingDrop : PySem.W.findIn K (.ref C_MissingDrop) "__getattr__" = some none)
    (xe_MissingDrop : PySem.W.subIn K (.ref C_MissingDrop) (.type "BaseException") = some true)
    (xt_MissingDrop : PySem.W.typeIn K (.ref C_MissingDrop) = some (.type "type"))
    (xh_MissingDrop : PySem.W.hasDictIn K C_MissingDrop = true)
    (xk_MissingDrop : PySem.W.keepIn K (.ref C_MissingDrop) = true)
    (xi_MissingDrop : PySem.W.isClsIn K C_MissingDrop = true)
    (xq_MissingDrop : PySem.W.subIn K (.ref C_MissingDrop) (.ref C_MissingDrop) = some true)
    (ea_MissingDrop : PySem.W.findIn K (.ref C_MissingDrop) "__class__" = some (some (.builtin "object.__class__")))
    (eb_MissingDrop : PySem.W.specialIn K (.builtin "object.__class__") "__get__" = some (some (.builtin "getset_descriptor.__get__")))
    (et_MissingDrop : PySem.W.takesIn K (.builtin "object.__class__") = some true)
    (em_MissingDrop : PySem.W.mroIn K C_MissingDrop (.type "object") = some true)
    (na_MissingDrop_spot : PySem.W.findIn K (.ref C_MissingDrop) "spot" = some none)
    (na_MissingDrop_amount : PySem.W.findIn K (.ref C_MissingDrop) "amount" = some none)
    (gc_Touching : PySem.W.nsIn K mainGlobals "Touching" = some (some (.ref C_Touching)))
    (xl_Touching : K.lookup C_Touching = some (PySem.excClassObj nm_Touching q_Touching C_Touching N_Touching bs_Touching bm_Touching true sn_Touching sub_Touching ab_Touching col_Touching dd_Touching k0_Touching k1_Touching k2_Touching k3_Touching k5_Touching "ValueError.__new__"))
    (xr_Touching : PySem.HandSPX.refsVE bm_Touching = true)
    (xs_Touching : PySem.W.findIn K (.ref C_Touching) "__setattr__" = some (some (.builtin "object.__setattr__")))
    (xa_Touching : PySem.W.findIn K (.ref C_Touching) "__getattribute__" = some (some (.builtin "BaseException.__getattribute__")))
    (xg_Touching : PySem.W.findIn K (.ref C_Touching) "__getattr__" = some none)
    (xe_Touching : PySem.W.subIn K (.ref C_Touching) (.type "BaseException") = some true)
    (xt_Touching : PySem.W.typeIn K (.ref C_Touching) = some (.type "type"))
    (xh_Touching : PySem.W.hasDictIn K C_Touching = true)
    (xk_Touching : PySem.W.keepIn K (.ref C_Touching) = true)
    (xi_Touching : PySem.W.isClsIn K C_Touching = true)
    (xq_Touching : PySem.W.subIn K (.ref C_Touching) (.ref C_Touching) = some true)
    (ea_Touching : PySem.W.findIn K (.ref C_Touching) "__class__" = some (some (.builtin "object.__class__")))
    (eb_Touching : PySem.W.specialIn K (.builtin "object.__class__") "__get__" = some (some (.builtin "getset_descriptor.__get__")))
    (et_Touching : PySem.W.takesIn K (.builtin "object.__class__") = some true)
    (em_Touching : PySem.W.mroIn K C_Touching (.type "object") = some true)
    (na_Touching_index : PySem.W.findIn K (.ref C_Touching) "index" = some none)
    (gc_OutOfGround : PySem.W.nsIn K mainGlobals "OutOfGround" = some (some (.ref C_OutOfGround)))
    (xl_OutOfGround : K.lookup C_OutOfGround = some (PySem.excClassObj nm_OutOfGround q_OutOfGround C_OutOfGround N_OutOfGround bs_OutOfGround bm_OutOfGround true sn_OutOfGround sub_OutOfGround ab_OutOfGround col_OutOfGround dd_OutOfGround k0_OutOfGround k1_OutOfGround k2_OutOfGround k3_OutOfGround k5_OutOfGround "ValueError.__new__"))
    (xr_OutOfGround : PySem.HandSPX.refsVE bm_OutOfGround = true)
    (xs_OutOfGround : PySem.W.findIn K (.ref C_OutOfGround) "__setattr__" = some (some (.builtin "object.__setattr__")))
    (xa_OutOfGround : PySem.W.findIn K (.ref C_OutOfGround) "__getattribute__" = some (some (.builtin "BaseException.__getattribute__")))
    (xg_OutOfGround : PySem.W.findIn K (.ref C_OutOfGround) "__getattr__" = some none)
    (xe_OutOfGround : PySem.W.subIn K (.ref C_OutOfGround) (.type "BaseException") = some true)
    (xt_OutOfGround : PySem.W.typeIn K (.ref C_OutOfGround) = some (.type "type"))
    (xh_OutOfGround : PySem.W.hasDictIn K C_OutOfGround = true)
    (xk_OutOfGround : PySem.W.keepIn K (.ref C_OutOfGround) = true)
    (xi_OutOfGround : PySem.W.isClsIn K C_OutOfGround = true)
    (xq_OutOfGround : PySem.W.subIn K (.ref C_OutOfGround) (.ref C_OutOfGround) = some true)
    (ea_OutOfGround : PySem.W.findIn K (.ref C_OutOfGround) "__class__" = some (some (.builtin "object.__class__")))
    (eb_OutOfGround : PySem.W.specialIn K (.builtin "object.__class__") "__get__" = some (some (.builtin "getset_descriptor.__get__")))
    (et_OutOfGround : PySem.W.takesIn K (.builtin "object.__class__") = some true)
    (em_OutOfGround : PySem.W.mroIn K C_OutOfGround (.type "object") = some true)
    (na_OutOfGround_spot : PySem.W.findIn K (.ref C_OutOfGround) "spot" = some none)
    (gc_Overfull : PySem.W.nsIn K mainGlobals "Overfull" = some (some (.ref C_Overfull)))
    (xl_Overfull : K.lookup C_Overfull = some (PySem.excClassObj nm_Overfull q_Overfull C_Overfull N_Overfull bs_Overfull bm_Overfull true sn_Overfull sub_Overfull ab_Overfull col_Overfull dd_Overfull k0_Overfull k1_Overfull k2_Overfull k3_Overfull k5_Overfull "ValueError.__new__"))
    (xr_Overfull : PySem.HandSPX.refsVE bm_Overfull = true)
    (xs_Overfull : PySem.W.findIn K (.ref C_Overfull) "__setattr__" = some (some (.builtin "object.__setattr__")))
    (xa_Overfull : PySem.W.findIn K (.ref C_Overfull) "__getattribute__" = some (some (.builtin "BaseException.__getattribute__")))
    (xg_Overfull : PySem.W.findIn K (.ref C_Overfull) "__getattr__" = some none)
    (xe_Overfull : PySem.W.subIn K (.ref C_Overfull) (.type "BaseException") = some true)
    (xt_Overfull : PySem.W.typeIn K (.ref C_Overfull) = some (.type "type"))
    (xh_Overfull : PySem.W.hasDictIn K C_Overfull = true)
    (xk_Overfull : PySem.W.keepIn K (.ref C_Overfull) = true)
    (xi_Overfull : PySem.W.isClsIn K C_Overfull = true)
    (xq_Overfull : PySem.W.subIn K (.ref C_Overfull) (.ref C_Overfull) = some true)
    (ea_Overfull : PySem.W.findIn K (.ref C_Overfull) "__class__" = some (some (.builtin "object.__class__")))
    (eb_Overfull : PySem.W.specialIn K (.builtin "object.__class__") "__get__" = some (some (.builtin "getset_descriptor.__get__")))
    (et_Overfull : PySem.W.takesIn K (.builtin "object.__class__") = some true)
    (em_Overfull : PySem.W.mroIn K C_Overfull (.type "object") = some true)
    (na_Overfull_total : PySem.W.findIn K (.ref C_Overfull) "total" = some none)
    (gc_TrialError : PySem.W.nsIn K mainGlobals "TrialError" = some (some (.ref C_TrialError)))
    (xl_TrialError : K.lookup C_TrialError = some (PySem.excClassObj nm_TrialError q_TrialError C_TrialError N_TrialError bs_TrialError bm_TrialError true sn_TrialError sub_TrialError ab_TrialError col_TrialError dd_TrialError k0_TrialError k1_TrialError k2_TrialError k3_TrialError k5_TrialError "ValueError.__new__"))
    (xr_TrialError : PySem.HandSPX.refsVE bm_TrialError = true)
    (xs_TrialError : PySem.W.findIn K (.ref C_TrialError) "__setattr__" = some (some (.builtin "object.__setattr__")))
    (xa_TrialError : PySem.W.findIn K (.ref C_TrialError) "__getattribute__" = some (some (.builtin "BaseException.__getattribute__")))
    (xg_TrialError : PySem.W.findIn K (.ref C_TrialError) "__getattr__" = some none)
    (xe_TrialError : PySem.W.subIn K (.ref C_TrialError) (.type "BaseException") = some true)
    (xt_TrialError : PySem.W.typeIn K (.ref C_TrialError) = some (.type "type"))
    (xh_TrialError : PySem.W.hasDictIn K C_TrialError = true)
    (xk_TrialError : PySem.W.keepIn K (.ref C_TrialError) = true)
    (xi_TrialError : PySem.W.isClsIn K C_TrialError = true)
    (xq_TrialError : PySem.W.subIn K (.ref C_TrialError) (.ref C_TrialError) = some true)
    (ea_TrialError : PySem.W.findIn K (.ref C_TrialError) "__class__" = some (some (.builtin "object.__class__")))
    (eb_TrialError : PySem.W.specialIn K (.builtin "object.__class__") "__get__" = some (some (.builtin "getset_descriptor.__get__")))
    (et_TrialError : PySem.W.takesIn K (.builtin "object.__class__") = some true)
    (em_TrialError : PySem.W.mroIn K C_TrialError (.type "object") = some true)
    (gc_UnknownIndex : PySem.W.nsIn K mainGlobals "UnknownIndex" = some (some (.ref C_UnknownIndex)))
    (xl_UnknownIndex : K.lookup C_UnknownIndex = some (PySem.excClassObj nm_UnknownIndex q_UnknownIndex C_UnknownIndex N_UnknownIndex bs_UnknownIndex PmI.ieTail true sn_UnknownIndex sub_UnknownIndex ab_UnknownIndex col_UnknownIndex dd_UnknownIndex k0_UnknownIndex k1_UnknownIndex k2_UnknownIndex k3_UnknownIndex k5_UnknownIndex "IndexError.__new__"))
    (xs_UnknownIndex : PySem.W.findIn K (.ref C_UnknownIndex) "__setattr__" = some (some (.builtin "object.__setattr__")))
    (xa_UnknownIndex : PySem.W.findIn K (.ref C_UnknownIndex) "__getattribute__" = some (some (.builtin "BaseException.__getattribute__")))
    (xg_UnknownIndex : PySem.W.findIn K (.ref C_UnknownIndex) "__getattr__" = some none)
    (xe_UnknownIndex : PySem.W.subIn K (.ref C_UnknownIndex) (.type "BaseException") = some true)
    (xt_UnknownIndex : PySem.W.typeIn K (.ref C_UnknownIndex) = some (.type "type"))
    (xh_UnknownIndex : PySem.W.hasDictIn K C_UnknownIndex = true)
    (xk_UnknownIndex : PySem.W.keepIn K (.ref C_UnknownIndex) = true)
    (xi_UnknownIndex : PySem.W.isClsIn K C_UnknownIndex = true)
    (xq_UnknownIndex : PySem.W.subIn K (.ref C_UnknownIndex) (.ref C_UnknownIndex) = some true)
    (ea_UnknownIndex : PySem.W.findIn K (.ref C_UnknownIndex) "__class__" = some (some (.builtin "object.__class__")))
    (eb_UnknownIndex : PySem.W.specialIn K (.builtin "object.__class__") "__get__" = some (some (.builtin "getset_descriptor.__get__")))
    (et_UnknownIndex : PySem.W.takesIn K (.builtin "object.__class__") = some true)
    (em_UnknownIndex : PySem.W.mroIn K C_UnknownIndex (.type "object") = some true)
    (na_UnknownIndex_index : PySem.W.findIn K (.ref C_UnknownIndex) "index" = some none)
    (gc_Ratio : PySem.W.nsIn K mainGlobals "Ratio" = some (some (.ref C_Ratio)))
    (pg_Ratio : PySem.W.plainGet K C_Ratio Str.empty = true)
    (hd_Ratio : PySem.W.hasDictIn K C_Ratio = true)
    (po_Ratio : PySem.W.plainOver K C_Ratio = true)
    (sa_Ratio : PySem.W.findIn K (.ref C_Ratio) "__setattr__" = some (some (.builtin "object.__setattr__")))
    (tca_Ratio : PySem.W.findIn K (.ref C_Ratio) "__class__" = some (some (.builtin "object.__class__")))
    (tcb_Ratio : PySem.W.specialIn K (.builtin "object.__class__") "__get__" = some (some (.builtin "getset_descriptor.__get__")))
    (tcc_Ratio : PySem.W.takesIn K (.builtin "object.__class__") = some true)
    (tcd_Ratio : PySem.W.mroIn K C_Ratio (.type "object") = some true)
    (ric_Ratio : PySem.W.isClsIn K C_Ratio = true)
    (rty_Ratio : PySem.W.typeIn K (.ref C_Ratio) = some (.type "type"))
    (rss_Ratio : PySem.W.subIn K (.ref C_Ratio) (.ref C_Ratio) = some true)
    (rda_Ratio : PySem.W.readsIn K C_Ratio (.type "type") = true)
    (rdb_Ratio : PySem.W.specialIn K (.ref C_Ratio) "__getattribute__" = some (some (.builtin "type.__getattribute__")))
    (mk_Ratio : PySem.W.makesIn K C_Ratio = true)
    (kc_Ratio : PySem.W.keepIn K (.ref C_Ratio) = true)
    (sf_Ratio : PySem.W.selfFirst K C_Ratio = true)
    (mra_Ratio : PySem.W.clsIn K C_Ratio = some cd_Ratio)
    (mrb_Ratio : cd_Ratio.mro = [.ref C_Ratio, .type "object"])
    (st_Ratio_int : PySem.W.subIn K (.type "int") (.ref C_Ratio) = some false)
    (st_Ratio_bool : PySem.W.subIn K (.type "bool") (.ref C_Ratio) = some false)
    (st_Ratio_str : PySem.W.subIn K (.type "str") (.ref C_Ratio) = some false)
    (st_Ratio_NoneType : PySem.W.subIn K (.type "NoneType") (.ref C_Ratio) = some false)
    (st_Ratio_tuple : PySem.W.subIn K (.type "tuple") (.ref C_Ratio) = some false)
    (su_Ratio_int : PySem.W.subIn K (.ref C_Ratio) (.type "int") = some false)
    (su_Ratio_bool : PySem.W.subIn K (.ref C_Ratio) (.type "bool") = some false)
    (su_Ratio_tuple : PySem.W.subIn K (.ref C_Ratio) (.type "tuple") = some false)
    (su_Ratio_str : PySem.W.subIn K (.ref C_Ratio) (.type "str") = some false)
    (su_Ratio_NoneType : PySem.W.subIn K (.ref C_Ratio) (.type "NoneType") = some false)
    (na_Ratio_top : PySem.W.findIn K (.ref C_Ratio) "top" = some none)
    (na_Ratio_bottom : PySem.W.findIn K (.ref C_Ratio) "bottom" = some none)
    (sx_InvalidNumber_PoolError : PySem.W.subIn K (.ref C_InvalidNumber) (.ref C_PoolError) = some true)
    (sx_InvalidNumber_InvalidDrop : PySem.W.subIn K (.ref C_InvalidNumber) (.ref C_InvalidDrop) = some false)
    (sx_InvalidNumber_InvalidTime : PySem.W.subIn K (.ref C_InvalidNumber) (.ref C_InvalidTime) = some false)
    (sx_InvalidNumber_InvalidText : PySem.W.subIn K (.ref C_InvalidNumber) (.ref C_InvalidText) = some false)
    (sx_InvalidNumber_InvalidCommand : PySem.W.subIn K (.ref C_InvalidNumber) (.ref C_InvalidCommand) = some false)
    (sx_InvalidNumber_Full : PySem.W.subIn K (.ref C_InvalidNumber) (.ref C_Full) = some false)
    (sx_InvalidNumber_MissingDrop : PySem.W.subIn K (.ref C_InvalidNumber) (.ref C_MissingDrop) = some false)
    (sx_InvalidNumber_Touching : PySem.W.subIn K (.ref C_InvalidNumber) (.ref C_Touching) = some false)
    (sx_InvalidNumber_OutOfGround : PySem.W.subIn K (.ref C_InvalidNumber) (.ref C_OutOfGround) = some false)
    (sx_InvalidNumber_Overfull : PySem.W.subIn K (.ref C_InvalidNumber) (.ref C_Overfull) = some false)
    (sx_InvalidNumber_TrialError : PySem.W.subIn K (.ref C_InvalidNumber) (.ref C_TrialError) = some false)
    (sx_InvalidNumber_UnknownIndex : PySem.W.subIn K (.ref C_InvalidNumber) (.ref C_UnknownIndex) = some false)
    (sx_InvalidDrop_PoolError : PySem.W.subIn K (.ref C_InvalidDrop) (.ref C_PoolError) = some true)
    (sx_InvalidDrop_InvalidNumber : PySem.W.subIn K (.ref C_InvalidDrop) (.ref C_InvalidNumber) = some false)
    (sx_InvalidDrop_InvalidTime : PySem.W.subIn K (.ref C_InvalidDrop) (.ref C_InvalidTime) = some false)
    (sx_InvalidDrop_InvalidText : PySem.W.subIn K (.ref C_InvalidDrop) (.ref C_InvalidText) = some false)
    (sx_InvalidDrop_InvalidCommand : PySem.W.subIn K (.ref C_InvalidDrop) (.ref C_InvalidCommand) = some false)
    (sx_InvalidDrop_Full : PySem.W.subIn K (.ref C_InvalidDrop) (.ref C_Full) = some false)
    (sx_InvalidDrop_MissingDrop : PySem.W.subIn K (.ref C_InvalidDrop) (.ref C_MissingDrop) = some false)
    (sx_InvalidDrop_Touching : PySem.W.subIn K (.ref C_InvalidDrop) (.ref C_Touching) = some false)
    (sx_InvalidDrop_OutOfGround : PySem.W.subIn K (.ref C_InvalidDrop) (.ref C_OutOfGround) = some false)
    (sx_InvalidDrop_Overfull : PySem.W.subIn K (.ref C_InvalidDrop) (.ref C_Overfull) = some false)
    (sx_InvalidDrop_TrialError : PySem.W.subIn K (.ref C_InvalidDrop) (.ref C_TrialError) = some false)
    (sx_InvalidDrop_UnknownIndex : PySem.W.subIn K (.ref C_InvalidDrop) (.ref C_UnknownIndex) = some false)
    (sx_InvalidTime_PoolError : PySem.W.subIn K (.ref C_InvalidTime) (.ref C_PoolError) = some true)
    (sx_InvalidTime_InvalidNumber : PySem.W.subIn K (.ref C_InvalidTime) (.ref C_InvalidNumber) = some false)
    (sx_InvalidTime_InvalidDrop : PySem.W.subIn K (.ref C_InvalidTime) (.ref C_InvalidDrop) = some false)
    (sx_InvalidTime_InvalidText : PySem.W.subIn K (.ref C_InvalidTime) (.ref C_InvalidText) = some false)
    (sx_InvalidTime_InvalidCommand : PySem.W.subIn K (.ref C_InvalidTime) (.ref C_InvalidCommand) = some false)
    (sx_InvalidTime_Full : PySem.W.subIn K (.ref C_InvalidTime) (.ref C_Full) = some false)
    (sx_InvalidTime_MissingDrop : PySem.W.subIn K (.ref C_InvalidTime) (.ref C_MissingDrop) = some false)
    (sx_InvalidTime_Touching : PySem.W.subIn K (.ref C_InvalidTime) (.ref C_Touching) = some false)
    (sx_InvalidTime_OutOfGround : PySem.W.subIn K (.ref C_InvalidTime) (.ref C_OutOfGround) = some false)
    (sx_InvalidTime_Overfull : PySem.W.subIn K (.ref C_InvalidTime) (.ref C_Overfull) = some false)
    (sx_InvalidTime_TrialError : PySem.W.subIn K (.ref C_InvalidTime) (.ref C_TrialError) = some false)
    (sx_InvalidTime_UnknownIndex : PySem.W.subIn K (.ref C_InvalidTime) (.ref C_UnknownIndex) = some false)
    (sx_InvalidText_PoolError : PySem.W.subIn K (.ref C_InvalidText) (.ref C_PoolError) = some true)
    (sx_InvalidText_InvalidNumber : PySem.W.subIn K (.ref C_InvalidText) (.ref C_InvalidNumber) = some false)
    (sx_InvalidText_InvalidDrop : PySem.W.subIn K (.ref C_InvalidText) (.ref C_InvalidDrop) = some false)
    (sx_InvalidText_InvalidTime : PySem.W.subIn K (.ref C_InvalidText) (.ref C_InvalidTime) = some false)
    (sx_InvalidText_InvalidCommand : PySem.W.subIn K (.ref C_InvalidText) (.ref C_InvalidCommand) = some false)
    (sx_InvalidText_Full : PySem.W.subIn K (.ref C_InvalidText) (.ref C_Full) = some false)
    (sx_InvalidText_MissingDrop : PySem.W.subIn K (.ref C_InvalidText) (.ref C_MissingDrop) = some false)
    (sx_InvalidText_Touching : PySem.W.subIn K (.ref C_InvalidText) (.ref C_Touching) = some false)
    (sx_InvalidText_OutOfGround : PySem.W.subIn K (.ref C_InvalidText) (.ref C_OutOfGround) = some false)
    (sx_InvalidText_Overfull : PySem.W.subIn K (.ref C_InvalidText) (.ref C_Overfull) = some false)
    (sx_InvalidText_TrialError : PySem.W.subIn K (.ref C_InvalidText) (.ref C_TrialError) = some false)
    (sx_InvalidText_UnknownIndex : PySem.W.subIn K (.ref C_InvalidText) (.ref C_UnknownIndex) = some false)
    (sx_Full_PoolError : PySem.W.subIn K (.ref C_Full) (.ref C_PoolError) = some true)
    (sx_Full_InvalidNumber : PySem.W.subIn K (.ref C_Full) (.ref C_InvalidNumber) = some false)
    (sx_Full_InvalidDrop : PySem.W.subIn K (.ref C_Full) (.ref C_InvalidDrop) = some false)
    (sx_Full_InvalidTime : PySem.W.subIn K (.ref C_Full) (.ref C_InvalidTime) = some false)
    (sx_Full_InvalidText : PySem.W.subIn K (.ref C_Full) (.ref C_InvalidText) = some false)
    (sx_Full_InvalidCommand : PySem.W.subIn K (.ref C_Full) (.ref C_InvalidCommand) = some false)
    (sx_Full_MissingDrop : PySem.W.subIn K (.ref C_Full) (.ref C_MissingDrop) = some false)
    (sx_Full_Touching : PySem.W.subIn K (.ref C_Full) (.ref C_Touching) = some false)
    (sx_Full_OutOfGround : PySem.W.subIn K (.ref C_Full) (.ref C_OutOfGround) = some false)
    (sx_Full_Overfull : PySem.W.subIn K (.ref C_Full) (.ref C_Overfull) = some false)
    (sx_Full_TrialError : PySem.W.subIn K (.ref C_Full) (.ref C_TrialError) = some false)
    (sx_Full_UnknownIndex : PySem.W.subIn K (.ref C_Full) (.ref C_UnknownIndex) = some false)
    (sx_MissingDrop_PoolError : PySem.W.subIn K (.ref C_MissingDrop) (.ref C_PoolError) = some true)
    (sx_MissingDrop_InvalidNumber : PySem.W.subIn K (.ref C_MissingDrop) (.ref C_InvalidNumber) = some false)
    (sx_MissingDrop_InvalidDrop : PySem.W.subIn K (.ref C_MissingDrop) (.ref C_InvalidDrop) = some false)
    (sx_MissingDrop_InvalidTime : PySem.W.subIn K (.ref C_MissingDrop) (.ref C_InvalidTime) = some false)
    (sx_MissingDrop_InvalidText : PySem.W.subIn K (.ref C_MissingDrop) (.ref C_InvalidText) = some false)
    (sx_MissingDrop_InvalidCommand : PySem.W.subIn K (.ref C_MissingDrop) (.ref C_InvalidCommand) = some false)
    (sx_MissingDrop_Full : PySem.W.subIn K (.ref C_MissingDrop) (.ref C_Full) = some false)
    (sx_MissingDrop_Touching : PySem.W.subIn K (.ref C_MissingDrop) (.ref C_Touching) = some false)
    (sx_MissingDrop_OutOfGround : PySem.W.subIn K (.ref C_MissingDrop) (.ref C_OutOfGround) = some false)
    (sx_MissingDrop_Overfull : PySem.W.subIn K (.ref C_MissingDrop) (.ref C_Overfull) = some false)
    (sx_MissingDrop_TrialError : PySem.W.subIn K (.ref C_MissingDrop) (.ref C_TrialError) = some false)
    (sx_MissingDrop_UnknownIndex : PySem.W.subIn K (.ref C_MissingDrop) (.ref C_UnknownIndex) = some false)
    (sx_Touching_PoolError : PySem.W.subIn K (.ref C_Touching) (.ref C_PoolError) = some true)
    (sx_Touching_InvalidNumber : PySem.W.subIn K (.ref C_Touching) (.ref C_InvalidNumber) = some false)
    (sx_Touching_InvalidDrop : PySem.W.subIn K (.ref C_Touching) (.ref C_InvalidDrop) = some false)
    (sx_Touching_InvalidTime : PySem.W.subIn K (.ref C_Touching) (.ref C_InvalidTime) = some false)
    (sx_Touching_InvalidText : PySem.W.subIn K (.ref C_Touching) (.ref C_InvalidText) = some false)
    (sx_Touching_InvalidCommand : PySem.W.subIn K (.ref C_Touching) (.ref C_InvalidCommand) = some false)
    (sx_Touching_Full : PySem.W.subIn K (.ref C_Touching) (.ref C_Full) = some false)
    (sx_Touching_MissingDrop : PySem.W.subIn K (.ref C_Touching) (.ref C_MissingDrop) = some false)
    (sx_Touching_OutOfGround : PySem.W.subIn K (.ref C_Touching) (.ref C_OutOfGround) = some false)
    (sx_Touching_Overfull : PySem.W.subIn K (.ref C_Touching) (.ref C_Overfull) = some false)
    (sx_Touching_TrialError : PySem.W.subIn K (.ref C_Touching) (.ref C_TrialError) = some false)
    (sx_Touching_UnknownIndex : PySem.W.subIn K (.ref C_Touching) (.ref C_UnknownIndex) = some false)
    (sx_OutOfGround_PoolError : PySem.W.subIn K (.ref C_OutOfGround) (.ref C_PoolError) = some true)
    (sx_OutOfGround_InvalidNumber : PySem.W.subIn K (.ref C_OutOfGround) (.ref C_InvalidNumber) = some false)
    (sx_OutOfGround_InvalidDrop : PySem.W.subIn K (.ref C_OutOfGround) (.ref C_InvalidDrop) = some false)
    (sx_OutOfGround_InvalidTime : PySem.W.subIn K (.ref C_OutOfGround) (.ref C_InvalidTime) = some false)
    (sx_OutOfGround_InvalidText : PySem.W.subIn K (.ref C_OutOfGround) (.ref C_InvalidText) = some false)
    (sx_OutOfGround_InvalidCommand : PySem.W.subIn K (.ref C_OutOfGround) (.ref C_InvalidCommand) = some false)
    (sx_OutOfGround_Full : PySem.W.subIn K (.ref C_OutOfGround) (.ref C_Full) = some false)
    (sx_OutOfGround_MissingDrop : PySem.W.subIn K (.ref C_OutOfGround) (.ref C_MissingDrop) = some false)
    (sx_OutOfGround_Touching : PySem.W.subIn K (.ref C_OutOfGround) (.ref C_Touching) = some false)
    (sx_OutOfGround_Overfull : PySem.W.subIn K (.ref C_OutOfGround) (.ref C_Overfull) = some false)
    (sx_OutOfGround_TrialError : PySem.W.subIn K (.ref C_OutOfGround) (.ref C_TrialError) = some false)
    (sx_OutOfGround_UnknownIndex : PySem.W.subIn K (.ref C_OutOfGround) (.ref C_UnknownIndex) = some false)
    (sx_Overfull_PoolError : PySem.W.subIn K (.ref C_Overfull) (.ref C_PoolError) = some true)
    (sx_Overfull_InvalidNumber : PySem.W.subIn K (.ref C_Overfull) (.ref C_InvalidNumber) = some false)
    (sx_Overfull_InvalidDrop : PySem.W.subIn K (.ref C_Overfull) (.ref C_InvalidDrop) = some false)
    (sx_Overfull_InvalidTime : PySem.W.subIn K (.ref C_Overfull) (.ref C_InvalidTime) = some false)
    (sx_Overfull_InvalidText : PySem.W.subIn K (.ref C_Overfull) (.ref C_InvalidText) = some false)
    (sx_Overfull_InvalidCommand : PySem.W.subIn K (.ref C_Overfull) (.ref C_InvalidCommand) = some false)
    (sx_Overfull_Full : PySem.W.subIn K (.ref C_Overfull) (.ref C_Full) = some false)
    (sx_Overfull_MissingDrop : PySem.W.subIn K (.ref C_Overfull) (.ref C_MissingDrop) = some false)
    (sx_Overfull_Touching : PySem.W.subIn K (.ref C_Overfull) (.ref C_Touching) = some false)
    (sx_Overfull_OutOfGround : PySem.W.subIn K (.ref C_Overfull) (.ref C_OutOfGround) = some false)
    (sx_Overfull_TrialError : PySem.W.subIn K (.ref C_Overfull) (.ref C_TrialError) = some false)
    (sx_Overfull_UnknownIndex : PySem.W.subIn K (.ref C_Overfull) (.ref C_UnknownIndex) = some false)
    (sx_InvalidCommand_PoolError : PySem.W.subIn K (.ref C_InvalidCommand) (.ref C_PoolError) = some true)
    (sx_InvalidCommand_InvalidNumber : PySem.W.subIn K (.ref C_InvalidCommand) (.ref C_InvalidNumber) = some false)
    (sx_InvalidCommand_InvalidDrop : PySem.W.subIn K (.ref C_InvalidCommand) (.ref C_InvalidDrop) = some false)
    (sx_InvalidCommand_InvalidTime : PySem.W.subIn K (.ref C_InvalidCommand) (.ref C_InvalidTime) = some false)
    (sx_InvalidCommand_InvalidText : PySem.W.subIn K (.ref C_InvalidCommand) (.ref C_InvalidText) = some false)
    (sx_InvalidCommand_Full : PySem.W.subIn K (.ref C_InvalidCommand) (.ref C_Full) = some false)
    (sx_InvalidCommand_MissingDrop : PySem.W.subIn K (.ref C_InvalidCommand) (.ref C_MissingDrop) = some false)
    (sx_InvalidCommand_Touching : PySem.W.subIn K (.ref C_InvalidCommand) (.ref C_Touching) = some false)
    (sx_InvalidCommand_OutOfGround : PySem.W.subIn K (.ref C_InvalidCommand) (.ref C_OutOfGround) = some false)
    (sx_InvalidCommand_Overfull : PySem.W.subIn K (.ref C_InvalidCommand) (.ref C_Overfull) = some false)
    (sx_InvalidCommand_TrialError : PySem.W.subIn K (.ref C_InvalidCommand) (.ref C_TrialError) = some false)
    (sx_InvalidCommand_UnknownIndex : PySem.W.subIn K (.ref C_InvalidCommand) (.ref C_UnknownIndex) = some false)
    (sx_TrialError_PoolError : PySem.W.subIn K (.ref C_TrialError) (.ref C_PoolError) = some true)
    (sx_TrialError_InvalidNumber : PySem.W.subIn K (.ref C_TrialError) (.ref C_InvalidNumber) = some false)
    (sx_TrialError_InvalidDrop : PySem.W.subIn K (.ref C_TrialError) (.ref C_InvalidDrop) = some false)
    (sx_TrialError_InvalidTime : PySem.W.subIn K (.ref C_TrialError) (.ref C_InvalidTime) = some false)
    (sx_TrialError_InvalidText : PySem.W.subIn K (.ref C_TrialError) (.ref C_InvalidText) = some false)
    (sx_TrialError_InvalidCommand : PySem.W.subIn K (.ref C_TrialError) (.ref C_InvalidCommand) = some false)
    (sx_TrialError_Full : PySem.W.subIn K (.ref C_TrialError) (.ref C_Full) = some false)
    (sx_TrialError_MissingDrop : PySem.W.subIn K (.ref C_TrialError) (.ref C_MissingDrop) = some false)
    (sx_TrialError_Touching : PySem.W.subIn K (.ref C_TrialError) (.ref C_Touching) = some false)
    (sx_TrialError_OutOfGround : PySem.W.subIn K (.ref C_TrialError) (.ref C_OutOfGround) = some false)
    (sx_TrialError_Overfull : PySem.W.subIn K (.ref C_TrialError) (.ref C_Overfull) = some false)
    (sx_TrialError_UnknownIndex : PySem.W.subIn K (.ref C_TrialError) (.ref C_UnknownIndex) = some false)
    (sx_UnknownIndex_PoolError : PySem.W.subIn K (.ref C_UnknownIndex) (.ref C_PoolError) = some false)
    (sx_UnknownIndex_InvalidNumber : PySem.W.subIn K (.ref C_UnknownIndex) (.ref C_InvalidNumber) = some false)
    (sx_UnknownIndex_InvalidDrop : PySem.W.subIn K (.ref C_UnknownIndex) (.ref C_InvalidDrop) = some false)
    (sx_UnknownIndex_InvalidTime : PySem.W.subIn K (.ref C_UnknownIndex) (.ref C_InvalidTime) = some false)
    (sx_UnknownIndex_InvalidText : PySem.W.subIn K (.ref C_UnknownIndex) (.ref C_InvalidText) = some false)
    (sx_UnknownIndex_InvalidCommand : PySem.W.subIn K (.ref C_UnknownIndex) (.ref C_InvalidCommand) = some false)
    (sx_UnknownIndex_Full : PySem.W.subIn K (.ref C_UnknownIndex) (.ref C_Full) = some false)
    (sx_UnknownIndex_MissingDrop : PySem.W.subIn K (.ref C_UnknownIndex) (.ref C_MissingDrop) = some false)
    (sx_UnknownIndex_Touching : PySem.W.subIn K (.ref C_UnknownIndex) (.ref C_Touching) = some false)
    (sx_UnknownIndex_OutOfGround : PySem.W.subIn K (.ref C_UnknownIndex) (.ref C_OutOfGround) = some false)
    (sx_UnknownIndex_Overfull : PySem.W.subIn K (.ref C_UnknownIndex) (.ref C_Overfull) = some false)
    (sx_UnknownIndex_TrialError : PySem.W.subIn K (.ref C_UnknownIndex) (.ref C_TrialError) = some false)
    (a_InvalidNumber_init_d : PySem.W.findIn K (.ref C_InvalidNumber) "__init__" = some (some (.ref f_InvalidNumber_init_d)))
    (i_InvalidNumber_init_d : PySem.W.isFn K (.ref f_InvalidNumber_init_d) = true)
    (l_InvalidNumber_init_d : K.lookup f_InvalidNumber_init_d = some ⟨oc_InvalidNumber_init_d, od_InvalidNumber_init_d, .func (PySem.W.fnOf "__init__" "InvalidNumber.__init__" (defArgs s_InvalidNumber_init_d) (defBody s_InvalidNumber_init_d) (defScope s_InvalidNumber_init_d) .none kV_InvalidNumber_init_d dc_InvalidNumber_init_d pm_InvalidNumber_init_d an_InvalidNumber_init_d cd_InvalidNumber_init_d ct_InvalidNumber_init_d), sl_InvalidNumber_init_d⟩)
    (c_InvalidNumber_init_d : PySem.W.codeIn K cd_InvalidNumber_init_d "InvalidNumber.__init__" = true)
    (k_InvalidNumber_init_d : PySem.W.keepIn K (.ref f_InvalidNumber_init_d) = true)
    (a_InvalidDrop_init_d : PySem.W.findIn K (.ref C_InvalidDrop) "__init__" = some (some (.ref f_InvalidDrop_init_d)))
    (i_InvalidDrop_init_d : PySem.W.isFn K (.ref f_InvalidDrop_init_d) = true)
    (l_InvalidDrop_init_d : K.lookup f_InvalidDrop_init_d = some ⟨oc_InvalidDrop_init_d, od_InvalidDrop_init_d, .func (PySem.W.fnOf "__init__" "InvalidDrop.__init__" (defArgs s_InvalidDrop_init_d) (defBody s_InvalidDrop_init_d) (defScope s_InvalidDrop_init_d) .none kV_InvalidDrop_init_d dc_InvalidDrop_init_d pm_InvalidDrop_init_d an_InvalidDrop_init_d cd_InvalidDrop_init_d ct_InvalidDrop_init_d), sl_InvalidDrop_init_d⟩)
    (c_InvalidDrop_init_d : PySem.W.codeIn K cd_InvalidDrop_init_d "InvalidDrop.__init__" = true)
    (k_InvalidDrop_init_d : PySem.W.keepIn K (.ref f_InvalidDrop_init_d) = true)
    (a_InvalidTime_init_d : PySem.W.findIn K (.ref C_InvalidTime) "__init__" = some (some (.ref f_InvalidTime_init_d)))
    (i_InvalidTime_init_d : PySem.W.isFn K (.ref f_InvalidTime_init_d) = true)
    (l_InvalidTime_init_d : K.lookup f_InvalidTime_init_d = some ⟨oc_InvalidTime_init_d, od_InvalidTime_init_d, .func (PySem.W.fnOf "__init__" "InvalidTime.__init__" (defArgs s_InvalidTime_init_d) (defBody s_InvalidTime_init_d) (defScope s_InvalidTime_init_d) .none kV_InvalidTime_init_d dc_InvalidTime_init_d pm_InvalidTime_init_d an_InvalidTime_init_d cd_InvalidTime_init_d ct_InvalidTime_init_d), sl_InvalidTime_init_d⟩)
    (c_InvalidTime_init_d : PySem.W.codeIn K cd_InvalidTime_init_d "InvalidTime.__init__" = true)
    (k_InvalidTime_init_d : PySem.W.keepIn K (.ref f_InvalidTime_init_d) = true)
    (a_InvalidText_init_d : PySem.W.findIn K (.ref C_InvalidText) "__init__" = some (some (.ref f_InvalidText_init_d)))
    (i_InvalidText_init_d : PySem.W.isFn K (.ref f_InvalidText_init_d) = true)
    (l_InvalidText_init_d : K.lookup f_InvalidText_init_d = some ⟨oc_InvalidText_init_d, od_InvalidText_init_d, .func (PySem.W.fnOf "__init__" "InvalidText.__init__" (defArgs s_InvalidText_init_d) (defBody s_InvalidText_init_d) (defScope s_InvalidText_init_d) .none kV_InvalidText_init_d dc_InvalidText_init_d pm_InvalidText_init_d an_InvalidText_init_d cd_InvalidText_init_d ct_InvalidText_init_d), sl_InvalidText_init_d⟩)
    (c_InvalidText_init_d : PySem.W.codeIn K cd_InvalidText_init_d "InvalidText.__init__" = true)
    (k_InvalidText_init_d : PySem.W.keepIn K (.ref f_InvalidText_init_d) = true)
    (a_Full_init_d : PySem.W.findIn K (.ref C_Full) "__init__" = some (some (.ref f_Full_init_d)))
    (i_Full_init_d : PySem.W.isFn K (.ref f_Full_init_d) = true)
    (l_Full_init_d : K.lookup f_Full_init_d = some ⟨oc_Full_init_d, od_Full_init_d, .func (PySem.W.fnOf "__init__" "Full.__init__" (defArgs s_Full_init_d) (defBody s_Full_init_d) (defScope s_Full_init_d) .none kV_Full_init_d dc_Full_init_d pm_Full_init_d an_Full_init_d cd_Full_init_d ct_Full_init_d), sl_Full_init_d⟩)
    (c_Full_init_d : PySem.W.codeIn K cd_Full_init_d "Full.__init__" = true)
    (k_Full_init_d : PySem.W.keepIn K (.ref f_Full_init_d) = true)
    (a_MissingDrop_init_d : PySem.W.findIn K (.ref C_MissingDrop) "__init__" = some (some (.ref f_MissingDrop_init_d)))
    (i_MissingDrop_init_d : PySem.W.isFn K (.ref f_MissingDrop_init_d) = true)
    (l_MissingDrop_init_d : K.lookup f_MissingDrop_init_d = some ⟨oc_MissingDrop_init_d, od_MissingDrop_init_d, .func (PySem.W.fnOf "__init__" "MissingDrop.__init__" (defArgs s_MissingDrop_init_d) (defBody s_MissingDrop_init_d) (defScope s_MissingDrop_init_d) .none kV_MissingDrop_init_d dc_MissingDrop_init_d pm_MissingDrop_init_d an_MissingDrop_init_d cd_MissingDrop_init_d ct_MissingDrop_init_d), sl_MissingDrop_init_d⟩)
    (c_MissingDrop_init_d : PySem.W.codeIn K cd_MissingDrop_init_d "MissingDrop.__init__" = true)
    (k_MissingDrop_init_d : PySem.W.keepIn K (.ref f_MissingDrop_init_d) = true)
    (a_Touching_init_d : PySem.W.findIn K (.ref C_Touching) "__init__" = some (some (.ref f_Touching_init_d)))
    (i_Touching_init_d : PySem.W.isFn K (.ref f_Touching_init_d) = true)
    (l_Touching_init_d : K.lookup f_Touching_init_d = some ⟨oc_Touching_init_d, od_Touching_init_d, .func (PySem.W.fnOf "__init__" "Touching.__init__" (defArgs s_Touching_init_d) (defBody s_Touching_init_d) (defScope s_Touching_init_d) .none kV_Touching_init_d dc_Touching_init_d pm_Touching_init_d an_Touching_init_d cd_Touching_init_d ct_Touching_init_d), sl_Touching_init_d⟩)
    (c_Touching_init_d : PySem.W.codeIn K cd_Touching_init_d "Touching.__init__" = true)
    (k_Touching_init_d : PySem.W.keepIn K (.ref f_Touching_init_d) = true)
    (a_OutOfGround_init_d : PySem.W.findIn K (.ref C_OutOfGround) "__init__" = some (some (.ref f_OutOfGround_init_d)))
    (i_OutOfGround_init_d : PySem.W.isFn K (.ref f_OutOfGround_init_d) = true)
    (l_OutOfGround_init_d : K.lookup f_OutOfGround_init_d = some ⟨oc_OutOfGround_init_d, od_OutOfGround_init_d, .func (PySem.W.fnOf "__init__" "OutOfGround.__init__" (defArgs s_OutOfGround_init_d) (defBody s_OutOfGround_init_d) (defScope s_OutOfGround_init_d) .none kV_OutOfGround_init_d dc_OutOfGround_init_d pm_OutOfGround_init_d an_OutOfGround_init_d cd_OutOfGround_init_d ct_OutOfGround_init_d), sl_OutOfGround_init_d⟩)
    (c_OutOfGround_init_d : PySem.W.codeIn K cd_OutOfGround_init_d "OutOfGround.__init__" = true)
    (k_OutOfGround_init_d : PySem.W.keepIn K (.ref f_OutOfGround_init_d) = true)
    (a_Overfull_init_d : PySem.W.findIn K (.ref C_Overfull) "__init__" = some (some (.ref f_Overfull_init_d)))
    (i_Overfull_init_d : PySem.W.isFn K (.ref f_Overfull_init_d) = true)
    (l_Overfull_init_d : K.lookup f_Overfull_init_d = some ⟨oc_Overfull_init_d, od_Overfull_init_d, .func (PySem.W.fnOf "__init__" "Overfull.__init__" (defArgs s_Overfull_init_d) (defBody s_Overfull_init_d) (defScope s_Overfull_init_d) .none kV_Overfull_init_d dc_Overfull_init_d pm_Overfull_init_d an_Overfull_init_d cd_Overfull_init_d ct_Overfull_init_d), sl_Overfull_init_d⟩)
    (c_Overfull_init_d : PySem.W.codeIn K cd_Overfull_init_d "Overfull.__init__" = true)
    (k_Overfull_init_d : PySem.W.keepIn K (.ref f_Overfull_init_d) = true)
    (a_UnknownIndex_init_d : PySem.W.findIn K (.ref C_UnknownIndex) "__init__" = some (some (.ref f_UnknownIndex_init_d)))
    (i_UnknownIndex_init_d : PySem.W.isFn K (.ref f_UnknownIndex_init_d) = true)
    (l_UnknownIndex_init_d : K.lookup f_UnknownIndex_init_d = some ⟨oc_UnknownIndex_init_d, od_UnknownIndex_init_d, .func (PySem.W.fnOf "__init__" "UnknownIndex.__init__" (defArgs s_UnknownIndex_init_d) (defBody s_UnknownIndex_init_d) (defScope s_UnknownIndex_init_d) .none kV_UnknownIndex_init_d dc_UnknownIndex_init_d pm_UnknownIndex_init_d an_UnknownIndex_init_d cd_UnknownIndex_init_d ct_UnknownIndex_init_d), sl_UnknownIndex_init_d⟩)
    (c_UnknownIndex_init_d : PySem.W.codeIn K cd_UnknownIndex_init_d "UnknownIndex.__init__" = true)
    (k_UnknownIndex_init_d : PySem.W.keepIn K (.ref f_UnknownIndex_init_d) = true)
    (a_Ratio_init_d : PySem.W.findIn K (.ref C_Ratio) "__init__" = some (some (.ref f_Ratio_init_d)))
    (i_Ratio_init_d : PySem.W.isFn K (.ref f_Ratio_init_d) = true)
    (l_Ratio_init_d : K.lookup f_Ratio_init_d = some ⟨oc_Ratio_init_d, od_Ratio_init_d, .func (PySem.W.fnOf "__init__" "Ratio.__init__" (defArgs s_Ratio_init_d) (defBody s_Ratio_init_d) (defScope s_Ratio_init_d) (.ref T_Ratio_init_d) kV_Ratio_init_d dc_Ratio_init_d pm_Ratio_init_d an_Ratio_init_d cd_Ratio_init_d ct_Ratio_init_d), sl_Ratio_init_d⟩)
    (dl_Ratio_init_d : K.lookup T_Ratio_init_d = some to_Ratio_init_d)
    (dd_Ratio_init_d : to_Ratio_init_d.data = .seq ti_Ratio_init_d.toArray tn_Ratio_init_d)
    (dv_Ratio_init_d : Vals [V.int 1] ti_Ratio_init_d)
    (c_Ratio_init_d : PySem.W.codeIn K cd_Ratio_init_d "Ratio.__init__" = true)
    (k_Ratio_init_d : PySem.W.keepIn K (.ref f_Ratio_init_d) = true)
    (a_lw_box : PySem.W.nsIn K mainGlobals "_law_box" = some (some (.ref f_lw_box)))
    (l_lw_box : K.lookup f_lw_box = some ⟨oc_lw_box, od_lw_box, .func (PySem.W.fnOf "_law_box" "_law_box" (defArgs s_lw_box) (defBody s_lw_box) (defScope s_lw_box) .none kV_lw_box dc_lw_box pm_lw_box an_lw_box cd_lw_box ct_lw_box), sl_lw_box⟩)
    (c_lw_box : PySem.W.codeIn K cd_lw_box "_law_box" = true)
    (k_lw_box : PySem.W.keepIn K (.ref f_lw_box) = true)
    (a_lw_take : PySem.W.nsIn K mainGlobals "_law_take" = some (some (.ref f_lw_take)))
    (l_lw_take : K.lookup f_lw_take = some ⟨oc_lw_take, od_lw_take, .func (PySem.W.fnOf "_law_take" "_law_take" (defArgs s_lw_take) (defBody s_lw_take) (defScope s_lw_take) .none kV_lw_take dc_lw_take pm_lw_take an_lw_take cd_lw_take ct_lw_take), sl_lw_take⟩)
    (c_lw_take : PySem.W.codeIn K cd_lw_take "_law_take" = true)
    (k_lw_take : PySem.W.keepIn K (.ref f_lw_take) = true)
    (a_lw_value : PySem.W.nsIn K mainGlobals "_law_value" = some (some (.ref f_lw_value)))
    (l_lw_value : K.lookup f_lw_value = some ⟨oc_lw_value, od_lw_value, .func (PySem.W.fnOf "_law_value" "_law_value" (defArgs s_lw_value) (defBody s_lw_value) (defScope s_lw_value) .none kV_lw_value dc_lw_value pm_lw_value an_lw_value cd_lw_value ct_lw_value), sl_lw_value⟩)
    (c_lw_value : PySem.W.codeIn K cd_lw_value "_law_value" = true)
    (k_lw_value : PySem.W.keepIn K (.ref f_lw_value) = true)
    (a_lw_alike : PySem.W.nsIn K mainGlobals "_law_alike" = some (some (.ref f_lw_alike)))
    (l_lw_alike : K.lookup f_lw_alike = some ⟨oc_lw_alike, od_lw_alike, .func (PySem.W.fnOf "_law_alike" "_law_alike" (defArgs s_lw_alike) (defBody s_lw_alike) (defScope s_lw_alike) .none kV_lw_alike dc_lw_alike pm_lw_alike an_lw_alike cd_lw_alike ct_lw_alike), sl_lw_alike⟩)
    (c_lw_alike : PySem.W.codeIn K cd_lw_alike "_law_alike" = true)
    (k_lw_alike : PySem.W.keepIn K (.ref f_lw_alike) = true)
    (a_lw_placed : PySem.W.nsIn K mainGlobals "_law_placed" = some (some (.ref f_lw_placed)))
    (l_lw_placed : K.lookup f_lw_placed = some ⟨oc_lw_placed, od_lw_placed, .func (PySem.W.fnOf "_law_placed" "_law_placed" (defArgs s_lw_placed) (defBody s_lw_placed) (defScope s_lw_placed) .none kV_lw_placed dc_lw_placed pm_lw_placed an_lw_placed cd_lw_placed ct_lw_placed), sl_lw_placed⟩)
    (c_lw_placed : PySem.W.codeIn K cd_lw_placed "_law_placed" = true)
    (k_lw_placed : PySem.W.keepIn K (.ref f_lw_placed) = true)
    (a_lw_named : PySem.W.nsIn K mainGlobals "_law_named" = some (some (.ref f_lw_named)))
    (l_lw_named : K.lookup f_lw_named = some ⟨oc_lw_named, od_lw_named, .func (PySem.W.fnOf "_law_named" "_law_named" (defArgs s_lw_named) (defBody s_lw_named) (defScope s_lw_named) .none kV_lw_named dc_lw_named pm_lw_named an_lw_named cd_lw_named ct_lw_named), sl_lw_named⟩)
    (c_lw_named : PySem.W.codeIn K cd_lw_named "_law_named" = true)
    (k_lw_named : PySem.W.keepIn K (.ref f_lw_named) = true)
    (a_lw_kinds : PySem.W.nsIn K mainGlobals "_law_kinds" = some (some (.ref f_lw_kinds)))
    (l_lw_kinds : K.lookup f_lw_kinds = some ⟨oc_lw_kinds, od_lw_kinds, .func (PySem.W.fnOf "_law_kinds" "_law_kinds" (defArgs s_lw_kinds) (defBody s_lw_kinds) (defScope s_lw_kinds) .none kV_lw_kinds dc_lw_kinds pm_lw_kinds an_lw_kinds cd_lw_kinds ct_lw_kinds), sl_lw_kinds⟩)
    (c_lw_kinds : PySem.W.codeIn K cd_lw_kinds "_law_kinds" = true)
    (k_lw_kinds : PySem.W.keepIn K (.ref f_lw_kinds) = true)
    (a_lw_right : PySem.W.nsIn K mainGlobals "_law_right" = some (some (.ref f_lw_right)))
    (l_lw_right : K.lookup f_lw_right = some ⟨oc_lw_right, od_lw_right, .func (PySem.W.fnOf "_law_right" "_law_right" (defArgs s_lw_right) (defBody s_lw_right) (defScope s_lw_right) .none kV_lw_right dc_lw_right pm_lw_right an_lw_right cd_lw_right ct_lw_right), sl_lw_right⟩)
    (c_lw_right : PySem.W.codeIn K cd_lw_right "_law_right" = true)
    (k_lw_right : PySem.W.keepIn K (.ref f_lw_right) = true)
    (a_law : PySem.W.nsIn K mainGlobals "law" = some (some (.ref f_law)))
    (l_law : K.lookup f_law = some ⟨oc_law, od_law, .func (PySem.W.fnOf "law" "law" (defArgs s_law) (defBody s_law) (defScope s_law) .none kV_law dc_law pm_law an_law cd_law ct_law), sl_law⟩)
    (c_law : PySem.W.codeIn K cd_law "law" = true)
    (k_law : PySem.W.keepIn K (.ref f_law) = true)
    (xb_InvalidNumber_ValueError : PySem.W.subIn K (.ref C_InvalidNumber) (.type "ValueError") = some true)
    (xb_InvalidNumber_IndexError : PySem.W.subIn K (.ref C_InvalidNumber) (.type "IndexError") = some false)
    (xb_InvalidNumber_KeyError : PySem.W.subIn K (.ref C_InvalidNumber) (.type "KeyError") = some false)
    (xb_InvalidDrop_ValueError : PySem.W.subIn K (.ref C_InvalidDrop) (.type "ValueError") = some true)
    (xb_InvalidDrop_IndexError : PySem.W.subIn K (.ref C_InvalidDrop) (.type "IndexError") = some false)
    (xb_InvalidDrop_KeyError : PySem.W.subIn K (.ref C_InvalidDrop) (.type "KeyError") = some false)
    (xb_InvalidTime_ValueError : PySem.W.subIn K (.ref C_InvalidTime) (.type "ValueError") = some true)
    (xb_InvalidTime_IndexError : PySem.W.subIn K (.ref C_InvalidTime) (.type "IndexError") = some false)
    (xb_InvalidTime_KeyError : PySem.W.subIn K (.ref C_InvalidTime) (.type "KeyError") = some false)
    (xb_InvalidText_ValueError : PySem.W.subIn K (.ref C_InvalidText) (.type "ValueError") = some true)
    (xb_InvalidText_IndexError : PySem.W.subIn K (.ref C_InvalidText) (.type "IndexError") = some false)
    (xb_InvalidText_KeyError : PySem.W.subIn K (.ref C_InvalidText) (.type "KeyError") = some false)
    (xb_Full_ValueError : PySem.W.subIn K (.ref C_Full) (.type "ValueError") = some true)
    (xb_Full_IndexError : PySem.W.subIn K (.ref C_Full) (.type "IndexError") = some false)
    (xb_Full_KeyError : PySem.W.subIn K (.ref C_Full) (.type "KeyError") = some false)
    (xb_MissingDrop_ValueError : PySem.W.subIn K (.ref C_MissingDrop) (.type "ValueError") = some true)
    (xb_MissingDrop_IndexError : PySem.W.subIn K (.ref C_MissingDrop) (.type "IndexError") = some false)
    (xb_MissingDrop_KeyError : PySem.W.subIn K (.ref C_MissingDrop) (.type "KeyError") = some false)
    (xb_Touching_ValueError : PySem.W.subIn K (.ref C_Touching) (.type "ValueError") = some true)
    (xb_Touching_IndexError : PySem.W.subIn K (.ref C_Touching) (.type "IndexError") = some false)
    (xb_Touching_KeyError : PySem.W.subIn K (.ref C_Touching) (.type "KeyError") = some false)
    (xb_OutOfGround_ValueError : PySem.W.subIn K (.ref C_OutOfGround) (.type "ValueError") = some true)
    (xb_OutOfGround_IndexError : PySem.W.subIn K (.ref C_OutOfGround) (.type "IndexError") = some false)
    (xb_OutOfGround_KeyError : PySem.W.subIn K (.ref C_OutOfGround) (.type "KeyError") = some false)
    (xb_Overfull_ValueError : PySem.W.subIn K (.ref C_Overfull) (.type "ValueError") = some true)
    (xb_Overfull_IndexError : PySem.W.subIn K (.ref C_Overfull) (.type "IndexError") = some false)
    (xb_Overfull_KeyError : PySem.W.subIn K (.ref C_Overfull) (.type "KeyError") = some false)
    (xb_InvalidCommand_ValueError : PySem.W.subIn K (.ref C_InvalidCommand) (.type "ValueError") = some true)
    (xb_InvalidCommand_IndexError : PySem.W.subIn K (.ref C_InvalidCommand) (.type "IndexError") = some false)
    (xb_InvalidCommand_KeyError : PySem.W.subIn K (.ref C_InvalidCommand) (.type "KeyError") = some false)
    (xb_TrialError_ValueError : PySem.W.subIn K (.ref C_TrialError) (.type "ValueError") = some true)
    (xb_TrialError_IndexError : PySem.W.subIn K (.ref C_TrialError) (.type "IndexError") = some false)
    (xb_TrialError_KeyError : PySem.W.subIn K (.ref C_TrialError) (.type "KeyError") = some false)
    (xb_UnknownIndex_ValueError : PySem.W.subIn K (.ref C_UnknownIndex) (.type "ValueError") = some false)
    (xb_UnknownIndex_IndexError : PySem.W.subIn K (.ref C_UnknownIndex) (.type "IndexError") = some true)
    (xb_UnknownIndex_KeyError : PySem.W.subIn K (.ref C_UnknownIndex) (.type "KeyError") = some false)
    (xo_InvalidCommand : PySem.W.excIn K C_InvalidCommand [.type "ValueError", .type "Exception", .type "BaseException", .type "object"] "ValueError.__new__" = true)
    (xo_TrialError : PySem.W.excIn K C_TrialError [.type "ValueError", .type "Exception", .type "BaseException", .type "object"] "ValueError.__new__" = true)
    (zkb_InvalidNumber : True)
    (zkb_InvalidDrop : True)
    (zkb_InvalidTime : True)
    (zkb_InvalidText : True)
    (zkb_Full : True)
    (zkb_MissingDrop : True)
    (zkb_Touching : True)
    (zkb_OutOfGround : True)
    (zkb_Overfull : True)
    (zkb_UnknownIndex : True)
    : ∃ fd : FuncData, (∀ (s : Shared) (v : Value), BindsTo s fd ⟨[v], []⟩ [("_law_script", v)]) ∧ ∀ base : Heap, K.In base → base.Ns mainGlobals mg → FnG P w K mg base CX0 lv fa fd ["_law_script"] (sp K) := by
  have e := hfa.symm.trans (PySem.W.mg_of X G a_law)
  cases e
  let T : Txt K mg := {
    b_len := PySem.W.mg_none_of X G zb_len,
    b_range := PySem.W.mg_none_of X G zb_range,
    b_int := PySem.W.mg_none_of X G zb_int,
    b_str := PySem.W.mg_none_of X G zb_str,
    b_bool := PySem.W.mg_none_of X G zb_bool,
    b_abs := PySem.W.mg_none_of X G zb_abs,
    b_isinstance := PySem.W.mg_none_of X G zb_isinstance,
    b_repr := PySem.W.mg_none_of X G zb_repr,
    b_max := PySem.W.mg_none_of X G zb_max,
    b_min := PySem.W.mg_none_of X G zb_min,
    b_tuple := PySem.W.mg_none_of X G zb_tuple,
    b_all := PySem.W.mg_none_of X G zb_all,
    b_zip := PySem.W.mg_none_of X G zb_zip,
    b_enumerate := PySem.W.mg_none_of X G zb_enumerate,
    b_ValueError := PySem.W.mg_none_of X G zb_ValueError,
    b_IndexError := PySem.W.mg_none_of X G zb_IndexError,
    b_KeyError := PySem.W.mg_none_of X G zb_KeyError,
    g_gcd := PySem.W.mg_of X G gi_gcd,
    C_PoolError := C_PoolError,
    g_PoolError := PySem.W.mg_of X G gc_PoolError,
    ox_PoolError := ⟨⟨_, _, _, _, _, _, _, _, _, _, _, _, _, _, _, xl_PoolError, xr_PoolError⟩, xs_PoolError, xe_PoolError, xt_PoolError, xk_PoolError⟩,
    xf_PoolError := ⟨xa_PoolError, xg_PoolError, xe_PoolError, xh_PoolError⟩,
    ic_PoolError := xi_PoolError,
    ss_PoolError := xq_PoolError,
    C_InvalidNumber := C_InvalidNumber,
    g_InvalidNumber := PySem.W.mg_of X G gc_InvalidNumber,
    ox_InvalidNumber := ⟨⟨_, _, _, _, _, _, _, _, _, _, _, _, _, _, _, xl_InvalidNumber, xr_InvalidNumber⟩, xs_InvalidNumber, xe_InvalidNumber, xt_InvalidNumber, xk_InvalidNumber⟩,
    xf_InvalidNumber := ⟨xa_InvalidNumber, xg_InvalidNumber, xe_InvalidNumber, xh_InvalidNumber⟩,
    ic_InvalidNumber := xi_InvalidNumber,
    ss_InvalidNumber := xq_InvalidNumber,
    ec_InvalidNumber := ⟨xa_InvalidNumber, xg_InvalidNumber, xe_InvalidNumber, xh_InvalidNumber, ea_InvalidNumber, eb_InvalidNumber, et_InvalidNumber, em_InvalidNumber⟩,
    n_InvalidNumber_value := na_InvalidNumber_value,
    C_InvalidDrop := C_InvalidDrop,
    g_InvalidDrop := PySem.W.mg_of X G gc_InvalidDrop,
    ox_InvalidDrop := ⟨⟨_, _, _, _, _, _, _, _, _, _, _, _, _, _, _, xl_InvalidDrop, xr_InvalidDrop⟩, xs_InvalidDrop, xe_InvalidDrop, xt_InvalidDrop, xk_InvalidDrop⟩,
    xf_InvalidDrop := ⟨xa_InvalidDrop, xg_InvalidDrop, xe_InvalidDrop, xh_InvalidDrop⟩,
    ic_InvalidDrop := xi_InvalidDrop,
    ss_InvalidDrop := xq_InvalidDrop,
    ec_InvalidDrop := ⟨xa_InvalidDrop, xg_InvalidDrop, xe_InvalidDrop, xh_InvalidDrop, ea_InvalidDrop, eb_InvalidDrop, et_InvalidDrop, em_InvalidDrop⟩,
    n_InvalidDrop_index := na_InvalidDrop_index,
    C_InvalidTime := C_InvalidTime,
    g_InvalidTime := PySem.W.mg_of X G gc_InvalidTime,
    ox_InvalidTime := ⟨⟨_, _, _, _, _, _, _, _, _, _, _, _, _, _, _, xl_InvalidTime, xr_InvalidTime⟩, xs_InvalidTime, xe_InvalidTime, xt_InvalidTime, xk_InvalidTime⟩,
    xf_InvalidTime := ⟨xa_InvalidTime, xg_InvalidTime, xe_InvalidTime, xh_InvalidTime⟩,
    ic_InvalidTime := xi_InvalidTime,
    ss_InvalidTime := xq_InvalidTime,
    ec_InvalidTime := ⟨xa_InvalidTime, xg_InvalidTime, xe_InvalidTime, xh_InvalidTime, ea_InvalidTime, eb_InvalidTime, et_InvalidTime, em_InvalidTime⟩,
    n_InvalidTime_time := na_InvalidTime_time,
    C_InvalidText := C_InvalidText,
    g_InvalidText := PySem.W.mg_of X G gc_InvalidText,
    ox_InvalidText := ⟨⟨_, _, _, _, _, _, _, _, _, _, _, _, _, _, _, xl_InvalidText, xr_InvalidText⟩, xs_InvalidText, xe_InvalidText, xt_InvalidText, xk_InvalidText⟩,
    xf_InvalidText := ⟨xa_InvalidText, xg_InvalidText, xe_InvalidText, xh_InvalidText⟩,
    ic_InvalidText := xi_InvalidText,
    ss_InvalidText := xq_InvalidText,
    ec_InvalidText := ⟨xa_InvalidText, xg_InvalidText, xe_InvalidText, xh_InvalidText, ea_InvalidText, eb_InvalidText, et_InvalidText, em_InvalidText⟩,
    n_InvalidText_line := na_InvalidText_line,
    C_InvalidCommand := C_InvalidCommand,
    g_InvalidCommand := PySem.W.mg_of X G gc_InvalidCommand,
    ox_InvalidCommand := ⟨⟨_, _, _, _, _, _, _, _, _, _, _, _, _, _, _, xl_InvalidCommand, xr_InvalidCommand⟩, xs_InvalidCommand, xe_InvalidCommand, xt_InvalidCommand, xk_InvalidCommand⟩,
    xf_InvalidCommand := ⟨xa_InvalidCommand, xg_InvalidCommand, xe_InvalidCommand, xh_InvalidCommand⟩,
    ic_InvalidCommand := xi_InvalidCommand,
    ss_InvalidCommand := xq_InvalidCommand,
    ec_InvalidCommand := ⟨xa_InvalidCommand, xg_InvalidCommand, xe_InvalidCommand, xh_InvalidCommand, ea_InvalidCommand, eb_InvalidCommand, et_InvalidCommand, em_InvalidCommand⟩,
    C_Full := C_Full,
    g_Full := PySem.W.mg_of X G gc_Full,
    ox_Full := ⟨⟨_, _, _, _, _, _, _, _, _, _, _, _, _, _, _, xl_Full, xr_Full⟩, xs_Full, xe_Full, xt_Full, xk_Full⟩,
    xf_Full := ⟨xa_Full, xg_Full, xe_Full, xh_Full⟩,
    ic_Full := xi_Full,
    ss_Full := xq_Full,
    ec_Full := ⟨xa_Full, xg_Full, xe_Full, xh_Full, ea_Full, eb_Full, et_Full, em_Full⟩,
    n_Full_limit := na_Full_limit,
    C_MissingDrop := C_MissingDrop,
    g_MissingDrop := PySem.W.mg_of X G gc_MissingDrop,
    ox_MissingDrop := ⟨⟨_, _, _, _, _, _, _, _, _, _, _, _, _, _, _, xl_MissingDrop, xr_MissingDrop⟩, xs_MissingDrop, xe_MissingDrop, xt_MissingDrop, xk_MissingDrop⟩,
    xf_MissingDrop := ⟨xa_MissingDrop, xg_MissingDrop, xe_MissingDrop, xh_MissingDrop⟩,
    ic_MissingDrop := xi_MissingDrop,
    ss_MissingDrop := xq_MissingDrop,
    ec_MissingDrop := ⟨xa_MissingDrop, xg_MissingDrop, xe_MissingDrop, xh_MissingDrop, ea_MissingDrop, eb_MissingDrop, et_MissingDrop, em_MissingDrop⟩,
    n_MissingDrop_spot := na_MissingDrop_spot,
    n_MissingDrop_amount := na_MissingDrop_amount,
    C_Touching := C_Touching,
    g_Touching := PySem.W.mg_of X G gc_Touching,
    ox_Touching := ⟨⟨_, _, _, _, _, _, _, _, _, _, _, _, _, _, _, xl_Touching, xr_Touching⟩, xs_Touching, xe_Touching, xt_Touching, xk_Touching⟩,
    xf_Touching := ⟨xa_Touching, xg_Touching, xe_Touching, xh_Touching⟩,
    ic_Touching := xi_Touching,
    ss_Touching := xq_Touching,
    ec_Touching := ⟨xa_Touching, xg_Touching, xe_Touching, xh_Touching, ea_Touching, eb_Touching, et_Touching, em_Touching⟩,
    n_Touching_index := na_Touching_index,
    C_OutOfGround := C_OutOfGround,
    g_OutOfGround := PySem.W.mg_of X G gc_OutOfGround,
    ox_OutOfGround := ⟨⟨_, _, _, _, _, _, _, _, _, _, _, _, _, _, _, xl_OutOfGround, xr_OutOfGround⟩, xs_OutOfGround, xe_OutOfGround, xt_OutOfGround, xk_OutOfGround⟩,
    xf_OutOfGround := ⟨xa_OutOfGround, xg_OutOfGround, xe_OutOfGround, xh_OutOfGround⟩,
    ic_OutOfGround := xi_OutOfGround,
    ss_OutOfGround := xq_OutOfGround,
    ec_OutOfGround := ⟨xa_OutOfGround, xg_OutOfGround, xe_OutOfGround, xh_OutOfGround, ea_OutOfGround, eb_OutOfGround, et_OutOfGround, em_OutOfGround⟩,
    n_OutOfGround_spot := na_OutOfGround_spot,
    C_Overfull := C_Overfull,
    g_Overfull := PySem.W.mg_of X G gc_Overfull,
    ox_Overfull := ⟨⟨_, _, _, _, _, _, _, _, _, _, _, _, _, _, _, xl_Overfull, xr_Overfull⟩, xs_Overfull, xe_Overfull, xt_Overfull, xk_Overfull⟩,
    xf_Overfull := ⟨xa_Overfull, xg_Overfull, xe_Overfull, xh_Overfull⟩,
    ic_Overfull := xi_Overfull,
    ss_Overfull := xq_Overfull,
    ec_Overfull := ⟨xa_Overfull, xg_Overfull, xe_Overfull, xh_Overfull, ea_Overfull, eb_Overfull, et_Overfull, em_Overfull⟩,
    n_Overfull_total := na_Overfull_total,
    C_TrialError := C_TrialError,
    g_TrialError := PySem.W.mg_of X G gc_TrialError,
    ox_TrialError := ⟨⟨_, _, _, _, _, _, _, _, _, _, _, _, _, _, _, xl_TrialError, xr_TrialError⟩, xs_TrialError, xe_TrialError, xt_TrialError, xk_TrialError⟩,
    xf_TrialError := ⟨xa_TrialError, xg_TrialError, xe_TrialError, xh_TrialError⟩,
    ic_TrialError := xi_TrialError,
    ss_TrialError := xq_TrialError,
    ec_TrialError := ⟨xa_TrialError, xg_TrialError, xe_TrialError, xh_TrialError, ea_TrialError, eb_TrialError, et_TrialError, em_TrialError⟩,
    C_UnknownIndex := C_UnknownIndex,
    g_UnknownIndex := PySem.W.mg_of X G gc_UnknownIndex,
    ox_UnknownIndex := ⟨⟨_, _, _, _, _, _, _, _, _, _, _, _, _, _, xl_UnknownIndex⟩, xs_UnknownIndex, xe_UnknownIndex, xt_UnknownIndex, xk_UnknownIndex⟩,
    xf_UnknownIndex := ⟨xa_UnknownIndex, xg_UnknownIndex, xe_UnknownIndex, xh_UnknownIndex⟩,
    ic_UnknownIndex := xi_UnknownIndex,
    ss_UnknownIndex := xq_UnknownIndex,
    ec_UnknownIndex := ⟨xa_UnknownIndex, xg_UnknownIndex, xe_UnknownIndex, xh_UnknownIndex, ea_UnknownIndex, eb_UnknownIndex, et_UnknownIndex, em_UnknownIndex⟩,
    n_UnknownIndex_index := na_UnknownIndex_index,
    C_Ratio := C_Ratio,
    g_Ratio := PySem.W.mg_of X G gc_Ratio,
    cl_Ratio := ⟨pg_Ratio, hd_Ratio, po_Ratio, sa_Ratio⟩,
    tc_Ratio := ⟨⟨tca_Ratio, tcb_Ratio, tcc_Ratio, tcd_Ratio⟩, ric_Ratio, rty_Ratio, rss_Ratio⟩,
    rd_Ratio := ⟨rda_Ratio, rdb_Ratio⟩,
    mk_Ratio := mk_Ratio,
    kp_Ratio := kc_Ratio,
    sf_Ratio := sf_Ratio,
    mr_Ratio := ⟨cd_Ratio, mra_Ratio, mrb_Ratio⟩,
    st_Ratio_int := st_Ratio_int,
    st_Ratio_bool := st_Ratio_bool,
    st_Ratio_str := st_Ratio_str,
    st_Ratio_NoneType := st_Ratio_NoneType,
    st_Ratio_tuple := st_Ratio_tuple,
    su_Ratio_int := su_Ratio_int,
    su_Ratio_bool := su_Ratio_bool,
    su_Ratio_tuple := su_Ratio_tuple,
    su_Ratio_str := su_Ratio_str,
    su_Ratio_NoneType := su_Ratio_NoneType,
    n_Ratio_top := na_Ratio_top,
    n_Ratio_bottom := na_Ratio_bottom,
    sx_InvalidNumber_PoolError := sx_InvalidNumber_PoolError,
    sx_InvalidNumber_InvalidDrop := sx_InvalidNumber_InvalidDrop,
    sx_InvalidNumber_InvalidTime := sx_InvalidNumber_InvalidTime,
    sx_InvalidNumber_InvalidText := sx_InvalidNumber_InvalidText,
    sx_InvalidNumber_InvalidCommand := sx_InvalidNumber_InvalidCommand,
    sx_InvalidNumber_Full := sx_InvalidNumber_Full,
    sx_InvalidNumber_MissingDrop := sx_InvalidNumber_MissingDrop,
    sx_InvalidNumber_Touching := sx_InvalidNumber_Touching,
    sx_InvalidNumber_OutOfGround := sx_InvalidNumber_OutOfGround,
    sx_InvalidNumber_Overfull := sx_InvalidNumber_Overfull,
    sx_InvalidNumber_TrialError := sx_InvalidNumber_TrialError,
    sx_InvalidNumber_UnknownIndex := sx_InvalidNumber_UnknownIndex,
    sx_InvalidDrop_PoolError := sx_InvalidDrop_PoolError,
    sx_InvalidDrop_InvalidNumber := sx_InvalidDrop_InvalidNumber,
    sx_InvalidDrop_InvalidTime := sx_InvalidDrop_InvalidTime,
    sx_InvalidDrop_InvalidText := sx_InvalidDrop_InvalidText,
    sx_InvalidDrop_InvalidCommand := sx_InvalidDrop_InvalidCommand,
    sx_InvalidDrop_Full := sx_InvalidDrop_Full,
    sx_InvalidDrop_MissingDrop := sx_InvalidDrop_MissingDrop,
    sx_InvalidDrop_Touching := sx_InvalidDrop_Touching,
    sx_InvalidDrop_OutOfGround := sx_InvalidDrop_OutOfGround,
    sx_InvalidDrop_Overfull := sx_InvalidDrop_Overfull,
    sx_InvalidDrop_TrialError := sx_InvalidDrop_TrialError,
    sx_InvalidDrop_UnknownIndex := sx_InvalidDrop_UnknownIndex,
    sx_InvalidTime_PoolError := sx_InvalidTime_PoolError,
    sx_InvalidTime_InvalidNumber := sx_InvalidTime_InvalidNumber,
    sx_InvalidTime_InvalidDrop := sx_InvalidTime_InvalidDrop,
    sx_InvalidTime_InvalidText := sx_InvalidTime_InvalidText,
    sx_InvalidTime_InvalidCommand := sx_InvalidTime_InvalidCommand,
    sx_InvalidTime_Full := sx_InvalidTime_Full,
    sx_InvalidTime_MissingDrop := sx_InvalidTime_MissingDrop,
    sx_InvalidTime_Touching := sx_InvalidTime_Touching,
    sx_InvalidTime_OutOfGround := sx_InvalidTime_OutOfGround,
    sx_InvalidTime_Overfull := sx_InvalidTime_Overfull,
    sx_InvalidTime_TrialError := sx_InvalidTime_TrialError,
    sx_InvalidTime_UnknownIndex := sx_InvalidTime_UnknownIndex,
    sx_InvalidText_PoolError := sx_InvalidText_PoolError,
    sx_InvalidText_InvalidNumber := sx_InvalidText_InvalidNumber,
    sx_InvalidText_InvalidDrop := sx_InvalidText_InvalidDrop,
    sx_InvalidText_InvalidTime := sx_InvalidText_InvalidTime,
    sx_InvalidText_InvalidCommand := sx_InvalidText_InvalidCommand,
    sx_InvalidText_Full := sx_InvalidText_Full,
    sx_InvalidText_MissingDrop := sx_InvalidText_MissingDrop,
    sx_InvalidText_Touching := sx_InvalidText_Touching,
    sx_InvalidText_OutOfGround := sx_InvalidText_OutOfGround,
    sx_InvalidText_Overfull := sx_InvalidText_Overfull,
    sx_InvalidText_TrialError := sx_InvalidText_TrialError,
    sx_InvalidText_UnknownIndex := sx_InvalidText_UnknownIndex,
    sx_Full_PoolError := sx_Full_PoolError,
    sx_Full_InvalidNumber := sx_Full_InvalidNumber,
    sx_Full_InvalidDrop := sx_Full_InvalidDrop,
    sx_Full_InvalidTime := sx_Full_InvalidTime,
    sx_Full_InvalidText := sx_Full_InvalidText,
    sx_Full_InvalidCommand := sx_Full_InvalidCommand,
    sx_Full_MissingDrop := sx_Full_MissingDrop,
    sx_Full_Touching := sx_Full_Touching,
    sx_Full_OutOfGround := sx_Full_OutOfGround,
    sx_Full_Overfull := sx_Full_Overfull,
    sx_Full_TrialError := sx_Full_TrialError,
    sx_Full_UnknownIndex := sx_Full_UnknownIndex,
    sx_MissingDrop_PoolError := sx_MissingDrop_PoolError,
    sx_MissingDrop_InvalidNumber := sx_MissingDrop_InvalidNumber,
    sx_MissingDrop_InvalidDrop := sx_MissingDrop_InvalidDrop,
    sx_MissingDrop_InvalidTime := sx_MissingDrop_InvalidTime,
    sx_MissingDrop_InvalidText := sx_MissingDrop_InvalidText,
    sx_MissingDrop_InvalidCommand := sx_MissingDrop_InvalidCommand,
    sx_MissingDrop_Full := sx_MissingDrop_Full,
    sx_MissingDrop_Touching := sx_MissingDrop_Touching,
    sx_MissingDrop_OutOfGround := sx_MissingDrop_OutOfGround,
    sx_MissingDrop_Overfull := sx_MissingDrop_Overfull,
    sx_MissingDrop_TrialError := sx_MissingDrop_TrialError,
    sx_MissingDrop_UnknownIndex := sx_MissingDrop_UnknownIndex,
    sx_Touching_PoolError := sx_Touching_PoolError,
    sx_Touching_InvalidNumber := sx_Touching_InvalidNumber,
    sx_Touching_InvalidDrop := sx_Touching_InvalidDrop,
    sx_Touching_InvalidTime := sx_Touching_InvalidTime,
    sx_Touching_InvalidText := sx_Touching_InvalidText,
    sx_Touching_InvalidCommand := sx_Touching_InvalidCommand,
    sx_Touching_Full := sx_Touching_Full,
    sx_Touching_MissingDrop := sx_Touching_MissingDrop,
    sx_Touching_OutOfGround := sx_Touching_OutOfGround,
    sx_Touching_Overfull := sx_Touching_Overfull,
    sx_Touching_TrialError := sx_Touching_TrialError,
    sx_Touching_UnknownIndex := sx_Touching_UnknownIndex,
    sx_OutOfGround_PoolError := sx_OutOfGround_PoolError,
    sx_OutOfGround_InvalidNumber := sx_OutOfGround_InvalidNumber,
    sx_OutOfGround_InvalidDrop := sx_OutOfGround_InvalidDrop,
    sx_OutOfGround_InvalidTime := sx_OutOfGround_InvalidTime,
    sx_OutOfGround_InvalidText := sx_OutOfGround_InvalidText,
    sx_OutOfGround_InvalidCommand := sx_OutOfGround_InvalidCommand,
    sx_OutOfGround_Full := sx_OutOfGround_Full,
    sx_OutOfGround_MissingDrop := sx_OutOfGround_MissingDrop,
    sx_OutOfGround_Touching := sx_OutOfGround_Touching,
    sx_OutOfGround_Overfull := sx_OutOfGround_Overfull,
    sx_OutOfGround_TrialError := sx_OutOfGround_TrialError,
    sx_OutOfGround_UnknownIndex := sx_OutOfGround_UnknownIndex,
    sx_Overfull_PoolError := sx_Overfull_PoolError,
    sx_Overfull_InvalidNumber := sx_Overfull_InvalidNumber,
    sx_Overfull_InvalidDrop := sx_Overfull_InvalidDrop,
    sx_Overfull_InvalidTime := sx_Overfull_InvalidTime,
    sx_Overfull_InvalidText := sx_Overfull_InvalidText,
    sx_Overfull_InvalidCommand := sx_Overfull_InvalidCommand,
    sx_Overfull_Full := sx_Overfull_Full,
    sx_Overfull_MissingDrop := sx_Overfull_MissingDrop,
    sx_Overfull_Touching := sx_Overfull_Touching,
    sx_Overfull_OutOfGround := sx_Overfull_OutOfGround,
    sx_Overfull_TrialError := sx_Overfull_TrialError,
    sx_Overfull_UnknownIndex := sx_Overfull_UnknownIndex,
    sx_InvalidCommand_PoolError := sx_InvalidCommand_PoolError,
    sx_InvalidCommand_InvalidNumber := sx_InvalidCommand_InvalidNumber,
    sx_InvalidCommand_InvalidDrop := sx_InvalidCommand_InvalidDrop,
    sx_InvalidCommand_InvalidTime := sx_InvalidCommand_InvalidTime,
    sx_InvalidCommand_InvalidText := sx_InvalidCommand_InvalidText,
    sx_InvalidCommand_Full := sx_InvalidCommand_Full,
    sx_InvalidCommand_MissingDrop := sx_InvalidCommand_MissingDrop,
    sx_InvalidCommand_Touching := sx_InvalidCommand_Touching,
    sx_InvalidCommand_OutOfGround := sx_InvalidCommand_OutOfGround,
    sx_InvalidCommand_Overfull := sx_InvalidCommand_Overfull,
    sx_InvalidCommand_TrialError := sx_InvalidCommand_TrialError,
    sx_InvalidCommand_UnknownIndex := sx_InvalidCommand_UnknownIndex,
    sx_TrialError_PoolError := sx_TrialError_PoolError,
    sx_TrialError_InvalidNumber := sx_TrialError_InvalidNumber,
    sx_TrialError_InvalidDrop := sx_TrialError_InvalidDrop,
    sx_TrialError_InvalidTime := sx_TrialError_InvalidTime,
    sx_TrialError_InvalidText := sx_TrialError_InvalidText,
    sx_TrialError_InvalidCommand := sx_TrialError_InvalidCommand,
    sx_TrialError_Full := sx_TrialError_Full,
    sx_TrialError_MissingDrop := sx_TrialError_MissingDrop,
    sx_TrialError_Touching := sx_TrialError_Touching,
    sx_TrialError_OutOfGround := sx_TrialError_OutOfGround,
    sx_TrialError_Overfull := sx_TrialError_Overfull,
    sx_TrialError_UnknownIndex := sx_TrialError_UnknownIndex,
    sx_UnknownIndex_PoolError := sx_UnknownIndex_PoolError,
    sx_UnknownIndex_InvalidNumber := sx_UnknownIndex_InvalidNumber,
    sx_UnknownIndex_InvalidDrop := sx_UnknownIndex_InvalidDrop,
    sx_UnknownIndex_InvalidTime := sx_UnknownIndex_InvalidTime,
    sx_UnknownIndex_InvalidText := sx_UnknownIndex_InvalidText,
    sx_UnknownIndex_InvalidCommand := sx_UnknownIndex_InvalidCommand,
    sx_UnknownIndex_Full := sx_UnknownIndex_Full,
    sx_UnknownIndex_MissingDrop := sx_UnknownIndex_MissingDrop,
    sx_UnknownIndex_Touching := sx_UnknownIndex_Touching,
    sx_UnknownIndex_OutOfGround := sx_UnknownIndex_OutOfGround,
    sx_UnknownIndex_Overfull := sx_UnknownIndex_Overfull,
    sx_UnknownIndex_TrialError := sx_UnknownIndex_TrialError,
    f_InvalidNumber_init_d := f_InvalidNumber_init_d,
    d_InvalidNumber_init_d := _,
    F_InvalidNumber_init_d := fun_mk (st := s_InvalidNumber_init_d) l_InvalidNumber_init_d c_InvalidNumber_init_d k_InvalidNumber_init_d,
    B_InvalidNumber_init_d := (fun_mk (st := s_InvalidNumber_init_d) l_InvalidNumber_init_d c_InvalidNumber_init_d k_InvalidNumber_init_d).binds (ps := ["self", "value"]) fun _ _ _ _ _ _ us hl => match us, hl with | [_, _], _ => rfl,
    m_InvalidNumber_init_d := ⟨a_InvalidNumber_init_d, i_InvalidNumber_init_d⟩,
    t_InvalidNumber_init_d := beq_iff_eq.mp i_InvalidNumber_init_d,
    f_InvalidDrop_init_d := f_InvalidDrop_init_d,
    d_InvalidDrop_init_d := _,
    F_InvalidDrop_init_d := fun_mk (st := s_InvalidDrop_init_d) l_InvalidDrop_init_d c_InvalidDrop_init_d k_InvalidDrop_init_d,
    B_InvalidDrop_init_d := (fun_mk (st := s_InvalidDrop_init_d) l_InvalidDrop_init_d c_InvalidDrop_init_d k_InvalidDrop_init_d).binds (ps := ["self", "index"]) fun _ _ _ _ _ _ us hl => match us, hl with | [_, _], _ => rfl,
    m_InvalidDrop_init_d := ⟨a_InvalidDrop_init_d, i_InvalidDrop_init_d⟩,
    t_InvalidDrop_init_d := beq_iff_eq.mp i_InvalidDrop_init_d,
    f_InvalidTime_init_d := f_InvalidTime_init_d,
    d_InvalidTime_init_d := _,
    F_InvalidTime_init_d := fun_mk (st := s_InvalidTime_init_d) l_InvalidTime_init_d c_InvalidTime_init_d k_InvalidTime_init_d,
    B_InvalidTime_init_d := (fun_mk (st := s_InvalidTime_init_d) l_InvalidTime_init_d c_InvalidTime_init_d k_InvalidTime_init_d).binds (ps := ["self", "time"]) fun _ _ _ _ _ _ us hl => match us, hl with | [_, _], _ => rfl,
    m_InvalidTime_init_d := ⟨a_InvalidTime_init_d, i_InvalidTime_init_d⟩,
    t_InvalidTime_init_d := beq_iff_eq.mp i_InvalidTime_init_d,
    f_InvalidText_init_d := f_InvalidText_init_d,
    d_InvalidText_init_d := _,
    F_InvalidText_init_d := fun_mk (st := s_InvalidText_init_d) l_InvalidText_init_d c_InvalidText_init_d k_InvalidText_init_d,
    B_InvalidText_init_d := (fun_mk (st := s_InvalidText_init_d) l_InvalidText_init_d c_InvalidText_init_d k_InvalidText_init_d).binds (ps := ["self", "line"]) fun _ _ _ _ _ _ us hl => match us, hl with | [_, _], _ => rfl,
    m_InvalidText_init_d := ⟨a_InvalidText_init_d, i_InvalidText_init_d⟩,
    t_InvalidText_init_d := beq_iff_eq.mp i_InvalidText_init_d,
    f_Full_init_d := f_Full_init_d,
    d_Full_init_d := _,
    F_Full_init_d := fun_mk (st := s_Full_init_d) l_Full_init_d c_Full_init_d k_Full_init_d,
    B_Full_init_d := (fun_mk (st := s_Full_init_d) l_Full_init_d c_Full_init_d k_Full_init_d).binds (ps := ["self", "limit"]) fun _ _ _ _ _ _ us hl => match us, hl with | [_, _], _ => rfl,
    m_Full_init_d := ⟨a_Full_init_d, i_Full_init_d⟩,
    t_Full_init_d := beq_iff_eq.mp i_Full_init_d,
    f_MissingDrop_init_d := f_MissingDrop_init_d,
    d_MissingDrop_init_d := _,
    F_MissingDrop_init_d := fun_mk (st := s_MissingDrop_init_d) l_MissingDrop_init_d c_MissingDrop_init_d k_MissingDrop_init_d,
    B_MissingDrop_init_d := (fun_mk (st := s_MissingDrop_init_d) l_MissingDrop_init_d c_MissingDrop_init_d k_MissingDrop_init_d).binds (ps := ["self", "spot", "amount"]) fun _ _ _ _ _ _ us hl => match us, hl with | [_, _, _], _ => rfl,
    m_MissingDrop_init_d := ⟨a_MissingDrop_init_d, i_MissingDrop_init_d⟩,
    t_MissingDrop_init_d := beq_iff_eq.mp i_MissingDrop_init_d,
    f_Touching_init_d := f_Touching_init_d,
    d_Touching_init_d := _,
    F_Touching_init_d := fun_mk (st := s_Touching_init_d) l_Touching_init_d c_Touching_init_d k_Touching_init_d,
    B_Touching_init_d := (fun_mk (st := s_Touching_init_d) l_Touching_init_d c_Touching_init_d k_Touching_init_d).binds (ps := ["self", "index"]) fun _ _ _ _ _ _ us hl => match us, hl with | [_, _], _ => rfl,
    m_Touching_init_d := ⟨a_Touching_init_d, i_Touching_init_d⟩,
    t_Touching_init_d := beq_iff_eq.mp i_Touching_init_d,
    f_OutOfGround_init_d := f_OutOfGround_init_d,
    d_OutOfGround_init_d := _,
    F_OutOfGround_init_d := fun_mk (st := s_OutOfGround_init_d) l_OutOfGround_init_d c_OutOfGround_init_d k_OutOfGround_init_d,
    B_OutOfGround_init_d := (fun_mk (st := s_OutOfGround_init_d) l_OutOfGround_init_d c_OutOfGround_init_d k_OutOfGround_init_d).binds (ps := ["self", "spot"]) fun _ _ _ _ _ _ us hl => match us, hl with | [_, _], _ => rfl,
    m_OutOfGround_init_d := ⟨a_OutOfGround_init_d, i_OutOfGround_init_d⟩,
    t_OutOfGround_init_d := beq_iff_eq.mp i_OutOfGround_init_d,
    f_Overfull_init_d := f_Overfull_init_d,
    d_Overfull_init_d := _,
    F_Overfull_init_d := fun_mk (st := s_Overfull_init_d) l_Overfull_init_d c_Overfull_init_d k_Overfull_init_d,
    B_Overfull_init_d := (fun_mk (st := s_Overfull_init_d) l_Overfull_init_d c_Overfull_init_d k_Overfull_init_d).binds (ps := ["self", "total"]) fun _ _ _ _ _ _ us hl => match us, hl with | [_, _], _ => rfl,
    m_Overfull_init_d := ⟨a_Overfull_init_d, i_Overfull_init_d⟩,
    t_Overfull_init_d := beq_iff_eq.mp i_Overfull_init_d,
    f_UnknownIndex_init_d := f_UnknownIndex_init_d,
    d_UnknownIndex_init_d := _,
    F_UnknownIndex_init_d := fun_mk (st := s_UnknownIndex_init_d) l_UnknownIndex_init_d c_UnknownIndex_init_d k_UnknownIndex_init_d,
    B_UnknownIndex_init_d := (fun_mk (st := s_UnknownIndex_init_d) l_UnknownIndex_init_d c_UnknownIndex_init_d k_UnknownIndex_init_d).binds (ps := ["self", "index"]) fun _ _ _ _ _ _ us hl => match us, hl with | [_, _], _ => rfl,
    m_UnknownIndex_init_d := ⟨a_UnknownIndex_init_d, i_UnknownIndex_init_d⟩,
    t_UnknownIndex_init_d := beq_iff_eq.mp i_UnknownIndex_init_d,
    f_Ratio_init_d := f_Ratio_init_d,
    d_Ratio_init_d := _,
    F_Ratio_init_d := ⟨⟨_, _, _, _, _, _, _, _, _, _, rfl, l_Ratio_init_d, c_Ratio_init_d, .inr ⟨List.cons_ne_nil _ _, T_Ratio_init_d, to_Ratio_init_d, ti_Ratio_init_d, tn_Ratio_init_d, rfl, dl_Ratio_init_d, dd_Ratio_init_d, dv_Ratio_init_d⟩, .inl rfl⟩, k_Ratio_init_d⟩,
    m_Ratio_init_d := ⟨a_Ratio_init_d, i_Ratio_init_d⟩,
    f_lw_box := f_lw_box,
    d_lw_box := _,
    F_lw_box := fun_mk (st := s_lw_box) l_lw_box c_lw_box k_lw_box,
    B_lw_box := (fun_mk (st := s_lw_box) l_lw_box c_lw_box k_lw_box).binds (ps := ["_law_script", "_law_k"]) fun _ _ _ _ _ _ us hl => match us, hl with | [_, _], _ => rfl,
    g_lw_box := PySem.W.mg_of X G a_lw_box,
    f_lw_take := f_lw_take,
    d_lw_take := _,
    F_lw_take := fun_mk (st := s_lw_take) l_lw_take c_lw_take k_lw_take,
    B_lw_take := (fun_mk (st := s_lw_take) l_lw_take c_lw_take k_lw_take).binds (ps := ["_law_box_here", "_law_many"]) fun _ _ _ _ _ _ us hl => match us, hl with | [_, _], _ => rfl,
    g_lw_take := PySem.W.mg_of X G a_lw_take,
    f_lw_value := f_lw_value,
    d_lw_value := _,
    F_lw_value := fun_mk (st := s_lw_value) l_lw_value c_lw_value k_lw_value,
    B_lw_value := (fun_mk (st := s_lw_value) l_lw_value c_lw_value k_lw_value).binds (ps := ["_law_box_here", "_law_deep"]) fun _ _ _ _ _ _ us hl => match us, hl with | [_, _], _ => rfl,
    g_lw_value := PySem.W.mg_of X G a_lw_value,
    f_lw_alike := f_lw_alike,
    d_lw_alike := _,
    F_lw_alike := fun_mk (st := s_lw_alike) l_lw_alike c_lw_alike k_lw_alike,
    B_lw_alike := (fun_mk (st := s_lw_alike) l_lw_alike c_lw_alike k_lw_alike).binds (ps := ["_law_found", "_law_due"]) fun _ _ _ _ _ _ us hl => match us, hl with | [_, _], _ => rfl,
    g_lw_alike := PySem.W.mg_of X G a_lw_alike,
    f_lw_placed := f_lw_placed,
    d_lw_placed := _,
    F_lw_placed := fun_mk (st := s_lw_placed) l_lw_placed c_lw_placed k_lw_placed,
    B_lw_placed := (fun_mk (st := s_lw_placed) l_lw_placed c_lw_placed k_lw_placed).binds (ps := ["_law_a", "_law_b"]) fun _ _ _ _ _ _ us hl => match us, hl with | [_, _], _ => rfl,
    g_lw_placed := PySem.W.mg_of X G a_lw_placed,
    f_lw_named := f_lw_named,
    d_lw_named := _,
    F_lw_named := fun_mk (st := s_lw_named) l_lw_named c_lw_named k_lw_named,
    B_lw_named := (fun_mk (st := s_lw_named) l_lw_named c_lw_named k_lw_named).binds (ps := ["_law_a", "_law_b"]) fun _ _ _ _ _ _ us hl => match us, hl with | [_, _], _ => rfl,
    g_lw_named := PySem.W.mg_of X G a_lw_named,
    f_lw_kinds := f_lw_kinds,
    d_lw_kinds := _,
    F_lw_kinds := fun_mk (st := s_lw_kinds) l_lw_kinds c_lw_kinds k_lw_kinds,
    B_lw_kinds := (fun_mk (st := s_lw_kinds) l_lw_kinds c_lw_kinds k_lw_kinds).binds (ps := ["_law_e"]) fun _ _ _ _ _ _ us hl => match us, hl with | [_], _ => rfl,
    g_lw_kinds := PySem.W.mg_of X G a_lw_kinds,
    f_lw_right := f_lw_right,
    d_lw_right := _,
    F_lw_right := fun_mk (st := s_lw_right) l_lw_right c_lw_right k_lw_right,
    B_lw_right := (fun_mk (st := s_lw_right) l_lw_right c_lw_right k_lw_right).binds (ps := ["_law_errors", "_law_told", "_law_second", "_law_a", "_law_b"]) fun _ _ _ _ _ _ us hl => match us, hl with | [_, _, _, _, _], _ => rfl,
    g_lw_right := PySem.W.mg_of X G a_lw_right,
    f_law := fa,
    d_law := _,
    F_law := fun_mk (st := s_law) l_law c_law k_law,
    B_law := (fun_mk (st := s_law) l_law c_law k_law).binds (ps := ["_law_script"]) fun _ _ _ _ _ _ us hl => match us, hl with | [_], _ => rfl,
    g_law := PySem.W.mg_of X G a_law,
    xb_InvalidNumber_ValueError := xb_InvalidNumber_ValueError,
    xb_InvalidNumber_IndexError := xb_InvalidNumber_IndexError,
    xb_InvalidNumber_KeyError := xb_InvalidNumber_KeyError,
    xb_InvalidDrop_ValueError := xb_InvalidDrop_ValueError,
    xb_InvalidDrop_IndexError := xb_InvalidDrop_IndexError,
    xb_InvalidDrop_KeyError := xb_InvalidDrop_KeyError,
    xb_InvalidTime_ValueError := xb_InvalidTime_ValueError,
    xb_InvalidTime_IndexError := xb_InvalidTime_IndexError,
    xb_InvalidTime_KeyError := xb_InvalidTime_KeyError,
    xb_InvalidText_ValueError := xb_InvalidText_ValueError,
    xb_InvalidText_IndexError := xb_InvalidText_IndexError,
    xb_InvalidText_KeyError := xb_InvalidText_KeyError,
    xb_Full_ValueError := xb_Full_ValueError,
    xb_Full_IndexError := xb_Full_IndexError,
    xb_Full_KeyError := xb_Full_KeyError,
    xb_MissingDrop_ValueError := xb_MissingDrop_ValueError,
    xb_MissingDrop_IndexError := xb_MissingDrop_IndexError,
    xb_MissingDrop_KeyError := xb_MissingDrop_KeyError,
    xb_Touching_ValueError := xb_Touching_ValueError,
    xb_Touching_IndexError := xb_Touching_IndexError,
    xb_Touching_KeyError := xb_Touching_KeyError,
    xb_OutOfGround_ValueError := xb_OutOfGround_ValueError,
    xb_OutOfGround_IndexError := xb_OutOfGround_IndexError,
    xb_OutOfGround_KeyError := xb_OutOfGround_KeyError,
    xb_Overfull_ValueError := xb_Overfull_ValueError,
    xb_Overfull_IndexError := xb_Overfull_IndexError,
    xb_Overfull_KeyError := xb_Overfull_KeyError,
    xb_InvalidCommand_ValueError := xb_InvalidCommand_ValueError,
    xb_InvalidCommand_IndexError := xb_InvalidCommand_IndexError,
    xb_InvalidCommand_KeyError := xb_InvalidCommand_KeyError,
    xb_TrialError_ValueError := xb_TrialError_ValueError,
    xb_TrialError_IndexError := xb_TrialError_IndexError,
    xb_TrialError_KeyError := xb_TrialError_KeyError,
    xb_UnknownIndex_ValueError := xb_UnknownIndex_ValueError,
    xb_UnknownIndex_IndexError := xb_UnknownIndex_IndexError,
    xb_UnknownIndex_KeyError := xb_UnknownIndex_KeyError,
    xo_InvalidCommand := xo_InvalidCommand,
    xo_TrialError := xo_TrialError,
    KB_InvalidNumber := ⟨fun s us ws _ l1 l2 => match us, ws, l1, l2 with | [_], [_], _, _ => .of_eq rfl, fun r1 r2 => r1.append r2⟩,
    KB_InvalidDrop := ⟨fun s us ws _ l1 l2 => match us, ws, l1, l2 with | [_], [_], _, _ => .of_eq rfl, fun r1 r2 => r1.append r2⟩,
    KB_InvalidTime := ⟨fun s us ws _ l1 l2 => match us, ws, l1, l2 with | [_], [_], _, _ => .of_eq rfl, fun r1 r2 => r1.append r2⟩,
    KB_InvalidText := ⟨fun s us ws _ l1 l2 => match us, ws, l1, l2 with | [_], [_], _, _ => .of_eq rfl, fun r1 r2 => r1.append r2⟩,
    KB_Full := ⟨fun s us ws _ l1 l2 => match us, ws, l1, l2 with | [_], [_], _, _ => .of_eq rfl, fun r1 r2 => r1.append r2⟩,
    KB_MissingDrop := ⟨fun s us ws _ l1 l2 => match us, ws, l1, l2 with | [_], [_, _], _, _ => .of_eq rfl, fun r1 r2 => r1.append r2.reverse⟩,
    KB_Touching := ⟨fun s us ws _ l1 l2 => match us, ws, l1, l2 with | [_], [_], _, _ => .of_eq rfl, fun r1 r2 => r1.append r2⟩,
    KB_OutOfGround := ⟨fun s us ws _ l1 l2 => match us, ws, l1, l2 with | [_], [_], _, _ => .of_eq rfl, fun r1 r2 => r1.append r2⟩,
    KB_Overfull := ⟨fun s us ws _ l1 l2 => match us, ws, l1, l2 with | [_], [_], _, _ => .of_eq rfl, fun r1 r2 => r1.append r2⟩,
    KB_UnknownIndex := ⟨fun s us ws _ l1 l2 => match us, ws, l1, l2 with | [_], [_], _, _ => .of_eq rfl, fun r1 r2 => r1.append r2⟩
  }
  exact ⟨T.d_law, fun s v => .of_eq rfl, fun base _ _ => ok_law T⟩
theorem walk {l : PySem.W.OpenLaw} {q : Program} {loose : List Str} {XP : (Str → Option Value) → Heap → Prop} {YP : World → Heap → Prop} {d : DefRec} {K : Params → PySem.W.Frag} {lv : Nat} {sp : SpK} (hn : l.most = some 63) (hdf : d.params.defaults = []) (hr : Room lv callerA)
    (hY : ∀ (w : World) (h : Heap), YP w h → (K w.params).In h)
    (F : ∀ (w : World) (mg : Str → Option Value) (fa : Addr) (h : Heap), (K w.params).In h → h.Ns mainGlobals mg → mg d.name = some (.ref fa) →
      ∃ fd : FuncData, (∀ (s : Shared) (u : Value), BindsTo s fd ⟨[u], []⟩ [("_law_script", u)]) ∧ ∀ base : Heap, (K w.params).In base → base.Ns mainGlobals mg → FnG l.prog w (K w.params) mg base CX0 lv fa fd ["_law_script"] (sp (K w.params)))
    (asks : Asked sp) :
    PySem.W.WalkO q loose XP YP l.row.toRowW d [] (fun f vs => PySem.call f vs) :=
  walkG (n := 63) (k := lv) (x := "_law_script") (sp := fun w => sp (K w.params)) hn (by decide) hdf hr hY F (fun _ _ _ _ hl hS => asks hl hS)
/-! ### ratios: the mathematics -/
def sg (l : Int) : Int := if l < 0 then -1 else 1
def gc (u l : Int) : Int := ((Nat.gcd u.natAbs l.natAbs : Nat) : Int)
/-- the lowest terms of u / l -/
def lo1 (u l : Int) : Int := sg l * u / gc u l
def lo2 (u l : Int) : Int := sg l * l / gc u l
theorem gc_pos {u l : Int} (h : l ≠ 0) : 0 < gc u l := by
  unfold gc
  have : 0 < Nat.gcd u.natAbs l.natAbs := Nat.gcd_pos_of_pos_right _ (by omega)
  omega
theorem gc_dvd1 (u l : Int) : gc u l ∣ u := Int.ofNat_dvd_left.mpr (Nat.gcd_dvd_left _ _)
theorem gc_dvd2 (u l : Int) : gc u l ∣ l := Int.ofNat_dvd_left.mpr (Nat.gcd_dvd_right _ _)
theorem gc_le {u l : Int} (h : l ≠ 0) : gc u l ≤ (l.natAbs : Int) := by
  have : Nat.gcd u.natAbs l.natAbs ≤ l.natAbs := Nat.gcd_le_right _ (by omega)
  unfold gc
  omega
theorem fdiv_neg_of {g k : Int} (hg : 0 < g) : (g * k).fdiv (-g) = -1 * (g * k) / g := by
  have e1 : g * k = -g * -k := by rw [Int.neg_mul_neg]
  have e2 : -1 * (g * k) = g * (-1 * k) := by rw [Int.mul_left_comm]
  rw [e2, Int.mul_ediv_cancel_left _ (by omega), e1, Int.mul_fdiv_cancel_left _ (by omega)]
  omega
theorem fdiv_pos_of {g k : Int} (hg : 0 < g) : (g * k).fdiv g = 1 * (g * k) / g := by
  rw [Int.one_mul, Int.mul_fdiv_cancel_left _ (by omega), Int.mul_ediv_cancel_left _ (by omega)]
theorem lo_neg {u l : Int} (h : l < 0) : u.fdiv (-gc u l) = lo1 u l ∧ l.fdiv (-gc u l) = lo2 u l := by
  have hg : 0 < gc u l := gc_pos (by omega)
  unfold lo1 lo2 sg
  rw [if_pos h]
  obtain ⟨k1, e1⟩ := gc_dvd1 u l
  obtain ⟨k2, e2⟩ := gc_dvd2 u l
  generalize gc u l = g at *
  rw [e1, e2]
  exact ⟨fdiv_neg_of hg, fdiv_neg_of hg⟩
theorem lo_pos {u l : Int} (h : 0 < l) : u.fdiv (gc u l) = lo1 u l ∧ l.fdiv (gc u l) = lo2 u l := by
  have hg : 0 < gc u l := gc_pos (by omega)
  unfold lo1 lo2 sg
  rw [if_neg (by omega)]
  obtain ⟨k1, e1⟩ := gc_dvd1 u l
  obtain ⟨k2, e2⟩ := gc_dvd2 u l
  generalize gc u l = g at *
  rw [e1, e2]
  exact ⟨fdiv_pos_of hg, fdiv_pos_of hg⟩
theorem lo_one (u : Int) : lo1 u 1 = u ∧ lo2 u 1 = 1 := by
  have e : gc u 1 = 1 := by unfold gc; simp
  unfold lo1 lo2
  rw [e]
  simp [sg]
theorem lo2_pos {u l : Int} (h : l ≠ 0) : 0 < lo2 u l := by
  have hg : 0 < gc u l := gc_pos h
  obtain ⟨k, e⟩ := gc_dvd2 u l
  have e2 : sg l * l = gc u l * (sg l * k) := by
    have : sg l * (gc u l * k) = gc u l * (sg l * k) := Int.mul_left_comm ..
    rw [← e] at this
    exact this
  unfold lo2
  rw [e2, Int.mul_ediv_cancel_left _ (by omega)]
  have p1 : 0 < sg l * l := by
    unfold sg
    split <;> omega
  rw [e2] at p1
  exact Int.pos_of_mul_pos_left (by rw [Int.mul_comm]; exact p1) hg
theorem lo2_le {u l : Int} (h : l ≠ 0) : lo2 u l ≤ (l.natAbs : Int) := by
  have hg : 0 < gc u l := gc_pos h
  have e : sg l * l = (l.natAbs : Int) := by
    unfold sg
    split <;> omega
  unfold lo2
  rw [e]
  exact Int.ediv_le_self _ (by omega)
theorem lo1_le {u l : Int} : (lo1 u l).natAbs ≤ u.natAbs := by
  unfold lo1
  have h1 : (sg l * u).natAbs = u.natAbs := by
    unfold sg
    split <;> omega
  rw [← h1]
  exact Int.natAbs_ediv_le_natAbs _ _

/-! ### ratios in the heap -/
def rfs (a b : Int) : List (Str × V) := [("top", V.int a), ("bottom", V.int b)]
theorem tb_ne : ¬ (("top" : Str) = "bottom") := by decide +kernel
theorem bt_ne : ¬ (("bottom" : Str) = "top") := by decide +kernel
theorem rfs_top (a b : Int) : (rfs a b).lookup ("top" : Str) = some (.int a) := by simp [rfs, List.lookup]
theorem rfs_bot (a b : Int) : (rfs a b).lookup ("bottom" : Str) = some (.int b) := by
  have e : (("bottom" : Str) == "top") = false := by decide +kernel
  simp [rfs, List.lookup, e]
theorem rfs_put (a b : Int) : putF "bottom" (.int b) (putF "top" (.int a) []) = rfs a b := by
  show (if ("top" : Str) = "bottom" then _ else _) = _
  rw [if_neg tb_ne]
  rfl
theorem rfs_no {a b : Int} {m : Str} (h1 : (m == ("top" : Str)) = false) (h2 : (m == ("bottom" : Str)) = false) : (rfs a b).lookup m = none := by simp [rfs, List.lookup, h1, h2]
/-- at p stands the ratio a / b -/
def RatAt (C : Addr) (H : Hp) (p : Addr) (a b : Int) : Prop := ∃ dx, H p = some (.ins C dx (rfs a b))
theorem RatAt.same {C p : Addr} {H H' : Hp} {a b : Int} (h : RatAt C H p a b) (s : Same H H') : RatAt C H' p a b := let ⟨dx, e⟩ := h; ⟨dx, s _ _ e⟩
/-- what is wanted of any heap that holds the new ratio beside all that stood -/
def GotR (C : Addr) (H : Hp) (Q : VK) (a b : Int) : Prop := ∀ p H', Same H H' → RatAt C H' p a b → Q (.ref p) H'
theorem same_upd {H : Hp} {p : Addr} {o : HO} (h : H p = none) : Same H (upd H p o) := fun b u e => by rw [upd_ne (ne_of_none e h)]; exact e

/-! ### the promises -/
/-- InvalidNumber.__init__ -/
def spInv (C : Addr) : Sp := fun vs H Q _ => ∃ (a : Addr) (v : V), vs = [.ref a, v] ∧ H a = some (exo a C none) ∧ ∀ dx, H dx = none → dx ≠ a → Q .non (upd (upd H dx (exd dx [("value", v)])) a (exo a C (some dx)))
/-- an InvalidNumber with this value is raised -/
def Bad (CI : Addr) (v : V) (H : Hp) (E : XK) : Prop := ∀ d H', Same H H' → H' d = some (.xd [("value", v)]) → E (.ref CI) (some d) H'
/-- Ratio.__init__ -/
def spInit (C CI : Addr) : Sp := fun vs H Q E => ∃ (p dx : Addr) (u l : Int), vs = [.ref p, .int u, .int l] ∧ H p = some (.ins C dx []) ∧ l.natAbs < 2 ^ 8000 ∧
  (l ≠ 0 → Q .non (upd H p (.ins C dx (rfs (lo1 u l) (lo2 u l))))) ∧ (l = 0 → Bad CI (.int 0) H E)
/-- what is_number answers -/
def NumB (C : Addr) (H : Hp) (v : V) (b : Bool) : Prop :=
  (b = true ∧ ((∃ i, v = .int i) ∨ ∃ p dx fs, v = .ref p ∧ H p = some (.ins C dx fs))) ∨ (b = false ∧ ((∃ x, v = .bl x) ∨ (∃ z, v = .str z) ∨ v = .non ∨ ∃ p xs, v = .ref p ∧ H p = some (.tup xs)))
def spNum (C : Addr) : Sp := fun vs H Q _ => ∃ v b, vs = [v] ∧ NumB C H v b ∧ ∀ H', Same H H' → Q (.bl b) H'
/-- Ratio.of -/
def spOf (C CI : Addr) : Sp := fun vs H Q E => ∃ v, vs = [.ref C, v] ∧ ((∃ i, v = .int i ∧ GotR C H Q i 1) ∨ (∃ p a b, v = .ref p ∧ RatAt C H p a b ∧ ∀ H', Same H H' → Q (.ref p) H') ∨ (NumB C H v false ∧ Bad CI v H E))

theorem vals_rev : ∀ {vs : List V} {us : List Value}, Vals vs us → Vals vs.reverse us.reverse
  | _, _, .nil => .nil
  | _, _, .cons r t => by
    rw [List.reverse_cons, List.reverse_cons]
    exact (vals_rev t).append (.cons r .nil)
/-- an expression's reading, weakened -/
theorem pe_wk {X : Cx} {e : Expr} {t : TE} (h : PE X e t) : PE X e (fun σ H Q => ∃ Q0 : VK, t σ H Q0 ∧ ∀ x H1, Q0 x H1 → Q x H1) :=
  ⟨fun pins s σ H Q I ⟨Q0, h0, k⟩ => thn (h.run pins s σ H Q0 I h0) fun u s1 ⟨v, H1, I1, r, q⟩ => ⟨v, H1, I1, r, k _ _ q⟩⟩
section
variable {P : Program} {w : World} {K : PySem.W.Frag} {mg : Str → Option Value} {base : Heap}
theorem ok_inv (T : Txt K mg) : FnOk P w K mg base CX0 1 T.f_InvalidNumber_init_d T.d_InvalidNumber_init_d ["self", "value"] (spInv T.C_InvalidNumber) := by
  refine T.F_InvalidNumber_init_d.ok sc_InvalidNumber_init_d (fun vs H Q E h => ?_) (fun cdv A outer s H vs Q E hr h => ?_)
  · obtain ⟨a, v, rfl, _⟩ := h; rfl
  · obtain ⟨a, v, rfl, ha, k⟩ := h
    refine ⟨_, pss_one (ps_ost (pv 0) (pv 1)), ?_⟩
    exact ⟨_, rfl, _, rfl, a, T.C_InvalidNumber, rfl, T.ox_InvalidNumber, T.n_InvalidNumber_value, .inl ⟨ha, k⟩⟩
/-- raise InvalidNumber(e) -/
theorem ps_bad {X : Cx} {W : WX} {e : Expr} {te : TE} {p pos pos2 : Pos} (T : Txt X.K X.mg) (hr : Room 2 X.A) (hc : X.calm = true) (tk : Takes X W) (he : PE X e te) (hg : Gl X "InvalidNumber" := by rfl)
    (hs : starEach (e :: []) X.env = (false, eval e X.env) :: starEach [] X.env := by rfl) :
    PS X (.Raise (some (.Call (.Name "InvalidNumber" p) [e] [] pos)) none pos2) (fun _ σ H => te σ H fun v H1 => ∀ d H', Same H1 H' → H' d = some (.xd [("value", v)]) → W (.ref T.C_InvalidNumber) (some d) σ H') := by
  refine ⟨fun pins s σ H D I h => ?_⟩
  refine (ps_raise (W := W) hc tk (pmk_oex (CX := CX0) (dvs := []) T.ox_InvalidNumber T.m_InvalidNumber_init_d.at_ T.t_InvalidNumber_init_d (ok_inv T) hr T.B_InvalidNumber_init_d .nil (fun _ _ _ _ _ _ _ z => z.elim) hg T.g_InvalidNumber (pa_cons (pe_wk he) pa_nil hs) (he := hs))).run pins s σ H D I ?_
  refine ⟨_, h, fun v H1 q => ⟨by show 1 ≤ 1000; decide, fun a na => ⟨a, v, rfl, upd_same, fun dx nx ne => ⟨rfl, dx, [("value", v)], upd_same, by rw [upd_ne ne, upd_same], ?_, ?_⟩⟩⟩⟩
  · rwa [upd_ne ne] at nx
  · have nd : H1 dx = none := by rwa [upd_ne ne] at nx
    refine q dx _ (fun b o e => ?_) upd_same
    rw [upd_ne (ne_of_none e nd), del_ne (ne_of_none e na), upd_ne (ne_of_none e na), upd_ne (ne_of_none e nd), upd_ne (ne_of_none e na)]
    exact e

/-! ### arguments bound -/
theorem Binds.kbn {fd : FuncData} {ps : List Str} {n : Nat} (B : Binds K fd ps []) (hn : ps.length = n) : KBn K fd ps n [] (fun us _ => us) (fun vs _ => vs) :=
  ⟨fun s us ws X l1 l2 => by have z := B s us X (by simpa [hn] using l1); simpa using z, fun r _ => r⟩
/-- Ratio(top, bottom), Ratio(top), Ratio(bottom = .., top = ..) -/
theorem kb_init2 (T : Txt K mg) : ∃ its : List Value, KBn K T.d_Ratio_init_d ["self", "top", "bottom"] 3 [] (fun us _ => us) (fun vs _ => vs) := by
  obtain ⟨its, h⟩ := FunD.kbindsD T.F_Ratio_init_d (ps := ["self", "top", "bottom"]) 3 [] (fun us _ _ => us) (by decide) (fun r _ _ => r) (fun Tt kV doc pm an cdv ct us its ws l1 l2 l3 => by
    match us, its, ws, l1, l2, l3 with
    | [a, b, c], [i], [], _, _, _ => exact ⟨_, rfl, rfl⟩)
  exact ⟨its, h⟩
theorem kb_init1 (T : Txt K mg) : ∃ its : List Value, KBn K T.d_Ratio_init_d ["self", "top", "bottom"] 2 [] (fun us _ => us ++ its) (fun vs _ => vs ++ [V.int 1]) := by
  obtain ⟨its, h⟩ := FunD.kbindsD T.F_Ratio_init_d (ps := ["self", "top", "bottom"]) 2 [] (fun us its _ => us ++ its) (by decide) (fun r r2 _ => r.append r2) (fun Tt kV doc pm an cdv ct us its ws l1 l2 l3 => by
    match us, its, ws, l1, l2, l3 with
    | [a, b], [i], [], _, _, _ => exact ⟨_, rfl, rfl⟩)
  exact ⟨its, h⟩
theorem kb_initK (T : Txt K mg) : ∃ its : List Value, KBn K T.d_Ratio_init_d ["self", "top", "bottom"] 1 ["bottom", "top"] (fun us ws => us ++ ws.reverse) (fun vs zs => vs ++ zs.reverse) := by
  obtain ⟨its, h⟩ := FunD.kbindsD T.F_Ratio_init_d (ps := ["self", "top", "bottom"]) 1 ["bottom", "top"] (fun us _ ws => us ++ ws.reverse) (by decide) (fun {vs ds zs us its ws} r _ r3 => r.append (vals_rev r3)) (fun Tt kV doc pm an cdv ct us its ws l1 l2 l3 => by
    match us, its, ws, l1, l2, l3 with
    | [a], [i], [x, y], _, _, _ => exact ⟨_, rfl, rfl⟩)
  exact ⟨its, h⟩

/-! ### Ratio's defs -/
theorem lenU {u : Int} {n : Nat} (h : u.natAbs < 2 ^ n) (h0 : 0 < n) (h9 : n ≤ 9000) : u.natAbs.log2 < 9000 := Nat.lt_of_lt_of_le (PySem.Flt.log2_lt_of h0 h) h9
theorem ok_init (T : Txt K mg) : FnOk P w K mg base (L2.CX P w) 3 T.f_Ratio_init_d T.d_Ratio_init_d ["self", "top", "bottom"] (spInit T.C_Ratio T.C_InvalidNumber) := by
  refine T.F_Ratio_init_d.ok sc_Ratio_init_d (fun vs H Q E h => ?_) (fun cdv A outer s H vs Q E hr h => ?_)
  · obtain ⟨p, dx, u, l, rfl, _⟩ := h; rfl
  · obtain ⟨p, dx, u, l, rfl, hp, bl, k1, k0⟩ := h
    refine ⟨_, pss_cons (ps_if (pt_cmpR op_eq (pv 2) pe_int (nomark _)) (pss_one (ps_bad (W := fun cls d _ H' => E cls d H') T hr rfl (takes_of rfl rfl rfl rfl) pe_int)) pss_nil)
      (pss_cons (ps_set (i := 3) sc_Ratio_init_d.nd rfl (.inl rfl) (pe_callBfun cr_gcd (by rfl) T.g_gcd (pa_cons (pv 1) (pa_cons (pv 2) pa_nil))))
      (pss_cons (ps_if (pt_cmpR op_lt (pv 2) pe_int (nomark _)) (pss_one (ps_set (i := 3) sc_Ratio_init_d.nd rfl (.inl rfl) (pe_un un_neg (pv 3)))) pss_nil)
      (pss_cons (ps_fld (pv 0) (pe_op op_fdivX (pv 1) (pv 3)) rfl) (pss_one (ps_fld (pv 0) (pe_op op_fdivX (pv 2) (pv 3)) rfl))))), ?_⟩
    refine ⟨_, rfl, rfl, _, rfl, ?_⟩
    refine ite2 (fun c => ?_) (fun c => ?_)
    · have e : l = 0 := by have := of_decide_eq_true c; injection this
      exact k0 e
    · have nz : l ≠ 0 := fun e => c (by rw [e]; exact decide_eq_true rfl)
      have fin : ∀ g : Int, g ≠ 0 → g.natAbs ≤ l.natAbs → u.fdiv g = lo1 u l ∧ l.fdiv g = lo2 u l → sFld K (tVar 0) (tOp (rI CDivX fun i j => .int (i.fdiv j)) (tVar 1) (tVar 3)) "top" { nx := sFld K (tVar 0) (tOp (rI CDivX fun i j => .int (i.fdiv j)) (tVar 2) (tVar 3)) "bottom" { nx := fun _ H' => Q .non H', rt := Q }, rt := Q } [some (.ref p), some (.int u), some (.int l), some (.int g)] H := by
        rintro g gnz gle ⟨e1, e2⟩
        have cd : g ≠ 0 ∧ g.natAbs.log2 < 9000 := ⟨gnz, lenU (Nat.lt_of_le_of_lt gle bl) (by decide) (by decide)⟩
        refine ⟨_, rfl, _, rfl, _, _, rfl, rfl, cd, _, rfl, p, T.C_Ratio, dx, [], rfl, hp, T.cl_Ratio, T.n_Ratio_top, by decide, ?_⟩
        refine ⟨_, rfl, _, rfl, _, _, rfl, rfl, cd, _, rfl, p, T.C_Ratio, dx, _, rfl, upd_same, T.cl_Ratio, T.n_Ratio_bottom, (by show 1 < 1000; decide), ?_⟩
        show Q .non (upd (upd H p _) p (.ins T.C_Ratio dx (putF "bottom" (.int (l.fdiv g)) (putF "top" (.int (u.fdiv g)) []))))
        rw [upd_upd, e1, e2, rfs_put]
        exact k1 nz
      refine ⟨_, rfl, _, rfl, _, _, rfl, ?_⟩
      refine ⟨_, rfl, _, _, rfl, rfl, _, rfl, ?_⟩
      refine ite2 (fun c2 => ?_) (fun c2 => ?_)
      · have neg : l < 0 := of_decide_eq_true c2
        have gp := gc_pos (u := u) nz
        have gl := gc_le (u := u) nz
        refine ⟨_, rfl, _, rfl, ?_⟩
        exact fin (-gc u l) (by omega) (by omega) (lo_neg neg)
      · have pos : 0 < l := by have : ¬ l < 0 := fun z => c2 (decide_eq_true z); omega
        have gp := gc_pos (u := u) nz
        have gl := gc_le (u := u) nz
        exact fin (gc u l) (by omega) (by omega) (lo_pos pos)

/-! isinstance -/
theorem kit_ref {C : Addr} (Ty : TyC K C) {t : String} {b : Bool} (h : PySem.W.subIn K (.type t) (.ref C) = some b) : PySem.W.kitOne K (.type t) (.ref C) = some b := by
  have e : ((PySem.W.clsIn K C).isSome && PySem.W.typeIn K (.ref C) == some (.type "type")) = true := by
    rw [show (PySem.W.clsIn K C).isSome = true from Ty.ic, Ty.ty]
    exact beq_self_eq_true _
  show (if (Value.type t == Value.ref C) = true then some true else if ((PySem.W.clsIn K C).isSome && PySem.W.typeIn K (.ref C) == some (.type "type")) = true then PySem.W.subIn K (.type t) (.ref C) else none) = some b
  rw [if_neg (by simp), if_pos e, h]
theorem kit_self {C : Addr} : PySem.W.kitOne K (.ref C) (.ref C) = some true := if_pos (beq_self_eq_true _)
theorem kit_of_own {C : Addr} {t : String} {b : Bool} (hm : PySem.W.kitMeta t = true) (h : PySem.W.subIn K (.ref C) (.type t) = some b) : PySem.W.kitOne K (.ref C) (.type t) = some b := by
  show (if (Value.ref C == Value.type t) = true then some true else if PySem.W.kitMeta t = true then PySem.W.subIn K (.ref C) (.type t) else none) = some b
  rw [if_neg (by simp), if_pos hm, h]
theorem tyx_ins {C a dx : Addr} {fs : List (Str × V)} {H : Hp} (cl : Cls K C) (Ty : TyC K C) (e : H a = some (.ins C dx fs)) : TyX K H (.ref a) (.ref C) := .base (.ins e cl Ty.at_.1 Ty.at_.2.1 Ty.at_.2.2.1 Ty.at_.2.2.2)
theorem any2 {t c d : Value} {a b : Bool} (h1 : PySem.W.kitOne K t c = some a) (h2 : PySem.W.kitOne K t d = some b) : PySem.W.kitAny K t [c, d] = some (a || b) := by
  unfold PySem.W.kitAny
  rw [h1]
  cases a with
  | true => rfl
  | false =>
    show PySem.W.kitAny K t [d] = some b
    unfold PySem.W.kitAny
    rw [h2]
    cases b <;> rfl
theorem small1 : (1 : Int).natAbs < 2 ^ 8000 := show 1 < 2 ^ 8000 from Nat.one_lt_two_pow (by omega)
/-- Ratio(u, l) from a heap, by the promise of __init__ -/
theorem made_of {C CI : Addr} {H : Hp} {Q : VK} {E : XK} {u l : Int} (bl : l.natAbs < 2 ^ 8000) (k1 : l ≠ 0 → GotR C H Q (lo1 u l) (lo2 u l)) (k0 : l = 0 → Bad CI (.int 0) H E) :
    ∀ x dx, H x = none → H dx = none → dx ≠ x → spInit C CI [.ref x, .int u, .int l] (upd (upd H dx (.own x)) x (.ins C dx [])) (fun v H3 => v = .non ∧ Q (.ref x) H3) E := by
  intro x dx nx ndx ne
  have sm : Same H (upd (upd H dx (.own x)) x (.ins C dx [])) := fun b o e => by
    rw [upd_ne (ne_of_none e nx), upd_ne (ne_of_none e ndx)]; exact e
  refine ⟨x, dx, u, l, rfl, upd_same, bl, fun nz => ⟨rfl, k1 nz x _ (fun b o e => ?_) ⟨dx, upd_same⟩⟩, fun z d H' s' e => k0 z d H' (sm.trans s') e⟩
  rw [upd_ne (ne_of_none e nx)]
  exact sm _ _ e
theorem made_at {C CI : Addr} {H : Hp} {Q' : VK} {E : XK} {u l : Int} (bl : l.natAbs < 2 ^ 8000) (nz : l ≠ 0) {x dx : Addr} (nx : H x = none) (ndx : H dx = none)
    (k : ∀ H', Same H H' → RatAt C H' x (lo1 u l) (lo2 u l) → Q' .non H') : spInit C CI [.ref x, .int u, .int l] (upd (upd H dx (.own x)) x (.ins C dx [])) Q' E := by
  have sm : Same H (upd (upd H dx (.own x)) x (.ins C dx [])) := fun b o e => by
    rw [upd_ne (ne_of_none e nx), upd_ne (ne_of_none e ndx)]; exact e
  exact ⟨x, dx, u, l, rfl, upd_same, bl, fun _ => k _ (fun b o e => by rw [upd_ne (ne_of_none e nx)]; exact sm _ _ e) ⟨dx, upd_same⟩, fun z => absurd z nz⟩
theorem made_bad {C CI : Addr} {H : Hp} {Q' : VK} {E : XK} {u : Int} (k0 : Bad CI (.int 0) H E) {x dx : Addr} (nx : H x = none) (ndx : H dx = none) :
    spInit C CI [.ref x, .int u, .int 0] (upd (upd H dx (.own x)) x (.ins C dx [])) Q' E := by
  have sm : Same H (upd (upd H dx (.own x)) x (.ins C dx [])) := fun b o e => by
    rw [upd_ne (ne_of_none e nx), upd_ne (ne_of_none e ndx)]; exact e
  exact ⟨x, dx, u, 0, rfl, upd_same, Nat.lt_trans (by decide) small1, fun nz => absurd rfl nz, fun _ d H' s' e => k0 d H' (sm.trans s') e⟩
theorem num_isi (T : Txt K mg) {H : Hp} {v : V} (h : NumB T.C_Ratio H v false) : ∃ t, TyX K H v (.type t) ∧ PySem.W.kitOne K (.type t) (.ref T.C_Ratio) = some false := by
  rcases h with ⟨z, _⟩ | ⟨_, ⟨x, rfl⟩ | ⟨z, rfl⟩ | rfl | ⟨q, xs, rfl, e⟩⟩
  · cases z
  · exact ⟨"bool", .base (.bl x), kit_ref T.tc_Ratio T.st_Ratio_bool⟩
  · exact ⟨"str", .base (.str z), kit_ref T.tc_Ratio T.st_Ratio_str⟩
  · exact ⟨"NoneType", .base .non, kit_ref T.tc_Ratio T.st_Ratio_NoneType⟩
  · exact ⟨"tuple", .base (.tup e), kit_ref T.tc_Ratio T.st_Ratio_tuple⟩
def tx (i : Int) : Str := Str.ofString (toString i)
theorem str_assoc (a b c : Str) : a ++ b ++ c = a ++ (b ++ c) := congrArg Str.mk (Array.append_assoc (xs := a.cps) (ys := b.cps) (zs := c.cps))
theorem str_nil (a : Str) : Str.empty ++ a = a := congrArg Str.mk (Array.empty_append (xs := a.cps))
theorem str_nil2 (a : Str) : a ++ Str.empty = a := congrArg Str.mk (Array.append_empty (xs := a.cps))
theorem str_len (a b : Str) : (a ++ b).length = a.length + b.length := Array.size_append (xs := a.cps) (ys := b.cps)
theorem tx_len {i : Int} (h : i.natAbs.log2 < 1920) : (tx i).length ≤ 1921 := PyProof.Rows.int_text_len_1921 h
def ratTx (a b : Int) : Str := if b = 1 then tx a else tx a ++ "/" ++ tx b
def ratRp (a b : Int) : Str := "Ratio(" ++ tx a ++ ", " ++ tx b ++ ")"
def Sm (i : Int) : Prop := i.natAbs.log2 < 1920
def spStr (C : Addr) : Sp := fun vs H Q _ => ∃ p a b, vs = [.ref p] ∧ RatAt C H p a b ∧ Sm a ∧ Sm b ∧ Q (.str (ratTx a b)) H
def spRepr (C : Addr) : Sp := fun vs H Q _ => ∃ p a b, vs = [.ref p] ∧ RatAt C H p a b ∧ Sm a ∧ Sm b ∧ Q (.str (ratRp a b)) H
def spWhole (C : Addr) : Sp := fun vs H Q _ => ∃ p a b, vs = [.ref p] ∧ RatAt C H p a b ∧ Q (.bl (decide (b = 1))) H
def spFloor (C : Addr) : Sp := fun vs H Q _ => ∃ p a b, vs = [.ref p] ∧ RatAt C H p a b ∧ b ≠ 0 ∧ b.natAbs.log2 < 9000 ∧ Q (.int (a.fdiv b)) H
def spBool (C : Addr) : Sp := fun vs H Q _ => ∃ p a b, vs = [.ref p] ∧ RatAt C H p a b ∧ Q (.bl (a != 0)) H
theorem line_le {n : Nat} (h : n ≤ 10000) : n ≤ sizeLine := Nat.le_trans h (by rw [sizeLine_eq]; decide)
end

/-! ### the law's own helpers: draws -/
/-- a box: what is left of a great cell, the seed, the count -/
def BoxL (n s c : Int) : HO := .lst [.int n, .int s, .int c]
def BoxAt (H : Hp) (p : Addr) : Prop := ∃ n s c : Int, H p = some (BoxL n s c) ∧ 0 ≤ n ∧ 0 ≤ s ∧ s < 2147483648
def spBox (K : PySem.W.Frag) : Sp := fun vs H Q _ => ∃ (a : Addr) (ns : List Int) (k : Int), vs = [.ref a, .int k] ∧ SqL K H a (ns.map V.int) ∧ 0 ≤ k ∧ ∀ p H', H p = none → Same H H' → BoxAt H' p → Q (.ref p) H'
/-- a digit is drawn; the box alone changes -/
def spTake : Sp := fun vs H Q _ => ∃ (p : Addr) (m : Int), vs = [.ref p, .int m] ∧ BoxAt H p ∧ 0 < m ∧ m < 1073741824 ∧ ∀ d n s c : Int, 0 ≤ d → d < m → BoxAt (upd H p (BoxL n s c)) p → Q (.int d) (upd H p (BoxL n s c))
theorem at_ints {ns : List Int} {i : Int} (h0 : 0 ≤ i) (h1 : i < (ns.length : Int)) : ∃ z, atI (ns.map V.int) i = some (V.int z) := by
  obtain ⟨j, rfl⟩ : ∃ j : Nat, i = (j : Int) := ⟨i.toNat, by omega⟩
  have hj : j < ns.length := by omega
  exact ⟨ns[j], atI_nat (by rw [List.getElem?_map, List.getElem?_eq_getElem hj]; rfl)⟩
section
variable {P : Program} {w : World} {K : PySem.W.Frag} {mg : Str → Option Value} {base : Heap}
theorem ok_box (T : Txt K mg) : FnOk P w K mg base CX0 1 T.f_lw_box T.d_lw_box ["_law_script", "_law_k"] (spBox K) := by
  refine T.F_lw_box.ok sc_lw_box (fun vs H Q E ⟨_, _, _, e, _⟩ => by rw [e]; rfl) (fun cdv A outer s H vs Q E hr h => ?_)
  obtain ⟨a, ns, k, rfl, hS, h0, fin⟩ := h
  refine ⟨_, pss_cons (ps_set (i := 2) sc_lw_box.nd rfl (.inl rfl) (pe_op op_add (pe_op op_mul pe_int (pv 1)) pe_int))
    (C8.pss_cut (ps_if (pt_cmpR op_lt (pv 1) (pe_callB call_len_seq (by rfl) T.b_len PySem.boot_len (pa_cons (pv 0) pa_nil)) (nomark _))
        (pss_one (ps_set (i := 2) sc_lw_box.nd rfl (.inl rfl) (pe_ix ix_list (pv 0) (pv 1) (fun _ _ => rfl))))
        (pss_one (ps_if (pt_cmpR op_gt (pe_callB call_len_seq (by rfl) T.b_len PySem.boot_len (pa_cons (pv 0) pa_nil)) pe_int (nomark _))
          (pss_one (ps_set (i := 2) sc_lw_box.nd rfl (.inl rfl) (pe_op op_add (pv 2) (pe_op op_mulW (pe_op op_mod (pe_ix ix_list (pv 0) (pe_op op_mod (pv 1) (pe_callB call_len_seq (by rfl) T.b_len PySem.boot_len (pa_cons (pv 0) pa_nil))) (fun _ _ => rfl)) pe_int) pe_int))))
          pss_nil)))
    (pss_cons (ps_set (i := 3) sc_lw_box.nd rfl (.inl rfl) (pe_op op_add (pe_op op_mod (pe_op op_add (pe_op op_mulW (pe_op op_mod (pv 2) pe_int) pe_int) (pe_op op_mul pe_int (pv 1))) pe_int) pe_int))
    (pss_one (ps_ret (pe_lst (pa_cons (pe_ix ix_list (pe_lst (pa_cons pe_int (pa_cons (pv 2) pa_nil))) (pe_callTy call_int1 (by rfl) T.b_int (by decide +kernel) (pa_cons (pe_cmpR op_ge (pv 2) (pe_op op_pow pe_int pe_int) (nomark _)) pa_nil)) (fun _ _ => rfl)) (pa_cons (pv 3) (pa_cons pe_int pa_nil)))))))), ?_⟩
  have small : ∀ {x y : Int}, 0 ≤ x → x < 4294967296 → y.natAbs < 2 ^ 32 → CMulW x y := fun {x y} h1 h2 h3 => wide_mul (a := 32) (b := 32) (by omega) h3 (by decide) (by decide) (by decide)
  refine ⟨_, rfl, _, _, rfl, rfl, .inl ⟨by decide, by decide⟩, _, _, rfl, rfl, ?_⟩
  refine ⟨fun σ' H' => H = H' ∧ ∃ c : Int, σ' = [some (.ref a), some (.int k), some (.int c), none], ?_, ?_⟩
  · refine ⟨_, rfl, _, rfl, a, _, rfl, .inl hS, _, _, rfl, rfl, _, rfl, ?_⟩
    refine ite2 (fun c => ?_) (fun c => ?_)
    · have lt : k < (ns.length : Int) := by have z := of_decide_eq_true c; rw [List.length_map] at z; exact z
      obtain ⟨z, hz⟩ := at_ints h0 lt
      exact ⟨_, rfl, _, rfl, a, _, _, _, rfl, rfl, hS, hz, rfl, z, rfl⟩
    · refine ⟨_, rfl, a, _, rfl, .inl hS, _, _, rfl, rfl, _, rfl, ?_⟩
      refine ite2 (fun c2 => ?_) (fun c2 => ⟨rfl, _, rfl⟩)
      have pos : 0 < ((ns.map V.int).length : Int) := of_decide_eq_true c2
      have e := Int.emod_nonneg k (b := ((ns.map V.int).length : Int)) (by omega)
      have e2 := Int.emod_lt_of_pos k pos
      obtain ⟨z, hz⟩ := at_ints (ns := ns) (i := k % ((ns.map V.int).length : Int)) e (by rw [List.length_map] at e2 ⊢; exact e2)
      refine ⟨_, rfl, _, rfl, _, rfl, _, rfl, a, _, rfl, .inl hS, _, _, rfl, rfl, pos, a, _, _, _, rfl, rfl, hS, hz, _, _, rfl, rfl, (by show (0 : Int) < 2147483629; decide), _, _, rfl, rfl, ?_, _, _, rfl, rfl, rfl, _, rfl⟩
      exact small (Int.emod_nonneg _ (by decide)) (Int.lt_trans (Int.emod_lt_of_pos _ (by decide)) (by decide)) (by decide)
  · rintro _ _ ⟨rfl, c, rfl⟩
    refine ⟨_, rfl, _, _, rfl, rfl, (by show (0 : Int) < 2147483629; decide), _, _, rfl, rfl, ?_, _, rfl, _, _, rfl, rfl, .inl ⟨by decide, by decide⟩, _, _, rfl, rfl, _, _, rfl, rfl, (by show (0 : Int) < 2147483629; decide), _, _, rfl, rfl, ?_⟩
    · exact small (Int.emod_nonneg _ (by decide)) (Int.lt_trans (Int.emod_lt_of_pos _ (by decide)) (by decide)) (by decide)
    have s0 := Int.emod_nonneg (c % 2147483629 * 48271 + 40699 * k) (b := 2147483629) (by decide)
    have s1 := Int.emod_lt_of_pos (c % 2147483629 * 48271 + 40699 * k) (b := 2147483629) (by decide)
    generalize (c % 2147483629 * 48271 + 40699 * k) % 2147483629 = sd at s0 s1
    refine ⟨_, rfl, (by show 2 ≤ sizeLine; decide), fun q hq => ?_⟩
    refine ⟨_, rfl, _, _, rfl, rfl, ⟨by decide, by decide, by decide⟩, _, _, rfl, rfl, .inr ⟨_, rfl, ?_⟩⟩
    have done : ∀ n : Int, 0 ≤ n → tCons (tVar 3) (tCons (tC (.int 0)) tNil) [some (.ref a), some (.int k), some (.int c), some (.int (sd + 1))] (upd H q (.lst [.int 0, .int c])) (fun xs H2 => (V.int n :: xs).length ≤ sizeLine ∧ ∀ p, H2 p = none → Q (.ref p) (upd H2 p (.lst (V.int n :: xs)))) := by
      intro n hn
      refine ⟨_, rfl, (by show 3 ≤ sizeLine; decide), fun p hp => fin p _ ?_ ?_ ⟨n, sd + 1, 0, upd_same, hn, by omega, by omega⟩⟩
      · exact (same_upd hq).free hp
      · exact (same_upd hq).trans (same_upd hp)
    by_cases g : (10 : Int) ^ (18 : Int).toNat ≤ c
    · rw [decide_eq_true g]
      refine ⟨q, [.int 0, .int c], 1, .int c, rfl, rfl, SqL.of upd_same, rfl, done c (Int.le_trans (by decide) g)⟩
    · rw [decide_eq_false g]
      exact ⟨q, [.int 0, .int c], 0, .int 0, rfl, rfl, SqL.of upd_same, rfl, done 0 (by decide)⟩

theorem ok_take (T : Txt K mg) : FnOk P w K mg base CX0 1 T.f_lw_take T.d_lw_take ["_law_box_here", "_law_many"] spTake := by
  refine T.F_lw_take.ok sc_lw_take (fun vs H Q E ⟨_, _, e, _⟩ => by rw [e]; rfl) (fun cdv A outer s H vs Q E hr h => ?_)
  obtain ⟨p, m, rfl, ⟨n, sd, c, hb, n0, s0, s1⟩, m0, m1, fin⟩ := h
  refine ⟨_, pss_cons (ps_if (pt_cmpR op_gt (pe_ix ix_list (pv 0) pe_int (fun _ _ => rfl)) pe_int (nomark _))
      (pss_cons (ps_set (i := 2) sc_lw_take.nd rfl (.inl rfl) (pe_op op_mod (pe_ix ix_list (pv 0) pe_int (fun _ _ => rfl)) (pv 1)))
        (pss_cons (ps_asg (pe_op op_fdivX (pe_ix ix_list (pv 0) pe_int (fun _ _ => rfl)) (pv 1)) (pg_sub (pv 0) pe_int set_list)) (pss_one (ps_ret (pv 2))))) pss_nil)
    (pss_cons (ps_asg (pe_op op_add (pe_ix ix_list (pv 0) pe_int (fun _ _ => rfl)) pe_int) (pg_sub (pv 0) pe_int set_list))
    (pss_cons (ps_set (i := 3) sc_lw_take.nd rfl (.inl rfl) (pe_op op_mod (pe_op op_mul (pe_op op_add (pe_ix ix_list (pv 0) pe_int (fun _ _ => rfl)) (pe_op op_mul pe_int (pe_ix ix_list (pv 0) pe_int (fun _ _ => rfl)))) pe_int) pe_int))
    (pss_cons (ps_asg (pe_op op_add (pe_op op_mod (pe_op op_add (pe_op op_mul (pv 3) pe_int) pe_int) pe_int) pe_int) (pg_sub (pv 0) pe_int set_list))
    (pss_cons (ps_set (i := 4) sc_lw_take.nd rfl (.inl rfl) (pe_op op_add (pe_op op_mul (pv 3) pe_int) (pe_ix ix_list (pv 0) pe_int (fun _ _ => rfl))))
    (pss_one (ps_ret (pe_op op_mod (pe_ifExp (pt_cmpR op_gt (pv 1) (pe_op op_pow pe_int pe_int) (nomark _)) (pe_op op_fdiv (pe_op op_mul (pv 4) (pv 4)) pe_int) (pe_op op_fdiv (pv 4) pe_int)) (pv 1)))))))), ?_⟩
  have L0 : SqL K H p [.int n, .int sd, .int c] := SqL.of hb
  refine ⟨_, rfl, p, _, 0, .int n, rfl, rfl, L0, rfl, _, _, rfl, rfl, _, rfl, ?_⟩
  refine ite2 (fun g => ?_) (fun g => ?_)
  · have pos : 0 < n := of_decide_eq_true g
    refine ⟨_, rfl, p, _, 0, .int n, rfl, rfl, L0, rfl, _, rfl, _, _, rfl, rfl, m0, ?_⟩
    refine ⟨_, rfl, p, _, 0, .int n, rfl, rfl, L0, rfl, _, rfl, _, _, rfl, rfl, ⟨by omega, lenU (n := 30) (by omega) (by decide) (by decide)⟩, ?_⟩
    refine ⟨_, rfl, p, _, 0, 0, rfl, rfl, hb, rfl, ?_⟩
    refine ⟨_, rfl, fin (n % m) (n.fdiv m) sd c (Int.emod_nonneg _ (by omega)) (Int.emod_lt_of_pos _ m0) ⟨_, _, _, upd_same, ?_, s0, s1⟩⟩
    rw [Int.fdiv_eq_ediv_of_nonneg _ (by omega)]
    exact Int.ediv_nonneg n0 (by omega)
  · have z : n = 0 := by have : ¬ 0 < n := fun q => g (decide_eq_true q); omega
    refine ⟨_, rfl, p, _, 2, .int c, rfl, rfl, L0, rfl, _, _, rfl, rfl, _, rfl, p, _, 2, 2, rfl, rfl, hb, rfl, ?_⟩
    have L1 : SqL K (upd H p (.lst [.int n, .int sd, .int (c + 1)])) p [.int n, .int sd, .int (c + 1)] := SqL.of upd_same
    refine ⟨_, rfl, p, _, 1, .int sd, rfl, rfl, L1, rfl, _, rfl, p, _, 2, .int (c + 1), rfl, rfl, L1, rfl, _, _, rfl, rfl, .inl ⟨by decide, by decide⟩, _, _, rfl, rfl, _, _, rfl, rfl, .inr ⟨by decide, by decide⟩, _, _, rfl, rfl, (by show (0 : Int) < 2147483647; decide), ?_⟩
    have f0 := Int.emod_nonneg ((sd + 104743 * (c + 1)) * 69621) (b := 2147483647) (by decide)
    have f1 := Int.emod_lt_of_pos ((sd + 104743 * (c + 1)) * 69621) (b := 2147483647) (by decide)
    obtain ⟨fi, hfi⟩ : ∃ fi, fi = (sd + 104743 * (c + 1)) * 69621 % 2147483647 := ⟨_, rfl⟩
    rw [← hfi] at f0 f1
    have g0 := Int.emod_nonneg (fi * 48271 + 30107) (b := 2147483629) (by decide)
    have g1 := Int.emod_lt_of_pos (fi * 48271 + 30107) (b := 2147483629) (by decide)
    refine ⟨_, rfl, _, _, rfl, rfl, .inr ⟨by decide, by decide⟩, _, _, rfl, rfl, _, _, rfl, rfl, (by show (0 : Int) < 2147483629; decide), _, _, rfl, rfl, _, rfl, p, _, 1, 1, rfl, rfl, upd_same, rfl, ?_⟩
    obtain ⟨gi, hgi⟩ : ∃ gi, gi = (fi * 48271 + 30107) % 2147483629 := ⟨_, rfl⟩
    rw [← hgi] at g0 g1
    subst hfi
    have L2' : SqL K (upd (upd H p (.lst [.int n, .int sd, .int (c + 1)])) p (.lst [.int n, .int (gi + 1), .int (c + 1)])) p [.int n, .int (gi + 1), .int (c + 1)] := SqL.of upd_same
    subst hgi
    refine ⟨_, rfl, _, _, rfl, rfl, .inr ⟨by decide, by decide⟩, _, rfl, p, _, 1, _, rfl, rfl, L2', rfl, _, _, rfl, rfl, ?_⟩
    refine ⟨_, rfl, _, _, rfl, rfl, ⟨by decide, by decide, by decide⟩, _, _, rfl, rfl, _, rfl, ?_⟩
    have ret : ∀ d : Int, 0 ≤ d → d < m → Q (.int d) (upd (upd H p (.lst [.int n, .int sd, .int (c + 1)])) p (.lst [.int n, .int (((sd + 104743 * (c + 1)) * 69621 % 2147483647 * 48271 + 30107) % 2147483629 + 1), .int (c + 1)])) := by
      intro d d0 d1
      rw [upd_upd]
      exact fin d n _ (c + 1) d0 d1 ⟨_, _, _, upd_same, n0, by omega, by omega⟩
    refine ite2 (fun _ => ?_) (fun _ => ?_)
    · refine ⟨_, rfl, _, rfl, _, _, rfl, rfl, .inl ⟨by omega, by omega⟩, _, _, rfl, rfl, ⟨by decide, by decide⟩, _, rfl, _, _, rfl, rfl, m0, ret _ (Int.emod_nonneg _ (by omega)) (Int.emod_lt_of_pos _ m0)⟩
    · exact ⟨_, rfl, _, _, rfl, rfl, ⟨by decide, by decide⟩, _, rfl, _, _, rfl, rfl, m0, ret _ (Int.emod_nonneg _ (by omega)) (Int.emod_lt_of_pos _ m0)⟩

theorem gcd_step {x y : Int} (hx : 0 ≤ x) (hy : 0 < y) : Nat.gcd y.natAbs (x % y).natAbs = Nat.gcd x.natAbs y.natAbs := by
  have e : (x % y).natAbs = x.natAbs % y.natAbs := by
    have e1 : x = (x.natAbs : Int) := by omega
    have e2 : y = (y.natAbs : Int) := by omega
    rw [e1, e2]
    simp only [Int.natAbs_natCast]
    omega
  rw [e, Nat.gcd_comm y.natAbs, ← Nat.gcd_rec, Nat.gcd_comm]
theorem abs_if (i : Int) : (if i < 0 then -i else i) = (i.natAbs : Int) := by
  split <;> omega
def spLow : Sp := fun vs H Q _ => ∃ u l : Int, vs = [.int u, .int l] ∧ l ≠ 0 ∧ l.natAbs < 2 ^ 8000 ∧ ∀ p H', Same H H' → H' p = some (.tup [.int (lo1 u l), .int (lo2 u l)]) → Q (.ref p) H'
def lowM (σ : L2.St) : Nat := match (show Option (Option V) from σ[3]?) with
  | some (some (V.int y)) => y.toNat
  | _ => 0
end
/-! ### small words -/
/-- all that was tracked is as it was, but the box at p -/
def But (p : Addr) (H H' : Hp) : Prop := ∀ b o, b ≠ p → H b = some o → H' b = some o
theorem if_false_ {c : Bool} {A B : Prop} (hc : c = false) (h : B) : if c = true then A else B := by
  rw [hc]
  exact iteF h
theorem But.refl (p : Addr) (H : Hp) : But p H H := fun _ _ _ e => e
theorem But.trans {p : Addr} {H H1 H2 : Hp} (a : But p H H1) (b : But p H1 H2) : But p H H2 := fun c o n e => b c o n (a c o n e)
theorem But.of {p : Addr} {H H' : Hp} (s : Same H H') : But p H H' := fun b o _ e => s b o e
theorem But.upd {p : Addr} {H : Hp} {o : HO} : But p H (upd H p o) := fun b u n e => by rw [upd_ne n]; exact e
theorem BoxAt.same {H H' : Hp} {p : Addr} (h : BoxAt H p) (s : Same H H') : BoxAt H' p := let ⟨n, a, c, e, r⟩ := h; ⟨n, a, c, s _ _ e, r⟩
theorem menu4 {a b c e : V} {d : Int} (h0 : 0 ≤ d) (h1 : d < 4) {p : V → Prop} (pa : p a) (pb : p b) (pc : p c) (pe : p e) : ∃ v, atI [a, b, c, e] d = some v ∧ p v := by
  obtain rfl | rfl | rfl | rfl : d = 0 ∨ d = 1 ∨ d = 2 ∨ d = 3 := by omega
  · exact ⟨a, rfl, pa⟩
  · exact ⟨b, rfl, pb⟩
  · exact ⟨c, rfl, pc⟩
  · exact ⟨e, rfl, pe⟩
theorem menu2 {a b : V} {d : Int} (h0 : 0 ≤ d) (h1 : d < 2) {p : V → Prop} (pa : p a) (pb : p b) : ∃ v, atI [a, b] d = some v ∧ p v := by
  obtain rfl | rfl : d = 0 ∨ d = 1 := by omega
  · exact ⟨a, rfl, pa⟩
  · exact ⟨b, rfl, pb⟩
theorem menu3 {a b c : V} {d : Int} (h0 : 0 ≤ d) (h1 : d < 3) {p : V → Prop} (pa : p a) (pb : p b) (pc : p c) : ∃ v, atI [a, b, c] d = some v ∧ p v := by
  obtain rfl | rfl | rfl : d = 0 ∨ d = 1 ∨ d = 2 := by omega
  · exact ⟨a, rfl, pa⟩
  · exact ⟨b, rfl, pb⟩
  · exact ⟨c, rfl, pc⟩
theorem menu5 {a b c e f : V} {d : Int} (h0 : 0 ≤ d) (h1 : d < 5) {p : V → Prop} (pa : p a) (pb : p b) (pc : p c) (pe : p e) (pf : p f) : ∃ v, atI [a, b, c, e, f] d = some v ∧ p v := by
  obtain rfl | rfl | rfl | rfl | rfl : d = 0 ∨ d = 1 ∨ d = 2 ∨ d = 3 ∨ d = 4 := by omega
  · exact ⟨a, rfl, pa⟩
  · exact ⟨b, rfl, pb⟩
  · exact ⟨c, rfl, pc⟩
  · exact ⟨e, rfl, pe⟩
  · exact ⟨f, rfl, pf⟩
section
variable {P : Program} {w : World} {K : PySem.W.Frag} {mg : Str → Option Value} {base : Heap}
theorem exm_inv (T : Txt K mg) : PySem.W.exmOne K (.ref T.C_InvalidNumber) (.ref T.C_InvalidNumber) = some true := by
  have e1 : (PySem.W.subIn K (.ref T.C_InvalidNumber) (.type "BaseException") == some true) = true := by rw [T.ox_InvalidNumber.exC]; exact beq_self_eq_true _
  have e2 : ((PySem.W.clsIn K T.C_InvalidNumber).isSome && PySem.W.typeIn K (.ref T.C_InvalidNumber) == some (.type "type")) = true := by
    rw [show (PySem.W.clsIn K T.C_InvalidNumber).isSome = true from T.ic_InvalidNumber, T.ox_InvalidNumber.tyC]; exact beq_self_eq_true _
  show (if (PySem.W.subIn K (.ref T.C_InvalidNumber) (.type "BaseException") == some true) = true then (if ((PySem.W.clsIn K T.C_InvalidNumber).isSome && PySem.W.typeIn K (.ref T.C_InvalidNumber) == some (.type "type")) = true then PySem.W.subIn K (.ref T.C_InvalidNumber) (.ref T.C_InvalidNumber) else none) else none) = some true
  rw [if_pos e1, if_pos e2]
  exact T.ss_InvalidNumber
theorem xval (v : V) : List.lookup ("value" : Str) [(("value" : Str), v)] = some v := by simp [List.lookup]
theorem zero_lt_8000 : (0 : Int).natAbs < 2 ^ 8000 := Nat.lt_trans (by decide) small1
theorem sm_of {i : Int} (h : i.natAbs ≤ 1000000000) : Sm i := by
  have : i.natAbs.log2 < 30 := PySem.Flt.log2_lt_of (by decide) (by omega)
  unfold Sm
  omega
theorem big_of {i : Int} (h : i.natAbs ≤ 1000000000) : i.natAbs < 2 ^ 8000 := Nat.lt_of_lt_of_le (show i.natAbs < 2 ^ 30 by omega) (Nat.pow_le_pow_right (by decide) (by decide))
theorem sm_fdiv {a b : Int} (ha : a.natAbs ≤ 1000000000) (hb : 0 < b) : Sm (a.fdiv b) := by
  rw [Int.fdiv_eq_ediv_of_nonneg _ (by omega)]
  exact sm_of (Nat.le_trans (Int.natAbs_ediv_le_natAbs _ _) ha)
theorem but_new {p : Addr} {H H1 H2 : Hp} (n : H p = none) (s : Same H H1) (b : But p H1 H2) : Same H H2 := fun c o e => b c o (ne_of_none e n) (s c o e)
theorem sqT_same {H H' : Hp} {a : Addr} {xs : List V} (s : Same H H') (h : H a = some (.tup xs)) : SqT K H' a xs := SqT.of (s _ _ h)
end

/-! ### own errors as values -/
def spErr1 (C : Addr) (f : Str) : Sp := fun vs H Q _ => ∃ (a : Addr) (y : V), vs = [.ref a, y] ∧ H a = some (exo a C none) ∧ ∀ dx, H dx = none → dx ≠ a → Q .non (upd (upd H dx (exd dx [(f, y)])) a (exo a C (some dx)))
def spErr2 (C : Addr) : Sp := fun vs H Q _ => ∃ (a : Addr) (y z : V), vs = [.ref a, y, z] ∧ H a = some (exo a C none) ∧ ∀ dx, H dx = none → dx ≠ a → Q .non (upd (upd (upd H dx (exd dx [("spot", y)])) a (exo a C (some dx))) dx (exd dx [("amount", z), ("spot", y)]))
/-- an error of the class C at e -/
def ErrAt (C : Addr) (H : Hp) (e : Addr) : Prop := ∃ d, H e = some (exo e C d) ∧ (d = none ∨ ∃ dx fs, d = some dx ∧ H dx = some (exd dx fs))
theorem ErrAt.same {C e : Addr} {H H' : Hp} (h : ErrAt C H e) (s : Same H H') : ErrAt C H' e := let ⟨d, a, r⟩ := h; ⟨d, s _ _ a, r.imp id fun ⟨dx, fs, e1, e2⟩ => ⟨dx, fs, e1, s _ _ e2⟩⟩
/-- .. whose field f is v -/
def ErrF (C : Addr) (H : Hp) (e : Addr) (f : Str) (v : V) : Prop := ∃ dx fs, H e = some (exo e C (some dx)) ∧ H dx = some (exd dx fs) ∧ fs.lookup f = some v
theorem ErrF.same {C e : Addr} {H H' : Hp} {f : Str} {v : V} (h : ErrF C H e f v) (s : Same H H') : ErrF C H' e f v := let ⟨dx, fs, a, b, c⟩ := h; ⟨dx, fs, s _ _ a, s _ _ b, c⟩
theorem ErrF.at_ {C e : Addr} {H : Hp} {f : Str} {v : V} (h : ErrF C H e f v) : ErrAt C H e := let ⟨dx, fs, a, b, _⟩ := h; ⟨some dx, a, .inr ⟨dx, fs, rfl, b⟩⟩
theorem made1 {H : Hp} {x dx C : Addr} {f : Str} {y : V} (hx : H x = none) (nx : (upd H x (exo x C none)) dx = none) (ne : dx ≠ x) :
    Same H (upd (upd (upd H x (exo x C none)) dx (exd dx [(f, y)])) x (exo x C (some dx))) ∧ ErrF C (upd (upd (upd H x (exo x C none)) dx (exd dx [(f, y)])) x (exo x C (some dx))) x f y := by
  have nd : H dx = none := by rwa [upd_ne ne] at nx
  refine ⟨fun b o e => ?_, dx, [(f, y)], upd_same, by rw [upd_ne ne, upd_same], by rw [lookup_put, if_pos rfl]⟩
  rw [upd_ne (ne_of_none e hx), upd_ne (ne_of_none e nd), upd_ne (ne_of_none e hx)]
  exact e
theorem made2 {H : Hp} {x dx C : Addr} {y z : V} (hx : H x = none) (nx : (upd H x (exo x C none)) dx = none) (ne : dx ≠ x) :
    Same H (upd (upd (upd (upd H x (exo x C none)) dx (exd dx [("spot", y)])) x (exo x C (some dx))) dx (exd dx [("amount", z), ("spot", y)])) ∧ ErrF C (upd (upd (upd (upd H x (exo x C none)) dx (exd dx [("spot", y)])) x (exo x C (some dx))) dx (exd dx [("amount", z), ("spot", y)])) x "spot" y ∧ ErrF C (upd (upd (upd (upd H x (exo x C none)) dx (exd dx [("spot", y)])) x (exo x C (some dx))) dx (exd dx [("amount", z), ("spot", y)])) x "amount" z := by
  have nd : H dx = none := by rwa [upd_ne ne] at nx
  refine ⟨fun b o e => ?_, ⟨dx, _, by rw [upd_ne (Ne.symm ne), upd_same], upd_same, by rw [lookup_put, if_neg (by decide +kernel), lookup_put, if_pos rfl]⟩, ⟨dx, _, by rw [upd_ne (Ne.symm ne), upd_same], upd_same, by rw [lookup_put, if_pos rfl]⟩⟩
  rw [upd_ne (ne_of_none e nd), upd_ne (ne_of_none e hx), upd_ne (ne_of_none e nd), upd_ne (ne_of_none e hx)]
  exact e
theorem kx_err {K : PySem.W.Frag} {C D : Addr} {r : Bool} (ic : PySem.W.isClsIn K D = true) (ty : PySem.W.typeIn K (.ref D) = some (.type "type")) (ss : PySem.W.subIn K (.ref C) (.ref C) = some true) (h : PySem.W.subIn K (.ref C) (.ref D) = some r) : PySem.W.kitOne K (.ref C) (.ref D) = some r := by
  by_cases e : C = D
  · subst e
    rw [ss] at h
    cases h
    exact kit_self
  · have e2 : ((PySem.W.clsIn K D).isSome && PySem.W.typeIn K (.ref D) == some (.type "type")) = true := by
      rw [show (PySem.W.clsIn K D).isSome = true from ic, ty]; exact beq_self_eq_true _
    show (if (Value.ref C == Value.ref D) = true then some true else if ((PySem.W.clsIn K D).isSome && PySem.W.typeIn K (.ref D) == some (.type "type")) = true then PySem.W.subIn K (.ref C) (.ref D) else none) = some r
    rw [if_neg (fun z => e (Value.ref.inj (beq_iff_eq.mp z))), if_pos e2, h]
section
variable {P : Program} {w : World} {K : PySem.W.Frag} {mg : Str → Option Value} {base : Heap}
theorem ok_e_InvalidNumber (T : Txt K mg) : FnOk P w K mg base CX0 1 T.f_InvalidNumber_init_d T.d_InvalidNumber_init_d ["self", "value"] (spErr1 T.C_InvalidNumber "value") := by
  refine T.F_InvalidNumber_init_d.ok sc_InvalidNumber_init_d (fun vs H Q E ⟨_, _, e, _⟩ => by rw [e]; rfl) (fun cdv A outer s H vs Q E hr h => ?_)
  obtain ⟨a, v, rfl, ha, k⟩ := h
  exact ⟨_, pss_one (ps_ost (pv 0) (pv 1)), _, rfl, _, rfl, a, T.C_InvalidNumber, rfl, T.ox_InvalidNumber, T.n_InvalidNumber_value, .inl ⟨ha, k⟩⟩
theorem ok_e_InvalidDrop (T : Txt K mg) : FnOk P w K mg base CX0 1 T.f_InvalidDrop_init_d T.d_InvalidDrop_init_d ["self", "index"] (spErr1 T.C_InvalidDrop "index") := by
  refine T.F_InvalidDrop_init_d.ok sc_InvalidDrop_init_d (fun vs H Q E ⟨_, _, e, _⟩ => by rw [e]; rfl) (fun cdv A outer s H vs Q E hr h => ?_)
  obtain ⟨a, v, rfl, ha, k⟩ := h
  exact ⟨_, pss_one (ps_ost (pv 0) (pv 1)), _, rfl, _, rfl, a, T.C_InvalidDrop, rfl, T.ox_InvalidDrop, T.n_InvalidDrop_index, .inl ⟨ha, k⟩⟩
theorem ok_e_InvalidTime (T : Txt K mg) : FnOk P w K mg base CX0 1 T.f_InvalidTime_init_d T.d_InvalidTime_init_d ["self", "time"] (spErr1 T.C_InvalidTime "time") := by
  refine T.F_InvalidTime_init_d.ok sc_InvalidTime_init_d (fun vs H Q E ⟨_, _, e, _⟩ => by rw [e]; rfl) (fun cdv A outer s H vs Q E hr h => ?_)
  obtain ⟨a, v, rfl, ha, k⟩ := h
  exact ⟨_, pss_one (ps_ost (pv 0) (pv 1)), _, rfl, _, rfl, a, T.C_InvalidTime, rfl, T.ox_InvalidTime, T.n_InvalidTime_time, .inl ⟨ha, k⟩⟩
theorem ok_e_InvalidText (T : Txt K mg) : FnOk P w K mg base CX0 1 T.f_InvalidText_init_d T.d_InvalidText_init_d ["self", "line"] (spErr1 T.C_InvalidText "line") := by
  refine T.F_InvalidText_init_d.ok sc_InvalidText_init_d (fun vs H Q E ⟨_, _, e, _⟩ => by rw [e]; rfl) (fun cdv A outer s H vs Q E hr h => ?_)
  obtain ⟨a, v, rfl, ha, k⟩ := h
  exact ⟨_, pss_one (ps_ost (pv 0) (pv 1)), _, rfl, _, rfl, a, T.C_InvalidText, rfl, T.ox_InvalidText, T.n_InvalidText_line, .inl ⟨ha, k⟩⟩
theorem ok_e_Full (T : Txt K mg) : FnOk P w K mg base CX0 1 T.f_Full_init_d T.d_Full_init_d ["self", "limit"] (spErr1 T.C_Full "limit") := by
  refine T.F_Full_init_d.ok sc_Full_init_d (fun vs H Q E ⟨_, _, e, _⟩ => by rw [e]; rfl) (fun cdv A outer s H vs Q E hr h => ?_)
  obtain ⟨a, v, rfl, ha, k⟩ := h
  exact ⟨_, pss_one (ps_ost (pv 0) (pv 1)), _, rfl, _, rfl, a, T.C_Full, rfl, T.ox_Full, T.n_Full_limit, .inl ⟨ha, k⟩⟩
theorem ok_e_MissingDrop (T : Txt K mg) : FnOk P w K mg base CX0 1 T.f_MissingDrop_init_d T.d_MissingDrop_init_d ["self", "spot", "amount"] (spErr2 T.C_MissingDrop) := by
  refine T.F_MissingDrop_init_d.ok sc_MissingDrop_init_d (fun vs H Q E ⟨_, _, _, e, _⟩ => by rw [e]; rfl) (fun cdv A outer s H vs Q E hr h => ?_)
  obtain ⟨a, v1, v2, rfl, ha, k⟩ := h
  refine ⟨_, pss_cons (ps_ost (pv 0) (pv 1)) (pss_one (ps_ost (pv 0) (pv 2))), ?_⟩
  refine ⟨_, rfl, _, rfl, a, T.C_MissingDrop, rfl, T.ox_MissingDrop, T.n_MissingDrop_spot, .inl ⟨ha, fun dx nd ne => ?_⟩⟩
  exact ⟨_, rfl, _, rfl, a, T.C_MissingDrop, rfl, T.ox_MissingDrop, T.n_MissingDrop_amount, .inr ⟨dx, _, upd_same, by rw [upd_ne ne, upd_same], by show 1 ≤ 900; decide, k dx nd ne⟩⟩
theorem ok_e_Touching (T : Txt K mg) : FnOk P w K mg base CX0 1 T.f_Touching_init_d T.d_Touching_init_d ["self", "index"] (spErr1 T.C_Touching "index") := by
  refine T.F_Touching_init_d.ok sc_Touching_init_d (fun vs H Q E ⟨_, _, e, _⟩ => by rw [e]; rfl) (fun cdv A outer s H vs Q E hr h => ?_)
  obtain ⟨a, v, rfl, ha, k⟩ := h
  exact ⟨_, pss_one (ps_ost (pv 0) (pv 1)), _, rfl, _, rfl, a, T.C_Touching, rfl, T.ox_Touching, T.n_Touching_index, .inl ⟨ha, k⟩⟩
theorem ok_e_OutOfGround (T : Txt K mg) : FnOk P w K mg base CX0 1 T.f_OutOfGround_init_d T.d_OutOfGround_init_d ["self", "spot"] (spErr1 T.C_OutOfGround "spot") := by
  refine T.F_OutOfGround_init_d.ok sc_OutOfGround_init_d (fun vs H Q E ⟨_, _, e, _⟩ => by rw [e]; rfl) (fun cdv A outer s H vs Q E hr h => ?_)
  obtain ⟨a, v, rfl, ha, k⟩ := h
  exact ⟨_, pss_one (ps_ost (pv 0) (pv 1)), _, rfl, _, rfl, a, T.C_OutOfGround, rfl, T.ox_OutOfGround, T.n_OutOfGround_spot, .inl ⟨ha, k⟩⟩
theorem ok_e_Overfull (T : Txt K mg) : FnOk P w K mg base CX0 1 T.f_Overfull_init_d T.d_Overfull_init_d ["self", "total"] (spErr1 T.C_Overfull "total") := by
  refine T.F_Overfull_init_d.ok sc_Overfull_init_d (fun vs H Q E ⟨_, _, e, _⟩ => by rw [e]; rfl) (fun cdv A outer s H vs Q E hr h => ?_)
  obtain ⟨a, v, rfl, ha, k⟩ := h
  exact ⟨_, pss_one (ps_ost (pv 0) (pv 1)), _, rfl, _, rfl, a, T.C_Overfull, rfl, T.ox_Overfull, T.n_Overfull_total, .inl ⟨ha, k⟩⟩
theorem ok_e_UnknownIndex (T : Txt K mg) : FnOk P w K mg base CX0 1 T.f_UnknownIndex_init_d T.d_UnknownIndex_init_d ["self", "index"] (spErr1 T.C_UnknownIndex "index") := by
  refine T.F_UnknownIndex_init_d.ok sc_UnknownIndex_init_d (fun vs H Q E ⟨_, _, e, _⟩ => by rw [e]; rfl) (fun cdv A outer s H vs Q E hr h => ?_)
  obtain ⟨a, v, rfl, ha, k⟩ := h
  exact ⟨_, pss_one (PmI.ps_ostI (pv 0) (pv 1)), _, rfl, _, rfl, a, T.C_UnknownIndex, rfl, T.ox_UnknownIndex, T.n_UnknownIndex_index, ha, k⟩
end
def errC {K : PySem.W.Frag} {mg : Str → Option Value} (T : Txt K mg) : Nat → Addr
  | 0 => T.C_InvalidNumber
  | 1 => T.C_InvalidDrop
  | 2 => T.C_InvalidTime
  | 3 => T.C_InvalidText
  | 4 => T.C_Full
  | 5 => T.C_MissingDrop
  | 6 => T.C_Touching
  | 7 => T.C_OutOfGround
  | 8 => T.C_Overfull
  | 9 => T.C_InvalidCommand
  | 10 => T.C_TrialError
  | _ => T.C_UnknownIndex
theorem errEc {K : PySem.W.Frag} {mg : Str → Option Value} (T : Txt K mg) : ∀ j, j < 12 → ExcC K (errC T j)
  | 0, _ => T.ec_InvalidNumber
  | 1, _ => T.ec_InvalidDrop
  | 2, _ => T.ec_InvalidTime
  | 3, _ => T.ec_InvalidText
  | 4, _ => T.ec_Full
  | 5, _ => T.ec_MissingDrop
  | 6, _ => T.ec_Touching
  | 7, _ => T.ec_OutOfGround
  | 8, _ => T.ec_Overfull
  | 9, _ => T.ec_InvalidCommand
  | 10, _ => T.ec_TrialError
  | 11, _ => T.ec_UnknownIndex
  | j + 12, h => absurd h (by omega)
theorem errSs {K : PySem.W.Frag} {mg : Str → Option Value} (T : Txt K mg) : ∀ j, j < 12 → PySem.W.subIn K (.ref (errC T j)) (.ref (errC T j)) = some true
  | 0, _ => T.ss_InvalidNumber
  | 1, _ => T.ss_InvalidDrop
  | 2, _ => T.ss_InvalidTime
  | 3, _ => T.ss_InvalidText
  | 4, _ => T.ss_Full
  | 5, _ => T.ss_MissingDrop
  | 6, _ => T.ss_Touching
  | 7, _ => T.ss_OutOfGround
  | 8, _ => T.ss_Overfull
  | 9, _ => T.ss_InvalidCommand
  | 10, _ => T.ss_TrialError
  | 11, _ => T.ss_UnknownIndex
  | j + 12, h => absurd h (by omega)
theorem errIc {K : PySem.W.Frag} {mg : Str → Option Value} (T : Txt K mg) : ∀ j, j < 12 → PySem.W.isClsIn K (errC T j) = true
  | 0, _ => T.ic_InvalidNumber
  | 1, _ => T.ic_InvalidDrop
  | 2, _ => T.ic_InvalidTime
  | 3, _ => T.ic_InvalidText
  | 4, _ => T.ic_Full
  | 5, _ => T.ic_MissingDrop
  | 6, _ => T.ic_Touching
  | 7, _ => T.ic_OutOfGround
  | 8, _ => T.ic_Overfull
  | 9, _ => T.ic_InvalidCommand
  | 10, _ => T.ic_TrialError
  | 11, _ => T.ic_UnknownIndex
  | j + 12, h => absurd h (by omega)
theorem errTy {K : PySem.W.Frag} {mg : Str → Option Value} (T : Txt K mg) : ∀ j, j < 12 → PySem.W.typeIn K (.ref (errC T j)) = some (.type "type")
  | 0, _ => T.ox_InvalidNumber.tyC
  | 1, _ => T.ox_InvalidDrop.tyC
  | 2, _ => T.ox_InvalidTime.tyC
  | 3, _ => T.ox_InvalidText.tyC
  | 4, _ => T.ox_Full.tyC
  | 5, _ => T.ox_MissingDrop.tyC
  | 6, _ => T.ox_Touching.tyC
  | 7, _ => T.ox_OutOfGround.tyC
  | 8, _ => T.ox_Overfull.tyC
  | 9, _ => T.ox_InvalidCommand.tyC
  | 10, _ => T.ox_TrialError.tyC
  | 11, _ => T.ox_UnknownIndex.tyC
  | j + 12, h => absurd h (by omega)
theorem errSx {K : PySem.W.Frag} {mg : Str → Option Value} (T : Txt K mg) : ∀ j k, j < 12 → k < 12 → PySem.W.subIn K (.ref (errC T j)) (.ref (errC T k)) = some (decide (j = k))
  | 0, 0, _, _ => T.ss_InvalidNumber
  | 0, 1, _, _ => T.sx_InvalidNumber_InvalidDrop
  | 0, 2, _, _ => T.sx_InvalidNumber_InvalidTime
  | 0, 3, _, _ => T.sx_InvalidNumber_InvalidText
  | 0, 4, _, _ => T.sx_InvalidNumber_Full
  | 0, 5, _, _ => T.sx_InvalidNumber_MissingDrop
  | 0, 6, _, _ => T.sx_InvalidNumber_Touching
  | 0, 7, _, _ => T.sx_InvalidNumber_OutOfGround
  | 0, 8, _, _ => T.sx_InvalidNumber_Overfull
  | 0, 9, _, _ => T.sx_InvalidNumber_InvalidCommand
  | 0, 10, _, _ => T.sx_InvalidNumber_TrialError
  | 0, 11, _, _ => T.sx_InvalidNumber_UnknownIndex
  | 1, 0, _, _ => T.sx_InvalidDrop_InvalidNumber
  | 1, 1, _, _ => T.ss_InvalidDrop
  | 1, 2, _, _ => T.sx_InvalidDrop_InvalidTime
  | 1, 3, _, _ => T.sx_InvalidDrop_InvalidText
  | 1, 4, _, _ => T.sx_InvalidDrop_Full
  | 1, 5, _, _ => T.sx_InvalidDrop_MissingDrop
  | 1, 6, _, _ => T.sx_InvalidDrop_Touching
  | 1, 7, _, _ => T.sx_InvalidDrop_OutOfGround
  | 1, 8, _, _ => T.sx_InvalidDrop_Overfull
  | 1, 9, _, _ => T.sx_InvalidDrop_InvalidCommand
  | 1, 10, _, _ => T.sx_InvalidDrop_TrialError
  | 1, 11, _, _ => T.sx_InvalidDrop_UnknownIndex
  | 2, 0, _, _ => T.sx_InvalidTime_InvalidNumber
  | 2, 1, _, _ => T.sx_InvalidTime_InvalidDrop
  | 2, 2, _, _ => T.ss_InvalidTime
  | 2, 3, _, _ => T.sx_InvalidTime_InvalidText
  | 2, 4, _, _ => T.sx_InvalidTime_Full
  | 2, 5, _, _ => T.sx_InvalidTime_MissingDrop
  | 2, 6, _, _ => T.sx_InvalidTime_Touching
  | 2, 7, _, _ => T.sx_InvalidTime_OutOfGround
  | 2, 8, _, _ => T.sx_InvalidTime_Overfull
  | 2, 9, _, _ => T.sx_InvalidTime_InvalidCommand
  | 2, 10, _, _ => T.sx_InvalidTime_TrialError
  | 2, 11, _, _ => T.sx_InvalidTime_UnknownIndex
  | 3, 0, _, _ => T.sx_InvalidText_InvalidNumber
  | 3, 1, _, _ => T.sx_InvalidText_InvalidDrop
  | 3, 2, _, _ => T.sx_InvalidText_InvalidTime
  | 3, 3, _, _ => T.ss_InvalidText
  | 3, 4, _, _ => T.sx_InvalidText_Full
  | 3, 5, _, _ => T.sx_InvalidText_MissingDrop
  | 3, 6, _, _ => T.sx_InvalidText_Touching
  | 3, 7, _, _ => T.sx_InvalidText_OutOfGround
  | 3, 8, _, _ => T.sx_InvalidText_Overfull
  | 3, 9, _, _ => T.sx_InvalidText_InvalidCommand
  | 3, 10, _, _ => T.sx_InvalidText_TrialError
  | 3, 11, _, _ => T.sx_InvalidText_UnknownIndex
  | 4, 0, _, _ => T.sx_Full_InvalidNumber
  | 4, 1, _, _ => T.sx_Full_InvalidDrop
  | 4, 2, _, _ => T.sx_Full_InvalidTime
  | 4, 3, _, _ => T.sx_Full_InvalidText
  | 4, 4, _, _ => T.ss_Full
  | 4, 5, _, _ => T.sx_Full_MissingDrop
  | 4, 6, _, _ => T.sx_Full_Touching
  | 4, 7, _, _ => T.sx_Full_OutOfGround
  | 4, 8, _, _ => T.sx_Full_Overfull
  | 4, 9, _, _ => T.sx_Full_InvalidCommand
  | 4, 10, _, _ => T.sx_Full_TrialError
  | 4, 11, _, _ => T.sx_Full_UnknownIndex
  | 5, 0, _, _ => T.sx_MissingDrop_InvalidNumber
  | 5, 1, _, _ => T.sx_MissingDrop_InvalidDrop
  | 5, 2, _, _ => T.sx_MissingDrop_InvalidTime
  | 5, 3, _, _ => T.sx_MissingDrop_InvalidText
  | 5, 4, _, _ => T.sx_MissingDrop_Full
  | 5, 5, _, _ => T.ss_MissingDrop
  | 5, 6, _, _ => T.sx_MissingDrop_Touching
  | 5, 7, _, _ => T.sx_MissingDrop_OutOfGround
  | 5, 8, _, _ => T.sx_MissingDrop_Overfull
  | 5, 9, _, _ => T.sx_MissingDrop_InvalidCommand
  | 5, 10, _, _ => T.sx_MissingDrop_TrialError
  | 5, 11, _, _ => T.sx_MissingDrop_UnknownIndex
  | 6, 0, _, _ => T.sx_Touching_InvalidNumber
  | 6, 1, _, _ => T.sx_Touching_InvalidDrop
  | 6, 2, _, _ => T.sx_Touching_InvalidTime
  | 6, 3, _, _ => T.sx_Touching_InvalidText
  | 6, 4, _, _ => T.sx_Touching_Full
  | 6, 5, _, _ => T.sx_Touching_MissingDrop
  | 6, 6, _, _ => T.ss_Touching
  | 6, 7, _, _ => T.sx_Touching_OutOfGround
  | 6, 8, _, _ => T.sx_Touching_Overfull
  | 6, 9, _, _ => T.sx_Touching_InvalidCommand
  | 6, 10, _, _ => T.sx_Touching_TrialError
  | 6, 11, _, _ => T.sx_Touching_UnknownIndex
  | 7, 0, _, _ => T.sx_OutOfGround_InvalidNumber
  | 7, 1, _, _ => T.sx_OutOfGround_InvalidDrop
  | 7, 2, _, _ => T.sx_OutOfGround_InvalidTime
  | 7, 3, _, _ => T.sx_OutOfGround_InvalidText
  | 7, 4, _, _ => T.sx_OutOfGround_Full
  | 7, 5, _, _ => T.sx_OutOfGround_MissingDrop
  | 7, 6, _, _ => T.sx_OutOfGround_Touching
  | 7, 7, _, _ => T.ss_OutOfGround
  | 7, 8, _, _ => T.sx_OutOfGround_Overfull
  | 7, 9, _, _ => T.sx_OutOfGround_InvalidCommand
  | 7, 10, _, _ => T.sx_OutOfGround_TrialError
  | 7, 11, _, _ => T.sx_OutOfGround_UnknownIndex
  | 8, 0, _, _ => T.sx_Overfull_InvalidNumber
  | 8, 1, _, _ => T.sx_Overfull_InvalidDrop
  | 8, 2, _, _ => T.sx_Overfull_InvalidTime
  | 8, 3, _, _ => T.sx_Overfull_InvalidText
  | 8, 4, _, _ => T.sx_Overfull_Full
  | 8, 5, _, _ => T.sx_Overfull_MissingDrop
  | 8, 6, _, _ => T.sx_Overfull_Touching
  | 8, 7, _, _ => T.sx_Overfull_OutOfGround
  | 8, 8, _, _ => T.ss_Overfull
  | 8, 9, _, _ => T.sx_Overfull_InvalidCommand
  | 8, 10, _, _ => T.sx_Overfull_TrialError
  | 8, 11, _, _ => T.sx_Overfull_UnknownIndex
  | 9, 0, _, _ => T.sx_InvalidCommand_InvalidNumber
  | 9, 1, _, _ => T.sx_InvalidCommand_InvalidDrop
  | 9, 2, _, _ => T.sx_InvalidCommand_InvalidTime
  | 9, 3, _, _ => T.sx_InvalidCommand_InvalidText
  | 9, 4, _, _ => T.sx_InvalidCommand_Full
  | 9, 5, _, _ => T.sx_InvalidCommand_MissingDrop
  | 9, 6, _, _ => T.sx_InvalidCommand_Touching
  | 9, 7, _, _ => T.sx_InvalidCommand_OutOfGround
  | 9, 8, _, _ => T.sx_InvalidCommand_Overfull
  | 9, 9, _, _ => T.ss_InvalidCommand
  | 9, 10, _, _ => T.sx_InvalidCommand_TrialError
  | 9, 11, _, _ => T.sx_InvalidCommand_UnknownIndex
  | 10, 0, _, _ => T.sx_TrialError_InvalidNumber
  | 10, 1, _, _ => T.sx_TrialError_InvalidDrop
  | 10, 2, _, _ => T.sx_TrialError_InvalidTime
  | 10, 3, _, _ => T.sx_TrialError_InvalidText
  | 10, 4, _, _ => T.sx_TrialError_Full
  | 10, 5, _, _ => T.sx_TrialError_MissingDrop
  | 10, 6, _, _ => T.sx_TrialError_Touching
  | 10, 7, _, _ => T.sx_TrialError_OutOfGround
  | 10, 8, _, _ => T.sx_TrialError_Overfull
  | 10, 9, _, _ => T.sx_TrialError_InvalidCommand
  | 10, 10, _, _ => T.ss_TrialError
  | 10, 11, _, _ => T.sx_TrialError_UnknownIndex
  | 11, 0, _, _ => T.sx_UnknownIndex_InvalidNumber
  | 11, 1, _, _ => T.sx_UnknownIndex_InvalidDrop
  | 11, 2, _, _ => T.sx_UnknownIndex_InvalidTime
  | 11, 3, _, _ => T.sx_UnknownIndex_InvalidText
  | 11, 4, _, _ => T.sx_UnknownIndex_Full
  | 11, 5, _, _ => T.sx_UnknownIndex_MissingDrop
  | 11, 6, _, _ => T.sx_UnknownIndex_Touching
  | 11, 7, _, _ => T.sx_UnknownIndex_OutOfGround
  | 11, 8, _, _ => T.sx_UnknownIndex_Overfull
  | 11, 9, _, _ => T.sx_UnknownIndex_InvalidCommand
  | 11, 10, _, _ => T.sx_UnknownIndex_TrialError
  | 11, 11, _, _ => T.ss_UnknownIndex
  | j + 12, _, h, _ => absurd h (by omega)
  | 0, k + 12, _, h => absurd h (by omega)
  | 1, k + 12, _, h => absurd h (by omega)
  | 2, k + 12, _, h => absurd h (by omega)
  | 3, k + 12, _, h => absurd h (by omega)
  | 4, k + 12, _, h => absurd h (by omega)
  | 5, k + 12, _, h => absurd h (by omega)
  | 6, k + 12, _, h => absurd h (by omega)
  | 7, k + 12, _, h => absurd h (by omega)
  | 8, k + 12, _, h => absurd h (by omega)
  | 9, k + 12, _, h => absurd h (by omega)
  | 10, k + 12, _, h => absurd h (by omega)
  | 11, k + 12, _, h => absurd h (by omega)
theorem errKit {K : PySem.W.Frag} {mg : Str → Option Value} (T : Txt K mg) {j k : Nat} (h1 : j < 12) (h2 : k < 12) : PySem.W.kitOne K (.ref (errC T j)) (.ref (errC T k)) = some (decide (j = k)) := kx_err (errIc T k h2) (errTy T k h2) (errSs T j h1) (errSx T j k h1 h2)
theorem errPe {K : PySem.W.Frag} {mg : Str → Option Value} (T : Txt K mg) : ∀ j, j < 12 → PySem.W.kitOne K (.ref (errC T j)) (.ref T.C_PoolError) = some (decide (j ≠ 11))
  | 0, _ => kx_err T.ic_PoolError T.ox_PoolError.tyC T.ss_InvalidNumber T.sx_InvalidNumber_PoolError
  | 1, _ => kx_err T.ic_PoolError T.ox_PoolError.tyC T.ss_InvalidDrop T.sx_InvalidDrop_PoolError
  | 2, _ => kx_err T.ic_PoolError T.ox_PoolError.tyC T.ss_InvalidTime T.sx_InvalidTime_PoolError
  | 3, _ => kx_err T.ic_PoolError T.ox_PoolError.tyC T.ss_InvalidText T.sx_InvalidText_PoolError
  | 4, _ => kx_err T.ic_PoolError T.ox_PoolError.tyC T.ss_Full T.sx_Full_PoolError
  | 5, _ => kx_err T.ic_PoolError T.ox_PoolError.tyC T.ss_MissingDrop T.sx_MissingDrop_PoolError
  | 6, _ => kx_err T.ic_PoolError T.ox_PoolError.tyC T.ss_Touching T.sx_Touching_PoolError
  | 7, _ => kx_err T.ic_PoolError T.ox_PoolError.tyC T.ss_OutOfGround T.sx_OutOfGround_PoolError
  | 8, _ => kx_err T.ic_PoolError T.ox_PoolError.tyC T.ss_Overfull T.sx_Overfull_PoolError
  | 9, _ => kx_err T.ic_PoolError T.ox_PoolError.tyC T.ss_InvalidCommand T.sx_InvalidCommand_PoolError
  | 10, _ => kx_err T.ic_PoolError T.ox_PoolError.tyC T.ss_TrialError T.sx_TrialError_PoolError
  | 11, _ => kx_err T.ic_PoolError T.ox_PoolError.tyC T.ss_UnknownIndex T.sx_UnknownIndex_PoolError
  | j + 12, h => absurd h (by omega)
theorem errValueError {K : PySem.W.Frag} {mg : Str → Option Value} (T : Txt K mg) : ∀ j, j < 12 → PySem.W.kitOne K (.ref (errC T j)) (.type "ValueError") = some (decide (j ≠ 11))
  | 0, _ => kit_of_own (by decide +kernel) T.xb_InvalidNumber_ValueError
  | 1, _ => kit_of_own (by decide +kernel) T.xb_InvalidDrop_ValueError
  | 2, _ => kit_of_own (by decide +kernel) T.xb_InvalidTime_ValueError
  | 3, _ => kit_of_own (by decide +kernel) T.xb_InvalidText_ValueError
  | 4, _ => kit_of_own (by decide +kernel) T.xb_Full_ValueError
  | 5, _ => kit_of_own (by decide +kernel) T.xb_MissingDrop_ValueError
  | 6, _ => kit_of_own (by decide +kernel) T.xb_Touching_ValueError
  | 7, _ => kit_of_own (by decide +kernel) T.xb_OutOfGround_ValueError
  | 8, _ => kit_of_own (by decide +kernel) T.xb_Overfull_ValueError
  | 9, _ => kit_of_own (by decide +kernel) T.xb_InvalidCommand_ValueError
  | 10, _ => kit_of_own (by decide +kernel) T.xb_TrialError_ValueError
  | 11, _ => kit_of_own (by decide +kernel) T.xb_UnknownIndex_ValueError
  | j + 12, h => absurd h (by omega)
theorem errIndexError {K : PySem.W.Frag} {mg : Str → Option Value} (T : Txt K mg) : ∀ j, j < 12 → PySem.W.kitOne K (.ref (errC T j)) (.type "IndexError") = some (decide (j = 11))
  | 0, _ => kit_of_own (by decide +kernel) T.xb_InvalidNumber_IndexError
  | 1, _ => kit_of_own (by decide +kernel) T.xb_InvalidDrop_IndexError
  | 2, _ => kit_of_own (by decide +kernel) T.xb_InvalidTime_IndexError
  | 3, _ => kit_of_own (by decide +kernel) T.xb_InvalidText_IndexError
  | 4, _ => kit_of_own (by decide +kernel) T.xb_Full_IndexError
  | 5, _ => kit_of_own (by decide +kernel) T.xb_MissingDrop_IndexError
  | 6, _ => kit_of_own (by decide +kernel) T.xb_Touching_IndexError
  | 7, _ => kit_of_own (by decide +kernel) T.xb_OutOfGround_IndexError
  | 8, _ => kit_of_own (by decide +kernel) T.xb_Overfull_IndexError
  | 9, _ => kit_of_own (by decide +kernel) T.xb_InvalidCommand_IndexError
  | 10, _ => kit_of_own (by decide +kernel) T.xb_TrialError_IndexError
  | 11, _ => kit_of_own (by decide +kernel) T.xb_UnknownIndex_IndexError
  | j + 12, h => absurd h (by omega)
theorem errKeyError {K : PySem.W.Frag} {mg : Str → Option Value} (T : Txt K mg) : ∀ j, j < 12 → PySem.W.kitOne K (.ref (errC T j)) (.type "KeyError") = some (false)
  | 0, _ => kit_of_own (by decide +kernel) T.xb_InvalidNumber_KeyError
  | 1, _ => kit_of_own (by decide +kernel) T.xb_InvalidDrop_KeyError
  | 2, _ => kit_of_own (by decide +kernel) T.xb_InvalidTime_KeyError
  | 3, _ => kit_of_own (by decide +kernel) T.xb_InvalidText_KeyError
  | 4, _ => kit_of_own (by decide +kernel) T.xb_Full_KeyError
  | 5, _ => kit_of_own (by decide +kernel) T.xb_MissingDrop_KeyError
  | 6, _ => kit_of_own (by decide +kernel) T.xb_Touching_KeyError
  | 7, _ => kit_of_own (by decide +kernel) T.xb_OutOfGround_KeyError
  | 8, _ => kit_of_own (by decide +kernel) T.xb_Overfull_KeyError
  | 9, _ => kit_of_own (by decide +kernel) T.xb_InvalidCommand_KeyError
  | 10, _ => kit_of_own (by decide +kernel) T.xb_TrialError_KeyError
  | 11, _ => kit_of_own (by decide +kernel) T.xb_UnknownIndex_KeyError
  | j + 12, h => absurd h (by omega)

/-! ### the law's values -/
structure ScD (K : PySem.W.Frag) (C : Addr) (v : V) (d : PyData) (t : Value) : Prop where
  dp : ∀ H, Dp K H v d
  ty : ∀ H, TyX K H v t
  k1 : PySem.W.kitOne K t (.type "tuple") = some false
  k2 : PySem.W.kitOne K t (.ref C) = some false
  sh : d.showable = true
  nd : d.hasDict = false
  dep : d.depth ≤ 60
  len : d.shown.length ≤ sizeLine
def Sc (K : PySem.W.Frag) (C : Addr) (H : Hp) (v : V) : Prop := (∃ d t, ScD K C v d t) ∨ ∃ p, v = .ref p ∧ RatAt C H p 3 4
theorem RatAt.butL' {C q p : Addr} {H H' : Hp} {a b : Int} {xs : List V} (h : RatAt C H q a b) (hl : H p = some (.lst xs)) (k : But p H H') : RatAt C H' q a b := let ⟨dx, e⟩ := h; ⟨dx, k _ _ (fun z => by rw [z, hl] at e; cases e) e⟩
theorem box_ne' {p q : Addr} {H : Hp} (hb : BoxAt H p) (hq : H q = none) : q ≠ p := fun z => by
  obtain ⟨_, _, _, e, _⟩ := hb
  rw [z, e] at hq; cases hq
theorem RatAt.bx' {C p q : Addr} {a b : Int} {H H' : Hp} (h : RatAt C H q a b) (hb : BoxAt H p) (k : But p H H') : RatAt C H' q a b := let ⟨_, _, _, e, _⟩ := hb; h.butL' e k
def Vt (K : PySem.W.Frag) (C : Addr) : Nat → Hp → V → Prop
  | 0, H, v => Sc K C H v
  | n + 1, H, v => Sc K C H v ∨ ∃ t xs, v = .ref t ∧ H t = some (.tup xs) ∧ xs.length ≤ 4 ∧ ∀ x ∈ xs, Vt K C n H x
section
variable {K : PySem.W.Frag} {C : Addr} {H H' : Hp} {v : V}
theorem Vt.keep (k1 : ∀ p, RatAt C H p 3 4 → RatAt C H' p 3 4) (k2 : ∀ t xs, H t = some (.tup xs) → H' t = some (.tup xs)) : ∀ {n : Nat} {v : V}, Vt K C n H v → Vt K C n H' v
  | 0, _, h => h.imp id fun ⟨p, e, r⟩ => ⟨p, e, k1 p r⟩
  | n + 1, _, h => by
    rcases h with h | ⟨t, xs, e, et, l, hx⟩
    · exact .inl (h.imp id fun ⟨p, e, r⟩ => ⟨p, e, k1 p r⟩)
    · exact .inr ⟨t, xs, e, k2 t xs et, l, fun x m => (hx x m).keep k1 k2⟩
theorem Vt.same {n : Nat} (h : Vt K C n H v) (s : Same H H') : Vt K C n H' v := h.keep (fun p r => r.same s) (fun t xs e => s _ _ e)
theorem Vt.butL {n : Nat} {p : Addr} {ys : List V} (h : Vt K C n H v) (hl : H p = some (.lst ys)) (k : But p H H') : Vt K C n H' v := h.keep (fun q r => r.butL' hl k) (fun t xs e => k _ _ (fun z => by rw [z, hl] at e; cases e) e)
theorem Vt.bx {n : Nat} {p : Addr} (h : Vt K C n H v) (hb : BoxAt H p) (k : But p H H') : Vt K C n H' v := let ⟨_, _, _, e, _⟩ := hb; h.butL e k
theorem Vt.up {n : Nat} (h : Sc K C H v) : Vt K C n H v := by
  cases n with
  | zero => exact h
  | succ n => exact .inl h
end
def spValue (K : PySem.W.Frag) (C : Addr) (n : Nat) : Sp := fun vs H Q _ => ∃ (p : Addr) (m : Nat), vs = [.ref p, .int m] ∧ BoxAt H p ∧ m ≤ n ∧ ∀ v H', BoxAt H' p → But p H H' → Vt K C n H' v → Q v H'
def spAlike (K : PySem.W.Frag) (C : Addr) (n : Nat) : Sp := fun vs H Q _ => ∃ v, vs = [v, v] ∧ Vt K C n H v ∧ ∀ H', Same H H' → Q (.bl true) H'
section
variable {P : Program} {w : World} {K : PySem.W.Frag} {mg : Str → Option Value} {base : Heap}
theorem scd_int (T : Txt K mg) {i : Int} (z : Sm i) : ScD K T.C_Ratio (.int i) (.int i) (.type "int") := ⟨fun _ => .int i, fun _ => .base (.int i), kit_ty (by decide +kernel), kit_ref T.tc_Ratio T.st_Ratio_int, decide_eq_true z, rfl, Nat.le_of_ble_eq_true rfl, line_le (by have := tx_len z; show (tx i).length ≤ _; omega)⟩
theorem scd_bl (T : Txt K mg) {b : Bool} : ScD K T.C_Ratio (.bl b) (.bool b) (.type "bool") := by
  refine ⟨fun _ => .bl b, fun _ => .base (.bl b), kit_ty (by decide +kernel), kit_ref T.tc_Ratio T.st_Ratio_bool, ?_, ?_, ?_, ?_⟩ <;> cases b <;> first | rfl | exact Nat.le_of_ble_eq_true rfl | exact line_le (by decide +kernel)
theorem scd_non (T : Txt K mg) : ScD K T.C_Ratio .non .none (.type "NoneType") := ⟨fun _ => .non, fun _ => .base .non, kit_ty (by decide +kernel), kit_ref T.tc_Ratio T.st_Ratio_NoneType, rfl, rfl, Nat.le_of_ble_eq_true rfl, line_le (by decide +kernel)⟩
theorem scd_str (T : Txt K mg) {s : Str} (h : s = "" ∨ s = "spot") : ScD K T.C_Ratio (.str s) (.str s) (.type "str") := by
  refine ⟨fun _ => .str s, fun _ => .base (.str s), kit_ty (by decide +kernel), kit_ref T.tc_Ratio T.st_Ratio_str, ?_, ?_, ?_, ?_⟩ <;> rcases h with rfl | rfl <;> first | rfl | decide +kernel | exact Nat.le_of_ble_eq_true rfl | exact line_le (by decide +kernel)
theorem ok_value (T : Txt K mg) : ∀ n, FnOk P w K mg base CX0 (8 + n) T.f_lw_value T.d_lw_value ["_law_box_here", "_law_deep"] (spValue K T.C_Ratio n)
  | 0 => by
    have nd := sc_lw_value.nd
    obtain ⟨its2, kb2⟩ := kb_init2 T
    have MQ : Mk K T.C_Ratio T.f_Ratio_init_d := ⟨T.mk_Ratio, T.m_Ratio_init_d.at_, T.m_Ratio_init_d.fn, T.kp_Ratio⟩
    refine FnOk.mono (T.F_lw_value.ok (k := 7) sc_lw_value (fun vs H Q E ⟨_, _, e, _⟩ => by rw [e]; rfl) (fun cdv A outer s H vs Q E hr h => ?_)) (by omega)
    obtain ⟨p, m, rfl, hb, hm, fin⟩ := h
    refine ⟨_, (pss_cons (ps_set (i := 2) nd rfl (.inl rfl) (pe_f (E := fun _ => E0) (ok_take T) (hr.mono (by omega)) (by rfl) T.g_lw_take T.F_lw_take.kp T.B_lw_take (fun _ => at0) (pa_cons (pv 0) (pa_cons pe_int pa_nil))))
      (pss_cons (ps_if (PW.pt (pw_and (pt_cmpR op_lt (pv 2) pe_int (nomark _)) (pw_and1 (pt_cmpR op_gt (pv 1) pe_int (nomark _))))) pss_never pss_nil)
      (pss_cons (ps_set (i := 4) nd rfl (.inl rfl) (pe_lst (by exact (pa_cons pe_int (pa_cons (pe_op op_sub pe_int pe_int) (pa_cons (pe_op op_pow pe_int pe_int) (pa_cons pe_str (pa_cons pe_str (pa_cons pe_non (pa_cons pe_bl (pa_cons pe_bl (pa_cons (pe_mkP (n := 2) (E := fun _ => E0) MQ (ok_init T) (hr.mono (by omega)) (by rfl) T.g_Ratio kb2 (fun _ => atL) (pa_cons pe_int (pa_cons pe_int pa_nil))) (pa_cons pe_int pa_nil)))))))))))))
      (pss_one (ps_ret (pe_ix ix_list (pv 4) (pe_f (E := fun _ => E0) (ok_take T) (hr.mono (by omega)) (by rfl) T.g_lw_take T.F_lw_take.kp T.B_lw_take (fun _ => at0) (pa_cons (pv 0) (pa_cons pe_int pa_nil))) (fun _ _ => rfl))))))), ?_⟩
    refine ⟨_, rfl, p, 9, rfl, hb, by decide, by decide, fun d nn sd c d0 d1 hb1 => ?_⟩
    have k1 : But p H (upd H p (BoxL nn sd c)) := But.upd
    generalize upd H p (BoxL nn sd c) = G1 at *
    have m0 : m = 0 := by omega
    subst m0
    refine ⟨_, rfl, _, _, rfl, rfl, _, rfl, ite2 (fun c => ⟨_, rfl, _, _, rfl, rfl, _, rfl, ite2 (fun c2 => absurd (of_decide_eq_true c2) (by decide)) (fun c2 => ?_)⟩) (fun c => ?_)⟩
    · refine ⟨_, _, rfl, rfl, _, _, rfl, rfl, ⟨by decide, by decide, by decide⟩, rfl, fun r dr nr ndr _ => made_at (by decide) (by decide) nr ndr fun G2 s2 rr => ⟨rfl, (by show 10 ≤ sizeLine; decide), fun l hl => ?_⟩⟩
      have rr : RatAt T.C_Ratio G2 r 3 4 := rr
      have s3 := same_upd (o := .lst [.int 0, .int (0 - 7), .int (10 ^ (40 : Int).toNat), .str "", .str "spot", .non, .bl true, .bl false, .ref r, .int 1]) hl
      have el : (upd G2 l (.lst [.int 0, .int (0 - 7), .int (10 ^ (40 : Int).toNat), .str "", .str "spot", .non, .bl true, .bl false, .ref r, .int 1])) l = some (.lst [.int 0, .int (0 - 7), .int (10 ^ (40 : Int).toNat), .str "", .str "spot", .non, .bl true, .bl false, .ref r, .int 1]) := upd_same
      have hb3 := (hb1.same s2).same s3
      have nlp : l ≠ p := box_ne' (hb1.same s2) hl
      have k3 := k1.trans (But.of (s2.trans s3))
      have r3 := rr.same s3
      generalize upd G2 l (.lst [.int 0, .int (0 - 7), .int (10 ^ (40 : Int).toNat), .str "", .str "spot", .non, .bl true, .bl false, .ref r, .int 1]) = G3 at *
      refine ⟨_, rfl, _, rfl, p, 10, rfl, hb3, by decide, by decide, fun e nn2 sd2 c2 e0 e1 hb4 => ?_⟩
      have k4 : But p G3 (upd G3 p (BoxL nn2 sd2 c2)) := But.upd
      have el4 := k4 _ _ nlp el
      have r4 := (RatAt.bx' r3 hb3 k4)
      generalize upd G3 p (BoxL nn2 sd2 c2) = G4 at *
      obtain ⟨v, hv, hsc⟩ : ∃ v, atI ([.int 0, .int (0 - 7), .int (10 ^ (40 : Int).toNat), .str "", .str "spot", .non, .bl true, .bl false, .ref r, .int 1] : List V) e = some v ∧ Sc K T.C_Ratio G4 v := by
        obtain rfl | rfl | rfl | rfl | rfl | rfl | rfl | rfl | rfl | rfl : e = 0 ∨ e = 1 ∨ e = 2 ∨ e = 3 ∨ e = 4 ∨ e = 5 ∨ e = 6 ∨ e = 7 ∨ e = 8 ∨ e = 9 := by omega
        · exact ⟨_, rfl, .inl ⟨_, _, scd_int T (by show _ < 1920; decide +kernel)⟩⟩
        · exact ⟨_, rfl, .inl ⟨_, _, scd_int T (by show _ < 1920; decide +kernel)⟩⟩
        · exact ⟨_, rfl, .inl ⟨_, _, scd_int T (by show _ < 1920; decide +kernel)⟩⟩
        · exact ⟨_, rfl, .inl ⟨_, _, scd_str T (.inl rfl)⟩⟩
        · exact ⟨_, rfl, .inl ⟨_, _, scd_str T (.inr rfl)⟩⟩
        · exact ⟨_, rfl, .inl ⟨_, _, scd_non T⟩⟩
        · exact ⟨_, rfl, .inl ⟨_, _, scd_bl T⟩⟩
        · exact ⟨_, rfl, .inl ⟨_, _, scd_bl T⟩⟩
        · exact ⟨_, rfl, .inr ⟨_, rfl, r4⟩⟩
        · exact ⟨_, rfl, .inl ⟨_, _, scd_int T (by show _ < 1920; decide +kernel)⟩⟩
      exact ⟨l, _, _, v, rfl, rfl, SqL.of el4, hv, fin v G4 hb4 (k3.trans k4) (Vt.up hsc)⟩
    · refine ⟨_, _, rfl, rfl, _, _, rfl, rfl, ⟨by decide, by decide, by decide⟩, rfl, fun r dr nr ndr _ => made_at (by decide) (by decide) nr ndr fun G2 s2 rr => ⟨rfl, (by show 10 ≤ sizeLine; decide), fun l hl => ?_⟩⟩
      have rr : RatAt T.C_Ratio G2 r 3 4 := rr
      have s3 := same_upd (o := .lst [.int 0, .int (0 - 7), .int (10 ^ (40 : Int).toNat), .str "", .str "spot", .non, .bl true, .bl false, .ref r, .int 1]) hl
      have el : (upd G2 l (.lst [.int 0, .int (0 - 7), .int (10 ^ (40 : Int).toNat), .str "", .str "spot", .non, .bl true, .bl false, .ref r, .int 1])) l = some (.lst [.int 0, .int (0 - 7), .int (10 ^ (40 : Int).toNat), .str "", .str "spot", .non, .bl true, .bl false, .ref r, .int 1]) := upd_same
      have hb3 := (hb1.same s2).same s3
      have nlp : l ≠ p := box_ne' (hb1.same s2) hl
      have k3 := k1.trans (But.of (s2.trans s3))
      have r3 := rr.same s3
      generalize upd G2 l (.lst [.int 0, .int (0 - 7), .int (10 ^ (40 : Int).toNat), .str "", .str "spot", .non, .bl true, .bl false, .ref r, .int 1]) = G3 at *
      refine ⟨_, rfl, _, rfl, p, 10, rfl, hb3, by decide, by decide, fun e nn2 sd2 c2 e0 e1 hb4 => ?_⟩
      have k4 : But p G3 (upd G3 p (BoxL nn2 sd2 c2)) := But.upd
      have el4 := k4 _ _ nlp el
      have r4 := (RatAt.bx' r3 hb3 k4)
      generalize upd G3 p (BoxL nn2 sd2 c2) = G4 at *
      obtain ⟨v, hv, hsc⟩ : ∃ v, atI ([.int 0, .int (0 - 7), .int (10 ^ (40 : Int).toNat), .str "", .str "spot", .non, .bl true, .bl false, .ref r, .int 1] : List V) e = some v ∧ Sc K T.C_Ratio G4 v := by
        obtain rfl | rfl | rfl | rfl | rfl | rfl | rfl | rfl | rfl | rfl : e = 0 ∨ e = 1 ∨ e = 2 ∨ e = 3 ∨ e = 4 ∨ e = 5 ∨ e = 6 ∨ e = 7 ∨ e = 8 ∨ e = 9 := by omega
        · exact ⟨_, rfl, .inl ⟨_, _, scd_int T (by show _ < 1920; decide +kernel)⟩⟩
        · exact ⟨_, rfl, .inl ⟨_, _, scd_int T (by show _ < 1920; decide +kernel)⟩⟩
        · exact ⟨_, rfl, .inl ⟨_, _, scd_int T (by show _ < 1920; decide +kernel)⟩⟩
        · exact ⟨_, rfl, .inl ⟨_, _, scd_str T (.inl rfl)⟩⟩
        · exact ⟨_, rfl, .inl ⟨_, _, scd_str T (.inr rfl)⟩⟩
        · exact ⟨_, rfl, .inl ⟨_, _, scd_non T⟩⟩
        · exact ⟨_, rfl, .inl ⟨_, _, scd_bl T⟩⟩
        · exact ⟨_, rfl, .inl ⟨_, _, scd_bl T⟩⟩
        · exact ⟨_, rfl, .inr ⟨_, rfl, r4⟩⟩
        · exact ⟨_, rfl, .inl ⟨_, _, scd_int T (by show _ < 1920; decide +kernel)⟩⟩
      exact ⟨l, _, _, v, rfl, rfl, SqL.of el4, hv, fin v G4 hb4 (k3.trans k4) (Vt.up hsc)⟩
  | n + 1 => by
    have ih := ok_value T n
    have nd := sc_lw_value.nd
    obtain ⟨its2, kb2⟩ := kb_init2 T
    have MQ : Mk K T.C_Ratio T.f_Ratio_init_d := ⟨T.mk_Ratio, T.m_Ratio_init_d.at_, T.m_Ratio_init_d.fn, T.kp_Ratio⟩
    refine T.F_lw_value.ok (k := 8 + n) sc_lw_value (fun vs H Q E ⟨_, _, e, _⟩ => by rw [e]; rfl) (fun cdv A outer s H vs Q E hr h => ?_)
    obtain ⟨p, m, rfl, hb, hm, fin⟩ := h
    refine ⟨_, (pss_cons (ps_set (i := 2) nd rfl (.inl rfl) (pe_f (E := fun _ => E0) (ok_take T) (hr.mono (by omega)) (by rfl) T.g_lw_take T.F_lw_take.kp T.B_lw_take (fun _ => at0) (pa_cons (pv 0) (pa_cons pe_int pa_nil))))
      (pss_cons (ps_if (PW.pt (pw_and (pt_cmpR op_lt (pv 2) pe_int (nomark _)) (pw_and1 (pt_cmpR op_gt (pv 1) pe_int (nomark _))))) (pss_one (ps_ret (pe_callTy call_tuple_of (by rfl) T.b_tuple (by decide +kernel) (pa_cons (pe_lc (own := [("_law_turn", 3)]) (g := gName 3) (tt := tYes) (te := tCl (spValue K T.C_Ratio n) (fun _ => E0) (tCons (tVar 0) (tCons (tOp (rI0 fun i j => .int (i - j)) (tVar 1) (tC (.int 1))) tNil))) rfl nd (pi_range1 (by rfl) T.b_range (pa_cons (pe_f (E := fun _ => E0) (ok_take T) (hr.mono (by omega)) (by rfl) T.g_lw_take T.F_lw_take.kp T.B_lw_take (fun _ => at0) (pa_cons (pv 0) (pa_cons pe_int pa_nil))) pa_nil)) (blkOk_by (own := [("_law_turn", 3)]) (N := ["_law_box_here", "_law_deep", "_law_form", "_law_turn", "_law_some"]) (sc := defScope s_lw_value) (by decide +kernel)) (fun _ _ _ _ _ => (pg_name (i := 3) nd rfl (.inl rfl))) (fun _ _ _ _ _ => pts_nil) (fun _ _ _ _ _ => (pe_f (E := fun _ => E0) ih hr (by rfl) T.g_lw_value T.F_lw_value.kp T.B_lw_value (fun _ => at0) (pa_cons (pv 0) (pa_cons (pe_op op_sub (pv 1) pe_int) pa_nil))))) pa_nil)))) pss_nil)
      (pss_cons (ps_set (i := 4) nd rfl (.inl rfl) (pe_lst (by exact (pa_cons pe_int (pa_cons (pe_op op_sub pe_int pe_int) (pa_cons (pe_op op_pow pe_int pe_int) (pa_cons pe_str (pa_cons pe_str (pa_cons pe_non (pa_cons pe_bl (pa_cons pe_bl (pa_cons (pe_mkP (n := 2) (E := fun _ => E0) MQ (ok_init T) (hr.mono (by omega)) (by rfl) T.g_Ratio kb2 (fun _ => atL) (pa_cons pe_int (pa_cons pe_int pa_nil))) (pa_cons pe_int pa_nil)))))))))))))
      (pss_one (ps_ret (pe_ix ix_list (pv 4) (pe_f (E := fun _ => E0) (ok_take T) (hr.mono (by omega)) (by rfl) T.g_lw_take T.F_lw_take.kp T.B_lw_take (fun _ => at0) (pa_cons (pv 0) (pa_cons pe_int pa_nil))) (fun _ _ => rfl))))))), ?_⟩
    refine ⟨_, rfl, p, 9, rfl, hb, by decide, by decide, fun d nn sd c d0 d1 hb1 => ?_⟩
    have k1 : But p H (upd H p (BoxL nn sd c)) := But.upd
    generalize upd H p (BoxL nn sd c) = G1 at *
    refine ⟨_, rfl, _, _, rfl, rfl, _, rfl, ite2 (fun c => ⟨_, rfl, _, _, rfl, rfl, _, rfl, ite2 (fun c2 => ?_) (fun c2 => ?_)⟩) (fun c => ?_)⟩
    · have c2 : (m : Int) > 0 := of_decide_eq_true c2
      refine ⟨_, rfl, p, 5, rfl, hb1, by decide, by decide, fun q nn2 sd2 cc q0 q1 hb2 => ?_⟩
      have k2 := k1.trans (But.upd (p := p) (o := BoxL nn2 sd2 cc))
      generalize upd G1 p (BoxL nn2 sd2 cc) = G2 at *
      refine ⟨_, rfl, by omega, by omega, fun D hD => lc_range (lo := 0) (n := q.toNat) (fun k G => (BoxAt G p ∧ But p G2 G) ∧ ∃ xs : List V, xs.length = k ∧ G D = some (.lst xs) ∧ ∀ x ∈ xs, Vt K T.C_Ratio n G x) ⟨⟨hb2.same (same_upd hD), But.of (same_upd hD)⟩, [], rfl, upd_same, fun x hx => nomatch hx⟩ ?_ ?_⟩
      · rintro k G hk ⟨⟨hbG, kG⟩, xs, lx, eD, hx⟩
        have nDp : D ≠ p := box_ne' hb2 hD
        refine ⟨rfl, ?_⟩
        unfold tYes
        refine iteT ⟨_, rfl, _, rfl, _, _, rfl, rfl, p, m - 1, by show [V.ref p, V.int ((m : Int) - 1)] = _; rw [show (m : Int) - 1 = ((m - 1 : Nat) : Int) by omega], hbG, by omega, fun v G4 hb4 k4 hv => ?_⟩
        have eD4 := k4 _ _ nDp eD
        have kb : But D G4 (upd G4 D (.lst (xs ++ [v]))) := But.upd
        refine ⟨xs, eD4, small1000 (by omega), ⟨(let ⟨n', s', c', e', r'⟩ := hb4; ⟨n', s', c', kb _ _ (Ne.symm nDp) e', r'⟩), fun a o n1 e => ?_⟩, xs ++ [v], by rw [List.length_append, lx]; rfl, upd_same, fun x m1 => ?_⟩
        · rw [upd_ne (ne_of_none e hD)]
          exact k4 _ _ n1 (kG _ _ n1 e)
        · rcases List.mem_append.mp m1 with m1 | m1
          · exact ((hx x m1).bx hbG k4).butL eD4 kb
          · rw [List.mem_singleton.mp m1]
            exact hv.butL eD4 kb
      rintro G3 ⟨⟨hb3, k3⟩, xs, lx, eD, hx⟩
      refine ⟨D, _, rfl, .inl ⟨SqL.of eD, fun t ht => ?_⟩⟩
      have st := same_upd (o := .tup xs) ht
      exact fin _ _ (hb3.same st) ((k2.trans k3).trans (But.of st)) (.inr ⟨t, xs, rfl, upd_same, by omega, fun x m1 => (hx x m1).same st⟩)
    · refine ⟨_, _, rfl, rfl, _, _, rfl, rfl, ⟨by decide, by decide, by decide⟩, rfl, fun r dr nr ndr _ => made_at (by decide) (by decide) nr ndr fun G2 s2 rr => ⟨rfl, (by show 10 ≤ sizeLine; decide), fun l hl => ?_⟩⟩
      have rr : RatAt T.C_Ratio G2 r 3 4 := rr
      have s3 := same_upd (o := .lst [.int 0, .int (0 - 7), .int (10 ^ (40 : Int).toNat), .str "", .str "spot", .non, .bl true, .bl false, .ref r, .int 1]) hl
      have el : (upd G2 l (.lst [.int 0, .int (0 - 7), .int (10 ^ (40 : Int).toNat), .str "", .str "spot", .non, .bl true, .bl false, .ref r, .int 1])) l = some (.lst [.int 0, .int (0 - 7), .int (10 ^ (40 : Int).toNat), .str "", .str "spot", .non, .bl true, .bl false, .ref r, .int 1]) := upd_same
      have hb3 := (hb1.same s2).same s3
      have nlp : l ≠ p := box_ne' (hb1.same s2) hl
      have k3 := k1.trans (But.of (s2.trans s3))
      have r3 := rr.same s3
      generalize upd G2 l (.lst [.int 0, .int (0 - 7), .int (10 ^ (40 : Int).toNat), .str "", .str "spot", .non, .bl true, .bl false, .ref r, .int 1]) = G3 at *
      refine ⟨_, rfl, _, rfl, p, 10, rfl, hb3, by decide, by decide, fun e nn2 sd2 c2 e0 e1 hb4 => ?_⟩
      have k4 : But p G3 (upd G3 p (BoxL nn2 sd2 c2)) := But.upd
      have el4 := k4 _ _ nlp el
      have r4 := (RatAt.bx' r3 hb3 k4)
      generalize upd G3 p (BoxL nn2 sd2 c2) = G4 at *
      obtain ⟨v, hv, hsc⟩ : ∃ v, atI ([.int 0, .int (0 - 7), .int (10 ^ (40 : Int).toNat), .str "", .str "spot", .non, .bl true, .bl false, .ref r, .int 1] : List V) e = some v ∧ Sc K T.C_Ratio G4 v := by
        obtain rfl | rfl | rfl | rfl | rfl | rfl | rfl | rfl | rfl | rfl : e = 0 ∨ e = 1 ∨ e = 2 ∨ e = 3 ∨ e = 4 ∨ e = 5 ∨ e = 6 ∨ e = 7 ∨ e = 8 ∨ e = 9 := by omega
        · exact ⟨_, rfl, .inl ⟨_, _, scd_int T (by show _ < 1920; decide +kernel)⟩⟩
        · exact ⟨_, rfl, .inl ⟨_, _, scd_int T (by show _ < 1920; decide +kernel)⟩⟩
        · exact ⟨_, rfl, .inl ⟨_, _, scd_int T (by show _ < 1920; decide +kernel)⟩⟩
        · exact ⟨_, rfl, .inl ⟨_, _, scd_str T (.inl rfl)⟩⟩
        · exact ⟨_, rfl, .inl ⟨_, _, scd_str T (.inr rfl)⟩⟩
        · exact ⟨_, rfl, .inl ⟨_, _, scd_non T⟩⟩
        · exact ⟨_, rfl, .inl ⟨_, _, scd_bl T⟩⟩
        · exact ⟨_, rfl, .inl ⟨_, _, scd_bl T⟩⟩
        · exact ⟨_, rfl, .inr ⟨_, rfl, r4⟩⟩
        · exact ⟨_, rfl, .inl ⟨_, _, scd_int T (by show _ < 1920; decide +kernel)⟩⟩
      exact ⟨l, _, _, v, rfl, rfl, SqL.of el4, hv, fin v G4 hb4 (k3.trans k4) (Vt.up hsc)⟩
    · refine ⟨_, _, rfl, rfl, _, _, rfl, rfl, ⟨by decide, by decide, by decide⟩, rfl, fun r dr nr ndr _ => made_at (by decide) (by decide) nr ndr fun G2 s2 rr => ⟨rfl, (by show 10 ≤ sizeLine; decide), fun l hl => ?_⟩⟩
      have rr : RatAt T.C_Ratio G2 r 3 4 := rr
      have s3 := same_upd (o := .lst [.int 0, .int (0 - 7), .int (10 ^ (40 : Int).toNat), .str "", .str "spot", .non, .bl true, .bl false, .ref r, .int 1]) hl
      have el : (upd G2 l (.lst [.int 0, .int (0 - 7), .int (10 ^ (40 : Int).toNat), .str "", .str "spot", .non, .bl true, .bl false, .ref r, .int 1])) l = some (.lst [.int 0, .int (0 - 7), .int (10 ^ (40 : Int).toNat), .str "", .str "spot", .non, .bl true, .bl false, .ref r, .int 1]) := upd_same
      have hb3 := (hb1.same s2).same s3
      have nlp : l ≠ p := box_ne' (hb1.same s2) hl
      have k3 := k1.trans (But.of (s2.trans s3))
      have r3 := rr.same s3
      generalize upd G2 l (.lst [.int 0, .int (0 - 7), .int (10 ^ (40 : Int).toNat), .str "", .str "spot", .non, .bl true, .bl false, .ref r, .int 1]) = G3 at *
      refine ⟨_, rfl, _, rfl, p, 10, rfl, hb3, by decide, by decide, fun e nn2 sd2 c2 e0 e1 hb4 => ?_⟩
      have k4 : But p G3 (upd G3 p (BoxL nn2 sd2 c2)) := But.upd
      have el4 := k4 _ _ nlp el
      have r4 := (RatAt.bx' r3 hb3 k4)
      generalize upd G3 p (BoxL nn2 sd2 c2) = G4 at *
      obtain ⟨v, hv, hsc⟩ : ∃ v, atI ([.int 0, .int (0 - 7), .int (10 ^ (40 : Int).toNat), .str "", .str "spot", .non, .bl true, .bl false, .ref r, .int 1] : List V) e = some v ∧ Sc K T.C_Ratio G4 v := by
        obtain rfl | rfl | rfl | rfl | rfl | rfl | rfl | rfl | rfl | rfl : e = 0 ∨ e = 1 ∨ e = 2 ∨ e = 3 ∨ e = 4 ∨ e = 5 ∨ e = 6 ∨ e = 7 ∨ e = 8 ∨ e = 9 := by omega
        · exact ⟨_, rfl, .inl ⟨_, _, scd_int T (by show _ < 1920; decide +kernel)⟩⟩
        · exact ⟨_, rfl, .inl ⟨_, _, scd_int T (by show _ < 1920; decide +kernel)⟩⟩
        · exact ⟨_, rfl, .inl ⟨_, _, scd_int T (by show _ < 1920; decide +kernel)⟩⟩
        · exact ⟨_, rfl, .inl ⟨_, _, scd_str T (.inl rfl)⟩⟩
        · exact ⟨_, rfl, .inl ⟨_, _, scd_str T (.inr rfl)⟩⟩
        · exact ⟨_, rfl, .inl ⟨_, _, scd_non T⟩⟩
        · exact ⟨_, rfl, .inl ⟨_, _, scd_bl T⟩⟩
        · exact ⟨_, rfl, .inl ⟨_, _, scd_bl T⟩⟩
        · exact ⟨_, rfl, .inr ⟨_, rfl, r4⟩⟩
        · exact ⟨_, rfl, .inl ⟨_, _, scd_int T (by show _ < 1920; decide +kernel)⟩⟩
      exact ⟨l, _, _, v, rfl, rfl, SqL.of el4, hv, fin v G4 hb4 (k3.trans k4) (Vt.up hsc)⟩
end

/-! ### alike: a value is alike itself -/
theorem rep_snoc' (k : Nat) : (List.replicate k true).map V.bl ++ [V.bl true] = (List.replicate (k + 1) true).map V.bl := by
  rw [show List.replicate (k + 1) true = List.replicate k true ++ [true] from List.replicate_succ', List.map_append]; rfl
theorem rep_all' (k : Nat) : (List.replicate k true).all id = true := by
  rw [List.all_eq_true]
  intro x hx
  rw [(List.mem_replicate.mp hx).2]; rfl
theorem eq_same {x : V} {H : Hp} {Q : VK} (s : scal x x = true) (q : Q (.bl true) H) : rEq x x H Q := ⟨s, by rw [decide_eq_true rfl]; exact q⟩
theorem ne_same {x : V} {H : Hp} {Q : VK} (s : scal x x = true) (q : Q (.bl false) H) : rNe x x H Q := ⟨s, by rw [decide_eq_true rfl]; exact q⟩
section
variable {P : Program} {w : World} {K : PySem.W.Frag} {mg : Str → Option Value} {base : Heap}
theorem ok_alike (T : Txt K mg) : ∀ n, FnG P w K mg base CX0 (8 + n) T.f_lw_alike T.d_lw_alike ["_law_found", "_law_due"] (spAlike K T.C_Ratio n)
  | 0 => by
    have nd := sc_lw_alike.nd
    refine FnG.mono (j := 7 + 1) (go0 T.F_lw_alike sc_lw_alike (fun vs H Q E ⟨_, e, _⟩ => by rw [e]; rfl) (fun cdv A outer s H vs Q E gg hr h => ?_)) (by omega)
    obtain ⟨v, rfl, hv, fin⟩ := h
    refine ⟨_, (pss_cons (ps_if (pt_val (pe_callB call_isi (by rfl) T.b_isinstance (by decide +kernel) (pa_cons (pv 1) (pa_cons (pe_bltn (v := .ty "tuple") (u := .type "tuple") (by rfl) T.b_tuple (by decide +kernel) rfl) pa_nil)))) pss_never pss_nil)
      (pss_cons (ps_if (pt_val (pe_callB call_isi (by rfl) T.b_isinstance (by decide +kernel) (pa_cons (pv 1) (pa_cons (pe_glob (v := .ref T.C_Ratio) (by rfl) T.g_Ratio rfl) pa_nil)))) (pss_one (ps_ret (pe_and (pe_callB call_isi (by rfl) T.b_isinstance (by decide +kernel) (pa_cons (pv 0) (pa_cons (pe_glob (v := .ref T.C_Ratio) (by rfl) T.g_Ratio rfl) pa_nil))) (pe_one (pe_cmpR (op_eqD hr.units) (pe_tup (by exact (pa_cons (pe_fld (pv 0) rfl) (pa_cons (pe_fld (pv 0) rfl) pa_nil)))) (pe_tup (by exact (pa_cons (pe_fld (pv 1) rfl) (pa_cons (pe_fld (pv 1) rfl) pa_nil)))) (nomark _)))))) pss_nil)
      (pss_one (ps_ret (pe_and (pe_not (pe_callB call_isiT (by rfl) T.b_isinstance (by decide +kernel) (pa_cons (pv 0) (pa_cons (pe_tup (pa_cons (pe_bltn (v := .ty "tuple") (u := .type "tuple") (by rfl) T.b_tuple (by decide +kernel) rfl) (pa_cons (pe_glob (v := .ref T.C_Ratio) (by rfl) T.g_Ratio rfl) pa_nil))) pa_nil)))) (pe_one (pe_cmpR op_eq (pe_callB (call_reprD gg hr) (by rfl) T.b_repr (by decide +kernel) (pa_cons (pv 0) pa_nil)) (pe_callB (call_reprD gg hr) (by rfl) T.b_repr (by decide +kernel) (pa_cons (pv 1) pa_nil)) (nomark _)))))))), ?_⟩
    rcases hv with ⟨d, t, z⟩ | ⟨p, rfl, dx, e⟩
    · refine ⟨_, rfl, v, _, t, _, false, rfl, .ty _, z.ty H, z.k1, false, rfl, iteF ?_⟩
      refine ⟨_, rfl, v, _, t, _, false, rfl, .own _, z.ty H, z.k2, false, rfl, iteF ?_⟩
      refine ⟨_, rfl, (by show 2 ≤ sizeLine; decide), fun p hp => ?_⟩
      have sm : Same H (upd H p (.tup [.ty "tuple", .ref T.C_Ratio])) := same_upd hp
      have two : Paired ClsV [V.ty "tuple", V.ref T.C_Ratio] [Value.type "tuple", Value.ref T.C_Ratio] := .cons (.ty _) (.cons (.own _) .nil)
      refine ⟨v, p, _, t, _, false, rfl, upd_same, two, z.ty _, any2 z.k1 z.k2, false, rfl, _, rfl, iteT ?_⟩
      refine ⟨_, rfl, v, d, rfl, z.dp _, z.sh, z.nd, z.dep, z.len, _, rfl, v, d, rfl, z.dp _, z.sh, z.nd, z.dep, z.len, eq_same rfl (fin _ sm)⟩
    · refine ⟨_, rfl, _, _, .ref T.C_Ratio, _, false, rfl, .ty _, tyx_ins T.cl_Ratio T.tc_Ratio e, kit_of_own (t := "tuple") (by decide +kernel) T.su_Ratio_tuple, false, rfl, iteF ?_⟩
      refine ⟨_, rfl, _, _, .ref T.C_Ratio, _, true, rfl, .own _, tyx_ins T.cl_Ratio T.tc_Ratio e, kit_self, true, rfl, iteT ?_⟩
      refine ⟨_, rfl, _, _, .ref T.C_Ratio, _, true, rfl, .own _, tyx_ins T.cl_Ratio T.tc_Ratio e, kit_self, true, rfl, iteT ?_⟩
      refine ⟨_, rfl, p, _, dx, _, _, rfl, e, T.cl_Ratio, T.n_Ratio_top, rfs_top 3 4, _, rfl, p, _, dx, _, _, rfl, e, T.cl_Ratio, T.n_Ratio_bottom, rfs_bot 3 4, (by show 2 ≤ sizeLine; decide), fun t1 h1 => ?_⟩
      have s1 := same_upd (o := .tup [.int 3, .int 4]) h1
      have e' := s1 _ _ e
      refine ⟨_, rfl, p, _, dx, _, _, rfl, e', T.cl_Ratio, T.n_Ratio_top, rfs_top 3 4, _, rfl, p, _, dx, _, _, rfl, e', T.cl_Ratio, T.n_Ratio_bottom, rfs_bot 3 4, (by show 2 ≤ sizeLine; decide), fun t2 h2 => ?_⟩
      have s2 := same_upd (o := .tup [.int 3, .int 4]) h2
      refine ⟨.tuple [.int 3, .int 4], .tuple [.int 3, .int 4], .tup (SqT.of (s2 _ _ upd_same)) (.cons (.int 3) (.cons (.int 4) .nil)), .tup (SqT.of upd_same) (.cons (.int 3) (.cons (.int 4) .nil)), rfl, rfl, ?_⟩
      rw [SeqAt.eqv_refl _ rfl]
      exact fin _ (s1.trans s2)
  | n + 1 => by
    have ih := ok_alike T n
    have nd := sc_lw_alike.nd
    refine go0 T.F_lw_alike sc_lw_alike (fun vs H Q E ⟨_, e, _⟩ => by rw [e]; rfl) (fun cdv A outer s H vs Q E gg hr h => ?_)
    obtain ⟨v, rfl, hv, fin⟩ := h
    refine ⟨_, (pss_cons (ps_if (pt_val (pe_callB call_isi (by rfl) T.b_isinstance (by decide +kernel) (pa_cons (pv 1) (pa_cons (pe_bltn (v := .ty "tuple") (u := .type "tuple") (by rfl) T.b_tuple (by decide +kernel) rfl) pa_nil)))) (pss_cons (ps_if (PW.pt (pw_or (pt_not (pt_val (pe_callB call_isi (by rfl) T.b_isinstance (by decide +kernel) (pa_cons (pv 0) (pa_cons (pe_bltn (v := .ty "tuple") (u := .type "tuple") (by rfl) T.b_tuple (by decide +kernel) rfl) pa_nil))))) (pw_or1 (pt_cmpR op_ne (pe_callB call_len_seq (by rfl) T.b_len PySem.boot_len (pa_cons (pv 0) pa_nil)) (pe_callB call_len_seq (by rfl) T.b_len PySem.boot_len (pa_cons (pv 1) pa_nil)) (nomark _))))) (pss_one (ps_ret pe_bl)) pss_nil)
      (pss_one (ps_ret (pe_callB (cr_all rfl) (by rfl) T.b_all (by decide +kernel) (pa_cons (pe_lc (own := [("_law_one", 2), ("_law_other", 3)]) (g := gTup K 2 (gCons (gName 2) (gCons (gName 3) gNil))) (tt := tYes) (te := tCl (spAlike K T.C_Ratio n) (fun _ => E0) (tCons (tVar 2) (tCons (tVar 3) tNil))) rfl nd (PmZ.pi_zip2 (by rfl) T.b_zip (pa_cons (pv 0) (pa_cons (pv 1) pa_nil))) (blkOk_by (own := [("_law_one", 2), ("_law_other", 3)]) (N := ["_law_found", "_law_due", "_law_one", "_law_other"]) (sc := defScope s_lw_alike) (by decide +kernel)) (fun _ _ _ _ _ => (pg_tup rfl (pgs_cons (pg_name (i := 2) nd rfl (.inl rfl)) (pgs_cons (pg_name (i := 3) nd rfl (.inl rfl)) pgs_nil)))) (fun _ _ _ _ _ => pts_nil) (fun _ _ _ _ _ => (pe_g (E := fun _ => E0) gg ih hr (by rfl) T.g_lw_alike T.F_lw_alike.kp T.B_lw_alike (fun _ => at0) (pa_cons (pv 2) (pa_cons (pv 3) pa_nil))))) pa_nil))))) pss_nil)
      (pss_cons (ps_if (pt_val (pe_callB call_isi (by rfl) T.b_isinstance (by decide +kernel) (pa_cons (pv 1) (pa_cons (pe_glob (v := .ref T.C_Ratio) (by rfl) T.g_Ratio rfl) pa_nil)))) (pss_one (ps_ret (pe_and (pe_callB call_isi (by rfl) T.b_isinstance (by decide +kernel) (pa_cons (pv 0) (pa_cons (pe_glob (v := .ref T.C_Ratio) (by rfl) T.g_Ratio rfl) pa_nil))) (pe_one (pe_cmpR (op_eqD hr.units) (pe_tup (by exact (pa_cons (pe_fld (pv 0) rfl) (pa_cons (pe_fld (pv 0) rfl) pa_nil)))) (pe_tup (by exact (pa_cons (pe_fld (pv 1) rfl) (pa_cons (pe_fld (pv 1) rfl) pa_nil)))) (nomark _)))))) pss_nil)
      (pss_one (ps_ret (pe_and (pe_not (pe_callB call_isiT (by rfl) T.b_isinstance (by decide +kernel) (pa_cons (pv 0) (pa_cons (pe_tup (pa_cons (pe_bltn (v := .ty "tuple") (u := .type "tuple") (by rfl) T.b_tuple (by decide +kernel) rfl) (pa_cons (pe_glob (v := .ref T.C_Ratio) (by rfl) T.g_Ratio rfl) pa_nil))) pa_nil)))) (pe_one (pe_cmpR op_eq (pe_callB (call_reprD gg hr) (by rfl) T.b_repr (by decide +kernel) (pa_cons (pv 0) pa_nil)) (pe_callB (call_reprD gg hr) (by rfl) T.b_repr (by decide +kernel) (pa_cons (pv 1) pa_nil)) (nomark _)))))))), ?_⟩
    rcases hv with hv | ⟨t, xs, rfl, et, l4, hx⟩
    · rcases hv with ⟨d, t, z⟩ | ⟨p, rfl, dx, e⟩
      · refine ⟨_, rfl, v, _, t, _, false, rfl, .ty _, z.ty H, z.k1, false, rfl, iteF ?_⟩
        refine ⟨_, rfl, v, _, t, _, false, rfl, .own _, z.ty H, z.k2, false, rfl, iteF ?_⟩
        refine ⟨_, rfl, (by show 2 ≤ sizeLine; decide), fun p hp => ?_⟩
        have sm : Same H (upd H p (.tup [.ty "tuple", .ref T.C_Ratio])) := same_upd hp
        have two : Paired ClsV [V.ty "tuple", V.ref T.C_Ratio] [Value.type "tuple", Value.ref T.C_Ratio] := .cons (.ty _) (.cons (.own _) .nil)
        refine ⟨v, p, _, t, _, false, rfl, upd_same, two, z.ty _, any2 z.k1 z.k2, false, rfl, _, rfl, iteT ?_⟩
        refine ⟨_, rfl, v, d, rfl, z.dp _, z.sh, z.nd, z.dep, z.len, _, rfl, v, d, rfl, z.dp _, z.sh, z.nd, z.dep, z.len, eq_same rfl (fin _ sm)⟩
      · refine ⟨_, rfl, _, _, .ref T.C_Ratio, _, false, rfl, .ty _, tyx_ins T.cl_Ratio T.tc_Ratio e, kit_of_own (t := "tuple") (by decide +kernel) T.su_Ratio_tuple, false, rfl, iteF ?_⟩
        refine ⟨_, rfl, _, _, .ref T.C_Ratio, _, true, rfl, .own _, tyx_ins T.cl_Ratio T.tc_Ratio e, kit_self, true, rfl, iteT ?_⟩
        refine ⟨_, rfl, _, _, .ref T.C_Ratio, _, true, rfl, .own _, tyx_ins T.cl_Ratio T.tc_Ratio e, kit_self, true, rfl, iteT ?_⟩
        refine ⟨_, rfl, p, _, dx, _, _, rfl, e, T.cl_Ratio, T.n_Ratio_top, rfs_top 3 4, _, rfl, p, _, dx, _, _, rfl, e, T.cl_Ratio, T.n_Ratio_bottom, rfs_bot 3 4, (by show 2 ≤ sizeLine; decide), fun t1 h1 => ?_⟩
        have s1 := same_upd (o := .tup [.int 3, .int 4]) h1
        have e' := s1 _ _ e
        refine ⟨_, rfl, p, _, dx, _, _, rfl, e', T.cl_Ratio, T.n_Ratio_top, rfs_top 3 4, _, rfl, p, _, dx, _, _, rfl, e', T.cl_Ratio, T.n_Ratio_bottom, rfs_bot 3 4, (by show 2 ≤ sizeLine; decide), fun t2 h2 => ?_⟩
        have s2 := same_upd (o := .tup [.int 3, .int 4]) h2
        refine ⟨.tuple [.int 3, .int 4], .tuple [.int 3, .int 4], .tup (SqT.of (s2 _ _ upd_same)) (.cons (.int 3) (.cons (.int 4) .nil)), .tup (SqT.of upd_same) (.cons (.int 3) (.cons (.int 4) .nil)), rfl, rfl, ?_⟩
        rw [SeqAt.eqv_refl _ rfl]
        exact fin _ (s1.trans s2)
    · refine ⟨_, rfl, _, _, .type "tuple", _, true, rfl, .ty _, .base (.tup et), kit_ty (by decide +kernel), true, rfl, iteT ?_⟩
      refine ⟨_, rfl, _, _, .type "tuple", _, true, rfl, .ty _, .base (.tup et), kit_ty (by decide +kernel), true, rfl, iteF ?_⟩
      refine ⟨_, rfl, t, xs, rfl, .inr (SqT.of et), _, rfl, t, xs, rfl, .inr (SqT.of et), ne_same rfl ⟨_, rfl, iteF ?_⟩⟩
      refine ⟨_, rfl, _, rfl, true, t, true, t, xs, xs, rfl, SqT.of et, SqT.of et, fun D hD => lc_it (PmZ.walk_zip2 (n := xs.length) (by omega)) (fun k G => Same H G ∧ G D = some (.lst ((List.replicate k true).map V.bl)))
        ⟨same_upd hD, upd_same⟩ (fun _ G _ h => ⟨SqT.of (h.1 _ _ et), SqT.of (h.1 _ _ et)⟩) ?_ ?_⟩
      · rintro k xx Ga Gb hk ⟨sG, eD⟩ ⟨tz, x1, x2, rfl, nz, rfl, g1, g2⟩
        obtain rfl : x1 = x2 := by rw [g1] at g2; exact Option.some.inj g2
        have sz := same_upd (o := .tup [x1, x1]) nz
        have etz : (upd Ga tz (.tup [x1, x1])) tz = some (.tup [x1, x1]) := upd_same
        have eD := sz _ _ eD
        have sH := sG.trans sz
        generalize upd Ga tz (.tup [x1, x1]) = G3 at *
        have hx1 := (hx x1 (List.mem_of_getElem? g1)).same sH
        refine ⟨tz, _, rfl, SqT.of etz, rfl, _, _, rfl, _, _, rfl, rfl, rfl, ?_⟩
        unfold tYes
        refine iteT ⟨_, rfl, _, rfl, x1, rfl, hx1, fun G2 s2 => ?_⟩
        refine ⟨_, s2 _ _ eD, by rw [List.length_map, List.length_replicate]; exact small1000 (by omega), fun bb o e => ?_, ?_⟩
        · rw [upd_ne (ne_of_none e hD)]
          exact s2 _ _ (sH _ _ e)
        · rw [upd_same, rep_snoc']
      rintro G ⟨sG, eD⟩
      refine ⟨D, List.replicate xs.length true, rfl, SqL.of eD, ?_⟩
      rw [rep_all']
      exact fin G sG
end

/-! ### all errors, made by position and by name -/
/-- what is told of the errors: the twelve, the attributes, the second attribute -/
def Told {K : PySem.W.Frag} {mg : Str → Option Value} (T : Txt K mg) (H : Hp) (t : Addr) (a b : V) : Prop := ∃ (le lt : Addr) (es : List Addr), H t = some (.tup [.ref le, .ref lt, b]) ∧ H le = some (.lst (es.map V.ref)) ∧ H lt = some (.lst [a, a, a, a, a, a, a, a, a, a]) ∧ es.length = 12 ∧ ∀ (j : Nat) (e : Addr), es[j]? = some e → ErrAt (errC T j) H e
theorem Told.same {K : PySem.W.Frag} {mg : Str → Option Value} {T : Txt K mg} {H H' : Hp} {t : Addr} {a b : V} (h : Told T H t a b) (s : Same H H') : Told T H' t a b := let ⟨le, lt, es, e1, e2, e3, l, k⟩ := h; ⟨le, lt, es, s _ _ e1, s _ _ e2, s _ _ e3, l, fun j e q => (k j e q).same s⟩
def spTwo {K : PySem.W.Frag} {mg : Str → Option Value} (T : Txt K mg) : Sp := fun vs H Q _ => ∃ a b, vs = [a, b] ∧ ∀ t H', Same H H' → Told T H' t a b → Q (.ref t) H'
theorem few1 {f : Str} (ws : List Value) (h : ws.length = 1) : PmX.Few ([f].zip ws) := by
  match ws, h with
  | [v], _ => exact .inr (.inl ⟨_, _, rfl⟩)
theorem few2 {f g : Str} (ws : List Value) (h : ws.length = 2) : PmX.Few ([f, g].zip ws) := by
  match ws, h with
  | [v, u], _ => exact .inr (.inr ⟨_, _, _, _, rfl⟩)
section
variable {P : Program} {w : World} {K : PySem.W.Frag} {mg : Str → Option Value} {base : Heap}
set_option maxHeartbeats 8000000 in
theorem ok_placed (T : Txt K mg) : FnOk P w K mg base CX0 3 T.f_lw_placed T.d_lw_placed ["_law_a", "_law_b"] (spTwo T) := by
  have nd := sc_lw_placed.nd
  refine T.F_lw_placed.ok sc_lw_placed (fun vs H Q E ⟨_, _, e, _⟩ => by rw [e]; rfl) (fun cdv A outer s H vs Q E hr h => ?_)
  obtain ⟨a, b, rfl, fin⟩ := h
  refine ⟨_, (pss_cons (ps_par3 (i := 2) (j := 3) (l := 4) rfl nd rfl rfl rfl (by decide) (by decide) (by decide) rfl rfl rfl (pa_cons (PmX.pe_exP (ds := []) (dvs := []) (PmX.OexV.of T.ox_InvalidNumber) T.m_InvalidNumber_init_d.at_ T.t_InvalidNumber_init_d (ok_e_InvalidNumber T) (hr.mono (by decide)) T.B_InvalidNumber_init_d pass0 (by rfl) T.g_InvalidNumber (pa_cons (pv 0) pa_nil)) (pa_cons (PmX.pe_exP (ds := []) (dvs := []) (PmX.OexV.of T.ox_InvalidDrop) T.m_InvalidDrop_init_d.at_ T.t_InvalidDrop_init_d (ok_e_InvalidDrop T) (hr.mono (by decide)) T.B_InvalidDrop_init_d pass0 (by rfl) T.g_InvalidDrop (pa_cons (pv 0) pa_nil)) (pa_cons (PmX.pe_exP (ds := []) (dvs := []) (PmX.OexV.of T.ox_InvalidTime) T.m_InvalidTime_init_d.at_ T.t_InvalidTime_init_d (ok_e_InvalidTime T) (hr.mono (by decide)) T.B_InvalidTime_init_d pass0 (by rfl) T.g_InvalidTime (pa_cons (pv 0) pa_nil)) pa_nil))) (by rfl))
      (pss_cons (ps_par3 (i := 5) (j := 6) (l := 7) rfl nd rfl rfl rfl (by decide) (by decide) (by decide) rfl rfl rfl (pa_cons (PmX.pe_exP (ds := []) (dvs := []) (PmX.OexV.of T.ox_InvalidText) T.m_InvalidText_init_d.at_ T.t_InvalidText_init_d (ok_e_InvalidText T) (hr.mono (by decide)) T.B_InvalidText_init_d pass0 (by rfl) T.g_InvalidText (pa_cons (pv 0) pa_nil)) (pa_cons (PmX.pe_exP (ds := []) (dvs := []) (PmX.OexV.of T.ox_Full) T.m_Full_init_d.at_ T.t_Full_init_d (ok_e_Full T) (hr.mono (by decide)) T.B_Full_init_d pass0 (by rfl) T.g_Full (pa_cons (pv 0) pa_nil)) (pa_cons (PmX.pe_exP (ds := []) (dvs := []) (PmX.OexV.of T.ox_MissingDrop) T.m_MissingDrop_init_d.at_ T.t_MissingDrop_init_d (ok_e_MissingDrop T) (hr.mono (by decide)) T.B_MissingDrop_init_d pass0 (by rfl) T.g_MissingDrop (pa_cons (pv 0) (pa_cons (pv 1) pa_nil))) pa_nil))) (by rfl))
      (pss_cons (ps_par3 (i := 8) (j := 9) (l := 10) rfl nd rfl rfl rfl (by decide) (by decide) (by decide) rfl rfl rfl (pa_cons (PmX.pe_exP (ds := []) (dvs := []) (PmX.OexV.of T.ox_Touching) T.m_Touching_init_d.at_ T.t_Touching_init_d (ok_e_Touching T) (hr.mono (by decide)) T.B_Touching_init_d pass0 (by rfl) T.g_Touching (pa_cons (pv 0) pa_nil)) (pa_cons (PmX.pe_exP (ds := []) (dvs := []) (PmX.OexV.of T.ox_OutOfGround) T.m_OutOfGround_init_d.at_ T.t_OutOfGround_init_d (ok_e_OutOfGround T) (hr.mono (by decide)) T.B_OutOfGround_init_d pass0 (by rfl) T.g_OutOfGround (pa_cons (pv 0) pa_nil)) (pa_cons (PmX.pe_exP (ds := []) (dvs := []) (PmX.OexV.of T.ox_Overfull) T.m_Overfull_init_d.at_ T.t_Overfull_init_d (ok_e_Overfull T) (hr.mono (by decide)) T.B_Overfull_init_d pass0 (by rfl) T.g_Overfull (pa_cons (pv 0) pa_nil)) pa_nil))) (by rfl))
      (pss_cons (ps_set (i := 11) nd rfl (.inl rfl) (PmX.pe_exP (ds := []) (dvs := []) (PmX.OexV.ofI T.ox_UnknownIndex) T.m_UnknownIndex_init_d.at_ T.t_UnknownIndex_init_d (ok_e_UnknownIndex T) (hr.mono (by decide)) T.B_UnknownIndex_init_d pass0 (by rfl) T.g_UnknownIndex (pa_cons (pv 0) pa_nil)))
      (pss_cons (ps_set (i := 12) nd rfl (.inl rfl) (pe_lst (by exact (pa_cons (pv 2) (pa_cons (pv 3) (pa_cons (pv 4) (pa_cons (pv 5) (pa_cons (pv 6) (pa_cons (pv 7) (pa_cons (pv 8) (pa_cons (pv 9) (pa_cons (pv 10) pa_nil))))))))))))
      (pss_cons (ps_set (i := 13) nd rfl (.inl rfl) (pe_lst (by exact (pa_cons (PmX.pe_xfV T.xf_InvalidNumber T.n_InvalidNumber_value (pv 2)) (pa_cons (PmX.pe_xfV T.xf_InvalidDrop T.n_InvalidDrop_index (pv 3)) (pa_cons (PmX.pe_xfV T.xf_InvalidTime T.n_InvalidTime_time (pv 4)) (pa_cons (PmX.pe_xfV T.xf_InvalidText T.n_InvalidText_line (pv 5)) (pa_cons (PmX.pe_xfV T.xf_Full T.n_Full_limit (pv 6)) pa_nil))))))))
      (pss_cons (ps_set (i := 13) nd rfl (.inl rfl) (pe_op op_cat (pv 13) (pe_lst (by exact (pa_cons (PmX.pe_xfV T.xf_MissingDrop T.n_MissingDrop_spot (pv 7)) (pa_cons (PmX.pe_xfV T.xf_Touching T.n_Touching_index (pv 8)) (pa_cons (PmX.pe_xfV T.xf_OutOfGround T.n_OutOfGround_spot (pv 9)) (pa_cons (PmX.pe_xfV T.xf_Overfull T.n_Overfull_total (pv 10)) (pa_cons (PmX.pe_xfV T.xf_UnknownIndex T.n_UnknownIndex_index (pv 11)) pa_nil)))))))))
      (pss_one (ps_ret (pe_tup (by exact (pa_cons (pe_op op_cat (pv 12) (pe_lst (by exact (pa_cons (PmX.pe_ex0 PySem.F.excBase_ValueError T.xo_InvalidCommand T.g_InvalidCommand T.ox_InvalidCommand.kC (by rfl)) (pa_cons (PmX.pe_ex0 PySem.F.excBase_ValueError T.xo_TrialError T.g_TrialError T.ox_TrialError.kC (by rfl)) (pa_cons (pv 11) pa_nil)))))) (pa_cons (pv 13) (pa_cons (PmX.pe_xfV T.xf_MissingDrop T.n_MissingDrop_amount (pv 7)) pa_nil)))))))))))))), ?_⟩
  have sH := Same.refl H
  refine ⟨a, rfl, Nat.le_of_ble_eq_true rfl, rfl, fun e0 he0 => ⟨e0, a, rfl, upd_same, fun dx0 nd0 ne0 => ⟨rfl, ?_⟩⟩⟩
  obtain ⟨s0, r0⟩ := made1 (C := T.C_InvalidNumber) (f := "value") (y := a) he0 nd0 ne0
  have sH := sH.trans s0
  generalize upd (upd (upd _ e0 (exo e0 T.C_InvalidNumber none)) dx0 _) e0 _ = G0 at *
  refine ⟨a, rfl, Nat.le_of_ble_eq_true rfl, rfl, fun e1 he1 => ⟨e1, a, rfl, upd_same, fun dx1 nd1 ne1 => ⟨rfl, ?_⟩⟩⟩
  obtain ⟨s1, r1⟩ := made1 (C := T.C_InvalidDrop) (f := "index") (y := a) he1 nd1 ne1
  have r0 := r0.same s1
  have sH := sH.trans s1
  generalize upd (upd (upd _ e1 (exo e1 T.C_InvalidDrop none)) dx1 _) e1 _ = G1 at *
  refine ⟨a, rfl, Nat.le_of_ble_eq_true rfl, rfl, fun e2 he2 => ⟨e2, a, rfl, upd_same, fun dx2 nd2 ne2 => ⟨rfl, ?_⟩⟩⟩
  obtain ⟨s2, r2⟩ := made1 (C := T.C_InvalidTime) (f := "time") (y := a) he2 nd2 ne2
  have r0 := r0.same s2
  have r1 := r1.same s2
  have sH := sH.trans s2
  generalize upd (upd (upd _ e2 (exo e2 T.C_InvalidTime none)) dx2 _) e2 _ = G2 at *
  refine ⟨_, _, _, rfl, ?_⟩
  refine ⟨a, rfl, Nat.le_of_ble_eq_true rfl, rfl, fun e3 he3 => ⟨e3, a, rfl, upd_same, fun dx3 nd3 ne3 => ⟨rfl, ?_⟩⟩⟩
  obtain ⟨s3, r3⟩ := made1 (C := T.C_InvalidText) (f := "line") (y := a) he3 nd3 ne3
  have r0 := r0.same s3
  have r1 := r1.same s3
  have r2 := r2.same s3
  have sH := sH.trans s3
  generalize upd (upd (upd _ e3 (exo e3 T.C_InvalidText none)) dx3 _) e3 _ = G3 at *
  refine ⟨a, rfl, Nat.le_of_ble_eq_true rfl, rfl, fun e4 he4 => ⟨e4, a, rfl, upd_same, fun dx4 nd4 ne4 => ⟨rfl, ?_⟩⟩⟩
  obtain ⟨s4, r4⟩ := made1 (C := T.C_Full) (f := "limit") (y := a) he4 nd4 ne4
  have r0 := r0.same s4
  have r1 := r1.same s4
  have r2 := r2.same s4
  have r3 := r3.same s4
  have sH := sH.trans s4
  generalize upd (upd (upd _ e4 (exo e4 T.C_Full none)) dx4 _) e4 _ = G4 at *
  refine ⟨a, rfl, b, rfl, Nat.le_of_ble_eq_true rfl, rfl, fun e5 he5 => ⟨e5, a, b, rfl, upd_same, fun dx5 nd5 ne5 => ⟨rfl, ?_⟩⟩⟩
  obtain ⟨s5, r5, ra⟩ := made2 (C := T.C_MissingDrop) (y := a) (z := b) he5 nd5 ne5
  have r0 := r0.same s5
  have r1 := r1.same s5
  have r2 := r2.same s5
  have r3 := r3.same s5
  have r4 := r4.same s5
  have sH := sH.trans s5
  generalize upd (upd (upd (upd _ e5 (exo e5 T.C_MissingDrop none)) dx5 _) e5 _) dx5 _ = G5 at *
  refine ⟨_, _, _, rfl, ?_⟩
  refine ⟨a, rfl, Nat.le_of_ble_eq_true rfl, rfl, fun e6 he6 => ⟨e6, a, rfl, upd_same, fun dx6 nd6 ne6 => ⟨rfl, ?_⟩⟩⟩
  obtain ⟨s6, r6⟩ := made1 (C := T.C_Touching) (f := "index") (y := a) he6 nd6 ne6
  have r0 := r0.same s6
  have r1 := r1.same s6
  have r2 := r2.same s6
  have r3 := r3.same s6
  have r4 := r4.same s6
  have r5 := r5.same s6
  have ra := ra.same s6
  have sH := sH.trans s6
  generalize upd (upd (upd _ e6 (exo e6 T.C_Touching none)) dx6 _) e6 _ = G6 at *
  refine ⟨a, rfl, Nat.le_of_ble_eq_true rfl, rfl, fun e7 he7 => ⟨e7, a, rfl, upd_same, fun dx7 nd7 ne7 => ⟨rfl, ?_⟩⟩⟩
  obtain ⟨s7, r7⟩ := made1 (C := T.C_OutOfGround) (f := "spot") (y := a) he7 nd7 ne7
  have r0 := r0.same s7
  have r1 := r1.same s7
  have r2 := r2.same s7
  have r3 := r3.same s7
  have r4 := r4.same s7
  have r5 := r5.same s7
  have ra := ra.same s7
  have r6 := r6.same s7
  have sH := sH.trans s7
  generalize upd (upd (upd _ e7 (exo e7 T.C_OutOfGround none)) dx7 _) e7 _ = G7 at *
  refine ⟨a, rfl, Nat.le_of_ble_eq_true rfl, rfl, fun e8 he8 => ⟨e8, a, rfl, upd_same, fun dx8 nd8 ne8 => ⟨rfl, ?_⟩⟩⟩
  obtain ⟨s8, r8⟩ := made1 (C := T.C_Overfull) (f := "total") (y := a) he8 nd8 ne8
  have r0 := r0.same s8
  have r1 := r1.same s8
  have r2 := r2.same s8
  have r3 := r3.same s8
  have r4 := r4.same s8
  have r5 := r5.same s8
  have ra := ra.same s8
  have r6 := r6.same s8
  have r7 := r7.same s8
  have sH := sH.trans s8
  generalize upd (upd (upd _ e8 (exo e8 T.C_Overfull none)) dx8 _) e8 _ = G8 at *
  refine ⟨_, _, _, rfl, ?_⟩
  refine ⟨a, rfl, Nat.le_of_ble_eq_true rfl, rfl, fun e9 he9 => ⟨e9, a, rfl, upd_same, fun dx9 nd9 ne9 => ⟨rfl, ?_⟩⟩⟩
  obtain ⟨s9, r9⟩ := made1 (C := T.C_UnknownIndex) (f := "index") (y := a) he9 nd9 ne9
  have r0 := r0.same s9
  have r1 := r1.same s9
  have r2 := r2.same s9
  have r3 := r3.same s9
  have r4 := r4.same s9
  have r5 := r5.same s9
  have ra := ra.same s9
  have r6 := r6.same s9
  have r7 := r7.same s9
  have r8 := r8.same s9
  have sH := sH.trans s9
  generalize upd (upd (upd _ e9 (exo e9 T.C_UnknownIndex none)) dx9 _) e9 _ = G9 at *
  refine ⟨_, rfl, _, rfl, _, rfl, _, rfl, _, rfl, _, rfl, _, rfl, _, rfl, _, rfl, Nat.le_trans (show 9 ≤ 1000 by decide) (Nat.le_of_lt (small1000 (Nat.le_refl _))), fun le hle => ?_⟩
  have sle := same_upd (o := .lst [.ref e0, .ref e1, .ref e2, .ref e3, .ref e4, .ref e5, .ref e6, .ref e7, .ref e8]) hle
  have r0 := r0.same sle
  have r1 := r1.same sle
  have r2 := r2.same sle
  have r3 := r3.same sle
  have r4 := r4.same sle
  have r5 := r5.same sle
  have ra := ra.same sle
  have r6 := r6.same sle
  have r7 := r7.same sle
  have r8 := r8.same sle
  have r9 := r9.same sle
  have sH := sH.trans sle
  have fle : (upd G9 le (.lst [.ref e0, .ref e1, .ref e2, .ref e3, .ref e4, .ref e5, .ref e6, .ref e7, .ref e8])) le = some (.lst [.ref e0, .ref e1, .ref e2, .ref e3, .ref e4, .ref e5, .ref e6, .ref e7, .ref e8]) := upd_same
  generalize upd G9 le (.lst [.ref e0, .ref e1, .ref e2, .ref e3, .ref e4, .ref e5, .ref e6, .ref e7, .ref e8]) = Gle at *
  obtain ⟨d0, f0, p0, q0, w0⟩ := id r0
  obtain ⟨d1, f1, p1, q1, w1⟩ := id r1
  obtain ⟨d2, f2, p2, q2, w2⟩ := id r2
  obtain ⟨d3, f3, p3, q3, w3⟩ := id r3
  obtain ⟨d4, f4, p4, q4, w4⟩ := id r4
  refine ⟨_, rfl, e0, d0, f0, _, rfl, p0, q0, w0, _, rfl, e1, d1, f1, _, rfl, p1, q1, w1, _, rfl, e2, d2, f2, _, rfl, p2, q2, w2, _, rfl, e3, d3, f3, _, rfl, p3, q3, w3, _, rfl, e4, d4, f4, _, rfl, p4, q4, w4, Nat.le_trans (show 5 ≤ 1000 by decide) (Nat.le_of_lt (small1000 (Nat.le_refl _))), fun l5 hl5 => ?_⟩
  have sl5 := same_upd (o := .lst [a, a, a, a, a]) hl5
  have r0 := r0.same sl5
  have r1 := r1.same sl5
  have r2 := r2.same sl5
  have r3 := r3.same sl5
  have r4 := r4.same sl5
  have r5 := r5.same sl5
  have ra := ra.same sl5
  have r6 := r6.same sl5
  have r7 := r7.same sl5
  have r8 := r8.same sl5
  have r9 := r9.same sl5
  have fle := sl5 _ _ fle
  have sH := sH.trans sl5
  have fl5 : (upd Gle l5 (.lst [a, a, a, a, a])) l5 = some (.lst [a, a, a, a, a]) := upd_same
  generalize upd Gle l5 (.lst [a, a, a, a, a]) = Gl5 at *
  obtain ⟨d5, f5, p5, q5, w5⟩ := id r5
  obtain ⟨d6, f6, p6, q6, w6⟩ := id r6
  obtain ⟨d7, f7, p7, q7, w7⟩ := id r7
  obtain ⟨d8, f8, p8, q8, w8⟩ := id r8
  obtain ⟨d9, f9, p9, q9, w9⟩ := id r9
  refine ⟨_, rfl, _, rfl, e5, d5, f5, _, rfl, p5, q5, w5, _, rfl, e6, d6, f6, _, rfl, p6, q6, w6, _, rfl, e7, d7, f7, _, rfl, p7, q7, w7, _, rfl, e8, d8, f8, _, rfl, p8, q8, w8, _, rfl, e9, d9, f9, _, rfl, p9, q9, w9, Nat.le_trans (show 5 ≤ 1000 by decide) (Nat.le_of_lt (small1000 (Nat.le_refl _))), fun l6 hl6 => ?_⟩
  have sl6 := same_upd (o := .lst [a, a, a, a, a]) hl6
  have r0 := r0.same sl6
  have r1 := r1.same sl6
  have r2 := r2.same sl6
  have r3 := r3.same sl6
  have r4 := r4.same sl6
  have r5 := r5.same sl6
  have ra := ra.same sl6
  have r6 := r6.same sl6
  have r7 := r7.same sl6
  have r8 := r8.same sl6
  have r9 := r9.same sl6
  have fle := sl6 _ _ fle
  have fl5 := sl6 _ _ fl5
  have sH := sH.trans sl6
  have fl6 : (upd Gl5 l6 (.lst [a, a, a, a, a])) l6 = some (.lst [a, a, a, a, a]) := upd_same
  generalize upd Gl5 l6 (.lst [a, a, a, a, a]) = Gl6 at *
  refine ⟨l5, l6, _, _, rfl, rfl, fl5, fl6, Nat.le_trans (show 10 ≤ 1000 by decide) (Nat.le_of_lt (small1000 (Nat.le_refl _))), fun lt hlt => ?_⟩
  have slt := same_upd (o := .lst ([a, a, a, a, a] ++ [a, a, a, a, a])) hlt
  have r0 := r0.same slt
  have r1 := r1.same slt
  have r2 := r2.same slt
  have r3 := r3.same slt
  have r4 := r4.same slt
  have r5 := r5.same slt
  have ra := ra.same slt
  have r6 := r6.same slt
  have r7 := r7.same slt
  have r8 := r8.same slt
  have r9 := r9.same slt
  have fle := slt _ _ fle
  have fl5 := slt _ _ fl5
  have fl6 := slt _ _ fl6
  have sH := sH.trans slt
  have flt : (upd Gl6 lt (.lst ([a, a, a, a, a] ++ [a, a, a, a, a]))) lt = some (.lst ([a, a, a, a, a] ++ [a, a, a, a, a])) := upd_same
  generalize upd Gl6 lt (.lst ([a, a, a, a, a] ++ [a, a, a, a, a])) = Glt at *
  refine ⟨_, rfl, fun c1 hc1 => ?_⟩
  have sc1 := same_upd (o := exo c1 T.C_InvalidCommand none) hc1
  have r0 := r0.same sc1
  have r1 := r1.same sc1
  have r2 := r2.same sc1
  have r3 := r3.same sc1
  have r4 := r4.same sc1
  have r5 := r5.same sc1
  have ra := ra.same sc1
  have r6 := r6.same sc1
  have r7 := r7.same sc1
  have r8 := r8.same sc1
  have r9 := r9.same sc1
  have fle := sc1 _ _ fle
  have fl5 := sc1 _ _ fl5
  have fl6 := sc1 _ _ fl6
  have flt := sc1 _ _ flt
  have sH := sH.trans sc1
  have fc1 : (upd Glt c1 (exo c1 T.C_InvalidCommand none)) c1 = some (exo c1 T.C_InvalidCommand none) := upd_same
  generalize upd Glt c1 (exo c1 T.C_InvalidCommand none) = Gc1 at *
  intro c2 hc2
  have sc2 := same_upd (o := exo c2 T.C_TrialError none) hc2
  have r0 := r0.same sc2
  have r1 := r1.same sc2
  have r2 := r2.same sc2
  have r3 := r3.same sc2
  have r4 := r4.same sc2
  have r5 := r5.same sc2
  have ra := ra.same sc2
  have r6 := r6.same sc2
  have r7 := r7.same sc2
  have r8 := r8.same sc2
  have r9 := r9.same sc2
  have fle := sc2 _ _ fle
  have fl5 := sc2 _ _ fl5
  have fl6 := sc2 _ _ fl6
  have flt := sc2 _ _ flt
  have fc1 := sc2 _ _ fc1
  have sH := sH.trans sc2
  have fc2 : (upd Gc1 c2 (exo c2 T.C_TrialError none)) c2 = some (exo c2 T.C_TrialError none) := upd_same
  generalize upd Gc1 c2 (exo c2 T.C_TrialError none) = Gc2 at *
  refine ⟨_, rfl, Nat.le_trans (show 3 ≤ 1000 by decide) (Nat.le_of_lt (small1000 (Nat.le_refl _))), fun l3 hl3 => ?_⟩
  have sl3 := same_upd (o := .lst [.ref c1, .ref c2, .ref e9]) hl3
  have r0 := r0.same sl3
  have r1 := r1.same sl3
  have r2 := r2.same sl3
  have r3 := r3.same sl3
  have r4 := r4.same sl3
  have r5 := r5.same sl3
  have ra := ra.same sl3
  have r6 := r6.same sl3
  have r7 := r7.same sl3
  have r8 := r8.same sl3
  have r9 := r9.same sl3
  have fle := sl3 _ _ fle
  have fl5 := sl3 _ _ fl5
  have fl6 := sl3 _ _ fl6
  have flt := sl3 _ _ flt
  have fc1 := sl3 _ _ fc1
  have fc2 := sl3 _ _ fc2
  have sH := sH.trans sl3
  have fl3 : (upd Gc2 l3 (.lst [.ref c1, .ref c2, .ref e9])) l3 = some (.lst [.ref c1, .ref c2, .ref e9]) := upd_same
  generalize upd Gc2 l3 (.lst [.ref c1, .ref c2, .ref e9]) = Gl3 at *
  refine ⟨le, l3, _, _, rfl, rfl, fle, fl3, Nat.le_trans (show 12 ≤ 1000 by decide) (Nat.le_of_lt (small1000 (Nat.le_refl _))), fun lf hlf => ?_⟩
  have slf := same_upd (o := .lst ([.ref e0, .ref e1, .ref e2, .ref e3, .ref e4, .ref e5, .ref e6, .ref e7, .ref e8] ++ [.ref c1, .ref c2, .ref e9])) hlf
  have r0 := r0.same slf
  have r1 := r1.same slf
  have r2 := r2.same slf
  have r3 := r3.same slf
  have r4 := r4.same slf
  have r5 := r5.same slf
  have ra := ra.same slf
  have r6 := r6.same slf
  have r7 := r7.same slf
  have r8 := r8.same slf
  have r9 := r9.same slf
  have fle := slf _ _ fle
  have fl5 := slf _ _ fl5
  have fl6 := slf _ _ fl6
  have flt := slf _ _ flt
  have fc1 := slf _ _ fc1
  have fc2 := slf _ _ fc2
  have fl3 := slf _ _ fl3
  have sH := sH.trans slf
  have flf : (upd Gl3 lf (.lst ([.ref e0, .ref e1, .ref e2, .ref e3, .ref e4, .ref e5, .ref e6, .ref e7, .ref e8] ++ [.ref c1, .ref c2, .ref e9]))) lf = some (.lst ([.ref e0, .ref e1, .ref e2, .ref e3, .ref e4, .ref e5, .ref e6, .ref e7, .ref e8] ++ [.ref c1, .ref c2, .ref e9])) := upd_same
  generalize upd Gl3 lf (.lst ([.ref e0, .ref e1, .ref e2, .ref e3, .ref e4, .ref e5, .ref e6, .ref e7, .ref e8] ++ [.ref c1, .ref c2, .ref e9])) = Glf at *
  obtain ⟨d5, f5, p5, q5, w5⟩ := id ra
  refine ⟨_, rfl, _, rfl, e5, d5, f5, _, rfl, p5, q5, w5, Nat.le_trans (show 3 ≤ 1000 by decide) (Nat.le_of_lt (small1000 (Nat.le_refl _))), fun t ht => ?_⟩
  have st := same_upd (o := .tup [.ref lf, .ref lt, b]) ht
  have r0 := r0.same st
  have r1 := r1.same st
  have r2 := r2.same st
  have r3 := r3.same st
  have r4 := r4.same st
  have r5 := r5.same st
  have ra := ra.same st
  have r6 := r6.same st
  have r7 := r7.same st
  have r8 := r8.same st
  have r9 := r9.same st
  have fle := st _ _ fle
  have fl5 := st _ _ fl5
  have fl6 := st _ _ fl6
  have flt := st _ _ flt
  have fc1 := st _ _ fc1
  have fc2 := st _ _ fc2
  have fl3 := st _ _ fl3
  have flf := st _ _ flf
  have sH := sH.trans st
  have ft : (upd Glf t (.tup [.ref lf, .ref lt, b])) t = some (.tup [.ref lf, .ref lt, b]) := upd_same
  generalize upd Glf t (.tup [.ref lf, .ref lt, b]) = Gt at *
  refine fin t _ sH ⟨lf, lt, [e0, e1, e2, e3, e4, e5, e6, e7, e8, c1, c2, e9], ft, flf, flt, rfl, fun j e hj => ?_⟩
  rcases j with _ | _ | _ | _ | _ | _ | _ | _ | _ | _ | _ | _ | j
  · cases hj; exact r0.at_
  · cases hj; exact r1.at_
  · cases hj; exact r2.at_
  · cases hj; exact r3.at_
  · cases hj; exact r4.at_
  · cases hj; exact r5.at_
  · cases hj; exact r6.at_
  · cases hj; exact r7.at_
  · cases hj; exact r8.at_
  · cases hj; exact ⟨none, fc1, .inl rfl⟩
  · cases hj; exact ⟨none, fc2, .inl rfl⟩
  · cases hj; exact r9.at_
  · simp at hj
set_option maxHeartbeats 8000000 in
theorem ok_named (T : Txt K mg) : FnOk P w K mg base CX0 3 T.f_lw_named T.d_lw_named ["_law_a", "_law_b"] (spTwo T) := by
  have nd := sc_lw_named.nd
  refine T.F_lw_named.ok sc_lw_named (fun vs H Q E ⟨_, _, e, _⟩ => by rw [e]; rfl) (fun cdv A outer s H vs Q E hr h => ?_)
  obtain ⟨a, b, rfl, fin⟩ := h
  refine ⟨_, (pss_cons (ps_par3 (i := 2) (j := 3) (l := 4) rfl nd rfl rfl rfl (by decide) (by decide) (by decide) rfl rfl rfl (pa_cons (PmX.pe_exK (PmX.OexV.of T.ox_InvalidNumber) T.m_InvalidNumber_init_d.at_ T.t_InvalidNumber_init_d (ok_e_InvalidNumber T) (hr.mono (by decide)) T.KB_InvalidNumber pass0 (by rfl) T.g_InvalidNumber (pk_cons (pv 0) pk_nil) few1) (pa_cons (PmX.pe_exK (PmX.OexV.of T.ox_InvalidDrop) T.m_InvalidDrop_init_d.at_ T.t_InvalidDrop_init_d (ok_e_InvalidDrop T) (hr.mono (by decide)) T.KB_InvalidDrop pass0 (by rfl) T.g_InvalidDrop (pk_cons (pv 0) pk_nil) few1) (pa_cons (PmX.pe_exK (PmX.OexV.of T.ox_InvalidTime) T.m_InvalidTime_init_d.at_ T.t_InvalidTime_init_d (ok_e_InvalidTime T) (hr.mono (by decide)) T.KB_InvalidTime pass0 (by rfl) T.g_InvalidTime (pk_cons (pv 0) pk_nil) few1) pa_nil))) (by rfl))
      (pss_cons (ps_par3 (i := 5) (j := 6) (l := 7) rfl nd rfl rfl rfl (by decide) (by decide) (by decide) rfl rfl rfl (pa_cons (PmX.pe_exK (PmX.OexV.of T.ox_InvalidText) T.m_InvalidText_init_d.at_ T.t_InvalidText_init_d (ok_e_InvalidText T) (hr.mono (by decide)) T.KB_InvalidText pass0 (by rfl) T.g_InvalidText (pk_cons (pv 0) pk_nil) few1) (pa_cons (PmX.pe_exK (PmX.OexV.of T.ox_Full) T.m_Full_init_d.at_ T.t_Full_init_d (ok_e_Full T) (hr.mono (by decide)) T.KB_Full pass0 (by rfl) T.g_Full (pk_cons (pv 0) pk_nil) few1) (pa_cons (PmX.pe_exK (PmX.OexV.of T.ox_MissingDrop) T.m_MissingDrop_init_d.at_ T.t_MissingDrop_init_d (ok_e_MissingDrop T) (hr.mono (by decide)) T.KB_MissingDrop pass0 (by rfl) T.g_MissingDrop (pk_cons (pv 1) (pk_cons (pv 0) pk_nil)) few2) pa_nil))) (by rfl))
      (pss_cons (ps_par3 (i := 8) (j := 9) (l := 10) rfl nd rfl rfl rfl (by decide) (by decide) (by decide) rfl rfl rfl (pa_cons (PmX.pe_exK (PmX.OexV.of T.ox_Touching) T.m_Touching_init_d.at_ T.t_Touching_init_d (ok_e_Touching T) (hr.mono (by decide)) T.KB_Touching pass0 (by rfl) T.g_Touching (pk_cons (pv 0) pk_nil) few1) (pa_cons (PmX.pe_exK (PmX.OexV.of T.ox_OutOfGround) T.m_OutOfGround_init_d.at_ T.t_OutOfGround_init_d (ok_e_OutOfGround T) (hr.mono (by decide)) T.KB_OutOfGround pass0 (by rfl) T.g_OutOfGround (pk_cons (pv 0) pk_nil) few1) (pa_cons (PmX.pe_exK (PmX.OexV.of T.ox_Overfull) T.m_Overfull_init_d.at_ T.t_Overfull_init_d (ok_e_Overfull T) (hr.mono (by decide)) T.KB_Overfull pass0 (by rfl) T.g_Overfull (pk_cons (pv 0) pk_nil) few1) pa_nil))) (by rfl))
      (pss_cons (ps_set (i := 11) nd rfl (.inl rfl) (PmX.pe_exK (PmX.OexV.ofI T.ox_UnknownIndex) T.m_UnknownIndex_init_d.at_ T.t_UnknownIndex_init_d (ok_e_UnknownIndex T) (hr.mono (by decide)) T.KB_UnknownIndex pass0 (by rfl) T.g_UnknownIndex (pk_cons (pv 0) pk_nil) few1))
      (pss_cons (ps_set (i := 12) nd rfl (.inl rfl) (pe_lst (by exact (pa_cons (pv 2) (pa_cons (pv 3) (pa_cons (pv 4) (pa_cons (pv 5) (pa_cons (pv 6) (pa_cons (pv 7) (pa_cons (pv 8) (pa_cons (pv 9) (pa_cons (pv 10) pa_nil))))))))))))
      (pss_cons (ps_set (i := 13) nd rfl (.inl rfl) (pe_lst (by exact (pa_cons (PmX.pe_xfV T.xf_InvalidNumber T.n_InvalidNumber_value (pv 2)) (pa_cons (PmX.pe_xfV T.xf_InvalidDrop T.n_InvalidDrop_index (pv 3)) (pa_cons (PmX.pe_xfV T.xf_InvalidTime T.n_InvalidTime_time (pv 4)) (pa_cons (PmX.pe_xfV T.xf_InvalidText T.n_InvalidText_line (pv 5)) (pa_cons (PmX.pe_xfV T.xf_Full T.n_Full_limit (pv 6)) pa_nil))))))))
      (pss_cons (ps_set (i := 13) nd rfl (.inl rfl) (pe_op op_cat (pv 13) (pe_lst (by exact (pa_cons (PmX.pe_xfV T.xf_MissingDrop T.n_MissingDrop_spot (pv 7)) (pa_cons (PmX.pe_xfV T.xf_Touching T.n_Touching_index (pv 8)) (pa_cons (PmX.pe_xfV T.xf_OutOfGround T.n_OutOfGround_spot (pv 9)) (pa_cons (PmX.pe_xfV T.xf_Overfull T.n_Overfull_total (pv 10)) (pa_cons (PmX.pe_xfV T.xf_UnknownIndex T.n_UnknownIndex_index (pv 11)) pa_nil)))))))))
      (pss_one (ps_ret (pe_tup (by exact (pa_cons (pe_op op_cat (pv 12) (pe_lst (by exact (pa_cons (PmX.pe_ex0 PySem.F.excBase_ValueError T.xo_InvalidCommand T.g_InvalidCommand T.ox_InvalidCommand.kC (by rfl)) (pa_cons (PmX.pe_ex0 PySem.F.excBase_ValueError T.xo_TrialError T.g_TrialError T.ox_TrialError.kC (by rfl)) (pa_cons (pv 11) pa_nil)))))) (pa_cons (pv 13) (pa_cons (PmX.pe_xfV T.xf_MissingDrop T.n_MissingDrop_amount (pv 7)) pa_nil)))))))))))))), ?_⟩
  have sH := Same.refl H
  refine ⟨a, rfl, Nat.le_of_ble_eq_true rfl, rfl, fun e0 he0 => ⟨e0, a, rfl, upd_same, fun dx0 nd0 ne0 => ⟨rfl, ?_⟩⟩⟩
  obtain ⟨s0, r0⟩ := made1 (C := T.C_InvalidNumber) (f := "value") (y := a) he0 nd0 ne0
  have sH := sH.trans s0
  generalize upd (upd (upd _ e0 (exo e0 T.C_InvalidNumber none)) dx0 _) e0 _ = G0 at *
  refine ⟨a, rfl, Nat.le_of_ble_eq_true rfl, rfl, fun e1 he1 => ⟨e1, a, rfl, upd_same, fun dx1 nd1 ne1 => ⟨rfl, ?_⟩⟩⟩
  obtain ⟨s1, r1⟩ := made1 (C := T.C_InvalidDrop) (f := "index") (y := a) he1 nd1 ne1
  have r0 := r0.same s1
  have sH := sH.trans s1
  generalize upd (upd (upd _ e1 (exo e1 T.C_InvalidDrop none)) dx1 _) e1 _ = G1 at *
  refine ⟨a, rfl, Nat.le_of_ble_eq_true rfl, rfl, fun e2 he2 => ⟨e2, a, rfl, upd_same, fun dx2 nd2 ne2 => ⟨rfl, ?_⟩⟩⟩
  obtain ⟨s2, r2⟩ := made1 (C := T.C_InvalidTime) (f := "time") (y := a) he2 nd2 ne2
  have r0 := r0.same s2
  have r1 := r1.same s2
  have sH := sH.trans s2
  generalize upd (upd (upd _ e2 (exo e2 T.C_InvalidTime none)) dx2 _) e2 _ = G2 at *
  refine ⟨_, _, _, rfl, ?_⟩
  refine ⟨a, rfl, Nat.le_of_ble_eq_true rfl, rfl, fun e3 he3 => ⟨e3, a, rfl, upd_same, fun dx3 nd3 ne3 => ⟨rfl, ?_⟩⟩⟩
  obtain ⟨s3, r3⟩ := made1 (C := T.C_InvalidText) (f := "line") (y := a) he3 nd3 ne3
  have r0 := r0.same s3
  have r1 := r1.same s3
  have r2 := r2.same s3
  have sH := sH.trans s3
  generalize upd (upd (upd _ e3 (exo e3 T.C_InvalidText none)) dx3 _) e3 _ = G3 at *
  refine ⟨a, rfl, Nat.le_of_ble_eq_true rfl, rfl, fun e4 he4 => ⟨e4, a, rfl, upd_same, fun dx4 nd4 ne4 => ⟨rfl, ?_⟩⟩⟩
  obtain ⟨s4, r4⟩ := made1 (C := T.C_Full) (f := "limit") (y := a) he4 nd4 ne4
  have r0 := r0.same s4
  have r1 := r1.same s4
  have r2 := r2.same s4
  have r3 := r3.same s4
  have sH := sH.trans s4
  generalize upd (upd (upd _ e4 (exo e4 T.C_Full none)) dx4 _) e4 _ = G4 at *
  refine ⟨b, rfl, a, rfl, Nat.le_of_ble_eq_true rfl, rfl, fun e5 he5 => ⟨e5, a, b, rfl, upd_same, fun dx5 nd5 ne5 => ⟨rfl, ?_⟩⟩⟩
  obtain ⟨s5, r5, ra⟩ := made2 (C := T.C_MissingDrop) (y := a) (z := b) he5 nd5 ne5
  have r0 := r0.same s5
  have r1 := r1.same s5
  have r2 := r2.same s5
  have r3 := r3.same s5
  have r4 := r4.same s5
  have sH := sH.trans s5
  generalize upd (upd (upd (upd _ e5 (exo e5 T.C_MissingDrop none)) dx5 _) e5 _) dx5 _ = G5 at *
  refine ⟨_, _, _, rfl, ?_⟩
  refine ⟨a, rfl, Nat.le_of_ble_eq_true rfl, rfl, fun e6 he6 => ⟨e6, a, rfl, upd_same, fun dx6 nd6 ne6 => ⟨rfl, ?_⟩⟩⟩
  obtain ⟨s6, r6⟩ := made1 (C := T.C_Touching) (f := "index") (y := a) he6 nd6 ne6
  have r0 := r0.same s6
  have r1 := r1.same s6
  have r2 := r2.same s6
  have r3 := r3.same s6
  have r4 := r4.same s6
  have r5 := r5.same s6
  have ra := ra.same s6
  have sH := sH.trans s6
  generalize upd (upd (upd _ e6 (exo e6 T.C_Touching none)) dx6 _) e6 _ = G6 at *
  refine ⟨a, rfl, Nat.le_of_ble_eq_true rfl, rfl, fun e7 he7 => ⟨e7, a, rfl, upd_same, fun dx7 nd7 ne7 => ⟨rfl, ?_⟩⟩⟩
  obtain ⟨s7, r7⟩ := made1 (C := T.C_OutOfGround) (f := "spot") (y := a) he7 nd7 ne7
  have r0 := r0.same s7
  have r1 := r1.same s7
  have r2 := r2.same s7
  have r3 := r3.same s7
  have r4 := r4.same s7
  have r5 := r5.same s7
  have ra := ra.same s7
  have r6 := r6.same s7
  have sH := sH.trans s7
  generalize upd (upd (upd _ e7 (exo e7 T.C_OutOfGround none)) dx7 _) e7 _ = G7 at *
  refine ⟨a, rfl, Nat.le_of_ble_eq_true rfl, rfl, fun e8 he8 => ⟨e8, a, rfl, upd_same, fun dx8 nd8 ne8 => ⟨rfl, ?_⟩⟩⟩
  obtain ⟨s8, r8⟩ := made1 (C := T.C_Overfull) (f := "total") (y := a) he8 nd8 ne8
  have r0 := r0.same s8
  have r1 := r1.same s8
  have r2 := r2.same s8
  have r3 := r3.same s8
  have r4 := r4.same s8
  have r5 := r5.same s8
  have ra := ra.same s8
  have r6 := r6.same s8
  have r7 := r7.same s8
  have sH := sH.trans s8
  generalize upd (upd (upd _ e8 (exo e8 T.C_Overfull none)) dx8 _) e8 _ = G8 at *
  refine ⟨_, _, _, rfl, ?_⟩
  refine ⟨a, rfl, Nat.le_of_ble_eq_true rfl, rfl, fun e9 he9 => ⟨e9, a, rfl, upd_same, fun dx9 nd9 ne9 => ⟨rfl, ?_⟩⟩⟩
  obtain ⟨s9, r9⟩ := made1 (C := T.C_UnknownIndex) (f := "index") (y := a) he9 nd9 ne9
  have r0 := r0.same s9
  have r1 := r1.same s9
  have r2 := r2.same s9
  have r3 := r3.same s9
  have r4 := r4.same s9
  have r5 := r5.same s9
  have ra := ra.same s9
  have r6 := r6.same s9
  have r7 := r7.same s9
  have r8 := r8.same s9
  have sH := sH.trans s9
  generalize upd (upd (upd _ e9 (exo e9 T.C_UnknownIndex none)) dx9 _) e9 _ = G9 at *
  refine ⟨_, rfl, _, rfl, _, rfl, _, rfl, _, rfl, _, rfl, _, rfl, _, rfl, _, rfl, Nat.le_trans (show 9 ≤ 1000 by decide) (Nat.le_of_lt (small1000 (Nat.le_refl _))), fun le hle => ?_⟩
  have sle := same_upd (o := .lst [.ref e0, .ref e1, .ref e2, .ref e3, .ref e4, .ref e5, .ref e6, .ref e7, .ref e8]) hle
  have r0 := r0.same sle
  have r1 := r1.same sle
  have r2 := r2.same sle
  have r3 := r3.same sle
  have r4 := r4.same sle
  have r5 := r5.same sle
  have ra := ra.same sle
  have r6 := r6.same sle
  have r7 := r7.same sle
  have r8 := r8.same sle
  have r9 := r9.same sle
  have sH := sH.trans sle
  have fle : (upd G9 le (.lst [.ref e0, .ref e1, .ref e2, .ref e3, .ref e4, .ref e5, .ref e6, .ref e7, .ref e8])) le = some (.lst [.ref e0, .ref e1, .ref e2, .ref e3, .ref e4, .ref e5, .ref e6, .ref e7, .ref e8]) := upd_same
  generalize upd G9 le (.lst [.ref e0, .ref e1, .ref e2, .ref e3, .ref e4, .ref e5, .ref e6, .ref e7, .ref e8]) = Gle at *
  obtain ⟨d0, f0, p0, q0, w0⟩ := id r0
  obtain ⟨d1, f1, p1, q1, w1⟩ := id r1
  obtain ⟨d2, f2, p2, q2, w2⟩ := id r2
  obtain ⟨d3, f3, p3, q3, w3⟩ := id r3
  obtain ⟨d4, f4, p4, q4, w4⟩ := id r4
  refine ⟨_, rfl, e0, d0, f0, _, rfl, p0, q0, w0, _, rfl, e1, d1, f1, _, rfl, p1, q1, w1, _, rfl, e2, d2, f2, _, rfl, p2, q2, w2, _, rfl, e3, d3, f3, _, rfl, p3, q3, w3, _, rfl, e4, d4, f4, _, rfl, p4, q4, w4, Nat.le_trans (show 5 ≤ 1000 by decide) (Nat.le_of_lt (small1000 (Nat.le_refl _))), fun l5 hl5 => ?_⟩
  have sl5 := same_upd (o := .lst [a, a, a, a, a]) hl5
  have r0 := r0.same sl5
  have r1 := r1.same sl5
  have r2 := r2.same sl5
  have r3 := r3.same sl5
  have r4 := r4.same sl5
  have r5 := r5.same sl5
  have ra := ra.same sl5
  have r6 := r6.same sl5
  have r7 := r7.same sl5
  have r8 := r8.same sl5
  have r9 := r9.same sl5
  have fle := sl5 _ _ fle
  have sH := sH.trans sl5
  have fl5 : (upd Gle l5 (.lst [a, a, a, a, a])) l5 = some (.lst [a, a, a, a, a]) := upd_same
  generalize upd Gle l5 (.lst [a, a, a, a, a]) = Gl5 at *
  obtain ⟨d5, f5, p5, q5, w5⟩ := id r5
  obtain ⟨d6, f6, p6, q6, w6⟩ := id r6
  obtain ⟨d7, f7, p7, q7, w7⟩ := id r7
  obtain ⟨d8, f8, p8, q8, w8⟩ := id r8
  obtain ⟨d9, f9, p9, q9, w9⟩ := id r9
  refine ⟨_, rfl, _, rfl, e5, d5, f5, _, rfl, p5, q5, w5, _, rfl, e6, d6, f6, _, rfl, p6, q6, w6, _, rfl, e7, d7, f7, _, rfl, p7, q7, w7, _, rfl, e8, d8, f8, _, rfl, p8, q8, w8, _, rfl, e9, d9, f9, _, rfl, p9, q9, w9, Nat.le_trans (show 5 ≤ 1000 by decide) (Nat.le_of_lt (small1000 (Nat.le_refl _))), fun l6 hl6 => ?_⟩
  have sl6 := same_upd (o := .lst [a, a, a, a, a]) hl6
  have r0 := r0.same sl6
  have r1 := r1.same sl6
  have r2 := r2.same sl6
  have r3 := r3.same sl6
  have r4 := r4.same sl6
  have r5 := r5.same sl6
  have ra := ra.same sl6
  have r6 := r6.same sl6
  have r7 := r7.same sl6
  have r8 := r8.same sl6
  have r9 := r9.same sl6
  have fle := sl6 _ _ fle
  have fl5 := sl6 _ _ fl5
  have sH := sH.trans sl6
  have fl6 : (upd Gl5 l6 (.lst [a, a, a, a, a])) l6 = some (.lst [a, a, a, a, a]) := upd_same
  generalize upd Gl5 l6 (.lst [a, a, a, a, a]) = Gl6 at *
  refine ⟨l5, l6, _, _, rfl, rfl, fl5, fl6, Nat.le_trans (show 10 ≤ 1000 by decide) (Nat.le_of_lt (small1000 (Nat.le_refl _))), fun lt hlt => ?_⟩
  have slt := same_upd (o := .lst ([a, a, a, a, a] ++ [a, a, a, a, a])) hlt
  have r0 := r0.same slt
  have r1 := r1.same slt
  have r2 := r2.same slt
  have r3 := r3.same slt
  have r4 := r4.same slt
  have r5 := r5.same slt
  have ra := ra.same slt
  have r6 := r6.same slt
  have r7 := r7.same slt
  have r8 := r8.same slt
  have r9 := r9.same slt
  have fle := slt _ _ fle
  have fl5 := slt _ _ fl5
  have fl6 := slt _ _ fl6
  have sH := sH.trans slt
  have flt : (upd Gl6 lt (.lst ([a, a, a, a, a] ++ [a, a, a, a, a]))) lt = some (.lst ([a, a, a, a, a] ++ [a, a, a, a, a])) := upd_same
  generalize upd Gl6 lt (.lst ([a, a, a, a, a] ++ [a, a, a, a, a])) = Glt at *
  refine ⟨_, rfl, fun c1 hc1 => ?_⟩
  have sc1 := same_upd (o := exo c1 T.C_InvalidCommand none) hc1
  have r0 := r0.same sc1
  have r1 := r1.same sc1
  have r2 := r2.same sc1
  have r3 := r3.same sc1
  have r4 := r4.same sc1
  have r5 := r5.same sc1
  have ra := ra.same sc1
  have r6 := r6.same sc1
  have r7 := r7.same sc1
  have r8 := r8.same sc1
  have r9 := r9.same sc1
  have fle := sc1 _ _ fle
  have fl5 := sc1 _ _ fl5
  have fl6 := sc1 _ _ fl6
  have flt := sc1 _ _ flt
  have sH := sH.trans sc1
  have fc1 : (upd Glt c1 (exo c1 T.C_InvalidCommand none)) c1 = some (exo c1 T.C_InvalidCommand none) := upd_same
  generalize upd Glt c1 (exo c1 T.C_InvalidCommand none) = Gc1 at *
  intro c2 hc2
  have sc2 := same_upd (o := exo c2 T.C_TrialError none) hc2
  have r0 := r0.same sc2
  have r1 := r1.same sc2
  have r2 := r2.same sc2
  have r3 := r3.same sc2
  have r4 := r4.same sc2
  have r5 := r5.same sc2
  have ra := ra.same sc2
  have r6 := r6.same sc2
  have r7 := r7.same sc2
  have r8 := r8.same sc2
  have r9 := r9.same sc2
  have fle := sc2 _ _ fle
  have fl5 := sc2 _ _ fl5
  have fl6 := sc2 _ _ fl6
  have flt := sc2 _ _ flt
  have fc1 := sc2 _ _ fc1
  have sH := sH.trans sc2
  have fc2 : (upd Gc1 c2 (exo c2 T.C_TrialError none)) c2 = some (exo c2 T.C_TrialError none) := upd_same
  generalize upd Gc1 c2 (exo c2 T.C_TrialError none) = Gc2 at *
  refine ⟨_, rfl, Nat.le_trans (show 3 ≤ 1000 by decide) (Nat.le_of_lt (small1000 (Nat.le_refl _))), fun l3 hl3 => ?_⟩
  have sl3 := same_upd (o := .lst [.ref c1, .ref c2, .ref e9]) hl3
  have r0 := r0.same sl3
  have r1 := r1.same sl3
  have r2 := r2.same sl3
  have r3 := r3.same sl3
  have r4 := r4.same sl3
  have r5 := r5.same sl3
  have ra := ra.same sl3
  have r6 := r6.same sl3
  have r7 := r7.same sl3
  have r8 := r8.same sl3
  have r9 := r9.same sl3
  have fle := sl3 _ _ fle
  have fl5 := sl3 _ _ fl5
  have fl6 := sl3 _ _ fl6
  have flt := sl3 _ _ flt
  have fc1 := sl3 _ _ fc1
  have fc2 := sl3 _ _ fc2
  have sH := sH.trans sl3
  have fl3 : (upd Gc2 l3 (.lst [.ref c1, .ref c2, .ref e9])) l3 = some (.lst [.ref c1, .ref c2, .ref e9]) := upd_same
  generalize upd Gc2 l3 (.lst [.ref c1, .ref c2, .ref e9]) = Gl3 at *
  refine ⟨le, l3, _, _, rfl, rfl, fle, fl3, Nat.le_trans (show 12 ≤ 1000 by decide) (Nat.le_of_lt (small1000 (Nat.le_refl _))), fun lf hlf => ?_⟩
  have slf := same_upd (o := .lst ([.ref e0, .ref e1, .ref e2, .ref e3, .ref e4, .ref e5, .ref e6, .ref e7, .ref e8] ++ [.ref c1, .ref c2, .ref e9])) hlf
  have r0 := r0.same slf
  have r1 := r1.same slf
  have r2 := r2.same slf
  have r3 := r3.same slf
  have r4 := r4.same slf
  have r5 := r5.same slf
  have ra := ra.same slf
  have r6 := r6.same slf
  have r7 := r7.same slf
  have r8 := r8.same slf
  have r9 := r9.same slf
  have fle := slf _ _ fle
  have fl5 := slf _ _ fl5
  have fl6 := slf _ _ fl6
  have flt := slf _ _ flt
  have fc1 := slf _ _ fc1
  have fc2 := slf _ _ fc2
  have fl3 := slf _ _ fl3
  have sH := sH.trans slf
  have flf : (upd Gl3 lf (.lst ([.ref e0, .ref e1, .ref e2, .ref e3, .ref e4, .ref e5, .ref e6, .ref e7, .ref e8] ++ [.ref c1, .ref c2, .ref e9]))) lf = some (.lst ([.ref e0, .ref e1, .ref e2, .ref e3, .ref e4, .ref e5, .ref e6, .ref e7, .ref e8] ++ [.ref c1, .ref c2, .ref e9])) := upd_same
  generalize upd Gl3 lf (.lst ([.ref e0, .ref e1, .ref e2, .ref e3, .ref e4, .ref e5, .ref e6, .ref e7, .ref e8] ++ [.ref c1, .ref c2, .ref e9])) = Glf at *
  obtain ⟨d5, f5, p5, q5, w5⟩ := id ra
  refine ⟨_, rfl, _, rfl, e5, d5, f5, _, rfl, p5, q5, w5, Nat.le_trans (show 3 ≤ 1000 by decide) (Nat.le_of_lt (small1000 (Nat.le_refl _))), fun t ht => ?_⟩
  have st := same_upd (o := .tup [.ref lf, .ref lt, b]) ht
  have r0 := r0.same st
  have r1 := r1.same st
  have r2 := r2.same st
  have r3 := r3.same st
  have r4 := r4.same st
  have r5 := r5.same st
  have ra := ra.same st
  have r6 := r6.same st
  have r7 := r7.same st
  have r8 := r8.same st
  have r9 := r9.same st
  have fle := st _ _ fle
  have fl5 := st _ _ fl5
  have fl6 := st _ _ fl6
  have flt := st _ _ flt
  have fc1 := st _ _ fc1
  have fc2 := st _ _ fc2
  have fl3 := st _ _ fl3
  have flf := st _ _ flf
  have sH := sH.trans st
  have ft : (upd Glf t (.tup [.ref lf, .ref lt, b])) t = some (.tup [.ref lf, .ref lt, b]) := upd_same
  generalize upd Glf t (.tup [.ref lf, .ref lt, b]) = Gt at *
  refine fin t _ sH ⟨lf, lt, [e0, e1, e2, e3, e4, e5, e6, e7, e8, c1, c2, e9], ft, flf, flt, rfl, fun j e hj => ?_⟩
  rcases j with _ | _ | _ | _ | _ | _ | _ | _ | _ | _ | _ | _ | j
  · cases hj; exact r0.at_
  · cases hj; exact r1.at_
  · cases hj; exact r2.at_
  · cases hj; exact r3.at_
  · cases hj; exact r4.at_
  · cases hj; exact r5.at_
  · cases hj; exact r6.at_
  · cases hj; exact r7.at_
  · cases hj; exact r8.at_
  · cases hj; exact ⟨none, fc1, .inl rfl⟩
  · cases hj; exact ⟨none, fc2, .inl rfl⟩
  · cases hj; exact r9.at_
  · simp at hj
end

/-! ### of which classes an error is an instance -/
def bitsV (j : Nat) : List V := [.bl (decide (j = 0)), .bl (decide (j = 1)), .bl (decide (j = 2)), .bl (decide (j = 3)), .bl (decide (j = 4)), .bl (decide (j = 5)), .bl (decide (j = 6)), .bl (decide (j = 7)), .bl (decide (j = 8)), .bl (decide (j = 9)), .bl (decide (j = 10)), .bl (decide (j = 11))]
def basesV (j : Nat) : List V := [.bl (decide (j ≠ 11)), .bl (decide (j ≠ 11)), .bl (decide (j = 11)), .bl false]
def spKinds {K : PySem.W.Frag} {mg : Str → Option Value} (T : Txt K mg) : Sp := fun vs H Q _ => ∃ (e : Addr) (j : Nat), vs = [.ref e] ∧ j < 12 ∧ ErrAt (errC T j) H e ∧ ∀ t l1 l2 H', Same H H' → H' t = some (.tup [.ref l1, .ref l2]) → H' l1 = some (.lst (bitsV j)) → H' l2 = some (.lst (basesV j)) → Q (.ref t) H'
section
variable {P : Program} {w : World} {K : PySem.W.Frag} {mg : Str → Option Value} {base : Heap}
set_option maxHeartbeats 8000000 in
theorem ok_kinds (T : Txt K mg) : FnOk P w K mg base CX0 2 T.f_lw_kinds T.d_lw_kinds ["_law_e"] (spKinds T) := by
  have nd := sc_lw_kinds.nd
  refine T.F_lw_kinds.ok sc_lw_kinds (fun vs H Q E ⟨_, _, e, _⟩ => by rw [e]; rfl) (fun cdv A outer s H vs Q E hr h => ?_)
  obtain ⟨e, j, rfl, hj, ⟨d, ed, hd⟩, fin⟩ := h
  refine ⟨_, (pss_cons (ps_set (i := 1) nd rfl (.inl rfl) (pe_lst (by exact (pa_cons (pe_callB PmX.call_isV (by rfl) T.b_isinstance (by decide +kernel) (pa_cons (pv 0) (pa_cons (pe_glob (v := .ref T.C_InvalidNumber) (by rfl) T.g_InvalidNumber rfl) pa_nil))) (pa_cons (pe_callB PmX.call_isV (by rfl) T.b_isinstance (by decide +kernel) (pa_cons (pv 0) (pa_cons (pe_glob (v := .ref T.C_InvalidDrop) (by rfl) T.g_InvalidDrop rfl) pa_nil))) (pa_cons (pe_callB PmX.call_isV (by rfl) T.b_isinstance (by decide +kernel) (pa_cons (pv 0) (pa_cons (pe_glob (v := .ref T.C_InvalidTime) (by rfl) T.g_InvalidTime rfl) pa_nil))) pa_nil))))))
      (pss_cons (ps_set (i := 1) nd rfl (.inl rfl) (pe_op op_cat (pv 1) (pe_lst (by exact (pa_cons (pe_callB PmX.call_isV (by rfl) T.b_isinstance (by decide +kernel) (pa_cons (pv 0) (pa_cons (pe_glob (v := .ref T.C_InvalidText) (by rfl) T.g_InvalidText rfl) pa_nil))) (pa_cons (pe_callB PmX.call_isV (by rfl) T.b_isinstance (by decide +kernel) (pa_cons (pv 0) (pa_cons (pe_glob (v := .ref T.C_Full) (by rfl) T.g_Full rfl) pa_nil))) (pa_cons (pe_callB PmX.call_isV (by rfl) T.b_isinstance (by decide +kernel) (pa_cons (pv 0) (pa_cons (pe_glob (v := .ref T.C_MissingDrop) (by rfl) T.g_MissingDrop rfl) pa_nil))) pa_nil)))))))
      (pss_cons (ps_set (i := 1) nd rfl (.inl rfl) (pe_op op_cat (pv 1) (pe_lst (by exact (pa_cons (pe_callB PmX.call_isV (by rfl) T.b_isinstance (by decide +kernel) (pa_cons (pv 0) (pa_cons (pe_glob (v := .ref T.C_Touching) (by rfl) T.g_Touching rfl) pa_nil))) (pa_cons (pe_callB PmX.call_isV (by rfl) T.b_isinstance (by decide +kernel) (pa_cons (pv 0) (pa_cons (pe_glob (v := .ref T.C_OutOfGround) (by rfl) T.g_OutOfGround rfl) pa_nil))) (pa_cons (pe_callB PmX.call_isV (by rfl) T.b_isinstance (by decide +kernel) (pa_cons (pv 0) (pa_cons (pe_glob (v := .ref T.C_Overfull) (by rfl) T.g_Overfull rfl) pa_nil))) pa_nil)))))))
      (pss_cons (ps_set (i := 1) nd rfl (.inl rfl) (pe_op op_cat (pv 1) (pe_lst (by exact (pa_cons (pe_callB PmX.call_isV (by rfl) T.b_isinstance (by decide +kernel) (pa_cons (pv 0) (pa_cons (pe_glob (v := .ref T.C_InvalidCommand) (by rfl) T.g_InvalidCommand rfl) pa_nil))) (pa_cons (pe_callB PmX.call_isV (by rfl) T.b_isinstance (by decide +kernel) (pa_cons (pv 0) (pa_cons (pe_glob (v := .ref T.C_TrialError) (by rfl) T.g_TrialError rfl) pa_nil))) (pa_cons (pe_callB PmX.call_isV (by rfl) T.b_isinstance (by decide +kernel) (pa_cons (pv 0) (pa_cons (pe_glob (v := .ref T.C_UnknownIndex) (by rfl) T.g_UnknownIndex rfl) pa_nil))) pa_nil)))))))
      (pss_cons (ps_set (i := 2) nd rfl (.inl rfl) (pe_lst (by exact (pa_cons (pe_callB PmX.call_isV (by rfl) T.b_isinstance (by decide +kernel) (pa_cons (pv 0) (pa_cons (pe_glob (v := .ref T.C_PoolError) (by rfl) T.g_PoolError rfl) pa_nil))) (pa_cons (pe_callB PmX.call_isV (by rfl) T.b_isinstance (by decide +kernel) (pa_cons (pv 0) (pa_cons (pe_bltn (v := .ty "ValueError") (u := .type "ValueError") (by rfl) T.b_ValueError (by decide +kernel) rfl) pa_nil))) (pa_cons (pe_callB PmX.call_isV (by rfl) T.b_isinstance (by decide +kernel) (pa_cons (pv 0) (pa_cons (pe_bltn (v := .ty "IndexError") (u := .type "IndexError") (by rfl) T.b_IndexError (by decide +kernel) rfl) pa_nil))) (pa_cons (pe_callB PmX.call_isV (by rfl) T.b_isinstance (by decide +kernel) (pa_cons (pv 0) (pa_cons (pe_bltn (v := .ty "KeyError") (u := .type "KeyError") (by rfl) T.b_KeyError (by decide +kernel) rfl) pa_nil))) pa_nil)))))))
      (pss_one (ps_ret (pe_tup (by exact (pa_cons (pv 1) (pa_cons (pv 2) pa_nil))))))))))), ?_⟩
  have sH := Same.refl H
  refine ⟨_, rfl, e, errC T j, d, _, _, _, rfl, errEc T j hj, ed, hd, .own _, errKit T (j := j) (k := 0) hj (by decide), _, rfl, e, errC T j, d, _, _, _, rfl, errEc T j hj, ed, hd, .own _, errKit T (j := j) (k := 1) hj (by decide), _, rfl, e, errC T j, d, _, _, _, rfl, errEc T j hj, ed, hd, .own _, errKit T (j := j) (k := 2) hj (by decide), Nat.le_trans (show 3 ≤ 1000 by decide) (Nat.le_of_lt (small1000 (Nat.le_refl _))), fun a1 ha1 => ?_⟩
  have sa1 := same_upd (o := .lst [.bl (decide (j = 0)), .bl (decide (j = 1)), .bl (decide (j = 2))]) ha1
  have sH := sH.trans sa1
  have fa1 : (upd H a1 (.lst [.bl (decide (j = 0)), .bl (decide (j = 1)), .bl (decide (j = 2))])) a1 = some (.lst [.bl (decide (j = 0)), .bl (decide (j = 1)), .bl (decide (j = 2))]) := upd_same
  obtain ⟨d, ed, hd⟩ := (show ErrAt (errC T j) H e from ⟨d, ed, hd⟩).same sa1
  generalize upd H a1 (.lst [.bl (decide (j = 0)), .bl (decide (j = 1)), .bl (decide (j = 2))]) = Ga1 at *
  refine ⟨_, rfl, _, rfl, e, errC T j, d, _, _, _, rfl, errEc T j hj, ed, hd, .own _, errKit T (j := j) (k := 3) hj (by decide), _, rfl, e, errC T j, d, _, _, _, rfl, errEc T j hj, ed, hd, .own _, errKit T (j := j) (k := 4) hj (by decide), _, rfl, e, errC T j, d, _, _, _, rfl, errEc T j hj, ed, hd, .own _, errKit T (j := j) (k := 5) hj (by decide), Nat.le_trans (show 3 ≤ 1000 by decide) (Nat.le_of_lt (small1000 (Nat.le_refl _))), fun b2 hb2 => ?_⟩
  have sb2 := same_upd (o := .lst [.bl (decide (j = 3)), .bl (decide (j = 4)), .bl (decide (j = 5))]) hb2
  have fa1 := sb2 _ _ fa1
  have sH := sH.trans sb2
  have fb2 : (upd Ga1 b2 (.lst [.bl (decide (j = 3)), .bl (decide (j = 4)), .bl (decide (j = 5))])) b2 = some (.lst [.bl (decide (j = 3)), .bl (decide (j = 4)), .bl (decide (j = 5))]) := upd_same
  obtain ⟨d, ed, hd⟩ := (show ErrAt (errC T j) Ga1 e from ⟨d, ed, hd⟩).same sb2
  generalize upd Ga1 b2 (.lst [.bl (decide (j = 3)), .bl (decide (j = 4)), .bl (decide (j = 5))]) = Gb2 at *
  refine ⟨a1, b2, _, _, rfl, rfl, fa1, fb2, Nat.le_trans (show 6 ≤ 1000 by decide) (Nat.le_of_lt (small1000 (Nat.le_refl _))), fun a2 ha2 => ?_⟩
  have sa2 := same_upd (o := .lst ([.bl (decide (j = 0)), .bl (decide (j = 1)), .bl (decide (j = 2))] ++ [.bl (decide (j = 3)), .bl (decide (j = 4)), .bl (decide (j = 5))])) ha2
  have fa1 := sa2 _ _ fa1
  have fb2 := sa2 _ _ fb2
  have sH := sH.trans sa2
  have fa2 : (upd Gb2 a2 (.lst ([.bl (decide (j = 0)), .bl (decide (j = 1)), .bl (decide (j = 2))] ++ [.bl (decide (j = 3)), .bl (decide (j = 4)), .bl (decide (j = 5))]))) a2 = some (.lst ([.bl (decide (j = 0)), .bl (decide (j = 1)), .bl (decide (j = 2))] ++ [.bl (decide (j = 3)), .bl (decide (j = 4)), .bl (decide (j = 5))])) := upd_same
  obtain ⟨d, ed, hd⟩ := (show ErrAt (errC T j) Gb2 e from ⟨d, ed, hd⟩).same sa2
  generalize upd Gb2 a2 (.lst ([.bl (decide (j = 0)), .bl (decide (j = 1)), .bl (decide (j = 2))] ++ [.bl (decide (j = 3)), .bl (decide (j = 4)), .bl (decide (j = 5))])) = Ga2 at *
  refine ⟨_, rfl, _, rfl, e, errC T j, d, _, _, _, rfl, errEc T j hj, ed, hd, .own _, errKit T (j := j) (k := 6) hj (by decide), _, rfl, e, errC T j, d, _, _, _, rfl, errEc T j hj, ed, hd, .own _, errKit T (j := j) (k := 7) hj (by decide), _, rfl, e, errC T j, d, _, _, _, rfl, errEc T j hj, ed, hd, .own _, errKit T (j := j) (k := 8) hj (by decide), Nat.le_trans (show 3 ≤ 1000 by decide) (Nat.le_of_lt (small1000 (Nat.le_refl _))), fun b3 hb3 => ?_⟩
  have sb3 := same_upd (o := .lst [.bl (decide (j = 6)), .bl (decide (j = 7)), .bl (decide (j = 8))]) hb3
  have fa1 := sb3 _ _ fa1
  have fb2 := sb3 _ _ fb2
  have fa2 := sb3 _ _ fa2
  have sH := sH.trans sb3
  have fb3 : (upd Ga2 b3 (.lst [.bl (decide (j = 6)), .bl (decide (j = 7)), .bl (decide (j = 8))])) b3 = some (.lst [.bl (decide (j = 6)), .bl (decide (j = 7)), .bl (decide (j = 8))]) := upd_same
  obtain ⟨d, ed, hd⟩ := (show ErrAt (errC T j) Ga2 e from ⟨d, ed, hd⟩).same sb3
  generalize upd Ga2 b3 (.lst [.bl (decide (j = 6)), .bl (decide (j = 7)), .bl (decide (j = 8))]) = Gb3 at *
  refine ⟨a2, b3, _, _, rfl, rfl, fa2, fb3, Nat.le_trans (show 9 ≤ 1000 by decide) (Nat.le_of_lt (small1000 (Nat.le_refl _))), fun a3 ha3 => ?_⟩
  have sa3 := same_upd (o := .lst (([.bl (decide (j = 0)), .bl (decide (j = 1)), .bl (decide (j = 2))] ++ [.bl (decide (j = 3)), .bl (decide (j = 4)), .bl (decide (j = 5))]) ++ [.bl (decide (j = 6)), .bl (decide (j = 7)), .bl (decide (j = 8))])) ha3
  have fa1 := sa3 _ _ fa1
  have fb2 := sa3 _ _ fb2
  have fa2 := sa3 _ _ fa2
  have fb3 := sa3 _ _ fb3
  have sH := sH.trans sa3
  have fa3 : (upd Gb3 a3 (.lst (([.bl (decide (j = 0)), .bl (decide (j = 1)), .bl (decide (j = 2))] ++ [.bl (decide (j = 3)), .bl (decide (j = 4)), .bl (decide (j = 5))]) ++ [.bl (decide (j = 6)), .bl (decide (j = 7)), .bl (decide (j = 8))]))) a3 = some (.lst (([.bl (decide (j = 0)), .bl (decide (j = 1)), .bl (decide (j = 2))] ++ [.bl (decide (j = 3)), .bl (decide (j = 4)), .bl (decide (j = 5))]) ++ [.bl (decide (j = 6)), .bl (decide (j = 7)), .bl (decide (j = 8))])) := upd_same
  obtain ⟨d, ed, hd⟩ := (show ErrAt (errC T j) Gb3 e from ⟨d, ed, hd⟩).same sa3
  generalize upd Gb3 a3 (.lst (([.bl (decide (j = 0)), .bl (decide (j = 1)), .bl (decide (j = 2))] ++ [.bl (decide (j = 3)), .bl (decide (j = 4)), .bl (decide (j = 5))]) ++ [.bl (decide (j = 6)), .bl (decide (j = 7)), .bl (decide (j = 8))])) = Ga3 at *
  refine ⟨_, rfl, _, rfl, e, errC T j, d, _, _, _, rfl, errEc T j hj, ed, hd, .own _, errKit T (j := j) (k := 9) hj (by decide), _, rfl, e, errC T j, d, _, _, _, rfl, errEc T j hj, ed, hd, .own _, errKit T (j := j) (k := 10) hj (by decide), _, rfl, e, errC T j, d, _, _, _, rfl, errEc T j hj, ed, hd, .own _, errKit T (j := j) (k := 11) hj (by decide), Nat.le_trans (show 3 ≤ 1000 by decide) (Nat.le_of_lt (small1000 (Nat.le_refl _))), fun b4 hb4 => ?_⟩
  have sb4 := same_upd (o := .lst [.bl (decide (j = 9)), .bl (decide (j = 10)), .bl (decide (j = 11))]) hb4
  have fa1 := sb4 _ _ fa1
  have fb2 := sb4 _ _ fb2
  have fa2 := sb4 _ _ fa2
  have fb3 := sb4 _ _ fb3
  have fa3 := sb4 _ _ fa3
  have sH := sH.trans sb4
  have fb4 : (upd Ga3 b4 (.lst [.bl (decide (j = 9)), .bl (decide (j = 10)), .bl (decide (j = 11))])) b4 = some (.lst [.bl (decide (j = 9)), .bl (decide (j = 10)), .bl (decide (j = 11))]) := upd_same
  obtain ⟨d, ed, hd⟩ := (show ErrAt (errC T j) Ga3 e from ⟨d, ed, hd⟩).same sb4
  generalize upd Ga3 b4 (.lst [.bl (decide (j = 9)), .bl (decide (j = 10)), .bl (decide (j = 11))]) = Gb4 at *
  refine ⟨a3, b4, _, _, rfl, rfl, fa3, fb4, Nat.le_trans (show 12 ≤ 1000 by decide) (Nat.le_of_lt (small1000 (Nat.le_refl _))), fun a4 ha4 => ?_⟩
  have sa4 := same_upd (o := .lst ((([.bl (decide (j = 0)), .bl (decide (j = 1)), .bl (decide (j = 2))] ++ [.bl (decide (j = 3)), .bl (decide (j = 4)), .bl (decide (j = 5))]) ++ [.bl (decide (j = 6)), .bl (decide (j = 7)), .bl (decide (j = 8))]) ++ [.bl (decide (j = 9)), .bl (decide (j = 10)), .bl (decide (j = 11))])) ha4
  have fa1 := sa4 _ _ fa1
  have fb2 := sa4 _ _ fb2
  have fa2 := sa4 _ _ fa2
  have fb3 := sa4 _ _ fb3
  have fa3 := sa4 _ _ fa3
  have fb4 := sa4 _ _ fb4
  have sH := sH.trans sa4
  have fa4 : (upd Gb4 a4 (.lst ((([.bl (decide (j = 0)), .bl (decide (j = 1)), .bl (decide (j = 2))] ++ [.bl (decide (j = 3)), .bl (decide (j = 4)), .bl (decide (j = 5))]) ++ [.bl (decide (j = 6)), .bl (decide (j = 7)), .bl (decide (j = 8))]) ++ [.bl (decide (j = 9)), .bl (decide (j = 10)), .bl (decide (j = 11))]))) a4 = some (.lst ((([.bl (decide (j = 0)), .bl (decide (j = 1)), .bl (decide (j = 2))] ++ [.bl (decide (j = 3)), .bl (decide (j = 4)), .bl (decide (j = 5))]) ++ [.bl (decide (j = 6)), .bl (decide (j = 7)), .bl (decide (j = 8))]) ++ [.bl (decide (j = 9)), .bl (decide (j = 10)), .bl (decide (j = 11))])) := upd_same
  obtain ⟨d, ed, hd⟩ := (show ErrAt (errC T j) Gb4 e from ⟨d, ed, hd⟩).same sa4
  generalize upd Gb4 a4 (.lst ((([.bl (decide (j = 0)), .bl (decide (j = 1)), .bl (decide (j = 2))] ++ [.bl (decide (j = 3)), .bl (decide (j = 4)), .bl (decide (j = 5))]) ++ [.bl (decide (j = 6)), .bl (decide (j = 7)), .bl (decide (j = 8))]) ++ [.bl (decide (j = 9)), .bl (decide (j = 10)), .bl (decide (j = 11))])) = Ga4 at *
  refine ⟨_, rfl, e, errC T j, d, _, _, _, rfl, errEc T j hj, ed, hd, .own _, errPe T j hj, _, rfl, e, errC T j, d, _, _, _, rfl, errEc T j hj, ed, hd, .ty _, errValueError T j hj, _, rfl, e, errC T j, d, _, _, _, rfl, errEc T j hj, ed, hd, .ty _, errIndexError T j hj, _, rfl, e, errC T j, d, _, _, _, rfl, errEc T j hj, ed, hd, .ty _, errKeyError T j hj, Nat.le_trans (show 4 ≤ 1000 by decide) (Nat.le_of_lt (small1000 (Nat.le_refl _))), fun c1 hc1 => ?_⟩
  have sc1 := same_upd (o := .lst [.bl (decide (j ≠ 11)), .bl (decide (j ≠ 11)), .bl (decide (j = 11)), .bl false]) hc1
  have fa1 := sc1 _ _ fa1
  have fb2 := sc1 _ _ fb2
  have fa2 := sc1 _ _ fa2
  have fb3 := sc1 _ _ fb3
  have fa3 := sc1 _ _ fa3
  have fb4 := sc1 _ _ fb4
  have fa4 := sc1 _ _ fa4
  have sH := sH.trans sc1
  have fc1 : (upd Ga4 c1 (.lst [.bl (decide (j ≠ 11)), .bl (decide (j ≠ 11)), .bl (decide (j = 11)), .bl false])) c1 = some (.lst [.bl (decide (j ≠ 11)), .bl (decide (j ≠ 11)), .bl (decide (j = 11)), .bl false]) := upd_same
  obtain ⟨d, ed, hd⟩ := (show ErrAt (errC T j) Ga4 e from ⟨d, ed, hd⟩).same sc1
  generalize upd Ga4 c1 (.lst [.bl (decide (j ≠ 11)), .bl (decide (j ≠ 11)), .bl (decide (j = 11)), .bl false]) = Gc1 at *
  refine ⟨_, rfl, _, rfl, Nat.le_trans (show 2 ≤ 1000 by decide) (Nat.le_of_lt (small1000 (Nat.le_refl _))), fun t ht => ?_⟩
  have st := same_upd (o := .tup [.ref a4, .ref c1]) ht
  have fa1 := st _ _ fa1
  have fb2 := st _ _ fb2
  have fa2 := st _ _ fa2
  have fb3 := st _ _ fb3
  have fa3 := st _ _ fa3
  have fb4 := st _ _ fb4
  have fa4 := st _ _ fa4
  have fc1 := st _ _ fc1
  have sH := sH.trans st
  have ft : (upd Gc1 t (.tup [.ref a4, .ref c1])) t = some (.tup [.ref a4, .ref c1]) := upd_same
  obtain ⟨d, ed, hd⟩ := (show ErrAt (errC T j) Gc1 e from ⟨d, ed, hd⟩).same st
  generalize upd Gc1 t (.tup [.ref a4, .ref c1]) = Gt at *
  exact fin t a4 c1 _ sH ft fa4 fc1
end

/-! ### all errors and their attributes -/
theorem ref_get' {ts : List Addr} {i : Nat} {x : V} (h : (ts.map V.ref)[i]? = some x) : ∃ t, ts[i]? = some t ∧ x = .ref t := by
  rw [List.getElem?_map] at h
  cases e : ts[i]? with
  | none => rw [e] at h; cases h
  | some t => rw [e] at h; exact ⟨t, rfl, (Option.some.inj h).symm⟩
theorem dp_bls {K : PySem.W.Frag} {H : Hp} : ∀ bs : List Bool, DpAll K H (bs.map V.bl) (bs.map PyData.bool)
  | [] => .nil
  | b :: bs => .cons (.bl b) (dp_bls bs)
def bitsB (j : Nat) : List Bool := [decide (j = 0), decide (j = 1), decide (j = 2), decide (j = 3), decide (j = 4), decide (j = 5), decide (j = 6), decide (j = 7), decide (j = 8), decide (j = 9), decide (j = 10), decide (j = 11)]
def basesB (j : Nat) : List Bool := [decide (j ≠ 11), decide (j ≠ 11), decide (j = 11), false]
theorem dec_nat {i j : Nat} : decide (V.int (i : Int) = V.int (j : Int)) = decide (i = j) := by
  rw [Bool.eq_iff_iff]; simp; omega
theorem int_at {i : Nat} : (if decide (V.int (i : Int) = V.int 11) = true then (1 : Int) else 0) = if i = 11 then 1 else 0 := by
  rw [show decide (V.int (i : Int) = V.int 11) = decide (i = 11) from dec_nat (j := 11)]
  by_cases c : i = 11
  · rw [if_pos (decide_eq_true c), if_pos c]
  · rw [if_neg (by rw [decide_eq_false c]; exact Bool.noConfusion), if_neg c]
def spRight {K : PySem.W.Frag} {mg : Str → Option Value} (T : Txt K mg) : Sp := fun vs H Q _ => ∃ (le lt : Addr) (a b : V) (es : List Addr), vs = [.ref le, .ref lt, b, a, b] ∧ H le = some (.lst (es.map V.ref)) ∧ H lt = some (.lst [a, a, a, a, a, a, a, a, a, a]) ∧ es.length = 12 ∧ (∀ (j : Nat) (e : Addr), es[j]? = some e → ErrAt (errC T j) H e) ∧
  Vt K T.C_Ratio 3 H a ∧ Vt K T.C_Ratio 3 H b ∧ ∀ H', Same H H' → Q (.bl true) H'
section
variable {P : Program} {w : World} {K : PySem.W.Frag} {mg : Str → Option Value} {base : Heap}
set_option maxHeartbeats 8000000 in
theorem ok_right (T : Txt K mg) : FnG P w K mg base CX0 13 T.f_lw_right T.d_lw_right ["_law_errors", "_law_told", "_law_second", "_law_a", "_law_b"] (spRight T) := by
  have nd := sc_lw_right.nd
  refine go0 T.F_lw_right sc_lw_right (fun vs H Q E ⟨_, _, _, _, _, e, _⟩ => by rw [e]; rfl) (fun cdv A outer s H vs Q E gg hr h => ?_)
  obtain ⟨le, lt, a, b, es, rfl, ee, et, l12, hE, ha, hb, fin⟩ := h
  refine ⟨_, (pss_cons (ps_for PassesOwn.never rfl (pi_enum (by rfl) T.b_enumerate (pa_cons (pv 0) pa_nil)) (pg_tup rfl (pgs_cons (pg_name (i := 5) nd rfl (.inr rfl)) (pgs_cons (pg_name (i := 6) nd rfl (.inl rfl)) pgs_nil)))
      (pss_cons (ps_asg (pe_f (E := fun _ => E0) (ok_kinds T) (hr.mono (by decide)) (by rfl) T.g_lw_kinds T.F_lw_kinds.kp T.B_lw_kinds (fun _ => at0) (pa_cons (pv 6) pa_nil)) (pg_tup rfl (pgs_cons (pg_name (i := 7) nd rfl (.inl rfl)) (pgs_cons (pg_name (i := 8) nd rfl (.inl rfl)) pgs_nil))))
      (pss_cons (ps_if (pt_cmpR (op_neD hr.units) (pv 7) (pe_lc (own := [("_law_k", 9)]) (g := gName 9) (tt := tYes) (te := tOp rEq (tVar 5) (tVar 9)) rfl nd (pi_range1 (by rfl) T.b_range (pa_cons pe_int pa_nil)) (blkOk_by (own := [("_law_k", 9)]) (N := ["_law_errors", "_law_told", "_law_second", "_law_a", "_law_b", "_law_at", "_law_error", "_law_found", "_law_bases", "_law_k", "_law_one"]) (sc := defScope s_lw_right) (by decide +kernel)) (fun _ _ _ _ _ => (pg_name (i := 9) nd rfl (.inl rfl))) (fun _ _ _ _ _ => pts_nil) (fun _ _ _ _ _ => (pe_cmpR op_eq (pv 5) (pv 9) (nomark _)))) (nomark _)) (pss_one (ps_ret pe_bl)) pss_nil)
      (pss_one (ps_if (pt_cmpR (op_neD hr.units) (pv 8) (pe_ix ix_list (pe_lst (by exact (pa_cons (pe_lst (by exact (pa_cons pe_bl (pa_cons pe_bl (pa_cons pe_bl (pa_cons pe_bl pa_nil)))))) (pa_cons (pe_lst (by exact (pa_cons pe_bl (pa_cons pe_bl (pa_cons pe_bl (pa_cons pe_bl pa_nil)))))) pa_nil)))) (pe_callTy call_int1 (by rfl) T.b_int (by decide +kernel) (pa_cons (pe_cmpR op_eq (pv 5) pe_int (nomark _)) pa_nil)) (fun _ _ => rfl)) (nomark _)) (pss_one (ps_ret pe_bl)) pss_nil)))))
      (pss_one (ps_ret (pe_and (pe_callB (cr_all rfl) (by rfl) T.b_all (by decide +kernel) (pa_cons (pe_lc (own := [("_law_one", 10)]) (g := gName 10) (tt := tYes) (te := tCl (spAlike K T.C_Ratio 3) (fun _ => E0) (tCons (tVar 10) (tCons (tVar 3) tNil))) rfl nd (pi_list (pv 1)) (blkOk_by (own := [("_law_one", 10)]) (N := ["_law_errors", "_law_told", "_law_second", "_law_a", "_law_b", "_law_at", "_law_error", "_law_found", "_law_bases", "_law_k", "_law_one"]) (sc := defScope s_lw_right) (by decide +kernel)) (fun _ _ _ _ _ => (pg_name (i := 10) nd rfl (.inl rfl))) (fun _ _ _ _ _ => pts_nil) (fun _ _ _ _ _ => (pe_g (E := fun _ => E0) gg (ok_alike T 3) (hr.mono (by decide)) (by rfl) T.g_lw_alike T.F_lw_alike.kp T.B_lw_alike (fun _ => at0) (pa_cons (pv 10) (pa_cons (pv 3) pa_nil))))) pa_nil)) (pe_one (pe_g (E := fun _ => E0) gg (ok_alike T 3) (hr.mono (by decide)) (by rfl) T.g_lw_alike T.F_lw_alike.kp T.B_lw_alike (fun _ => at0) (pa_cons (pv 2) (pa_cons (pv 4) pa_nil)))))))), ?_⟩
  refine ⟨_, rfl, le, _, rfl, SqL.of ee, for_it (walk_enum (xs := es.map V.ref)) (fun i σ' G => Same H G ∧ ∃ (v5 v6 v7 v8 v9 v10 : Option V), σ' = [some (.ref le), some (.ref lt), some b, some a, some b, v5, v6, v7, v8, v9, v10])
    ⟨Same.refl H, _, _, _, _, _, _, rfl⟩ (fun i σ' G _ h => SqL.of (h.1 _ _ ee)) ?_ ?_⟩
  · rintro i x σ' G1 G2 hi ⟨sG, v5, v6, v7, v8, v9, v10, rfl⟩ ⟨tz, x1, x2, rfl, nz, rfl, e1, e2⟩
    cases e1
    rw [List.length_map, l12] at hi
    obtain ⟨e, ei, rfl⟩ := ref_get' e2
    have sz := sG.trans (same_upd (o := .tup [.int (i : Nat), .ref e]) nz)
    refine ⟨tz, _, rfl, SqT.of upd_same, rfl, _, _, rfl, _, _, rfl, rfl, ?_⟩
    generalize upd G1 tz (.tup [.int (i : Nat), .ref e]) = G3 at *
    refine ⟨_, rfl, e, i, rfl, hi, (hE i e ei).same sz, fun t l1 l2 G4 s4 f1 f2 f3 => ⟨t, _, rfl, SqT.of f1, rfl, _, _, rfl, _, _, rfl, rfl, ?_⟩⟩
    have s04 := sz.trans s4
    refine ⟨_, rfl, _, rfl, by decide, by decide, fun D hD => lc_range (lo := 0) (n := 12) (fun k G => Same G4 G ∧ G D = some (.lst ((List.range k).map fun m => V.bl (decide (i = m))))) ⟨same_upd hD, upd_same⟩ ?_ ?_⟩
    · rintro k G hk ⟨s5, eD⟩
      refine ⟨rfl, ?_⟩
      unfold tYes
      refine iteT ⟨_, rfl, _, rfl, rfl, _, eD, by rw [List.length_map, List.length_range]; exact small1000 (by omega), fun bb o e => ?_, ?_⟩
      · rw [upd_ne (ne_of_none e hD)]
        exact s5 _ _ e
      · rw [upd_same, List.range_succ, List.map_append]
        rw [show decide (V.int (i : Int) = V.int (0 + (k : Int))) = decide (i = k) by rw [Int.zero_add]; exact dec_nat]
        rfl
    rintro G5 ⟨s5, eD⟩
    have eD : G5 D = some (.lst ((bitsB i).map V.bl)) := eD
    have f2 : G5 l1 = some (.lst ((bitsB i).map V.bl)) := s5 _ _ f2
    have s05 := s04.trans s5
    have f3 : G5 l2 = some (.lst ((basesB i).map V.bl)) := s5 _ _ f3
    refine ⟨.list ((bitsB i).map PyData.bool), .list ((bitsB i).map PyData.bool), .lst (SqL.of f2) (dp_bls _), .lst (SqL.of eD) (dp_bls _), rfl, rfl, _, rfl, if_false_ (by rw [SeqAt.eqv_refl _ rfl]; rfl) ?_⟩
    refine ⟨_, rfl, Nat.le_trans (show 4 ≤ 1000 by decide) (Nat.le_of_lt (small1000 (Nat.le_refl _))), fun p1 hp1 => ?_⟩
    have q1 : (upd G5 p1 (.lst [.bl true, .bl true, .bl false, .bl false])) p1 = some (.lst [.bl true, .bl true, .bl false, .bl false]) := upd_same
    have s6 := same_upd (o := .lst [.bl true, .bl true, .bl false, .bl false]) hp1
    have f3 := s6 _ _ f3
    have s06 := s05.trans s6
    generalize upd G5 p1 (.lst [.bl true, .bl true, .bl false, .bl false]) = G6 at *
    refine ⟨Nat.le_trans (show 4 ≤ 1000 by decide) (Nat.le_of_lt (small1000 (Nat.le_refl _))), fun p2 hp2 => ?_⟩
    have q2 : (upd G6 p2 (.lst [.bl false, .bl false, .bl true, .bl false])) p2 = some (.lst [.bl false, .bl false, .bl true, .bl false]) := upd_same
    have s7 := same_upd (o := .lst [.bl false, .bl false, .bl true, .bl false]) hp2
    have f3 := s7 _ _ f3
    have q1 := s7 _ _ q1
    have s07 := s06.trans s7
    generalize upd G6 p2 (.lst [.bl false, .bl false, .bl true, .bl false]) = G7 at *
    refine ⟨Nat.le_trans (show 2 ≤ 1000 by decide) (Nat.le_of_lt (small1000 (Nat.le_refl _))), fun p3 hp3 => ?_⟩
    have q3 : (upd G7 p3 (.lst [.ref p1, .ref p2])) p3 = some (.lst [.ref p1, .ref p2]) := upd_same
    have s8 := same_upd (o := .lst [.ref p1, .ref p2]) hp3
    have f3 := s8 _ _ f3
    have q1 := s8 _ _ q1
    have q2 := s8 _ _ q2
    have s08 := s07.trans s8
    generalize upd G7 p3 (.lst [.ref p1, .ref p2]) = G8 at *
    refine ⟨_, rfl, rfl, .inr ⟨_, rfl, ?_⟩⟩
    rw [int_at]
    by_cases c : i = 11
    · rw [if_pos c]
      subst c
      refine ⟨p3, _, 1, .ref p2, rfl, rfl, SqL.of q3, rfl, .list ((basesB 11).map PyData.bool), .list ((basesB 11).map PyData.bool), .lst (SqL.of f3) (dp_bls _), .lst (SqL.of q2) (dp_bls (basesB 11)), rfl, rfl, _, rfl, if_false_ (by rw [SeqAt.eqv_refl _ rfl]; rfl) ?_⟩
      exact ⟨s08, _, _, _, _, _, _, rfl⟩
    · rw [if_neg c]
      have q1 : G8 p1 = some (.lst ((basesB i).map V.bl)) := by
        rw [q1]; unfold basesB; rw [decide_eq_true c, decide_eq_false c]; rfl
      refine ⟨p3, _, 0, .ref p1, rfl, rfl, SqL.of q3, rfl, .list ((basesB i).map PyData.bool), .list ((basesB i).map PyData.bool), .lst (SqL.of f3) (dp_bls _), .lst (SqL.of q1) (dp_bls _), rfl, rfl, _, rfl, if_false_ (by rw [SeqAt.eqv_refl _ rfl]; rfl) ?_⟩
      exact ⟨s08, _, _, _, _, _, _, rfl⟩
  rintro σ' G0 ⟨s0, v5, v6, v7, v8, v9, v10, rfl⟩
  have et0 := s0 _ _ et
  refine ⟨_, rfl, lt, rfl, ⟨_, SqL.of et0⟩, fun D hD => lc_it (walk_list (xs := [a, a, a, a, a, a, a, a, a, a])) (fun k G => Same G0 G ∧ G D = some (.lst ((List.replicate k true).map V.bl)))
    ⟨same_upd hD, upd_same⟩ (fun _ G _ h => SqL.of (h.1 _ _ et0)) ?_ ?_⟩
  · rintro k x G' G hk ⟨sG, eD⟩ ⟨rfl, hx⟩
    obtain rfl : x = a := List.eq_of_mem_replicate (n := 10) (List.mem_of_getElem? hx)
    have hk : k < 10 := hk
    refine ⟨rfl, ?_⟩
    unfold tYes
    refine iteT ⟨_, rfl, _, rfl, x, rfl, ha.same (s0.trans sG), fun G2 s2 => ⟨_, s2 _ _ eD, by rw [List.length_map, List.length_replicate]; exact small1000 (by omega), fun bb o e => ?_, ?_⟩⟩
    · rw [upd_ne (ne_of_none e hD)]
      exact s2 _ _ (sG _ _ e)
    · rw [upd_same, rep_snoc']
  rintro G ⟨sG, eD⟩
  refine ⟨D, List.replicate 10 true, rfl, SqL.of eD, ?_⟩
  rw [rep_all']
  exact ⟨_, rfl, iteT ⟨_, rfl, _, rfl, b, rfl, hb.same (s0.trans sG), fun H' s' => fin H' ((s0.trans sG).trans s')⟩⟩
end

/-! ### the law -/
def spLaw (K : PySem.W.Frag) : Sp := fun vs H Q _ => ∃ (a : Addr) (ns : List Int), vs = [.ref a] ∧ SqL K H a (ns.map V.int) ∧ ns.length ≤ 63 ∧ ∀ H', Q (.bl true) H'
def lawLevel : Nat := 15
section
variable {P : Program} {w : World} {K : PySem.W.Frag} {mg : Str → Option Value} {base : Heap}
set_option maxHeartbeats 8000000 in
theorem ok_law (T : Txt K mg) : FnG P w K mg base CX0 lawLevel T.f_law T.d_law ["_law_script"] (spLaw K) := by
  have nd := sc_law.nd
  refine go0 T.F_law sc_law (fun vs H Q E ⟨_, _, e, _⟩ => by rw [e]; rfl) (fun cdv A outer s H vs Q E gg hr h => ?_)
  obtain ⟨a, ns, rfl, hS, hl, fin⟩ := h
  refine ⟨_, (pss_cons (ps_for PassesOwn.never rfl (pi_range1 (by rfl) T.b_range (pa_cons (pe_callB (call_max2 rfl) (by rfl) T.b_max (by decide +kernel) (pa_cons pe_int (pa_cons (pe_callB (call_min2 rfl) (by rfl) T.b_min (by decide +kernel) (pa_cons pe_int (pa_cons (pe_callB call_len_seq (by rfl) T.b_len PySem.boot_len (pa_cons (pv 0) pa_nil)) pa_nil))) pa_nil))) pa_nil)) (pg_name (i := 1) nd rfl (.inl rfl))
      (pss_cons (ps_set (i := 2) nd rfl (.inl rfl) (pe_f (E := fun _ => E0) (ok_box T) (hr.mono (by decide)) (by rfl) T.g_lw_box T.F_lw_box.kp T.B_lw_box (fun _ => at0) (pa_cons (pv 0) (pa_cons (pv 1) pa_nil))))
      (pss_cons (ps_par (i := 3) (j := 4) rfl nd rfl rfl (by decide) rfl rfl (pa_cons (pe_f (E := fun _ => E0) (ok_value T 3) (hr.mono (by decide)) (by rfl) T.g_lw_value T.F_lw_value.kp T.B_lw_value (fun _ => at0) (pa_cons (pv 2) (pa_cons pe_int pa_nil))) (pa_cons (pe_f (E := fun _ => E0) (ok_value T 3) (hr.mono (by decide)) (by rfl) T.g_lw_value T.F_lw_value.kp T.B_lw_value (fun _ => at0) (pa_cons (pv 2) (pa_cons pe_int pa_nil))) pa_nil)) (by rfl))
      (pss_one (ps_for PassesOwn.never rfl (pi_tup (pe_tup (by exact (pa_cons (pe_f (E := fun _ => E0) (ok_placed T) (hr.mono (by decide)) (by rfl) T.g_lw_placed T.F_lw_placed.kp T.B_lw_placed (fun _ => at0) (pa_cons (pv 3) (pa_cons (pv 4) pa_nil))) (pa_cons (pe_f (E := fun _ => E0) (ok_named T) (hr.mono (by decide)) (by rfl) T.g_lw_named T.F_lw_named.kp T.B_lw_named (fun _ => at0) (pa_cons (pv 3) (pa_cons (pv 4) pa_nil))) pa_nil))))) (pg_tup rfl (pgs_cons (pg_name (i := 5) nd rfl (.inl rfl)) (pgs_cons (pg_name (i := 6) nd rfl (.inl rfl)) (pgs_cons (pg_name (i := 7) nd rfl (.inl rfl)) pgs_nil))))
      (pss_one (ps_if (pt_not (pt_val (pe_g (E := fun _ => E0) gg (ok_right T) (hr.mono (by decide)) (by rfl) T.g_lw_right T.F_lw_right.kp T.B_lw_right (fun _ => at0) (pa_cons (pv 5) (pa_cons (pv 6) (pa_cons (pv 7) (pa_cons (pv 3) (pa_cons (pv 4) pa_nil)))))))) (pss_one (ps_ret pe_bl)) pss_nil)))))))
      (pss_one (ps_ret pe_bl))), ?_⟩
  refine ⟨_, rfl, a, _, rfl, .inl hS, _, _, rfl, _, _, rfl, _, rfl, ?_, ?_, for_range (lo := 0) (fun _ σ G => Same H G ∧ ∃ v1 v2 v3 v4 v5 v6 v7 : Option V, σ = [some (.ref a), v1, v2, v3, v4, v5, v6, v7]) ⟨Same.refl H, _, _, _, _, _, _, _, rfl⟩ ?_ ?_⟩
  · rw [List.length_map]; repeat (first | omega | split)
  · rw [List.length_map]; repeat (first | omega | split)
  · rintro i σ G0 hi ⟨s0, v1, v2, v3, v4, v5, v6, v7, rfl⟩
    refine ⟨_, rfl, _, rfl, a, ns, _, rfl, s0.seq hS, by omega, fun p G1 np s1 hb1 => ?_⟩
    have hp : H p = none := by
      cases z : H p with
      | none => rfl
      | some o => rw [s0 _ _ z] at np; cases np
    have s01 := s0.trans s1
    refine ⟨_, rfl, p, 3, rfl, hb1, Nat.le_refl _, fun va G2 hb2 k2 hva => ⟨_, rfl, p, 3, rfl, hb2, Nat.le_refl _, fun vb G3 hb3 k3 hvb => ⟨_, _, rfl, ?_⟩⟩⟩
    have hva := hva.bx hb2 k3
    have s03 : Same H G3 := fun b o e => k3 _ _ (ne_of_none e hp) (k2 _ _ (ne_of_none e hp) (s01 _ _ e))
    refine ⟨_, rfl, _, rfl, va, vb, rfl, fun t1 G4 s4 h4 => ⟨_, rfl, _, rfl, va, vb, rfl, fun t2 G5 s5 h5 => ⟨Nat.le_trans (show 2 ≤ 1000 by decide) (Nat.le_of_lt (small1000 (Nat.le_refl _))), fun tt htt => ?_⟩⟩⟩
    have s6 := same_upd (o := .tup [.ref t1, .ref t2]) htt
    have e6 : (upd G5 tt (.tup [.ref t1, .ref t2])) tt = some (.tup [.ref t1, .ref t2]) := upd_same
    have h4 := (h4.same s5).same s6
    have h5 := h5.same s6
    have s36 := (s4.trans s5).trans s6
    have hva := hva.same s36
    have hvb := hvb.same s36
    have s06 := s03.trans s36
    generalize upd G5 tt (.tup [.ref t1, .ref t2]) = G6 at *
    refine ⟨tt, rfl, ⟨_, SqT.of e6⟩, for_it (walk_tup (xs := [.ref t1, .ref t2])) (fun j σ' G => Same G6 G ∧ ∃ w1 w5 w6 w7 : Option V, σ' = [some (.ref a), w1, some (.ref p), some va, some vb, w5, w6, w7]) ⟨Same.refl G6, _, _, _, _, rfl⟩ (fun j σ' G _ h => SqT.of (h.1 _ _ e6)) ?_ ?_⟩
    · rintro j x σ' G7 G hj ⟨sG, w1, w5, w6, w7, rfl⟩ ⟨rfl, hx⟩
      have tx : ∃ t, x = .ref t ∧ Told T G t va vb := by
        rcases j with _ | _ | j
        · cases hx; exact ⟨t1, rfl, h4.same sG⟩
        · cases hx; exact ⟨t2, rfl, h5.same sG⟩
        · simp at hx
      obtain ⟨t, rfl, le, lt, es, x1, x2, x3, x4, x5⟩ := tx
      refine ⟨t, _, rfl, SqT.of x1, rfl, _, _, rfl, _, _, rfl, _, _, rfl, rfl, ?_⟩
      refine ⟨_, rfl, _, rfl, _, rfl, _, rfl, _, rfl, le, lt, va, vb, es, rfl, x2, x3, x4, x5, hva.same sG, hvb.same sG, fun H' s' => ⟨true, rfl, iteF ?_⟩⟩
      exact ⟨sG.trans s', _, _, _, _, rfl⟩
    · rintro σ' G ⟨sG, w1, w5, w6, w7, rfl⟩
      exact ⟨s06.trans sG, _, _, _, _, _, _, _, rfl⟩
  · rintro σ G ⟨sG, v1, v2, v3, v4, v5, v6, v7, rfl⟩
    exact fin G
end

theorem law_asks {K : PySem.W.Frag} {H : Hp} {a : Addr} {ns : List Int} (hl : ns.length ≤ 63) (hS : SqL K H a (ns.map V.int)) : spLaw K [.ref a] H (fun v _ => v = .bl true) E0 := ⟨a, ns, rfl, hS, hl, fun _ => rfl⟩
end Pm
open PySem PySem.W PyProof.Rows in
set_option maxRecDepth 100000 in
set_option maxHeartbeats 0 in
theorem PySem.Challenge.cw_poolsmeet_k01_errors_holds : PySem.Challenge.rw_poolsmeet_k01_errors.Holds := by
  refine PmHd.Pm_hd ?_
  k_fill
  refine Pm.walk (l := PySem.Challenge.rw_poolsmeet_k01_errors) (lv := Pm.lawLevel) (sp := Pm.spLaw) rfl rfl ⟨rfl, by decide, by decide⟩ (fun w h Y => PySem.W.kIn_of Y) ?F (fun hl hS => Pm.law_asks hl hS)
  case F =>
    intro w mg fa h KX G hmg
    refine' Pm.all_mk (fun T => Pm.ok_law T) KX G hmg ?zb_len ?zb_range ?zb_int ?zb_str ?zb_bool ?zb_abs ?zb_isinstance ?zb_repr ?zb_max ?zb_min ?zb_tuple ?zb_all ?zb_zip ?zb_enumerate ?zb_ValueError ?zb_IndexError ?zb_KeyError ?gi_gcd ?gc_PoolError ?xl_PoolError ?xr_PoolError ?xs_PoolError ?xa_PoolError ?xg_PoolError ?xe_PoolError ?xt_PoolError ?xh_PoolError ?xk_PoolError ?xi_PoolError ?xq_PoolError ?gc_InvalidNumber ?xl_InvalidNumber ?xr_InvalidNumber ?xs_InvalidNumber ?xa_InvalidNumber ?xg_InvalidNumber ?xe_InvalidNumber ?xt_InvalidNumber ?xh_InvalidNumber ?xk_InvalidNumber ?xi_InvalidNumber ?xq_InvalidNumber ?ea_InvalidNumber ?eb_InvalidNumber ?et_InvalidNumber ?em_InvalidNumber ?na_InvalidNumber_value ?gc_InvalidDrop ?xl_InvalidDrop ?xr_InvalidDrop ?xs_InvalidDrop ?xa_InvalidDrop ?xg_InvalidDrop ?xe_InvalidDrop ?xt_InvalidDrop ?xh_InvalidDrop ?xk_InvalidDrop ?xi_InvalidDrop ?xq_InvalidDrop ?ea_InvalidDrop ?eb_InvalidDrop ?et_InvalidDrop ?em_InvalidDrop ?na_InvalidDrop_index ?gc_InvalidTime ?xl_InvalidTime ?xr_InvalidTime ?xs_InvalidTime ?xa_InvalidTime ?xg_InvalidTime ?xe_InvalidTime ?xt_InvalidTime ?xh_InvalidTime ?xk_InvalidTime ?xi_InvalidTime ?xq_InvalidTime ?ea_InvalidTime ?eb_InvalidTime ?et_InvalidTime ?em_InvalidTime ?na_InvalidTime_time ?gc_InvalidText ?xl_InvalidText ?xr_InvalidText ?xs_InvalidText ?xa_InvalidText ?xg_InvalidText ?xe_InvalidText ?xt_InvalidText ?xh_InvalidText ?xk_InvalidText ?xi_InvalidText ?xq_InvalidText ?ea_InvalidText ?eb_InvalidText ?et_InvalidText ?em_InvalidText ?na_InvalidText_line ?gc_InvalidCommand ?xl_InvalidCommand ?xr_InvalidCommand ?xs_InvalidCommand ?xa_InvalidCommand ?xg_InvalidCommand ?xe_InvalidCommand ?xt_InvalidCommand ?xh_InvalidCommand ?xk_InvalidCommand ?xi_InvalidCommand ?xq_InvalidCommand ?ea_InvalidCommand ?eb_InvalidCommand ?et_InvalidCommand ?em_InvalidCommand ?gc_Full ?xl_Full ?xr_Full ?xs_Full ?xa_Full ?xg_Full ?xe_Full ?xt_Full ?xh_Full ?xk_Full ?xi_Full ?xq_Full ?ea_Full ?eb_Full ?et_Full ?em_Full ?na_Full_limit ?gc_MissingDrop ?xl_MissingDrop ?xr_MissingDrop ?xs_MissingDrop ?xa_MissingDrop ?xg_MissingDrop ?xe_MissingDrop ?xt_MissingDrop ?xh_MissingDrop ?xk_MissingDrop ?xi_MissingDrop ?xq_MissingDrop ?ea_MissingDrop ?eb_MissingDrop ?et_MissingDrop ?em_MissingDrop ?na_MissingDrop_spot ?na_MissingDrop_amount ?gc_Touching ?xl_Touching ?xr_Touching ?xs_Touching ?xa_Touching ?xg_Touching ?xe_Touching ?xt_Touching ?xh_Touching ?xk_Touching ?xi_Touching ?xq_Touching ?ea_Touching ?eb_Touching ?et_Touching ?em_Touching ?na_Touching_index ?gc_OutOfGround ?xl_OutOfGround ?xr_OutOfGround ?xs_OutOfGround ?xa_OutOfGround ?xg_OutOfGround ?xe_OutOfGround ?xt_OutOfGround ?xh_OutOfGround ?xk_OutOfGround ?xi_OutOfGround ?xq_OutOfGround ?ea_OutOfGround ?eb_OutOfGround ?et_OutOfGround ?em_OutOfGround ?na_OutOfGround_spot ?gc_Overfull ?xl_Overfull ?xr_Overfull ?xs_Overfull ?xa_Overfull ?xg_Overfull ?xe_Overfull ?xt_Overfull ?xh_Overfull ?xk_Overfull ?xi_Overfull ?xq_Overfull ?ea_Overfull ?eb_Overfull ?et_Overfull ?em_Overfull ?na_Overfull_total ?gc_TrialError ?xl_TrialError ?xr_TrialError ?xs_TrialError ?xa_TrialError ?xg_TrialError ?xe_TrialError ?xt_TrialError ?xh_TrialError ?xk_TrialError ?xi_TrialError ?xq_TrialError ?ea_TrialError ?eb_TrialError ?et_TrialError ?em_TrialError ?gc_UnknownIndex ?xl_UnknownIndex ?xs_UnknownIndex ?xa_UnknownIndex ?xg_UnknownIndex ?xe_UnknownIndex ?xt_UnknownIndex ?xh_UnknownIndex ?xk_UnknownIndex ?xi_UnknownIndex ?xq_UnknownIndex ?ea_UnknownIndex ?eb_UnknownIndex ?et_UnknownIndex ?em_UnknownIndex ?na_UnknownIndex_index ?gc_Ratio ?pg_Ratio ?hd_Ratio ?po_Ratio ?sa_Ratio ?tca_Ratio ?tcb_Ratio ?tcc_Ratio ?tcd_Ratio ?ric_Ratio ?rty_Ratio ?rss_Ratio ?rda_Ratio ?rdb_Ratio ?mk_Ratio ?kc_Ratio ?sf_Ratio ?mra_Ratio ?mrb_Ratio ?st_Ratio_int ?st_Ratio_bool ?st_Ratio_str ?st_Ratio_NoneType ?st_Ratio_tuple ?su_Ratio_int ?su_Ratio_bool ?su_Ratio_tuple ?su_Ratio_str ?su_Ratio_NoneType ?na_Ratio_top ?na_Ratio_bottom ?sx_InvalidNumber_PoolError ?sx_InvalidNumber_InvalidDrop ?sx_InvalidNumber_InvalidTime ?sx_InvalidNumber_InvalidText ?sx_InvalidNumber_InvalidCommand ?sx_InvalidNumber_Full ?sx_InvalidNumber_MissingDrop ?sx_InvalidNumber_Touching ?sx_InvalidNumber_OutOfGround ?sx_InvalidNumber_Overfull ?sx_InvalidNumber_TrialError ?sx_InvalidNumber_UnknownIndex ?sx_InvalidDrop_PoolError ?sx_InvalidDrop_InvalidNumber ?sx_InvalidDrop_InvalidTime ?sx_InvalidDrop_InvalidText ?sx_InvalidDrop_InvalidCommand ?sx_InvalidDrop_Full ?sx_InvalidDrop_MissingDrop ?sx_InvalidDrop_Touching ?sx_InvalidDrop_OutOfGround ?sx_InvalidDrop_Overfull ?sx_InvalidDrop_TrialError ?sx_InvalidDrop_UnknownIndex ?sx_InvalidTime_PoolError ?sx_InvalidTime_InvalidNumber ?sx_InvalidTime_InvalidDrop ?sx_InvalidTime_InvalidText ?sx_InvalidTime_InvalidCommand ?sx_InvalidTime_Full ?sx_InvalidTime_MissingDrop ?sx_InvalidTime_Touching ?sx_InvalidTime_OutOfGround ?sx_InvalidTime_Overfull ?sx_InvalidTime_TrialError ?sx_InvalidTime_UnknownIndex ?sx_InvalidText_PoolError ?sx_InvalidText_InvalidNumber ?sx_InvalidText_InvalidDrop ?sx_InvalidText_InvalidTime ?sx_InvalidText_InvalidCommand ?sx_InvalidText_Full ?sx_InvalidText_MissingDrop ?sx_InvalidText_Touching ?sx_InvalidText_OutOfGround ?sx_InvalidText_Overfull ?sx_InvalidText_TrialError ?sx_InvalidText_UnknownIndex ?sx_Full_PoolError ?sx_Full_InvalidNumber ?sx_Full_InvalidDrop ?sx_Full_InvalidTime ?sx_Full_InvalidText ?sx_Full_InvalidCommand ?sx_Full_MissingDrop ?sx_Full_Touching ?sx_Full_OutOfGround ?sx_Full_Overfull ?sx_Full_TrialError ?sx_Full_UnknownIndex ?sx_MissingDrop_PoolError ?sx_MissingDrop_InvalidNumber ?sx_MissingDrop_InvalidDrop ?sx_MissingDrop_InvalidTime ?sx_MissingDrop_InvalidText ?sx_MissingDrop_InvalidCommand ?sx_MissingDrop_Full ?sx_MissingDrop_Touching ?sx_MissingDrop_OutOfGround ?sx_MissingDrop_Overfull ?sx_MissingDrop_TrialError ?sx_MissingDrop_UnknownIndex ?sx_Touching_PoolError ?sx_Touching_InvalidNumber ?sx_Touching_InvalidDrop ?sx_Touching_InvalidTime ?sx_Touching_InvalidText ?sx_Touching_InvalidCommand ?sx_Touching_Full ?sx_Touching_MissingDrop ?sx_Touching_OutOfGround ?sx_Touching_Overfull ?sx_Touching_TrialError ?sx_Touching_UnknownIndex ?sx_OutOfGround_PoolError ?sx_OutOfGround_InvalidNumber ?sx_OutOfGround_InvalidDrop ?sx_OutOfGround_InvalidTime ?sx_OutOfGround_InvalidText ?sx_OutOfGround_InvalidCommand ?sx_OutOfGround_Full ?sx_OutOfGround_MissingDrop ?sx_OutOfGround_Touching ?sx_OutOfGround_Overfull ?sx_OutOfGround_TrialError ?sx_OutOfGround_UnknownIndex ?sx_Overfull_PoolError ?sx_Overfull_InvalidNumber ?sx_Overfull_InvalidDrop ?sx_Overfull_InvalidTime ?sx_Overfull_InvalidText ?sx_Overfull_InvalidCommand ?sx_Overfull_Full ?sx_Overfull_MissingDrop ?sx_Overfull_Touching ?sx_Overfull_OutOfGround ?sx_Overfull_TrialError ?sx_Overfull_UnknownIndex ?sx_InvalidCommand_PoolError ?sx_InvalidCommand_InvalidNumber ?sx_InvalidCommand_InvalidDrop ?sx_InvalidCommand_InvalidTime ?sx_InvalidCommand_InvalidText ?sx_InvalidCommand_Full ?sx_InvalidCommand_MissingDrop ?sx_InvalidCommand_Touching ?sx_InvalidCommand_OutOfGround ?sx_InvalidCommand_Overfull ?sx_InvalidCommand_TrialError ?sx_InvalidCommand_UnknownIndex ?sx_TrialError_PoolError ?sx_TrialError_InvalidNumber ?sx_TrialError_InvalidDrop ?sx_TrialError_InvalidTime ?sx_TrialError_InvalidText ?sx_TrialError_InvalidCommand ?sx_TrialError_Full ?sx_TrialError_MissingDrop ?sx_TrialError_Touching ?sx_TrialError_OutOfGround ?sx_TrialError_Overfull ?sx_TrialError_UnknownIndex ?sx_UnknownIndex_PoolError ?sx_UnknownIndex_InvalidNumber ?sx_UnknownIndex_InvalidDrop ?sx_UnknownIndex_InvalidTime ?sx_UnknownIndex_InvalidText ?sx_UnknownIndex_InvalidCommand ?sx_UnknownIndex_Full ?sx_UnknownIndex_MissingDrop ?sx_UnknownIndex_Touching ?sx_UnknownIndex_OutOfGround ?sx_UnknownIndex_Overfull ?sx_UnknownIndex_TrialError ?a_InvalidNumber_init_d ?i_InvalidNumber_init_d ?l_InvalidNumber_init_d ?c_InvalidNumber_init_d ?k_InvalidNumber_init_d ?a_InvalidDrop_init_d ?i_InvalidDrop_init_d ?l_InvalidDrop_init_d ?c_InvalidDrop_init_d ?k_InvalidDrop_init_d ?a_InvalidTime_init_d ?i_InvalidTime_init_d ?l_InvalidTime_init_d ?c_InvalidTime_init_d ?k_InvalidTime_init_d ?a_InvalidText_init_d ?i_InvalidText_init_d ?l_InvalidText_init_d ?c_InvalidText_init_d ?k_InvalidText_init_d ?a_Full_init_d ?i_Full_init_d ?l_Full_init_d ?c_Full_init_d ?k_Full_init_d ?a_MissingDrop_init_d ?i_MissingDrop_init_d ?l_MissingDrop_init_d ?c_MissingDrop_init_d ?k_MissingDrop_init_d ?a_Touching_init_d ?i_Touching_init_d ?l_Touching_init_d ?c_Touching_init_d ?k_Touching_init_d ?a_OutOfGround_init_d ?i_OutOfGround_init_d ?l_OutOfGround_init_d ?c_OutOfGround_init_d ?k_OutOfGround_init_d ?a_Overfull_init_d ?i_Overfull_init_d ?l_Overfull_init_d ?c_Overfull_init_d ?k_Overfull_init_d ?a_UnknownIndex_init_d ?i_UnknownIndex_init_d ?l_UnknownIndex_init_d ?c_UnknownIndex_init_d ?k_UnknownIndex_init_d ?a_Ratio_init_d ?i_Ratio_init_d ?l_Ratio_init_d ?dl_Ratio_init_d ?dd_Ratio_init_d ?dv_Ratio_init_d ?c_Ratio_init_d ?k_Ratio_init_d ?a_lw_box ?l_lw_box ?c_lw_box ?k_lw_box ?a_lw_take ?l_lw_take ?c_lw_take ?k_lw_take ?a_lw_value ?l_lw_value ?c_lw_value ?k_lw_value ?a_lw_alike ?l_lw_alike ?c_lw_alike ?k_lw_alike ?a_lw_placed ?l_lw_placed ?c_lw_placed ?k_lw_placed ?a_lw_named ?l_lw_named ?c_lw_named ?k_lw_named ?a_lw_kinds ?l_lw_kinds ?c_lw_kinds ?k_lw_kinds ?a_lw_right ?l_lw_right ?c_lw_right ?k_lw_right ?a_law ?l_law ?c_law ?k_law ?xb_InvalidNumber_ValueError ?xb_InvalidNumber_IndexError ?xb_InvalidNumber_KeyError ?xb_InvalidDrop_ValueError ?xb_InvalidDrop_IndexError ?xb_InvalidDrop_KeyError ?xb_InvalidTime_ValueError ?xb_InvalidTime_IndexError ?xb_InvalidTime_KeyError ?xb_InvalidText_ValueError ?xb_InvalidText_IndexError ?xb_InvalidText_KeyError ?xb_Full_ValueError ?xb_Full_IndexError ?xb_Full_KeyError ?xb_MissingDrop_ValueError ?xb_MissingDrop_IndexError ?xb_MissingDrop_KeyError ?xb_Touching_ValueError ?xb_Touching_IndexError ?xb_Touching_KeyError ?xb_OutOfGround_ValueError ?xb_OutOfGround_IndexError ?xb_OutOfGround_KeyError ?xb_Overfull_ValueError ?xb_Overfull_IndexError ?xb_Overfull_KeyError ?xb_InvalidCommand_ValueError ?xb_InvalidCommand_IndexError ?xb_InvalidCommand_KeyError ?xb_TrialError_ValueError ?xb_TrialError_IndexError ?xb_TrialError_KeyError ?xb_UnknownIndex_ValueError ?xb_UnknownIndex_IndexError ?xb_UnknownIndex_KeyError ?xo_InvalidCommand ?xo_TrialError ?zkb_InvalidNumber ?zkb_InvalidDrop ?zkb_InvalidTime ?zkb_InvalidText ?zkb_Full ?zkb_MissingDrop ?zkb_Touching ?zkb_OutOfGround ?zkb_Overfull ?zkb_UnknownIndex
    (case zb_len => k_is)
    (case zb_range => k_is)
    (case zb_int => k_is)
    (case zb_str => k_is)
    (case zb_bool => k_is)
    (case zb_abs => k_is)
    (case zb_isinstance => k_is)
    (case zb_repr => k_is)
    (case zb_max => k_is)
    (case zb_min => k_is)
    (case zb_tuple => k_is)
    (case zb_all => k_is)
    (case zb_zip => k_is)
    (case zb_enumerate => k_is)
    (case zb_ValueError => k_is)
    (case zb_IndexError => k_is)
    (case zb_KeyError => k_is)
    (case gi_gcd => k_is)
    (case gc_PoolError => k_is)
    (case xl_PoolError => k_is)
    (case xr_PoolError => first | rfl | decide +kernel)
    (case xs_PoolError => k_is)
    (case xa_PoolError => k_is)
    (case xg_PoolError => k_is)
    (case xe_PoolError => k_is)
    (case xt_PoolError => k_is)
    (case xh_PoolError => k_is)
    (case xk_PoolError => k_is)
    (case xi_PoolError => k_is)
    (case xq_PoolError => first | rfl | k_is)
    (case gc_InvalidNumber => k_is)
    (case xl_InvalidNumber => k_is)
    (case xr_InvalidNumber => first | rfl | decide +kernel)
    (case xs_InvalidNumber => k_is)
    (case xa_InvalidNumber => k_is)
    (case xg_InvalidNumber => k_is)
    (case xe_InvalidNumber => k_is)
    (case xt_InvalidNumber => k_is)
    (case xh_InvalidNumber => k_is)
    (case xk_InvalidNumber => k_is)
    (case xi_InvalidNumber => k_is)
    (case xq_InvalidNumber => first | rfl | k_is)
    (case ea_InvalidNumber => k_is)
    (case eb_InvalidNumber => k_is)
    (case et_InvalidNumber => k_is)
    (case em_InvalidNumber => k_is)
    (case na_InvalidNumber_value => k_is)
    (case gc_InvalidDrop => k_is)
    (case xl_InvalidDrop => k_is)
    (case xr_InvalidDrop => first | rfl | decide +kernel)
    (case xs_InvalidDrop => k_is)
    (case xa_InvalidDrop => k_is)
    (case xg_InvalidDrop => k_is)
    (case xe_InvalidDrop => k_is)
    (case xt_InvalidDrop => k_is)
    (case xh_InvalidDrop => k_is)
    (case xk_InvalidDrop => k_is)
    (case xi_InvalidDrop => k_is)
    (case xq_InvalidDrop => first | rfl | k_is)
    (case ea_InvalidDrop => k_is)
    (case eb_InvalidDrop => k_is)
    (case et_InvalidDrop => k_is)
    (case em_InvalidDrop => k_is)
    (case na_InvalidDrop_index => k_is)
    (case gc_InvalidTime => k_is)
    (case xl_InvalidTime => k_is)
    (case xr_InvalidTime => first | rfl | decide +kernel)
    (case xs_InvalidTime => k_is)
    (case xa_InvalidTime => k_is)
    (case xg_InvalidTime => k_is)
    (case xe_InvalidTime => k_is)
    (case xt_InvalidTime => k_is)
    (case xh_InvalidTime => k_is)
    (case xk_InvalidTime => k_is)
    (case xi_InvalidTime => k_is)
    (case xq_InvalidTime => first | rfl | k_is)
    (case ea_InvalidTime => k_is)
    (case eb_InvalidTime => k_is)
    (case et_InvalidTime => k_is)
    (case em_InvalidTime => k_is)
    (case na_InvalidTime_time => k_is)
    (case gc_InvalidText => k_is)
    (case xl_InvalidText => k_is)
    (case xr_InvalidText => first | rfl | decide +kernel)
    (case xs_InvalidText => k_is)
    (case xa_InvalidText => k_is)
    (case xg_InvalidText => k_is)
    (case xe_InvalidText => k_is)
    (case xt_InvalidText => k_is)
    (case xh_InvalidText => k_is)
    (case xk_InvalidText => k_is)
    (case xi_InvalidText => k_is)
    (case xq_InvalidText => first | rfl | k_is)
    (case ea_InvalidText => k_is)
    (case eb_InvalidText => k_is)
    (case et_InvalidText => k_is)
    (case em_InvalidText => k_is)
    (case na_InvalidText_line => k_is)
    (case gc_InvalidCommand => k_is)
    (case xl_InvalidCommand => k_is)
    (case xr_InvalidCommand => first | rfl | decide +kernel)
    (case xs_InvalidCommand => k_is)
    (case xa_InvalidCommand => k_is)
    (case xg_InvalidCommand => k_is)
    (case xe_InvalidCommand => k_is)
    (case xt_InvalidCommand => k_is)
    (case xh_InvalidCommand => k_is)
    (case xk_InvalidCommand => k_is)
    (case xi_InvalidCommand => k_is)
    (case xq_InvalidCommand => first | rfl | k_is)
    (case ea_InvalidCommand => k_is)
    (case eb_InvalidCommand => k_is)
    (case et_InvalidCommand => k_is)
    (case em_InvalidCommand => k_is)
    (case gc_Full => k_is)
    (case xl_Full => k_is)
    (case xr_Full => first | rfl | decide +kernel)
    (case xs_Full => k_is)
    (case xa_Full => k_is)
    (case xg_Full => k_is)
    (case xe_Full => k_is)
    (case xt_Full => k_is)
    (case xh_Full => k_is)
    (case xk_Full => k_is)
    (case xi_Full => k_is)
    (case xq_Full => first | rfl | k_is)
    (case ea_Full => k_is)
    (case eb_Full => k_is)
    (case et_Full => k_is)
    (case em_Full => k_is)
    (case na_Full_limit => k_is)
    (case gc_MissingDrop => k_is)
    (case xl_MissingDrop => k_is)
    (case xr_MissingDrop => first | rfl | decide +kernel)
    (case xs_MissingDrop => k_is)
    (case xa_MissingDrop => k_is)
    (case xg_MissingDrop => k_is)
    (case xe_MissingDrop => k_is)
    (case xt_MissingDrop => k_is)
    (case xh_MissingDrop => k_is)
    (case xk_MissingDrop => k_is)
    (case xi_MissingDrop => k_is)
    (case xq_MissingDrop => first | rfl | k_is)
    (case ea_MissingDrop => k_is)
    (case eb_MissingDrop => k_is)
    (case et_MissingDrop => k_is)
    (case em_MissingDrop => k_is)
    (case na_MissingDrop_spot => k_is)
    (case na_MissingDrop_amount => k_is)
    (case gc_Touching => k_is)
    (case xl_Touching => k_is)
    (case xr_Touching => first | rfl | decide +kernel)
    (case xs_Touching => k_is)
    (case xa_Touching => k_is)
    (case xg_Touching => k_is)
    (case xe_Touching => k_is)
    (case xt_Touching => k_is)
    (case xh_Touching => k_is)
    (case xk_Touching => k_is)
    (case xi_Touching => k_is)
    (case xq_Touching => first | rfl | k_is)
    (case ea_Touching => k_is)
    (case eb_Touching => k_is)
    (case et_Touching => k_is)
    (case em_Touching => k_is)
    (case na_Touching_index => k_is)
    (case gc_OutOfGround => k_is)
    (case xl_OutOfGround => k_is)
    (case xr_OutOfGround => first | rfl | decide +kernel)
    (case xs_OutOfGround => k_is)
    (case xa_OutOfGround => k_is)
    (case xg_OutOfGround => k_is)
    (case xe_OutOfGround => k_is)
    (case xt_OutOfGround => k_is)
    (case xh_OutOfGround => k_is)
    (case xk_OutOfGround => k_is)
    (case xi_OutOfGround => k_is)
    (case xq_OutOfGround => first | rfl | k_is)
    (case ea_OutOfGround => k_is)
    (case eb_OutOfGround => k_is)
    (case et_OutOfGround => k_is)
    (case em_OutOfGround => k_is)
    (case na_OutOfGround_spot => k_is)
    (case gc_Overfull => k_is)
    (case xl_Overfull => k_is)
    (case xr_Overfull => first | rfl | decide +kernel)
    (case xs_Overfull => k_is)
    (case xa_Overfull => k_is)
    (case xg_Overfull => k_is)
    (case xe_Overfull => k_is)
    (case xt_Overfull => k_is)
    (case xh_Overfull => k_is)
    (case xk_Overfull => k_is)
    (case xi_Overfull => k_is)
    (case xq_Overfull => first | rfl | k_is)
    (case ea_Overfull => k_is)
    (case eb_Overfull => k_is)
    (case et_Overfull => k_is)
    (case em_Overfull => k_is)
    (case na_Overfull_total => k_is)
    (case gc_TrialError => k_is)
    (case xl_TrialError => k_is)
    (case xr_TrialError => first | rfl | decide +kernel)
    (case xs_TrialError => k_is)
    (case xa_TrialError => k_is)
    (case xg_TrialError => k_is)
    (case xe_TrialError => k_is)
    (case xt_TrialError => k_is)
    (case xh_TrialError => k_is)
    (case xk_TrialError => k_is)
    (case xi_TrialError => k_is)
    (case xq_TrialError => first | rfl | k_is)
    (case ea_TrialError => k_is)
    (case eb_TrialError => k_is)
    (case et_TrialError => k_is)
    (case em_TrialError => k_is)
    (case gc_UnknownIndex => k_is)
    (case xl_UnknownIndex => k_is)
    (case xs_UnknownIndex => k_is)
    (case xa_UnknownIndex => k_is)
    (case xg_UnknownIndex => k_is)
    (case xe_UnknownIndex => k_is)
    (case xt_UnknownIndex => k_is)
    (case xh_UnknownIndex => k_is)
    (case xk_UnknownIndex => k_is)
    (case xi_UnknownIndex => k_is)
    (case xq_UnknownIndex => first | rfl | k_is)
    (case ea_UnknownIndex => k_is)
    (case eb_UnknownIndex => k_is)
    (case et_UnknownIndex => k_is)
    (case em_UnknownIndex => k_is)
    (case na_UnknownIndex_index => k_is)
    (case gc_Ratio => k_is)
    (case pg_Ratio => k_is)
    (case hd_Ratio => k_is)
    (case po_Ratio => k_is)
    (case sa_Ratio => k_is)
    (case tca_Ratio => k_is)
    (case tcb_Ratio => k_is)
    (case tcc_Ratio => k_is)
    (case tcd_Ratio => k_is)
    (case ric_Ratio => k_is)
    (case rty_Ratio => k_is)
    (case rss_Ratio => k_is)
    (case rda_Ratio => k_is)
    (case rdb_Ratio => k_is)
    (case mk_Ratio => k_is)
    (case kc_Ratio => k_is)
    (case sf_Ratio => k_is)
    (case mra_Ratio => k_is)
    (case mrb_Ratio => first | rfl | decide +kernel)
    (case st_Ratio_int => k_is)
    (case st_Ratio_bool => k_is)
    (case st_Ratio_str => k_is)
    (case st_Ratio_NoneType => k_is)
    (case st_Ratio_tuple => k_is)
    (case su_Ratio_int => k_is)
    (case su_Ratio_bool => k_is)
    (case su_Ratio_tuple => k_is)
    (case su_Ratio_str => k_is)
    (case su_Ratio_NoneType => k_is)
    (case na_Ratio_top => k_is)
    (case na_Ratio_bottom => k_is)
    (case sx_InvalidNumber_PoolError => first | rfl | k_is)
    (case sx_InvalidNumber_InvalidDrop => first | rfl | k_is)
    (case sx_InvalidNumber_InvalidTime => first | rfl | k_is)
    (case sx_InvalidNumber_InvalidText => first | rfl | k_is)
    (case sx_InvalidNumber_InvalidCommand => first | rfl | k_is)
    (case sx_InvalidNumber_Full => first | rfl | k_is)
    (case sx_InvalidNumber_MissingDrop => first | rfl | k_is)
    (case sx_InvalidNumber_Touching => first | rfl | k_is)
    (case sx_InvalidNumber_OutOfGround => first | rfl | k_is)
    (case sx_InvalidNumber_Overfull => first | rfl | k_is)
    (case sx_InvalidNumber_TrialError => first | rfl | k_is)
    (case sx_InvalidNumber_UnknownIndex => first | rfl | k_is)
    (case sx_InvalidDrop_PoolError => first | rfl | k_is)
    (case sx_InvalidDrop_InvalidNumber => first | rfl | k_is)
    (case sx_InvalidDrop_InvalidTime => first | rfl | k_is)
    (case sx_InvalidDrop_InvalidText => first | rfl | k_is)
    (case sx_InvalidDrop_InvalidCommand => first | rfl | k_is)
    (case sx_InvalidDrop_Full => first | rfl | k_is)
    (case sx_InvalidDrop_MissingDrop => first | rfl | k_is)
    (case sx_InvalidDrop_Touching => first | rfl | k_is)
    (case sx_InvalidDrop_OutOfGround => first | rfl | k_is)
    (case sx_InvalidDrop_Overfull => first | rfl | k_is)
    (case sx_InvalidDrop_TrialError => first | rfl | k_is)
    (case sx_InvalidDrop_UnknownIndex => first | rfl | k_is)
    (case sx_InvalidTime_PoolError => first | rfl | k_is)
    (case sx_InvalidTime_InvalidNumber => first | rfl | k_is)
    (case sx_InvalidTime_InvalidDrop => first | rfl | k_is)
    (case sx_InvalidTime_InvalidText => first | rfl | k_is)
    (case sx_InvalidTime_InvalidCommand => first | rfl | k_is)
    (case sx_InvalidTime_Full => first | rfl | k_is)
    (case sx_InvalidTime_MissingDrop => first | rfl | k_is)
    (case sx_InvalidTime_Touching => first | rfl | k_is)
    (case sx_InvalidTime_OutOfGround => first | rfl | k_is)
    (case sx_InvalidTime_Overfull => first | rfl | k_is)
    (case sx_InvalidTime_TrialError => first | rfl | k_is)
    (case sx_InvalidTime_UnknownIndex => first | rfl | k_is)
    (case sx_InvalidText_PoolError => first | rfl | k_is)
    (case sx_InvalidText_InvalidNumber => first | rfl | k_is)
    (case sx_InvalidText_InvalidDrop => first | rfl | k_is)
    (case sx_InvalidText_InvalidTime => first | rfl | k_is)
    (case sx_InvalidText_InvalidCommand => first | rfl | k_is)
    (case sx_InvalidText_Full => first | rfl | k_is)
    (case sx_InvalidText_MissingDrop => first | rfl | k_is)
    (case sx_InvalidText_Touching => first | rfl | k_is)
    (case sx_InvalidText_OutOfGround => first | rfl | k_is)
    (case sx_InvalidText_Overfull => first | rfl | k_is)
    (case sx_InvalidText_TrialError => first | rfl | k_is)
    (case sx_InvalidText_UnknownIndex => first | rfl | k_is)
    (case sx_Full_PoolError => first | rfl | k_is)
    (case sx_Full_InvalidNumber => first | rfl | k_is)
    (case sx_Full_InvalidDrop => first | rfl | k_is)
    (case sx_Full_InvalidTime => first | rfl | k_is)
    (case sx_Full_InvalidText => first | rfl | k_is)
    (case sx_Full_InvalidCommand => first | rfl | k_is)
    (case sx_Full_MissingDrop => first | rfl | k_is)
    (case sx_Full_Touching => first | rfl | k_is)
    (case sx_Full_OutOfGround => first | rfl | k_is)
    (case sx_Full_Overfull => first | rfl | k_is)
    (case sx_Full_TrialError => first | rfl | k_is)
    (case sx_Full_UnknownIndex => first | rfl | k_is)
    (case sx_MissingDrop_PoolError => first | rfl | k_is)
    (case sx_MissingDrop_InvalidNumber => first | rfl | k_is)
    (case sx_MissingDrop_InvalidDrop => first | rfl | k_is)
    (case sx_MissingDrop_InvalidTime => first | rfl | k_is)
    (case sx_MissingDrop_InvalidText => first | rfl | k_is)
    (case sx_MissingDrop_InvalidCommand => first | rfl | k_is)
    (case sx_MissingDrop_Full => first | rfl | k_is)
    (case sx_MissingDrop_Touching => first | rfl | k_is)
    (case sx_MissingDrop_OutOfGround => first | rfl | k_is)
    (case sx_MissingDrop_Overfull => first | rfl | k_is)
    (case sx_MissingDrop_TrialError => first | rfl | k_is)
    (case sx_MissingDrop_UnknownIndex => first | rfl | k_is)
    (case sx_Touching_PoolError => first | rfl | k_is)
    (case sx_Touching_InvalidNumber => first | rfl | k_is)
    (case sx_Touching_InvalidDrop => first | rfl | k_is)
    (case sx_Touching_InvalidTime => first | rfl | k_is)
    (case sx_Touching_InvalidText => first | rfl | k_is)
    (case sx_Touching_InvalidCommand => first | rfl | k_is)
    (case sx_Touching_Full => first | rfl | k_is)
    (case sx_Touching_MissingDrop => first | rfl | k_is)
    (case sx_Touching_OutOfGround => first | rfl | k_is)
    (case sx_Touching_Overfull => first | rfl | k_is)
    (case sx_Touching_TrialError => first | rfl | k_is)
    (case sx_Touching_UnknownIndex => first | rfl | k_is)
    (case sx_OutOfGround_PoolError => first | rfl | k_is)
    (case sx_OutOfGround_InvalidNumber => first | rfl | k_is)
    (case sx_OutOfGround_InvalidDrop => first | rfl | k_is)
    (case sx_OutOfGround_InvalidTime => first | rfl | k_is)
    (case sx_OutOfGround_InvalidText => first | rfl | k_is)
    (case sx_OutOfGround_InvalidCommand => first | rfl | k_is)
    (case sx_OutOfGround_Full => first | rfl | k_is)
    (case sx_OutOfGround_MissingDrop => first | rfl | k_is)
    (case sx_OutOfGround_Touching => first | rfl | k_is)
    (case sx_OutOfGround_Overfull => first | rfl | k_is)
    (case sx_OutOfGround_TrialError => first | rfl | k_is)
    (case sx_OutOfGround_UnknownIndex => first | rfl | k_is)
    (case sx_Overfull_PoolError => first | rfl | k_is)
    (case sx_Overfull_InvalidNumber => first | rfl | k_is)
    (case sx_Overfull_InvalidDrop => first | rfl | k_is)
    (case sx_Overfull_InvalidTime => first | rfl | k_is)
    (case sx_Overfull_InvalidText => first | rfl | k_is)
    (case sx_Overfull_InvalidCommand => first | rfl | k_is)
    (case sx_Overfull_Full => first | rfl | k_is)
    (case sx_Overfull_MissingDrop => first | rfl | k_is)
    (case sx_Overfull_Touching => first | rfl | k_is)
    (case sx_Overfull_OutOfGround => first | rfl | k_is)
    (case sx_Overfull_TrialError => first | rfl | k_is)
    (case sx_Overfull_UnknownIndex => first | rfl | k_is)
    (case sx_InvalidCommand_PoolError => first | rfl | k_is)
    (case sx_InvalidCommand_InvalidNumber => first | rfl | k_is)
    (case sx_InvalidCommand_InvalidDrop => first | rfl | k_is)
    (case sx_InvalidCommand_InvalidTime => first | rfl | k_is)
    (case sx_InvalidCommand_InvalidText => first | rfl | k_is)
    (case sx_InvalidCommand_Full => first | rfl | k_is)
    (case sx_InvalidCommand_MissingDrop => first | rfl | k_is)
    (case sx_InvalidCommand_Touching => first | rfl | k_is)
    (case sx_InvalidCommand_OutOfGround => first | rfl | k_is)
    (case sx_InvalidCommand_Overfull => first | rfl | k_is)
    (case sx_InvalidCommand_TrialError => first | rfl | k_is)
    (case sx_InvalidCommand_UnknownIndex => first | rfl | k_is)
    (case sx_TrialError_PoolError => first | rfl | k_is)
    (case sx_TrialError_InvalidNumber => first | rfl | k_is)
    (case sx_TrialError_InvalidDrop => first | rfl | k_is)
    (case sx_TrialError_InvalidTime => first | rfl | k_is)
    (case sx_TrialError_InvalidText => first | rfl | k_is)
    (case sx_TrialError_InvalidCommand => first | rfl | k_is)
    (case sx_TrialError_Full => first | rfl | k_is)
    (case sx_TrialError_MissingDrop => first | rfl | k_is)
    (case sx_TrialError_Touching => first | rfl | k_is)
    (case sx_TrialError_OutOfGround => first | rfl | k_is)
    (case sx_TrialError_Overfull => first | rfl | k_is)
    (case sx_TrialError_UnknownIndex => first | rfl | k_is)
    (case sx_UnknownIndex_PoolError => first | rfl | k_is)
    (case sx_UnknownIndex_InvalidNumber => first | rfl | k_is)
    (case sx_UnknownIndex_InvalidDrop => first | rfl | k_is)
    (case sx_UnknownIndex_InvalidTime => first | rfl | k_is)
    (case sx_UnknownIndex_InvalidText => first | rfl | k_is)
    (case sx_UnknownIndex_InvalidCommand => first | rfl | k_is)
    (case sx_UnknownIndex_Full => first | rfl | k_is)
    (case sx_UnknownIndex_MissingDrop => first | rfl | k_is)
    (case sx_UnknownIndex_Touching => first | rfl | k_is)
    (case sx_UnknownIndex_OutOfGround => first | rfl | k_is)
    (case sx_UnknownIndex_Overfull => first | rfl | k_is)
    (case sx_UnknownIndex_TrialError => first | rfl | k_is)
    (case a_InvalidNumber_init_d => k_is)
    (case i_InvalidNumber_init_d => k_is)
    (case l_InvalidNumber_init_d => k_is)
    (case c_InvalidNumber_init_d => k_is)
    (case k_InvalidNumber_init_d => k_is)
    (case a_InvalidDrop_init_d => k_is)
    (case i_InvalidDrop_init_d => k_is)
    (case l_InvalidDrop_init_d => k_is)
    (case c_InvalidDrop_init_d => k_is)
    (case k_InvalidDrop_init_d => k_is)
    (case a_InvalidTime_init_d => k_is)
    (case i_InvalidTime_init_d => k_is)
    (case l_InvalidTime_init_d => k_is)
    (case c_InvalidTime_init_d => k_is)
    (case k_InvalidTime_init_d => k_is)
    (case a_InvalidText_init_d => k_is)
    (case i_InvalidText_init_d => k_is)
    (case l_InvalidText_init_d => k_is)
    (case c_InvalidText_init_d => k_is)
    (case k_InvalidText_init_d => k_is)
    (case a_Full_init_d => k_is)
    (case i_Full_init_d => k_is)
    (case l_Full_init_d => k_is)
    (case c_Full_init_d => k_is)
    (case k_Full_init_d => k_is)
    (case a_MissingDrop_init_d => k_is)
    (case i_MissingDrop_init_d => k_is)
    (case l_MissingDrop_init_d => k_is)
    (case c_MissingDrop_init_d => k_is)
    (case k_MissingDrop_init_d => k_is)
    (case a_Touching_init_d => k_is)
    (case i_Touching_init_d => k_is)
    (case l_Touching_init_d => k_is)
    (case c_Touching_init_d => k_is)
    (case k_Touching_init_d => k_is)
    (case a_OutOfGround_init_d => k_is)
    (case i_OutOfGround_init_d => k_is)
    (case l_OutOfGround_init_d => k_is)
    (case c_OutOfGround_init_d => k_is)
    (case k_OutOfGround_init_d => k_is)
    (case a_Overfull_init_d => k_is)
    (case i_Overfull_init_d => k_is)
    (case l_Overfull_init_d => k_is)
    (case c_Overfull_init_d => k_is)
    (case k_Overfull_init_d => k_is)
    (case a_UnknownIndex_init_d => k_is)
    (case i_UnknownIndex_init_d => k_is)
    (case l_UnknownIndex_init_d => k_is)
    (case c_UnknownIndex_init_d => k_is)
    (case k_UnknownIndex_init_d => k_is)
    (case a_Ratio_init_d => k_is)
    (case i_Ratio_init_d => k_is)
    (case l_Ratio_init_d => k_is)
    (case dl_Ratio_init_d => k_is)
    (case dd_Ratio_init_d => rfl)
    (case dv_Ratio_init_d => exact .cons ⟨_, rfl⟩ .nil)
    (case c_Ratio_init_d => k_is)
    (case k_Ratio_init_d => k_is)
    (case a_lw_box => k_is)
    (case l_lw_box => k_is)
    (case c_lw_box => k_is)
    (case k_lw_box => k_is)
    (case a_lw_take => k_is)
    (case l_lw_take => k_is)
    (case c_lw_take => k_is)
    (case k_lw_take => k_is)
    (case a_lw_value => k_is)
    (case l_lw_value => k_is)
    (case c_lw_value => k_is)
    (case k_lw_value => k_is)
    (case a_lw_alike => k_is)
    (case l_lw_alike => k_is)
    (case c_lw_alike => k_is)
    (case k_lw_alike => k_is)
    (case a_lw_placed => k_is)
    (case l_lw_placed => k_is)
    (case c_lw_placed => k_is)
    (case k_lw_placed => k_is)
    (case a_lw_named => k_is)
    (case l_lw_named => k_is)
    (case c_lw_named => k_is)
    (case k_lw_named => k_is)
    (case a_lw_kinds => k_is)
    (case l_lw_kinds => k_is)
    (case c_lw_kinds => k_is)
    (case k_lw_kinds => k_is)
    (case a_lw_right => k_is)
    (case l_lw_right => k_is)
    (case c_lw_right => k_is)
    (case k_lw_right => k_is)
    (case a_law => k_is)
    (case l_law => k_is)
    (case c_law => k_is)
    (case k_law => k_is)
    (case xb_InvalidNumber_ValueError => first | rfl | k_is)
    (case xb_InvalidNumber_IndexError => first | rfl | k_is)
    (case xb_InvalidNumber_KeyError => first | rfl | k_is)
    (case xb_InvalidDrop_ValueError => first | rfl | k_is)
    (case xb_InvalidDrop_IndexError => first | rfl | k_is)
    (case xb_InvalidDrop_KeyError => first | rfl | k_is)
    (case xb_InvalidTime_ValueError => first | rfl | k_is)
    (case xb_InvalidTime_IndexError => first | rfl | k_is)
    (case xb_InvalidTime_KeyError => first | rfl | k_is)
    (case xb_InvalidText_ValueError => first | rfl | k_is)
    (case xb_InvalidText_IndexError => first | rfl | k_is)
    (case xb_InvalidText_KeyError => first | rfl | k_is)
    (case xb_Full_ValueError => first | rfl | k_is)
    (case xb_Full_IndexError => first | rfl | k_is)
    (case xb_Full_KeyError => first | rfl | k_is)
    (case xb_MissingDrop_ValueError => first | rfl | k_is)
    (case xb_MissingDrop_IndexError => first | rfl | k_is)
    (case xb_MissingDrop_KeyError => first | rfl | k_is)
    (case xb_Touching_ValueError => first | rfl | k_is)
    (case xb_Touching_IndexError => first | rfl | k_is)
    (case xb_Touching_KeyError => first | rfl | k_is)
    (case xb_OutOfGround_ValueError => first | rfl | k_is)
    (case xb_OutOfGround_IndexError => first | rfl | k_is)
    (case xb_OutOfGround_KeyError => first | rfl | k_is)
    (case xb_Overfull_ValueError => first | rfl | k_is)
    (case xb_Overfull_IndexError => first | rfl | k_is)
    (case xb_Overfull_KeyError => first | rfl | k_is)
    (case xb_InvalidCommand_ValueError => first | rfl | k_is)
    (case xb_InvalidCommand_IndexError => first | rfl | k_is)
    (case xb_InvalidCommand_KeyError => first | rfl | k_is)
    (case xb_TrialError_ValueError => first | rfl | k_is)
    (case xb_TrialError_IndexError => first | rfl | k_is)
    (case xb_TrialError_KeyError => first | rfl | k_is)
    (case xb_UnknownIndex_ValueError => first | rfl | k_is)
    (case xb_UnknownIndex_IndexError => first | rfl | k_is)
    (case xb_UnknownIndex_KeyError => first | rfl | k_is)
    (case xo_InvalidCommand => k_exc)
    (case xo_TrialError => k_exc)
    (case zkb_InvalidNumber => trivial)
    (case zkb_InvalidDrop => trivial)
    (case zkb_InvalidTime => trivial)
    (case zkb_InvalidText => trivial)
    (case zkb_Full => trivial)
    (case zkb_MissingDrop => trivial)
    (case zkb_Touching => trivial)
    (case zkb_OutOfGround => trivial)
    (case zkb_Overfull => trivial)
    (case zkb_UnknownIndex => trivial)
#print axioms PySem.Challenge.cw_poolsmeet_k01_errors_holds

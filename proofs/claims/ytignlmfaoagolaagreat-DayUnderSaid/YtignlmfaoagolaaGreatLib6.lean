/-
  The abstract machine and the typed machine over it: deterministic evaluators of translated code over plain values, each proved sound. Part 6 of 8.
-/
import Derived.Test.YtignlmfaoagolaaGreatLib5
/-! ## FnVal -/
/-
  The fast machine: functions of values are the model's.
-/
set_option linter.unusedVariables false
set_option linter.unusedSimpArgs false
set_option linter.unusedSectionVars false
namespace Go.FM
noncomputable section
variable [Env]

section
variable {Pr : Program} {w : World} {g : Gm} {c : Nat}

/-- What two operands yield. -/
def BinOk (Pr : Program) (op : BinOp) (t : TypeId) (u v z : Value) (w : World) : Prop := (∀ ox oy, (eqGuard op t ox oy u v).run Pr w = .ok () w) ∧ (binOp op t u v).run Pr w = .ok z w

theorem eqGuard_plain {op : BinOp} {t : TypeId} {x y : Operand} {u v : Value} (h1 : ¬ (u = .nilIface ∧ v = .nilIface)) (h2 : ∀ a b, ¬ (u = .agg a ∧ v = .agg b)) : (eqGuard op t x y u v).run Pr w = .ok () w := by
  unfold eqGuard
  cases op <;> simp
  all_goals
    split
    · exact absurd ⟨rfl, rfl⟩ h1
    · rename_i a b; exact absurd ⟨rfl, rfl⟩ (h2 a b)
    · simp

theorem ikEq_eq {a b : IntKind} (h : ikEq a b = true) : a = b := by cases a <;> cases b <;> first | rfl | cases h
theorem top_le (k : IntKind) (n : Nat) (h : n ≤ top k) : k.wrap (n : Int) = n := by
  cases k <;> simp only [top] at h <;> simp [IntKind.wrap, IntKind.bits, IntKind.signed] <;> omega
theorem wrapN_eq (k : IntKind) (n : Nat) : wrapN k n = .int k (k.wrap (n : Int)) := by
  unfold wrapN
  cases h : Nat.ble n (top k) with
  | true =>
    have := top_le k n (Nat.le_of_ble_eq_true h)
    show HV.int k (.ofNat n) = _
    rw [this]; rfl
  | false => rfl
theorem wrapF_eq (k : IntKind) (r : Int) : wrapF k r = .int k (k.wrap r) := by
  cases r with
  | ofNat n => exact wrapN_eq k n
  | negSucc n => rfl

theorem int2_inv {f : IntKind → Int → Int → HV} {x y : HV} (h : int2 f x y ≠ .dead) : ∃ k a b, x = .int k a ∧ y = .int k b ∧ int2 f x y = f k a b := by
  cases x <;> try exact absurd rfl h
  rename_i k a
  cases y <;> try exact absurd rfl h
  rename_i k' b
  have e : int2 f (.int k a) (.int k' b) = (ikEq k k').casesOn .dead (f k a b) := rfl
  rw [e] at h
  cases hk : ikEq k k' with
  | false => rw [hk] at h; exact absurd rfl h
  | true =>
    have := ikEq_eq hk; subst this
    exact ⟨k, a, b, rfl, rfl, by rw [e, hk]⟩
theorem nat2_eq {f : IntKind → Nat → Nat → HV} {q : IntKind → Int → Int → HV} (hfq : ∀ k m n, f k m n = q k (.ofNat m) (.ofNat n)) (k : IntKind) (a b : Int) : nat2 f q k a b = q k a b := by
  cases a <;> cases b <;> first | exact hfq _ _ _ | rfl

theorem int_bin {op : BinOp} {t : TypeId} {k : IntKind} {a b : Int} {z : Value} (h : (binOp op t (.int k a) (.int k b)).run Pr w = .ok z w) : BinOk Pr op t (.int k a) (.int k b) z w :=
  ⟨fun ox oy => eqGuard_plain (by simp) (by simp), h⟩

theorem beq_dec (m n : Nat) : Nat.beq m n = (((m : Int)) == ((n : Int))) := by
  by_cases h : m = n
  · subst h; simp [Nat.beq_refl]
  · have h1 : Nat.beq m n = false := by
      cases hb : Nat.beq m n with
      | false => rfl
      | true => exact absurd (Nat.eq_of_beq_eq_true hb) h
    rw [h1]
    symm
    rw [beq_eq_false_iff_ne]
    omega
theorem ble_dec (m n : Nat) : Nat.ble m n = decide ((m : Int) ≤ (n : Int)) := by
  cases h : Nat.ble m n with
  | true => exact (decide_eq_true (by have := Nat.le_of_ble_eq_true h; omega)).symm
  | false =>
    symm; rw [decide_eq_false_iff_not]; intro hle
    rw [Nat.ble_eq_true_of_le (by omega)] at h; cases h
theorem blt_dec (m n : Nat) : Nat.blt m n = decide ((m : Int) < (n : Int)) := by
  show Nat.ble (m + 1) n = _
  rw [ble_dec]
  exact decide_eq_decide.2 (by omega)

theorem intF_ok {op : BinOp} {t : TypeId} {f : HV → HV → HV} (h : intF op = .f f) {x y : HV} {vx vy : Value} (hx : TRep g c x vx) (hy : TRep g c y vy) (hl : f x y ≠ .dead) :
    ∃ z, BinOk Pr op t vx vy z w ∧ TRep g c (f x y) z := by
  have fin : ∀ {q : IntKind → Int → Int → HV} {f : HV → HV → HV}, f = int2 q → f x y ≠ .dead → (∀ k a b, q k a b ≠ .dead → ∃ z, (binOp op t (.int k a) (.int k b)).run Pr w = .ok z w ∧ CRep g c (q k a b) z) → ∃ z, BinOk Pr op t vx vy z w ∧ TRep g c (f x y) z := by
    intro q f hf hl hq
    subst hf
    obtain ⟨k, a, b, rfl, rfl, e⟩ := int2_inv hl
    have e1 : vx = .int k a := hx
    have e2 : vy = .int k b := hy
    subst e1; subst e2
    rw [e] at hl ⊢
    obtain ⟨z, h1, h2⟩ := hq k a b hl
    exact ⟨z, int_bin h1, TRep.of_cell h2⟩
  have dead2 : ∀ {op : BinOp} {q : IntKind → Int → Int → HV}, (∀ k a b, ∃ z, (binOp op t (.int k a) (.int k b)).run Pr w = .ok z w ∧ CRep g c (q k a b) z) → ∀ k a b, q k a b ≠ .dead → ∃ z, (binOp op t (.int k a) (.int k b)).run Pr w = .ok z w ∧ CRep g c (q k a b) z := fun h k a b _ => h k a b
  cases op <;> simp only [intF] at h <;> first | (cases h; done) | (injection h with h; subst h)
  · refine fin (q := fun k a b => .int k (k.wrap (a + b))) (congrArg int2 (funext fun k => funext fun a => funext fun b => nat2_eq (fun k m n => wrapN_eq k _) k a b)) hl (dead2 fun k a b => ⟨_, by simp [binOp, Op.intArith], rfl⟩)
  · refine fin (q := fun k a b => .int k (k.wrap (a - b))) (congrArg int2 (funext fun k => funext fun a => funext fun b => nat2_eq (fun k m n => ?_) k a b)) hl (dead2 fun k a b => ⟨_, by simp [binOp, Op.intArith], rfl⟩)
    unfold subN
    cases hb : Nat.ble n m with
    | false => rfl
    | true =>
      have hle := Nat.le_of_ble_eq_true hb
      show wrapN k (m - n) = _
      rw [wrapN_eq, Int.ofNat_sub hle]; rfl
  · refine fin (q := fun k a b => .int k (k.wrap (a * b))) (congrArg int2 (funext fun k => funext fun a => funext fun b => nat2_eq (fun k m n => wrapN_eq k _) k a b)) hl (dead2 fun k a b => ⟨_, by simp [binOp, Op.intArith], rfl⟩)
  · refine fin (q := fun k a b => if b = 0 then .dead else .int k (k.wrap (a.tdiv b))) (congrArg int2 (funext fun k => funext fun a => funext fun b => nat2_eq (fun k m n => ?_) k a b)) hl fun k a b hd => ?_
    · cases n with
      | zero => rfl
      | succ n =>
        have : ¬ (Int.ofNat (n + 1) = 0) := fun e => by cases e
        rw [if_neg this]
        show wrapN k (m / (n + 1)) = _
        rw [wrapN_eq]; rfl
    · by_cases hb : b = 0
      · rw [if_pos hb] at hd; exact absurd rfl hd
      · rw [if_neg hb]
        exact ⟨_, by simp [binOp, Op.intDiv, hb], rfl⟩
  · refine fin (q := fun k a b => if b = 0 then .dead else .int k (a.tmod b)) (congrArg int2 (funext fun k => funext fun a => funext fun b => nat2_eq (fun k m n => ?_) k a b)) hl fun k a b hd => ?_
    · cases n with
      | zero => rfl
      | succ n =>
        have : ¬ (Int.ofNat (n + 1) = 0) := fun e => by cases e
        rw [if_neg this]; rfl
    · by_cases hb : b = 0
      · rw [if_pos hb] at hd; exact absurd rfl hd
      · rw [if_neg hb]
        exact ⟨_, by simp [binOp, Op.intDiv, hb], rfl⟩
  · exact fin (q := fun k a b => .int k (andI k a b)) rfl hl (dead2 fun k a b => ⟨_, by simp [binOp, Op.intBits]; rfl, rfl⟩)
  · exact fin (q := fun k a b => .int k (orI k a b)) rfl hl (dead2 fun k a b => ⟨_, by simp [binOp, Op.intBits]; rfl, rfl⟩)
  · exact fin (q := fun k a b => .int k (xorI k a b)) rfl hl (dead2 fun k a b => ⟨_, by simp [binOp, Op.intBits]; rfl, rfl⟩)
  · exact fin (q := fun k a b => .int k (andNotI k a b)) rfl hl (dead2 fun k a b => ⟨_, by simp [binOp, Op.intBits, andNotI]; done, rfl⟩)
  · exact fin (q := fun _ a b => .bool (a == b)) (congrArg int2 (funext fun k => funext fun a => funext fun b => nat2_eq (fun k m n => congrArg HV.bool (beq_dec m n)) k a b)) hl (dead2 fun k a b => ⟨_, by simp [binOp, Op.intCmp], rfl⟩)
  · exact fin (q := fun _ a b => .bool (a != b)) (congrArg int2 (funext fun k => funext fun a => funext fun b => nat2_eq (fun k m n => congrArg HV.bool (congrArg Bool.not (beq_dec m n))) k a b)) hl (dead2 fun k a b => ⟨_, by simp [binOp, Op.intCmp], rfl⟩)
  · exact fin (q := fun _ a b => .bool (decide (a < b))) (congrArg int2 (funext fun k => funext fun a => funext fun b => nat2_eq (fun k m n => congrArg HV.bool (blt_dec m n)) k a b)) hl (dead2 fun k a b => ⟨_, by simp [binOp, Op.intCmp], rfl⟩)
  · exact fin (q := fun _ a b => .bool (decide (a ≤ b))) (congrArg int2 (funext fun k => funext fun a => funext fun b => nat2_eq (fun k m n => congrArg HV.bool (ble_dec m n)) k a b)) hl (dead2 fun k a b => ⟨_, by simp [binOp, Op.intCmp], rfl⟩)
  · exact fin (q := fun _ a b => .bool (decide (a > b))) (congrArg int2 (funext fun k => funext fun a => funext fun b => nat2_eq (fun k m n => congrArg HV.bool (blt_dec n m)) k a b)) hl (dead2 fun k a b => ⟨_, by simp [binOp, Op.intCmp], rfl⟩)
  · exact fin (q := fun _ a b => .bool (decide (a ≥ b))) (congrArg int2 (funext fun k => funext fun a => funext fun b => nat2_eq (fun k m n => congrArg HV.bool (ble_dec n m)) k a b)) hl (dead2 fun k a b => ⟨_, by simp [binOp, Op.intCmp], rfl⟩)

theorem shl_ok {t : TypeId} {x y : HV} {vx vy : Value} (hx : TRep g c x vx) (hy : TRep g c y vy) (hl : shl x y ≠ .dead) : ∃ z, BinOk Pr .shl t vx vy z w ∧ TRep g c (shl x y) z := by
  unfold shl at hl ⊢
  cases x <;> try exact absurd rfl hl
  rename_i k a
  cases y <;> try exact absurd rfl hl
  rename_i k' b
  have e1 : vx = .int k a := hx
  have e2 : vy = .int k' b := hy
  subst e1; subst e2
  simp only at hl ⊢
  by_cases hb : b < 0
  · rw [if_pos hb] at hl; exact absurd rfl hl
  · rw [if_neg hb, wrapF_eq]
    have e : Int.ofNat (Nat.pow 2 (Nat.min b.toNat k.bits)) = (2 : Int) ^ (min b.toNat k.bits) := by
      show ((2 ^ (min b.toNat k.bits) : Nat) : Int) = _
      simp
    rw [e]
    refine ⟨.int k (k.wrap (a * 2 ^ (min b.toNat k.bits))), ⟨fun _ _ => eqGuard_plain (by simp) (by simp), ?_⟩, rfl⟩
    simp [binOp, Op.shift, hb]
theorem shr_ok {t : TypeId} {x y : HV} {vx vy : Value} (hx : TRep g c x vx) (hy : TRep g c y vy) (hl : shr x y ≠ .dead) : ∃ z, BinOk Pr .shr t vx vy z w ∧ TRep g c (shr x y) z := by
  unfold shr at hl ⊢
  cases x <;> try exact absurd rfl hl
  rename_i k a
  cases y <;> try exact absurd rfl hl
  rename_i k' b
  have e1 : vx = .int k a := hx
  have e2 : vy = .int k' b := hy
  subst e1; subst e2
  simp only at hl ⊢
  by_cases hb : b < 0
  · rw [if_pos hb] at hl; exact absurd rfl hl
  · rw [if_neg hb]
    refine ⟨.int k (a.fdiv (2 ^ (min b.toNat k.bits))), ⟨fun _ _ => eqGuard_plain (by simp) (by simp), ?_⟩, ?_⟩
    · simp [binOp, Op.shift, hb]
    · cases a with
      | negSucc m => exact rfl
      | ofNat m =>
        show Value.int k _ = Value.int k _
        congr 1
        have : (2 : Int) ^ (min b.toNat k.bits) = ((2 ^ (min b.toNat k.bits) : Nat) : Int) := by simp
        rw [this]
        show Int.fdiv (m : Int) _ = ((m / 2 ^ (Nat.min b.toNat k.bits) : Nat) : Int)
        rw [Int.fdiv_eq_ediv_of_nonneg _ (Int.natCast_nonneg _)]
        rfl

theorem fltA_run {op : BinOp} {k : FloatKind} {a b r : Nat} (h : fltA op k a b = some r) : (Op.floatArith op k a b).run Pr w = .ok (.float k r) w := by
  cases op <;> simp only [fltA] at h <;> first | (simp [Op.floatArith, h]; done) | (cases h; done)
theorem flt_ok {op : BinOp} {t : TypeId} {x y : HV} {vx vy : Value} (hx : TRep g c x vx) (hy : TRep g c y vy) (hl : fltF op x y ≠ .dead) : ∃ z, BinOk Pr op t vx vy z w ∧ TRep g c (fltF op x y) z := by
  unfold fltF at hl ⊢
  cases x <;> try exact absurd rfl hl
  rename_i k a
  cases y <;> try exact absurd rfl hl
  rename_i k' b
  have e1 : vx = .float k a := hx
  have e2 : vy = .float k' b := hy
  subst e1; subst e2
  simp only at hl ⊢
  by_cases hk : k = k'
  · subst hk
    rw [if_pos rfl] at hl ⊢
    have gd : ∀ ox oy, (eqGuard op t ox oy (.float k a) (.float k b)).run Pr w = .ok () w := fun _ _ => eqGuard_plain (by simp) (by simp)
    cases op <;> simp only [fltV] at hl ⊢ <;> first
      | exact absurd rfl hl
      | exact ⟨_, ⟨gd, by simp [binOp, Op.floatCmp]⟩, rfl⟩
      | (split at hl
         · rename_i r hr
           exact ⟨_, ⟨gd, by simp only [binOp]; simp [fltA_run hr]⟩, rfl⟩
         · exact absurd rfl hl)
  · rw [if_neg hk] at hl; exact absurd rfl hl
theorem cpxA_run {op : BinOp} {k : FloatKind} {a b r : Nat} (h : fltA op k a b = some r) : (Op.Complex.arith op k a b).run Pr w = .ok r w := by
  simp [Op.Complex.arith, fltA_run h]
theorem cpxC_run (k : FloatKind) (a b : Nat) : (Op.Complex.cmp .eql k a b).run Pr w = .ok (k.format.order a b == some .eq) w := by
  simp [Op.Complex.cmp, Op.floatCmp, asBool]
theorem cpx_ok {op : BinOp} {t : TypeId} {x y : HV} {vx vy : Value} (hx : TRep g c x vx) (hy : TRep g c y vy) (hl : cpxF op x y ≠ .dead) : ∃ z, BinOk Pr op t vx vy z w ∧ TRep g c (cpxF op x y) z := by
  unfold cpxF at hl ⊢
  cases x <;> try exact absurd rfl hl
  rename_i k a b
  cases y <;> try exact absurd rfl hl
  rename_i k' a' b'
  have e1 : vx = .complex k a b := hx
  have e2 : vy = .complex k' a' b' := hy
  subst e1; subst e2
  simp only at hl ⊢
  by_cases hk : k = k'
  · subst hk
    rw [if_pos rfl] at hl ⊢
    have gd : ∀ ox oy, (eqGuard op t ox oy (.complex k a b) (.complex k a' b')).run Pr w = .ok () w := fun _ _ => eqGuard_plain (by simp) (by simp)
    cases op <;> simp only [cpxV] at hl ⊢ <;> try exact absurd rfl hl
    · split at hl
      · rename_i p q hp hq
        exact ⟨_, ⟨gd, by simp [binOp, Op.complexOp, cpxA_run hp, cpxA_run hq]⟩, rfl⟩
      · exact absurd rfl hl
    · split at hl
      · rename_i p q hp hq
        exact ⟨_, ⟨gd, by simp [binOp, Op.complexOp, cpxA_run hp, cpxA_run hq]⟩, rfl⟩
      · exact absurd rfl hl
    · by_cases hk : k = .f64
      · subst hk
        rw [if_pos rfl] at hl ⊢
        split at hl
        · rename_i ac bd ad bc h1 h2 h3 h4
          split at hl
          · rename_i p q hp hq
            refine ⟨.complex .f64 p q, ⟨gd, ?_⟩, rfl⟩
            simp [binOp, Op.complexOp, Op.Complex.conv, Op.Complex.product, Op.Complex.mul, Op.Complex.sub, Op.Complex.add, cpxA_run h1, cpxA_run h2, cpxA_run h3, cpxA_run h4, cpxA_run hp, cpxA_run hq]
          · exact absurd rfl hl
        · exact absurd rfl hl
      · rw [if_neg hk] at hl; exact absurd rfl hl
    · exact ⟨_, ⟨gd, by simp [binOp, Op.complexOp, cpxC_run]⟩, rfl⟩
    · exact ⟨_, ⟨gd, by simp [binOp, Op.complexOp, cpxC_run]⟩, rfl⟩
  · rw [if_neg hk] at hl; exact absurd rfl hl

theorem str_list (n d : Nat) : (⟨(bytesOf n d).toArray⟩ : ByteArray).toList = bytesOf n d := by simp
theorem str_ok {op : BinOp} {t : TypeId} {x y : HV} {vx vy : Value} (hx : TRep g c x vx) (hy : TRep g c y vy) (hl : strF op x y ≠ .dead) : ∃ z, BinOk Pr op t vx vy z w ∧ TRep g c (strF op x y) z := by
  unfold strF at hl ⊢
  cases x <;> try exact absurd rfl hl
  rename_i n d
  cases y <;> try exact absurd rfl hl
  rename_i m e
  obtain ⟨hd, e1⟩ : d < 256 ^ n ∧ vx = strOf n d := hx
  obtain ⟨he, e2⟩ : e < 256 ^ m ∧ vy = strOf m e := hy
  subst e1; subst e2
  simp only at hl ⊢
  have gd : ∀ ox oy, (eqGuard op t ox oy (strOf n d) (strOf m e)).run Pr w = .ok () w := fun _ _ => eqGuard_plain (by simp [strOf]) (by simp [strOf])
  have q1 := sEq_eq hd he
  have q2 := sLess_eq n d m e
  cases op <;> simp only [strV] at hl ⊢ <;> try exact absurd rfl hl
  · by_cases hle : Nat.ble (Nat.add n m) 9223372036854775807 = true
    · rw [if_pos hle]
      have hle' := Nat.le_of_ble_eq_true hle
      have hle' : n + m ≤ 9223372036854775807 := hle'
      refine ⟨strOf (n + m) (d + e * 256 ^ n), ⟨gd, ?_⟩, append_lt hd he, rfl⟩
      have hsz1 : (⟨(bytesOf n d).toArray⟩ : ByteArray).size = n := by simp [ByteArray.size, bytesOf_length]
      have hsz2 : (⟨(bytesOf m e).toArray⟩ : ByteArray).size = m := by simp [ByteArray.size, bytesOf_length]
      have h3 : IntKind.i64.max = 9223372036854775807 := by decide
      have hs : ¬ (IntKind.i64.max < (((⟨(bytesOf n d).toArray⟩ : ByteArray).size : Int) + ((⟨(bytesOf m e).toArray⟩ : ByteArray).size : Int))) := by
        rw [hsz1, hsz2, h3]; omega
      have hs' : (((⟨(bytesOf n d).toArray⟩ : ByteArray).size : Int) + ((⟨(bytesOf m e).toArray⟩ : ByteArray).size : Int)) ≤ 9223372036854775807 := by
        rw [hsz1, hsz2]; omega
      have ha : (⟨(bytesOf n d).toArray⟩ : ByteArray) ++ ⟨(bytesOf m e).toArray⟩ = ⟨(bytesOf n d ++ bytesOf m e).toArray⟩ := by
        apply ByteArray.ext
        simp
      simp only [strOf, bytesOf_append n m d e hd]
      simp [binOp, Op.stringOp, hs, ha]
      first | done | exact hs'
    · rw [if_neg hle] at hl; exact absurd rfl hl
  · exact ⟨.bool (bytesOf n d == bytesOf m e), ⟨gd, by simp only [strOf]; simp [binOp, Op.stringOp]⟩, by rw [q1]; rfl⟩
  · exact ⟨.bool (!(bytesOf n d == bytesOf m e)), ⟨gd, by simp only [strOf]; simp [binOp, Op.stringOp]⟩, by rw [q1]; rfl⟩
  · exact ⟨.bool (Op.bytesLess (bytesOf n d) (bytesOf m e)), ⟨gd, by simp only [strOf]; simp [binOp, Op.stringOp]⟩, by rw [q2]; rfl⟩
  · exact ⟨.bool (Op.bytesLess (bytesOf n d) (bytesOf m e) || bytesOf n d == bytesOf m e), ⟨gd, by simp only [strOf]; simp [binOp, Op.stringOp]⟩, by rw [q1, q2]; rfl⟩
  · exact ⟨.bool (!(Op.bytesLess (bytesOf n d) (bytesOf m e) || bytesOf n d == bytesOf m e)), ⟨gd, by simp only [strOf]; simp [binOp, Op.stringOp]⟩, by rw [q1, q2]; rfl⟩
  · exact ⟨.bool (!(Op.bytesLess (bytesOf n d) (bytesOf m e))), ⟨gd, by simp only [strOf]; simp [binOp, Op.stringOp]⟩, by rw [q2]; rfl⟩

theorem bool_ok {op : BinOp} {t : TypeId} (hu : Pr.underlying t = some .bool) {x y : HV} {vx vy : Value} (hx : TRep g c x vx) (hy : TRep g c y vy) (hl : boolF op x y ≠ .dead) : ∃ z, BinOk Pr op t vx vy z w ∧ TRep g c (boolF op x y) z := by
  unfold boolF at hl ⊢
  cases x <;> try exact absurd rfl hl
  rename_i a
  cases y <;> try exact absurd rfl hl
  rename_i b
  have e1 : vx = .bool a := hx
  have e2 : vy = .bool b := hy
  subst e1; subst e2
  have gd : ∀ ox oy, (eqGuard op t ox oy (.bool a) (.bool b)).run Pr w = .ok () w := fun _ _ => eqGuard_plain (by simp) (by simp)
  have q := run_equalIn_bool (P := Pr) w 9999 t a b hu
  cases op <;> simp only at hl ⊢ <;> try exact absurd rfl hl
  · exact ⟨.bool (a == b), ⟨gd, by simp [binOp, Op.equal, Op.maxDepth, q]⟩, rfl⟩
  · exact ⟨.bool (!(a == b)), ⟨gd, by simp [binOp, Op.equal, Op.maxDepth, q]⟩, rfl⟩

/-! ### Parts of structs; equality -/
theorem sizeT_run {t : TypeId} {n : Nat} (h : sizeT Pr t = some n) : (sizeOf t).run Pr w = .ok n w := by
  obtain ⟨i, hi, rfl⟩ := Option.map_eq_some_iff.1 h
  simp [sizeOf, typeInfo, hi]
theorem sizeT_cells {t : TypeId} {n : Nat} (h : sizeT Pr t = some n) : Pr.cellsOf t = n := by
  unfold sizeT at h
  simp [Program.cellsOf, h]
theorem aggT_run {t : TypeId} {b : Bool} (h : aggT Pr t = some b) : (isAgg t).run Pr w = .ok b w := by
  unfold aggT at h
  split at h <;> first
    | (cases h; done)
    | (rename_i hu
       simp only [Option.some.injEq] at h; subst h
       simp [isAgg, run_underlying hu])
    | (rename_i d h1 h2 hu
       simp only [Option.some.injEq] at h; subst h
       cases d <;> simp [isAgg, run_underlying hu] <;> first
         | exact absurd rfl (h1 _)
         | exact absurd rfl (h2 _ _))
theorem lget_some {i : Nat} {cs : List HV} (h : lget i cs ≠ .dead) : cs[i]? = some (lget i cs) := by
  induction i generalizing cs with
  | zero =>
    cases cs with
    | nil => exact absurd rfl h
    | cons a r => rfl
  | succ i ih =>
    cases cs with
    | nil =>
      exfalso
      have : ∀ j, lget j ([] : List HV) = .dead := by
        intro j; induction j with
        | zero => rfl
        | succ j ih => exact ih
      exact h (this i)
    | cons a r =>
      have := ih (cs := r) h
      rw [List.getElem?_cons_succ]
      exact this
theorem CReps.drop {cs : List HV} {vs : List Value} (h : CReps g c cs vs) (n : Nat) : CReps g c (cs.drop n) (vs.drop n) :=
  ⟨by simp [h.1], fun i x u hx hu => h.2 (n + i) x u (by simpa using hx) (by simpa using hu)⟩
theorem CReps.take {cs : List HV} {vs : List Value} (h : CReps g c cs vs) (n : Nat) : CReps g c (cs.take n) (vs.take n) :=
  ⟨by simp [h.1], fun i x u hx hu => by
    rw [List.getElem?_take] at hx hu
    split at hx
    · rename_i hi; rw [if_pos hi] at hu; exact h.2 i x u hx hu
    · cases hx⟩
theorem CReps.append {cs ds : List HV} {vs us : List Value} (h : CReps g c cs vs) (k : CReps g c ds us) : CReps g c (cs ++ ds) (vs ++ us) := by
  refine ⟨by simp [h.1, k.1], fun i x u hx hu => ?_⟩
  by_cases hi : i < cs.length
  · rw [List.getElem?_append_left hi] at hx
    rw [List.getElem?_append_left (by rw [h.1]; exact hi)] at hu
    exact h.2 i x u hx hu
  · rw [List.getElem?_append_right (by omega)] at hx
    rw [List.getElem?_append_right (by rw [h.1]; omega), h.1] at hu
    exact k.2 _ x u hx hu
theorem CReps.get {cs : List HV} {vs : List Value} (h : CReps g c cs vs) {i : Nat} {x : HV} (hx : cs[i]? = some x) : ∃ u, vs[i]? = some u ∧ CRep g c x u ∧ u.oneCell' = true := by
  have hi := (List.getElem?_eq_some_iff.1 hx).1
  have hv : vs[i]? = some (vs[i]'(by rw [h.1]; exact hi)) := List.getElem?_eq_getElem _
  exact ⟨_, hv, h.2 i x _ hx hv⟩

theorem part_ok {t : TypeId} {cs : List HV} {vs : List Value} {off n : Nat} {b : Bool} (hn : sizeT Pr t = some n) (ha : aggT Pr t = some b) (hc : CReps g c cs vs) (hl : partV b n off cs ≠ .dead) :
    ∃ v, (part t vs.toArray off).run Pr w = .ok v w ∧ VRep g c (partV b n off cs) v := by
  cases b with
  | false =>
    have e : partV false n off cs = lget off cs := rfl
    rw [e] at hl ⊢
    obtain ⟨u, hu, h1, h2⟩ := hc.get (lget_some hl)
    refine ⟨u, ?_, VRep.of_cell h1⟩
    simp [part, aggT_run ha, hu]
  | true =>
    have e : partV true n off cs = if Nat.ble (Nat.add off n) cs.length then .agg ((cs.drop off).take n) else .dead := rfl
    rw [e] at hl ⊢
    by_cases hb : Nat.ble (Nat.add off n) cs.length = true
    · rw [if_pos hb]
      refine ⟨.agg ((vs.drop off).take n).toArray, ?_, _, rfl, (hc.drop off).take n⟩
      simp [part, aggT_run ha, sizeT_run hn]
    · rw [if_neg hb] at hl; exact absurd rfl hl

theorem eqFs_ok {d : Nat} {eq : TypeId → HV → HV → Option Bool} (ih : ∀ (t : TypeId) (x y : HV) (vx vy : Value) (b : Bool), VRep g c x vx → VRep g c y vy → eq t x y = some b → (Op.equalIn d t vx vy).run Pr w = .ok b w)
    (hdead : ∀ t x y b, eq t x y = some b → x ≠ .dead ∧ y ≠ .dead) :
    ∀ (fs : List Field) (xs ys : List HV) (us vs : List Value) (b : Bool), CReps g c xs us → CReps g c ys vs → eqFs Pr eq fs xs ys = some b → (Op.eqFields d us.toArray vs.toArray fs).run Pr w = .ok b w
  | [], xs, ys, us, vs, b, hx, hy, h => by simp [eqFs] at h; subst h; simp [Op.eqFields]
  | f :: r, xs, ys, us, vs, b, hx, hy, h => by
    rw [eqFs] at h
    by_cases hn : f.name = "_"
    · rw [if_pos hn] at h
      have := eqFs_ok ih hdead r xs ys us vs b hx hy h
      simpa [Op.eqFields, hn] using this
    · rw [if_neg hn] at h
      split at h
      · rename_i n ag h1 h2
        split at h
        · rename_i he
          obtain ⟨l1, l2⟩ := hdead _ _ _ _ he
          obtain ⟨va, hra, hva⟩ := part_ok (w := w) h1 h2 hx l1
          obtain ⟨vc, hrc, hvc⟩ := part_ok (w := w) h1 h2 hy l2
          have hq := ih f.type _ _ va vc true hva hvc he
          have := eqFs_ok ih hdead r xs ys us vs b hx hy h
          simp only [Op.eqFields, ne_eq, hn, not_false_eq_true, if_true, Sem.run_bind, hra, hrc, hq, Result.andThen_ok]
          simpa using this
        · rename_i he
          obtain ⟨l1, l2⟩ := hdead _ _ _ _ he
          obtain ⟨va, hra, hva⟩ := part_ok (w := w) h1 h2 hx l1
          obtain ⟨vc, hrc, hvc⟩ := part_ok (w := w) h1 h2 hy l2
          have hq := ih f.type _ _ va vc false hva hvc he
          simp only [Option.some.injEq] at h; subst h
          simp [Op.eqFields, hn, hra, hrc, hq]
        · cases h
      · cases h
theorem eqIn_live : ∀ (d : Nat) (t : TypeId) (x y : HV) (b : Bool), eqIn Pr d t x y = some b → x ≠ .dead ∧ y ≠ .dead
  | 0, t, x, y, b, h => by simp [eqIn] at h
  | d + 1, t, x, y, b, h => by
    unfold eqIn at h
    split at h <;> first | (cases h; done) | exact ⟨by simp, by simp⟩
theorem eqIn_ok : ∀ (d : Nat) (t : TypeId) (x y : HV) (vx vy : Value) (b : Bool), VRep g c x vx → VRep g c y vy → eqIn Pr d t x y = some b → (Op.equalIn d t vx vy).run Pr w = .ok b w := by
  intro d
  induction d with
  | zero => intro t x y vx vy b _ _ h; simp [eqIn] at h
  | succ d ih =>
    intro t x y vx vy b hx hy h
    unfold eqIn at h
    split at h
    · rename_i p q hu
      have e1 : vx = .bool p := hx
      have e2 : vy = .bool q := hy
      subst e1; subst e2
      simp only [Option.some.injEq] at h; subst h
      exact run_equalIn_bool w d t p q hu
    · rename_i k0 k p k' q hu
      have e1 : vx = .int k p := hx
      have e2 : vy = .int k' q := hy
      subst e1; subst e2
      split at h
      · rename_i hk
        subst hk
        simp only [Option.some.injEq] at h; subst h
        exact run_equalIn_int w d t k k0 p q hu
      · cases h
    · rename_i k0 k p k' q hu
      have e1 : vx = .float k p := hx
      have e2 : vy = .float k' q := hy
      subst e1; subst e2
      split at h
      · rename_i hk
        subst hk
        simp only [Option.some.injEq] at h; subst h
        simp [Op.equalIn, run_underlying hu]
      · cases h
    · rename_i k0 k p p' k' q q' hu
      have e1 : vx = .complex k p p' := hx
      have e2 : vy = .complex k' q q' := hy
      subst e1; subst e2
      split at h
      · rename_i hk
        subst hk
        simp only [Option.some.injEq] at h; subst h
        simp [Op.equalIn, run_underlying hu]
      · cases h
    · rename_i n p m q hu
      obtain ⟨hd, e1⟩ : p < 256 ^ n ∧ vx = strOf n p := hx
      obtain ⟨he, e2⟩ : q < 256 ^ m ∧ vy = strOf m q := hy
      subst e1; subst e2
      simp only [Option.some.injEq] at h; subst h
      simp only [strOf]
      rw [run_equalIn_string w d t _ _ hu, sEq_eq hd he]
      simp
    · rename_i fields xs ys hu
      obtain ⟨us, rfl, hus⟩ := hx
      obtain ⟨vs, rfl, hvs⟩ := hy
      split at h
      · cases h
      · rename_i hst
        have hf : Pr.fieldsOf t = fields := by simp [Program.fieldsOf, hu]
        rw [run_equalIn_struct w d t _ _ (by rw [hf]; exact hu) (by simpa using hst), hf]
        exact eqFs_ok ih (fun t x y b => eqIn_live d t x y b) fields.toList xs ys us vs b hus hvs h
    · cases h

theorem agg_ok {op : BinOp} {t : TypeId} {x y : HV} {vx vy : Value} (hx : TRep g c x vx) (hy : TRep g c y vy) (hl : aggF Pr op t x y ≠ .dead) : ∃ z, BinOk Pr op t vx vy z w ∧ TRep g c (aggF Pr op t x y) z := by
  unfold aggF at hl ⊢
  cases x <;> try exact absurd rfl hl
  rename_i a
  cases y <;> try exact absurd rfl hl
  rename_i b
  obtain ⟨us, e1, hus⟩ := hx
  obtain ⟨vs, e2, hvs⟩ := hy
  have hx' : VRep g c (.agg a) vx := ⟨us, e1, hus⟩
  have hy' : VRep g c (.agg b) vy := ⟨vs, e2, hvs⟩
  simp only at hl ⊢
  by_cases hg : Pr.eqGuardType Pr.depth t = true
  · rw [if_pos hg] at hl; exact absurd rfl hl
  · rw [if_neg hg] at hl ⊢
    subst e1; subst e2
    have gd : ∀ ox oy, (eqGuard op t ox oy (.agg us.toArray) (.agg vs.toArray)).run Pr w = .ok () w := fun ox oy => run_eqGuard_agg (P := Pr) w op t ox oy us.toArray vs.toArray (by simpa using hg)
    cases hb : eqIn Pr 10000 t (.agg a) (.agg b) with
    | none => rw [hb] at hl; cases op <;> exact absurd rfl hl
    | some r =>
      rw [hb] at hl
      have q := eqIn_ok (w := w) 10000 t _ _ _ _ r hx' hy' hb
      cases op <;> simp only at hl ⊢ <;> try exact absurd rfl hl
      · exact ⟨.bool r, ⟨gd, by rw [run_eql_struct, q]; rfl⟩, rfl⟩
      · exact ⟨.bool (!r), ⟨gd, by rw [run_neq_struct, q]; rfl⟩, rfl⟩

theorem nil_ok {op : BinOp} {t : TypeId} {q : HV → HV → Option Bool} {x y : HV} {vx vy : Value} (hq : ∀ b, q x y = some b → (Op.equalIn 10000 t vx vy).run Pr w = .ok b w ∧ (∀ ox oy, (eqGuard op t ox oy vx vy).run Pr w = .ok () w) ∧
      (binOp .eql t vx vy).run Pr w = (((Op.equalIn 10000 t vx vy).run Pr w).andThen fun b w' => .ok (.bool b) w') ∧ (binOp .neq t vx vy).run Pr w = (((Op.equalIn 10000 t vx vy).run Pr w).andThen fun b w' => .ok (.bool (!b)) w'))
    (hl : nilF q op x y ≠ .dead) : ∃ z, BinOk Pr op t vx vy z w ∧ TRep g c (nilF q op x y) z := by
  unfold nilF at hl ⊢
  cases hb : q x y with
  | none => rw [hb] at hl; exact absurd rfl hl
  | some b =>
    obtain ⟨h1, h2, h3, h4⟩ := hq b hb
    rw [hb] at hl
    cases op <;> simp only at hl ⊢ <;> try exact absurd rfl hl
    · exact ⟨.bool b, ⟨h2, by rw [h3, h1]; rfl⟩, rfl⟩
    · exact ⟨.bool (!b), ⟨h2, by rw [h4, h1]; rfl⟩, rfl⟩
theorem nilP_ok {op : BinOp} {t e : TypeId} (hu : Pr.underlying t = some (.pointer e)) {x y : HV} {vx vy : Value} (hx : TRep g c x vx) (hy : TRep g c y vy) (hl : nilF nilP op x y ≠ .dead) : ∃ z, BinOk Pr op t vx vy z w ∧ TRep g c (nilF nilP op x y) z := by
  refine nil_ok (fun b hb => ?_) hl
  unfold nilP at hb
  have key : ∀ A B, vx = .pointer A → vy = .pointer B → (A = none ∨ B = none) → (A.isNone && B.isNone) = b → (Op.equalIn 10000 t vx vy).run Pr w = .ok b w ∧ (∀ ox oy, (eqGuard op t ox oy vx vy).run Pr w = .ok () w) ∧
      (binOp .eql t vx vy).run Pr w = (((Op.equalIn 10000 t vx vy).run Pr w).andThen fun b w' => .ok (.bool b) w') ∧ (binOp .neq t vx vy).run Pr w = (((Op.equalIn 10000 t vx vy).run Pr w).andThen fun b w' => .ok (.bool (!b)) w') := by
    rintro A B rfl rfl hab hb
    refine ⟨?_, fun _ _ => eqGuard_plain (by simp) (by simp), ?_, ?_⟩
    · have q : ∀ d, (Op.equalIn (d + 1) t (.pointer A) (.pointer B)).run Pr w = .ok b w := fun d => by
        rcases A with _ | A <;> rcases B with _ | B <;> simp [Op.equalIn, run_underlying hu] at hab hb ⊢ <;> exact hb
      exact q 9999
    · simp [binOp, Op.equal, Op.maxDepth]
    · simp [binOp, Op.equal, Op.maxDepth]
  split at hb
  · simp only [Option.some.injEq] at hb
    exact key none none hx hy (.inl rfl) hb
  · simp only [Option.some.injEq] at hb
    exact key _ none hx.2 hy (.inr rfl) (by simpa using hb)
  · simp only [Option.some.injEq] at hb
    exact key none _ hx hy.2 (.inl rfl) (by simpa using hb)
  · cases hb
theorem nilS_ok {op : BinOp} {t e : TypeId} (hu : Pr.underlying t = some (.slice e)) {x y : HV} {vx vy : Value} (hx : TRep g c x vx) (hy : TRep g c y vy) (hl : nilF nilS op x y ≠ .dead) : ∃ z, BinOk Pr op t vx vy z w ∧ TRep g c (nilF nilS op x y) z := by
  refine nil_ok (fun b hb => ?_) hl
  unfold nilS at hb
  have key : ∀ A n m, vx = .slice A n m → vy = .slice none 0 0 → A.isNone = b → (Op.equalIn 10000 t vx vy).run Pr w = .ok b w ∧ (∀ ox oy, (eqGuard op t ox oy vx vy).run Pr w = .ok () w) ∧
      (binOp .eql t vx vy).run Pr w = (((Op.equalIn 10000 t vx vy).run Pr w).andThen fun b w' => .ok (.bool b) w') ∧ (binOp .neq t vx vy).run Pr w = (((Op.equalIn 10000 t vx vy).run Pr w).andThen fun b w' => .ok (.bool (!b)) w') := by
    rintro A n m rfl rfl hb
    refine ⟨?_, fun _ _ => eqGuard_plain (by simp) (by simp), ?_, ?_⟩
    · have q : ∀ d, (Op.equalIn (d + 1) t (.slice A n m) (.slice none 0 0)).run Pr w = .ok b w := fun d => by
        cases A <;> simp [Op.equalIn, run_underlying hu] at hb ⊢ <;> exact hb
      exact q 9999
    · simp [binOp, Op.equal, Op.maxDepth]
    · simp [binOp, Op.equal, Op.maxDepth]
  split at hb
  · simp only [Option.some.injEq] at hb
    exact key none 0 0 hx hy hb
  · simp only [Option.some.injEq] at hb
    obtain ⟨_, A, m, h1, _⟩ := hx
    exact key _ _ _ h1 hy (by simpa using hb)
  · cases hb
theorem nilFn_ok {op : BinOp} {t : TypeId} {ps rs : Array TypeId} {vd : Bool} (hu : Pr.underlying t = some (.func ps rs vd)) {x y : HV} {vx vy : Value} (hx : TRep g c x vx) (hy : TRep g c y vy) (hl : nilF nilFn op x y ≠ .dead) : ∃ z, BinOk Pr op t vx vy z w ∧ TRep g c (nilF nilFn op x y) z := by
  refine nil_ok (fun b hb => ?_) hl
  unfold nilFn at hb
  split at hb
  · simp only [Option.some.injEq] at hb
    have e1 : vx = .nilFunc := hx
    have e2 : vy = .nilFunc := hy
    subst e1; subst e2; subst hb
    have q : ∀ d, (Op.equalIn (d + 1) t .nilFunc .nilFunc).run Pr w = .ok true w := fun d => by simp [Op.equalIn, run_underlying hu]
    refine ⟨q 9999, fun _ _ => eqGuard_plain (by simp) (by simp), ?_, ?_⟩
    · simp [binOp, Op.equal, Op.maxDepth]
    · simp [binOp, Op.equal, Op.maxDepth]
  · simp only [Option.some.injEq] at hb
    obtain ⟨_, e1⟩ := hx
    have e2 : vy = .nilFunc := hy
    subst e1; subst e2; subst hb
    have q : ∀ d f a b, (Op.equalIn (d + 1) t (.func f a b) .nilFunc).run Pr w = .ok false w := fun d f a b => by simp [Op.equalIn, run_underlying hu]
    refine ⟨q 9999 _ _ _, fun _ _ => eqGuard_plain (by simp) (by simp), ?_, ?_⟩
    · simp [binOp, Op.equal, Op.maxDepth]
    · simp [binOp, Op.equal, Op.maxDepth]
  · cases hb

/-! ### Integers of which only what is left by a number is known -/
theorem md_bin {op : BinOp} {t : TypeId} {k k' : IntKind} {a b : Int} {z : Value} (h : (binOp op t (.int k a) (.int k' b)).run Pr w = .ok z w) : BinOk Pr op t (.int k a) (.int k' b) z w :=
  ⟨fun ox oy => eqGuard_plain (by simp) (by simp), h⟩
theorem mdW_ok {op : BinOp} {t : TypeId} {q : IntKind → Nat → Nat → HV → HV} {f : HV → HV → HV} {x y : HV} {vx vy : Value} (hx : TRep g c x vx) (hy : TRep g c y vy) (hl : mdW q f x y ≠ .dead)
    (hf : f x y ≠ .dead → ∃ z, BinOk Pr op t vx vy z w ∧ TRep g c (f x y) z)
    (hq : ∀ k n m, q k m (n % m) y ≠ .dead → n ≤ top k → ∃ z, BinOk Pr op t (.int k (Int.ofNat n)) vy z w ∧ TRep g c (q k m (n % m) y) z) : ∃ z, BinOk Pr op t vx vy z w ∧ TRep g c (mdW q f x y) z := by
  cases x <;> try exact hf hl
  rename_i k m r
  obtain ⟨n, rfl, rfl, hn⟩ := hx
  exact hq k n m hl hn
theorem int_inv {q : IntKind → Int → HV} {y : HV} {d : HV} (h : d ≠ .dead) (e : ∀ k b, y = .int k (Int.ofNat b) → d = q k (Int.ofNat b)) (e' : (∀ k b, y ≠ .int k (Int.ofNat b)) → d = .dead) : ∃ k b, y = .int k (Int.ofNat b) := by
  by_cases hy : ∃ k b, y = .int k (Int.ofNat b)
  · exact hy
  · exact absurd (e' fun k b h => hy ⟨k, b, h⟩) h
theorem and_one : ∀ n, n ≤ 255 → andI .u8 (Int.ofNat n) (Int.ofNat 1) = Int.ofNat (n % 2) := by
  have h : ∀ n : Fin 256, andI .u8 (Int.ofNat n.1) (Int.ofNat 1) = Int.ofNat (n.1 % 2) := by decide +kernel
  exact fun n hn => h ⟨n, by omega⟩
theorem remM_ok {t : TypeId} {k : IntKind} {n m : Nat} {y : HV} {vy : Value} (hy : TRep g c y vy) (hl : remM k m (n % m) y ≠ .dead) : ∃ z, BinOk Pr .rem t (.int k (Int.ofNat n)) vy z w ∧ TRep g c (remM k m (n % m) y) z := by
  unfold remM at hl ⊢
  split at hl
  · rename_i k' b
    have e2 : vy = .int k' (Int.ofNat b) := hy
    subst e2
    split at hl
    · rename_i hc
      simp only [hc, if_true]
      simp only [Bool.and_eq_true, Bool.not_eq_true'] at hc
      obtain ⟨⟨c1, c2⟩, c3⟩ := hc
      have := ikEq_eq c1; subst this
      have hb : b ≠ 0 := fun e => by subst e; cases c2
      have hd : b ∣ m := Nat.dvd_of_mod_eq_zero (Nat.eq_of_beq_eq_true c3)
      have hb' : ¬ (Int.ofNat b = 0) := fun e => hb (Int.ofNat.inj e)
      refine ⟨.int k ((Int.ofNat n).tmod (Int.ofNat b)), md_bin (by simp [binOp, Op.intDiv, hb]), ?_⟩
      show Value.int k (Int.ofNat (n % b)) = Value.int k (Int.ofNat (n % m % b))
      rw [Nat.mod_mod_of_dvd _ hd]
    · exact absurd rfl hl
  · exact absurd rfl hl
theorem andM_ok {t : TypeId} {k : IntKind} {n m : Nat} {y : HV} {vy : Value} (hy : TRep g c y vy) (hn : n ≤ top k) (hl : andM k m (n % m) y ≠ .dead) : ∃ z, BinOk Pr .and t (.int k (Int.ofNat n)) vy z w ∧ TRep g c (andM k m (n % m) y) z := by
  unfold andM at hl ⊢
  split at hl
  · rename_i k' b
    have e2 : vy = .int k' (Int.ofNat b) := hy
    subst e2
    split at hl
    · rename_i hc
      simp only [hc, if_true]
      simp only [Bool.and_eq_true] at hc
      obtain ⟨⟨c1, c2⟩, c3⟩ := hc
      have := ikEq_eq c1; subst this
      have := ikEq_eq c2; subst this
      have := Nat.eq_of_beq_eq_true c3; subst this
      have hn : n ≤ 255 := hn
      refine ⟨.int .u8 (andI .u8 (Int.ofNat n) (Int.ofNat 1)), md_bin (by simp [binOp, Op.intBits]; rfl), ?_⟩
      rw [and_one n hn]
      split
      · rename_i h2
        have hd : 2 ∣ m := Nat.dvd_of_mod_eq_zero (Nat.eq_of_beq_eq_true h2)
        show Value.int .u8 (Int.ofNat (n % 2)) = Value.int .u8 (Int.ofNat (n % m % 2))
        rw [Nat.mod_mod_of_dvd _ hd]
      · exact ⟨n % 2, rfl, Nat.mod_one _, by show n % 2 ≤ 255; omega⟩
    · exact absurd rfl hl
  · exact absurd rfl hl
theorem eqlM_ok {t : TypeId} {k : IntKind} {n m : Nat} {y : HV} {vy : Value} (hy : TRep g c y vy) (hl : eqlM k m (n % m) y ≠ .dead) : ∃ z, BinOk Pr .eql t (.int k (Int.ofNat n)) vy z w ∧ TRep g c (eqlM k m (n % m) y) z := by
  unfold eqlM at hl ⊢
  split at hl
  · rename_i k' b
    have e2 : vy = .int k' (Int.ofNat b) := hy
    subst e2
    split at hl
    · rename_i hc
      simp only [hc, if_true]
      have := ikEq_eq hc; subst this
      refine ⟨.bool (Int.ofNat n == Int.ofNat b), md_bin (by simp [binOp, Op.intCmp]), ?_⟩
      split
      · exact ⟨_, rfl⟩
      · rename_i h2
        show Value.bool _ = Value.bool false
        congr 1
        rw [beq_eq_false_iff_ne]
        intro e
        have := Int.ofNat.inj e
        subst this
        exact h2 (Nat.beq_refl _)
    · exact absurd rfl hl
  · exact absurd rfl hl
theorem shrM_ok {t : TypeId} {k : IntKind} {n m : Nat} {y : HV} {vy : Value} (hy : TRep g c y vy) (hn : n ≤ top k) (hl : shrM k m (n % m) y ≠ .dead) : ∃ z, BinOk Pr .shr t (.int k (Int.ofNat n)) vy z w ∧ TRep g c (shrM k m (n % m) y) z := by
  unfold shrM at hl ⊢
  split at hl
  · rename_i k' b
    have e2 : vy = .int k' (Int.ofNat b) := hy
    subst e2
    have hb : ¬ (Int.ofNat b < 0) := by simp
    refine ⟨.int k (Int.ofNat (n / 2 ^ (min b k.bits))), md_bin ?_, ?_⟩
    · have : (Int.ofNat n).fdiv (2 ^ min b k.bits) = Int.ofNat (n / 2 ^ (min b k.bits)) := by
        have e : (2 : Int) ^ (min b k.bits) = Int.ofNat (2 ^ (min b k.bits)) := by simp
        rw [e]; exact (Int.ofNat_fdiv _ _).symm
      rw [← this]
      have hb2 : ¬ ((b : Int) < 0) := by omega
      simp [binOp, Op.shift, hb2]
    · split
      · rename_i h2
        have hd : 2 ^ (min b k.bits) ∣ m := Nat.dvd_of_mod_eq_zero (Nat.eq_of_beq_eq_true h2)
        obtain ⟨q, rfl⟩ := hd
        have hp : 0 < 2 ^ (min b k.bits) := Nat.pow_pos (by omega)
        refine ⟨n / 2 ^ (min b k.bits), rfl, ?_, Nat.le_trans (Nat.div_le_self _ _) hn⟩
        show n / 2 ^ (min b k.bits) % (2 ^ (min b k.bits) * q / 2 ^ (min b k.bits)) = n % (2 ^ (min b k.bits) * q) / 2 ^ (min b k.bits)
        rw [Nat.mul_div_cancel_left _ hp, Nat.mod_mul_right_div_self]
      · exact ⟨n / 2 ^ (min b k.bits), rfl, Nat.mod_one _, Nat.le_trans (Nat.div_le_self _ _) hn⟩
  · exact absurd rfl hl
/-! ### Integers that are not known -/
theorem syW_ok {op : BinOp} {t : TypeId} {q : Nat → Nat → Bool} {f : HV → HV → HV} {x y : HV} {vx vy : Value} (hx : TRep g c x vx) (hy : TRep g c y vy) (hl : syW q f x y ≠ .dead)
    (hf : f x y ≠ .dead → ∃ z, BinOk Pr op t vx vy z w ∧ TRep g c (f x y) z)
    (hq : ∀ k i j, i < Env.m → j < Env.m → (binOp op t (.int k (Env.ρ i)) (.int k (Env.ρ j))).run Pr w = .ok (.bool (q i j)) w) : ∃ z, BinOk Pr op t vx vy z w ∧ TRep g c (syW q f x y) z := by
  cases x <;> try exact hf hl
  rename_i k i
  obtain ⟨hi, rfl⟩ : i < Env.m ∧ vx = .int k (Env.ρ i) := hx
  cases y <;> try exact absurd rfl hl
  rename_i k' j
  obtain ⟨hj, rfl⟩ : j < Env.m ∧ vy = .int k' (Env.ρ j) := hy
  by_cases hk : ikEq k k' = true
  · have := ikEq_eq hk; subst this
    refine ⟨_, md_bin (hq k i j hi hj), ?_⟩
    show TRep g c (if ikEq k k = true then HV.bool (q i j) else .dead) _
    rw [if_pos hk]
    exact rfl
  · refine absurd ?_ hl
    show (if ikEq k k' = true then HV.bool (q i j) else .dead) = .dead
    rw [if_neg hk]
theorem rho_lt {i j : Nat} (hi : i < Env.m) (hj : j < Env.m) : Env.ρ i < Env.ρ j ↔ i < j := by
  constructor
  · intro h
    rcases Nat.lt_trichotomy i j with h1 | h1 | h1
    · exact h1
    · subst h1; omega
    · have := Env.mono j i h1 hi; omega
  · intro h; exact Env.mono i j h hj
theorem rho_eq {i j : Nat} (hi : i < Env.m) (hj : j < Env.m) : Env.ρ i = Env.ρ j ↔ i = j := by
  constructor
  · intro h
    rcases Nat.lt_trichotomy i j with h1 | h1 | h1
    · have := Env.mono i j h1 hj; omega
    · exact h1
    · have := Env.mono j i h1 hi; omega
  · intro h; subst h; rfl
theorem par_one {k : IntKind} {n : Int} {r : Nat} (h : n % 2 = Int.ofNat r) : andI k n (Int.ofNat 1) = Int.ofNat r := by
  unfold andI
  have hb : 0 < k.bits := by cases k <;> decide
  have h1 : (BitVec.ofInt k.bits n &&& BitVec.ofInt k.bits (Int.ofNat 1)).toNat = r := by
    rw [BitVec.toNat_and, BitVec.toNat_ofInt, BitVec.toNat_ofInt]
    have e1 : (Int.ofNat 1 % ((2 ^ k.bits : Nat) : Int)).toNat = 1 := by cases k <;> rfl
    rw [e1, Nat.and_one_is_mod]
    have e2 : (n % ((2 ^ k.bits : Nat) : Int)) % 2 = n % 2 := by
      apply Int.emod_emod_of_dvd
      have : (2 : Nat) ∣ 2 ^ k.bits := (⟨2 ^ (k.bits - 1), by rw [Nat.mul_comm, ← Nat.pow_succ]; congr 1; omega⟩)
      exact Int.ofNat_dvd.2 this
    have e3 : 0 ≤ n % ((2 ^ k.bits : Nat) : Int) := Int.emod_nonneg _ (by have : 0 < 2 ^ k.bits := Nat.pow_pos (by decide); omega)
    rw [h] at e2
    have e4 : Int.ofNat r = (r : Int) := rfl
    rw [e4] at e2
    omega
  rw [h1]
  have hr : r < 2 := by have : Int.ofNat r = (r : Int) := rfl; omega
  have : r = 0 ∨ r = 1 := by omega
  rcases this with rfl | rfl <;> cases k <;> rfl
theorem parW_ok {t : TypeId} {f : HV → HV → HV} {x y : HV} {vx vy : Value} (hx : TRep g c x vx) (hy : TRep g c y vy) (hl : parW f x y ≠ .dead)
    (hf : f x y ≠ .dead → ∃ z, BinOk Pr .and t vx vy z w ∧ TRep g c (f x y) z) : ∃ z, BinOk Pr .and t vx vy z w ∧ TRep g c (parW f x y) z := by
  cases x <;> try exact hf hl
  rename_i k r
  obtain ⟨n, rfl, hn, _, _⟩ : ∃ n : Int, vx = .int k n ∧ n % 2 = Int.ofNat r ∧ k.min ≤ n ∧ n ≤ k.max := hx
  cases y <;> try exact absurd rfl hl
  rename_i k' b
  cases b with
  | negSucc b => exact absurd rfl hl
  | ofNat b =>
    have e2 : vy = .int k' (Int.ofNat b) := hy
    subst e2
    by_cases hc : (ikEq k k' && Nat.beq b 1) = true
    · have e : parW f (.par k r) (.int k' (Int.ofNat b)) = .int k (Int.ofNat r) := by
        show (if (ikEq k k' && Nat.beq b 1) = true then HV.int k (Int.ofNat r) else .dead) = _
        rw [if_pos hc]
      rw [e]
      simp only [Bool.and_eq_true] at hc
      have := ikEq_eq hc.1; subst this
      have := Nat.eq_of_beq_eq_true hc.2; subst this
      refine ⟨.int k (andI k n (Int.ofNat 1)), md_bin (by simp [binOp, Op.intBits]; rfl), ?_⟩
      rw [par_one hn]
      exact rfl
    · refine absurd ?_ hl
      show (if (ikEq k k' && Nat.beq b 1) = true then HV.int k (Int.ofNat r) else .dead) = .dead
      rw [if_neg hc]
theorem mdF_ok {op : BinOp} {t : TypeId} {f : HV → HV → HV} (h : mdF op (intF op) = .f f) {x y : HV} {vx vy : Value} (hx : TRep g c x vx) (hy : TRep g c y vy) (hl : f x y ≠ .dead) : ∃ z, BinOk Pr op t vx vy z w ∧ TRep g c (f x y) z := by
  unfold mdF at h
  split at h
  · rename_i f0 h0
    split at h
    · injection h with h; subst h; exact mdW_ok hx hy hl (fun hd => intF_ok h0 hx hy hd) fun k n m hd hn => remM_ok hy hd
    · injection h with h; subst h; exact parW_ok hx hy hl fun hd => mdW_ok hx hy hd (fun hd => intF_ok h0 hx hy hd) fun k n m hd hn => andM_ok hy hn hd
    · injection h with h; subst h
      refine syW_ok hx hy hl (fun hd => mdW_ok hx hy hd (fun hd => intF_ok h0 hx hy hd) fun k n m hd hn => eqlM_ok hy hd) fun k i j hi hj => ?_
      have e : (Env.ρ i == Env.ρ j) = Nat.beq i j := by rw [Bool.eq_iff_iff, beq_iff_eq, Nat.beq_eq]; exact rho_eq hi hj
      rw [← e]; simp [binOp, Op.intCmp]
    · injection h with h; subst h
      refine syW_ok hx hy hl (fun hd => intF_ok h0 hx hy hd) fun k i j hi hj => ?_
      have e : (Env.ρ i != Env.ρ j) = Bool.not (Nat.beq i j) := by
        show Bool.not (Env.ρ i == Env.ρ j) = _
        congr 1; rw [Bool.eq_iff_iff, beq_iff_eq, Nat.beq_eq]; exact rho_eq hi hj
      rw [← e]; simp [binOp, Op.intCmp]
    · injection h with h; subst h
      refine syW_ok hx hy hl (fun hd => intF_ok h0 hx hy hd) fun k i j hi hj => ?_
      have e : decide (Env.ρ i < Env.ρ j) = Nat.blt i j := by rw [Bool.eq_iff_iff, decide_eq_true_iff, Nat.blt_eq]; exact rho_lt hi hj
      rw [← e]; simp [binOp, Op.intCmp]
    · injection h with h; subst h
      refine syW_ok hx hy hl (fun hd => intF_ok h0 hx hy hd) fun k i j hi hj => ?_
      have e : decide (Env.ρ i ≤ Env.ρ j) = Nat.ble i j := by rw [Bool.eq_iff_iff, decide_eq_true_iff, Nat.ble_eq, ← Int.not_lt, rho_lt hj hi, Nat.not_lt]
      rw [← e]; simp [binOp, Op.intCmp]
    · injection h with h; subst h
      refine syW_ok hx hy hl (fun hd => intF_ok h0 hx hy hd) fun k i j hi hj => ?_
      have e : decide (Env.ρ i > Env.ρ j) = Nat.blt j i := by rw [Bool.eq_iff_iff, decide_eq_true_iff, Nat.blt_eq]; exact rho_lt hj hi
      rw [← e]; simp [binOp, Op.intCmp]
    · injection h with h; subst h
      refine syW_ok hx hy hl (fun hd => intF_ok h0 hx hy hd) fun k i j hi hj => ?_
      have e : decide (Env.ρ i ≥ Env.ρ j) = Nat.ble j i := by rw [Bool.eq_iff_iff, decide_eq_true_iff, Nat.ble_eq]; show Env.ρ j ≤ Env.ρ i ↔ _; rw [← Int.not_lt, rho_lt hi hj, Nat.not_lt]
      rw [← e]; simp [binOp, Op.intCmp]
    · injection h with h; subst h; exact intF_ok h0 hx hy hl
  · cases h

/-- **Operators of two operands.** -/
theorem binF_ok {op : BinOp} {t : TypeId} {f : HV → HV → HV} (h : binF Pr op t = .f f) {x y : HV} {vx vy : Value} (hx : TRep g c x vx) (hy : TRep g c y vy) (hl : f x y ≠ .dead) : ∃ z, BinOk Pr op t vx vy z w ∧ TRep g c (f x y) z := by
  unfold binF at h
  split at h
  · injection h with h; subst h; exact shl_ok hx hy hl
  · injection h with h; subst h; exact mdW_ok hx hy hl (fun hd => shr_ok hx hy hd) fun k n m hd hn => shrM_ok hy hn hd
  · split at h
    · exact mdF_ok h hx hy hl
    · rename_i hu; injection h with h; subst h; exact bool_ok hu hx hy hl
    · injection h with h; subst h; exact flt_ok hx hy hl
    · injection h with h; subst h; exact cpx_ok hx hy hl
    · injection h with h; subst h; exact str_ok hx hy hl
    · rename_i hu; injection h with h; subst h; exact nilP_ok hu hx hy hl
    · rename_i hu; injection h with h; subst h; exact nilS_ok hu hx hy hl
    · rename_i hu; injection h with h; subst h; exact nilFn_ok hu hx hy hl
    · injection h with h; subst h; exact agg_ok hx hy hl
    · cases h

theorem unV_ok {op : UnOp} {x : HV} {v : Value} (hx : TRep g c x v) (hl : unV op x ≠ .dead) : ∃ u, (Op.unary op v).run Pr w = .ok u w ∧ TRep g c (unV op x) u := by
  unfold unV at hl ⊢
  cases x <;> try exact absurd rfl hl
  all_goals
    have e1 : v = _ := hx
    subst e1
    cases op <;> simp only at hl ⊢ <;> first
      | exact absurd rfl hl
      | exact ⟨_, by simp [Op.unary, Op.intArith, Op.intBits], rfl⟩
end
end
end Go.FM

/-! ## FnVal2 -/
/-
  The fast machine: functions of values, on: conversions, addresses, parts, cuts, lengths.
-/
set_option linter.unusedVariables false
set_option linter.unusedSimpArgs false
set_option linter.unusedSectionVars false
namespace Go.FM
noncomputable section
variable [Env]

section
variable {Pr : Program} {w : World} {g : Gm} {c : Nat}

theorem TRep.int {k : IntKind} {n : Int} {v : Value} (h : TRep g c (.int k n) v) : v = .int k n := h
theorem natOf_some {x : HV} {i : Nat} (h : natOf x = some i) : ∃ k, x = .int k (i : Int) := by
  unfold natOf at h
  split at h
  · rename_i k n
    simp only [Option.some.injEq] at h; subst h
    exact ⟨k, rfl⟩
  · cases h

theorem toInt_ok {src dst : TypeId} {d0 : TypeDesc} {k : IntKind} (h0 : Pr.underlying src = some d0) (h1 : Pr.underlying dst = some (.int k)) {x : HV} {v : Value} (hx : TRep g c x v) (hl : toInt k x ≠ .dead) :
    ∃ u, (convert src dst v).run Pr w = .ok u w ∧ TRep g c (toInt k x) u := by
  unfold toInt at hl ⊢
  cases x <;> try exact absurd rfl hl
  · rename_i k' n
    have e1 : v = .int k' n := hx
    subst e1
    simp only [wrapF_eq]
    exact ⟨.int k (k.wrap n), by simp [convert, run_underlying h0, run_underlying h1, Conv.intToInt], rfl⟩
  · rename_i s b
    have e1 : v = .float s b := hx
    subst e1
    simp only at hl ⊢
    split at hl
    · rename_i n hn
      split at hl
      · rename_i hr
        rw [if_pos hr]
        exact ⟨.int k n, by simp [convert, run_underlying h0, run_underlying h1, Conv.floatToInt, hn, hr], rfl⟩
      · exact absurd rfl hl
    · exact absurd rfl hl
  · rename_i k' m r
    obtain ⟨n, rfl, hr, hn⟩ := hx
    simp only at hl ⊢
    split at hl
    · rename_i hc
      rw [if_pos hc]
      have hle : n ≤ top k := Nat.le_trans hn (Nat.le_of_ble_eq_true hc)
      have hw := wrapN_eq k n
      unfold wrapN at hw
      rw [Nat.ble_eq_true_of_le hle] at hw
      refine ⟨.int k (k.wrap (.ofNat n)), by simp [convert, run_underlying h0, run_underlying h1, Conv.intToInt], n, ?_, hr, hle⟩
      have hw : HV.int k (Int.ofNat n) = HV.int k (k.wrap (Int.ofNat n)) := hw
      injection hw with _ hw
      rw [← hw]; rfl
    · exact absurd rfl hl
theorem toFlt_ok {src dst : TypeId} {d0 : TypeDesc} {k : FloatKind} (h0 : Pr.underlying src = some d0) (h1 : Pr.underlying dst = some (.float k)) {x : HV} {v : Value} (hx : TRep g c x v) (hl : toFlt k x ≠ .dead) :
    ∃ u, (convert src dst v).run Pr w = .ok u w ∧ TRep g c (toFlt k x) u := by
  unfold toFlt at hl ⊢
  cases x <;> try exact absurd rfl hl
  · rename_i k' n
    have e1 : v = .int k' n := hx
    subst e1
    exact ⟨.float k (k.nearest n), by simp [convert, run_underlying h0, run_underlying h1, Conv.intToFloat], rfl⟩
  · rename_i s b
    have e1 : v = .float s b := hx
    subst e1
    simp only at hl ⊢
    by_cases hk : s = k
    · subst hk
      rw [if_pos rfl]
      exact ⟨.float s b, by simp [convert, run_underlying h0, run_underlying h1, Conv.floatToFloat], rfl⟩
    · rw [if_neg hk] at hl; exact absurd rfl hl
theorem idStr_ok {src dst : TypeId} {d0 : TypeDesc} (h0 : Pr.underlying src = some d0) (h1 : Pr.underlying dst = some .string) {x : HV} {v : Value} (hx : TRep g c x v) (hl : idStr x ≠ .dead) :
    ∃ u, (convert src dst v).run Pr w = .ok u w ∧ TRep g c (idStr x) u := by
  unfold idStr at hl ⊢
  cases x <;> try exact absurd rfl hl
  rename_i n d
  obtain ⟨hd, e1⟩ : d < 256 ^ n ∧ v = strOf n d := hx
  subst e1
  exact ⟨strOf n d, by simp only [strOf]; simp [convert, run_underlying h0, run_underlying h1], hd, rfl⟩

theorem addr_add (g : Gm) (k o n : Nat) : (addrOf g k o).add n = addrOf g k (o + n) := by
  simp only [addrOf]
  rw [Addr.add_lit, Nat.add_assoc]

theorem fieldAddrF_ok {t : TypeId} {i : Nat} {f : HV → HV} (h : fieldAddrF Pr t i = .f f) {x : HV} {v : Value} (hx : TRep g c x v) (hl : f x ≠ .dead) : ∃ u, (Instr.fieldAt t v i).run Pr w = .ok u w ∧ TRep g c (f x) u := by
  unfold fieldAddrF at h
  split at h
  · rename_i fields hu
    split at h
    · rename_i fd hf
      split at h
      · rename_i m hm
        injection h with h; subst h
        unfold fieldAddr at hl ⊢
        cases x <;> try exact absurd rfl hl
        rename_i k o
        obtain ⟨hk, e1⟩ := hx
        subst e1
        refine ⟨.pointer (some (addrOf g k (o + fd.offset))), ?_, hk, rfl⟩
        have := addr_add g k o fd.offset
        simp [Instr.fieldAt, run_underlying hu, hf, Instr.sureAddr, fieldPlace, sizeT_run hm, this]
      · cases h
    · cases h
  · cases h
theorem fieldF_ok {t : TypeId} {i : Nat} {f : HV → HV} (h : fieldF Pr t i = .f f) {x : HV} {v : Value} (hx : TRep g c x v) (hl : f x ≠ .dead) : ∃ u, (Instr.field t v i).run Pr w = .ok u w ∧ TRep g c (f x) u := by
  unfold fieldF at h
  split at h
  · rename_i fields hu
    split at h
    · rename_i fd hf
      split at h
      · rename_i n b hn hb
        injection h with h; subst h
        unfold fieldV at hl ⊢
        cases x <;> try exact absurd rfl hl
        rename_i cs
        obtain ⟨vs, rfl, hvs⟩ := hx
        obtain ⟨u, h1, h2⟩ := part_ok (w := w) hn hb hvs hl
        refine ⟨u, ?_, TRep.of_val h2⟩
        simp [Instr.field, run_underlying hu, hf, h1, asAgg]
      · cases h
    · cases h
  · cases h

theorem indexAddrF_ok {t : TypeId} {f : HV → HV → HV} (h : indexAddrF Pr t = .f f) {x y : HV} {v u : Value} (hx : TRep g c x v) (hy : TRep g c y u) (hl : f x y ≠ .dead) : ∃ r, (Instr.indexAt t v u).run Pr w = .ok r w ∧ TRep g c (f x y) r := by
  unfold indexAddrF at h
  split at h
  · rename_i e hu
    split at h
    · rename_i sz hsz
      injection h with h; subst h
      unfold indexAddrS at hl ⊢
      cases x <;> try exact absurd rfl hl
      rename_i k o n es cl
      simp only at hl ⊢
      split at hl
      · rename_i i hi
        obtain ⟨kk, rfl⟩ := natOf_some hi
        have e2 : u = .int kk (i : Int) := hy
        subst e2
        obtain ⟨hk, A, m, e1, hnm, hmm, hes, hlen, hbs, hfull, hcl, hA⟩ := hx
        subst e1
        cases hb : Nat.blt i n with
        | false => rw [hb] at hl; exact absurd rfl hl
        | true =>
          have hin : i < n := Nat.le_of_ble_eq_true hb
          rw [hb] at hl
          cases hq : Nat.beq es sz with
          | false => rw [hq] at hl; exact absurd rfl hl
          | true =>
            have := Nat.eq_of_beq_eq_true hq; subst this
            have hAe := hA (by omega)
            subst hAe
            refine ⟨.pointer (some (addrOf g k (o + i * es))), ?_, hk, rfl⟩
            have := addr_add g k o (i * es)
            simp [Instr.indexAt, asIntOf, run_underlying hu, hin, sizeT_run hsz, this]
      · exact absurd rfl hl
    · cases h
  · rename_i len e hu
    split at h
    · rename_i sz hsz
      injection h with h; subst h
      unfold indexAddrA at hl ⊢
      cases x <;> try exact absurd rfl hl
      rename_i k o
      simp only at hl ⊢
      split at hl
      · rename_i i hi
        obtain ⟨kk, rfl⟩ := natOf_some hi
        have e2 : u = .int kk (i : Int) := hy
        subst e2
        obtain ⟨hk, e1⟩ := hx
        subst e1
        cases hb : Nat.blt i len with
        | false => rw [hb] at hl; exact absurd rfl hl
        | true =>
          have hin : i < len := Nat.le_of_ble_eq_true hb
          refine ⟨.pointer (some (addrOf g k (o + i * sz))), ?_, hk, rfl⟩
          have := addr_add g k o (i * sz)
          simp [Instr.indexAt, asIntOf, run_underlying hu, Instr.sureAddr, hin, sizeT_run hsz, this]
      · exact absurd rfl hl
    · cases h
  · cases h

theorem indexF_ok {t : TypeId} {f : HV → HV → HV} (h : indexF Pr t = .f f) {x y : HV} {v u : Value} (hx : TRep g c x v) (hy : TRep g c y u) (hl : f x y ≠ .dead) : ∃ r, (Instr.index t v u).run Pr w = .ok r w ∧ TRep g c (f x y) r := by
  unfold indexF at h
  split at h
  · rename_i hu
    injection h with h; subst h
    unfold indexStr at hl ⊢
    split at hl
    · rename_i n d i hi
      obtain ⟨kk, rfl⟩ := natOf_some hi
      have e2 : u = .int kk (i : Int) := hy
      subst e2
      obtain ⟨hd, e1⟩ : d < 256 ^ n ∧ v = strOf n d := hx
      subst e1
      split at hl
      · rename_i hb
        have hin : i < n := Nat.le_of_ble_eq_true hb
        rw [if_pos hb]
        refine ⟨.int .u8 (bAt d i : Nat), ?_, rfl⟩
        have hg := bytesOf_get n d i hin
        have hsz : (⟨(bytesOf n d).toArray⟩ : ByteArray).size = n := by simp [ByteArray.size, bytesOf_length]
        have hb' : (⟨(bytesOf n d).toArray⟩ : ByteArray)[i]? = some (UInt8.ofNat (bAt d i)) := by
          have hlt : i < (bytesOf n d).length := by rw [bytesOf_length]; exact hin
          have hge : (bytesOf n d)[i] = UInt8.ofNat (bAt d i) := by simpa [List.getElem?_eq_getElem hlt] using hg
          rw [getElem?_pos (⟨(bytesOf n d).toArray⟩ : ByteArray) i (by simpa [ByteArray.size] using hlt)]
          rw [← hge]; rfl
        have h8 := toNat_ofNat (bAt d i) (bAt_lt d i)
        simp only [strOf]
        simp [Instr.index, asIntOf, run_underlying hu, hb', h8]
      · exact absurd rfl hl
    · exact absurd rfl hl
  · rename_i len e hu
    split at h
    · rename_i sz b hsz hb
      injection h with h; subst h
      unfold indexV at hl ⊢
      split at hl
      · rename_i cs i hi
        obtain ⟨kk, rfl⟩ := natOf_some hi
        have e2 : u = .int kk (i : Int) := hy
        subst e2
        obtain ⟨vs, rfl, hvs⟩ := hx
        split at hl
        · rename_i hlt
          have hin : i < len := Nat.le_of_ble_eq_true hlt
          rw [if_pos hlt]
          obtain ⟨u, h1, h2⟩ := part_ok (w := w) hsz hb hvs hl
          have h1 : (part e vs.toArray (i * sz)).run Pr w = .ok u w := h1
          refine ⟨u, ?_, TRep.of_val h2⟩
          simp [Instr.index, asIntOf, run_underlying hu, hin, sizeT_run hsz, h1, asAgg]
        · exact absurd rfl hl
      · exact absurd rfl hl
    · cases h
  · cases h

/-! ### Cuts -/
theorem boundM_some {most h : Nat} {x : HV} {v : Value} (hx : TRep g c x v) (hb : boundM most x = some h) : ∃ k, v = .int k (h : Int) ∧ h ≤ most := by
  unfold boundM at hb
  split at hb
  · rename_i i hi
    obtain ⟨k, rfl⟩ := natOf_some hi
    split at hb
    · rename_i hle
      simp only [Option.some.injEq] at hb; subst hb
      exact ⟨k, hx, Nat.le_of_ble_eq_true hle⟩
    · cases hb
  · cases hb
theorem sliceBound_run {k : IntKind} {i y : Nat} (cd : BoundsCode) (h1 : i ≤ y) : (Instr.sliceBound (.int k (i : Int)) y cd).run Pr w = .ok i w := by
  have : (i : Int) ≤ (y : Int) := by omega
  simp [Instr.sliceBound, asIntOf, this]
/-- Is an operand there? Then it stands for the value; else the value is 0. -/
def LoRep (g : Gm) (c : Nat) (lo : Option Value) (x : HV) : Prop := match lo with
  | none => x = .int .i64 (.ofNat 0)
  | some v => TRep g c x v
def HiRep (g : Gm) (c : Nat) (hh : Bool) (hi : Option Value) (x : HV) : Prop := match hi with
  | none => hh = false
  | some v => hh = true ∧ TRep g c x v
theorem boundH_some {hh : Bool} {hi : Option Value} {x : HV} {dflt h : Nat} (hx : HiRep g c hh hi x) (hb : boundH hh dflt x = some h) : (hi = none ∧ h = dflt) ∨ ∃ k, hi = some (.int k (h : Int)) ∧ h ≤ dflt := by
  cases hi with
  | none =>
    have : hh = false := hx
    subst this
    have : some dflt = some h := hb
    exact .inl ⟨rfl, (Option.some.inj this).symm⟩
  | some v =>
    obtain ⟨rfl, hx⟩ := hx
    have hb : boundM dflt x = some h := hb
    obtain ⟨k, rfl, hl⟩ := boundM_some hx hb
    exact .inr ⟨k, rfl, hl⟩
theorem sliceBounds_run {isS hh : Bool} {len cap : Nat} {lo hi : Option Value} {xl xh : HV} {h l : Nat} (hlo : LoRep g c lo xl) (hhi : HiRep g c hh hi xh) (hlc : len ≤ cap) (h1 : boundH hh len xh = some h) (h2 : boundM h xl = some l) :
    (Instr.sliceBounds isS len cap lo hi none).run Pr w = .ok (l, h, cap) w ∧ l ≤ h ∧ h ≤ len := by
  have key : ∀ k, hi = some (.int k (h : Int)) → h ≤ len → (Instr.sliceBounds isS len cap lo hi none).run Pr w = .ok (l, h, cap) w ∧ l ≤ h ∧ h ≤ len := by
    rintro k rfl hle
    cases lo with
    | none =>
      have : xl = .int .i64 (.ofNat 0) := hlo
      subst this
      have h2 : (if Nat.ble 0 h then some 0 else none) = some l := h2
      simp at h2; subst h2
      exact ⟨by simp [Instr.sliceBounds, sliceBound_run (Pr := Pr) (w := w) _ (show h ≤ cap by omega)], by omega, hle⟩
    | some v =>
      obtain ⟨k2, rfl, hl⟩ := boundM_some hlo h2
      exact ⟨by simp [Instr.sliceBounds, sliceBound_run (Pr := Pr) (w := w) _ (show h ≤ cap by omega), sliceBound_run (Pr := Pr) (w := w) _ hl], hl, hle⟩
  rcases boundH_some hhi h1 with ⟨rfl, rfl⟩ | ⟨k, hk, hle⟩
  · cases lo with
    | none =>
      have : xl = .int .i64 (.ofNat 0) := hlo
      subst this
      have h2 : (if Nat.ble 0 h then some 0 else none) = some l := h2
      simp at h2; subst h2
      exact ⟨by simp [Instr.sliceBounds], by omega, Nat.le_refl _⟩
    | some v =>
      obtain ⟨k2, rfl, hl⟩ := boundM_some hlo h2
      exact ⟨by simp [Instr.sliceBounds, sliceBound_run (Pr := Pr) (w := w) _ hl], hl, Nat.le_refl _⟩
  · exact key k hk hle

theorem sliceF_ok {hh : Bool} {t : TypeId} {f : HV → HV → HV → HV} (h : sliceF Pr hh t = .f f) {x xl xh : HV} {v : Value} {lo hi : Option Value} (hx : TRep g c x v) (hlo : LoRep g c lo xl) (hhi : HiRep g c hh hi xh) (hl : f x xl xh ≠ .dead) :
    ∃ u, (Instr.sliceAt t v lo hi none).run Pr w = .ok u w ∧ TRep g c (f x xl xh) u := by
  unfold sliceF at h
  split at h
  · rename_i hu
    injection h with h; subst h
    unfold sliceStr at hl ⊢
    cases x <;> try exact absurd rfl hl
    rename_i n d
    obtain ⟨hd, e1⟩ : d < 256 ^ n ∧ v = strOf n d := hx
    subst e1
    simp only at hl ⊢
    cases hb : boundH hh n xh with
    | none => rw [hb] at hl; exact absurd rfl hl
    | some h =>
      cases hb2 : boundM h xl with
      | none => rw [hb] at hl; simp only [hb2] at hl; exact absurd rfl hl
      | some l =>
        simp only [hb2]
        obtain ⟨q, hlh, hhn⟩ := sliceBounds_run (Pr := Pr) (w := w) (isS := false) hlo hhi (Nat.le_refl n) hb hb2
        refine ⟨strOf (h - l) (bCut d l (h - l)), ?_, bCut_lt _ _ _, rfl⟩
        have hsz : (⟨(bytesOf n d).toArray⟩ : ByteArray).size = n := by simp [ByteArray.size, bytesOf_length]
        have he : (⟨(bytesOf n d).toArray⟩ : ByteArray).extract l h = ⟨(bytesOf (h - l) (bCut d l (h - l))).toArray⟩ := by
          apply ByteArray.ext
          rw [bytesOf_cut n d l (h - l) (by omega)]
          apply Array.ext'
          simp [ByteArray.data_extract, List.extract_eq_take_drop]
        simp only [strOf]
        simp [Instr.sliceAt, Instr.slice, run_underlying hu, hsz, q, he]
  · rename_i e hu
    split at h
    · rename_i sz hsz
      injection h with h; subst h
      unfold sliceSlc at hl ⊢
      cases x <;> try exact absurd rfl hl
      · -- nil
        simp only at hl ⊢
        have e1 : v = .slice none 0 0 := hx
        subst e1
        cases hb : boundH hh 0 xh with
        | none => rw [hb] at hl; exact absurd rfl hl
        | some h =>
          have h0 : h = 0 := by
            rcases boundH_some hhi hb with ⟨_, rfl⟩ | ⟨_, _, hle⟩ <;> omega
          subst h0
          cases hb2 : boundM 0 xl with
          | none => rw [hb] at hl; simp only [hb2] at hl; exact absurd rfl hl
          | some l =>
            obtain ⟨q, hlh, hhn⟩ := sliceBounds_run (Pr := Pr) (w := w) (isS := true) hlo hhi (Nat.le_refl 0) hb hb2
            have : l = 0 := by omega
            subst this
            simp only [hb2]
            exact ⟨.slice none 0 0, by simp [Instr.sliceAt, Instr.slice, run_underlying hu, q, sizeT_run hsz], rfl⟩
      · rename_i k o n es cl
        simp only at hl ⊢
        obtain ⟨hk, A, m, e1, hnm, hmm, hes, hlen, hbs, hfull, hcl, hA⟩ := hx
        subst e1
        cases hb : boundH hh n xh with
        | none => rw [hb] at hl; exact absurd rfl hl
        | some h =>
          cases hb2 : boundM h xl with
          | none => rw [hb] at hl; simp only [hb2] at hl; exact absurd rfl hl
          | some l =>
            rw [hb] at hl
            simp only [hb2] at hl ⊢
            obtain ⟨q, hlh, hhn⟩ := sliceBounds_run (Pr := Pr) (w := w) (isS := true) hlo hhi hnm hb hb2
            cases hbad : (cl && !(Nat.beq h n) || !(Nat.beq es sz)) with
            | true => rw [hbad] at hl; exact absurd rfl hl
            | false =>
              simp only [Bool.or_eq_false_iff, Bool.and_eq_false_iff, Bool.not_eq_false'] at hbad
              obtain ⟨hb3, hb4⟩ := hbad
              have hes2 := Nat.eq_of_beq_eq_true hb4
              subst hes2
              show ∃ u, _ ∧ TRep g c (HV.slc k (o + l * es) (h - l) es cl) u
              refine ⟨.slice (some (if m = l then A else A.add (l * es))) (h - l) (m - l), ?_, hk, _, m - l, rfl, by omega, by omega, hes, ?_, ?_, fun hc => ?_, fun hc => ?_, fun h0 => ?_⟩
              · have : (if m = l then some A else Option.map (fun x => x.add (l * es)) (some A)) = some (if m = l then A else A.add (l * es)) := by split <;> rfl
                simp [Instr.sliceAt, Instr.slice, run_underlying hu, q, sizeT_run hsz]
                split <;> simp_all
              · show o + l * es + (h - l) * es ≤ (g k).len
                have : l * es + (h - l) * es = h * es := by rw [← Nat.add_mul]; congr 1; omega
                have := Nat.mul_le_mul_right es hhn
                omega
              · show (g k).o + (o + l * es) + (m - l) * es ≤ (g k).bs
                have : l * es + (m - l) * es = m * es := by rw [← Nat.add_mul]; congr 1; omega
                omega
              · show (g k).len ≤ o + l * es + (m - l) * es
                have : l * es + (m - l) * es = m * es := by rw [← Nat.add_mul]; congr 1; omega
                have := hfull hc
                omega
              · have hm := hcl hc
                rcases hb3 with hb3 | hb3
                · rw [hc] at hb3; cases hb3
                · have := Nat.eq_of_beq_eq_true hb3
                  omega
              · rw [if_neg (by omega), hA (by omega), addr_add]
    · cases h
  · cases h

theorem clip_ok {t e : TypeId} {sz : Nat} (hu : Pr.underlying t = some (.slice e)) (hsz : sizeT Pr e = some sz) {x xl xh xm : HV} {v vh vm : Value} {lo : Option Value} (hx : TRep g c x v) (hlo : LoRep g c lo xl) (hhi : TRep g c xh vh) (hmx : TRep g c xm vm) (hl : sliceClip sz x xl xh xm ≠ .dead) :
    ∃ u, (Instr.sliceAt t v lo (some vh) (some vm)).run Pr w = .ok u w ∧ TRep g c (sliceClip sz x xl xh xm) u := by
  unfold sliceClip at hl ⊢
  have bnds : ∀ {cap m l : Nat} {km kh : IntKind}, m ≤ cap → boundM m xl = some l → (Instr.sliceBounds true 0 cap lo (some (.int kh (m : Int))) (some (.int km (m : Int)))).run Pr w = .ok (l, m, m) w ∧ l ≤ m := by
    intro cap m l km kh hle hb
    cases lo with
    | none =>
      have : xl = .int .i64 (.ofNat 0) := hlo
      subst this
      have h2 : (if Nat.ble 0 m then some 0 else none) = some l := hb
      simp at h2; subst h2
      exact ⟨by simp [Instr.sliceBounds, sliceBound_run (Pr := Pr) (w := w) _ hle, sliceBound_run (Pr := Pr) (w := w) _ (Nat.le_refl m)], by omega⟩
    | some v =>
      obtain ⟨k2, rfl, hl⟩ := boundM_some hlo hb
      exact ⟨by simp [Instr.sliceBounds, sliceBound_run (Pr := Pr) (w := w) _ hle, sliceBound_run (Pr := Pr) (w := w) _ (Nat.le_refl m), sliceBound_run (Pr := Pr) (w := w) _ hl], hl⟩
  have bnds2 : ∀ {cap m hh l : Nat} {km kh : IntKind}, m ≤ cap → hh ≤ m → boundM hh xl = some l → (Instr.sliceBounds true 0 cap lo (some (.int kh (hh : Int))) (some (.int km (m : Int)))).run Pr w = .ok (l, hh, m) w ∧ l ≤ hh := by
    intro cap m hh l km kh hle hhm hb
    cases lo with
    | none =>
      have : xl = .int .i64 (.ofNat 0) := hlo
      subst this
      have h2 : (if Nat.ble 0 hh then some 0 else none) = some l := hb
      simp at h2; subst h2
      exact ⟨by simp [Instr.sliceBounds, sliceBound_run (Pr := Pr) (w := w) _ hle, sliceBound_run (Pr := Pr) (w := w) _ hhm], by omega⟩
    | some v =>
      obtain ⟨k2, rfl, hl⟩ := boundM_some hlo hb
      exact ⟨by simp [Instr.sliceBounds, sliceBound_run (Pr := Pr) (w := w) _ hle, sliceBound_run (Pr := Pr) (w := w) _ hhm, sliceBound_run (Pr := Pr) (w := w) _ hl], hl⟩
  have len0 : ∀ {cap len : Nat} {a b : Value}, (Instr.sliceBounds true len cap lo (some a) (some b)) = (Instr.sliceBounds true 0 cap lo (some a) (some b)) := fun {cap len a b} => by simp [Instr.sliceBounds]
  cases x <;> try exact absurd rfl hl
  · simp only at hl ⊢
    split at hl
    · rename_i h1 h2 h3
      obtain ⟨k1, rfl⟩ := natOf_some h1
      obtain ⟨k2, rfl⟩ := natOf_some h2
      have e1 : v = .slice none 0 0 := hx
      have e2 : vm = .int k1 ((0 : Nat) : Int) := hmx
      have e3 : vh = .int k2 ((0 : Nat) : Int) := hhi
      subst e1; subst e2; subst e3
      obtain ⟨q, hq⟩ := bnds (cap := 0) (km := k1) (kh := k2) (Nat.le_refl 0) h3
      rename_i l
      have : l = 0 := by omega
      subst this
      exact ⟨.slice none 0 0, by simp [Instr.sliceAt, Instr.slice, run_underlying hu, sizeT_run hsz]; simp at q; simp [q], rfl⟩
    · exact absurd rfl hl
  · rename_i k o n es cl
    obtain ⟨hk, A, m, e1, hnm, hmm, hes, hlen, hbs, hfull, hcl, hA⟩ := hx
    subst e1
    simp only at hl ⊢
    split at hl
    · rename_i mm hq h1 h2
      obtain ⟨k1, rfl⟩ := natOf_some h1
      obtain ⟨k2, rfl⟩ := natOf_some h2
      have e2 : vm = .int k1 (mm : Int) := hmx
      have e3 : vh = .int k2 (hq : Int) := hhi
      subst e2; subst e3
      split at hl
      · rename_i hc
        rw [if_pos hc]
        simp only [Bool.and_eq_true] at hc
        obtain ⟨⟨hc1, hc2⟩, hc3⟩ := hc
        have hc1 := Nat.le_of_ble_eq_true hc1
        have hc2 := Nat.eq_of_beq_eq_true hc2
        have hc3 := Nat.eq_of_beq_eq_true hc3
        subst hc2; subst hc3
        split at hl
        · rename_i l hb
          obtain ⟨q, hlm⟩ := bnds (cap := m) (km := k1) (kh := k2) (show hq ≤ m by omega) hb
          rw [← len0 (len := n)] at q
          show ∃ u, _ ∧ TRep g c (HV.slc k (o + l * es) (hq - l) es true) u
          refine ⟨.slice (some (if hq = l then A else A.add (l * es))) (hq - l) (hq - l), ?_, hk, _, hq - l, rfl, by omega, by omega, hes, ?_, ?_, (fun hc => by cases hc), (fun _ => rfl), fun h0 => ?_⟩
          · simp [Instr.sliceAt, Instr.slice, run_underlying hu, q, sizeT_run hsz]
            split <;> simp_all
          · show o + l * es + (hq - l) * es ≤ (g k).len
            have : l * es + (hq - l) * es = hq * es := by rw [← Nat.add_mul]; congr 1; omega
            have := Nat.mul_le_mul_right es hc1
            omega
          · show (g k).o + (o + l * es) + (hq - l) * es ≤ (g k).bs
            have : l * es + (hq - l) * es = hq * es := by rw [← Nat.add_mul]; congr 1; omega
            have := Nat.mul_le_mul_right es (show hq ≤ m by omega)
            omega
          · rw [if_neg (by omega), hA (by omega), addr_add]
        · exact absurd rfl hl
      · rename_i hc
        rw [if_neg hc]
        split at hl
        · rename_i hc'
          rw [if_pos hc']
          simp only [Bool.and_eq_true] at hc'
          obtain ⟨⟨hc1, hc2⟩, hc3⟩ := hc'
          have hc1 := Nat.le_of_ble_eq_true hc1
          have hc2 := Nat.le_of_ble_eq_true hc2
          have hc3 := Nat.eq_of_beq_eq_true hc3
          subst hc3
          split at hl
          · rename_i l hb
            obtain ⟨q, hlm⟩ := bnds2 (cap := m) (km := k1) (kh := k2) (show mm ≤ m by omega) hc2 hb
            rw [← len0 (len := n)] at q
            refine ⟨.slice (some (if mm = l then A else A.add (l * es))) (hq - l) (mm - l), ?_, trivial⟩
            simp [Instr.sliceAt, Instr.slice, run_underlying hu, q, sizeT_run hsz]
            split <;> simp_all
          · exact absurd rfl hl
        · exact absurd rfl hl
    · exact absurd rfl hl
end
end
end Go.FM

/-! ## FnVal3 -/
/-
  The fast machine: functions of values, the rest: lengths, the least, parts put together, constants.
-/
set_option linter.unusedVariables false
set_option linter.unusedSimpArgs false
set_option linter.unusedSectionVars false
namespace Go.FM
noncomputable section
variable [Env]
open Go.AbsM (flat foldl_lay flat_replicate madeCells_flat)

section
variable {Pr : Program} {w : World} {g : Gm} {c : Nat}

/-! ### Constants -/
theorem constHV_ok (v : Value) : CRep g c (constHV v) v ∧ (constHV v ≠ .dead → (constHV v).isCell = true) := by
  unfold constHV
  split
  all_goals first
    | exact ⟨rfl, fun _ => rfl⟩
    | skip
  · rename_i s
    have h2 : s.data.toList.length = s.size := Array.length_toList
    have h1 := bytesOf_packB s.data.toList
    have h3 := packB_lt s.data.toList
    rw [h2] at h1 h3
    refine ⟨⟨h3, ?_⟩, fun _ => rfl⟩
    show _ = Value.string ⟨(bytesOf s.size (packB s.data.toList)).toArray⟩
    rw [h1]
  · exact ⟨trivial, fun h => absurd rfl h⟩
theorem constV_ok (v : Value) : VRep g c (constV v) v := by
  unfold constV
  split
  · rename_i cs
    cases hall : (cs.toList.map constHV).all HV.isCell with
    | false => exact trivial
    | true =>
      refine ⟨cs.toList, by simp, by simp, fun i x u hx hu => ?_⟩
      simp only [List.getElem?_map, Option.map_eq_some_iff] at hx
      obtain ⟨y, hy, rfl⟩ := hx
      rw [hy] at hu
      simp only [Option.some.injEq] at hu; subst hu
      have hc := (constHV_ok (g := g) (c := c) y).1
      exact ⟨hc, hc.one (List.all_eq_true.1 hall _ (List.mem_map.2 ⟨y, List.mem_of_getElem? hy, rfl⟩))⟩
  · exact VRep.of_cell (constHV_ok v).1
theorem constV_cells {v : Value} (hl : constV v ≠ .dead) : CReps g c (constV v).cells v.cells.toList ∧ (constV v).cells.all HV.isCell = true := by
  have hall : (constV v).cells.all HV.isCell = true := by
    have other : constV v = constHV v → (constV v).cells.all HV.isCell = true := by
      intro e
      rw [e] at hl ⊢
      have := (constHV_ok (g := fun _ => ⟨0, 0, 0, 0⟩) (c := 0) v).2 hl
      have hcl : (constHV v).cells = [constHV v] := by
        cases hc : constHV v <;> first | rfl | (rw [hc] at this; cases this)
      rw [hcl]
      simp [this]
    cases v with
    | agg cs =>
      have e : constV (.agg cs) = Bool.casesOn ((List.map constHV cs.toList).all HV.isCell) HV.dead (HV.agg (List.map constHV cs.toList)) := rfl
      rw [e] at hl ⊢
      cases hall : (cs.toList.map constHV).all HV.isCell with
      | false => rw [hall] at hl; exact absurd rfl hl
      | true => exact hall
    | _ => exact other rfl
  exact ⟨TRep.cells (TRep.of_val (constV_ok v)) hall, hall⟩

/-! ### Lengths, the least, the greatest -/
theorem lenF_ok {t ty : TypeId} {rest : List TypeId} {f : HV → HV} (h : lenF Pr t = .f f) {x : HV} {v : Value} (hx : TRep g c x v) (hl : f x ≠ .dead) : ∃ u, (Builtin.len_ (t :: rest).toArray ty #[v]).run Pr w = .ok u w ∧ TRep g c (f x) u := by
  unfold lenF at h
  split at h
  · rename_i hu
    injection h with h; subst h
    unfold lenStr at hl ⊢
    cases x <;> try exact absurd rfl hl
    rename_i n d
    obtain ⟨hd, e1⟩ : d < 256 ^ n ∧ v = strOf n d := hx
    subst e1
    have hsz : (⟨(bytesOf n d).toArray⟩ : ByteArray).size = n := by simp [ByteArray.size, bytesOf_length]
    refine ⟨.int .i64 (n : Int), ?_, rfl⟩
    simp only [strOf]
    simp [Builtin.len_, run_underlying hu, goInt, hsz]
  · rename_i e hu
    injection h with h; subst h
    unfold lenSlc at hl ⊢
    cases x <;> try exact absurd rfl hl
    · have e1 : v = .slice none 0 0 := hx
      subst e1
      exact ⟨.int .i64 0, by simp [Builtin.len_, run_underlying hu, goInt], rfl⟩
    · rename_i k o n es cl
      obtain ⟨_, A, m, e1, _⟩ := hx
      subst e1
      exact ⟨.int .i64 (n : Int), by simp [Builtin.len_, run_underlying hu, goInt], rfl⟩
  · rename_i m e hu
    injection h with h; subst h
    exact ⟨.int .i64 (m : Int), by simp [Builtin.len_, run_underlying hu, goInt], rfl⟩
  · rename_i arr hu
    split at h
    · rename_i m e hu2
      injection h with h; subst h
      exact ⟨.int .i64 (m : Int), by simp [Builtin.len_, run_underlying hu, run_underlying hu2, goInt], rfl⟩
    · cases h
  · cases h
theorem minV_ok {x y : HV} {u v : Value} (hx : TRep g c x u) (hy : TRep g c y v) (hl : minV x y ≠ .dead) (ts : Array TypeId) (ty : TypeId) : ∃ z, (Builtin.min_ ts ty #[u, v]).run Pr w = .ok z w ∧ TRep g c (minV x y) z := by
  unfold minV at hl ⊢
  split at hl
  · rename_i k p k' q
    have e1 : u = .int k p := hx
    have e2 : v = .int k' q := hy
    subst e1; subst e2
    exact ⟨.int k (if q < p then q else p), by simp [Builtin.min_, Builtin.min2], rfl⟩
  · rename_i k p k' q
    have e1 : u = .float k p := hx
    have e2 : v = .float k' q := hy
    subst e1; subst e2
    split at hl
    · rename_i hk
      subst hk
      rw [if_pos rfl]
      unfold minF at hl ⊢
      split at hl
      · exact ⟨.float k p, by simp_all [Builtin.min_, Builtin.min2], rfl⟩
      · exact ⟨.float k q, by simp_all [Builtin.min_, Builtin.min2], rfl⟩
      · exact ⟨.float k (if (k.decode p).neg then p else q), by simp_all [Builtin.min_, Builtin.min2], rfl⟩
      · exact absurd rfl hl
    · exact absurd rfl hl
  · exact absurd rfl hl
theorem maxV_ok {x y : HV} {u v : Value} (hx : TRep g c x u) (hy : TRep g c y v) (hl : maxV x y ≠ .dead) (ts : Array TypeId) (ty : TypeId) : ∃ z, (Builtin.max_ ts ty #[u, v]).run Pr w = .ok z w ∧ TRep g c (maxV x y) z := by
  unfold maxV at hl ⊢
  split at hl
  · rename_i k p k' q
    have e1 : u = .int k p := hx
    have e2 : v = .int k' q := hy
    subst e1; subst e2
    exact ⟨.int k (if q > p then q else p), by simp [Builtin.max_, Builtin.max2], rfl⟩
  · rename_i k p k' q
    have e1 : u = .float k p := hx
    have e2 : v = .float k' q := hy
    subst e1; subst e2
    split at hl
    · rename_i hk
      subst hk
      rw [if_pos rfl]
      unfold maxF at hl ⊢
      split at hl
      · exact ⟨.float k q, by simp_all [Builtin.max_, Builtin.max2], rfl⟩
      · exact ⟨.float k p, by simp_all [Builtin.max_, Builtin.max2], rfl⟩
      · exact ⟨.float k (if (k.decode p).neg then q else p), by simp_all [Builtin.max_, Builtin.max2], rfl⟩
      · exact absurd rfl hl
    · exact absurd rfl hl
  · exact absurd rfl hl

/-! ### Parts put together -/
theorem layL_ok {cs ds es : List HV} {vs us : List Value} {off : Nat} (hc : CReps g c cs vs) (hd : CReps g c ds us) (h : layL cs off ds = some es) : off + us.length ≤ vs.length ∧ CReps g c es (vs.take off ++ (us ++ vs.drop (off + us.length))) := by
  unfold layL at h
  split at h
  · rename_i hl
    have hl : off + ds.length ≤ cs.length := Nat.le_of_ble_eq_true hl
    simp only [Option.some.injEq] at h; subst h
    refine ⟨by rw [hc.1, hd.1]; exact hl, (hc.take off).append (hd.append ?_)⟩
    rw [hd.1]
    exact hc.drop _
  · cases h
theorem layL_len {cs ds es : List HV} {off : Nat} (h : layL cs off ds = some es) : es.length = cs.length ∧ off + ds.length ≤ cs.length := by
  unfold layL at h
  split at h
  · rename_i hl
    have hl : off + ds.length ≤ cs.length := Nat.le_of_ble_eq_true hl
    simp only [Option.some.injEq] at h; subst h
    refine ⟨?_, hl⟩
    simp; omega
  · cases h
def PReps (g : Gm) (c : Nat) (l : List (Nat × HV)) (m : List (Nat × Value)) : Prop :=
  m.length = l.length ∧ ∀ (i : Nat) (x : Nat × HV) (y : Nat × Value), l[i]? = some x → m[i]? = some y → x.1 = y.1 ∧ TRep g c x.2 y.2
theorem fillL_ok {place : Nat → Option (Nat × Nat)} {l : List (Nat × HV)} {m : List (Nat × Value)} {cells cs : List HV} {vs : List Value} (hl : PReps g c l m) (hc : CReps g c cells vs) (h : fillL place cells l = some cs) :
    ∃ us : List Value, Instr.fill place vs.toArray m = some us.toArray ∧ CReps g c cs us ∧ us.length = vs.length := by
  induction l generalizing m cells vs with
  | nil =>
    have : m = [] := List.eq_nil_of_length_eq_zero hl.1
    subst this
    simp only [fillL, Option.some.injEq] at h; subst h
    exact ⟨vs, rfl, hc, rfl⟩
  | cons x r ih =>
    obtain ⟨i, a⟩ := x
    cases m with
    | nil => exact absurd hl.1 (by simp)
    | cons y m' =>
      obtain ⟨i', v⟩ := y
      obtain ⟨e1, hv⟩ := hl.2 0 _ _ rfl rfl
      simp only at e1 hv
      subst e1
      have hl' : PReps g c r m' := ⟨by simpa using hl.1, fun j x y hx hy => hl.2 (j + 1) x y (by simpa using hx) (by simpa using hy)⟩
      simp only [fillL] at h
      split at h
      · cases h
      · rename_i off size hp
        split at h
        · rename_i hsz
          split at h
          · rename_i cells' hla
            have hcr := hv.cells hsz.2
            obtain ⟨hle, hcr'⟩ := layL_ok hc hcr hla
            have hvs : v.cells.size = size := by
              have := hcr.1
              simp only [Array.length_toList] at this
              rw [this, hsz.1]
            obtain ⟨us, hfill, hus, hul⟩ := ih hl' hcr' h
            refine ⟨us, ?_, hus, ?_⟩
            · simp only [Instr.fill, hp]
              have hno : ¬ ((v.cells.size ≠ size || decide (off + v.cells.size > vs.toArray.size)) = true) := by
                simp [hvs]
                simp at hle
                omega
              have hf := foldl_lay off v.cells.toList vs hle
              have hz : v.cells.zipIdx.foldl (fun (cs : Array Value) (x : Value × Nat) => cs.setIfInBounds (off + x.2) x.1) vs.toArray = (v.cells.toList.zipIdx).foldl (fun (cs : Array Value) (x : Value × Nat) => cs.setIfInBounds (off + x.2) x.1) vs.toArray := by
                rw [← Array.foldl_toList]
                simp
              simp only [ne_eq] at hno ⊢
              rw [if_neg (by simpa using hno)]
              have : (fun (cs : Array Value) (x : Value × Nat) => match x with | (c, j) => cs.setIfInBounds (off + j) c) = fun (cs : Array Value) (x : Value × Nat) => cs.setIfInBounds (off + x.2) x.1 := by
                funext cs x; rfl
              rw [this, hz, hf]
              exact hfill
            · rw [hul]
              simp only [List.length_append, List.length_take, List.length_drop]
              omega
          · cases h
        · cases h
theorem zeroT_some {t : TypeId} (h : zeroT Pr t ≠ .dead) : ∃ (i : TypeInfo) (v : Value), Pr.info? t = some i ∧ i.zero = some v ∧ zeroT Pr t = constV v := by
  unfold zeroT at h ⊢
  cases hi : Pr.info? t with
  | none => rw [hi] at h; exact absurd rfl h
  | some i =>
    cases hz : i.zero with
    | none => rw [hi] at h; simp [hz] at h
    | some v => exact ⟨i, v, rfl, hz, by simp [hz]⟩
theorem placesT_eq {fs : List Field} {l : List (Nat × Nat)} (h : placesT Pr fs = some l) : fs.mapM (fun f => (Pr.info? f.type).map fun i => (f.offset, i.size)) = some l := by
  induction fs generalizing l with
  | nil => simp [placesT] at h; subst h; rfl
  | cons f r ih =>
    simp only [placesT] at h
    split at h
    · rename_i n l' hn hl
      simp only [Option.some.injEq] at h; subst h
      obtain ⟨i, hi, rfl⟩ := Option.map_eq_some_iff.1 hn
      simp [List.mapM_cons, hi, ih hl]
    · cases h

/-- Parts, by their numbers. -/
theorem PReps.zip {ps : List (Nat × Operand)} {xs : List HV} {ev : Operand → Value} (h : TReps g c xs (ps.map fun p => ev p.2)) : PReps g c ((ps.map (·.1)).zip xs) (ps.map fun p => (p.1, ev p.2)) := by
  have hl : ps.length = xs.length := by simpa using h.1
  refine ⟨by simp [hl], fun i x y hx hy => ?_⟩
  rw [List.getElem?_zip_eq_some] at hx
  obtain ⟨h1, h2⟩ := hx
  simp only [List.getElem?_map, Option.map_eq_some_iff] at h1 hy
  obtain ⟨p, hp, e⟩ := h1
  obtain ⟨p', hp', rfl⟩ := hy
  rw [hp] at hp'
  simp only [Option.some.injEq] at hp'; subst hp'
  exact ⟨e.symm, h.2 i x.2 _ h2 (by simp [hp])⟩

theorem buildF_ok {t : TypeId} {ps : List (Nat × Operand)} {f : List HV → HV} (h : buildF Pr t (ps.map (·.1)) = .f f) {xs : List HV} {ev : Operand → Value} (hx : TReps g c xs (ps.map fun p => ev p.2)) (hl : f xs ≠ .dead) :
    ∃ u, (Instr.build t (ps.map fun p => (p.1, ev p.2)).toArray).run Pr w = .ok u w ∧ TRep g c (f xs) u := by
  have hp := PReps.zip hx
  unfold buildF at h
  split at h
  · rename_i z fields hz hu
    split at h
    · rename_i places hpl
      injection h with h; subst h
      obtain ⟨i, v, hi, hzv, he⟩ := zeroT_some (Pr := Pr) (t := t) (by rw [hz]; simp)
      rw [hz] at he
      have hcc := (constV_cells (g := g) (c := c) (v := v) (by rw [← he]; simp)).1
      rw [← he] at hcc
      simp only [aggOf] at hl ⊢
      split at hl
      · rename_i cs hf
        obtain ⟨us, hfill, hus, _⟩ := fillL_ok hp hcc hf
        refine ⟨.agg us.toArray, ?_, _, rfl, hus⟩
        apply run_build
        simp only [Program.built, hi, hu, hzv, placesT_eq hpl]
        simpa using hfill
      · exact absurd rfl hl
    · cases h
  · rename_i z n e hz hu
    split at h
    · rename_i k hk
      injection h with h; subst h
      obtain ⟨i, v, hi, hzv, he⟩ := zeroT_some (Pr := Pr) (t := t) (by rw [hz]; simp)
      rw [hz] at he
      have hcc := (constV_cells (g := g) (c := c) (v := v) (by rw [← he]; simp)).1
      rw [← he] at hcc
      simp only [aggOf] at hl ⊢
      split at hl
      · rename_i cs hf
        obtain ⟨us, hfill, hus, _⟩ := fillL_ok hp hcc hf
        obtain ⟨ie, hie, rfl⟩ := Option.map_eq_some_iff.1 hk
        refine ⟨.agg us.toArray, ?_, _, rfl, hus⟩
        apply run_build
        simp only [Program.built, hi, hu, hzv, hie]
        simpa using hfill
      · exact absurd rfl hl
    · cases h
  · cases h
end
end
end Go.FM

/-! ## FnMem -/
/-
  The fast machine: its heap as a tree; what is read, what is written.
-/
set_option linter.unusedVariables false
set_option linter.unusedSimpArgs false
set_option linter.unusedSectionVars false
namespace Go.FM
noncomputable section
variable [Env]
open Go.AbsM (flat foldl_lay flat_replicate madeCells_flat)

def hp (D : Nat) (h : HT) : Nat → HO := fun k => if k < 4 ^ D then HT.get D k h else .no
structure HOk (D : Nat) (g : Gm) (h : HT) (c : Nat) (w : World) : Prop where
  deep : HT.deep D h
  le : c ≤ 4 ^ D
  inv : HInv g (hp D h) c w
theorem hp_lt {D : Nat} {h : HT} {k : Nat} (hk : k < 4 ^ D) : hp D h k = HT.get D k h := if_pos hk
theorem hp_set {D : Nat} {h : HT} {j : Nat} {o : HO} (hd : HT.deep D h) (hj : j < 4 ^ D) : hp D (HT.set D j o h) = upd (hp D h) j o := by
  funext k
  show (if k < 4 ^ D then HT.get D k (HT.set D j o h) else .no) = if k = j then o else (if k < 4 ^ D then HT.get D k h else .no)
  by_cases hk : k < 4 ^ D
  · simp only [hk, if_true]
    rw [get_set D k j o h hd hk hj]
  · simp only [hk, if_false]
    rw [if_neg (by omega)]
theorem hp_unpre {D : Nat} {h : HT} {pre c : Nat} (hd : HT.deep D h) (hp0 : pre = 0 ∨ pre ≤ 4 ^ D) : hp D (unpre D pre h) = unp pre (hp D h) ∧ HT.deep D (unpre D pre h) := by
  cases pre with
  | zero => exact ⟨rfl, hd⟩
  | succ k =>
    have hk : k < 4 ^ D := by rcases hp0 with h | h <;> omega
    exact ⟨hp_set hd hk, deep_set D k .no h hd⟩

section
variable {Pr : Program} {D : Nat} {w w' : World} {g : Gm} {h : HT} {c : Nat}

theorem HOk.body (hi : HOk D g h c w) {k : Nat} (hk : k < c) {b : HB} (hb : (HT.get D k h).body = b) (hn : b ≠ .no) : BOk g c (g k) b w := by
  have e := hp_lt (D := D) (h := h) (k := k) (Nat.lt_of_lt_of_le hk hi.le)
  cases ho : HT.get D k h with
  | no => rw [ho] at hb; exact absurd hb.symm hn
  | own pre b' =>
    rw [ho] at hb e
    have : b' = b := hb
    subst this
    exact hi.inv.own k pre b' e
  | sh b' =>
    rw [ho] at hb e
    have : b' = b := hb
    subst this
    exact hi.inv.sh k b' e

theorem bytes_ones (n d : Nat) : ∀ u, u ∈ (bytesOf n d).map (fun b => Value.int .u8 b.toNat) → u.oneCell' = true := by
  intro u hu
  obtain ⟨b, _, rfl⟩ := List.mem_map.1 hu
  rfl
theorem CReps.ones {cs : List HV} {us : List Value} (hc : CReps g c cs us) : ∀ u, u ∈ us → u.oneCell' = true := by
  intro u hu
  obtain ⟨i, hi, rfl⟩ := List.getElem_of_mem hu
  exact (hc.2 i (cs[i]'(by rw [← hc.1]; exact hi)) us[i] (by simp [← hc.1, hi]) (by simp [hi])).2
theorem BRep.ones {b : HB} {us : List Value} (hb : BRep g c b us) : ∀ u, u ∈ us → u.oneCell' = true := by
  cases b with
  | no => exact hb.elim
  | cells cs => exact CReps.ones hb
  | byt n d => rw [hb.2]; exact bytes_ones n d
  | map es cl => exact hb.elim
theorem BRep.len {b : HB} {us : List Value} (hb : BRep g c b us) : us.length = sizeO b := by
  cases b with
  | no => exact hb.elim
  | cells cs => exact hb.1
  | byt n d => rw [hb.2]; simp [sizeO, bytesOf_length]
  | map es cl => exact hb.elim

/-- The cells of an object, in memory. -/
theorem BOk.cells {a : At} {b : HB} (hb : BOk g c a b w) (hm : isMap b = false := by rfl) : ∃ us : List Value, us.length = a.len ∧ BRep g c b us ∧ a.len = sizeO b ∧ ∀ (j : Nat) (u : Value), us[j]? = some u → w.cell? ⟨a.b, a.o + j, none⟩ = some u := by
  obtain ⟨vs, t, h1, h2, h3, h4⟩ := hb.plain hm
  have hl : (a.row vs).length = a.len := by simp [At.row]; omega
  refine ⟨a.row vs, hl, h4, by rw [← hl]; exact h4.len, fun j u hu => ?_⟩
  simp only [At.row, List.getElem?_take] at hu
  split at hu
  · rw [List.getElem?_drop] at hu
    rw [cell_of_row w a.b (a.o + j) vs.toArray t (0, 0) h1]
    simpa using hu
  · cases hu

theorem loadVar_ok {t : TypeId} {n off : Nat} {bl : Bool} {cs : List HV} {us : List Value} {b o : Nat} (hn : sizeT Pr t = some n) (ha : aggT Pr t = some bl) (hc : CReps g c cs us) (hm : ∀ (j : Nat) (u : Value), us[j]? = some u → w.cell? ⟨b, o + j, none⟩ = some u) (hl : partV bl n off cs ≠ .dead) :
    ∃ v, (loadVar t ⟨b, o + off, none⟩).run Pr w = .ok v w ∧ VRep g c (partV bl n off cs) v := by
  cases bl with
  | false =>
    have e : partV false n off cs = lget off cs := rfl
    rw [e] at hl ⊢
    obtain ⟨u, hu, h1, h2⟩ := hc.get (lget_some hl)
    refine ⟨u, ?_, VRep.of_cell h1⟩
    have := hm off u hu
    simp [loadVar, aggT_run ha, this]
  | true =>
    have e : partV true n off cs = if Nat.ble (Nat.add off n) cs.length then .agg ((cs.drop off).take n) else .dead := rfl
    rw [e] at hl ⊢
    by_cases hb : Nat.ble (Nat.add off n) cs.length = true
    · rw [if_pos hb]
      have hle : off + n ≤ cs.length := Nat.le_of_ble_eq_true hb
      refine ⟨.agg ((us.drop off).take n).toArray, ?_, _, rfl, (hc.drop off).take n⟩
      have hlen : ((us.drop off).take n).length = n := by simp [hc.1]; omega
      have hld := run_loadCells_list (P := Pr) w ⟨b, o + off, none⟩ ((us.drop off).take n) (fun j v hj => by
        rw [Addr.add_lit]
        rw [List.getElem?_take] at hj
        split at hj
        · rw [List.getElem?_drop] at hj
          rw [Nat.add_assoc]
          exact hm _ v hj
        · cases hj)
      rw [hlen] at hld
      simp [loadVar, aggT_run ha, sizeT_run hn, hld]
    · rw [if_neg hb] at hl; exact absurd rfl hl

theorem load_ok {t : TypeId} {n : Nat} {bl : Bool} (hn : sizeT Pr t = some n) (ha : aggT Pr t = some bl) (hi : HOk D g h c w) {x : HV} {v : Value} (hx : TRep g c x v) (hl : load D bl n h x ≠ .dead) :
    (∃ A, v = .pointer (some A) ∧ ∃ u, (loadVar t A).run Pr w = .ok u w ∧ VRep g c (load D bl n h x) u) := by
  unfold load at hl ⊢
  cases x <;> try exact absurd rfl hl
  rename_i k off
  obtain ⟨hk, e1⟩ := hx
  subst e1
  refine ⟨_, rfl, ?_⟩
  simp only at hl ⊢
  cases hb : (HT.get D k h).body with
  | no => rw [hb] at hl; exact absurd rfl hl
  | map es cl => rw [hb] at hl; exact absurd rfl hl
  | cells cs =>
    rw [hb] at hl
    have hl : partV bl n off cs ≠ .dead := hl
    obtain ⟨us, h1, h2, h3, h4⟩ := (hi.body hk.1 hb (by simp)).cells
    exact loadVar_ok hn ha h2 h4 hl
  | byt m d =>
    rw [hb] at hl
    cases bl with
    | true => exact absurd rfl hl
    | false =>
      have e : loadO false n off (.byt m d) = (Nat.blt off m).casesOn .dead (byteV (bAt d off)) := rfl
      rw [e] at hl ⊢
      cases hlt : Nat.blt off m with
      | false => rw [hlt] at hl; exact absurd rfl hl
      | true =>
        have hlt' : off < m := Nat.le_of_ble_eq_true hlt
        obtain ⟨us, h1, ⟨h2, h2'⟩, h3, h4⟩ := (hi.body hk.1 hb (by simp)).cells
        have hu : us[off]? = some (.int .u8 (bAt d off : Nat)) := by
          rw [h2', List.getElem?_map, bytesOf_get m d off hlt']
          simp [toNat_ofNat _ (bAt_lt d off)]
        refine ⟨.int .u8 (bAt d off : Nat), ?_, rfl⟩
        have := h4 off _ hu
        simp [loadVar, aggT_run ha, addrOf, this]

theorem toStr_ok (hi : HOk D g h c w) {x : HV} {v : Value} (hx : TRep g c x v) (hl : toStr D h x ≠ .dead) : ∃ u, (Conv.bytesToString v).run Pr w = .ok u w ∧ VRep g c (toStr D h x) u := by
  unfold toStr at hl ⊢
  cases x <;> try exact absurd rfl hl
  · have e1 : v = .slice none 0 0 := hx
    subst e1
    exact ⟨.string .empty, by simp [Conv.bytesToString], by decide, rfl⟩
  · rename_i k o n es cl
    obtain ⟨hk, A, m, e1, hnm, hmm, hes, hlen, hbs, hfull, hcl, hA⟩ := hx
    subst e1
    simp only at hl ⊢
    cases hb : (HT.get D k h).body with
    | no => rw [hb] at hl; exact absurd rfl hl
    | map es cl => rw [hb] at hl; exact absurd rfl hl
    | cells cs => rw [hb] at hl; exact absurd rfl hl
    | byt q d =>
      rw [hb] at hl
      simp only at hl ⊢
      by_cases hq : Nat.ble (Nat.add o n) q = true
      · rw [if_pos hq]
        have hq' : o + n ≤ q := Nat.le_of_ble_eq_true hq
        obtain ⟨us, h1, ⟨h2, h2'⟩, h3, h4⟩ := (hi.body hk.1 hb (by simp)).cells
        refine ⟨strOf n (bCut d o n), ?_, bCut_lt _ _ _, rfl⟩
        have hcut := bytesOf_cut q d o n hq'
        let ns : List Int := (bytesOf n (bCut d o n)).map fun b => (b.toNat : Int)
        have hnl : ns.length = n := by simp [ns, bytesOf_length]
        have hload : (loadCells A n).run Pr w = .ok (ns.map (Value.int .u8)).toArray w := by
          by_cases hn0 : n = 0
          · subst hn0
            have : ns = [] := List.eq_nil_of_length_eq_zero hnl
            rw [this]
            simp [loadCells, loadCellsFrom]
          · rw [hA (by omega)]
            have := run_loadCells_list (P := Pr) w (addrOf g k o) (ns.map (Value.int .u8)) (fun j v hv => by
              simp only [addrOf]
              rw [Addr.add_lit, Nat.add_assoc]
              refine h4 (o + j) v ?_
              rw [h2', List.getElem?_map]
              have hjn : j < n := by
                have := (List.getElem?_eq_some_iff.1 hv).1
                simpa [hnl] using this
              simp only [ns, List.map_map, List.getElem?_map] at hv
              rw [hcut, List.getElem?_take, if_pos hjn, List.getElem?_drop] at hv
              exact hv)
            rw [List.length_map, hnl] at this
            exact this
        have hr := run_bytesToString w A n m ns hload
        rw [hr]
        congr 2
        have hf := Go.AbsM.foldl_push_bytes ns []
        simp only [List.nil_append] at hf
        have he : ns.map (fun n => UInt8.ofNat n.toNat) = bytesOf n (bCut d o n) := by
          simp only [ns, List.map_map]
          conv => rhs; rw [← List.map_id (bytesOf n (bCut d o n))]
          apply List.map_congr_left
          intro b _
          simp
        rw [he] at hf
        exact hf
      · rw [if_neg hq] at hl; exact absurd rfl hl
end
end
end Go.FM

/-! ## FnWr -/
/-
  The fast machine: new objects.
-/
set_option linter.unusedVariables false
set_option linter.unusedSimpArgs false
set_option linter.unusedSectionVars false
namespace Go.FM
noncomputable section
variable [Env]
open Go.AbsM (flat foldl_lay flat_replicate madeCells_flat)

/-- What an effect leaves. -/
def Eff (D : Nat) (g : Gm) (h : HT) (c : Nat) (w : World) (r : Result Value) (v : HV) (h' : HT) (c' : Nat) : Prop :=
  ∃ z w' g', r = .ok z w' ∧ HOk D g' h' c' w' ∧ Post g (hp D h) c w g' (hp D h') c' w' ∧ TRep g' c' v z

section
variable {Pr : Program} {D : Nat} {w w' : World} {g : Gm} {h h' : HT} {c c' : Nat} {v : HV}

theorem Eff.same {z : Value} {r : Result Value} (hi : HOk D g h c w) (hr : r = .ok z w) (hv : TRep g c v z) : Eff D g h c w r v h c := ⟨z, w, g, hr, hi, Post.refl hi.inv, hv⟩

theorem newO_some {pre : Nat} {b : HB} {x : HV} (hn : newO D pre b x h c = .ok v h' c') : c < 4 ^ D ∧ b ≠ .no ∧ v = x ∧ h' = HT.set D c (.own pre b) h ∧ c' = c + 1 := by
  unfold newO at hn
  cases hb : Nat.blt c (Nat.pow 4 D) with
  | false => rw [hb] at hn; cases hn
  | true =>
    rw [hb] at hn
    have hlt : c < 4 ^ D := Nat.le_of_ble_eq_true hb
    cases b with
    | no => cases hn
    | cells cs => cases hn; exact ⟨hlt, by simp, rfl, rfl, rfl⟩
    | byt n d => cases hn; exact ⟨hlt, by simp, rfl, rfl, rfl⟩
    | map es cl => cases hn; exact ⟨hlt, by simp, rfl, rfl, rfl⟩

theorem new_eff {b : HB} {x : HV} {z : Value} {r : Result Value} {a : At} (hi : HOk D g h c w) (hx : Ext w w') (ha : w.heap.size ≤ a.b) (hb : BOk (g.new c a) (c + 1) a b w') (hn : newO D 0 b x h c = .ok v h' c') (hr : r = .ok z w') (hv : TRep (g.new c a) (c + 1) x z) :
    Eff D g h c w r v h' c' := by
  obtain ⟨h1, _, rfl, rfl, rfl⟩ := newO_some hn
  have hs := hp_set (o := .own 0 b) hi.deep h1
  have hp0 := Post.new hi.inv hx ha hb
  rw [← hs] at hp0
  exact ⟨z, w', g.new c a, hr, ⟨deep_set _ _ _ _ hi.deep, h1, hp0.inv⟩, hp0, hv⟩

theorem gnew_self (g : Gm) (c : Nat) (a : At) : g.new c a c = a := by simp [Gm.new]
theorem nm_new (g : Gm) (c : Nat) (a : At) (h : a.o + a.len ≤ a.bs) : Nm (g.new c a) (c + 1) c := ⟨Nat.lt_succ_self c, by rw [gnew_self]; exact h⟩
theorem agree_new (g : Gm) (c : Nat) (a : At) : Agree c g (g.new c a) := fun k hk => by simp only [Gm.new, if_neg (show ¬ k = c by omega)]

/-- A whole new block. -/
theorem BOk.fresh {us : List Value} {e : TypeId} {b : HB} {g' : Gm} {c1 : Nat} (hb : BRep g' c1 b us) : BOk g' c1 ⟨w.heap.size, 0, us.length, us.length⟩ b (w.alloc (.cells us.toArray e)) :=
  .inl ⟨us, e, heap_alloc_new w _, rfl, ⟨rfl, by simp⟩, by simpa [At.row] using hb⟩

theorem newVar_run {t : TypeId} {v : Value} : (newVar t v).run Pr w = .ok ⟨w.heap.size, 0, none⟩ (w.alloc (.cells v.cells t)) := rfl
theorem alloc_ok {e : TypeId} {f : HT → Nat → List HV → CR} (hf : allocF Pr D e = .f f) (hi : HOk D g h c w) (hr : f h c [] = .ok v h' c') :
    Eff D g h c w ((Instr.alloc e true (.tuple #[])).run Pr w) v h' c' := by
  unfold allocF at hf
  split at hf
  · cases hf
  · rename_i z hz
    cases hall : (zeroT Pr e).cells.all HV.isCell with
    | false => rw [hall] at hf; cases hf
    | true =>
      rw [hall] at hf
      injection hf with hf; subst hf
      obtain ⟨i, zv, hii, hzv, he⟩ := zeroT_some (Pr := Pr) (t := e) (fun e => hz e)
      have hcc := (constV_cells (g := g.new c ⟨w.heap.size, 0, zv.cells.toList.length, zv.cells.toList.length⟩) (c := c + 1) (v := zv) (by rw [← he]; exact fun e => hz e)).1
      rw [← he] at hcc
      have hb := BOk.fresh (w := w) (e := e) (b := .cells (zeroT Pr e).cells) hcc
      refine new_eff hi (Ext.alloc w _) (Nat.le_refl _) hb hr ?_ (⟨nm_new g c _ (by simp), rfl⟩ : TRep _ (c + 1) (.ptr c 0) (.pointer (some (addrOf (g.new c ⟨w.heap.size, 0, zv.cells.toList.length, zv.cells.toList.length⟩) c 0))))
      simp only [addrOf, gnew_self]
      simp [Instr.alloc, zeroValue, typeInfo, hii, hzv, newVar_run]

theorem box_ok {e : TypeId} {f : HT → Nat → List HV → CR} (hf : boxF Pr D e = .f f) (hi : HOk D g h c w) {x : HV} {u : Value} (hx : TRep g c x u) (hr : f h c [x] = .ok v h' c') :
    Eff D g h c w ((Instr.box e u).run Pr w) v h' c' := by
  unfold boxF at hf
  split at hf
  · rename_i n hn
    injection hf with hf; subst hf
    simp only at hr
    split at hr
    · rename_i hc
      have hcc := (hx.cells hc.2).mono (agree_new g c ⟨w.heap.size, 0, u.cells.toList.length, u.cells.toList.length⟩) (Nat.le_succ c)
      have hb := BOk.fresh (w := w) (e := e) (b := .cells x.cells) hcc
      refine new_eff hi (Ext.alloc w _) (Nat.le_refl _) hb hr ?_ (⟨nm_new g c _ (by simp), rfl⟩ : TRep _ (c + 1) (.ptr c 0) (.pointer (some (addrOf (g.new c ⟨w.heap.size, 0, u.cells.toList.length, u.cells.toList.length⟩) c 0))))
      simp only [addrOf, gnew_self]
      simp [Instr.box, newVar_run]
    · cases hr
  · cases hf

/-- A slice of a whole new object. -/
theorem slc_fresh {g : Gm} {n es m : Nat} {B : Nat} (hes : 0 < es) (hnm : n ≤ m) (hm : m ≤ maxLen) : TRep (g.new c ⟨B, 0, n * es, m * es⟩) (c + 1) (.slc c 0 n es false) (.slice (some ⟨B, 0, none⟩) n m) := by
  refine ⟨nm_new g c _ (by simpa using Nat.mul_le_mul_right es hnm), ⟨B, 0, none⟩, m, rfl, hnm, hm, hes, ?_, ?_, (fun _ => ?_), (fun h => by cases h), fun _ => ?_⟩
  · rw [gnew_self]; simp
  · rw [gnew_self]; simp
  · rw [gnew_self]
    show n * es ≤ 0 + m * es
    have := Nat.mul_le_mul_right es hnm
    omega
  · simp [addrOf, gnew_self]

theorem u8Of_some {x : HV} {b : Nat} (hb : u8Of x = some b) : x = .int .u8 (b : Int) ∧ b < 256 := by
  unfold u8Of at hb
  split at hb
  · rename_i k n
    split at hb
    · rename_i hc
      simp only [Bool.and_eq_true] at hc
      simp only [Option.some.injEq] at hb; subst hb
      have := ikEq_eq hc.1
      subst this
      exact ⟨rfl, Nat.le_of_ble_eq_true hc.2⟩
    · cases hb
  · cases hb
theorem bytesL_ok {cs : List HV} {us : List Value} {d : Nat} (hd : bytesL cs = some d) (hc : CReps g c cs us) : d < 256 ^ cs.length ∧ us = (bytesOf cs.length d).map fun b => Value.int .u8 b.toNat := by
  induction cs generalizing us d with
  | nil =>
    simp only [bytesL, Option.some.injEq] at hd; subst hd
    have : us = [] := List.eq_nil_of_length_eq_zero hc.1
    subst this
    exact ⟨by simp, rfl⟩
  | cons x r ih =>
    simp only [bytesL] at hd
    split at hd
    · rename_i b d' hb hd'
      simp only [Option.some.injEq] at hd; subst hd
      cases us with
      | nil => exact absurd hc.1 (by simp)
      | cons u us =>
        obtain ⟨e1, hb256⟩ := u8Of_some hb
        have hu := (hc.2 0 x u rfl rfl).1
        rw [e1] at hu
        have hu : u = .int .u8 (b : Int) := hu
        obtain ⟨h1, h2⟩ := ih hd' ⟨by simpa using hc.1, fun i x u hx hu => hc.2 (i + 1) x u (by simpa using hx) (by simpa using hu)⟩
        show b + 256 * d' < 256 ^ (r.length + 1) ∧ _
        refine ⟨by rw [Nat.pow_succ']; omega, ?_⟩
        rw [List.length_cons, bytesOf_succ, List.map_cons]
        have e2 : Nat.add b (Nat.mul 256 d') = b + 256 * d' := rfl
        rw [e2, show (b + 256 * d') % 256 = b by omega, show (b + 256 * d') / 256 = d' by omega, toNat_ofNat b hb256, ← h2, hu]
    · cases hd
theorem objOf_ok {u8 : Bool} {cs : List HV} {us : List Value} (hc : CReps g c cs us) (hn : objOf u8 cs ≠ .no) : BRep g c (objOf u8 cs) us := by
  cases u8 with
  | false =>
    have e : objOf false cs = if cs.all HV.isCell then .cells cs else .no := rfl
    rw [e] at hn ⊢
    by_cases hall : cs.all HV.isCell = true
    · rw [if_pos hall]; exact hc
    · rw [if_neg hall] at hn; exact absurd rfl hn
  | true =>
    have e : objOf true cs = (match bytesL cs with | some d => .byt cs.length d | none => .no) := rfl
    rw [e] at hn ⊢
    cases hd : bytesL cs with
    | none => rw [hd] at hn; exact absurd rfl hn
    | some d => exact bytesL_ok hd hc

theorem CReps.replicate {cs : List HV} {vs : List Value} (hc : CReps g c cs vs) (n : Nat) : CReps g c (List.replicate n cs).flatten (List.replicate n vs).flatten := by
  induction n with
  | zero => exact ⟨rfl, fun i x u hx => by simp at hx⟩
  | succ n ih => simp only [List.replicate_succ, List.flatten_cons]; exact hc.append ih
theorem bytesOf_zeros (n : Nat) : bytesOf n 0 = List.replicate n 0 := by
  induction n with
  | zero => rfl
  | succ n ih => rw [bytesOf_succ, Nat.zero_div, ih]; rfl
theorem repO_ok {u8 : Bool} {l : Nat} {cs : List HV} {vs : List Value} (hc : CReps g c cs vs) (hn : repO u8 l cs ≠ .no) : BRep g c (repO u8 l cs) (List.replicate l vs).flatten := by
  cases u8 with
  | false =>
    have e : repO false l cs = (cs.all HV.isCell).casesOn .no (.cells (List.replicate l cs).flatten) := rfl
    rw [e] at hn ⊢
    cases hall : cs.all HV.isCell with
    | false => rw [hall] at hn; exact absurd rfl hn
    | true => exact hc.replicate l
  | true =>
    have e : repO true l cs = (zero8 cs).casesOn .no (.byt l 0) := rfl
    rw [e] at hn ⊢
    cases hz : zero8 cs with
    | false => rw [hz] at hn; exact absurd rfl hn
    | true =>
      unfold zero8 at hz
      split at hz
      · rename_i x
        split at hz
        · rename_i hx
          obtain ⟨e1, _⟩ := u8Of_some hx
          obtain ⟨u, hu, h1, _⟩ := hc.get (i := 0) (x := x) rfl
          rw [e1] at h1
          have h1 : u = .int .u8 ((0 : Nat) : Int) := h1
          have hvs : vs = [u] := by
            cases vs with
            | nil => cases hu
            | cons a r =>
              have : r = [] := List.eq_nil_of_length_eq_zero (by have := hc.1; simpa using this)
              subst this
              simp at hu; subst hu; rfl
          subst hvs
          refine ⟨pow256_pos l, ?_⟩
          rw [bytesOf_zeros, h1]
          simp [List.flatten_replicate_singleton]
        · cases hz
      · cases hz

theorem elemT_some {t e : TypeId} (he : elemT Pr t = some e) : Pr.underlying t = some (.slice e) := by
  unfold elemT at he
  split at he
  · simp only [Option.some.injEq] at he; subst he; assumption
  · cases he

theorem makeSlice_ok {t : TypeId} {f : HT → Nat → List HV → CR} (hf : makeSliceF Pr D t = .f f) (hi : HOk D g h c w) {x y : HV} {u1 u2 : Value} (hx : TRep g c x u1) (hy : TRep g c y u2) (hr : f h c [x, y] = .ok v h' c') :
    Eff D g h c w ((Instr.makeSlice t u1 u2).run Pr w) v h' c' := by
  unfold makeSliceF at hf
  split at hf
  · rename_i e he
    have hu := elemT_some he
    split at hf
    · rename_i n by_ hn hby
      split at hf
      · cases hf
      · rename_i hno
        injection hf with hf; subst hf
        simp only at hr
        split at hr
        · rename_i l co hl hco
          obtain ⟨k1, rfl⟩ := natOf_some hl
          obtain ⟨k2, rfl⟩ := natOf_some hco
          have e1 : u1 = .int k1 (l : Int) := hx
          have e2 : u2 = .int k2 (co : Int) := hy
          subst e1; subst e2
          split at hr
          · rename_i hc
            simp only [Bool.and_eq_true] at hc
            obtain ⟨⟨hc1, hc2⟩, hc3⟩ := hc
            have hc1 : l ≤ co := Nat.le_of_ble_eq_true hc1
            have hc2 : co ≤ 9223372036854775807 := Nat.le_of_ble_eq_true hc2
            have hc3 : by_ * co ≤ 281474976710656 := Nat.le_of_ble_eq_true hc3
            have hn0 : n ≠ 0 := fun e => hno (.inl e)
            have hzl : (zeroT Pr e).cells.length = n := Decidable.byContradiction fun e => hno (.inr e)
            have hzd : zeroT Pr e ≠ .dead := fun hd => by
              obtain ⟨_, hbno, _⟩ := newO_some hr
              rw [hd] at hbno
              cases hq : isU8 Pr e with
              | false => rw [hq] at hbno; exact hbno rfl
              | true => rw [hq] at hbno; exact hbno rfl
            obtain ⟨i, zv, hii, hzv, hez⟩ := zeroT_some hzd
            obtain ⟨i1, hi1, rfl⟩ := Option.map_eq_some_iff.1 hn
            rw [hii] at hi1; cases hi1
            obtain ⟨i2, hi2, rfl⟩ := Option.map_eq_some_iff.1 hby
            rw [hii] at hi2; cases hi2
            have hrun := run_make (P := Pr) w t e i zv hu hii hzv k1 k2 l co (by omega) (by omega) (by rw [← Int.natCast_mul]; exact Int.ofNat_le.2 hc3) (by omega)
            simp only [Int.toNat_natCast] at hrun
            have hcc := (constV_cells (g := g.new c ⟨w.heap.size, 0, l * i.size, co * i.size⟩) (c := c + 1) (v := zv) (by rw [← hez]; exact hzd)).1
            rw [← hez] at hcc
            have hzs : zv.cells.size = i.size := by
              have := hcc.1
              simp only [Array.length_toList] at this
              rw [this, hzl]
            obtain ⟨_, hbno, _⟩ := newO_some hr
            have hb0 := repO_ok (l := l) hcc hbno
            have hml : (madeCells zv.cells (co * i.size)).toList = flat (List.replicate co zv) := madeCells_flat hzs (by omega)
            have hfl : ∀ q, (flat (List.replicate q zv)).length = q * i.size := fun q => by
              rw [flat_replicate]
              simp [hzs]
            have hb : BOk (g.new c ⟨w.heap.size, 0, l * i.size, co * i.size⟩) (c + 1) ⟨w.heap.size, 0, l * i.size, co * i.size⟩ (repO (isU8 Pr e) l (zeroT Pr e).cells) (w.alloc (.cells (madeCells zv.cells (co * i.size)) e)) := by
              refine .inl ⟨(madeCells zv.cells (co * i.size)).toList, e, by rw [Array.toArray_toList]; exact heap_alloc_new w _, by rw [hml, hfl], ?_, ?_⟩
              · refine ⟨rfl, ?_⟩
                show 0 + l * i.size ≤ co * i.size
                have := Nat.mul_le_mul_right i.size hc1
                omega
              · have e3 : (At.mk w.heap.size 0 (l * i.size) (co * i.size)).row (madeCells zv.cells (co * i.size)).toList = (List.replicate l zv.cells.toList).flatten := by
                  simp only [At.row, List.drop_zero]
                  rw [hml, ← flat_replicate]
                  have : List.replicate co zv = List.replicate l zv ++ List.replicate (co - l) zv := by
                    rw [List.replicate_append_replicate]; congr 1; omega
                  rw [this, Go.AbsM.flat_append, List.take_append_of_le_length (by rw [hfl]; exact Nat.le_refl _), List.take_of_length_le (by rw [hfl]; exact Nat.le_refl _)]
                rw [e3]; exact hb0
            exact new_eff hi (Ext.alloc w _) (Nat.le_refl _) hb hr hrun (slc_fresh (by omega) hc1 (by simp only [maxLen]; omega))
          · cases hr
        · cases hr
    · cases hf
  · cases hf

theorem fill_length {place : Nat → Option (Nat × Nat)} {l : List (Nat × HV)} {cells cs : List HV} (hf : fillL place cells l = some cs) : cs.length = cells.length := by
  induction l generalizing cells with
  | nil => simp only [fillL, Option.some.injEq] at hf; subst hf; rfl
  | cons x r ih =>
    obtain ⟨i, a⟩ := x
    simp only [fillL] at hf
    split at hf
    · cases hf
    · split at hf
      · split at hf
        · rename_i cells' hl
          rw [ih hf, (layL_len hl).1]
        · cases hf
      · cases hf

theorem buildSlice_ok {t : TypeId} {len : Nat} {ps : List (Nat × Operand)} {f : HT → Nat → List HV → CR} (hf : buildSliceF Pr D t len (ps.map (·.1)) = .f f) (hi : HOk D g h c w) {xs : List HV} {ev : Operand → Value} (hx : TReps g c xs (ps.map fun p => ev p.2)) (hr : f h c xs = .ok v h' c') :
    Eff D g h c w ((Instr.buildSlice t len (ps.map fun p => (p.1, ev p.2)).toArray).run Pr w) v h' c' := by
  have hp := PReps.zip hx
  unfold buildSliceF at hf
  split at hf
  · rename_i e he
    have hu := elemT_some he
    split at hf
    · cases hf
    · rename_i n hn hne
      split at hf
      · cases hf
      · rename_i hno
        injection hf with hf; subst hf
        simp only at hr
        split at hr
        · rename_i cs hfl
          have hne : zeroT Pr e ≠ .dead := fun e => hne e
          have hn0 : n ≠ 0 := fun e => hno (.inl e)
          have hsmall : ¬ len * n > 16777216 := fun e => hno (.inr (.inl e))
          have hzl : (zeroT Pr e).cells.length = n := Decidable.byContradiction fun e => hno (.inr (.inr e))
          obtain ⟨_, hbno, _⟩ := newO_some hr
          have hcsl : cs.length = len * n := by
            rw [fill_length hfl]; simp [hzl]
          obtain ⟨i, zv, hii, hzv, hez⟩ := zeroT_some hne
          obtain ⟨i1, hi1, rfl⟩ := Option.map_eq_some_iff.1 hn
          rw [hii] at hi1; cases hi1
          have hcc := (constV_cells (g := g) (c := c) (v := zv) (by rw [← hez]; exact hne)).1
          rw [← hez] at hcc
          have hzs : zv.cells.size = i.size := by
            have := hcc.1
            simp only [Array.length_toList] at this
            rw [this, hzl]
          have hbase : CReps g c ((List.replicate len (zeroT Pr e).cells).flatten) (flat (List.replicate len zv)) := by
            rw [flat_replicate]
            exact hcc.replicate len
          obtain ⟨us, hfill, hus, hul⟩ := fillL_ok hp hbase hfl
          have hmc := madeCells_flat (n := len) hzs (by omega)
          have hul2 : us.length = len * i.size := by rw [hus.1, hcsl]
          have hrun : (Instr.buildSlice t len (ps.map fun p => (p.1, ev p.2)).toArray).run Pr w = .ok (.slice (some ⟨w.heap.size, 0, none⟩) len len) (w.alloc (.cells us.toArray e)) := by
            by_cases h0 : len = 0
            · subst h0
              have hm0 : us = [] := List.eq_nil_of_length_eq_zero (by rw [hul2]; simp)
              subst hm0
              have hzero : flat (List.replicate 0 zv) = [] := rfl
              rw [hzero] at hfill
              simp [Instr.buildSlice, run_underlying hu, sizeOf, typeInfo, hii, newRow, Array.range_zero', hfill]
            · refine run_buildSlice w t e len _ us.toArray i zv hu hii hzv (by simpa using hsmall) (Nat.mul_ne_zero h0 hn0) ?_
              have e2 : (Array.range (len * i.size)).map (zv.cells[· % zv.cells.size]!) = (flat (List.replicate len zv)).toArray := by
                apply Array.ext'; rw [hmc]
              rw [e2]
              exact hfill
          have hb := BOk.fresh (w := w) (e := e) (g' := g.new c ⟨w.heap.size, 0, us.length, us.length⟩) (c1 := c + 1) (us := us) (objOf_ok (u8 := isU8 Pr e) (hus.mono (agree_new g c _) (Nat.le_succ c)) hbno)
          rw [hul2] at hb
          have hlm : len ≤ maxLen := by
            have h1 : len ≤ len * i.size := Nat.le_mul_of_pos_right _ (by omega)
            have : maxLen = 9223372036854775807 := rfl
            omega
          exact new_eff hi (Ext.alloc w _) (Nat.le_refl _) hb hr hrun (slc_fresh (by omega) (Nat.le_refl _) hlm)
        · cases hr
    · cases hf
  · cases hf
end
end
end Go.FM

/-! ## FnWr2 -/
/-
  The fast machine: objects that are written; copy, clear, append.
-/
set_option linter.unusedVariables false
set_option linter.unusedSimpArgs false
set_option linter.unusedSectionVars false
namespace Go.FM
noncomputable section
variable [Env]
open Go.AbsM (flat foldl_lay flat_replicate madeCells_flat)

section
variable {Pr : Program} {D : Nat} {w w' : World} {g : Gm} {h h' : HT} {c c' : Nat} {v : HV}

theorem list_lay {α : Type} (vs vals : List α) (o L off : Nat) (h1 : o + L ≤ vs.length) (h2 : off + vals.length ≤ L) :
    ((vs.take (o + off) ++ vals ++ vs.drop (o + off + vals.length)).drop o).take L = ((vs.drop o).take L).take off ++ (vals ++ ((vs.drop o).take L).drop (off + vals.length)) := by
  apply List.ext_getElem?
  intro i
  rw [List.getElem?_take, List.getElem?_drop]
  by_cases hi : i < L
  · rw [if_pos hi]
    by_cases h3 : i < off
    · rw [List.append_assoc, List.getElem?_append_left (by simp; omega), List.getElem?_take, if_pos (by omega), List.getElem?_append_left (by simp; omega), List.getElem?_take, if_pos h3, List.getElem?_take, if_pos hi, List.getElem?_drop]
    · have e1 : (((vs.drop o).take L).take off).length = off := by simp; omega
      have e2 : (vs.take (o + off)).length = o + off := by simp; omega
      rw [List.append_assoc, List.getElem?_append_right (l₁ := vs.take (o + off)) (by omega), List.getElem?_append_right (l₁ := ((vs.drop o).take L).take off) (by omega), e1, e2]
      by_cases h4 : i < off + vals.length
      · rw [List.getElem?_append_left (by omega), List.getElem?_append_left (by omega)]
        congr 1; omega
      · rw [List.getElem?_append_right (by omega), List.getElem?_append_right (by omega), List.getElem?_drop, List.getElem?_drop, List.getElem?_take, if_pos (by omega), List.getElem?_drop]
        congr 1; omega
  · rw [if_neg hi]
    symm
    apply List.getElem?_eq_none
    simp only [List.length_append, List.length_take, List.length_drop]
    omega
theorem list_keep {α : Type} (vs vals : List α) (o L p : Nat) (h1 : o + L ≤ p) (h2 : p + vals.length ≤ vs.length) :
    ((vs.take p ++ vals ++ vs.drop (p + vals.length)).drop o).take L = (vs.drop o).take L := by
  apply List.ext_getElem?
  intro i
  rw [List.getElem?_take, List.getElem?_drop, List.getElem?_take, List.getElem?_drop]
  by_cases hi : i < L
  · rw [if_pos hi, if_pos hi, List.append_assoc, List.getElem?_append_left (by simp; omega), List.getElem?_take, if_pos (by omega)]
  · rw [if_neg hi, if_neg hi]

/-- Cells laid into a block. -/
theorem store_run {vs : List Value} {t : TypeId} {B p : Nat} {vals : List Value} (hh : w.heap[B]? = some (.cells vs.toArray t (0, 0))) (hone : ∀ u, u ∈ vals → u.oneCell' = true) (hle : p + vals.length ≤ vs.length) :
    ∃ w', (storeCells ⟨B, p, none⟩ vals).run Pr w = .ok () w' ∧ Chg B w w' ∧ w'.heap[B]? = some (.cells (vs.take p ++ vals ++ vs.drop (p + vals.length)).toArray t (0, 0)) := by
  have := run_storeCells_at Pr B p t vals 0 vs.toArray w hh (by simpa using hle) hone
  refine ⟨_, this, Chg.setRow w B _, ?_⟩
  have h2 := setRow_heap w B vs.toArray (vs.take p ++ vals ++ vs.drop (p + vals.length)).toArray t (0, 0) hh
  simpa using h2

theorem write_run {a : At} {b b' : HB} {vals : List Value} {off : Nat} (hm : isMap b = false) (hb : BOk g c a b w) (hone : ∀ u, u ∈ vals → u.oneCell' = true) (hle : off + vals.length ≤ a.len)
    (hnew : ∀ us, us.length = a.len → BRep g c b us → BRep g c b' (us.take off ++ (vals ++ us.drop (off + vals.length)))) :
    ∃ w', (storeCells ⟨a.b, a.o + off, none⟩ vals).run Pr w = .ok () w' ∧ Chg a.b w w' ∧ BOk g c a b' w' := by
  obtain ⟨vs, t, h1, h2, h3, h4⟩ := hb.plain hm
  obtain ⟨w', q1, q2, q3⟩ := store_run (Pr := Pr) (p := a.o + off) h1 hone (by omega)
  have hl : (a.row vs).length = a.len := by simp [At.row]; omega
  refine ⟨w', q1, q2, .inl ⟨_, t, q3, ?_, h3, ?_⟩⟩
  · simp only [List.length_append, List.length_take, List.length_drop]; omega
  · have := list_lay vs vals a.o a.len off (by omega) hle
    simp only [At.row] at hl h4 ⊢
    rw [this]
    exact hnew _ hl h4

theorem putO_some {k : Nat} {f : HB → HB} {x : HV} (hr : putO D k f x h c = .ok v h' c') : ∃ pre b, HT.get D k h = .own pre b ∧ f b ≠ .no ∧ v = x ∧ c' = c ∧ h' = HT.set D k (.own 0 (f b)) (unpre D pre h) := by
  unfold putO at hr
  cases ho : HT.get D k h with
  | no => rw [ho] at hr; cases hr
  | sh b => rw [ho] at hr; cases hr
  | own pre b =>
    rw [ho] at hr
    simp only at hr
    cases hb : f b with
    | no => rw [hb] at hr; cases hr
    | cells cs => rw [hb] at hr; cases hr; exact ⟨pre, b, rfl, by rw [hb]; simp, rfl, rfl, by rw [hb]⟩
    | byt n d => rw [hb] at hr; cases hr; exact ⟨pre, b, rfl, by rw [hb]; simp, rfl, rfl, by rw [hb]⟩
    | map es cl => rw [hb] at hr; cases hr
/-- An object is written. -/
theorem put_eff {k : Nat} {f : HB → HB} {x : HV} (hi : HOk D g h c w) (hk : k < c) (hr : putO D k f x h c = .ok v h' c') {r : Result Value} {z : Value}
    (hrun : ∀ pre b, HT.get D k h = .own pre b → f b ≠ .no → BOk g c (g k) b w → ∃ w', r = .ok z w' ∧ Chg (g k).b w w' ∧ BOk g c (g k) (f b) w') (hv : TRep g c x z) : Eff D g h c w r v h' c' := by
  obtain ⟨pre, b, ho, hn, rfl, rfl, rfl⟩ := putO_some hr
  have hk4 : k < 4 ^ D := Nat.lt_of_lt_of_le hk hi.le
  have ho' : hp D h k = .own pre b := by rw [hp_lt hk4]; exact ho
  obtain ⟨w', q1, q2, q3⟩ := hrun pre b ho hn (hi.inv.own k pre b ho')
  have hpre : pre = 0 ∨ pre ≤ 4 ^ D := .inr (Nat.le_trans (hi.inv.pre k pre b ho') hi.le)
  obtain ⟨e1, e2⟩ := hp_unpre (D := D) (h := h) (pre := pre) (c := c') hi.deep hpre
  have hs := hp_set (o := .own 0 (f b)) e2 hk4
  have hps := Post.set hi.inv ho' q2 q3
  rw [e1] at hs
  rw [← hs] at hps
  exact ⟨z, w', g, q1, ⟨deep_set _ _ _ _ e2, hi.le, hps.inv⟩, hps, hv⟩

/-! ### What is appended, copied -/
def SRep (g : Gm) (c es : Nat) (s : Src) (us : List Value) : Prop := match s with
  | .byt n d => es = 1 ∧ d < 256 ^ n ∧ us = (bytesOf n d).map fun b => Value.int .u8 b.toNat
  | .cells n cs => us.length = n * es ∧ CReps g c cs us
  | .no => False
theorem SRep.len {es : Nat} {s : Src} {us : List Value} (hs : SRep g c es s us) : us.length = s.len * es := by
  cases s with
  | byt n d => obtain ⟨rfl, _, rfl⟩ := hs; simp [Src.len, bytesOf_length]
  | cells n cs => exact hs.1
  | no => exact hs.elim
theorem SRep.ones {es : Nat} {s : Src} {us : List Value} (hs : SRep g c es s us) : ∀ u, u ∈ us → u.oneCell' = true := by
  cases s with
  | byt n d => obtain ⟨_, _, rfl⟩ := hs; exact bytes_ones n d
  | cells n cs => exact CReps.ones hs.2
  | no => exact hs.elim
theorem SRep.obj {es : Nat} {s : Src} {us : List Value} {u8 : Bool} (hs : SRep g c es s us) (hn : s.obj u8 ≠ .no) : BRep g c (s.obj u8) us := by
  cases s with
  | byt n d =>
    cases u8 with
    | false => exact absurd rfl hn
    | true => exact ⟨hs.2.1, hs.2.2⟩
  | cells n cs =>
    cases u8 with
    | false => exact hs.2
    | true =>
      have e : Src.obj true (.cells n cs) = (Nat.beq n 0).casesOn .no (.byt 0 0) := rfl
      rw [e] at hn ⊢
      cases hb : Nat.beq n 0 with
      | false => rw [hb] at hn; exact absurd rfl hn
      | true =>
        have := Nat.eq_of_beq_eq_true hb; subst this
        have hl := hs.1
        rw [Nat.zero_mul] at hl
        exact ⟨by simp, by rw [List.eq_nil_of_length_eq_zero hl]; rfl⟩
  | no => exact hs.elim
theorem SRep.cut {es m : Nat} {s : Src} {us : List Value} (hs : SRep g c es s us) (hm : m ≤ s.len) : SRep g c es (cutSrc es m s) (us.take (m * es)) := by
  cases s with
  | byt n d =>
    obtain ⟨rfl, h1, rfl⟩ := hs
    refine ⟨rfl, bCut_lt _ _ _, ?_⟩
    rw [bytesOf_cut n d 0 m (by simpa [Src.len] using hm), List.drop_zero, Nat.mul_one, List.map_take]
  | cells n cs =>
    refine ⟨?_, hs.2.take _⟩
    have := hs.1
    have hm : m ≤ n := hm
    have := Nat.mul_le_mul_right es hm
    simp; omega
  | no => exact hs.elim
theorem cutSrc_len {es m : Nat} {s : Src} : s ≠ .no → (cutSrc es m s).len = m := by
  cases s <;> simp [cutSrc, Src.len]

theorem firstCells_some {es m : Nat} {A : Addr} {vs : List Value} (hl : vs.length = m * es) (hc : ∀ j u, vs[j]? = some u → w.cell? (A.add j) = some u) {n c0 : Nat} : (Builtin.firstCells es m (.slice (some A) n c0)).run Pr w = .ok vs.toArray w := by
  have := run_loadCells_list (P := Pr) w A vs hc
  rw [hl] at this
  simpa [Builtin.firstCells] using this
theorem src_ok {es : Nat} {x : HV} {u : Value} (hi : HOk D g h c w) (hx : TRep g c x u) (hn : srcOf D es h x ≠ .no) :
    (∀ w', (Builtin.lenOf u).run Pr w' = .ok (srcOf D es h x).len w') ∧ ∃ us, SRep g c es (srcOf D es h x) us ∧ ∀ w', Ext w w' → ∀ m, m ≤ (srcOf D es h x).len → (Builtin.firstCells es m u).run Pr w' = .ok (us.take (m * es)).toArray w' := by
  unfold srcOf at hn ⊢
  cases x <;> try exact absurd rfl hn
  · rename_i n d
    obtain ⟨hd, e1⟩ : d < 256 ^ n ∧ u = strOf n d := hx
    subst e1
    simp only at hn ⊢
    cases hb : Nat.beq es 1 with
    | false => rw [hb] at hn; exact absurd rfl hn
    | true =>
      have := Nat.eq_of_beq_eq_true hb; subst this
      have hsz : (⟨(bytesOf n d).toArray⟩ : ByteArray).size = n := by simp [ByteArray.size, bytesOf_length]
      refine ⟨fun w' => by simp only [strOf]; simp [Builtin.lenOf, hsz, Src.len], _, ⟨rfl, hd, rfl⟩, fun w' _ m hm => ?_⟩
      have hm : m ≤ n := hm
      simp only [strOf]
      simp only [Builtin.firstCells, Sem.run_pure]
      congr 1
      apply Array.ext'
      simp [ByteArray.data_extract, List.extract_eq_take_drop]
  · have e1 : u = .slice none 0 0 := hx
    subst e1
    exact ⟨fun w' => by simp [Builtin.lenOf, Src.len], [], ⟨by simp, rfl, fun i x u hx => by simp at hx⟩, fun w' _ m hm => by simp [Builtin.firstCells]⟩
  · rename_i k o n es' cl
    obtain ⟨hk, A, q, e1, hnm, hmm, hes, hlen, hbs, hfull, hcl, hA⟩ := hx
    subst e1
    simp only at hn ⊢
    cases hbe : Nat.beq es es' with
    | false => rw [hbe] at hn; exact absurd rfl hn
    | true =>
      have := Nat.eq_of_beq_eq_true hbe; subst this
      rw [hbe] at hn
      simp only at hn ⊢
      -- reading the first m elements
      have rd : ∀ (us : List Value), us.length = (g k).len → (∀ (j : Nat) (u : Value), us[j]? = some u → w.cell? ⟨(g k).b, (g k).o + j, none⟩ = some u) → (g k).b < w.heap.size →
          ∀ w', Ext w w' → ∀ m, m ≤ n → (Builtin.firstCells es m (.slice (some A) n q)).run Pr w' = .ok ((((us.drop o).take (n * es)).take (m * es)).toArray) w' := by
        intro us hul hcell hB w' hw' m hm
        by_cases hm0 : m = 0
        · subst hm0
          simp [Builtin.firstCells, loadCells, loadCellsFrom]
        · have hAe := hA (by omega)
          subst hAe
          have hme : m * es ≤ n * es := Nat.mul_le_mul_right es hm
          refine firstCells_some (by simp; omega) fun j u hj => ?_
          simp only [addrOf]
          rw [Addr.add_lit, Nat.add_assoc]
          rw [List.getElem?_take] at hj
          split at hj
          · rw [List.getElem?_take] at hj
            split at hj
            · rw [List.getElem?_drop] at hj
              have := hcell (o + j) u hj
              rw [← this]
              exact World.cell?_of_block (w := w) (a := ⟨(g k).b, (g k).o + (o + j), none⟩) (hw'.heap _ hB)
            · cases hj
          · cases hj
      cases hb : (HT.get D k h).body with
      | no => rw [hb] at hn; exact absurd rfl hn
      | map es cl => rw [hb] at hn; exact absurd rfl hn
      | cells cs =>
        rw [hb] at hn
        simp only at hn ⊢
        by_cases hle : Nat.ble (Nat.add o (Nat.mul n es)) cs.length = true
        · rw [if_pos hle]
          obtain ⟨us, h1, h2, h3, h4⟩ := (hi.body hk.1 hb (by simp)).cells
          have hle : o + n * es ≤ cs.length := Nat.le_of_ble_eq_true hle
          refine ⟨fun w' => by simp [Builtin.lenOf, Src.len], (us.drop o).take (n * es), ⟨?_, (CReps.drop h2 o).take _⟩, rd us h1 h4 (hi.body hk.1 hb (by simp)).lt⟩
          have : cs.length = us.length := h2.1.symm
          simp; omega
        · rw [if_neg hle] at hn; exact absurd rfl hn
      | byt mm d =>
        rw [hb] at hn
        simp only at hn ⊢
        by_cases hle : (Nat.ble (Nat.add o n) mm && Nat.beq es 1) = true
        · rw [if_pos hle]
          simp only [Bool.and_eq_true] at hle
          have hes1 := Nat.eq_of_beq_eq_true hle.2
          subst hes1
          have hle1 : o + n ≤ mm := Nat.le_of_ble_eq_true hle.1
          obtain ⟨us, h1, ⟨h2, h2'⟩, h3, h4⟩ := (hi.body hk.1 hb (by simp)).cells
          refine ⟨fun w' => by simp [Builtin.lenOf, Src.len], (us.drop o).take (n * 1), ⟨rfl, bCut_lt _ _ _, ?_⟩, rd us h1 h4 (hi.body hk.1 hb (by simp)).lt⟩
          rw [bytesOf_cut mm d o n hle1, h2', List.map_take, List.map_drop, Nat.mul_one]
        · rw [if_neg hle] at hn; exact absurd rfl hn

/-! ### Bodies put together -/
theorem overO_ok {o : Nat} {y x : HB} {us vs : List Value} (hx : BRep g c x us) (hy : BRep g c y vs) (hn : overO o y x ≠ .no) : o + vs.length ≤ us.length ∧ BRep g c (overO o y x) (us.take o ++ (vs ++ us.drop (o + vs.length))) := by
  cases x with
  | no => exact hx.elim
  | map es cl => exact hx.elim
  | cells cs =>
    cases y with
    | no => exact hy.elim
    | map es cl => exact hy.elim
    | byt m e => exact absurd rfl hn
    | cells ds =>
      have e : overO o (.cells ds) (.cells cs) = (match layL cs o ds with | some cs => .cells cs | none => .no) := rfl
      rw [e] at hn ⊢
      cases hl : layL cs o ds with
      | none => rw [hl] at hn; exact absurd rfl hn
      | some es => exact layL_ok hx hy hl
  | byt n d =>
    cases y with
    | no => exact hy.elim
    | map es cl => exact hy.elim
    | cells ds => exact absurd rfl hn
    | byt m e =>
      have e' : overO o (.byt m e) (.byt n d) = if Nat.ble (Nat.add o m) n then .byt n (bLay d o m e) else .no := rfl
      rw [e'] at hn ⊢
      by_cases hle : Nat.ble (Nat.add o m) n = true
      · rw [if_pos hle]
        have hle1 : o + m ≤ n := Nat.le_of_ble_eq_true hle
        obtain ⟨hd, rfl⟩ := hx
        obtain ⟨he, rfl⟩ := hy
        obtain ⟨q1, q2⟩ := bytesOf_lay n d o m e hle1 hd he
        refine ⟨by simpa [bytesOf_length] using hle1, q1, ?_⟩
        rw [q2]
        simp [bytesOf_length]
      · rw [if_neg hle] at hn; exact absurd rfl hn
theorem overO_plain {o : Nat} {y x : HB} (h : overO o y x ≠ .no) : isMap x = false := by
  cases x with
  | map es cl => exfalso; cases y <;> exact h rfl
  | _ => rfl
theorem joinO_plain {o n : Nat} {y x : HB} (h : joinO o n x y ≠ .no) : isMap x = false := by
  cases x with
  | map es cl => exfalso; cases y <;> exact h rfl
  | _ => rfl
theorem joinO_ok {o n : Nat} {x y : HB} {us vs : List Value} (hx : BRep g c x us) (hy : BRep g c y vs) (hn : joinO o n x y ≠ .no) : o + n ≤ us.length ∧ BRep g c (joinO o n x y) ((us.drop o).take n ++ vs) := by
  cases x with
  | no => exact hx.elim
  | map es cl => exact hx.elim
  | cells cs =>
    cases y with
    | no => exact hy.elim
    | map es cl => exact hy.elim
    | byt m e => exact absurd rfl hn
    | cells ds =>
      have e : joinO o n (.cells cs) (.cells ds) = if Nat.ble (Nat.add o n) cs.length then .cells ((cs.drop o).take n ++ ds) else .no := rfl
      rw [e] at hn ⊢
      by_cases hle : Nat.ble (Nat.add o n) cs.length = true
      · rw [if_pos hle]
        have hle1 : o + n ≤ cs.length := Nat.le_of_ble_eq_true hle
        exact ⟨by rw [hx.1]; exact hle1, ((CReps.drop hx o).take n).append hy⟩
      · rw [if_neg hle] at hn; exact absurd rfl hn
  | byt m d =>
    cases y with
    | no => exact hy.elim
    | map es cl => exact hy.elim
    | cells ds => exact absurd rfl hn
    | byt m' e =>
      have e' : joinO o n (.byt m d) (.byt m' e) = if Nat.ble (Nat.add o n) m then .byt (Nat.add n m') (Nat.add (bCut d o n) (Nat.mul e (p8 n))) else .no := rfl
      rw [e'] at hn ⊢
      by_cases hle : Nat.ble (Nat.add o n) m = true
      · rw [if_pos hle]
        have hle1 : o + n ≤ m := Nat.le_of_ble_eq_true hle
        obtain ⟨hd, rfl⟩ := hx
        obtain ⟨he, rfl⟩ := hy
        refine ⟨by simpa [bytesOf_length] using hle1, append_lt (bCut_lt d o n) he, ?_⟩
        show _ = (bytesOf (n + m') (bCut d o n + e * 256 ^ n)).map _
        rw [bytesOf_append n m' _ e (bCut_lt d o n), bytesOf_cut m d o n hle1]
        simp
      · rw [if_neg hle] at hn; exact absurd rfl hn
theorem BRep.notno {b : HB} {us : List Value} (hb : BRep g c b us) : b ≠ .no := fun e => by subst e; exact hb
end
end
end Go.FM

/-! ## FnWr3 -/
/-
  The fast machine: store, copy, clear, append.
-/
set_option linter.unusedVariables false
set_option linter.unusedSimpArgs false
set_option linter.unusedSectionVars false
namespace Go.FM
noncomputable section
variable [Env]
open Go.AbsM (flat foldl_lay flat_replicate madeCells_flat)

section
variable {Pr : Program} {D : Nat} {w w' : World} {g : Gm} {h h' : HT} {c c' : Nat} {v : HV}

theorem store_ok {t : TypeId} {f : HT → Nat → HV → HV → CR} (hf : storeF Pr D t = .f f) (hi : HOk D g h c w) {x y : HV} {u z : Value} (hx : TRep g c x u) (hy : TRep g c y z) (hr : f h c x y = .ok v h' c') :
    ∃ w' g', (Instr.storeAt t u z).run Pr w = .ok () w' ∧ HOk D g' h' c' w' ∧ Post g (hp D h) c w g' (hp D h') c' w' ∧ v = .und := by
  unfold storeF at hf
  split at hf
  · rename_i n hn
    injection hf with hf; subst hf
    unfold store at hr
    cases x <;> try cases hr
    rename_i k off
    simp only at hr
    obtain ⟨hk, e1⟩ := hx
    subst e1
    have e2 := (putO_some hr).choose_spec.choose_spec.2.2.1
    have key : Eff D g h c w (((Instr.storeAt t (.pointer (some (addrOf g k off))) z).run Pr w).andThen fun _ w' => .ok undef w') v h' c' := by
      refine put_eff hi hk.1 hr (fun pre b ho hno hb => ?_) (show TRep g c .und undef from rfl)
      have q : ∀ vals : List Value, vals = z.cells.toList → z.cells.size = n → (∃ w', (storeCells ⟨(g k).b, (g k).o + off, none⟩ vals).run Pr w = .ok () w' ∧ Chg (g k).b w w' ∧ BOk g c (g k) (storeO n off y b) w') →
          ∃ w', (((Instr.storeAt t (.pointer (some (addrOf g k off))) z).run Pr w).andThen fun _ w' => .ok undef w') = .ok undef w' ∧ Chg (g k).b w w' ∧ BOk g c (g k) (storeO n off y b) w' := by
        rintro vals rfl hzs ⟨w', h1, h2, h3⟩
        refine ⟨w', ?_, h2, h3⟩
        have hsv := Go.AbsM.storeVar_run (P := Pr) (w := w) (t := t) (n := n) (ad := addrOf g k off) (v := z) hn hzs
        have : (Instr.storeAt t (.pointer (some (addrOf g k off))) z).run Pr w = .ok () w' := by
          simp only [Instr.storeAt, Instr.sureAddr, Sem.run_bind, Sem.run_pure, Result.andThen_ok, hsv]
          exact h1
        rw [this]; rfl
      cases b with
      | no => exact absurd rfl hno
      | cells cs =>
        have e : storeO n off y (.cells cs) = if y.cells.length = n ∧ y.cells.all HV.isCell then match layL cs off y.cells with | some ds => .cells ds | none => .no else .no := rfl
        rw [e] at hno ⊢
        by_cases hc : y.cells.length = n ∧ y.cells.all HV.isCell
        · rw [if_pos hc] at hno ⊢
          have hcr := hy.cells hc.2
          have hzs : z.cells.size = n := by
            have := hcr.1
            simp only [Array.length_toList] at this
            rw [this, hc.1]
          cases hl : layL cs off y.cells with
          | none => rw [hl] at hno; exact absurd rfl hno
          | some ds =>
            have e3 : storeO n off y (.cells cs) = .cells ds := by rw [e, if_pos hc, hl]
            have := q _ rfl hzs
            rw [e3] at this
            refine this (write_run rfl hb hcr.ones ?_ fun us hul hus => (layL_ok hus hcr hl).2)
            obtain ⟨us, h1, h2, h3, _⟩ := hb.cells
            have := (layL_len hl).2
            rw [hcr.1, h3]; exact this
        · rw [if_neg hc] at hno; exact absurd rfl hno
      | map es cl => exact absurd rfl hno
      | byt m d =>
        have e : storeO n off y (.byt m d) = match u8Of y with | some b => if Nat.blt off m && Nat.beq n 1 then .byt m (bLay d off 1 b) else .no | none => .no := rfl
        rw [e] at hno ⊢
        cases hb8 : u8Of y with
        | none => rw [hb8] at hno; exact absurd rfl hno
        | some b8 =>
          rw [hb8] at hno
          simp only at hno ⊢
          by_cases hc : (Nat.blt off m && Nat.beq n 1) = true
          · rw [if_pos hc]
            obtain ⟨e4, hlt8⟩ := u8Of_some hb8
            rw [e4] at hy
            have hz : z = .int .u8 (b8 : Int) := hy
            have hc' := hc
            simp only [Bool.and_eq_true] at hc'
            have hn1 := Nat.eq_of_beq_eq_true hc'.2
            have hoff : off < m := Nat.le_of_ble_eq_true hc'.1
            have e3 : storeO n off y (.byt m d) = .byt m (bLay d off 1 b8) := by rw [e, hb8]; simp only; rw [if_pos hc]
            have hzc : z.cells = #[z] := by rw [hz]; rfl
            have := q [z] (by rw [hzc]) (by rw [hzc, hn1]; rfl)
            rw [e3] at this
            obtain ⟨us0, h1, h2, h3, _⟩ := hb.cells
            refine this (write_run rfl hb (by intro u hu; simp at hu; subst hu; rw [hz]; rfl) (by rw [h3]; exact hoff) fun us hul hus => ?_)
            obtain ⟨hd, rfl⟩ := hus
            obtain ⟨q1, q2⟩ := bytesOf_lay m d off 1 b8 (by omega) hd (by simpa using hlt8)
            refine ⟨q1, ?_⟩
            rw [q2]
            have hb1 : bytesOf 1 b8 = [UInt8.ofNat b8] := by rw [bytesOf_succ, bytesOf_zero, Nat.mod_eq_of_lt hlt8]
            rw [hb1, hz]
            simp [toNat_ofNat b8 hlt8, ← List.map_take, ← List.map_drop]
          · rw [if_neg hc] at hno; exact absurd rfl hno
    obtain ⟨zz, w', g', h1, h2, h3, h4⟩ := key
    cases hrr : (Instr.storeAt t (.pointer (some (addrOf g k off))) z).run Pr w with
    | ok a w1 =>
      rw [hrr] at h1
      simp only [Result.andThen_ok, Result.ok.injEq] at h1
      obtain ⟨rfl, rfl⟩ := h1
      exact ⟨w1, g', rfl, h2, h3, e2⟩
    | halt a w1 => rw [hrr] at h1; cases h1
  · cases hf

theorem copy_ok {t ty : TypeId} {rest : List TypeId} {f : HT → Nat → HV → HV → CR} (hf : copyF Pr D t = .f f) (hi : HOk D g h c w) {x y : HV} {u z : Value} (hx : TRep g c x u) (hy : TRep g c y z) (hr : f h c x y = .ok v h' c') :
    Eff D g h c w ((Builtin.copy_ (t :: rest).toArray ty #[u, z]).run Pr w) v h' c' := by
  unfold copyF at hf
  split at hf
  · rename_i e he
    have hu := elemT_some he
    split at hf
    · rename_i es hes
      injection hf with hf; subst hf
      unfold copy at hr
      have hsn : srcOf D es h y ≠ .no := fun e => by rw [e] at hr; cases hr
      obtain ⟨hlen, us, hsr, hfirst⟩ := src_ok hi hy hsn
      have hf0 : (Builtin.firstCells es 0 z).run Pr w = .ok #[] w := by simpa using hfirst w (Ext.refl w) 0 (Nat.zero_le _)
      have zero : ∀ {A : Option Addr} {n m : Nat}, u = .slice A n m → min (srcOf D es h y).len n = 0 → (Builtin.copy_ (t :: rest).toArray ty #[u, z]).run Pr w = .ok (.int .i64 0) w := by
        rintro A n m rfl h0
        exact Go.AbsM.copy_zero hu hes (hlen w) h0 hf0
      have hr2 : (match x with
        | .nils => CR.ok (.int .i64 (.ofNat 0)) h c
        | .slc k o n es' _ =>
          let m := Nat.min (srcOf D es h y).len n
          if Nat.beq m 0 then .ok (.int .i64 (.ofNat 0)) h c else
          if Nat.beq es es' then putO D k (overO o ((cutSrc es m (srcOf D es h y)).obj (isU8 Pr e))) (.int .i64 (.ofNat m)) h c else .x 14
        | _ => .x 14) = .ok v h' c' := by
        cases hq : srcOf D es h y with
        | no => exact absurd hq hsn
        | byt n d => rw [hq] at hr; exact hr
        | cells n cs => rw [hq] at hr; exact hr
      clear hr
      cases x <;> try cases hr2
      · have e1 : u = .slice none 0 0 := hx
        exact Eff.same hi (zero e1 (by simp)) rfl
      · rename_i k o n es' cl
        obtain ⟨hk, A, m, e1, hnm, hmm, hes', hl2, hbs, hfull, hcl, hA⟩ := hx
        simp only at hr2
        have hmin : Nat.min (srcOf D es h y).len n = min (srcOf D es h y).len n := rfl
        rw [hmin] at hr2
        by_cases h0 : Nat.beq (min (srcOf D es h y).len n) 0 = true
        · rw [if_pos h0] at hr2
          cases hr2
          exact Eff.same hi (zero e1 (Nat.eq_of_beq_eq_true h0)) rfl
        · rw [if_neg h0] at hr2
          have h0' : min (srcOf D es h y).len n ≠ 0 := fun e => h0 (by rw [e]; rfl)
          by_cases hbe : Nat.beq es es' = true
          · rw [if_pos hbe] at hr2
            have := Nat.eq_of_beq_eq_true hbe; subst this
            have hml : min (srcOf D es h y).len n ≤ (srcOf D es h y).len := Nat.min_le_left _ _
            have hmn : min (srcOf D es h y).len n ≤ n := Nat.min_le_right _ _
            generalize hM : min (srcOf D es h y).len n = M at *
            have hcut := hsr.cut hml
            refine put_eff hi hk.1 hr2 (fun pre b ho hno hb => ?_) (rfl : TRep g c (.int .i64 (M : Nat)) (.int .i64 (M : Nat)))
            have hobn : (cutSrc es M (srcOf D es h y)).obj (isU8 Pr e) ≠ .no := fun e => by
              rw [e] at hno
              cases b <;> exact hno rfl
            have hbr := hcut.obj hobn
            obtain ⟨us0, h1, h2, h3, _⟩ := hb.cells (overO_plain hno)
            have hov := overO_ok h2 hbr hno
            obtain ⟨w', q1, q2, q3⟩ := write_run (Pr := Pr) (b' := overO o ((cutSrc es M (srcOf D es h y)).obj (isU8 Pr e)) b) (overO_plain hno) hb hcut.ones (by rw [← h1]; exact hov.1) (fun us' hul hus => (overO_ok hus hbr hno).2)
            refine ⟨w', ?_, q2, q3⟩
            subst e1
            rw [hA (by omega)]
            have hfm := hfirst w (Ext.refl w) M hml
            have hmin2 : Nat.min (srcOf D es h y).len n = M := hM
            simp [Builtin.copy_, run_underlying hu, hlen w, sizeT_run hes, hmin2, hfm, addrOf, q1, goInt]
          · rw [if_neg hbe] at hr2; cases hr2
    · cases hf
  · cases hf

theorem clear_ok {t ty : TypeId} {rest : List TypeId} {f : HT → Nat → HV → HV → CR} (hf : clearF Pr D t = .f f) (hi : HOk D g h c w) {x y : HV} {u : Value} (hx : TRep g c x u) (hr : f h c x y = .ok v h' c') :
    Eff D g h c w ((Builtin.clear_ (t :: rest).toArray ty #[u]).run Pr w) v h' c' := by
  unfold clearF at hf
  split at hf
  · rename_i e he
    have hu := elemT_some he
    split at hf
    · rename_i es hes
      split at hf
      · cases hf
      · rename_i hno
        have hes0 : es ≠ 0 := fun e => hno (.inl e)
        have hzl : (zeroT Pr e).cells.length = es := Decidable.byContradiction fun e => hno (.inr e)
        injection hf with hf; subst hf
        unfold clearE at hr
        cases x <;> try cases hr
        · have e1 : u = .slice none 0 0 := hx
          subst e1
          exact Eff.same hi (z := undef) (by simp [Builtin.clear_, run_underlying hu, undef]) rfl
        · rename_i k o n es' cl
          obtain ⟨hk, A, m, e1, hnm, hmm, hes', hl2, hbs, hfull, hcl, hA⟩ := hx
          subst e1
          simp only at hr
          by_cases h0 : Nat.beq n 0 = true
          · rw [if_pos h0] at hr
            cases hr
            have := Nat.eq_of_beq_eq_true h0; subst this
            exact Eff.same hi (z := undef) (by simp [Builtin.clear_, run_underlying hu, undef]) rfl
          · rw [if_neg h0] at hr
            have h0' : n ≠ 0 := fun e => h0 (by rw [e]; rfl)
            refine put_eff hi hk.1 hr (fun pre b ho hno hb => ?_) (rfl : TRep g c .und undef)
            have hobn : repO (isU8 Pr e) n (zeroT Pr e).cells ≠ .no := fun e => by
              rw [e] at hno
              cases b <;> exact hno rfl
            have hzd : zeroT Pr e ≠ .dead := fun hd => by
              rw [hd] at hobn
              cases hq : isU8 Pr e with
              | false => rw [hq] at hobn; exact hobn rfl
              | true => rw [hq] at hobn; exact hobn rfl
            obtain ⟨i, zv, hii, hzv, hez⟩ := zeroT_some hzd
            have hcc := (constV_cells (g := g) (c := c) (v := zv) (by rw [← hez]; exact hzd)).1
            rw [← hez] at hcc
            have hbr := repO_ok (l := n) hcc hobn
            obtain ⟨us0, h1, h2, h3, _⟩ := hb.cells (overO_plain hno)
            have hov := overO_ok h2 hbr hno
            obtain ⟨w', q1, q2, q3⟩ := write_run (Pr := Pr) (b' := overO o (repO (isU8 Pr e) n (zeroT Pr e).cells) b) (overO_plain hno) hb hbr.ones (by rw [← h1]; exact hov.1) (fun us' hul hus => (overO_ok hus hbr hno).2)
            refine ⟨w', ?_, q2, q3⟩
            rw [hA (by omega)]
            have hzr : (zeroValue e).run Pr w = .ok zv w := by simp [zeroValue, typeInfo, hii, hzv]
            have hzp : 0 < zv.cells.size := by
              have h5 := hcc.1
              simp only [Array.length_toList] at h5
              rw [h5, hzl]
              omega
            have hzf : (Builtin.zeroCells zv.cells n).toList = (List.replicate n zv.cells.toList).flatten := by
              rw [Go.AbsM.zeroCells_flat hzp, flat_replicate]
            obtain ⟨n', rfl⟩ : ∃ n', n = n' + 1 := ⟨n - 1, by omega⟩
            simp [Builtin.clear_, run_underlying hu, hzr, hzf, addrOf, q1, undef]
    · cases hf
  · cases hf

theorem appendF_inv {t t2 : TypeId} {f : HT → Nat → HV → HV → CR} (hf : appendF Pr D t t2 = .f f) : Go.AbsM.SrcT Pr t2 ∧ ∃ e i zv, Pr.underlying t = some (.slice e) ∧ Pr.info? e = some i ∧ i.zero = some zv ∧ i.size ≠ 0 ∧ i.bytes ≠ 0 ∧ zv.cells.size = i.size ∧ f = append D (isU8 Pr e) i.size i.bytes := by
  have core : Go.AbsM.SrcT Pr t2 → (match elemT Pr t with
    | some e => match sizeT Pr e, bytesT Pr e, zeroT Pr e with
      | some es, some by_, z => if es = 0 ∨ by_ = 0 ∨ z.cells.length ≠ es ∨ z.cells.all HV.isCell = false then E2.no else .f (append D (isU8 Pr e) es by_)
      | _, _, _ => .no
    | none => .no) = .f f → Go.AbsM.SrcT Pr t2 ∧ ∃ e i zv, Pr.underlying t = some (.slice e) ∧ Pr.info? e = some i ∧ i.zero = some zv ∧ i.size ≠ 0 ∧ i.bytes ≠ 0 ∧ zv.cells.size = i.size ∧ f = append D (isU8 Pr e) i.size i.bytes := by
    intro hs hf
    refine ⟨hs, ?_⟩
    split at hf
    · rename_i e he
      split at hf
      · rename_i es by_ hes hby
        split at hf
        · cases hf
        · rename_i hno
          injection hf with hf; subst hf
          have h1 : es ≠ 0 := fun e => hno (.inl e)
          have h2 : by_ ≠ 0 := fun e => hno (.inr (.inl e))
          have h3 : (zeroT Pr e).cells.length = es := Decidable.byContradiction fun e => hno (.inr (.inr (.inl e)))
          have h4 : (zeroT Pr e).cells.all HV.isCell = true := by
            cases hq : (zeroT Pr e).cells.all HV.isCell with
            | true => rfl
            | false => exact absurd (.inr (.inr (.inr hq))) hno
          have hzd : zeroT Pr e ≠ .dead := fun hd => by rw [hd] at h4; cases h4
          obtain ⟨i, zv, hii, hzv, hez⟩ := zeroT_some hzd
          obtain ⟨i1, hi1, rfl⟩ := Option.map_eq_some_iff.1 hes
          rw [hii] at hi1; cases hi1
          obtain ⟨i2, hi2, rfl⟩ := Option.map_eq_some_iff.1 hby
          rw [hii] at hi2; cases hi2
          have hcc := (constV_cells (g := fun _ => ⟨0, 0, 0, 0⟩) (c := 0) (v := zv) (by rw [← hez]; exact hzd)).1
          rw [← hez] at hcc
          have hzs : zv.cells.size = i.size := by
            have := hcc.1
            simp only [Array.length_toList] at this
            rw [this, h3]
          exact ⟨e, i, zv, elemT_some he, hii, hzv, h1, h2, hzs, rfl⟩
      · cases hf
    · cases hf
  unfold appendF at hf
  split at hf
  · rename_i e2 h2; exact core (.inl ⟨_, h2⟩) hf
  · rename_i h2; exact core (.inr h2) hf
  · cases hf

theorem ext_of (hx : Ext w w') : Go.AbsM.Ext w w' := ⟨hx.os, hx.tape, hx.out, hx.sz, hx.heap⟩
theorem Chg.of_ext {B : Nat} (hx : Ext w w') : Chg B w w' := ⟨hx.os, hx.tape, hx.out, hx.sz, fun b hb _ => hx.heap b hb⟩

theorem list_join {α : Type} (vs us : List α) (q a : Nat) (h1 : q + a + us.length ≤ vs.length) :
    ((vs.take (q + a) ++ us ++ vs.drop (q + a + us.length)).drop q).take (a + us.length) = (vs.drop q).take a ++ us := by
  apply List.ext_getElem?
  intro j
  rw [List.getElem?_take, List.getElem?_drop, List.append_assoc]
  by_cases h2 : j < a
  · rw [if_pos (by omega), List.getElem?_append_left (by simp; omega), List.getElem?_take, if_pos (by omega), List.getElem?_append_left (by simp; omega), List.getElem?_take, if_pos h2, List.getElem?_drop]
  · have e1 : (vs.take (q + a)).length = q + a := by simp; omega
    have e2 : ((vs.drop q).take a).length = a := by simp; omega
    rw [List.getElem?_append_right (l₁ := vs.take (q + a)) (by omega), List.getElem?_append_right (l₁ := (vs.drop q).take a) (by omega), e1, e2]
    by_cases h3 : j < a + us.length
    · rw [if_pos h3, List.getElem?_append_left (by omega)]
      congr 1; omega
    · rw [if_neg h3]
      symm
      exact List.getElem?_eq_none (by omega)
theorem append_ok {t t2 ty : TypeId} {f : HT → Nat → HV → HV → CR} (hf : appendF Pr D t t2 = .f f) (hi : HOk D g h c w) {x y : HV} {u z : Value} (hx : TRep g c x u) (hy : TRep g c y z) (hr : f h c x y = .ok v h' c') :
    Eff D g h c w ((Builtin.append_ #[t, t2] ty #[u, z]).run Pr w) v h' c' := by
  obtain ⟨hst, e, i, zv, hu, hii, hzv, hes0, hby0, hzs, rfl⟩ := appendF_inv hf
  unfold append at hr
  simp only at hr
  have hsn : srcOf D i.size h y ≠ .no := fun e => by rw [e] at hr; cases hr
  obtain ⟨hlen, us, hsr, hfirst⟩ := src_ok (Pr := Pr) hi hy hsn
  generalize hs : srcOf D i.size h y = s at *
  have hus : us.length = s.len * i.size := hsr.len
  have hfull : us.take (s.len * i.size) = us := List.take_of_length_le (by omega)
  have hf0 : ∀ w', Ext w w' → (Builtin.firstCells i.size s.len z).run Pr w' = .ok us.toArray w' := fun w' hw' => by
    have := hfirst w' hw' s.len (Nat.le_refl _)
    rw [hfull] at this; exact this
  have hobn : s.obj (isU8 Pr e) ≠ .no := fun e => by rw [e] at hr; cases hr
  have hbr := hsr.obj hobn
  have hr2 : (match x with
    | .nils => if Nat.beq s.len 0 then CR.ok .nils h c else if Nat.ble (Nat.mul s.len i.bytes) 140737488355328 then newO D 0 (s.obj (isU8 Pr e)) (.slc c 0 s.len i.size false) h c else .x 9
    | .slc k o n es' cl => if Nat.beq s.len 0 then .ok (.slc k o n es' cl) h c else
      if Nat.beq i.size es' && Nat.ble (Nat.mul (Nat.add n s.len) i.bytes) 140737488355328 then
      match HT.get D k h with
      | .own pre x =>
        if cl then newO D 0 (joinO o (Nat.mul n i.size) x (s.obj (isU8 Pr e))) (.slc c 0 (Nat.add n s.len) i.size false) h c
        else if Nat.beq (Nat.add o (Nat.mul n i.size)) (sizeO x) && Nat.beq o 0 then newO D (Nat.succ k) (joinO o (Nat.mul n i.size) x (s.obj (isU8 Pr e))) (.slc c 0 (Nat.add n s.len) i.size false) (HT.set D k (.sh x) (unpre D pre h)) c
        else if Nat.ble (Nat.add (Nat.add o (Nat.mul n i.size)) (Nat.mul s.len i.size)) (sizeO x) then putO D k (overO (Nat.add o (Nat.mul n i.size)) (s.obj (isU8 Pr e))) (.slc k o (Nat.add n s.len) i.size false) h c
        else .x 11
      | .sh x => if cl then newO D 0 (joinO o (Nat.mul n i.size) x (s.obj (isU8 Pr e))) (.slc c 0 (Nat.add n s.len) i.size false) h c else .x 18
      | .no => .x 11
      else .x 11
    | _ => .x 12) = .ok v h' c' := by
    cases hq : s.obj (isU8 Pr e) with
    | no => exact absurd hq hobn
    | cells cs => rw [hq] at hr; exact hr
    | byt n d => rw [hq] at hr; exact hr
    | map es cl => rw [hq] at hr; exact hr
  clear hr
  -- a new row, of the first n elements of what was there
  have hby : 0 < i.bytes := by omega
  have fresh : ∀ {A : Option Addr} {n m pre : Nat} {olds : List Value} {b : HB}, u = .slice A n m → (Builtin.firstCells i.size n (.slice A n m)).run Pr w.drew = .ok olds.toArray w.drew → olds.length = n * i.size → m < n + s.len → (n + s.len) * i.bytes ≤ 140737488355328 →
      ∃ w' cap, (Builtin.append_ #[t, t2] ty #[u, z]).run Pr w = .ok (.slice (some ⟨w.heap.size, 0, none⟩) (n + s.len) cap) w' ∧ Ext w w' ∧ n + s.len ≤ cap ∧ cap ≤ maxLen ∧
        ∀ {g' : Gm} {c1 : Nat} {b : HB}, BRep g' c1 b (olds ++ us) → BOk g' c1 ⟨w.heap.size, 0, (n + s.len) * i.size, cap * i.size⟩ b w' := by
    rintro A n m pre olds b rfl hfo hol hgr hb
    have hrun := Go.AbsM.append_run_grow (ty := ty) (n := n) (c := m) hu hst hii hzv (hlen w) (hf0 _ (Ext.drew w)) hfo hgr hb hby
    have hge := grownCap_ge w (n + s.len) m e
    have hnm := Go.AbsM.grown_bound (c := m) (e := e) hb hby
    have hgm := grownCap_le_maxLen w (n + s.len) m e hnm
    refine ⟨_, _, hrun, (Ext.drew w).trans (Ext.alloc w.drew _), hge, hgm, fun {g' c1 b} hbb => ?_⟩
    have hzc : (Builtin.zeroCells zv.cells (grownCap w (n + s.len) m e - (n + s.len))).size = (grownCap w (n + s.len) m e - (n + s.len)) * i.size := by
      simp [Builtin.zeroCells, hzs]
    have hall : (olds ++ us ++ (Builtin.zeroCells zv.cells (grownCap w (n + s.len) m e - (n + s.len))).toList).length = grownCap w (n + s.len) m e * i.size := by
      simp only [List.length_append, Array.length_toList, hzc, hol, hus, ← Nat.add_mul]
      congr 1; omega
    refine .inl ⟨olds ++ us ++ (Builtin.zeroCells zv.cells (grownCap w (n + s.len) m e - (n + s.len))).toList, e, ?_, hall, ?_, ?_⟩
    · have := heap_alloc_new w.drew (.cells (olds.toArray ++ us.toArray ++ Builtin.zeroCells zv.cells (grownCap w (n + s.len) m e - (n + s.len))) e)
      have e1 : (olds ++ us ++ (Builtin.zeroCells zv.cells (grownCap w (n + s.len) m e - (n + s.len))).toList).toArray = olds.toArray ++ us.toArray ++ Builtin.zeroCells zv.cells (grownCap w (n + s.len) m e - (n + s.len)) := by
        apply Array.ext'; simp
      rw [e1]; exact this
    · refine ⟨rfl, ?_⟩
      show 0 + (n + s.len) * i.size ≤ _
      have := Nat.mul_le_mul_right i.size hge
      simp only
      omega
    · have hl2 : (olds ++ us).length = (n + s.len) * i.size := by rw [List.length_append, hol, hus, Nat.add_mul]
      simp only [At.row, List.drop_zero]
      rw [List.take_append_of_le_length (by rw [hl2]; exact Nat.le_refl _), List.take_of_length_le (by rw [hl2]; exact Nat.le_refl _)]
      exact hbb
  have hm48 : ∀ q : Nat, Nat.ble (Nat.mul q i.bytes) 140737488355328 = true → q * i.bytes ≤ 140737488355328 := fun q hq => Nat.le_of_ble_eq_true hq
  have us0 : s.len = 0 → us = [] := fun h0 => List.eq_nil_of_length_eq_zero (by rw [hus, h0, Nat.zero_mul])
  cases x <;> try cases hr2
  · -- nil
    have e1 : u = .slice none 0 0 := hx
    simp only at hr2
    by_cases h0 : Nat.beq s.len 0 = true
    · rw [if_pos h0] at hr2
      cases hr2
      have h0' := Nat.eq_of_beq_eq_true h0
      subst e1
      have := Go.AbsM.append_run_room (P := Pr) (A := none) (ty := ty) (n := 0) (c := 0) hu hst hii (hlen w) (hf0 w (Ext.refl w)) (by omega)
      rw [h0'] at this
      exact Eff.same hi (z := .slice none 0 0) (by simpa using this) rfl
    · rw [if_neg h0] at hr2
      have h0' : s.len ≠ 0 := fun e => h0 (by rw [e]; rfl)
      split at hr2
      · rename_i hb
        have hb' := hm48 _ hb
        obtain ⟨w', cap, hrun, hext, hc1, hc2, hbk⟩ := fresh (n := 0) (m := 0) (pre := 0) (olds := []) (b := .no) e1 (by simp [Builtin.firstCells]) (by simp) (by omega) (by rw [Nat.zero_add]; exact hb')
        simp only [Nat.zero_add] at hrun hc1
        have hbr' := BRep.mono (g' := g.new c ⟨w.heap.size, 0, s.len * i.size, cap * i.size⟩) (c' := c + 1) hbr (agree_new g c _) (Nat.le_succ c)
        have hbok := hbk (g' := g.new c ⟨w.heap.size, 0, s.len * i.size, cap * i.size⟩) (c1 := c + 1) (b := s.obj (isU8 Pr e)) (by simpa using hbr')
        simp only [Nat.zero_add] at hbok
        exact new_eff hi hext (Nat.le_refl _) hbok hr2 hrun (slc_fresh (by omega) hc1 hc2)
      · cases hr2
  · rename_i k o n es' cl
    have hx0 := hx
    obtain ⟨hk, A, m, e1, hnm, hmm, hes', hl2, hbs, hfl, hcl, hA⟩ := hx
    simp only at hr2
    have hk4 : k < 4 ^ D := Nat.lt_of_lt_of_le hk.1 hi.le
    by_cases h0 : Nat.beq s.len 0 = true
    · rw [if_pos h0] at hr2
      cases hr2
      have h0' := Nat.eq_of_beq_eq_true h0
      have := Go.AbsM.append_run_room (P := Pr) (A := some A) (ty := ty) (n := n) (c := m) hu hst hii (hlen w) (hf0 w (Ext.refl w)) (by omega)
      rw [us0 h0', h0'] at this
      refine Eff.same hi (z := .slice (some A) n m) ?_ (by rw [← e1]; exact hx0)
      rw [e1]
      simpa [storeCells] using this
    · rw [if_neg h0] at hr2
      have h0' : s.len ≠ 0 := fun e => h0 (by rw [e]; rfl)
      split at hr2
      case isFalse => cases hr2
      rename_i hcond
      simp only [Bool.and_eq_true] at hcond
      have hee := Nat.eq_of_beq_eq_true hcond.1
      subst hee
      have hb48 : (n + s.len) * i.bytes ≤ 140737488355328 := hm48 _ hcond.2
      -- what was there, read
      have olds : ∀ {b : HB}, isMap b = false → BOk g c (g k) b w → ∃ us0 : List Value, us0.length = (g k).len ∧ BRep g c b us0 ∧ (g k).len = sizeO b ∧ (Builtin.firstCells i.size n (.slice (some A) n m)).run Pr w.drew = .ok (((us0.drop o).take (n * i.size)).toArray) w.drew := by
        intro b hm hb
        obtain ⟨us0, q1, q2, q3, q4⟩ := hb.cells hm
        refine ⟨us0, q1, q2, q3, ?_⟩
        by_cases hn0 : n = 0
        · subst hn0
          simp [Builtin.firstCells, loadCells, loadCellsFrom]
        · rw [hA (by omega)]
          refine firstCells_some (by simp; omega) fun j u hj => ?_
          simp only [addrOf]
          rw [Addr.add_lit, Nat.add_assoc]
          rw [List.getElem?_take] at hj
          split at hj
          · rw [List.getElem?_drop] at hj
            exact q4 (o + j) u hj
          · cases hj
      -- a new row for certain
      have whole : ∀ {b : HB}, BOk g c (g k) b w → cl = true → newO D 0 (joinO o (Nat.mul n i.size) b (s.obj (isU8 Pr e))) (.slc c 0 (Nat.add n s.len) i.size false) h c = .ok v h' c' → Eff D g h c w ((Builtin.append_ #[t, t2] ty #[u, z]).run Pr w) v h' c' := by
        intro b hb hc hnew
        obtain ⟨_, hbno, _⟩ := newO_some hnew
        obtain ⟨us0, q1, q2, q3, q4⟩ := olds (joinO_plain hbno) hb
        have hmn := hcl hc
        obtain ⟨j1, j2⟩ := joinO_ok q2 hbr hbno
        have hol : ((us0.drop o).take (n * i.size)).length = n * i.size := by simp; omega
        obtain ⟨w', cap, hrun, hext, hc1, hc2, hbk⟩ := fresh (pre := 0) (b := .no) e1 q4 hol (by omega) hb48
        have j3 := BRep.mono (g' := g.new c ⟨w.heap.size, 0, (n + s.len) * i.size, cap * i.size⟩) (c' := c + 1) j2 (agree_new g c _) (Nat.le_succ c)
        exact new_eff hi hext (Nat.le_refl _) (hbk j3) hnew hrun (slc_fresh (by omega) hc1 hc2)
      split at hr2
      · -- an object that may be written
        rename_i pre b ho
        have ho' : hp D h k = .own pre b := by rw [hp_lt hk4]; exact ho
        have hbo := hi.inv.own k pre b ho'
        split at hr2
        · rename_i hc; exact whole hbo hc hr2
        · rename_i hc
          have hcf : cl = false := by cases cl with | true => exact absurd rfl hc | false => rfl
          have hfl := hfl hcf
          have hm : isMap b = false := by
            cases hmb : isMap b with
            | false => rfl
            | true =>
              exfalso
              split at hr2
              · obtain ⟨_, hbno, _⟩ := newO_some hr2
                rw [joinO_plain hbno] at hmb; cases hmb
              · split at hr2
                · obtain ⟨pre', b', hob, hno, _⟩ := putO_some hr2
                  rw [ho] at hob
                  simp only [HO.own.injEq] at hob
                  obtain ⟨_, rfl⟩ := hob
                  rw [overO_plain hno] at hmb; cases hmb
                · cases hr2
          obtain ⟨us0, q1, q2, q3, q4⟩ := olds hm hbo
          split at hr2
          · -- at its end
            rename_i hend
            simp only [Bool.and_eq_true] at hend
            have ho0 : o = 0 := Nat.eq_of_beq_eq_true hend.2
            have hend : o + n * i.size = sizeO b := Nat.eq_of_beq_eq_true hend.1
            obtain ⟨c1, hbno, rfl, rfl, rfl⟩ := newO_some hr2
            obtain ⟨j1, j2⟩ := joinO_ok q2 hbr hbno
            have hpre : pre = 0 ∨ pre ≤ 4 ^ D := .inr (Nat.le_trans (hi.inv.pre k pre b ho') hi.le)
            obtain ⟨p1, p2⟩ := hp_unpre (D := D) (h := h) (pre := pre) (c := c) hi.deep hpre
            have p3 := hp_set (o := .sh b) p2 hk4
            have p4 := deep_set D k (.sh b) _ p2
            have p5 := hp_set (o := .own (Nat.succ k) (joinO o (Nat.mul n i.size) b (s.obj (isU8 Pr e)))) p4 c1
            have p6 := deep_set D c (.own (Nat.succ k) (joinO o (Nat.mul n i.size) b (s.obj (isU8 Pr e)))) _ p4
            have close : ∀ {w' : World} {a : At} {zz : Value}, (Builtin.append_ #[t, t2] ty #[u, z]).run Pr w = .ok zz w' → Chg (g k).b w w' → (a.b = (g k).b ∨ w.heap.size ≤ a.b) → BOk g c (g k) b w' → BOk (g.new c a) (c + 1) a (joinO o (Nat.mul n i.size) b (s.obj (isU8 Pr e))) w' → TRep (g.new c a) (c + 1) (.slc c 0 (n + s.len) i.size false) zz →
                Eff D g h c w ((Builtin.append_ #[t, t2] ty #[u, z]).run Pr w) (.slc c 0 (Nat.add n s.len) i.size false) (HT.set D c (.own (Nat.succ k) (joinO o (Nat.mul n i.size) b (s.obj (isU8 Pr e)))) (HT.set D k (.sh b) (unpre D pre h))) (c + 1) := by
              intro w' a zz r1 r2 r3 r4 r5 r6
              have hps := Post.grow hi.inv ho' r2 r3 r4 r5
              rw [p3, p1] at p5
              rw [← p5] at hps
              exact ⟨zz, w', _, r1, ⟨p6, c1, hps.inv⟩, hps, r6⟩
            have j3 := fun a => BRep.mono (g' := g.new c a) (c' := c + 1) j2 (agree_new g c _) (Nat.le_succ c)
            by_cases hroom : n + s.len ≤ m
            · -- there is room
              have hAe := hA (by omega)
              subst hAe
              obtain ⟨vs, tt, b1, b2, b3, b4⟩ := hbo.plain hm
              have hmes : (n + s.len) * i.size ≤ m * i.size := Nat.mul_le_mul_right _ hroom
              rw [Nat.add_mul] at hmes
              have hend2 : o + n * i.size = (g k).len := by rw [hend, q3]
              obtain ⟨w', s1, s2, s3⟩ := store_run (Pr := Pr) (p := (g k).o + (o + n * i.size)) b1 hsr.ones (by omega)
              have hrun := Go.AbsM.append_run_room (P := Pr) (A := some (addrOf g k o)) (ty := ty) (n := n) (c := m) hu hst hii (hlen w) (hf0 w (Ext.refl w)) hroom
              simp only [addr_add] at hrun
              have s1' : (storeCells (addrOf g k (o + n * i.size)) us.toArray.toList).run Pr w = .ok () w' := by simpa [addrOf] using s1
              rw [s1'] at hrun
              simp only [Result.andThen_ok] at hrun
              rw [← e1] at hrun
              have hlr : ((vs.take ((g k).o + (o + n * i.size)) ++ us ++ vs.drop ((g k).o + (o + n * i.size) + us.length))).length = (g k).bs := by
                simp only [List.length_append, List.length_take, List.length_drop]; omega
              refine close (a := ⟨(g k).b, (g k).o + o, (n + s.len) * i.size, (g k).bs⟩) hrun s2 (.inl rfl) (.inl ⟨_, tt, s3, hlr, b3, ?_⟩) (.inl ⟨_, tt, s3, hlr, ?_, ?_⟩) ?_
              · have := list_keep vs us (g k).o (g k).len ((g k).o + (o + n * i.size)) (by omega) (by omega)
                simp only [At.row] at b4 ⊢
                rw [this]; exact b4
              · refine ⟨by show (g k).o + o = 0; omega, ?_⟩
                show (g k).o + o + (n + s.len) * i.size ≤ (g k).bs
                rw [Nat.add_mul]; omega
              · have j4 := (joinO_ok b4 hbr hbno).2
                have e5 : (At.mk (g k).b ((g k).o + o) ((n + s.len) * i.size) (g k).bs).row (vs.take ((g k).o + (o + n * i.size)) ++ us ++ vs.drop ((g k).o + (o + n * i.size) + us.length)) = (((g k).row vs).drop o).take (Nat.mul n i.size) ++ us := by
                  have h6 := list_join vs us ((g k).o + o) (n * i.size) (by omega)
                  have e6 : (n + s.len) * i.size = n * i.size + us.length := by rw [Nat.add_mul, hus]
                  have e7 : (g k).o + (o + n * i.size) = (g k).o + o + n * i.size := by omega
                  simp only [At.row]
                  rw [e6, e7, h6]
                  congr 1
                  apply List.ext_getElem?
                  intro j
                  show _ = ((((vs.drop (g k).o).take (g k).len).drop o).take (n * i.size))[j]?
                  rw [List.getElem?_take, List.getElem?_take, List.getElem?_drop, List.getElem?_drop, List.getElem?_take, List.getElem?_drop]
                  by_cases hj : j < n * i.size
                  · rw [if_pos hj, if_pos hj, if_pos (by omega)]
                    congr 1; omega
                  · rw [if_neg hj, if_neg hj]
                rw [e5]
                exact BRep.mono j4 (agree_new g c _) (Nat.le_succ c)
              · refine ⟨nm_new g c _ (by have h1 : (n + s.len) * i.size ≤ m * i.size := Nat.mul_le_mul_right _ hroom; show (g k).o + o + (n + s.len) * i.size ≤ (g k).bs; omega), _, m, rfl, hroom, hmm, hes', ?_, ?_, (fun _ => ?_), (fun hc => by cases hc), fun _ => ?_⟩
                · rw [gnew_self]; simp
                · rw [gnew_self]; show (g k).o + o + 0 + m * i.size ≤ (g k).bs; omega
                · rw [gnew_self]; show (n + s.len) * i.size ≤ 0 + m * i.size; rw [Nat.add_mul]; omega
                · simp [addrOf, gnew_self]
            · -- it grows
              have hol : ((us0.drop o).take (n * i.size)).length = n * i.size := by simp; omega
              obtain ⟨w', cap, hrun, hext, hc1, hc2, hbk⟩ := fresh (pre := 0) (b := .no) e1 q4 hol (by omega) hb48
              exact close hrun (Chg.of_ext hext) (.inr (Nat.le_refl _)) (hbo.mono (fun _ _ => rfl) (Nat.le_refl _) (hext.heap _ hbo.lt)) (hbk (j3 _)) (slc_fresh (by omega) hc1 hc2)
          · split at hr2
            · -- over what is behind it
              rename_i hne hin
              have hin : o + n * i.size + s.len * i.size ≤ sizeO b := Nat.le_of_ble_eq_true hin
              have hroom : n + s.len ≤ m := by
                have h1 : (n + s.len) * i.size ≤ m * i.size := by rw [Nat.add_mul]; omega
                exact Nat.le_of_mul_le_mul_right h1 hes'
              have hAe := hA (by omega)
              subst hAe
              refine put_eff (z := .slice (some (addrOf g k o)) (n + s.len) m) hi hk.1 hr2 (fun pre' b' hob hno hb => ?_) ?_
              · rw [ho] at hob
                simp only [HO.own.injEq] at hob
                obtain ⟨_, rfl⟩ := hob
                have hov := overO_ok q2 hbr hno
                obtain ⟨w', r1, r2, r3⟩ := write_run (Pr := Pr) (b' := overO (Nat.add o (Nat.mul n i.size)) (s.obj (isU8 Pr e)) b) (overO_plain hno) hb hsr.ones (by rw [← q1]; exact hov.1) (fun us' hul hus => (overO_ok hus hbr hno).2)
                refine ⟨w', ?_, r2, r3⟩
                have hrun := Go.AbsM.append_run_room (P := Pr) (A := some (addrOf g k o)) (ty := ty) (n := n) (c := m) hu hst hii (hlen w) (hf0 w (Ext.refl w)) hroom
                simp only [addr_add] at hrun
                have s1' : (storeCells (addrOf g k (o + n * i.size)) us.toArray.toList).run Pr w = .ok () w' := by simpa [addrOf] using r1
                rw [s1'] at hrun
                simp only [Result.andThen_ok] at hrun
                rw [← e1] at hrun
                exact hrun
              · refine ⟨hk, _, m, rfl, hroom, hmm, hes', ?_, hbs, (fun _ => hfl), (fun hc => by cases hc), fun _ => rfl⟩
                show o + (n + s.len) * i.size ≤ (g k).len
                rw [Nat.add_mul, q3]; omega
            · cases hr2
      · -- one that is only read
        rename_i b ho
        have ho' : hp D h k = .sh b := by rw [hp_lt hk4]; exact ho
        split at hr2
        · rename_i hc; exact whole (hi.inv.sh k b ho') hc hr2
        · cases hr2
      · cases hr2
end
end
end Go.FM

/-! ## FnExec -/
/-
  The fast machine: one operation.
-/
set_option linter.unusedVariables false
set_option linter.unusedSimpArgs false
set_option linter.unusedSectionVars false
namespace Go.FM
noncomputable section
variable [Env]

/-! ### What is reckoned is the same -/
theorem forceN_eq {α : Type} (n : Nat) (k : Nat → α) : forceN n k = k n := by cases n <;> rfl
theorem forceI_eq {α : Type} (n : Int) (k : Int → α) : forceI n k = k n := by
  cases n with
  | ofNat m => show forceN m (fun m => k (.ofNat m)) = _; rw [forceN_eq]
  | negSucc m => show forceN m (fun m => k (.negSucc m)) = _; rw [forceN_eq]
theorem forceB_eq {α : Type} (b : Bool) (k : Bool → α) : forceB b k = k b := by cases b <;> rfl
theorem forceV_eq {v : HV} (x : R) (k : HV → R) (h : v ≠ .dead) : forceV v x k = k v := by
  cases v with
  | dead => exact absurd rfl h
  | int i n => show forceI n (fun n => k (.int i n)) = _; rw [forceI_eq]
  | mp n => show forceN n (fun n => k (.mp n)) = _; rw [forceN_eq]
  | bool b => show forceB b (fun b => k (.bool b)) = _; rw [forceB_eq]
  | str n d => show forceN n (fun n => forceN d fun d => k (.str n d)) = _; rw [forceN_eq, forceN_eq]
  | ptr n d => show forceN n (fun n => forceN d fun d => k (.ptr n d)) = _; rw [forceN_eq, forceN_eq]
  | slc a o n e cl => show forceN a (fun a => forceN o fun o => forceN n fun n => forceN e fun e => forceB cl fun cl => k (.slc a o n e cl)) = _; rw [forceN_eq, forceN_eq, forceN_eq, forceN_eq, forceB_eq]
  | _ => rfl
theorem forceF_eq {α : Type} (f : F) (k : F → α) : forceF f k = k f := by cases f; rfl

def putT (st : P) (v : HV) (t : L) : L := match st with
  | .skip => t
  | _ => v :: t
def putF (st : P) (v : HV) (f : F) : F := match st with
  | .var u => u v f
  | _ => f
theorem put_eq (st : P) (v : HV) (k : K) (t : L) (s : S) : put st v k t s = k (putT st v t) ⟨putF st v s.f, s.h, s.c⟩ := by
  cases st with
  | skip => rfl
  | loc => rfl
  | var u => cases s; exact forceF_eq _ _
theorem fin_some {why : Nat} {st : P} {v : HV} {k : K} {t : L} {s : S} (h : ∀ w, fin why st v k t s ≠ .x w) : v ≠ .dead ∧ fin why st v k t s = k (putT st v t) ⟨putF st v s.f, s.h, s.c⟩ := by
  have hd : v ≠ .dead := fun e => by subst e; exact h why rfl
  refine ⟨hd, ?_⟩
  unfold fin
  rw [forceV_eq _ _ hd, put_eq]
theorem finC_some {st : P} {r : CR} {k : K} {t : L} {s : S} (h : ∀ w, finC st r k t s ≠ .x w) : ∃ v h' c', r = .ok v h' c' ∧ v ≠ .dead ∧ finC st r k t s = k (putT st v t) ⟨putF st v s.f, h', c'⟩ := by
  cases r with
  | x w => exact absurd rfl (h w)
  | ok v h' c' =>
    have e : finC st (.ok v h' c') k t s = forceN c' fun c => forceV v (.x 40) fun v => put st v k t ⟨s.f, h', c⟩ := rfl
    rw [e, forceN_eq] at h
    have hd : v ≠ .dead := fun e => by subst e; exact h 40 rfl
    refine ⟨v, h', c', rfl, hd, ?_⟩
    rw [e, forceN_eq, forceV_eq _ _ hd, put_eq]
theorem evs_eq (gs : List G) (t : L) (f : F) : evs gs t f = gs.map fun g => g.ev t f := by
  induction gs with
  | nil => rfl
  | cons g r ih =>
    show g.ev t f :: evs r t f = _
    rw [ih]; rfl

/-! ### A frame -/
structure SRel (nt gl : Nat) (reg : List Nat) (g : Gm) (c : Nat) (t : L) (f : F) (a : Act) : Prop where
  size : a.tmps.size = nt
  vars : ∀ x, Nat.testBit gl x = true → TRep g c (fget (rank gl x) f) (a.tmps.getD x undef)
  locs : ∀ x j, idx x reg = some j → TRep g c (lget j t) (a.tmps.getD x undef)
  defers : a.defers = []
/-- Few enough variables. -/
def GlOk (nt gl : Nat) : Prop := rank gl nt ≤ 256 ∧ ∀ x, Nat.testBit gl x = true → x < nt

section
variable {Pr : Program} {D : Nat} {w w' : World} {g g' : Gm} {c c' : Nat} {nt gl : Nat} {reg : List Nat} {t : L} {f : F} {s : S} {a : Act}

theorem SRel.mono (hs : SRel nt gl reg g c t f a) (ha : Agree c g g') (hc : c ≤ c') : SRel nt gl reg g' c' t f a :=
  ⟨hs.size, fun x hx => (hs.vars x hx).mono ha hc, fun x j hx => (hs.locs x j hx).mono ha hc, hs.defers⟩
theorem SRel.nil (hs : SRel nt gl reg g c t f a) (t' : L) : SRel nt gl [] g c t' f a :=
  ⟨hs.size, hs.vars, fun x j hx => by simp [idx] at hx, hs.defers⟩

theorem put_tmps (a : Act) (d : Nat) (v : Value) (x : Nat) : (a.put (some d) v).tmps.getD x undef = if x = d ∧ d < a.tmps.size then v else a.tmps.getD x undef := by
  simp only [Act.put, Array.getD_eq_getD_getElem?, Array.getElem?_setIfInBounds]
  by_cases h : d = x
  · subst h
    by_cases hd : d < a.tmps.size
    · simp [hd]
    · simp [hd]
  · simp [h, Ne.symm h]
theorem put_size (a : Act) (d : Option Nat) (v : Value) : (a.put d v).tmps.size = a.tmps.size := by
  cases d <;> simp [Act.put]
theorem idx_cons (x y : Nat) (r : List Nat) : idx x (y :: r) = if y = x then some 0 else (idx x r).map (· + 1) := by
  have e : idx x (y :: r) = (Nat.beq y x).casesOn (match idx x r with | some j => some (j + 1) | none => none) (some 0) := rfl
  rw [e]
  by_cases h : y = x
  · subst h; rw [Nat.beq_refl, if_pos rfl]
  · have : Nat.beq y x = false := by
      cases hb : Nat.beq y x with
      | false => rfl
      | true => exact absurd (Nat.eq_of_beq_eq_true hb) h
    rw [this, if_neg h]
    cases idx x r <;> rfl

theorem SRel.put (hg : GlOk nt gl) (hs : SRel nt gl reg g c t f a) {d : Option Nat} (hd : dstOk nt d = true) {v : HV} {u : Value} (hv : TRep g c v u) :
    SRel nt gl (regOf d reg) g c (putT (dstP gl d) v t) (putF (dstP gl d) v f) (a.put d u) := by
  cases d with
  | none => exact hs
  | some d =>
    have hdn : d < nt := Nat.le_of_ble_eq_true hd
    have hlocs : ∀ x j, idx x (d :: reg) = some j → TRep g c (lget j (v :: t)) ((a.put (some d) u).tmps.getD x undef) := by
      intro x j hx
      rw [idx_cons] at hx
      rw [put_tmps]
      by_cases h : d = x
      · subst h
        rw [if_pos rfl] at hx
        simp only [Option.some.injEq] at hx; subst hx
        rw [if_pos ⟨rfl, by rw [hs.size]; exact hdn⟩]
        exact hv
      · rw [if_neg h] at hx
        obtain ⟨j', hj, rfl⟩ := Option.map_eq_some_iff.1 hx
        rw [if_neg fun e => h e.1.symm]
        exact hs.locs x j' hj
    have other : ∀ x, x ≠ d → (a.put (some d) u).tmps.getD x undef = a.tmps.getD x undef := fun x hx => by rw [put_tmps, if_neg fun e => hx e.1]
    have self : (a.put (some d) u).tmps.getD d undef = u := by rw [put_tmps, if_pos ⟨rfl, by rw [hs.size]; exact hdn⟩]
    cases hb : Nat.testBit gl d with
    | false =>
      have e : dstP gl (some d) = .loc := by
        show (Nat.testBit gl d).casesOn (motive := fun _ => P) .loc (pVar (rank gl d)) = .loc
        rw [hb]
      rw [e]
      refine ⟨by rw [put_size]; exact hs.size, fun x hx => ?_, hlocs, hs.defers⟩
      rw [other x fun e => by subst e; rw [hb] at hx; cases hx]
      exact hs.vars x hx
    | true =>
      obtain ⟨q, hq, hqv⟩ := pVar_eq (rank gl d)
      have e : dstP gl (some d) = .var q := by
        show (Nat.testBit gl d).casesOn (motive := fun _ => P) .loc (pVar (rank gl d)) = .var q
        rw [hb]; exact hq
      rw [e]
      refine ⟨by rw [put_size]; exact hs.size, fun x hx => ?_, hlocs, hs.defers⟩
      show TRep g c (fget (rank gl x) (q v f)) _
      have r1 : rank gl x < 256 := Nat.lt_of_lt_of_le (rank_lt gl (hg.2 x hx) hx) hg.1
      have r2 : rank gl d < 256 := Nat.lt_of_lt_of_le (rank_lt gl hdn hb) hg.1
      rw [hqv, fget_fset r1 r2]
      by_cases h : x = d
      · subst h
        rw [if_pos rfl, self]; exact hv
      · rw [if_neg fun e => h (rank_inj gl hx hb e), other x h]
        exact hs.vars x hx

theorem lget_gLoc (j : Nat) (t : L) (f : F) : (gLoc j).ev t f = lget j t := rfl
theorem opnd_ok (hs : SRel nt gl reg g c t f a) (o : Operand) : TRep g c ((opnd gl reg o).ev t f) (a.eval o) := by
  cases o with
  | tmp x =>
    show TRep g c ((opnd gl reg (.tmp x)).ev t f) (a.tmps.getD x undef)
    unfold opnd
    simp only
    cases h : idx x reg with
    | some j => exact hs.locs x j h
    | none =>
      cases hb : Nat.testBit gl x with
      | false => exact trivial
      | true =>
        show TRep g c ((gVar (rank gl x)).ev t f) _
        rw [gVar_ev]
        exact hs.vars x hb
  | const v => exact TRep.of_val (constV_ok v)
  | func fn => exact ⟨fun p hp => by simp at hp, by simp [Act.eval]⟩
  | global n => exact trivial
theorem opnds_ok {ρ : Operand → Value} {l : List Operand} (hs : ∀ x, x ∈ l → TRep g c ((opnd gl reg x).ev t f) (ρ x)) : TReps g c (evs (opnds gl reg l) t f) (l.map ρ) := by
  rw [evs_eq]
  refine ⟨by simp [opnds], fun i x u hx hu => ?_⟩
  simp only [opnds, List.getElem?_map, Option.map_eq_some_iff] at hx hu
  obtain ⟨y, ⟨o, ho, rfl⟩, rfl⟩ := hx
  obtain ⟨o', ho', rfl⟩ := hu
  rw [ho] at ho'
  simp only [Option.some.injEq] at ho'; subst ho'
  exact hs o (List.mem_of_getElem? ho)
theorem optG_ok {ρ : Operand → Value} {o : Option Operand} (hs : ∀ x, o = some x → TRep g c ((opnd gl reg x).ev t f) (ρ x)) : LoRep g c (o.map ρ) ((optG gl reg o).ev t f) := by
  cases o with
  | none => rfl
  | some o => exact hs o rfl
theorem hiG_ok {ρ : Operand → Value} {o : Option Operand} (hs : ∀ x, o = some x → TRep g c ((opnd gl reg x).ev t f) (ρ x)) : HiRep g c o.isSome (o.map ρ) ((optG gl reg o).ev t f) := by
  cases o with
  | none => rfl
  | some o => exact ⟨rfl, hs o rfl⟩
/-- What an operation reads. -/
def Opr (gl : Nat) (reg : List Nat) (g : Gm) (c : Nat) (t : L) (f : F) (ρ : Operand → Value) (op : Op) : Prop := ∀ x, x ∈ op.operands → TRep g c ((opnd gl reg x).ev t f) (ρ x)
theorem Opr.get {ρ : Operand → Value} {op op' : Op} (hs : Opr gl reg g c t f ρ op) (ho : op = op') {x : Operand} (hx : x ∈ op'.operands) : TRep g c ((opnd gl reg x).ev t f) (ρ x) := hs x (by rw [ho]; exact hx)
theorem SRel.opr (hs : SRel nt gl reg g c t f a) (op : Op) : Opr gl reg g c t f a.eval op := fun x _ => opnd_ok hs x

/-! ### Calls -/
def CallT (Pr : Program) (D : Nat) (fn : FuncId) (args : List HV) (h : HT) (c : Nat) (v : HV) (h' : HT) (c' : Nat) : Prop :=
  ∀ (w : World) (g : Gm) (vs : List Value), HOk D g h c w → TReps g c args vs → Calls Pr fn vs.toArray w fun e w' => ∃ u g', e = .returned u ∧ HOk D g' h' c' w' ∧ Post g (hp D h) c w g' (hp D h') c' w' ∧ TRep g' c' v u
def Body (Pr : Program) (fn : FuncId) : Prop := ∃ f cd, Pr.funcs[fn]? = some f ∧ f.body = some cd ∧ (f.name == "runtime.NumGoroutine") = false
def ClOk (Pr : Program) (D : Nat) (cl : Cl) : Prop := ∀ fn args h c v h' c', cl fn args h c = .ok v h' c' → v ≠ .dead → Body Pr fn ∧ CallT Pr D fn args h c v h' c'

/-- What an operation does, guard apart. -/
def OpW (Pr : Program) (D gl : Nat) (reg : List Nat) (o : Oper) (t : L) (f : F) (h : HT) (c : Nat) (v : HV) (h' : HT) (c' : Nat) : Prop :=
  ∀ (a : Act) (w : World) (g : Gm), Opr gl reg g c t f a.eval o.op → HOk D g h c w → ∀ (next : Act → World → Prop) (Q : Exit → Act → World → Prop),
    (∀ u w' g', HOk D g' h' c' w' → Post g (hp D h) c w g' (hp D h') c' w' → TRep g' c' v u → next (a.put o.dst u) w') → o.wp Pr a w next Q

variable {cl : Cl} {o : Oper} {h h' : HT}
theorem OpW.pure {v : HV} (hok : ∀ (a : Act) (w : World) (g : Gm), Opr gl reg g c t f a.eval o.op → HOk D g h c w → ∃ u, (execOp a.eval o).run Pr w = .ok (.value u) w ∧ TRep g c v u) :
    OpW Pr D gl reg o t f h c v h c := by
  intro a w g hs hi next Q hn
  obtain ⟨u, hr, hv⟩ := hok a w g hs hi
  unfold Oper.wp; rw [hr]
  exact hn _ _ g hi (Post.refl hi.inv) hv
theorem OpW.eff {v : HV} (hok : ∀ (a : Act) (w : World) (g : Gm), Opr gl reg g c t f a.eval o.op → HOk D g h c w → ∃ r : Result Value, Eff D g h c w r v h' c' ∧ ∀ u w', r = .ok u w' → (execOp a.eval o).run Pr w = .ok (.value u) w') :
    OpW Pr D gl reg o t f h c v h' c' := by
  intro a w g hs hi next Q hn
  obtain ⟨r, ⟨u, w', g', h1, h2, h3, h4⟩, h5⟩ := hok a w g hs hi
  unfold Oper.wp; rw [h5 u w' h1]
  exact hn _ _ g' h2 h3 h4

theorem call_run {cc : Call} {fn : FuncId} {cap : Array Value} (ho : o.op = .call cc) (hc : ∃ x, cc.callee = .value x ∧ a.eval x = .func (.func fn) #[] cap) (hf : Body Pr fn) :
    (execOp a.eval o).run Pr w = .ok (.enter fn (cc.args.map a.eval ++ cap)) w := by
  obtain ⟨f1, cd, h1, h2, h3⟩ := hf
  have hp : ∀ as, (callFunc fn as).run Pr w = .ok (.enter fn as) w := fun as => by
    simp only [callFunc, Sem.run_bind, run_program, Result.andThen_ok, h1, h3, h2]
    rfl
  obtain ⟨x, hc, hx⟩ := hc
  simp [execOp, ho, Go.resolve, hc, hx, Deferred.ofValue, invoke, hp]
theorem call_wp {cc : Call} {fn : FuncId} {args : List HV} {v : HV} (ho : o.op = .call cc) (hb : Body Pr fn) (hct : CallT Pr D fn args h c v h' c')
    (hargs : ∀ (a : Act) (g : Gm), Opr gl reg g c t f a.eval o.op → ∃ cap vs, (∃ x, cc.callee = .value x ∧ a.eval x = .func (.func fn) #[] cap) ∧ cc.args.map a.eval ++ cap = vs.toArray ∧ TReps g c args vs) :
    OpW Pr D gl reg o t f h c v h' c' := by
  intro a w g hs hi next Q hn
  obtain ⟨cap, vs, h1, h2, h3⟩ := hargs a g hs
  unfold Oper.wp
  rw [call_run ho h1 hb, h2]
  exact Calls.mono (hct w g vs hi h3) fun e w' ⟨u, g', he, q1, q2, q3⟩ => by
    subst he
    exact hn _ _ g' q1 q2 q3
end
end
end Go.FM

/-! ## FnComp -/
/-
  The fast machine: one operation is what the machine does.
-/
set_option linter.unusedVariables false
set_option linter.unusedSimpArgs false
set_option linter.unusedSectionVars false
namespace Go.FM
noncomputable section
variable [Env]

section
variable {Pr : Program} {D : Nat} {w w' : World} {g g' : Gm} {c c' : Nat} {nt gl : Nat} {reg : List Nat} {t : L} {s : S} {a : Act} {cl : Cl} {o : Oper} {k : K}

/-! ### Small ones -/
theorem pickV_ok {x y z : HV} {u v q : Value} (hx : TRep g c x u) (hy : TRep g c y v) (hz : TRep g c z q) (hl : pickV x y z ≠ .dead) : ∃ b, u = .bool b ∧ TRep g c (pickV x y z) (if b then v else q) := by
  cases x <;> try exact absurd rfl hl
  rename_i b
  have e : u = .bool b := hx
  refine ⟨b, e, ?_⟩
  cases b
  · exact hz
  · exact hy
theorem extractV_ok {x : HV} {v : Value} {i : Nat} (hx : TRep g c x v) (hl : extractV i x ≠ .dead) : ∃ u, (Instr.extract v i).run Pr w = .ok u w ∧ TRep g c (extractV i x) u := by
  cases x <;> try exact absurd rfl hl
  rename_i as
  obtain ⟨vs, rfl, h2, h3⟩ := hx
  have h1 := lget_some (show lget i as ≠ .dead from hl)
  have hi : i < vs.length := by rw [h2]; exact (List.getElem?_eq_some_iff.1 h1).1
  have hv : vs[i]? = some vs[i] := List.getElem?_eq_getElem hi
  refine ⟨vs[i], ?_, TRep.of_val (h3 i _ _ h1 hv)⟩
  simp [Instr.extract, hi]
theorem realV_ok {x : HV} {v : Value} (hx : TRep g c x v) (hl : realV x ≠ .dead) (ts : Array TypeId) (ty : TypeId) : ∃ u, (Builtin.real_ ts ty #[v]).run Pr w = .ok u w ∧ TRep g c (realV x) u := by
  cases x <;> try exact absurd rfl hl
  rename_i k a b
  have e : v = .complex k a b := hx
  subst e
  exact ⟨.float k a, rfl, rfl⟩
theorem imagV_ok {x : HV} {v : Value} (hx : TRep g c x v) (hl : imagV x ≠ .dead) (ts : Array TypeId) (ty : TypeId) : ∃ u, (Builtin.imag_ ts ty #[v]).run Pr w = .ok u w ∧ TRep g c (imagV x) u := by
  cases x <;> try exact absurd rfl hl
  rename_i k a b
  have e : v = .complex k a b := hx
  subst e
  exact ⟨.float k b, rfl, rfl⟩
theorem cpxOf_ok {x y : HV} {v u : Value} (hx : TRep g c x v) (hy : TRep g c y u) (hl : cpxOf x y ≠ .dead) (ts : Array TypeId) (ty : TypeId) : ∃ z, (Builtin.complex_ ts ty #[v, u]).run Pr w = .ok z w ∧ TRep g c (cpxOf x y) z := by
  unfold cpxOf at hl ⊢
  split at hl
  · rename_i k a k' b
    split at hl
    · rename_i hk
      subst hk
      have e : v = .float k a := hx
      have e' : u = .float k b := hy
      subst e e'
      refine ⟨.complex k a b, ?_, ?_⟩
      · show (if k = k then pure (.complex k a b) else Go.stuck "complex: parts of different kinds" : Sem Value).run Pr w = _
        rw [if_pos rfl]; rfl
      · rw [if_pos rfl]; exact rfl
    · exact absurd rfl hl
  · exact absurd rfl hl
theorem makeFnF_ok {f : FuncId} {xs : List HV} {vs : List Value} (hx : TReps g c xs vs) (hl : makeFnF f xs ≠ .dead) : TRep g c (makeFnF f xs) (.func (.func f) #[] vs.toArray) := by
  have hall : allPtr xs = true := by
    cases h : allPtr xs with
    | true => rfl
    | false =>
      have : makeFnF f xs = .dead := by
        show (allPtr xs).casesOn (motive := fun _ => HV) .dead (makeFn f xs) = .dead
        rw [h]
      exact absurd this hl
  have e : makeFnF f xs = makeFn f xs := by
    show (allPtr xs).casesOn (motive := fun _ => HV) .dead (makeFn f xs) = _
    rw [hall]
  rw [e]
  clear e hl
  have key : ∀ (xs : List HV) (vs : List Value), TReps g c xs vs → allPtr xs = true → (∀ p : Nat × Nat, p ∈ xs.map (fun v => match v with | .ptr k o => (k, o) | _ => (0, 0)) → Nm g c p.1) ∧ vs = (xs.map (fun v => match v with | .ptr k o => (k, o) | _ => (0, 0))).map fun p : Nat × Nat => Value.pointer (some (addrOf g p.1 p.2)) := by
    intro xs
    induction xs with
    | nil =>
      intro vs hv _
      have : vs = [] := List.length_eq_zero_iff.1 hv.1
      subst this
      exact ⟨fun p hp => by simp at hp, rfl⟩
    | cons x r ih =>
      intro vs hv ha
      cases vs with
      | nil => exact absurd hv.1 (by simp)
      | cons u us =>
        have hr : TReps g c r us := ⟨by simpa using hv.1, fun i x' u' h1 h2 => hv.2 (i + 1) x' u' (by simpa using h1) (by simpa using h2)⟩
        have h0 := hv.2 0 x u rfl rfl
        simp only [allPtr, List.all_cons, Bool.and_eq_true] at ha
        obtain ⟨q1, q2⟩ := ih us hr ha.2
        cases x <;> try cases ha.1
        rename_i k o
        obtain ⟨hk, e⟩ : Nm g c k ∧ u = .pointer (some (addrOf g k o)) := h0
        refine ⟨fun p hp => ?_, ?_⟩
        · simp only [List.map_cons, List.mem_cons] at hp
          rcases hp with rfl | hp
          · exact hk
          · exact q1 p hp
        · simp only [List.map_cons]
          rw [← q2, e]
  obtain ⟨q1, q2⟩ := key xs vs hx hall
  exact ⟨q1, congrArg (fun l => Value.func (.func f) #[] l.toArray) q2⟩
theorem loadF_inv {ty : TypeId} {f : HT → HV → HV} (h : loadF Pr D ty = .f f) : ∃ n b, sizeT Pr ty = some n ∧ aggT Pr ty = some b ∧ f = load D b n := by
  unfold loadF at h
  split at h
  · rename_i n b h1 h2
    injection h with h
    exact ⟨n, b, h1, h2, h.symm⟩
  · cases h
theorem loadF_not {ty : TypeId} {f : HV → HV} (h : loadF Pr D ty = .p f) : False := by
  unfold loadF at h
  split at h <;> cases h

/-! ### One operation -/
/-- Only reckoned, or read. -/
def light (o : FOp) : Bool := match kdF o with
  | .pure => true
  | .read => true
  | _ => false
/-- A value, the world as it was. -/
def OpV (Pr : Program) (D gl : Nat) (reg : List Nat) (o : Oper) (t : L) (f : F) (h : HT) (c : Nat) (v : HV) : Prop :=
  ∀ (a : Act) (w : World) (g : Gm), Opr gl reg g c t f a.eval o.op → HOk D g h c w → ∃ u, (execOp a.eval o).run Pr w = .ok (.value u) w ∧ TRep g c v u
def Good (Pr : Program) (D gl : Nat) (reg : List Nat) (cl : Cl) (o : Oper) (t : L) (s : S) (k : K) (fo : FOp) : Prop :=
  ∃ v h' c', v ≠ .dead ∧ exec cl fo k t s = k (putT (dstP gl o.dst) v t) ⟨putF (dstP gl o.dst) v s.f, h', c'⟩ ∧ OpW Pr D gl reg o t s.f s.h s.c v h' c' ∧ (light fo = true → v = valO fo t s.f s.h ∧ h' = s.h ∧ c' = s.c ∧ OpV Pr D gl reg o t s.f s.h s.c v)

theorem good_pure {fo : FOp} {why : Nat} (he : exec cl fo k t s = fin why (dstP gl o.dst) (valO fo t s.f s.h) k t s) (h : ∀ w, exec cl fo k t s ≠ .x w)
    (hok : valO fo t s.f s.h ≠ .dead → ∀ (a : Act) (w : World) (g : Gm), Opr gl reg g s.c t s.f a.eval o.op → HOk D g s.h s.c w → ∃ u, (execOp a.eval o).run Pr w = .ok (.value u) w ∧ TRep g s.c (valO fo t s.f s.h) u) :
    Good Pr D gl reg cl o t s k fo := by
  rw [he] at h
  obtain ⟨h1, h2⟩ := fin_some h
  exact ⟨_, s.h, s.c, h1, he.trans h2, OpW.pure (hok h1), fun _ => ⟨rfl, rfl, rfl, hok h1⟩⟩
theorem good_eff {fo : FOp} {r : CR} (he : exec cl fo k t s = finC (dstP gl o.dst) r k t s) (hl : light fo = false) (h : ∀ w, exec cl fo k t s ≠ .x w)
    (hok : ∀ v h' c', r = .ok v h' c' → ∀ (a : Act) (w : World) (g : Gm), Opr gl reg g s.c t s.f a.eval o.op → HOk D g s.h s.c w → ∃ r : Result Value, Eff D g s.h s.c w r v h' c' ∧ ∀ u w', r = .ok u w' → (execOp a.eval o).run Pr w = .ok (.value u) w') :
    Good Pr D gl reg cl o t s k fo := by
  rw [he] at h
  obtain ⟨v, h', c', hr, hd', h2⟩ := finC_some h
  exact ⟨v, h', c', hd', he.trans h2, OpW.eff (hok v h' c' hr), fun e => by rw [hl] at e; cases e⟩

theorem v_run {x : Sem Value} {u : Value} {w w' : World} (h : x.run Pr w = .ok u w') : (do pure (Next.value (← x)) : Sem Next).run Pr w = .ok (.value u) w' := by
  simp [h]

/-- convert, by its table -/
theorem convF_ok {src dst : TypeId} {x : HV} {v : Value} {h : HT} (hi : HOk D g h c w) (hx : TRep g c x v) :
    (∀ f, convF Pr D src dst = .p f → f x ≠ .dead → ∃ u, (convert src dst v).run Pr w = .ok u w ∧ TRep g c (f x) u) ∧
    (∀ f, convF Pr D src dst = .f f → f h x ≠ .dead → ∃ u, (convert src dst v).run Pr w = .ok u w ∧ TRep g c (f h x) u) := by
  unfold convF
  split
  · rename_i d0 k h0 h1
    exact ⟨fun f hf hl => by injection hf with hf; subst hf; exact toInt_ok h0 h1 hx hl, fun f hf => by cases hf⟩
  · rename_i d0 k h0 h1
    exact ⟨fun f hf hl => by injection hf with hf; subst hf; exact toFlt_ok h0 h1 hx hl, fun f hf => by cases hf⟩
  · rename_i h0 h1
    exact ⟨fun f hf hl => by injection hf with hf; subst hf; exact idStr_ok h0 h1 hx hl, fun f hf => by cases hf⟩
  · rename_i e h0 h1
    split
    · rename_i he
      refine ⟨fun f hf => by (first | cases hf | (split at hf <;> cases hf)), fun f hf hl => ?_⟩
      injection hf with hf; subst hf
      obtain ⟨u, h2, h3⟩ := toStr_ok (Pr := Pr) hi hx hl
      refine ⟨u, ?_, TRep.of_val h3⟩
      have hu : Pr.underlying e = some (.int .u8) := by
        unfold isU8 at he
        split at he
        · assumption
        · cases he
      unfold toStr at hl
      cases x <;> try exact absurd rfl hl
      · have e1 : v = .slice none 0 0 := hx
        subst e1
        simp [convert, run_underlying h0, run_underlying h1, run_underlying hu, h2]
      · obtain ⟨_, A, m, e1, _⟩ := hx
        subst e1
        simp [convert, run_underlying h0, run_underlying h1, run_underlying hu, h2]
    · exact ⟨fun f hf => (by cases hf), fun f hf => (by cases hf)⟩
  · exact ⟨fun f hf => (by cases hf), fun f hf => (by cases hf)⟩
end
end
end Go.FM

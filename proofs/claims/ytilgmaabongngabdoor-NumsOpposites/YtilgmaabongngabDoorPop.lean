/- Bits that are counted by sums within bytes: as many as there are; the lowest bit; how long a number is. -/
import Derived.Test.YtilgmaabongngabDoorMath
namespace Go.Proofs.YtilgmaabongngabDoor
namespace Nums

/-- a byte, n times -/
def rep (m : Nat) : Nat → Nat
  | 0 => 0
  | n + 1 => m + 256 * rep m n
theorem and_split (b y m K : Nat) (hb : b < 256) (hm : m < 256) : (b + 256 * y) &&& (m + 256 * K) = (b &&& m) + 256 * (y &&& K) := by
  have h1 : ((b + 256 * y) &&& (m + 256 * K)) % 2 ^ 8 = (b &&& m) % 2 ^ 8 := by
    rw [Nat.and_mod_two_pow, Nat.and_mod_two_pow, show (b + 256 * y) % 2 ^ 8 = b % 2 ^ 8 by omega, show (m + 256 * K) % 2 ^ 8 = m % 2 ^ 8 by omega]
  have h2 : ((b + 256 * y) &&& (m + 256 * K)) / 2 ^ 8 = y &&& K := by
    rw [Nat.and_div_two_pow, show (b + 256 * y) / 2 ^ 8 = y by omega, show (m + 256 * K) / 2 ^ 8 = K by omega]
  have h3 : (b &&& m) < 2 ^ 8 := Nat.and_lt_two_pow b (by omega)
  omega
theorem byte_all (p : Nat → Bool) (h : (List.range 256).all p = true) (c : Nat) (h1 : c < 256) : p c = true := by
  rw [List.all_eq_true] at h
  exact h _ (List.mem_range.2 h1)
def t1 (b : Nat) : Nat := (b / 2 &&& 85) + (b &&& 85)
def t2 (b : Nat) : Nat := (b / 4 &&& 51) + (b &&& 51)
def t3 (b : Nat) : Nat := (b / 16 + b) &&& 15
def s1 (n x : Nat) : Nat := (x / 2 &&& rep 85 n) + (x &&& rep 85 n)
def s2 (n x : Nat) : Nat := (x / 4 &&& rep 51 n) + (x &&& rep 51 n)
def s3 (n x : Nat) : Nat := (x / 16 + x) &&& rep 15 n
theorem half_byte (b y : Nat) (hb : b < 256) : ((b / 2 + 128 * (y % 2)) &&& 85) = (b / 2 &&& 85) := by
  rcases Nat.mod_two_eq_zero_or_one y with h | h
  · rw [h, Nat.mul_zero, Nat.add_zero]
  · rw [h]
    have := byte_all (fun b => ((b / 2 + 128 * 1) &&& 85) == (b / 2 &&& 85)) (by decide +kernel) b hb
    simpa using this
theorem quarter_byte (b y : Nat) (hb : b < 256) : ((b / 4 + 64 * (y % 4)) &&& 51) = (b / 4 &&& 51) := by
  have := byte_all (fun b => (List.range 4).all fun r => ((b / 4 + 64 * r) &&& 51) == (b / 4 &&& 51)) (by decide +kernel) b hb
  rw [List.all_eq_true] at this
  simpa using this _ (List.mem_range.2 (Nat.mod_lt y (by decide)))
theorem nibble_byte (b r : Nat) (hb : b ≤ 68) (hr : r ≤ 4) : ((b / 16 + 16 * r + b) &&& 15) = t3 b ∧ b / 16 + 16 * r + b < 256 := by
  refine ⟨?_, by omega⟩
  have := byte_all (fun b => decide (b ≤ 68 → (List.range 5).all (fun r => ((b / 16 + 16 * r + b) &&& 15) == t3 b) = true)) (by decide +kernel) b (by omega)
  have h2 := of_decide_eq_true this hb
  rw [List.all_eq_true] at h2
  simpa using h2 _ (List.mem_range.2 (by omega : r < 5))
theorem s1_step (n b y : Nat) (hb : b < 256) : s1 (n + 1) (b + 256 * y) = t1 b + 256 * s1 n y := by
  unfold s1 t1
  have e : (b + 256 * y) / 2 = (b / 2 + 128 * (y % 2)) + 256 * (y / 2) := by omega
  rw [e, show rep 85 (n + 1) = 85 + 256 * rep 85 n from rfl, and_split _ _ _ _ (by omega) (by omega), and_split _ _ _ _ hb (by omega), half_byte b y hb]
  omega
theorem s2_step (n b y : Nat) (hb : b < 256) : s2 (n + 1) (b + 256 * y) = t2 b + 256 * s2 n y := by
  unfold s2 t2
  have e : (b + 256 * y) / 4 = (b / 4 + 64 * (y % 4)) + 256 * (y / 4) := by omega
  rw [e, show rep 51 (n + 1) = 51 + 256 * rep 51 n from rfl, and_split _ _ _ _ (by omega) (by omega), and_split _ _ _ _ hb (by omega), quarter_byte b y hb]
  omega
theorem s3_step (n b y : Nat) (hb : b ≤ 68) (hy : y % 16 ≤ 4) : s3 (n + 1) (b + 256 * y) = t3 b + 256 * s3 n y := by
  unfold s3
  have e : (b + 256 * y) / 16 + (b + 256 * y) = (b / 16 + 16 * (y % 16) + b) + 256 * (y / 16 + y) := by omega
  have h := nibble_byte b (y % 16) hb hy
  rw [e, show rep 15 (n + 1) = 15 + 256 * rep 15 n from rfl, and_split _ _ _ _ h.2 (by omega), h.1]
theorem t1_lt (b : Nat) (hb : b < 256) : t1 b < 256 := by
  have := byte_all (fun b => decide (t1 b < 256)) (by decide +kernel) b hb
  simpa using this
theorem t2_bd (b : Nat) (hb : b < 256) : t2 (t1 b) ≤ 68 ∧ t2 (t1 b) % 16 ≤ 4 := by
  have := byte_all (fun b => decide (t2 (t1 b) ≤ 68 ∧ t2 (t1 b) % 16 ≤ 4)) (by decide +kernel) b hb
  exact of_decide_eq_true this
theorem t3_pop (b : Nat) (hb : b < 256) : t3 (t2 (t1 b)) = pop 8 (b : Int) := by
  have := byte_all (fun b => t3 (t2 (t1 b)) == pop 8 (b : Int)) (by decide +kernel) b hb
  simpa using this
/-- the bytes' counts, put together again -/
def sums : Nat → Nat → Nat
  | 0, _ => 0
  | n + 1, x => pop 8 ((x % 256 : Nat) : Int) + 256 * sums n (x / 256)
theorem low_step (n : Nat) : ∀ x, s2 n (s1 n x) % 16 ≤ 4 := by
  intro x
  cases n with
  | zero => show (x / 2 &&& 0) + (x &&& 0) |> fun z => ((z / 4 &&& 0) + (z &&& 0)) % 16 ≤ 4; simp
  | succ n =>
    have hx : x = x % 256 + 256 * (x / 256) := by omega
    rw [hx, s1_step n _ _ (by omega), s2_step n _ _ (t1_lt _ (by omega))]
    have := t2_bd (x % 256) (by omega)
    omega
theorem sums_eq (n : Nat) : ∀ x, s3 n (s2 n (s1 n x)) = sums n x := by
  induction n with
  | zero => intro x; unfold s3; show _ &&& 0 = 0; simp
  | succ n ih =>
    intro x
    have hx : x = x % 256 + 256 * (x / 256) := by omega
    conv => lhs; rw [hx]
    rw [s1_step n _ _ (by omega), s2_step n _ _ (t1_lt _ (by omega)), s3_step n _ _ (t2_bd _ (by omega)).1 (low_step n _), ih, t3_pop _ (by omega)]
    rfl
theorem pop_split (n : Nat) : ∀ (k : Nat) (a : Int), pop (k + n) a = pop k a + pop n (a / 2 ^ k) := by
  intro k
  induction k with
  | zero => intro a; rw [Nat.zero_add, Int.pow_zero, Int.ediv_one]; show _ = 0 + _; omega
  | succ k ih =>
    intro a
    rw [show k + 1 + n = (k + n) + 1 by omega]
    show (a % 2).toNat + pop (k + n) (a / 2) = (a % 2).toNat + pop k (a / 2) + _
    rw [ih (a / 2), Int.ediv_ediv_of_nonneg (by decide), show (2 : Int) * 2 ^ k = 2 ^ (k + 1) by rw [Int.pow_succ, Int.mul_comm]]
    omega
theorem pop_low (k : Nat) : ∀ (j x : Nat), pop k ((x % 2 ^ (k + j) : Nat) : Int) = pop k (x : Int) := by
  induction k with
  | zero => intro j x; rfl
  | succ k ih =>
    intro j x
    have e : 2 ^ (k + 1 + j) = 2 * 2 ^ (k + j) := by rw [show k + 1 + j = (k + j) + 1 by omega, Nat.pow_succ, Nat.mul_comm]
    have h1 : x % 2 ^ (k + 1 + j) % 2 = x % 2 := Nat.mod_mod_of_dvd _ ⟨_, e⟩
    have h2 : x % 2 ^ (k + 1 + j) / 2 = x / 2 % 2 ^ (k + j) := by rw [e, Nat.mod_mul_right_div_self]
    show (((x % 2 ^ (k + 1 + j) : Nat) : Int) % 2).toNat + pop k (((x % 2 ^ (k + 1 + j) / 2 : Nat)) : Int) = ((x : Int) % 2).toNat + pop k ((x / 2 : Nat) : Int)
    rw [h2, ih j (x / 2)]
    generalize x % 2 ^ (k + 1 + j) = z at *
    omega
theorem pop8_low (x : Nat) : pop 8 ((x % 256 : Nat) : Int) = pop 8 (x : Int) := pop_low 8 0 x
def cnts : Nat → Nat → Nat
  | 0, _ => 0
  | n + 1, x => pop 8 ((x % 256 : Nat) : Int) + cnts n (x / 256)
theorem pop_cnts (n : Nat) : ∀ x : Nat, pop (8 * n) (x : Int) = cnts n x := by
  induction n with
  | zero => intro x; rfl
  | succ n ih =>
    intro x
    rw [show 8 * (n + 1) = 8 + 8 * n by omega, pop_split (8 * n) 8 x]
    show _ = pop 8 ((x % 256 : Nat) : Int) + cnts n (x / 256)
    rw [pop8_low, ← ih (x / 256)]
    rfl
theorem fold8 (p0 p1 p2 p3 p4 p5 p6 p7 S y1 y2 y3 : Nat) (h0 : p0 ≤ 8) (h1 : p1 ≤ 8) (h2 : p2 ≤ 8) (h3 : p3 ≤ 8) (h4 : p4 ≤ 8) (h5 : p5 ≤ 8) (h6 : p6 ≤ 8) (h7 : p7 ≤ 8)
    (hS : S = p0 + 256 * (p1 + 256 * (p2 + 256 * (p3 + 256 * (p4 + 256 * (p5 + 256 * (p6 + 256 * (p7 + 256 * 0))))))))
    (e1 : y1 = S + S / 256) (e2 : y2 = y1 + y1 / 65536) (e3 : y3 = y2 + y2 / 4294967296) :
    y3 % 128 = p0 + (p1 + (p2 + (p3 + (p4 + (p5 + (p6 + (p7 + 0))))))) ∧ y1 < 18446744073709551616 ∧ y2 < 18446744073709551616 ∧ y3 < 18446744073709551616 := by
  have d1 : S / 256 = p1 + 256 * (p2 + 256 * (p3 + 256 * (p4 + 256 * (p5 + 256 * (p6 + 256 * p7))))) := by omega
  have f1 : y1 = (p0 + p1) + 256 * ((p1 + p2) + 256 * ((p2 + p3) + 256 * ((p3 + p4) + 256 * ((p4 + p5) + 256 * ((p5 + p6) + 256 * ((p6 + p7) + 256 * p7)))))) := by omega
  clear e1 d1 hS
  obtain ⟨q0, hq0⟩ : ∃ q, q = p0 + p1 := ⟨_, rfl⟩
  obtain ⟨q1, hq1⟩ : ∃ q, q = p1 + p2 := ⟨_, rfl⟩
  obtain ⟨q2, hq2⟩ : ∃ q, q = p2 + p3 := ⟨_, rfl⟩
  obtain ⟨q3, hq3⟩ : ∃ q, q = p3 + p4 := ⟨_, rfl⟩
  obtain ⟨q4, hq4⟩ : ∃ q, q = p4 + p5 := ⟨_, rfl⟩
  obtain ⟨q5, hq5⟩ : ∃ q, q = p5 + p6 := ⟨_, rfl⟩
  obtain ⟨q6, hq6⟩ : ∃ q, q = p6 + p7 := ⟨_, rfl⟩
  rw [← hq0, ← hq1, ← hq2, ← hq3, ← hq4, ← hq5, ← hq6] at f1
  have b0 : q0 ≤ 16 := by omega
  have b1 : q1 ≤ 16 := by omega
  have b2 : q2 ≤ 16 := by omega
  have b3 : q3 ≤ 16 := by omega
  have b4 : q4 ≤ 16 := by omega
  have b5 : q5 ≤ 16 := by omega
  have b6 : q6 ≤ 16 := by omega
  have hsum : q0 + q2 + (q4 + q6) = p0 + (p1 + (p2 + (p3 + (p4 + (p5 + (p6 + (p7 + 0))))))) := by omega
  rw [← hsum]
  clear hsum hq0 hq1 hq2 hq3 hq4 hq5 hq6 h0 h1 h2 h3 h4 h5 h6
  have d2 : y1 / 65536 = q2 + 256 * (q3 + 256 * (q4 + 256 * (q5 + 256 * (q6 + 256 * p7)))) := by omega
  have f2 : y2 = (q0 + q2) + 256 * ((q1 + q3) + 256 * ((q2 + q4) + 256 * ((q3 + q5) + 256 * ((q4 + q6) + 256 * ((q5 + p7) + 256 * (q6 + 256 * p7)))))) := by omega
  have g1 : y1 < 18446744073709551616 := by omega
  clear d2 e2 f1
  have d3 : y2 / 4294967296 = (q4 + q6) + 256 * ((q5 + p7) + 256 * (q6 + 256 * p7)) := by omega
  have g2 : y2 < 18446744073709551616 := by omega
  obtain ⟨r, hr⟩ : ∃ r, r = (q1 + q3) + 256 * ((q2 + q4) + 256 * ((q3 + q5) + 256 * ((q4 + q6) + 256 * ((q5 + p7) + 256 * (q6 + 256 * p7))))) := ⟨_, rfl⟩
  rw [← hr] at f2
  have br : r ≤ 40 * 72340172838076673 := by omega
  obtain ⟨r', hr'⟩ : ∃ r', r' = (q5 + p7) + 256 * (q6 + 256 * p7) := ⟨_, rfl⟩
  rw [← hr'] at d3
  have br' : r' ≤ 40 * 65793 := by omega
  clear hr hr'
  refine ⟨?_, g1, g2, ?_⟩
  · omega
  · omega
/-- the library's counting of bits: the count -/
theorem ones_count (x S y1 y2 y3 : Nat) (hS : S = s3 8 (s2 8 (s1 8 x))) (e1 : y1 = S + S / 256) (e2 : y2 = y1 + y1 / 65536) (e3 : y3 = y2 + y2 / 4294967296) :
    y3 % 128 = pop 64 (x : Int) ∧ y1 < 18446744073709551616 ∧ y2 < 18446744073709551616 ∧ y3 < 18446744073709551616 := by
  rw [show (64 : Nat) = 8 * 8 from rfl, pop_cnts 8 x]
  rw [sums_eq] at hS
  exact fold8 _ _ _ _ _ _ _ _ S y1 y2 y3 (pop_le 8 _) (pop_le 8 _) (pop_le 8 _) (pop_le 8 _) (pop_le 8 _) (pop_le 8 _) (pop_le 8 _) (pop_le 8 _) hS e1 e2 e3
theorem rep85 : rep 85 8 = 6148914691236517205 := rfl
theorem rep51 : rep 51 8 = 3689348814741910323 := rfl
theorem rep15 : rep 15 8 = 1085102592571150095 := rfl

/-- the lowest bit that is 1 -/
theorem and_double (a b : Nat) : (2 * a) &&& (2 * b) = 2 * (a &&& b) := by
  have h1 : ((2 * a) &&& (2 * b)) % 2 ^ 1 = 0 := by
    rw [Nat.and_mod_two_pow, show (2 * a) % 2 ^ 1 = 0 by omega, Nat.zero_and]
  have h2 : ((2 * a) &&& (2 * b)) / 2 ^ 1 = a &&& b := by
    rw [Nat.and_div_two_pow, show (2 * a) / 2 ^ 1 = a by omega, show (2 * b) / 2 ^ 1 = b by omega]
  omega
theorem and_odd (a b : Nat) : (2 * a + 1) &&& (2 * b + 1) = 2 * (a &&& b) + 1 := by
  have h1 : ((2 * a + 1) &&& (2 * b + 1)) % 2 ^ 1 = 1 := by
    rw [Nat.and_mod_two_pow, show (2 * a + 1) % 2 ^ 1 = 1 by omega, show (2 * b + 1) % 2 ^ 1 = 1 by omega]; rfl
  have h2 : ((2 * a + 1) &&& (2 * b + 1)) / 2 ^ 1 = a &&& b := by
    rw [Nat.and_div_two_pow, show (2 * a + 1) / 2 ^ 1 = a by omega, show (2 * b + 1) / 2 ^ 1 = b by omega]
  omega
theorem and_mixed (a b c : Nat) (hc : c ≤ 1) : (2 * a + c) &&& (2 * b + (1 - c)) = 2 * (a &&& b) := by
  have h1 : ((2 * a + c) &&& (2 * b + (1 - c))) % 2 ^ 1 = 0 := by
    rw [Nat.and_mod_two_pow, show (2 * a + c) % 2 ^ 1 = c by omega, show (2 * b + (1 - c)) % 2 ^ 1 = 1 - c by omega]
    rcases (by omega : c = 0 ∨ c = 1) with rfl | rfl <;> rfl
  have h2 : ((2 * a + c) &&& (2 * b + (1 - c))) / 2 ^ 1 = a &&& b := by
    rw [Nat.and_div_two_pow, show (2 * a + c) / 2 ^ 1 = a by omega, show (2 * b + (1 - c)) / 2 ^ 1 = b by omega]
  omega
theorem and_compl (n : Nat) : ∀ m, m < 2 ^ n → m &&& (2 ^ n - 1 - m) = 0 := by
  induction n with
  | zero => intro m h; have : m = 0 := by omega
            subst this; rfl
  | succ n ih =>
    intro m h
    have hp : 2 ^ (n + 1) = 2 * 2 ^ n := by rw [Nat.pow_succ, Nat.mul_comm]
    have e1 : m = 2 * (m / 2) + m % 2 := by omega
    have e2 : 2 ^ (n + 1) - 1 - m = 2 * (2 ^ n - 1 - m / 2) + (1 - m % 2) := by omega
    rw [e2]
    conv => lhs; lhs; rw [e1]
    rw [and_mixed _ _ _ (by omega), ih (m / 2) (by omega)]
theorem low_bit (n : Nat) : ∀ x : Nat, 0 < x → x < 2 ^ n → x &&& (2 ^ n - x) = 2 ^ ctz n (x : Int) := by
  induction n with
  | zero => intro x h1 h2; omega
  | succ n ih =>
    intro x h1 h2
    have hp : 2 ^ (n + 1) = 2 * 2 ^ n := by rw [Nat.pow_succ, Nat.mul_comm]
    unfold ctz
    by_cases ho : x % 2 = 1
    · rw [if_pos (by omega)]
      have e1 : x = 2 * (x / 2) + 1 := by omega
      have e2 : 2 ^ (n + 1) - x = 2 * (2 ^ n - 1 - x / 2) + 1 := by omega
      rw [e2]
      conv => lhs; lhs; rw [e1]
      rw [and_odd, and_compl n (x / 2) (by omega)]
    · rw [if_neg (by omega)]
      have e1 : x = 2 * (x / 2) := by omega
      have e2 : 2 ^ (n + 1) - x = 2 * (2 ^ n - x / 2) := by omega
      rw [e2]
      conv => lhs; lhs; rw [e1]
      rw [and_double, ih (x / 2) (by omega) (by omega), Nat.pow_succ, Nat.mul_comm]
      rfl
theorem ctz_lt (n : Nat) : ∀ x : Nat, 0 < x → x < 2 ^ n → ctz n (x : Int) < n := by
  induction n with
  | zero => intro x h1 h2; omega
  | succ n ih =>
    intro x h1 h2
    have hp : 2 ^ (n + 1) = 2 * 2 ^ n := by rw [Nat.pow_succ, Nat.mul_comm]
    unfold ctz
    by_cases ho : x % 2 = 1
    · rw [if_pos (by omega)]; omega
    · rw [if_neg (by omega)]
      have := ih (x / 2) (by omega) (by omega)
      have e : ((x : Int) / 2) = ((x / 2 : Nat) : Int) := rfl
      rw [e]; omega
/-- fewer bits are as good, if a 1 lies among them -/
theorem ctz_32 (x : Nat) (h1 : 0 < x) (h2 : x < 4294967296) : ctz 64 (x : Int) = ctz 32 (x : Int) := by
  have h3 : ∀ (n k : Nat) (y : Nat), 0 < y → y < 2 ^ n → ctz (n + k) (y : Int) = ctz n (y : Int) := by
    intro n k
    induction n with
    | zero => intro y h1 h2; omega
    | succ n ih =>
      intro y h1 h2
      have hp : 2 ^ (n + 1) = 2 * 2 ^ n := by rw [Nat.pow_succ, Nat.mul_comm]
      rw [show n + 1 + k = (n + k) + 1 by omega]
      unfold ctz
      by_cases ho : y % 2 = 1
      · rw [if_pos (by omega), if_pos (by omega)]
      · rw [if_neg (by omega), if_neg (by omega)]
        have e : ((y : Int) / 2) = ((y / 2 : Nat) : Int) := rfl
        rw [e, ih (y / 2) (by omega) (by omega)]
  exact h3 32 32 x h1 (by simpa using h2)
theorem ctz_zero (n : Nat) : ctz n 0 = n := by
  induction n with
  | zero => rfl
  | succ n ih => unfold ctz; rw [if_neg (by decide)]; show ctz n 0 + 1 = _; rw [ih]
theorem pop_32 (x : Nat) (h : x < 4294967296) : pop 64 (x : Int) = pop 32 (x : Int) := by
  have e := pop_split 32 32 (x : Int)
  have h32 : ((2 : Int) ^ 32) = 4294967296 := by decide
  have hz : (x : Int) / 2 ^ 32 = 0 := Int.ediv_eq_zero_of_lt (by omega) (by rw [h32]; omega)
  have hp : ∀ n, pop n 0 = 0 := by
    intro n
    induction n with
    | zero => rfl
    | succ n ih => show 0 + pop n (0 / 2) = 0; rw [Int.zero_ediv, ih]
  rw [hz, hp] at e
  simpa using e
/-- L is how long x is -/
def IsLen (x : Int) (L : Nat) : Prop := 0 ≤ x ∧ x < 2 ^ L ∧ (L = 0 ∨ (2 : Int) ^ (L - 1) ≤ x)
theorem IsLen.up {x : Int} {L k : Nat} (h0 : 0 ≤ x) (h : IsLen (x / 2 ^ k) L) (hk : (2 : Int) ^ k ≤ x) : IsLen x (L + k) := by
  obtain ⟨h1, h2, h3⟩ := h
  have hp := pow_pos k
  have hL : 1 ≤ L := by
    rcases Nat.eq_zero_or_pos L with rfl | h
    · exfalso
      have : 1 ≤ x / 2 ^ k := (Int.le_ediv_iff_mul_le hp).2 (by omega)
      rw [Int.pow_zero] at h2
      omega
    · exact h
  refine ⟨h0, ?_, .inr ?_⟩
  · rw [Int.pow_add]; exact Int.lt_mul_of_ediv_lt hp h2
  · have h4 : (2 : Int) ^ (L - 1) ≤ x / 2 ^ k := by rcases h3 with h | h
                                                    · omega
                                                    · exact h
    rw [show L + k - 1 = (L - 1) + k by omega, Int.pow_add]
    exact (Int.le_ediv_iff_mul_le hp).1 h4
theorem clz_len (n : Nat) : ∀ (x : Int) (L : Nat), IsLen x L → L ≤ n → clz x n = n - L := by
  induction n with
  | zero => intro x L h hL; show 0 = _; omega
  | succ n ih =>
    intro x L h hL
    obtain ⟨h1, h2, h3⟩ := h
    have hp := pow_pos n
    unfold clz
    by_cases he : L = n + 1
    · subst he
      have h4 : (2 : Int) ^ n ≤ x := by rcases h3 with h | h
                                        · omega
                                        · exact h
      have h5 : x / 2 ^ n = 1 := by
        have a1 : 1 ≤ x / 2 ^ n := (Int.le_ediv_iff_mul_le hp).2 (by omega)
        have a2 : x / 2 ^ n < 2 := Int.ediv_lt_of_lt_mul hp (by rw [Int.pow_succ] at h2; omega)
        omega
      rw [h5, if_pos (by decide)]; omega
    · have h4 : x < 2 ^ n := by
        have hmono : (2 : Int) ^ L ≤ 2 ^ n := by
          have := Nat.pow_le_pow_right (n := 2) (by decide) (show L ≤ n by omega)
          exact_mod_cast this
        omega
      rw [Int.ediv_eq_zero_of_lt h1 h4, if_neg (by decide), ih x L ⟨h1, h2, h3⟩ (by omega)]
      omega
end Nums
end Go.Proofs.YtilgmaabongngabDoor

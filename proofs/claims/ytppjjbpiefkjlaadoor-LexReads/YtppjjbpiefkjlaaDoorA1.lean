/- Tokens: numbers, signs, one token, all of a text. -/
import Derived.Test.YtppjjbpiefkjlaaDoorA0
namespace Go.Proofs.YtppjjbpiefkjlaaDoor
open Go.RowKit
set_option linter.unusedVariables false
namespace Lx
/-- what digits say -/
def vlF (s : ByteArray) : Nat → Nat → Int → Int
  | 0, _, n => n
  | k + 1, i, n => vlF s k (i + 1) (n * 10 + (bt s i - 48))
def isIn (n : Int) : Bool := decide (-1073741824 ≤ n) && decide (n ≤ 1073741823)
def num (s : ByteArray) (a f : Nat) : Option (Int × Nat) :=
  if en s dg f = f ∨ (1 < en s dg f - f ∧ bt s f = 48) ∨ 10 < en s dg f - f then none
  else if isIn (if a < f then -vlF s (en s dg f - f) f 0 else vlF s (en s dg f - f) f 0) = true then some (if a < f then -vlF s (en s dg f - f) f 0 else vlF s (en s dg f - f) f 0, en s dg f) else none
/-- the same, as it is gathered where no number grows beyond -/
def pvF (s : ByteArray) (u : Int) : Nat → Nat → Int → Int
  | 0, _, n => n
  | k + 1, i, n => pvF s u k (i + 1) (if isIn n = true then n * 10 + u * (bt s i - 48) else n)
theorem pvF_out (s : ByteArray) (u : Int) : ∀ (k i : Nat) (n : Int), isIn n = false → pvF s u k i n = n
  | 0, i, n, h => rfl
  | k + 1, i, n, h => by rw [pvF, h]; exact pvF_out s u k (i + 1) n h
theorem pvF_snoc (s : ByteArray) (u : Int) : ∀ (k i : Nat) (n : Int), pvF s u (k + 1) i n = if isIn (pvF s u k i n) = true then pvF s u k i n * 10 + u * (bt s (i + k) - 48) else pvF s u k i n
  | 0, i, n => rfl
  | k + 1, i, n => by
    rw [pvF, pvF_snoc s u k (i + 1), show i + (k + 1) = i + 1 + k by omega]
    rfl
theorem vlF_snoc (s : ByteArray) : ∀ (k i : Nat) (n : Int), vlF s (k + 1) i n = vlF s k i n * 10 + (bt s (i + k) - 48)
  | 0, i, n => rfl
  | k + 1, i, n => by
    rw [vlF, vlF_snoc s k (i + 1), show i + (k + 1) = i + 1 + k by omega]
    rfl
theorem vlF_app (s : ByteArray) : ∀ (k l i : Nat) (n : Int), vlF s (k + l) i n = vlF s l (i + k) (vlF s k i n)
  | 0, l, i, n => by rw [Nat.zero_add]; rfl
  | k + 1, l, i, n => by rw [show k + 1 + l = k + l + 1 by omega, vlF, vlF_app s k l (i + 1), show i + (k + 1) = i + 1 + k by omega]; rfl
theorem dg_bd {c : Int} (h : dg c = true) : 48 ≤ c ∧ c ≤ 57 := by unfold dg at h; rw [Bool.and_eq_true, decide_eq_true_eq, decide_eq_true_eq] at h; exact h
theorem vlF_ge (s : ByteArray) : ∀ (k i : Nat) (n : Int), 0 ≤ n → (∀ j, i ≤ j → j < i + k → dg (bt s j) = true) → n ≤ vlF s k i n
  | 0, i, n, _, _ => Int.le_refl _
  | k + 1, i, n, h, hd => by
    have h1 := dg_bd (hd i (Nat.le_refl _) (by omega))
    have := vlF_ge s k (i + 1) (n * 10 + (bt s i - 48)) (by omega) (fun j h1 h2 => hd j (by omega) (by omega))
    rw [vlF]
    omega
/-- beyond a bound that digits go beyond they stay; what is within is the same -/
theorem pv_eq (s : ByteArray) (u : Int) (hu : u = 1 ∨ u = -1) : ∀ (k i : Nat) (m : Int), 0 ≤ m → (∀ j, i ≤ j → j < i + k → dg (bt s j) = true) →
    isIn (pvF s u k i (u * m)) = isIn (u * vlF s k i m) ∧ (isIn (u * vlF s k i m) = true → pvF s u k i (u * m) = u * vlF s k i m)
  | 0, i, m, _, _ => ⟨rfl, fun _ => rfl⟩
  | k + 1, i, m, h, hd => by
    have h1 := dg_bd (hd i (Nat.le_refl _) (by omega))
    cases hi : isIn (u * m) with
    | true =>
      rw [pvF, vlF, hi, if_pos rfl, show u * m * 10 + u * (bt s i - 48) = u * (m * 10 + (bt s i - 48)) by rw [Int.mul_add, Int.mul_assoc]]
      exact pv_eq s u hu k (i + 1) (m * 10 + (bt s i - 48)) (by omega) (fun j h1 h2 => hd j (by omega) (by omega))
    | false =>
      rw [pvF_out s u (k + 1) i _ hi, hi]
      have hg := vlF_ge s (k + 1) i m h hd
      have ho : isIn (u * vlF s (k + 1) i m) = false := by
        generalize vlF s (k + 1) i m = V at *
        unfold isIn at hi ⊢
        rw [Bool.and_eq_false_iff, decide_eq_false_iff_not, decide_eq_false_iff_not] at hi ⊢
        rcases hu with rfl | rfl <;> omega
      rw [ho]
      exact ⟨rfl, fun h => by cases h⟩
theorem vl_long (s : ByteArray) (k i : Nat) (hk : 10 < k) (hd : ∀ j, i ≤ j → j < i + k → dg (bt s j) = true) (h0 : bt s i ≠ 48) : 10000000000 ≤ vlF s k i 0 := by
  obtain ⟨l, rfl⟩ : ∃ l, k = 11 + l := ⟨k - 11, by omega⟩
  rw [vlF_app]
  have d : ∀ n, n < 11 → 0 ≤ bt s (i + n) - 48 := fun n hn => by have := dg_bd (hd (i + n) (by omega) (by omega)); omega
  have d0 := dg_bd (hd i (Nat.le_refl _) (by omega))
  have hv : 10000000000 ≤ vlF s 11 i 0 := by
    have e1 := d 1 (by omega); have e2 := d 2 (by omega); have e3 := d 3 (by omega); have e4 := d 4 (by omega); have e5 := d 5 (by omega)
    have e6 := d 6 (by omega); have e7 := d 7 (by omega); have e8 := d 8 (by omega); have e9 := d 9 (by omega); have e10 := d 10 (by omega)
    simp only [vlF, Nat.add_assoc, Nat.reduceAdd]
    omega
  have := vlF_ge s l (i + 11) (vlF s 11 i 0) (by omega) (fun j h1 h2 => hd j (by omega) (by omega))
  omega
/-- a number out of its digits -/
def numD (d : ByteArray) (u : Int) : Option (Int × Nat) :=
  if en d dg 0 = 0 ∨ (1 < en d dg 0 ∧ bt d 0 = 48) ∨ isIn (pvF d u (en d dg 0) 0 0) = false then none else some (pvF d u (en d dg 0) 0 0, en d dg 0)
theorem pvF_from (s : ByteArray) (f : Nat) (hf : f ≤ s.size) (u : Int) : ∀ (k i : Nat) (n : Int), pvF (s.extract f s.size) u k i n = pvF s u k (f + i) n
  | 0, i, n => rfl
  | k + 1, i, n => by rw [pvF, pvF, bt_extract s f i hf, pvF_from s f hf u k (i + 1), show f + i + 1 = f + (i + 1) by omega]
theorem num_numD (s : ByteArray) (a f : Nat) (hf : f ≤ s.size) : num s a f = (numD (s.extract f s.size) (if a < f then -1 else 1)).map fun x => (x.1, f + x.2) := by
  have hg := en_ge s dg f
  have he : en (s.extract f s.size) dg 0 = en s dg f - f := by rw [en_from s dg f 0 hf, Nat.add_zero]
  unfold numD num
  rw [he, bt_extract s f 0 hf, pvF_from s f hf, Nat.add_zero]
  obtain ⟨k, hk⟩ : ∃ k, en s dg f = f + k := ⟨en s dg f - f, by omega⟩
  have hd : ∀ j, f ≤ j → j < f + k → dg (bt s j) = true := fun j h1 h2 => en_all s dg h1 (by omega)
  rw [hk, show f + k - f = k by omega]
  obtain ⟨u, hu⟩ : ∃ u : Int, (if a < f then -1 else 1) = u := ⟨_, rfl⟩
  have hu' : u = 1 ∨ u = -1 := by rw [← hu]; split; exact .inr rfl; exact .inl rfl
  have hsg : (if a < f then -vlF s k f 0 else vlF s k f 0) = u * vlF s k f 0 := by rw [← hu]; split <;> omega
  rw [hsg, hu]
  have hp := pv_eq s u hu' k f 0 (Int.le_refl _) hd
  rw [Int.mul_zero] at hp
  by_cases h1 : k = 0
  · rw [if_pos (.inl (by omega)), if_pos (.inl h1)]; rfl
  · by_cases h2 : 1 < k ∧ bt s f = 48
    · rw [if_pos (.inr (.inl h2)), if_pos (.inr (.inl h2))]; rfl
    · by_cases h3 : 10 < k
      · rw [if_pos (.inr (.inr h3))]
        have hl := vl_long s k f h3 hd (fun e => h2 ⟨by omega, e⟩)
        have ho : isIn (u * vlF s k f 0) = false := by
          unfold isIn
          rw [Bool.and_eq_false_iff, decide_eq_false_iff_not, decide_eq_false_iff_not]
          rcases hu' with rfl | rfl <;> omega
        rw [if_pos (.inr (.inr (hp.1.trans ho)))]; rfl
      · rw [if_neg (by omega)]
        cases hi : isIn (u * vlF s k f 0) with
        | true =>
          rw [if_pos rfl, if_neg (fun h => by rcases h with h | h | h; exact h1 h; exact h2 h; rw [hp.1, hi] at h; cases h), hp.2 hi]; rfl
        | false =>
          rw [if_neg (by decide), if_pos (.inr (.inr (hp.1.trans hi)))]; rfl
def keys : List ByteArray := [⟨#[116, 121, 112, 101]⟩, ⟨#[102, 117, 110]⟩, ⟨#[108, 101, 116]⟩, ⟨#[114, 101, 99]⟩, ⟨#[105, 110]⟩, ⟨#[99, 97, 115, 101]⟩, ⟨#[111, 102]⟩, ⟨#[101, 110, 100]⟩, ⟨#[105, 102]⟩, ⟨#[116, 104, 101, 110]⟩, ⟨#[101, 108, 115, 101]⟩, ⟨#[112, 114, 105, 110, 116]⟩]
def sgn2 : List ByteArray := [⟨#[45, 62]⟩, ⟨#[61, 61]⟩]
def sgn1 : List ByteArray := [⟨#[124]⟩, ⟨#[61]⟩, ⟨#[40]⟩, ⟨#[41]⟩, ⟨#[59]⟩, ⟨#[43]⟩, ⟨#[45]⟩, ⟨#[42]⟩, ⟨#[47]⟩, ⟨#[37]⟩, ⟨#[60]⟩, ⟨#[95]⟩]
def signs : List ByteArray := sgn2 ++ sgn1
/-- is a text among others? -/
def amg (s : ByteArray) : List ByteArray → Bool
  | [] => false
  | x :: l => if x = s then true else amg s l
theorem amg_app (s : ByteArray) : ∀ (l m : List ByteArray), amg s (l ++ m) = (amg s l || amg s m)
  | [], m => rfl
  | x :: l, m => by
    rw [List.cons_append, amg, amg, amg_app s l m]
    split <;> rfl
theorem amg_size (s : ByteArray) (n : Nat) (h : s.size ≠ n) : ∀ (l : List ByteArray), (∀ x ∈ l, x.size = n) → amg s l = false
  | [], _ => rfl
  | x :: l, hl => by
    rw [amg, if_neg (fun e => h (by rw [← e]; exact hl x (List.mem_cons_self ..)))]
    exact amg_size s n h l fun y hy => hl y (List.mem_cons_of_mem _ hy)
/-- does a text begin so? -/
def pfx (t x : ByteArray) : Bool := decide (x.size ≤ t.size) && decide (t.extract 0 x.size = x)
/-- how long the first is that a text begins with; 0: none -/
def fst (t : ByteArray) : List ByteArray → Nat
  | [] => 0
  | x :: l => if pfx t x = true then x.size else fst t l
theorem fst_of (t : ByteArray) (n : Nat) (m : List ByteArray) : ∀ (l : List ByteArray), (∀ x ∈ l, x.size = n) → fst t (l ++ m) = if n ≤ t.size ∧ amg (t.extract 0 n) l = true then n else fst t m
  | [], _ => by rw [if_neg (fun h => by cases h.2)]; rfl
  | x :: l, hl => by
    have hx := hl x (List.mem_cons_self ..)
    rw [List.cons_append, fst, fst_of t n m l fun y hy => hl y (List.mem_cons_of_mem _ hy), amg]
    unfold pfx
    rw [hx]
    by_cases h1 : n ≤ t.size
    · rw [decide_eq_true h1, Bool.true_and]
      by_cases h2 : t.extract 0 n = x
      · rw [if_pos (decide_eq_true h2), if_pos h2.symm, if_pos ⟨h1, rfl⟩]
      · rw [if_neg (fun h => h2 (of_decide_eq_true h)), if_neg (show ¬ x = t.extract 0 n from fun e => h2 e.symm)]
    · rw [decide_eq_false h1, if_neg (by simp), if_neg (fun h => h1 h.1), if_neg (fun h => h1 h.1)]
theorem sgn2_size : ∀ x ∈ sgn2, x.size = 2 := by intro x hx; simp [sgn2] at hx; rcases hx with rfl | rfl <;> rfl
theorem sgn1_size : ∀ x ∈ sgn1, x.size = 1 := by intro x hx; simp [sgn1] at hx; rcases hx with rfl | rfl | rfl | rfl | rfl | rfl | rfl | rfl | rfl | rfl | rfl | rfl <;> rfl
theorem fst_signs (t : ByteArray) : fst t signs = if 2 ≤ t.size ∧ amg (t.extract 0 2) signs = true then 2 else if 1 ≤ t.size ∧ amg (t.extract 0 1) signs = true then 1 else 0 := by
  have e1 : fst t sgn1 = if 1 ≤ t.size ∧ amg (t.extract 0 1) sgn1 = true then 1 else 0 := by
    have := fst_of t 1 [] sgn1 sgn1_size
    rw [List.append_nil] at this
    exact this
  unfold signs
  rw [fst_of t 2 sgn1 sgn2 sgn2_size, e1]
  have s2 : (2 ≤ t.size ∧ amg (t.extract 0 2) (sgn2 ++ sgn1) = true) = (2 ≤ t.size ∧ amg (t.extract 0 2) sgn2 = true) := by
    apply propext
    refine and_congr_right fun h => ?_
    rw [amg_app, amg_size (t.extract 0 2) 1 (by rw [ByteArray.size_extract]; omega) sgn1 sgn1_size, Bool.or_false]
  have s1 : (1 ≤ t.size ∧ amg (t.extract 0 1) (sgn2 ++ sgn1) = true) = (1 ≤ t.size ∧ amg (t.extract 0 1) sgn1 = true) := by
    apply propext
    refine and_congr_right fun h => ?_
    rw [amg_app, amg_size (t.extract 0 1) 2 (by rw [ByteArray.size_extract]; omega) sgn2 sgn2_size, Bool.false_or]
  simp only [s1, s2]
/-- one token at a place: its kind, text, number and the place behind; or an error -/
def one (s : ByteArray) (i : Nat) : Except Int (Int × ByteArray × Int × Nat) :=
  if sm (bt s i) = true ∨ cp (bt s i) = true then
    (if 32 < en s pt i - i then .error 2 else .ok (if cp (bt s i) = true then 2 else if amg (s.extract i (en s pt i)) keys = true then 5 else 1, s.extract i (en s pt i), 0, en s pt i))
  else if bt s i = 39 then
    (if i + 1 = s.size ∨ sm (bt s (i + 1)) = false then .error 110 else if 32 < en s pt (i + 1) - (i + 1) then .error 2 else .ok (3, s.extract (i + 1) (en s pt (i + 1)), 0, en s pt (i + 1)))
  else if bt s i = 126 ∨ dg (bt s i) = true then
    (match num s i (if bt s i = 126 then i + 1 else i) with | some (n, e) => .ok (4, ⟨#[]⟩, n, e) | none => .error 110)
  else if i + 2 ≤ s.size ∧ amg (s.extract i (i + 2)) signs = true then .ok (6, s.extract i (i + 2), 0, i + 2)
  else if i + 1 ≤ s.size ∧ amg (s.extract i (i + 1)) signs = true then .ok (6, s.extract i (i + 1), 0, i + 1)
  else .error 110
theorem pt_sm {c : Int} (h : sm c = true) : pt c = true := by unfold pt; rw [h]; rfl
theorem pt_cp {c : Int} (h : cp c = true) : pt c = true := by unfold pt; rw [h, Bool.or_true]; rfl
theorem num_end {s : ByteArray} {a f : Nat} {n : Int} {e : Nat} (hf : f ≤ s.size) (h : num s a f = some (n, e)) : f < e ∧ e ≤ s.size := by
  unfold num at h
  obtain ⟨V, hV⟩ : ∃ V, (if a < f then -vlF s (en s dg f - f) f 0 else vlF s (en s dg f - f) f 0) = V := ⟨_, rfl⟩
  rw [hV] at h
  split at h
  · cases h
  · rename_i h0
    split at h
    · injection h with h
      injection h with _ h
      have h1 := en_ge s dg f
      have h2 := en_le s dg hf
      omega
    · cases h
theorem one_end {s : ByteArray} {i : Nat} (hi : i < s.size) {k : Int} {x : ByteArray} {n : Int} {e : Nat} (h : one s i = .ok (k, x, n, e)) : i < e ∧ e ≤ s.size := by
  unfold one at h
  split at h
  · rename_i hc
    split at h
    · cases h
    · injection h with h
      injection h with _ h; injection h with _ h; injection h with _ h
      have hp : pt (bt s i) = true := by rcases hc with hc | hc; exact pt_sm hc; exact pt_cp hc
      have h1 := en_ge s pt (i + 1)
      rw [← en_on s pt hi hp] at h1
      have h2 := en_le s pt (Nat.le_of_lt hi)
      omega
  · split at h
    · split at h
      · cases h
      · rename_i hn
        split at h
        · cases h
        · injection h with h
          injection h with _ h; injection h with _ h; injection h with _ h
          have h1 := en_ge s pt (i + 1)
          have h2 := en_le s pt (show i + 1 ≤ s.size by omega)
          omega
    · split at h
      · rename_i hc
        obtain ⟨f, hf⟩ : ∃ f, (if bt s i = 126 then i + 1 else i) = f := ⟨_, rfl⟩
        have hf' : i ≤ f ∧ f ≤ s.size := by rw [← hf]; split <;> omega
        rw [hf] at h
        split at h
        · rename_i n' e' hn
          injection h with h
          injection h with _ h; injection h with _ h; injection h with _ h
          have := num_end hf'.2 hn
          omega
        · cases h
      · split at h
        · injection h with h
          injection h with _ h; injection h with _ h; injection h with _ h
          omega
        · split at h
          · injection h with h
            injection h with _ h; injection h with _ h; injection h with _ h
            omega
          · cases h
def shft (a : Nat) : Except Int (Int × ByteArray × Int × Nat) → Except Int (Int × ByteArray × Int × Nat)
  | .ok (k, x, n, e) => .ok (k, x, n, a + e)
  | .error z => .error z
theorem ext_ext (s : ByteArray) (a i j : Nat) (h : a + j ≤ s.size) : (s.extract a s.size).extract i j = s.extract (a + i) (a + j) := by
  rw [ByteArray.extract_extract]; congr 1; omega
theorem num_from (s : ByteArray) (a f : Nat) (hf : a + f ≤ s.size) : num s a (a + f) = (num (s.extract a s.size) 0 f).map fun x => (x.1, a + x.2) := by
  rw [num_numD s a (a + f) hf, num_numD (s.extract a s.size) 0 f (by rw [size_from]; omega), size_from, ext_ext s a f _ (by omega), show a + (s.size - a) = s.size by omega]
  rw [show (if a < a + f then (-1 : Int) else 1) = if 0 < f then -1 else 1 by by_cases h : 0 < f; rw [if_pos h, if_pos (by omega)]; rw [if_neg h, if_neg (by omega)]]
  cases numD (s.extract (a + f) s.size) (if 0 < f then -1 else 1) with
  | none => rfl
  | some x => simp [Nat.add_assoc]
theorem one_from (s : ByteArray) (a : Nat) (ha : a < s.size) : one s a = shft a (one (s.extract a s.size) 0) := by
  have hg := en_ge s pt a
  have hg1 := en_ge s pt (a + 1)
  have hl := en_le s pt (Nat.le_of_lt ha)
  have e0 : en (s.extract a s.size) pt 0 = en s pt a - a := by rw [en_from s pt a 0 (by omega), Nat.add_zero]
  have e1 : en (s.extract a s.size) pt (0 + 1) = en s pt (a + 1) - a := en_from s pt a 1 (by omega)
  have b0 : bt (s.extract a s.size) 0 = bt s a := bt_extract s a 0 (by omega)
  have b1 : bt (s.extract a s.size) (0 + 1) = bt s (a + 1) := bt_extract s a 1 (by omega)
  have hl1 := en_le s pt (show a + 1 ≤ s.size by omega)
  unfold one
  rw [e0, e1, b0, b1, size_from]
  by_cases h1 : sm (bt s a) = true ∨ cp (bt s a) = true
  · rw [if_pos h1, if_pos h1, show en s pt a - a - 0 = en s pt a - a by omega, ext_ext s a 0 _ (by omega), show a + (en s pt a - a) = en s pt a by omega, Nat.add_zero]
    by_cases h2 : 32 < en s pt a - a
    · rw [if_pos h2, if_pos h2]; rfl
    · rw [if_neg h2, if_neg h2]; simp only [shft]; rw [show a + (en s pt a - a) = en s pt a by omega]
  · rw [if_neg h1, if_neg h1]
    by_cases h2 : bt s a = 39
    · rw [if_pos h2, if_pos h2]
      by_cases h3 : a + 1 = s.size ∨ sm (bt s (a + 1)) = false
      · rw [if_pos h3, if_pos (by rcases h3 with h3 | h3; exact .inl (by omega); exact .inr h3)]; rfl
      · have h3' : ¬ (0 + 1 = s.size - a ∨ sm (bt s (a + 1)) = false) := fun h => h3 (by rcases h with h | h; exact .inl (by omega); exact .inr h)
        rw [if_neg h3, if_neg h3', show en s pt (a + 1) - a - (0 + 1) = en s pt (a + 1) - (a + 1) by omega, ext_ext s a (0 + 1) _ (by omega), show a + (en s pt (a + 1) - a) = en s pt (a + 1) by omega]
        by_cases h4 : 32 < en s pt (a + 1) - (a + 1)
        · rw [if_pos h4, if_pos h4]; rfl
        · rw [if_neg h4, if_neg h4]; simp only [shft, Nat.zero_add]; rw [show a + (en s pt (a + 1) - a) = en s pt (a + 1) by omega]
    · rw [if_neg h2, if_neg h2]
      by_cases h3 : bt s a = 126 ∨ dg (bt s a) = true
      · rw [if_pos h3, if_pos h3]
        obtain ⟨f, hf⟩ : ∃ f, (if bt s a = 126 then 0 + 1 else 0) = f := ⟨_, rfl⟩
        have hf1 : (if bt s a = 126 then a + 1 else a) = a + f := by rw [← hf]; split <;> omega
        rw [hf, hf1, num_from s a f (by rw [← hf]; split <;> omega)]
        cases num (s.extract a s.size) 0 f with
        | none => rfl
        | some x => rfl
      · rw [if_neg h3, if_neg h3]
        by_cases h4 : a + 2 ≤ s.size
        · rw [ext_ext s a 0 (0 + 2) (by omega), ext_ext s a 0 (0 + 1) (by omega)]
          have q2 : (a + 2 ≤ s.size) = True := eq_true h4
          have q2' : (2 ≤ s.size - a) = True := eq_true (by omega)
          have q1 : (a + 1 ≤ s.size) = True := eq_true (by omega)
          have q1' : (1 ≤ s.size - a) = True := eq_true (by omega)
          simp only [Nat.add_zero, Nat.zero_add, q2, q2', q1, q1', true_and]
          by_cases ha2 : amg (s.extract a (a + 2)) signs = true
          · rw [if_pos ha2, if_pos ha2]; rfl
          · rw [if_neg ha2, if_neg ha2]
            by_cases ha1 : amg (s.extract a (a + 1)) signs = true
            · rw [if_pos ha1, if_pos ha1]; rfl
            · rw [if_neg ha1, if_neg ha1]; rfl
        · have q0 : ¬ (0 + 2 ≤ s.size - a ∧ amg ((s.extract a s.size).extract 0 (0 + 2)) signs = true) := fun h => h4 (by have := h.1; omega)
          rw [if_neg (fun h => h4 h.1), if_neg q0, ext_ext s a 0 (0 + 1) (by omega)]
          have q1 : (a + 1 ≤ s.size) = True := eq_true (by omega)
          have q1' : (1 ≤ s.size - a) = True := eq_true (by omega)
          simp only [Nat.add_zero, Nat.zero_add, q1, q1', true_and]
          by_cases ha1 : amg (s.extract a (a + 1)) signs = true
          · rw [if_pos ha1, if_pos ha1]; rfl
          · rw [if_neg ha1, if_neg ha1]; rfl
structure Tk where
  k : Int
  x : ByteArray
  n : Int
  a : Int
/-- a text's tokens, or the first error and its place -/
def lxF (s : ByteArray) : Nat → Nat → List Tk → List Tk × Int × Int
  | 0, _, acc => (acc, 0, 0)
  | f + 1, i, acc => if i < s.size then
      (match one s i with
      | .error z => ([], (i : Int), z)
      | .ok (k, x, n, e) => if acc.length = 4096 then ([], (i : Int), 3) else lxF s f (sk s false e) (acc ++ [⟨k, x, n, i⟩])) else (acc, 0, 0)
def lx (s : ByteArray) : List Tk × Int × Int := if 8192 < s.size then ([], 0, 2) else lxF s s.size (sk s false 0) []
theorem lxF_end (s : ByteArray) (f i : Nat) (acc : List Tk) (h : ¬ i < s.size) : lxF s f i acc = (acc, 0, 0) := by
  cases f with
  | zero => rfl
  | succ f => rw [lxF, if_neg h]
theorem lxF_step (s : ByteArray) (f i : Nat) (acc : List Tk) (h : i < s.size) (hf : s.size ≤ i + f) : ∃ g, f = g + 1 ∧ lxF s f i acc = (match one s i with
      | .error z => ([], (i : Int), z)
      | .ok (k, x, n, e) => if acc.length = 4096 then ([], (i : Int), 3) else lxF s g (sk s false e) (acc ++ [⟨k, x, n, i⟩])) := by
  obtain ⟨g, rfl⟩ : ∃ g, f = g + 1 := ⟨f - 1, by omega⟩
  exact ⟨g, rfl, by rw [lxF, if_pos h]⟩
end Lx
end Go.Proofs.YtppjjbpiefkjlaaDoor

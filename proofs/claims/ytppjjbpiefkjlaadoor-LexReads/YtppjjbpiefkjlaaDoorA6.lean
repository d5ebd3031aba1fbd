/- Tokens: the document's numbers. -/
import Derived.Test.YtppjjbpiefkjlaaDoorA5
namespace Go.Proofs.YtppjjbpiefkjlaaDoor
open Go.RowKit Lx
set_option linter.unusedVariables false
namespace Lx
theorem vl_pow (s : ByteArray) (i : Nat) : ∀ (k : Nat), (∀ j, i ≤ j → j < i + k → dg (bt s j) = true) → 0 ≤ vlF s k i 0 ∧ vlF s k i 0 < 10 ^ k
  | 0, _ => ⟨Int.le_refl _, by show (0 : Int) < 10 ^ 0; decide⟩
  | k + 1, h => by
    have ih := vl_pow s i k fun j h1 h2 => h j h1 (by omega)
    have hd := dg_bd (h (i + k) (by omega) (by omega))
    rw [vlF_snoc, Int.pow_succ]
    omega
theorem vl_bd (s : ByteArray) (i k : Nat) (hk : k ≤ 10) (h : ∀ j, i ≤ j → j < i + k → dg (bt s j) = true) : 0 ≤ vlF s k i 0 ∧ vlF s k i 0 ≤ 9999999999 := by
  have := vl_pow s i k h
  have hc : k = 0 ∨ k = 1 ∨ k = 2 ∨ k = 3 ∨ k = 4 ∨ k = 5 ∨ k = 6 ∨ k = 7 ∨ k = 8 ∨ k = 9 ∨ k = 10 := by omega
  generalize vlF s k i 0 = V at *
  rcases hc with rfl | rfl | rfl | rfl | rfl | rfl | rfl | rfl | rfl | rfl | rfl <;> omega
/-- what the document's number tells -/
def NumS (s : ByteArray) (a f : Nat) (K : Int) (T : ByteArray) (N A E : Int) (ok : Bool) : Prop :=
  match num s a f with
  | some (n, e) => K = 4 ∧ T = ⟨#[]⟩ ∧ N = n ∧ A = a ∧ E = e ∧ ok = true
  | none => ok = false
theorem numS_no {s : ByteArray} {a f : Nat} (h : en s dg f = f ∨ (1 < en s dg f - f ∧ bt s f = 48) ∨ 10 < en s dg f - f) {K : Int} {T : ByteArray} {N A E : Int} : NumS s a f K T N A E false := by
  unfold NumS num; rw [if_pos h]
theorem numS_yes {s : ByteArray} {a f : Nat} (h : ¬ (en s dg f = f ∨ (1 < en s dg f - f ∧ bt s f = 48) ∨ 10 < en s dg f - f)) {V : Int} (hV : (if a < f then -vlF s (en s dg f - f) f 0 else vlF s (en s dg f - f) f 0) = V) {E : Int} (hE : E = en s dg f) : NumS s a f 4 ⟨#[]⟩ V a E (isIn V) := by
  unfold NumS num
  rw [if_neg h, hV]
  cases hi : isIn V with
  | true => rw [if_pos rfl]; exact ⟨rfl, rfl, rfl, rfl, hE, rfl⟩
  | false => rw [if_neg (by decide)]
def NumP (P : Int → ByteArray → Int → Int → Int → Bool → Prop) (e : Ending) : Prop :=
  ∃ K T N A E ok, e = .returned (.tuple #[.agg #[.int .i64 K, .string T, .int .i64 N, .int .i64 A], .int .i64 E, .bool ok]) ∧ P K T N A E ok
end Lx
set_option maxRecDepth 100000 in
set_option maxHeartbeats 8000000 in
theorem rNum (s : ByteArray) (a f : Nat) (haf : a ≤ f) (hf : f ≤ s.size) (h63 : s.size < 9223372036854775807) (w : World) :
    Calls Tryd.prog 27 #[.string s, .int .i64 a, .int .i64 f] w fun e w' => NumP (NumS s a f) e ∧ Below w.heap.size w w' := by
  obtain ⟨R, hR⟩ : ∃ R, R = en s dg f := ⟨_, rfl⟩
  have st0 := hideR hR.symm
  have HG := hideR (en_ge s dg f)
  have HL := hideR (en_le s dg hf)
  have HA := hideR (fun j h1 h2 => en_all s dg (i := f) (j := j) h1 h2)
  have HNo := hideR (@numS_no s a f)
  have HYes := hideR (@numS_yes s a f)
  rw [← hR] at HG HL HA HNo HYes
  clear hR
  generalize hP : NumS s a f = P at *
  clear hP
  have hb0 := bt_bd s f
  go_enter Tryd.func27, Tryd.ntmps27
  go_wp2_with fail
  go_loop [9] (fun x => ∃ k : Nat, x = .int .i64 k ∧ f ≤ k ∧ k ≤ s.size ∧ Hid (en s dg k = R)) (fun x => match x with | .int _ k => s.size - k.toNat | _ => 0)
  case atStart => exact ⟨f, rfl, Nat.le_refl _, hf, st0⟩
  case round =>
    obtain ⟨k, rfl, hk0, hk, hR⟩ := hrel
    clear st0
    by_cases hp : k < s.size
    · have q9 : decide ((k : Int) < (s.size : Int)) = true := decide_eq_true (by omega)
      have hy := fun (w : World) => idx_bt s k hp w (P := Tryd.prog) 9 Tryd.underlying9
      have HD := hideR (rDigit (bt s k) (w.alloc (.cells #[.int .i64 0, .string ⟨#[]⟩, .int .i64 0, .int .i64 0] 32)))
      cases hb : dg (bt s k) with
      | true =>
        have HR := hideR (hR.out.symm.trans (en_on s dg hp hb))
        have hw1 : wrap64 ((k : Int) + 1) = ((k + 1 : Nat) : Int) := by unfold wrap64; omega
        rw [hb] at HD
        generalize bt s k = c at *
        clear hb hR HNo HYes HA
        go_wp2_with fail
        refine HD.out.mono ?_
        rintro e u ⟨rfl, rfl⟩
        go_wp2
        go_round
        case rel => exact ⟨k + 1, by first | rfl | (congr 1), by omega, hp, hideR HR.out.symm⟩
        case measure => simp; omega
      | false =>
        obtain rfl : k = R := (hR.out.symm.trans (en_stop s dg hb)).symm
        rw [hb] at HD
        generalize bt s k = c at *
        clear hb hR
        obtain ⟨L, hL⟩ : ∃ L, k = f + L := ⟨k - f, by omega⟩
        have HKL := hideR hL
        have hwL : wrap64 ((k : Int) - (f : Int)) = (L : Int) := by unfold wrap64; omega
        rw [show k - f = L by omega] at HNo HYes
        by_cases z0 : k = f
        · have q0 : ((k : Int) == (f : Int)) = true := beq_iff_eq.2 (by omega)
          have HF := hideR (fun K T N A E => HNo.out (.inl z0) (K := K) (T := T) (N := N) (A := A) (E := E))
          clear z0 hL HNo HYes HA
          go_wp2_with fail
          refine HD.out.mono ?_
          rintro e u ⟨rfl, rfl⟩
          go_wp2
          refine bodyPost_ret (v := .tuple #[.agg #[.int .i64 0, .string ⟨#[]⟩, .int .i64 0, .int .i64 0], .int .i64 0, .bool false]) (by simp [results, Tryd.results27, go_sem]) rfl ⟨⟨_, _, _, _, _, _, rfl, HF.out _ _ _ _ _⟩, by first | exact (Below.refl _ _).alloc (Nat.le_refl _) _ | exact ((Below.refl _ _).alloc (Nat.le_refl _) _).setCell (Nat.le_refl _) _⟩
        · have q0 : ((k : Int) == (f : Int)) = false := beq_eq_false_iff_ne.2 (by omega)
          have hx := fun (w : World) => idx_bt s f (by omega) w (P := Tryd.prog) 9 Tryd.underlying9
          by_cases z1 : 1 < L
          · have q1 : decide ((L : Int) > 1) = true := decide_eq_true (by omega); have q1b : decide ((k : Int) - (f : Int) > 1) = true := decide_eq_true (by omega)
            by_cases z2 : bt s f = 48
            · have q2 : (bt s f == 48) = true := beq_iff_eq.2 z2
              have HF := hideR (fun K T N A E => HNo.out (.inr (.inl ⟨z1, z2⟩)) (K := K) (T := T) (N := N) (A := A) (E := E))
              generalize bt s f = c0 at *
              clear z0 z1 z2 hL HNo HYes HA
              go_wp2_with fail
              refine HD.out.mono ?_
              rintro e u ⟨rfl, rfl⟩
              go_wp2
              refine bodyPost_ret (v := .tuple #[.agg #[.int .i64 0, .string ⟨#[]⟩, .int .i64 0, .int .i64 0], .int .i64 0, .bool false]) (by simp [results, Tryd.results27, go_sem]) rfl ⟨⟨_, _, _, _, _, _, rfl, HF.out _ _ _ _ _⟩, by first | exact (Below.refl _ _).alloc (Nat.le_refl _) _ | exact ((Below.refl _ _).alloc (Nat.le_refl _) _).setCell (Nat.le_refl _) _⟩
            · have q2 : (bt s f == 48) = false := beq_eq_false_iff_ne.2 z2
              by_cases z3 : 10 < L
              · have q3 : decide ((L : Int) > 10) = true := decide_eq_true (by omega); have q3b : decide ((k : Int) - (f : Int) > 10) = true := decide_eq_true (by omega)
                have HF := hideR (fun K T N A E => HNo.out (.inr (.inr z3)) (K := K) (T := T) (N := N) (A := A) (E := E))
                generalize bt s f = c0 at *
                clear z0 z1 z2 z3 hL HNo HYes HA
                go_wp2_with fail
                refine HD.out.mono ?_
                rintro e u ⟨rfl, rfl⟩
                go_wp2
                refine bodyPost_ret (v := .tuple #[.agg #[.int .i64 0, .string ⟨#[]⟩, .int .i64 0, .int .i64 0], .int .i64 0, .bool false]) (by simp [results, Tryd.results27, go_sem]) rfl ⟨⟨_, _, _, _, _, _, rfl, HF.out _ _ _ _ _⟩, by first | exact (Below.refl _ _).alloc (Nat.le_refl _) _ | exact ((Below.refl _ _).alloc (Nat.le_refl _) _).setCell (Nat.le_refl _) _⟩
              · have q3 : decide ((L : Int) > 10) = false := decide_eq_false (by omega); have q3b : decide ((k : Int) - (f : Int) > 10) = false := decide_eq_false (by omega)
                have HY2 := hideR (fun V hV E hE => HYes.out (by rintro (h | h | h); exact z0 h; exact z2 h.2; exact z3 h) (V := V) hV (E := E) hE)
                have HL10 : Hid (L ≤ 10) := hideR (by omega)
                generalize bt s f = c0 at *
                clear z0 z1 z2 z3 hL HNo HYes
                go_wp2_with fail
                refine HD.out.mono ?_
                rintro e u ⟨rfl, rfl⟩
                go_wp2_with fail
                go_loop [10, 11] (fun x y => ∃ j p : Nat, x = .int .i64 (vlF s j f 0) ∧ y = .int .i64 p ∧ j ≤ L ∧ Hid (p = f + j)) (fun _ y => match y with | .int _ z => k - z.toNat | _ => 0)
                case atStart => exact ⟨0, f, rfl, rfl, Nat.zero_le _, hideR rfl⟩
                case round =>
                  obtain ⟨j, p, rfl, rfl, hj, hpj⟩ := hrel
                  try clear hwL hx q0 q1 q2 q1b q2b q3 q3b
                  by_cases hjl : j < L
                  · have q1n : p < k := by have := HKL.out; have := hpj.out; omega
                    have q1 : decide ((p : Int) < (k : Int)) = true := decide_eq_true (by have := HKL.out; have := hpj.out; omega)
                    have hx := fun (w : World) => idx_bt s p (by have := HKL.out; have := HL.out; have := hpj.out; omega) w (P := Tryd.prog) 9 Tryd.underlying9
                    have hw1 : wrap64 ((p : Int) + 1) = ((p + 1 : Nat) : Int) := by have := HKL.out; have := HL.out; have := hpj.out; unfold wrap64; omega
                    have hd := dg_bd (HA.out p (by have := hpj.out; omega) (by have := HKL.out; have := hpj.out; omega))
                    have hvb := vl_bd s f j (by have := HL10.out; omega) fun i h1 h2 => HA.out i h1 (by have := HKL.out; omega)
                    have hs := vlF_snoc s j f 0
                    rw [← hpj.out] at hs
                    generalize vlF s j f 0 = V at *
                    generalize bt s p = c at *
                    have hw2 : wrap64 (V * 10) = V * 10 := by unfold wrap64; omega
                    have hw3 : IntKind.u8.wrap (c - 48) = c - 48 := by rw [IntKind.wrap_u8]; omega
                    have hw3b : (c - 48) % 256 = c - 48 := by omega
                    have hw4 : wrap64 (V * 10 + (c - 48)) = vlF s (j + 1) f 0 := by rw [hs]; unfold wrap64; omega
                    obtain ⟨V', hV'⟩ : ∃ V', V' = vlF s (j + 1) f 0 := ⟨_, rfl⟩
                    rw [← hV'] at hw4
                    have HV' := hideR hV'
                    clear hV'
                    clear hd hvb hs
                    go_wp2
                    go_round
                    case rel => exact ⟨j + 1, p + 1, by rw [← HV'.out]; first | rfl | (rw [hw4]), by first | rfl | (congr 1), by omega, hideR (by have := hpj.out; omega)⟩
                    case measure => have := HKL.out; have := hpj.out; simp; omega
                  · obtain rfl : j = L := by omega
                    have q1n : ¬ p < k := by have := HKL.out; have := hpj.out; omega
                    have q1 : decide ((p : Int) < (k : Int)) = false := decide_eq_false (by have := HKL.out; have := hpj.out; omega)
                    have hvb := vl_bd s f j HL10.out fun i h1 h2 => HA.out i h1 (by have := HKL.out; omega)
                    by_cases h4 : a < f
                    · have q2 : decide ((f : Int) > (a : Int)) = true := decide_eq_true (by omega)
                      have HF := hideR (HY2.out (-vlF s j f 0) (if_pos h4) k rfl)
                      obtain ⟨N, hN⟩ : ∃ N, N = -vlF s j f 0 := ⟨_, rfl⟩
                      rw [← hN] at HF
                      have hwn : wrap64 (-vlF s j f 0) = N := by rw [hN]; unfold wrap64; omega
                      have HC := fun (w : World) => hideR (rIn N w)
                      clear hvb HY2 hN
                      generalize vlF s j f 0 = V at *
                      go_wp2_with fail
                      refine (HC _).out.mono ?_
                      rintro e u ⟨rfl, rfl⟩
                      go_wp2
                      refine bodyPost_ret (v := .tuple #[.agg #[.int .i64 4, .string ⟨#[]⟩, .int .i64 N, .int .i64 a], .int .i64 k, .bool (isIn N)]) (by simp [results, Tryd.results27, go_sem]) rfl ⟨⟨_, _, _, _, _, _, rfl, HF.out⟩, by first | exact (Below.refl _ _).alloc (Nat.le_refl _) _ | exact ((Below.refl _ _).alloc (Nat.le_refl _) _).setCell (Nat.le_refl _) _⟩
                    · have q2 : decide ((f : Int) > (a : Int)) = false := decide_eq_false (by omega)
                      have HF := hideR (HY2.out (vlF s j f 0) (if_neg h4) k rfl)
                      have HC := fun (w : World) => hideR (rIn (vlF s j f 0) w)
                      generalize vlF s j f 0 = V at *
                      clear hvb HY2
                      go_wp2_with fail
                      refine (HC _).out.mono ?_
                      rintro e u ⟨rfl, rfl⟩
                      go_wp2
                      refine bodyPost_ret (v := .tuple #[.agg #[.int .i64 4, .string ⟨#[]⟩, .int .i64 V, .int .i64 a], .int .i64 k, .bool (isIn V)]) (by simp [results, Tryd.results27, go_sem]) rfl ⟨⟨_, _, _, _, _, _, rfl, HF.out⟩, by first | exact (Below.refl _ _).alloc (Nat.le_refl _) _ | exact ((Below.refl _ _).alloc (Nat.le_refl _) _).setCell (Nat.le_refl _) _⟩
          · have q1 : decide ((L : Int) > 1) = false := decide_eq_false (by omega); have q1b : decide ((k : Int) - (f : Int) > 1) = false := decide_eq_false (by omega)
            have q2 : decide ((L : Int) > 10) = false := decide_eq_false (by omega); have q2b : decide ((k : Int) - (f : Int) > 10) = false := decide_eq_false (by omega)
            have HY2 := hideR (fun V hV E hE => HYes.out (by rintro (h | h | h); exact z0 h; exact z1 h.1; omega) (V := V) hV (E := E) hE)
            have HL10 : Hid (L ≤ 10) := hideR (by omega)
            clear z0 z1 hL HNo HYes
            go_wp2_with fail
            refine HD.out.mono ?_
            rintro e u ⟨rfl, rfl⟩
            go_wp2_with fail
            go_loop [10, 11] (fun x y => ∃ j p : Nat, x = .int .i64 (vlF s j f 0) ∧ y = .int .i64 p ∧ j ≤ L ∧ Hid (p = f + j)) (fun _ y => match y with | .int _ z => k - z.toNat | _ => 0)
            case atStart => exact ⟨0, f, rfl, rfl, Nat.zero_le _, hideR rfl⟩
            case round =>
              obtain ⟨j, p, rfl, rfl, hj, hpj⟩ := hrel
              try clear hwL hx q0 q1 q2 q1b q2b q3 q3b
              by_cases hjl : j < L
              · have q1n : p < k := by have := HKL.out; have := hpj.out; omega
                have q1 : decide ((p : Int) < (k : Int)) = true := decide_eq_true (by have := HKL.out; have := hpj.out; omega)
                have hx := fun (w : World) => idx_bt s p (by have := HKL.out; have := HL.out; have := hpj.out; omega) w (P := Tryd.prog) 9 Tryd.underlying9
                have hw1 : wrap64 ((p : Int) + 1) = ((p + 1 : Nat) : Int) := by have := HKL.out; have := HL.out; have := hpj.out; unfold wrap64; omega
                have hd := dg_bd (HA.out p (by have := hpj.out; omega) (by have := HKL.out; have := hpj.out; omega))
                have hvb := vl_bd s f j (by have := HL10.out; omega) fun i h1 h2 => HA.out i h1 (by have := HKL.out; omega)
                have hs := vlF_snoc s j f 0
                rw [← hpj.out] at hs
                generalize vlF s j f 0 = V at *
                generalize bt s p = c at *
                have hw2 : wrap64 (V * 10) = V * 10 := by unfold wrap64; omega
                have hw3 : IntKind.u8.wrap (c - 48) = c - 48 := by rw [IntKind.wrap_u8]; omega
                have hw3b : (c - 48) % 256 = c - 48 := by omega
                have hw4 : wrap64 (V * 10 + (c - 48)) = vlF s (j + 1) f 0 := by rw [hs]; unfold wrap64; omega
                obtain ⟨V', hV'⟩ : ∃ V', V' = vlF s (j + 1) f 0 := ⟨_, rfl⟩
                rw [← hV'] at hw4
                have HV' := hideR hV'
                clear hV'
                clear hd hvb hs
                go_wp2
                go_round
                case rel => exact ⟨j + 1, p + 1, by rw [← HV'.out]; first | rfl | (rw [hw4]), by first | rfl | (congr 1), by omega, hideR (by have := hpj.out; omega)⟩
                case measure => have := HKL.out; have := hpj.out; simp; omega
              · obtain rfl : j = L := by omega
                have q1n : ¬ p < k := by have := HKL.out; have := hpj.out; omega
                have q1 : decide ((p : Int) < (k : Int)) = false := decide_eq_false (by have := HKL.out; have := hpj.out; omega)
                have hvb := vl_bd s f j HL10.out fun i h1 h2 => HA.out i h1 (by have := HKL.out; omega)
                by_cases h4 : a < f
                · have q2 : decide ((f : Int) > (a : Int)) = true := decide_eq_true (by omega)
                  have HF := hideR (HY2.out (-vlF s j f 0) (if_pos h4) k rfl)
                  obtain ⟨N, hN⟩ : ∃ N, N = -vlF s j f 0 := ⟨_, rfl⟩
                  rw [← hN] at HF
                  have hwn : wrap64 (-vlF s j f 0) = N := by rw [hN]; unfold wrap64; omega
                  have HC := fun (w : World) => hideR (rIn N w)
                  clear hvb HY2 hN
                  generalize vlF s j f 0 = V at *
                  go_wp2_with fail
                  refine (HC _).out.mono ?_
                  rintro e u ⟨rfl, rfl⟩
                  go_wp2
                  refine bodyPost_ret (v := .tuple #[.agg #[.int .i64 4, .string ⟨#[]⟩, .int .i64 N, .int .i64 a], .int .i64 k, .bool (isIn N)]) (by simp [results, Tryd.results27, go_sem]) rfl ⟨⟨_, _, _, _, _, _, rfl, HF.out⟩, by first | exact (Below.refl _ _).alloc (Nat.le_refl _) _ | exact ((Below.refl _ _).alloc (Nat.le_refl _) _).setCell (Nat.le_refl _) _⟩
                · have q2 : decide ((f : Int) > (a : Int)) = false := decide_eq_false (by omega)
                  have HF := hideR (HY2.out (vlF s j f 0) (if_neg h4) k rfl)
                  have HC := fun (w : World) => hideR (rIn (vlF s j f 0) w)
                  generalize vlF s j f 0 = V at *
                  clear hvb HY2
                  go_wp2_with fail
                  refine (HC _).out.mono ?_
                  rintro e u ⟨rfl, rfl⟩
                  go_wp2
                  refine bodyPost_ret (v := .tuple #[.agg #[.int .i64 4, .string ⟨#[]⟩, .int .i64 V, .int .i64 a], .int .i64 k, .bool (isIn V)]) (by simp [results, Tryd.results27, go_sem]) rfl ⟨⟨_, _, _, _, _, _, rfl, HF.out⟩, by first | exact (Below.refl _ _).alloc (Nat.le_refl _) _ | exact ((Below.refl _ _).alloc (Nat.le_refl _) _).setCell (Nat.le_refl _) _⟩
    · have q9 : decide ((k : Int) < (s.size : Int)) = false := decide_eq_false (by omega)
      obtain rfl : k = R := (hR.out.symm.trans (en_end s dg hp)).symm
      clear hR
      obtain ⟨L, hL⟩ : ∃ L, k = f + L := ⟨k - f, by omega⟩
      have HKL := hideR hL
      have hwL : wrap64 ((k : Int) - (f : Int)) = (L : Int) := by unfold wrap64; omega
      rw [show k - f = L by omega] at HNo HYes
      by_cases z0 : k = f
      · have q0 : ((k : Int) == (f : Int)) = true := beq_iff_eq.2 (by omega)
        have HF := hideR (fun K T N A E => HNo.out (.inl z0) (K := K) (T := T) (N := N) (A := A) (E := E))
        clear z0 hL HNo HYes HA
        go_wp2
        refine bodyPost_ret (v := .tuple #[.agg #[.int .i64 0, .string ⟨#[]⟩, .int .i64 0, .int .i64 0], .int .i64 0, .bool false]) (by simp [results, Tryd.results27, go_sem]) rfl ⟨⟨_, _, _, _, _, _, rfl, HF.out _ _ _ _ _⟩, by first | exact (Below.refl _ _).alloc (Nat.le_refl _) _ | exact ((Below.refl _ _).alloc (Nat.le_refl _) _).setCell (Nat.le_refl _) _⟩
      · have q0 : ((k : Int) == (f : Int)) = false := beq_eq_false_iff_ne.2 (by omega)
        have hx := fun (w : World) => idx_bt s f (by omega) w (P := Tryd.prog) 9 Tryd.underlying9
        by_cases z1 : 1 < L
        · have q1 : decide ((L : Int) > 1) = true := decide_eq_true (by omega); have q1b : decide ((k : Int) - (f : Int) > 1) = true := decide_eq_true (by omega)
          by_cases z2 : bt s f = 48
          · have q2 : (bt s f == 48) = true := beq_iff_eq.2 z2
            have HF := hideR (fun K T N A E => HNo.out (.inr (.inl ⟨z1, z2⟩)) (K := K) (T := T) (N := N) (A := A) (E := E))
            generalize bt s f = c0 at *
            clear z0 z1 z2 hL HNo HYes HA
            go_wp2
            refine bodyPost_ret (v := .tuple #[.agg #[.int .i64 0, .string ⟨#[]⟩, .int .i64 0, .int .i64 0], .int .i64 0, .bool false]) (by simp [results, Tryd.results27, go_sem]) rfl ⟨⟨_, _, _, _, _, _, rfl, HF.out _ _ _ _ _⟩, by first | exact (Below.refl _ _).alloc (Nat.le_refl _) _ | exact ((Below.refl _ _).alloc (Nat.le_refl _) _).setCell (Nat.le_refl _) _⟩
          · have q2 : (bt s f == 48) = false := beq_eq_false_iff_ne.2 z2
            by_cases z3 : 10 < L
            · have q3 : decide ((L : Int) > 10) = true := decide_eq_true (by omega); have q3b : decide ((k : Int) - (f : Int) > 10) = true := decide_eq_true (by omega)
              have HF := hideR (fun K T N A E => HNo.out (.inr (.inr z3)) (K := K) (T := T) (N := N) (A := A) (E := E))
              generalize bt s f = c0 at *
              clear z0 z1 z2 z3 hL HNo HYes HA
              go_wp2
              refine bodyPost_ret (v := .tuple #[.agg #[.int .i64 0, .string ⟨#[]⟩, .int .i64 0, .int .i64 0], .int .i64 0, .bool false]) (by simp [results, Tryd.results27, go_sem]) rfl ⟨⟨_, _, _, _, _, _, rfl, HF.out _ _ _ _ _⟩, by first | exact (Below.refl _ _).alloc (Nat.le_refl _) _ | exact ((Below.refl _ _).alloc (Nat.le_refl _) _).setCell (Nat.le_refl _) _⟩
            · have q3 : decide ((L : Int) > 10) = false := decide_eq_false (by omega); have q3b : decide ((k : Int) - (f : Int) > 10) = false := decide_eq_false (by omega)
              have HY2 := hideR (fun V hV E hE => HYes.out (by rintro (h | h | h); exact z0 h; exact z2 h.2; exact z3 h) (V := V) hV (E := E) hE)
              have HL10 : Hid (L ≤ 10) := hideR (by omega)
              generalize bt s f = c0 at *
              clear z0 z1 z2 z3 hL HNo HYes
              go_wp2_with fail
              go_loop [10, 11] (fun x y => ∃ j p : Nat, x = .int .i64 (vlF s j f 0) ∧ y = .int .i64 p ∧ j ≤ L ∧ Hid (p = f + j)) (fun _ y => match y with | .int _ z => k - z.toNat | _ => 0)
              case atStart => exact ⟨0, f, rfl, rfl, Nat.zero_le _, hideR rfl⟩
              case round =>
                obtain ⟨j, p, rfl, rfl, hj, hpj⟩ := hrel
                try clear hwL hx q0 q1 q2 q1b q2b q3 q3b
                by_cases hjl : j < L
                · have q1n : p < k := by have := HKL.out; have := hpj.out; omega
                  have q1 : decide ((p : Int) < (k : Int)) = true := decide_eq_true (by have := HKL.out; have := hpj.out; omega)
                  have hx := fun (w : World) => idx_bt s p (by have := HKL.out; have := HL.out; have := hpj.out; omega) w (P := Tryd.prog) 9 Tryd.underlying9
                  have hw1 : wrap64 ((p : Int) + 1) = ((p + 1 : Nat) : Int) := by have := HKL.out; have := HL.out; have := hpj.out; unfold wrap64; omega
                  have hd := dg_bd (HA.out p (by have := hpj.out; omega) (by have := HKL.out; have := hpj.out; omega))
                  have hvb := vl_bd s f j (by have := HL10.out; omega) fun i h1 h2 => HA.out i h1 (by have := HKL.out; omega)
                  have hs := vlF_snoc s j f 0
                  rw [← hpj.out] at hs
                  generalize vlF s j f 0 = V at *
                  generalize bt s p = c at *
                  have hw2 : wrap64 (V * 10) = V * 10 := by unfold wrap64; omega
                  have hw3 : IntKind.u8.wrap (c - 48) = c - 48 := by rw [IntKind.wrap_u8]; omega
                  have hw3b : (c - 48) % 256 = c - 48 := by omega
                  have hw4 : wrap64 (V * 10 + (c - 48)) = vlF s (j + 1) f 0 := by rw [hs]; unfold wrap64; omega
                  obtain ⟨V', hV'⟩ : ∃ V', V' = vlF s (j + 1) f 0 := ⟨_, rfl⟩
                  rw [← hV'] at hw4
                  have HV' := hideR hV'
                  clear hV'
                  clear hd hvb hs
                  go_wp2
                  go_round
                  case rel => exact ⟨j + 1, p + 1, by rw [← HV'.out]; first | rfl | (rw [hw4]), by first | rfl | (congr 1), by omega, hideR (by have := hpj.out; omega)⟩
                  case measure => have := HKL.out; have := hpj.out; simp; omega
                · obtain rfl : j = L := by omega
                  have q1n : ¬ p < k := by have := HKL.out; have := hpj.out; omega
                  have q1 : decide ((p : Int) < (k : Int)) = false := decide_eq_false (by have := HKL.out; have := hpj.out; omega)
                  have hvb := vl_bd s f j HL10.out fun i h1 h2 => HA.out i h1 (by have := HKL.out; omega)
                  by_cases h4 : a < f
                  · have q2 : decide ((f : Int) > (a : Int)) = true := decide_eq_true (by omega)
                    have HF := hideR (HY2.out (-vlF s j f 0) (if_pos h4) k rfl)
                    obtain ⟨N, hN⟩ : ∃ N, N = -vlF s j f 0 := ⟨_, rfl⟩
                    rw [← hN] at HF
                    have hwn : wrap64 (-vlF s j f 0) = N := by rw [hN]; unfold wrap64; omega
                    have HC := fun (w : World) => hideR (rIn N w)
                    clear hvb HY2 hN
                    generalize vlF s j f 0 = V at *
                    go_wp2_with fail
                    refine (HC _).out.mono ?_
                    rintro e u ⟨rfl, rfl⟩
                    go_wp2
                    refine bodyPost_ret (v := .tuple #[.agg #[.int .i64 4, .string ⟨#[]⟩, .int .i64 N, .int .i64 a], .int .i64 k, .bool (isIn N)]) (by simp [results, Tryd.results27, go_sem]) rfl ⟨⟨_, _, _, _, _, _, rfl, HF.out⟩, by first | exact (Below.refl _ _).alloc (Nat.le_refl _) _ | exact ((Below.refl _ _).alloc (Nat.le_refl _) _).setCell (Nat.le_refl _) _⟩
                  · have q2 : decide ((f : Int) > (a : Int)) = false := decide_eq_false (by omega)
                    have HF := hideR (HY2.out (vlF s j f 0) (if_neg h4) k rfl)
                    have HC := fun (w : World) => hideR (rIn (vlF s j f 0) w)
                    generalize vlF s j f 0 = V at *
                    clear hvb HY2
                    go_wp2_with fail
                    refine (HC _).out.mono ?_
                    rintro e u ⟨rfl, rfl⟩
                    go_wp2
                    refine bodyPost_ret (v := .tuple #[.agg #[.int .i64 4, .string ⟨#[]⟩, .int .i64 V, .int .i64 a], .int .i64 k, .bool (isIn V)]) (by simp [results, Tryd.results27, go_sem]) rfl ⟨⟨_, _, _, _, _, _, rfl, HF.out⟩, by first | exact (Below.refl _ _).alloc (Nat.le_refl _) _ | exact ((Below.refl _ _).alloc (Nat.le_refl _) _).setCell (Nat.le_refl _) _⟩
        · have q1 : decide ((L : Int) > 1) = false := decide_eq_false (by omega); have q1b : decide ((k : Int) - (f : Int) > 1) = false := decide_eq_false (by omega)
          have q2 : decide ((L : Int) > 10) = false := decide_eq_false (by omega); have q2b : decide ((k : Int) - (f : Int) > 10) = false := decide_eq_false (by omega)
          have HY2 := hideR (fun V hV E hE => HYes.out (by rintro (h | h | h); exact z0 h; exact z1 h.1; omega) (V := V) hV (E := E) hE)
          have HL10 : Hid (L ≤ 10) := hideR (by omega)
          clear z0 z1 hL HNo HYes
          go_wp2_with fail
          go_loop [10, 11] (fun x y => ∃ j p : Nat, x = .int .i64 (vlF s j f 0) ∧ y = .int .i64 p ∧ j ≤ L ∧ Hid (p = f + j)) (fun _ y => match y with | .int _ z => k - z.toNat | _ => 0)
          case atStart => exact ⟨0, f, rfl, rfl, Nat.zero_le _, hideR rfl⟩
          case round =>
            obtain ⟨j, p, rfl, rfl, hj, hpj⟩ := hrel
            try clear hwL hx q0 q1 q2 q1b q2b q3 q3b
            by_cases hjl : j < L
            · have q1n : p < k := by have := HKL.out; have := hpj.out; omega
              have q1 : decide ((p : Int) < (k : Int)) = true := decide_eq_true (by have := HKL.out; have := hpj.out; omega)
              have hx := fun (w : World) => idx_bt s p (by have := HKL.out; have := HL.out; have := hpj.out; omega) w (P := Tryd.prog) 9 Tryd.underlying9
              have hw1 : wrap64 ((p : Int) + 1) = ((p + 1 : Nat) : Int) := by have := HKL.out; have := HL.out; have := hpj.out; unfold wrap64; omega
              have hd := dg_bd (HA.out p (by have := hpj.out; omega) (by have := HKL.out; have := hpj.out; omega))
              have hvb := vl_bd s f j (by have := HL10.out; omega) fun i h1 h2 => HA.out i h1 (by have := HKL.out; omega)
              have hs := vlF_snoc s j f 0
              rw [← hpj.out] at hs
              generalize vlF s j f 0 = V at *
              generalize bt s p = c at *
              have hw2 : wrap64 (V * 10) = V * 10 := by unfold wrap64; omega
              have hw3 : IntKind.u8.wrap (c - 48) = c - 48 := by rw [IntKind.wrap_u8]; omega
              have hw3b : (c - 48) % 256 = c - 48 := by omega
              have hw4 : wrap64 (V * 10 + (c - 48)) = vlF s (j + 1) f 0 := by rw [hs]; unfold wrap64; omega
              obtain ⟨V', hV'⟩ : ∃ V', V' = vlF s (j + 1) f 0 := ⟨_, rfl⟩
              rw [← hV'] at hw4
              have HV' := hideR hV'
              clear hV'
              clear hd hvb hs
              go_wp2
              go_round
              case rel => exact ⟨j + 1, p + 1, by rw [← HV'.out]; first | rfl | (rw [hw4]), by first | rfl | (congr 1), by omega, hideR (by have := hpj.out; omega)⟩
              case measure => have := HKL.out; have := hpj.out; simp; omega
            · obtain rfl : j = L := by omega
              have q1n : ¬ p < k := by have := HKL.out; have := hpj.out; omega
              have q1 : decide ((p : Int) < (k : Int)) = false := decide_eq_false (by have := HKL.out; have := hpj.out; omega)
              have hvb := vl_bd s f j HL10.out fun i h1 h2 => HA.out i h1 (by have := HKL.out; omega)
              by_cases h4 : a < f
              · have q2 : decide ((f : Int) > (a : Int)) = true := decide_eq_true (by omega)
                have HF := hideR (HY2.out (-vlF s j f 0) (if_pos h4) k rfl)
                obtain ⟨N, hN⟩ : ∃ N, N = -vlF s j f 0 := ⟨_, rfl⟩
                rw [← hN] at HF
                have hwn : wrap64 (-vlF s j f 0) = N := by rw [hN]; unfold wrap64; omega
                have HC := fun (w : World) => hideR (rIn N w)
                clear hvb HY2 hN
                generalize vlF s j f 0 = V at *
                go_wp2_with fail
                refine (HC _).out.mono ?_
                rintro e u ⟨rfl, rfl⟩
                go_wp2
                refine bodyPost_ret (v := .tuple #[.agg #[.int .i64 4, .string ⟨#[]⟩, .int .i64 N, .int .i64 a], .int .i64 k, .bool (isIn N)]) (by simp [results, Tryd.results27, go_sem]) rfl ⟨⟨_, _, _, _, _, _, rfl, HF.out⟩, by first | exact (Below.refl _ _).alloc (Nat.le_refl _) _ | exact ((Below.refl _ _).alloc (Nat.le_refl _) _).setCell (Nat.le_refl _) _⟩
              · have q2 : decide ((f : Int) > (a : Int)) = false := decide_eq_false (by omega)
                have HF := hideR (HY2.out (vlF s j f 0) (if_neg h4) k rfl)
                have HC := fun (w : World) => hideR (rIn (vlF s j f 0) w)
                generalize vlF s j f 0 = V at *
                clear hvb HY2
                go_wp2_with fail
                refine (HC _).out.mono ?_
                rintro e u ⟨rfl, rfl⟩
                go_wp2
                refine bodyPost_ret (v := .tuple #[.agg #[.int .i64 4, .string ⟨#[]⟩, .int .i64 V, .int .i64 a], .int .i64 k, .bool (isIn V)]) (by simp [results, Tryd.results27, go_sem]) rfl ⟨⟨_, _, _, _, _, _, rfl, HF.out⟩, by first | exact (Below.refl _ _).alloc (Nat.le_refl _) _ | exact ((Below.refl _ _).alloc (Nat.le_refl _) _).setCell (Nat.le_refl _) _⟩
end Go.Proofs.YtppjjbpiefkjlaaDoor

/- Tokens as a text: the document's Int. -/
import Derived.Test.YtagoajoaojakhaaDoorTX4
import Derived.Test.YtagoajoaojakhaaDoorG0
import Derived.Lib.ConvBytes
import Derived.Laws.BytesArg
import Derived.Deep.CutRange
namespace Go.Proofs.YtagoajoaojakhaaDoor
open Go.RowKit Lx
set_option linter.unusedVariables false
namespace Lx
theorem wi48 {u : Nat} (h : u < 10) : wrap64 (48 + (u : Int)) = 48 + (u : Int) ∧ IntKind.u8.wrap (48 + (u : Int)) = 48 + (u : Int) := by
  refine ⟨by unfold wrap64; omega, ?_⟩
  rw [IntKind.wrap_u8]; omega
theorem conv1 (b : Nat) (d : Nat) (w : World) (hc : w.cell? ⟨b, 0, none⟩ = some (.int .u8 (48 + (d : Int)))) : (convert 37 9 (.slice (some ⟨b, 0, none⟩) 1 1)).run Tryd.prog w = .ok (.string ⟨#[UInt8.ofNat (48 + d)]⟩) w := by
  have e : strOfNums [48 + (d : Int)] = ⟨#[UInt8.ofNat (48 + d)]⟩ := by
    have : (48 + (d : Int)).toNat = 48 + d := by omega
    simp [strOfNums, this]
  rw [← e]
  exact run_convert_bytes_arg w 37 5 Tryd.underlying37 Tryd.underlying5 b 0 1 1 [48 + (d : Int)] rfl (fun i hi => by
      match i, hi with
      | 0, _ => exact hc) 9 Tryd.underlying9
theorem nb (w : World) (x : Value) (t : TypeId) : Below w.heap.size w (w.alloc (.cells #[x] t)) ∧ (w.alloc (.cells #[x] t)).cell? ⟨w.heap.size, 0, none⟩ = some x := ⟨(Below.refl _ w).alloc (Nat.le_refl _) _, by rw [World.cell?_alloc_at _ t _ _ rfl]; rfl⟩
def iG (u q r d : Int) (S1 S2 S3 : ByteArray) (i : Nat) (v : Value) (w : World) : Prop := match i with
  | 0 => v = .int .i64 u
  | 1 => v = .int .i64 q
  | 2 => v = .string S1
  | 3 => v = .int .i64 u
  | 4 => v = .int .i64 r
  | 5 => v = .int .i64 d
  | 6 => v = .int .u8 d
  | 7 => ∃ b, v = .slice (some ⟨b, 0, none⟩) 1 1 ∧ w.cell? ⟨b, 0, none⟩ = some (.int .u8 d)
  | 8 => v = .string S2
  | _ => v = .string S3
theorem iG_on {u q r d : Int} {S1 S2 S3 : ByteArray} {i : Nat} {v : Value} {w w' : World} (h : iG u q r d S1 S2 S3 i v w) (hb : Below w.heap.size w w') : iG u q r d S1 S2 S3 i v w' := by
  unfold iG at h ⊢
  split at h <;> first | exact h | (obtain ⟨b, h1, h2⟩ := h; exact ⟨b, h1, Rep.cell_on hb h2⟩)
theorem dd_cat {u : Nat} (h : ¬ u < 10) : (⟨(Lib.decDigits (u / 10)).toArray⟩ ++ ⟨#[UInt8.ofNat (48 + u % 10)]⟩ : ByteArray) = ⟨(Lib.decDigits u).toArray⟩ := by
  rw [dd_big h]
  apply ByteArray.ext
  apply Array.ext'
  simp [ByteArray.data_append]
theorem quo10 (u : Nat) (hu : u ≤ 1073741824) : IntKind.i64.wrap ((u : Int) / 10) = ((u / 10 : Nat) : Int) ∧ (u : Int).tmod 10 = ((u % 10 : Nat) : Int) ∧ IntKind.i64.wrap (48 + ((u % 10 : Nat) : Int)) = 48 + ((u % 10 : Nat) : Int) := by
  rw [IntKind.wrap_i64, IntKind.wrap_i64, Int.tmod_eq_emod_of_nonneg (by omega)]
  omega
end Lx
set_option maxRecDepth 100000 in
set_option maxHeartbeats 4000000 in
theorem rIntS (u : Nat) (h : u < 10) (w : World) : Calls Tryd.prog 18 #[.int .i64 u] w fun e w' => e = .returned (.string ⟨(Lib.decDigits u).toArray⟩) ∧ Below w.heap.size w w' := by
  have q1 : decide ((u : Int) < 0) = false := decide_eq_false (by omega)
  have q2 : decide ((u : Int) < 10) = true := decide_eq_true (by omega)
  obtain ⟨hw1, hw2⟩ := wi48 h
  obtain ⟨hb, hc⟩ := nb w (.int .u8 (48 + (u : Int))) 5
  have hcv := conv1 w.heap.size u _ hc
  rw [dd_small h]
  obtain ⟨D, hD⟩ : ∃ D, UInt8.ofNat (48 + u) = D := ⟨_, rfl⟩
  rw [hD] at hcv ⊢
  clear hD
  have HB := hideR hb
  clear h hb hc
  go_enter Tryd.func18, Tryd.ntmps18
  go_wp2
  go_ret
  exact ⟨rfl, HB.out⟩
set_option maxRecDepth 100000 in
set_option maxHeartbeats 8000000 in
theorem rIntB (u : Nat) (h : ¬ u < 10) (hu : u ≤ 1073741824) (IH : ∀ w : World, Calls Tryd.prog 18 #[.int .i64 ((u / 10 : Nat) : Int)] w fun e w' => e = .returned (.string ⟨(Lib.decDigits (u / 10)).toArray⟩) ∧ Below w.heap.size w w') (w : World) :
    Calls Tryd.prog 18 #[.int .i64 u] w fun e w' => e = .returned (.string ⟨(Lib.decDigits u).toArray⟩) ∧ Below w.heap.size w w' := by
  have q1 : decide ((u : Int) < 0) = false := decide_eq_false (by omega)
  have q2 : decide ((u : Int) < 10) = false := decide_eq_false (by omega)
  have q2n : ¬ u < 10 := h
  obtain ⟨hw1, hw2, hw3⟩ := quo10 u hu
  have hw4 := (wi48 (show u % 10 < 10 by omega)).2
  have HIH := hideR IH
  have hC := dd_cat h
  have hl := dd_len 9 (u / 10) (by omega)
  have hL : ¬ 9223372036854775807 < (⟨(Lib.decDigits (u / 10)).toArray⟩ : ByteArray).size + (⟨#[UInt8.ofNat (48 + u % 10)]⟩ : ByteArray).size := by rw [size_list]; show ¬ _ < _ + 1; omega
  have HCV := hideR (fun (b : Nat) (w : World) hc => conv1 b (u % 10) w hc)
  generalize (⟨(Lib.decDigits (u / 10)).toArray⟩ : ByteArray) = S1 at *
  generalize (⟨#[UInt8.ofNat (48 + u % 10)]⟩ : ByteArray) = S2 at *
  generalize (⟨(Lib.decDigits u).toArray⟩ : ByteArray) = S3 at *
  generalize ((u % 10 : Nat) : Int) = r at *
  generalize ((u / 10 : Nat) : Int) = q at *
  obtain ⟨d, hd0⟩ : ∃ d, 48 + r = d := ⟨_, rfl⟩
  rw [hd0] at hw3 hw4 HCV
  clear IH h hl hu
  go_enter Tryd.func18, Tryd.ntmps18
  go_upto_region 5 with fail
  refine Reg.wp_region_all 11 (fun i => if i < 10 then 16 + i else 2) (iG u q r d S1 S2 S3) (by kernel_rfl) (by kernel_rfl) (fun i j h1 h2 h => by have h' : (if i < 10 then 16 + i else 2) = (if j < 10 then 16 + j else 2) := h; split at h' <;> split at h' <;> omega) (Reg.dst_okG (size := 26) (by kernel_rfl)) (fun i v w w' _ h hb => iG_on h hb) ?hstep ?hend
  case hstep =>
    intro i o a w2 hi ho hF hB hd
    have f0 : a.tmps[0]?.getD undef = .int .i64 (u : Int) := Reg.ev_get (hF.eval 0 (fun i hi => by show (if i < 10 then 16 + i else 2) ≠ 0; split <;> omega))
    have hcase : i = 0 ∨ i = 1 ∨ i = 2 ∨ i = 3 ∨ i = 4 ∨ i = 5 ∨ i = 6 ∨ i = 7 ∨ i = 8 ∨ i = 9 ∨ i = 10 := by clear hw1 hw2 hw3 hw4 hd0; omega
    clear hi
    rcases hcase with rfl | rfl | rfl | rfl | rfl | rfl | rfl | rfl | rfl | rfl | rfl
    all_goals (simp only [List.getElem?_toArray, List.getElem?_cons_succ, List.getElem?_cons_zero, Option.some.injEq] at ho; subst ho; refine Reg.Does.go rfl (Reg.step_k fun K hK => ?_))
    · go_simp
      exact hK _ _ ⟨_, rfl, Below.refl _ _, rfl⟩
    · have g0 : a.tmps[16]?.getD undef = .int .i64 (u : Int) := Reg.ev_get (hd 0 (by decide))
      go_simp
      exact hK _ _ ⟨_, rfl, Below.refl _ _, rfl⟩
    · have g0 : a.tmps[17]?.getD undef = .int .i64 q := Reg.ev_get (hd 1 (by decide))
      have HKK := hideR hK
      clear hK
      go_simp
      refine (HIH.out _).mono ?_
      rintro e w3 ⟨rfl, hb3⟩
      exact HKK.out _ _ ⟨_, rfl, hb3, rfl⟩
    · go_simp
      exact hK _ _ ⟨_, rfl, Below.refl _ _, rfl⟩
    · have g0 : a.tmps[19]?.getD undef = .int .i64 (u : Int) := Reg.ev_get (hd 3 (by decide))
      go_simp
      exact hK _ _ ⟨_, rfl, Below.refl _ _, by first | rfl | (simp only [iG, hw2])⟩
    · have g0 : a.tmps[20]?.getD undef = .int .i64 r := Reg.ev_get (hd 4 (by decide))
      go_simp
      exact hK _ _ ⟨_, rfl, Below.refl _ _, rfl⟩
    · have g0 : a.tmps[21]?.getD undef = .int .i64 d := Reg.ev_get (hd 5 (by decide))
      go_simp
      exact hK _ _ ⟨_, rfl, Below.refl _ _, rfl⟩
    · have g0 : a.tmps[22]?.getD undef = .int .u8 d := Reg.ev_get (hd 6 (by decide))
      have HN := hideR (nb w2 (.int .u8 d) 5)
      go_simp
      exact hK _ _ ⟨_, rfl, HN.out.1, ⟨_, rfl, HN.out.2⟩⟩
    · obtain ⟨b, g0', hc⟩ := hd 7 (by decide)
      have g0 : a.tmps[23]?.getD undef = .slice (some ⟨b, 0, none⟩) 1 1 := Reg.ev_get g0'
      have hcv := HCV.out b w2 hc
      go_simp
      exact hK _ _ ⟨_, rfl, Below.refl _ _, rfl⟩
    · have g0 : a.tmps[18]?.getD undef = .string S1 := Reg.ev_get (hd 2 (by decide))
      have g1 : a.tmps[24]?.getD undef = .string S2 := Reg.ev_get (hd 8 (by decide))
      go_simp
      exact hK _ _ ⟨_, rfl, Below.refl _ _, by first | rfl | (simp only [iG, hC])⟩
    · have g0 : a.tmps[25]?.getD undef = .string S3 := Reg.ev_get (hd 9 (by decide))
      go_simp
      exact hK _ _ ⟨_, rfl, Below.refl _ _, rfl⟩
  case hend =>
    intro a w2 hF hB hG
    have gl : a.eval (.tmp 2) = .string S3 := hG 10 (by decide)
    have HB := hideR hB
    go_wp2_with fail
    refine bodyPost_ret (v := .string S3) ((results_tmp rfl _ _ _).trans (congrArg (fun v => Result.ok v w2) gl)) hF.defers ⟨rfl, HB.out⟩
theorem rIntP : ∀ (m u : Nat), u ≤ m → u ≤ 1073741824 → ∀ w : World, Calls Tryd.prog 18 #[.int .i64 u] w fun e w' => e = .returned (.string ⟨(Lib.decDigits u).toArray⟩) ∧ Below w.heap.size w w'
  | m, u, hm, hu, w => by
    by_cases h : u < 10
    · exact rIntS u h w
    · match m, hm with
      | 0, hm => omega
      | m + 1, hm => exact rIntB u h hu (fun w => rIntP m (u / 10) (by omega) (by omega) w) w
set_option maxRecDepth 100000 in
set_option maxHeartbeats 4000000 in
theorem rInt (n : Int) (hn : isIn n = true) (w : World) : Calls Tryd.prog 18 #[.int .i64 n] w fun e w' => e = .returned (.string (itx n)) ∧ Below w.heap.size w w' := by
  unfold isIn at hn
  rw [Bool.and_eq_true, decide_eq_true_eq, decide_eq_true_eq] at hn
  unfold itx
  by_cases h : n < 0
  · rw [itx_neg h]
    have q1 : decide (n < 0) = true := decide_eq_true h
    have hw : wrap64 (-n) = ((n.natAbs : Nat) : Int) := by unfold wrap64; omega
    have hw2 : IntKind.i64.wrap (-n) = ((n.natAbs : Nat) : Int) := by rw [IntKind.wrap_i64]; omega
    have H := hideR (rIntP n.natAbs n.natAbs (Nat.le_refl _) (by omega) w)
    have hc : (⟨#[126]⟩ ++ ⟨(Lib.decDigits n.natAbs).toArray⟩ : ByteArray) = ⟨(126 :: Lib.decDigits n.natAbs).toArray⟩ := by
      apply ByteArray.ext; apply Array.ext'; simp [ByteArray.data_append]
    have hl := dd_len 9 n.natAbs (by omega)
    have hL : ¬ 9223372036854775807 < 1 + (⟨(Lib.decDigits n.natAbs).toArray⟩ : ByteArray).size := by rw [size_list]; omega
    rw [← hc]
    generalize (⟨(Lib.decDigits n.natAbs).toArray⟩ : ByteArray) = S at *
    generalize ((n.natAbs : Nat) : Int) = m at *
    clear hc hl hn
    go_enter Tryd.func18, Tryd.ntmps18
    go_wp2_with fail
    refine Calls.mono (show Calls _ _ _ _ _ from H.out) ?_
    rintro e u ⟨rfl, hb⟩
    have HB := hideR hb
    clear hb
    go_wp2
    go_ret
    exact ⟨rfl, HB.out⟩
  · rw [itx_pos h]
    have e : n = ((n.toNat : Nat) : Int) := by omega
    have := rIntP n.toNat n.toNat (Nat.le_refl _) (by omega) w
    rw [← e] at this
    exact this
end Go.Proofs.YtagoajoaojakhaaDoor

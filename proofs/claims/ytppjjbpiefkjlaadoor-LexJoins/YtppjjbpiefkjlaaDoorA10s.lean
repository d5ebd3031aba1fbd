/- Tokens: the program's first token: signs, and the whole. -/
import Derived.Test.YtppjjbpiefkjlaaDoorA10
namespace Go.Proofs.YtppjjbpiefkjlaaDoor
open Go.RowKit Lx
set_option linter.unusedVariables false
set_option maxRecDepth 100000 in
set_option maxHeartbeats 8000000 in
theorem pFirstSign (s : ByteArray) (hi : 0 < s.size) (h63 : s.size < 4611686018427387904) (hz : s.size ≤ 281474976710656) (w : World) (hWL : WL w) (hsm : sm (bt s 0) = false) (hcp : cp (bt s 0) = false) (h39 : bt s 0 ≠ 39) (h126 : bt s 0 ≠ 126) (hdg : dg (bt s 0) = false) : Calls Tryd.prog 11 #[.string s] w fun e w' => e = .returned (oOut 0 (one s 0)) ∧ Below w.heap.size w w' := by
  have hx := fun (w : World) => idx0 s hi w (P := Tryd.prog) 9 Tryd.underlying9
  have hc0 := bt_bd s 0
  have HDg := fun (u : World) => hideR (pDigit (bt s 0) u)
  have HSm := fun (u : World) => hideR (pSmall (bt s 0) u)
  have HCp := fun (u : World) => hideR (pCapital (bt s 0) u)
  have hcv : IntKind.i32.wrap (bt s 0) = bt s 0 := by rw [IntKind.wrap_i32]; omega
  have hcv2 : wrap32 (bt s 0) = bt s 0 := by unfold wrap32; omega
  have hwsz := wA_size w
  have q126 : (bt s 0 == 126) = false := beq_eq_false_iff_ne.2 h126
  have q39 : (bt s 0 == 39) = false := beq_eq_false_iff_ne.2 h39
  simp only [hdg] at HDg
  simp only [hsm] at HSm
  simp only [hcp] at HCp
  have hone := oneS s hi hsm hcp h39 h126 hdg
  obtain ⟨R, hR⟩ : ∃ R, R = fst s signs := ⟨_, rfl⟩
  rw [← hR] at hone
  have st0 : Hid (fst s (signs.drop 0) = R) := hideR hR.symm
  obtain ⟨KS, hKS⟩ : ∃ KS : List Value, KS = signs.map Value.string := ⟨_, rfl⟩
  have HKS : Hid (∀ k y, signs[k]? = some y → KS[k]? = some (Value.string y)) := hideR (fun k y h => by rw [hKS, List.getElem?_map, h]; rfl)
  have hKl : KS.length = 14 := by rw [hKS, List.length_map, signs_len]
  have HSZ : Hid ((Tryd.prog.info? 44).map (·.size) = some KS.length) := hideR (by rw [hKl]; exact sizeSs)
  have HRA : Hid ((wA w).rangeAt 1 0 KS) := hideR (by rw [hKS]; exact (hWL.on (wA_below w)).signs)
  have HRB : Hid ((w.alloc (.cells #[.int .i64 0, .string ⟨#[]⟩, .int .i64 0, .int .i64 0] 32)).rangeAt 1 0 KS) := HRA
  have HHas := fun (y : ByteArray) (u : World) => hideR (pHas s y u)
  rw [hone]
  have HOy : Hid (R ≠ 0 → oOut 0 (if R = 0 then .error 110 else .ok (6, s.extract 0 R, 0, R)) = .tuple #[.agg #[.int .i64 6, .string (s.extract 0 R), .int .i64 0, .int .i64 0], .int .i64 (R : Nat), .int .i64 0]) := hideR fun h => by rw [if_neg h]; rfl
  have HOn : Hid (R = 0 → oOut 0 (if R = 0 then .error 110 else .ok (6, s.extract 0 R, 0, R)) = .tuple #[.agg #[.int .i64 0, .string ⟨#[]⟩, .int .i64 0, .int .i64 0], .int .i64 0, .int .i64 110]) := hideR fun h => by rw [if_pos h]; rfl
  generalize oOut 0 (if R = 0 then .error 110 else .ok (6, s.extract 0 R, 0, R)) = OUT at HOy HOn ⊢
  clear hKS hKl hWL hR hone h39 h126 hc0
  generalize bt s 0 = c at *
  go_enter Tryd.func11, Tryd.ntmps11
  go_wp2_with fail
  go_step3
  go_wp2_with fail
  go_step3
  go_wp2_with fail
  refine Calls.mono (show Calls _ _ _ _ _ from (HDg _).out) ?_
  rintro e u ⟨rfl, rfl⟩
  go_wp2_with fail
  refine Calls.mono (show Calls _ _ _ _ _ from (HSm _).out) ?_
  rintro e u ⟨rfl, rfl⟩
  go_wp2_with fail
  refine Calls.mono (show Calls _ _ _ _ _ from (HCp _).out) ?_
  rintro e u ⟨rfl, rfl⟩
  go_wp2_with (refine wpList_load_mid rfl 44 (.global 1) rfl 1 0 rfl KS _ HRB.out Tryd.underlying44 rfl HSZ.out ?_)
  go_loop [5, 7, 17] (fun k0 l0 a => k0 = .int .i64 0 ∧ l0 = .int .i64 0 ∧ ∃ k : Nat, a = .int .i64 k ∧ k ≤ 14 ∧ Hid (fst s (signs.drop k) = R)) (fun _ _ a => match a with | .int _ k => 14 - k.toNat | _ => 0)
  case atStart => exact ⟨rfl, rfl, 0, rfl, by omega, st0⟩
  case round =>
    obtain ⟨rfl, rfl, k, rfl, hk, hRk⟩ := hrel
    clear st0
    by_cases hp : k < 14
    · obtain ⟨q3, hw1⟩ := aI k hp
      obtain ⟨y, hy⟩ : ∃ y, signs[k]? = some y := ⟨_, List.getElem?_eq_getElem (by rw [signs_len]; exact hp)⟩
      have hidx := fun (u : World) => idx_signs KS k y (HKS.out k y hy) hp u
      have hs := fst_at s signs k y hy
      rw [hRk.out] at hs
      have hys := signs_size y (List.mem_of_getElem? hy)
      have HP := fun (u : World) => HHas y u
      cases h : pfx s y with
      | true =>
        rw [h, if_pos rfl] at hs
        have hyz := pfx_size h
        simp only [h] at HP
        obtain ⟨hR0, hyR, q1, hwE, hRs, hR32⟩ := aH R y.size s.size hs hys hyz
        have HO := hideR (HOy.out hR0)
        clear HOy HOn HHas hR0
        have HCl := fun (u : World) => hideR (pClone (s.extract 0 R) u (Nat.le_trans (ext_sz s 0 R) hz))
        obtain ⟨x, hx1⟩ : ∃ x, x = s.extract 0 R := ⟨_, rfl⟩
        have hsl : s.extract 0 R = x := hx1.symm
        simp only [← hx1] at HCl HO
        clear hs hy h hRk hys hyz hx1
        go_wp2_with fail
        refine Calls.mono (show Calls _ _ _ _ _ from (HP _).out) ?_
        rintro e u ⟨rfl, rfl⟩
        go_wp2_with fail
        refine (HCl _).out.mono ?_
        rintro e uc ⟨rfl, hbc⟩
        have A9 := (An.start w).on hbc
        clear hbc
        obtain ⟨W2, hW2, hth, z5, z6, z7, z8, hbl⟩ := (A9).put (.int .i64 6) (.string x) (.int .i64 0) (.int .i64 0)
        have HW2 := hideR hW2; have HTH := hideR hth; have HBL := hideR hbl; clear hW2 hth hbl
        clear A9
        go_wp2_with (refine wpList_store_mid rfl 32 (.tmp 2) (.tmp 88) rfl w.heap.size 0 #[.int .i64 6, .string x, .int .i64 0, .int .i64 0] rfl rfl HTH.out sizeTk (by simp [Value.oneCell']) ?_; rw [HW2.out])
        first | (show Exit.noGoto (bodyPost _ _ _) _ _ _; rw [Exit.noGoto_ret]) | skip
        refine bodyPost_ret (v := .tuple #[.agg #[.int .i64 6, .string x, .int .i64 0, .int .i64 0], .int .i64 (R : Nat), .int .i64 0]) (by simp [results, Tryd.results11, go_sem, z5, z6, z7, z8]) rfl ⟨congrArg _ HO.out.symm, HBL.out⟩
      | false =>
        rw [h, if_neg (by decide)] at hs
        simp only [h] at HP
        have HS := hideR hs
        clear hs hy h hRk HOy HOn HHas hys
        go_wp2_with fail
        refine Calls.mono (show Calls _ _ _ _ _ from (HP _).out) ?_
        rintro e u ⟨rfl, rfl⟩
        go_wp2
        go_round
        case rel => exact ⟨rfl, rfl, k + 1, by first | rfl | (congr 1), by omega, hideR HS.out.symm⟩
        case measure => simp; omega
    · have q3 : decide ((k : Int) < 14) = false := decide_eq_false (by omega)
      have hs : R = 0 := by rw [← hRk.out, List.drop_eq_nil_of_le (show signs.length ≤ k by rw [signs_len]; omega)]; rfl
      have HO := hideR (HOn.out hs)
      clear hRk hs HOy HOn HHas
      go_wp2
      first | (show Exit.noGoto (bodyPost _ _ _) _ _ _; rw [Exit.noGoto_ret]) | skip
      refine bodyPost_ret (v := .tuple #[.agg #[.int .i64 0, .string ⟨#[]⟩, .int .i64 0, .int .i64 0], .int .i64 0, .int .i64 110]) (by simp [results, Tryd.results11, go_sem]) rfl ⟨congrArg _ HO.out.symm, wA_below w⟩
theorem pFirst (s : ByteArray) (hi : 0 < s.size) (h63 : s.size < 4611686018427387904) (hz : s.size ≤ 281474976710656) (w : World) (hWL : WL w) : Calls Tryd.prog 11 #[.string s] w fun e w' => e = .returned (oOut 0 (one s 0)) ∧ Below w.heap.size w w' := by
  cases h1 : sm (bt s 0) with
  | true => exact pFirstLow s hi h63 hz w hWL h1
  | false =>
    cases h2 : cp (bt s 0) with
    | true => exact pFirstUp s hi h63 hz w hWL h2
    | false =>
      by_cases h3 : bt s 0 = 39
      · exact pFirstVar s hi h63 hz w hWL h3
      · by_cases h4 : bt s 0 = 126
        · exact pFirstNumT s hi h63 hz w hWL h4
        · cases h5 : dg (bt s 0) with
          | true => exact pFirstNumN s hi h63 hz w hWL h5
          | false => exact pFirstSign s hi h63 hz w hWL h1 h2 h3 h4 h5
end Go.Proofs.YtppjjbpiefkjlaaDoor

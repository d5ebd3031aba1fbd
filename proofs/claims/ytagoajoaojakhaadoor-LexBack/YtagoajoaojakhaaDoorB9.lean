/- Tokens: blanks put ahead of them: the whole text. -/
import Derived.Test.YtagoajoaojakhaaDoorB8
namespace Go.Proofs.YtagoajoaojakhaaDoor
open Go.RowKit
set_option linter.unusedVariables false
namespace Lx
theorem ext_size (s : ByteArray) {i j : Nat} (h : i ≤ j) (hj : j ≤ s.size) : (s.extract i j).size = j - i := by rw [ByteArray.size_extract]; omega
theorem ext_ij (s : ByteArray) (i j a b : Nat) (hb : i + b ≤ j) : (s.extract i j).extract a b = s.extract (i + a) (i + b) := by
  rw [ByteArray.extract_extract]; congr 1; omega
theorem app_ext (x y : ByteArray) (a b : Nat) (h : b ≤ x.size) : (x ++ y).extract a b = x.extract a b := by
  rw [ByteArray.extract_append, ba_nil (y := y.extract (a - x.size) (b - x.size)) (by rw [ByteArray.size_extract]; omega)]
  simp
theorem app_end (x y : ByteArray) : (x ++ y).extract x.size (x ++ y).size = y := by
  rw [ByteArray.extract_append, ByteArray.size_append, ba_nil (y := x.extract x.size (x.size + y.size)) (by rw [ByteArray.size_extract]; omega), Nat.sub_self, Nat.add_sub_cancel_left]
  simp
theorem sub_app (x y : ByteArray) : Sub x.size y (x ++ y) := ⟨by simp, app_end x y⟩
theorem lxs_nil {u : ByteArray} (h : u.size = 0) : Lxs u [] := by unfold Lxs; rw [h]; rfl
theorem spt_lx {s b : ByteArray} (hb : ∀ a, a < b.size → bl (bt b a) = true) : ∀ (L : List Tk) (i : Nat) (t0 : Tk), i < s.size → lxF s s.size i [] = (t0 :: L, 0, 0) → L.length + 1 ≤ 4096 →
    ∃ K, Lxs (spt s b i L) K ∧ Lk (t0 :: L) K ∧ 0 < (spt s b i L).size ∧ bt (spt s b i L) 0 = bt s i ∧ t0.a = i
  | [], i, t0, hi, h, hl => by
    obtain ⟨k, x, n, e, L', ho, hL, hr⟩ := lx_head hi (by omega) h
    injection hL with h1 h2
    subst h1; subst h2
    have he := one_end hi ho
    have hge := sk_ge s false e
    have hle := sk_le s false he.2
    have hj : sk s false e = s.size := by
      rcases Nat.lt_or_ge (sk s false e) s.size with hl' | hl'
      · obtain ⟨_, _, _, _, _, _, hx, _⟩ := lx_head hl' (by omega) hr; cases hx
      · omega
    have hsu : Sub i (s.extract i s.size) s := ⟨by rw [size_from]; omega, rfl⟩
    have hus : (s.extract i s.size).size = s.size - i := size_from s i
    have hof := one_from s i hi
    rw [ho] at hof
    have hou : one (s.extract i s.size) 0 = .ok (k, x, n, e - i) := by
      cases hq : one (s.extract i s.size) 0 with
      | error z => rw [hq] at hof; cases hof
      | ok r =>
        obtain ⟨k', x', n', e'⟩ := r
        rw [hq] at hof
        simp only [shft] at hof
        injection hof with hof
        injection hof with a1 hof; injection hof with a2 hof; injection hof with a3 a4
        rw [a1, a2, a3, a4, Nat.add_sub_cancel_left]
    have hsk := sub_sk hsu false (i := e - i) (by rw [hus]; omega)
    rw [show i + (e - i) = e by omega, hj] at hsk
    have hb0 : bt (s.extract i s.size) 0 = bt s i := by rw [bt_extract s i 0 (by omega)]; rfl
    refine ⟨[⟨k, x, n, 0⟩], ?_, ⟨rfl, rfl, rfl, trivial⟩, by show 0 < (s.extract i s.size).size; omega, hb0, rfl⟩
    have hR : ((s.extract i s.size).extract (s.extract i s.size).size (s.extract i s.size).size).size = 0 := by rw [size_from]; omega
    exact lxs_cons (m := (s.extract i s.size).size) (by omega) hou (by omega) ⟨by rw [hR]; rfl, rfl⟩ (lxs_nil hR) (by decide)
  | t1 :: L, i, t0, hi, h, hl => by
    obtain ⟨k, x, n, e, L', ho, hL, hr⟩ := lx_head hi (by omega) h
    injection hL with h1 h2
    subst h1; subst h2
    have he := one_end hi ho
    have hge := sk_ge s false e
    have hle := sk_le s false he.2
    obtain ⟨j, hj⟩ : ∃ j, sk s false e = j := ⟨_, rfl⟩
    have hjs : j < s.size := by
      rcases Nat.lt_or_ge (sk s false e) s.size with hl' | hl'
      · omega
      · rw [lxF_end s _ _ _ (by omega)] at hr; cases hr
    have hat := sk_at (s := s) s.size false e (by omega) (by omega)
    rw [hj] at hr hge hle hat
    obtain ⟨K, hK1, hK2, hK3, hK4, hK5⟩ := spt_lx hb L j t1 hjs hr (by simp at hl; omega)
    have hta : t1.a.toNat = j := by rw [hK5]; exact Int.toNat_natCast j
    have hU : spt s b i (t1 :: L) = s.extract i j ++ b ++ spt s b j L := by rw [spt, hta]
    rw [hU]
    generalize spt s b j L = R at *
    have hps : (s.extract i j).size = j - i := ext_size s (by omega) hle
    obtain ⟨m, hm⟩ : ∃ m, m = j - i + b.size := ⟨_, rfl⟩
    have hxs : (s.extract i j ++ b).size = m := by rw [ByteArray.size_append, hps, hm]
    have hUs : (s.extract i j ++ b ++ R).size = m + R.size := by rw [ByteArray.size_append, hxs]
    have hbp : ∀ a, a < j - i → bt (s.extract i j ++ b ++ R) a = bt s (i + a) := fun a ha => by
      rw [bt_app, if_pos (by omega), bt_app, if_pos (by omega), bt_ext s i j a (by omega) hle]
    have hbb : ∀ a, a < b.size → bt (s.extract i j ++ b ++ R) (j - i + a) = bt b a := fun a ha => by
      rw [bt_app, if_pos (by omega), bt_app, if_neg (by omega), hps, Nat.add_sub_cancel_left]
    have hbm : bt (s.extract i j ++ b ++ R) m = bt s j := by
      rw [bt_app, if_neg (by omega), hxs, Nat.sub_self, hK4]
    have hsub : Sub m R (s.extract i j ++ b ++ R) := by have := sub_app (s.extract i j ++ b) R; rw [hxs] at this; exact this
    have hex : ∀ a c, c ≤ j - i → (s.extract i j ++ b ++ R).extract a c = s.extract (i + a) (i + c) := fun a c hc => by
      rw [app_ext _ R a c (by omega), app_ext _ b a c (by omega), ext_ij s i j a c (by omega)]
    generalize s.extract i j ++ b ++ R = U at *
    have hloc : Loc s U i e := by
      refine ⟨by omega, he.2, by omega, fun a ha => hbp a (by omega), fun a c hc => hex a c (by omega), ?_⟩
      rcases Nat.lt_or_ge e j with hl' | hl'
      · exact .inr (.inl ⟨by omega, by rw [hbp (e - i) (by omega), show i + (e - i) = e by omega]⟩)
      · have hej : e = j := by omega
        by_cases hbz : b.size = 0
        · exact .inr (.inl ⟨by omega, by rw [hej, show j - i = m by omega]; exact hbm⟩)
        · refine .inr (.inr ?_)
          have := hbb 0 (by omega)
          rw [Nat.add_zero] at this
          rw [hej, this]
          exact hb 0 (by omega)
    have hoU := loc_one hloc hi ho
    have hs1 := sk_move (s := s) (u := U) (d := i) (j := j) (by omega) hjs (by omega) (fun a ha => hbp a (by omega)) (j - e) false (e - i) (by omega) (by omega) (by rw [show i + (e - i) = e by omega]; exact hj)
    have hs2 := sk_bls (u := U) b.size (j - i) (by omega) (fun a h1 h2 => by
      have := hbb (a - (j - i)) (by omega)
      rw [show j - i + (a - (j - i)) = a by omega] at this
      rw [this]; exact hb _ (by omega))
    have hs3 : sk U false m = m := sk_stop2 (by omega) (by rw [hbm]; exact hat.1) (by rw [hbm]; exact hat.2)
    have hsk : sk U false (e - i) = m := by rw [hs1, hs2, ← hm, hs3]
    have hlK := Lk.len hK2
    refine ⟨⟨k, x, n, 0⟩ :: shf m K, lxs_cons (by omega) hoU hsk hsub hK1 (by rw [← hlK]; exact hl), ⟨rfl, rfl, rfl, Lk.shf m hK2⟩, by omega, ?_, rfl⟩
    have := hbp 0 (by omega)
    rw [this]; rfl
/-- the whole text -/
def spr (s b : ByteArray) : List Tk → ByteArray
  | [] => b ++ s
  | t :: L => b ++ s.extract 0 t.a.toNat ++ spt s b t.a.toNat L
theorem lxF_most (s : ByteArray) : ∀ (f i : Nat) (acc : List Tk), acc.length ≤ 4096 → (lxF s f i acc).1.length ≤ 4096
  | 0, i, acc, h => h
  | f + 1, i, acc, h => by
    rw [lxF]
    split
    · split
      · exact Nat.zero_le _
      · split
        · exact Nat.zero_le _
        · exact lxF_most s f _ _ (by rw [List.length_append]; simp; omega)
    · exact h
theorem lx_spr {s b : ByteArray} (hb : ∀ a, a < b.size → bl (bt b a) = true) {L : List Tk} (h : lx s = (L, 0, 0)) (hz : (spr s b L).size ≤ 8192) : ∃ K, lx (spr s b L) = (K, 0, 0) ∧ Lk L K := by
  have hs8 : ¬ 8192 < s.size := fun x => by
    unfold lx at h
    rw [if_pos x] at h
    injection h with _ h; injection h with _ h; cases h
  have e1 : lx s = lxF s s.size (sk s false 0) [] := if_neg hs8
  rw [e1] at h
  have hle := sk_le s false (Nat.zero_le s.size)
  obtain ⟨a0, ha0⟩ : ∃ a, sk s false 0 = a := ⟨_, rfl⟩
  have hat := sk_at (s := s) s.size false 0 (by omega)
  rw [ha0] at h hle hat
  have hL4 : L.length ≤ 4096 := by
    have := lxF_most s s.size a0 [] (by simp)
    rw [h] at this
    exact this
  rcases Nat.lt_or_ge a0 s.size with hl | hl
  · obtain ⟨k, x, n, e, L', ho, hL, hr⟩ := lx_head hl (by omega) h
    subst hL
    obtain ⟨K, hK1, hK2, hK3, hK4, hK5⟩ := spt_lx hb L' a0 _ hl h hL4
    have hT : spr s b (⟨k, x, n, (a0 : Int)⟩ :: L') = b ++ (s.extract 0 a0 ++ spt s b a0 L') := by
      rw [spr, ByteArray.append_assoc]
      rfl
    rw [hT] at hz ⊢
    generalize spt s b a0 L' = R at *
    have hps : (s.extract 0 a0).size = a0 := by rw [ext_size s (Nat.zero_le _) hle]; rfl
    have hV : Sub a0 R (s.extract 0 a0 ++ R) := by have := sub_app (s.extract 0 a0) R; rw [hps] at this; exact this
    have hVs := hV.size
    have hbv : ∀ a, a < a0 → bt (s.extract 0 a0 ++ R) a = bt s (0 + a) := fun a ha => by
      rw [bt_app, if_pos (by omega), bt_ext s 0 a0 a (by omega) hle]
    have hbm : bt (s.extract 0 a0 ++ R) a0 = bt s a0 := by rw [bt_app, if_neg (by omega), hps, Nat.sub_self, hK4]
    generalize hVV : s.extract 0 a0 ++ R = V at *
    have hs1 := sk_move (s := s) (u := V) (d := 0) (j := a0) (Nat.zero_le _) hl (by omega) (fun a ha => hbv a (by omega)) a0 false 0 (by omega) (by omega) ha0
    rw [Nat.sub_zero] at hs1
    have hs3 : sk V false a0 = a0 := sk_stop2 (by omega) (by rw [hbm]; exact (hat hl).1) (by rw [hbm]; exact (hat hl).2)
    have hTV : Sub b.size V (b ++ V) := sub_app b V
    have hTs := hTV.size
    have hbt : ∀ a, a < b.size → bt (b ++ V) a = bt b a := fun a ha => by rw [bt_app, if_pos ha]
    have hs4 := sk_bls (u := b ++ V) b.size 0 (by omega) (fun a h1 h2 => by rw [hbt a (by omega)]; exact hb a (by omega))
    have hs5 := sub_sk hTV false (i := 0) (Nat.zero_le _)
    rw [Nat.zero_add] at hs4
    rw [Nat.add_zero, hs1, hs3] at hs5
    have hTR : Sub (b.size + a0) R (b ++ V) := ⟨by omega, by rw [sub_ex hTV a0]; exact hV.ex⟩
    have e2 : lx (b ++ V) = lxF (b ++ V) (b ++ V).size (b.size + a0) [] := by
      unfold lx; rw [if_neg (by omega), hs4, hs5]
    have hRf : lxF R (b ++ V).size 0 [] = (K, 0, 0) := by rw [lxF_fuel R (b ++ V).size R.size 0 [] (by omega) (by omega)]; exact hK1
    have hlK := Lk.len hK2
    have h2 := sub_lx2 hTR (b ++ V).size 0 [] [] (by rw [hRf]) (by rw [hRf]; simp; omega)
    rw [hRf] at h2
    refine ⟨shf (b.size + a0) K, ?_, Lk.shf _ hK2⟩
    rw [e2]
    exact h2
  · rw [lxF_end s _ _ _ (by omega)] at h
    injection h with h _
    subst h
    have hTV : Sub b.size s (b ++ s) := sub_app b s
    have hTs := hTV.size
    have hz' : (b ++ s).size ≤ 8192 := hz
    have hbt : ∀ a, a < b.size → bt (b ++ s) a = bt b a := fun a ha => by rw [bt_app, if_pos ha]
    have hs4 := sk_bls (u := b ++ s) b.size 0 (by omega) (fun a h1 h2 => by rw [hbt a (by omega)]; exact hb a (by omega))
    have hs5 := sub_sk hTV false (i := 0) (Nat.zero_le _)
    rw [Nat.zero_add] at hs4
    rw [Nat.add_zero, ha0] at hs5
    refine ⟨[], ?_, trivial⟩
    show lx (b ++ s) = _
    unfold lx
    rw [if_neg (by omega), hs4, hs5]
    exact lxF_end _ _ _ _ (by omega)
end Lx
end Go.Proofs.YtagoajoaojakhaaDoor

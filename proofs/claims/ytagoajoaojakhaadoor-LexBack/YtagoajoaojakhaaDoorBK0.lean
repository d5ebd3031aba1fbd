/- Tokens that were written are read as they were: the mathematics. -/
import Derived.Test.YtagoajoaojakhaaDoorB9
import Derived.Test.YtagoajoaojakhaaDoorTX4
namespace Go.Proofs.YtagoajoaojakhaaDoor
open Go.RowKit
set_option linter.unusedVariables false
namespace Lx
theorem sign_head : ∀ y ∈ signs, bl (bt y 0) = false ∧ bt y 0 ≠ 35 := fun y hy => by
  have h : signs.all (fun y => !bl (bt y 0) && bt y 0 != 35) = true := by decide
  have := List.all_eq_true.1 h y hy
  simpa using this
theorem bt_ext0 (s : ByteArray) (n : Nat) (hn : 0 < n) (h0 : 0 < s.size) : bt (s.extract 0 n) 0 = bt s 0 := by
  unfold bt
  rw [dif_pos (by rw [ByteArray.size_extract]; omega), dif_pos h0]
  simp [ByteArray.getElem_extract]
/-- a token begins with no blank and no remark -/
theorem one_front {s : ByteArray} (h0 : 0 < s.size) {r : Int × ByteArray × Int × Nat} (h : one s 0 = .ok r) : bl (bt s 0) = false ∧ bt s 0 ≠ 35 := by
  by_cases hb : bl (bt s 0) = true ∨ bt s 0 = 35
  · exfalso
    have hc : ∀ c : Int, bl c = true ∨ c = 35 → sm c = false ∧ cp c = false ∧ c ≠ 39 ∧ c ≠ 126 ∧ dg c = false := by
      intro c hc
      rcases hc with hc | rfl
      · rcases bl_cases hc with rfl | rfl | rfl | rfl <;> decide
      · decide
    obtain ⟨k1, k2, k3, k4, k5⟩ := hc _ hb
    unfold one at h
    rw [if_neg (by rw [k1, k2]; rintro (h | h) <;> cases h), if_neg k3, if_neg (by rw [k5]; rintro (h | h); exact k4 h; cases h)] at h
    split at h
    · rename_i hs
      have := sign_head _ (amg_mm hs.2)
      rw [Nat.zero_add, bt_ext0 s 2 (by decide) h0] at this
      rcases hb with hb | hb
      · rw [this.1] at hb; cases hb
      · exact this.2 hb
    · split at h
      · rename_i hs
        have := sign_head _ (amg_mm hs.2)
        rw [Nat.zero_add, bt_ext0 s 1 (by decide) h0] at this
        rcases hb with hb | hb
        · rw [this.1] at hb; cases hb
        · exact this.2 hb
      · cases h
  · refine ⟨?_, fun e => hb (.inr e)⟩
    cases hbl : bl (bt s 0); rfl; exact absurd (.inl hbl) hb
/-- tokens' words with a blank between two -/
def jB : List Tk → ByteArray
  | [] => ⟨#[]⟩
  | t :: [] => spK t
  | t :: u :: l => spK t ++ (⟨#[32]⟩ ++ jB (u :: l))
theorem jB_list : ∀ (l : List Tk), (jB l).data.toList = jnL l
  | [] => rfl
  | t :: [] => by rw [jB, jnL]; simp
  | t :: u :: l => by
    have ih := jB_list (u :: l)
    rw [jnL] at ih
    rw [jB, jnL, ByteArray.data_append, ByteArray.data_append, Array.toList_append, Array.toList_append, ih]
    simp
theorem jB_eq (l : List Tk) : (⟨(jnL l).toArray⟩ : ByteArray) = jB l := by
  rw [← jB_list]
theorem gd_one {t : Tk} (h : gdK t = true) : 0 < (spK t).size ∧ one (spK t) 0 = .ok (t.k, t.x, t.n, (spK t).size) := by
  have : mkT (spl t.k t.x t.n) t.k t.x t.n = true := by rw [mk_gd]; exact h
  exact mkT_true.1 this
theorem jB_front {t : Tk} {l : List Tk} (h : gdK t = true) : 0 < (jB (t :: l)).size ∧ bl (bt (jB (t :: l)) 0) = false ∧ bt (jB (t :: l)) 0 ≠ 35 := by
  obtain ⟨h0, ho⟩ := gd_one h
  have hf := one_front h0 ho
  cases l with
  | nil => exact ⟨h0, hf⟩
  | cons u l =>
    rw [jB]
    refine ⟨by rw [ByteArray.size_append]; omega, ?_⟩
    rw [bt_app, if_pos h0]; exact hf
theorem back_lx : ∀ (l : List Tk), (∀ t ∈ l, gdK t = true) → l.length ≤ 4096 → ∃ K, Lxs (jB l) K ∧ Lk l K
  | [], _, _ => ⟨[], lxs_nil rfl, trivial⟩
  | t :: [], h, _ => by
    obtain ⟨h0, ho⟩ := gd_one (h t (List.mem_cons_self ..))
    refine ⟨⟨t.k, t.x, t.n, 0⟩ :: shf (spK t).size [], ?_, rfl, rfl, rfl, trivial⟩
    show Lxs (spK t) _
    have hsub := sub_app (spK t) ⟨#[]⟩
    rw [show (spK t ++ ⟨#[]⟩ : ByteArray) = spK t from by apply ByteArray.ext; apply Array.ext'; simp [ByteArray.data_append]] at hsub
    exact lxs_cons h0 ho (sk_end _ _ (by omega)) hsub (lxs_nil rfl) (by simp)
  | t :: u :: l, h, hl => by
    obtain ⟨h0, ho⟩ := gd_one (h t (List.mem_cons_self ..))
    obtain ⟨K, hK, hLk⟩ := back_lx (u :: l) (fun x hx => h x (List.mem_cons_of_mem _ hx)) (by simp only [List.length_cons] at hl ⊢; omega)
    obtain ⟨hR0, hRb, hR35⟩ := jB_front (l := l) (h u (List.mem_cons_of_mem _ (List.mem_cons_self ..)))
    obtain ⟨W, hW⟩ : ∃ W, W = spK t := ⟨_, rfl⟩
    obtain ⟨R, hR⟩ : ∃ R, R = jB (u :: l) := ⟨_, rfl⟩
    rw [← hW] at h0 ho
    rw [← hR] at hR0 hRb hR35 hK
    have hu : jB (t :: u :: l) = W ++ (⟨#[32]⟩ ++ R) := by rw [jB, hW, hR]
    rw [hu]
    have hs1 : (⟨#[32]⟩ ++ R : ByteArray).size = R.size + 1 := by rw [ByteArray.size_append]; show 1 + R.size = _; omega
    have hsz : (W ++ (⟨#[32]⟩ ++ R) : ByteArray).size = W.size + (R.size + 1) := by rw [ByteArray.size_append, hs1]
    have hb32 : bt (W ++ (⟨#[32]⟩ ++ R)) W.size = 32 := by
      rw [bt_app, if_neg (by omega), Nat.sub_self, bt_app, if_pos (by decide)]; rfl
    have hbR : bt (W ++ (⟨#[32]⟩ ++ R)) (W.size + 1) = bt R 0 := by
      rw [bt_app, if_neg (by omega), show W.size + 1 - W.size = 1 by omega, bt_app, if_neg (by decide)]; rfl
    have hloc : Loc W (W ++ (⟨#[32]⟩ ++ R)) 0 W.size := by
      refine ⟨Nat.zero_le _, Nat.le_refl _, by omega, fun a ha => ?_, fun a b hb => ?_, .inr (.inr ?_)⟩
      · rw [bt_app, if_pos (by omega), Nat.zero_add]
      · rw [app_ext _ _ _ _ (by omega), Nat.zero_add, Nat.zero_add]
      · rw [Nat.sub_zero, hb32]; rfl
    have ho2 := loc_one hloc h0 ho
    rw [Nat.sub_zero] at ho2
    have hsk : sk (W ++ (⟨#[32]⟩ ++ R)) false W.size = W.size + 1 := by
      rw [sk_bls 1 W.size (by omega) (fun a h1 h2 => by obtain rfl : a = W.size := by omega
                                                        rw [hb32]; rfl)]
      exact sk_stop2 (by omega) (by rw [hbR]; exact hRb) (by rw [hbR]; exact hR35)
    have hsub : Sub (W.size + 1) R (W ++ (⟨#[32]⟩ ++ R)) := by
      have := sub_app (W ++ ⟨#[32]⟩) R
      rw [ByteArray.append_assoc] at this
      rw [show W.size + 1 = (W ++ ⟨#[32]⟩ : ByteArray).size by rw [ByteArray.size_append]; rfl]
      exact this
    have hKl := hLk.len
    refine ⟨_, lxs_cons (by omega) ho2 hsk hsub hK (by simp only [List.length_cons] at hl hKl; omega), rfl, rfl, rfl, hLk.shf _⟩
theorem back_ok {l : List Tk} (h : ∀ t ∈ l, gdK t = true) (hl : l.length ≤ 4096) (hz : (jnL l).length ≤ 8192) : ∃ K, lx ⟨(jnL l).toArray⟩ = (K, 0, 0) ∧ Lk l K := by
  obtain ⟨K, hK, hLk⟩ := back_lx l h hl
  refine ⟨K, ?_, hLk⟩
  have hs : (⟨(jnL l).toArray⟩ : ByteArray).size = (jnL l).length := size_list _
  rw [jB_eq] at hs ⊢
  unfold lx
  rw [if_neg (by omega)]
  have h0 : sk (jB l) false 0 = 0 := by
    cases l with
    | nil => exact sk_end _ _ (by decide)
    | cons t l =>
      obtain ⟨h0, h1, h2⟩ := jB_front (l := l) (h t (List.mem_cons_self ..))
      exact sk_stop2 h0 h1 h2
  rw [h0]
  exact hK
end Lx
end Go.Proofs.YtagoajoaojakhaaDoor

/- A module of many instructions, in one function or in many: what is to be answered. -/
import Derived.Test.YtmedpblpcfobdaaDoorQWM0
import Derived.Test.YtmedpblpcfobdaaDoorQR5
namespace Go.Proofs.YtmedpblpcfobdaaDoor
open Go.RowKit Rep
set_option linter.unusedVariables false
namespace Rep
theorem cnt_noI (c : Nat) : ∀ d, cnt d (noI d) c = c
  | 0 => rfl
  | _ + 1 => rfl
theorem cnt_nops (d : Nat) : ∀ (n c : Nat), c ≤ 65537 → cnt (d + 1) (nops d n) c = min (c + n) 65537
  | 0, c, h => by show c = _; omega
  | n + 1, c, h => by
    show (if c ≤ 65536 then cntL (cnt d) (nops d n) (cnt d (noI d) (cnt d (noI d) (c + 1))) else c) = _
    by_cases hc : c ≤ 65536
    · rw [if_pos hc, cnt_noI, cnt_noI]
      have := cnt_nops d n (c + 1) (by omega)
      show cnt (d + 1) (nops d n) (c + 1) = _
      rw [this]; omega
    · rw [if_neg hc]; omega
theorem cnt_nestM : ∀ (i c : Nat), c ≤ 65537 → cnt (i + 1) (nest i) c = min (c + i + 1) 65537
  | 0, c, h => by
    show (if c ≤ 65536 then c + 1 else c) = _
    split <;> omega
  | i + 1, c, h => by
    show (if c ≤ 65536 then cnt (i + 1) (noI (i + 1)) (cnt (i + 1) (nest i) (c + 1)) else c) = _
    by_cases hc : c ≤ 65536
    · rw [if_pos hc, cnt_noI, cnt_nestM i (c + 1) (by omega)]; omega
    · rw [if_neg hc]; omega
/-- functions of so many instructions each -/
def fOf (d n : Nat) : Fun (d + 1) := ⟨0, [], nops d n⟩
theorem cntF_fs (d : Nat) : ∀ (ns : List Nat) (r : List (Fun (d + 1))) (c : Nat), c ≤ 65537 → cntF (d + 1) (ns.map (fOf d) ++ r) c = if c + ns.sum ≤ 65536 ∨ ns = [] then cntF (d + 1) r (c + ns.sum) else 65537
  | [], r, c, h => by simp
  | n :: ns, r, c, h => by
    show (if c ≤ 65536 then cntF (d + 1) (ns.map (fOf d) ++ r) (cnt (d + 1) (nops d n) c) else c) = _
    rw [List.sum_cons]
    by_cases hc : c ≤ 65536
    · rw [if_pos hc, cnt_nops d n c h, cntF_fs d ns r _ (by omega)]
      by_cases hs : c + (n + ns.sum) ≤ 65536
      · rw [if_pos (.inl (by omega)), if_pos (.inl hs)]
        congr 1
        omega
      · rw [if_neg (c := c + (n + ns.sum) ≤ 65536 ∨ n :: ns = []) (by simp; omega)]
        by_cases he : ns = []
        · subst he
          rw [if_pos (.inr rfl)]
          simp only [List.sum_nil, Nat.add_zero] at *
          rw [show min (c + n) 65537 = 65537 by omega]
          cases r with
          | nil => rfl
          | cons x r => rfl
        · rw [if_neg (by simp only [he, or_false]; omega)]
    · rw [if_neg hc, if_neg (by simp; omega)]; omega
def mMany (d : Nat) (ns : List Nat) : Mod (d + 1) := ⟨[⟨[], []⟩], [], ns.map (fOf d) ++ [⟨0, [], nest d⟩], [], [], [], [], [], [], []⟩
theorem cntF_many (d : Nat) (ns : List Nat) : min (cntF (d + 1) (mMany d ns).funcs 0) 65537 = min (ns.sum + d + 1) 65537 := by
  show min (cntF (d + 1) (ns.map (fOf d) ++ [⟨0, [], nest d⟩]) 0) 65537 = _
  rw [cntF_fs d ns _ 0 (by omega)]
  by_cases hs : 0 + ns.sum ≤ 65536 ∨ ns = []
  · rw [if_pos hs]
    have hle : ns.sum ≤ 65536 := by
      rcases hs with h | rfl
      · omega
      · simp
    show min (if 0 + ns.sum ≤ 65536 then cnt (d + 1) (nest d) (0 + ns.sum) else 0 + ns.sum) 65537 = _
    rw [if_pos (by omega), cnt_nestM d _ (by omega)]
    omega
  · rw [if_neg hs]
    have : ¬ 0 + ns.sum ≤ 65536 := fun h => hs (.inl h)
    omega
theorem goF_some {σ : Type} (step : Unit → Sn → Nat → Option Unit) (d : Nat) : ∀ (l r : List (Fun d)), (∀ f ∈ l, goI step d f.body 0 () = some ()) → goF step d (l ++ r) () = goF step d r ()
  | [], _, _ => rfl
  | f :: l, r, h => by
    show (goI step d f.body 0 ()).bind (fun s => goF step d (l ++ r) s) = _
    rw [h f (by simp), Option.bind_some]
    exact goF_some (σ := σ) step d l r fun g hg => h g (by simp [hg])
theorem goF_last (step : Unit → Sn → Nat → Option Unit) (d : Nat) (ns : List Nat) (h : ∀ n, goI step (d + 1) (nops d n) 0 () = some ()) : goF step (d + 1) (mMany d ns).funcs () = goI step (d + 1) (nest d) 0 () := by
  show goF step (d + 1) (ns.map (fOf d) ++ [⟨0, [], nest d⟩]) () = _
  rw [goF_some (σ := Unit) step (d + 1) _ _ (fun f hf => by obtain ⟨n, _, rfl⟩ := List.mem_map.1 hf; exact h n)]
  show (goI step (d + 1) (nest d) 0 ()).bind (fun s => some s) = _
  simp
theorem few_many (d : Nat) (ns : List Nat) (h : ns.length ≤ 5) : fewM (mMany d ns) = true := by
  unfold fewM
  simp [mMany, len, room, few, few1, fewT, fewL, fOf]
  omega
theorem sh_many (d : Nat) (ns : List Nat) : shM (mMany d ns) = true := by
  unfold shM
  simp [mMany, shT, shF, fOf, idx]
theorem chk_many (d : Nat) (ns : List Nat) (h : ns.length ≤ 5) : chk (mMany d ns) = if 65536 < ns.sum + d + 1 then 3 else if 64 < d then 4 else 0 := by
  have hc := cntF_many d ns
  have hle := cntF_le (d + 1) (mMany d ns).funcs 0
  unfold chk
  rw [few_many d ns h, sh_many, goF_cnt (d + 1) _ 0 (by omega), goF_last stepLabels d ns (fun n => goI_nops stepLabels d n 0 () (fun _ => ()) rfl (fun _ _ => rfl)), goF_last stepDepth d ns (fun n => goI_nops stepDepth d n 0 () (fun _ => ()) rfl (fun _ _ => rfl)),
    goF_last stepForm d ns (fun n => goI_nops stepForm d n 0 () (fun _ => ()) rfl (fun _ _ => by unfold stepForm; rw [ok_nopD]; rfl)), nest_lab, nest_dep, nest_frm]
  generalize cntF (d + 1) (mMany d ns).funcs 0 = c at *
  simp only [if_true, Nat.zero_add]
  by_cases h1 : 65536 < ns.sum + d + 1
  · rw [if_pos h1, if_neg (by omega)]
  · rw [if_neg h1, if_pos (by omega)]
    by_cases h2 : 64 < d
    · rw [if_pos h2, if_neg (by omega)]
    · rw [if_neg h2, if_pos (by omega)]
theorem cnt_many (d : Nat) (ns : List Nat) : cntM (d + 1) (mMany d ns).funcs = min (ns.sum + d + 1) 65537 := by
  rw [cntM_eq, cntF_many]
end Rep
end Go.Proofs.YtmedpblpcfobdaaDoor

/- What the program's ways to see an instruction do, but for its form. -/
import Derived.Test.YtloelineidlenaaGreatDoorW1
import Derived.Test.YtloelineidlenaaGreatDoorW3
namespace Go.Proofs.YtloelineidlenaaGreatDoor
open Go.RowKit Rep
set_option linter.unusedVariables false

namespace Rep
theorem ints_new (w : World) (t : TypeId) (b cap : Nat) (zs : List Int) (hb : b = w.heap.size) (hl : zs.length ≤ 9223372036854775807) : Ints (w.alloc (.cells (zs.map fun z => Value.int .i64 z).toArray t)) (.slice (some ⟨b, 0, none⟩) zs.length cap) zs := by
  refine ⟨hl, .inr ⟨b, 0, cap, rfl, fun i x hi => ?_⟩⟩
  show (w.alloc (.cells (zs.map fun z => Value.int .i64 z).toArray t)).cell? ⟨b, 0 + i * 1, none⟩ = _
  rw [World.cell?_alloc_at _ t _ _ hb]
  simp [hi]
theorem kp_set (w : World) (cb : Nat) (u : Value) (o : Obj) : Kp (fun k => k = cb) w ((w.setCell ⟨cb, 0, none⟩ u).alloc o) := by
  have h0 : Below 0 w (w.setCell ⟨cb, 0, none⟩ u) := (Below.refl 0 w).setCell (p := ⟨cb, 0, none⟩) (Nat.zero_le _) u
  have h : Kp (fun k => k = cb) w (w.setCell ⟨cb, 0, none⟩ u) := ⟨h0.os, h0.tape, h0.output, h0.size, fun k _ hs => Below.heap_setCell w _ u k hs⟩
  exact h.alloc o
theorem cell_set (w : World) (cb : Nat) (u : Value) (o : Obj) (hb : cb < w.heap.size) (h : (w.cell? ⟨cb, 0, none⟩).isSome = true) : ((w.setCell ⟨cb, 0, none⟩ u).alloc o).cell? ⟨cb, 0, none⟩ = some u := by
  rw [World.cell?_alloc_past o cb 0 (by simpa using hb)]
  exact World.cell?_setCell_same' w _ u h
theorem frozen_set (w : World) (cb : Nat) (u : Value) (o : Obj) (hb : cb < w.heap.size) (h : w.frozen? ⟨cb, 0, none⟩ = false) : ((w.setCell ⟨cb, 0, none⟩ u).alloc o).frozen? ⟨cb, 0, none⟩ = false := by
  have hk : cb < (w.setCell ⟨cb, 0, none⟩ u).heap.size := by simpa using hb
  rw [((Below.refl _ (w.setCell ⟨cb, 0, none⟩ u)).alloc (Nat.le_refl _) o).frozen (p := ⟨cb, 0, none⟩) hk, World.frozen?_setCell]
  exact h
theorem kp_two {S : Nat → Prop} (w : World) (o p : Obj) : Kp S w ((w.alloc o).alloc p) := ((Kp.refl S w).alloc o).alloc p
end Rep

def stepLabels (_ : Unit) (x : Sn) (_ : Nat) : Option Unit := if few x.labels.length = true then some () else none
def stepDepth (_ : Unit) (_ : Sn) (k : Nat) : Option Unit := if k ≤ 64 then some () else none
def stepCount (c : Nat) (_ : Sn) (_ : Nat) : Option Nat := if c + 1 ≤ 65536 then some (c + 1) else none

set_option maxHeartbeats 1000000 in
theorem seeDepth (w0 : World) : SeeC 36 (fun x y => #[x, y]) w0 (fun _ => False) (fun (_ : Unit) _ => True) stepDepth 4 := by
  intro s x lv bv ev dep w hb _ hl hbv hev hd
  obtain ⟨lo, lc, rfl⟩ := Row.len hl
  obtain ⟨bo, bc, rfl⟩ := hbv
  obtain ⟨eo, ec, rfl⟩ := hev
  generalize hS : stepDepth s x dep = R
  unfold stepDepth at hS
  clear hl hb
  by_cases hk : dep ≤ 64
  · rw [if_pos hk] at hS
    have hd' : decide ((dep : Int) ≤ 64) = true := by simp; omega
    have HS := hideM hS
    clear hS
    go_enter Tryz.func36, Tryz.ntmps36
    go_wp2_with fail
    refine (pNeed true _ _).mono ?_
    rintro e u ⟨⟨_, rfl⟩ | ⟨hf, _⟩, rfl⟩
    · go_wp2
      go_end0
      exact ⟨(Kp.refl _ w).alloc _, .inl ⟨(), HS.out.symm, rfl, trivial⟩⟩
    · cases hf
  · rw [if_neg hk] at hS
    have hd' : decide ((dep : Int) ≤ 64) = false := by simp; omega
    have HS := hideM hS
    clear hS
    go_enter Tryz.func36, Tryz.ntmps36
    go_wp2_with fail
    refine (pNeed false _ _).mono ?_
    rintro e u ⟨⟨hf, _⟩ | ⟨_, rfl⟩, rfl⟩
    · cases hf
    · go_wp2
      exact ⟨rfl, (Kp.refl _ w).alloc _, .inr ⟨HS.out.symm, rfl⟩⟩

set_option maxHeartbeats 1000000 in
theorem seeLabels (w0 : World) : SeeC 34 (fun x y => #[x, y]) w0 (fun _ => False) (fun (_ : Unit) _ => True) stepLabels 3 := by
  intro s x lv bv ev dep w hb _ hl hbv hev hd
  have hlen := hl.1
  obtain ⟨lo, lc, rfl⟩ := Row.len hl
  obtain ⟨bo, bc, rfl⟩ := hbv
  obtain ⟨eo, ec, rfl⟩ := hev
  generalize hS : stepLabels s x dep = R
  unfold stepLabels at hS
  have HS := hideM hS
  clear hl hb hS
  generalize x.labels.length = n at *
  go_enter Tryz.func34, Tryz.ntmps34
  go_wp2_with fail
  refine (pneedShort _ [(n : Int)] _ (ints_new _ _ _ _ _ (by simp) (by show 1 ≤ _; omega))).mono ?_
  rintro e u ⟨⟨hf, rfl⟩ | ⟨hf, rfl⟩, rfl⟩
  · have HF : Hid (R = some ()) := by
      have := HS.out; rw [if_pos (by simpa using hf)] at this; exact this.symm
    clear hf
    go_wp2
    go_end0
    exact ⟨kp_two _ _ _, .inl ⟨(), HF.out, rfl, trivial⟩⟩
  · have HF : Hid (R = none) := by
      have := HS.out; rw [if_neg (by simpa using hf)] at this; exact this.symm
    clear hf
    go_wp2
    exact ⟨rfl, kp_two _ _ _, .inr ⟨HF.out, rfl⟩⟩

set_option maxHeartbeats 1000000 in
theorem seeCount (w0 : World) (cb : Nat) : SeeC 76 (fun x y => #[x, y, .pointer (some ⟨cb, 0, none⟩)]) w0 (fun k => k = cb) (fun (c : Nat) w => c ≤ 65536 ∧ w.cell? ⟨cb, 0, none⟩ = some (.int .i64 c) ∧ w.frozen? ⟨cb, 0, none⟩ = false) stepCount 3 := by
  intro s x lv bv ev dep w hb hi hl hbv hev hd
  obtain ⟨hc, hcell, hfz⟩ := hi
  obtain ⟨lo, lc, rfl⟩ := Row.len hl
  obtain ⟨bo, bc, rfl⟩ := hbv
  obtain ⟨eo, ec, rfl⟩ := hev
  generalize hS : stepCount s x dep = R
  unfold stepCount at hS
  have HS := hideM hS
  clear hl hb hS
  generalize x.labels.length = n at *
  have hcb : cb < w.heap.size := World.block_lt_of_cell? _ _ hcell
  by_cases hk : s + 1 ≤ 65536
  · have HF : Hid (R = some (s + 1)) := by
      have := HS.out; rw [if_pos hk] at this; exact this.symm
    have hd' : decide ((s : Int) + 1 ≤ 65536) = true := by simp; omega
    clear HS
    go_enter Tryz.func76, Tryz.ntmps76
    go_wp2_with fail
    refine (pNeed true _ _).mono ?_
    rintro e u ⟨⟨_, rfl⟩ | ⟨hf, _⟩, rfl⟩
    · go_wp2
      go_end0
      exact ⟨kp_set _ _ _ _, .inl ⟨s + 1, HF.out, rfl, hk, cell_set _ _ _ _ hcb (by rw [hcell]; rfl), frozen_set _ _ _ _ hcb hfz⟩⟩
    · cases hf
  · have HF : Hid (R = none) := by
      have := HS.out; rw [if_neg hk] at this; exact this.symm
    have hd' : decide ((s : Int) + 1 ≤ 65536) = false := by simp; omega
    clear HS
    go_enter Tryz.func76, Tryz.ntmps76
    go_wp2_with fail
    refine (pNeed false _ _).mono ?_
    rintro e u ⟨⟨hf, _⟩ | ⟨_, rfl⟩, rfl⟩
    · cases hf
    · go_wp2
      exact ⟨rfl, kp_set _ _ _ _, .inr ⟨HF.out, rfl⟩⟩
end Go.Proofs.YtloelineidlenaaGreatDoor

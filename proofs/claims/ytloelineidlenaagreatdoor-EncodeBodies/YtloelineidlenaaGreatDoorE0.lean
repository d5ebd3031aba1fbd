/- The program's writer: what it has gathered lies in a row of its own; putting a byte, a number, a text. -/
import Derived.Test.YtloelineidlenaaGreatDoorLPut
import Derived.Test.YtloelineidlenaaGreatDoorK10
import Derived.Lib.AppendStr
namespace Go.Proofs.YtloelineidlenaaGreatDoor
open Go.RowKit Rep
set_option linter.unusedVariables false
namespace Enc
theorem u8Info : (Tryz.prog.info? 5).map (fun i => (i.zero, i.size, i.bytes)) = some (some (.int .u8 0), 1, 1) := by kernel_rfl
/-- bytes as cells -/
def cells (bs : List Int) : List Value := bs.map (Value.int .u8)
/-- the writer, and what it has gathered -/
structure WS (w0 : World) (p : Nat) (c : Nat → Value) (v : Value) (bs : List Int) (w : World) : Prop where
  below : Below w0.heap.size w0 w
  base : w0.heap.size ≤ p
  blk : w.heap[p]? = some (.cells #[c 0, c 1, c 2, c 3, c 4, c 5, c 6, c 7, c 8, c 9, v] 67 (0, 0))
  own : w.ownsRow w0.heap.size 5 1 v bs.length (cells bs)
  apart : v.ownBlock ≠ some p
section
variable {w0 w w' : World} {p : Nat} {c : Nat → Value} {v : Value} {bs : List Int}
theorem WS.cell (h : WS w0 p c v bs w) : w.cell? ⟨p, 10, none⟩ = some v := by unfold World.cell?; rw [h.blk]; rfl
theorem WS.frz (h : WS w0 p c v bs w) : w.frozen? ⟨p, 10, none⟩ = false := by unfold World.frozen?; rw [h.blk]; simp
theorem WS.lt (h : WS w0 p c v bs w) : p < w.heap.size := (Array.getElem?_eq_some_iff.1 h.blk).1
theorem WS.slice (h : WS w0 p c v bs w) : ∃ o k, v = .slice o bs.length k := by
  rcases h.own.2 with ⟨rfl, h0⟩ | ⟨g, cap, cur, rfl, _⟩
  · rw [h0]; exact ⟨none, 0, rfl⟩
  · exact ⟨_, _, rfl⟩
theorem own_on' {B : Nat} {e : TypeId} {size : Nat} {v : Value} {n : Nat} {xs : List Value} (h : w.ownsRow B e size v n xs) (hb : Below w.heap.size w w') : w'.ownsRow B e size v n xs :=
  ⟨h.1, h.2.imp id fun ⟨g, cap, cur, h1, h2, h3, h4⟩ => ⟨g, cap, cur, h1, h2, by rw [hb.block g (Array.getElem?_eq_some_iff.1 h3).1]; exact h3, h4⟩⟩
/-- new memory leaves the writer as it is -/
theorem WS.on (h : WS w0 p c v bs w) (hb : Below w.heap.size w w') : WS w0 p c v bs w' :=
  ⟨h.below.trans (hb.mono h.below.size), h.base, by rw [hb.block p h.lt]; exact h.blk, own_on' h.own hb, h.apart⟩
/-- what was appended is stored -/
theorem WS.store {w9 : World} {v' : Value} {bs' : List Int} (h : WS w0 p c v bs w) (ho : w9.ownsRow w0.heap.size 5 1 v' bs'.length (cells bs')) (hg : w.grownBy w9 v.ownBlock) : WS w0 p c v' bs' (w9.setCell ⟨p, 10, none⟩ v') := by
  have hp9 : w9.heap[p]? = some (.cells #[c 0, c 1, c 2, c 3, c 4, c 5, c 6, c 7, c 8, c 9, v] 67 (0, 0)) := by rw [hg.block p h.lt (fun e => h.apart e.symm)]; exact h.blk
  have hap : v'.ownBlock ≠ some p := by
    rcases ho.2 with ⟨rfl, _⟩ | ⟨g, cap, cur, rfl, _, hgg, _⟩
    · simp [Value.ownBlock]
    · intro e
      have : g = p := by simpa [Value.ownBlock] using e
      subst this
      rw [hgg] at hp9
      injection hp9 with hp9
      injection hp9 with _ hp9
      exact absurd hp9 (by decide)
  refine ⟨(h.below.grown hg h.below.size fun k hk => (h.own.lt k hk).1).setCell h.base _, h.base, heap_setCell_same w9 p 10 _ _ v' hp9, ?_, hap⟩
  refine ⟨ho.1, ho.2.imp id fun ⟨g, cap, cur, k1, k2, k3, k4⟩ => ⟨g, cap, cur, k1, k2, ?_, k4⟩⟩
  rw [Below.heap_setCell _ _ _ _ (by show g ≠ p; intro e; subst e; exact hap (by rw [k1]; rfl))]
  exact k3
end
/-- bytes were added; or there are too many already, and would be -/
def Adds (bs add bs' : List Int) : Prop := bs' = bs ++ add ∨ (262144 < bs'.length ∧ 262144 < bs.length + add.length ∧ bs.length ≤ bs'.length)
theorem Adds.le {bs add bs' : List Int} (h : Adds bs add bs') : bs.length ≤ bs'.length := by
  rcases h with rfl | ⟨_, _, h⟩
  · rw [List.length_append]; omega
  · exact h
theorem Adds.refl (bs : List Int) : Adds bs [] bs := .inl (by simp)
theorem Adds.trans {a b c x y : List Int} (h : Adds a x b) (h' : Adds b y c) : Adds a (x ++ y) c := by
  rcases h with rfl | ⟨h1, h2, h5⟩
  · rcases h' with rfl | ⟨h3, h4, h6⟩
    · exact .inl (by rw [List.append_assoc])
    · exact .inr ⟨h3, by rw [List.length_append] at h4 ⊢; omega, by rw [List.length_append] at h6; omega⟩
  · rcases h' with rfl | ⟨h3, h4, h6⟩
    · exact .inr ⟨by rw [List.length_append]; omega, by rw [List.length_append]; omega, by rw [List.length_append]; omega⟩
    · exact .inr ⟨h3, by rw [List.length_append]; omega, by omega⟩
/-- all blocks stay as they are but the writer's and that of what it has gathered, which may have moved to new memory -/
structure Kept (p : Nat) (v : Value) (w : World) (v' : Value) (w' : World) : Prop where
  size : w.heap.size ≤ w'.heap.size
  block : ∀ k, k < w.heap.size → k ≠ p → some k ≠ v.ownBlock → w'.heap[k]? = w.heap[k]?
  own : ∀ k, v'.ownBlock = some k → v.ownBlock = some k ∨ w.heap.size ≤ k
theorem Kept.refl (p : Nat) (v : Value) (w : World) : Kept p v w v w := ⟨Nat.le_refl _, fun _ _ _ _ => rfl, fun k h => .inl h⟩
theorem Kept.trans {p : Nat} {v v1 v2 : Value} {w w1 w2 : World} (h : Kept p v w v1 w1) (h' : Kept p v1 w1 v2 w2) : Kept p v w v2 w2 :=
  ⟨Nat.le_trans h.size h'.size, fun k hk hp hv => by
    rw [h'.block k (Nat.lt_of_lt_of_le hk h.size) hp (fun e => ?_), h.block k hk hp hv]
    rcases h.own k e.symm with h1 | h1
    · exact hv h1.symm
    · omega, fun k hk => by
    rcases h'.own k hk with h1 | h1
    · exact h.own k h1
    · exact .inr (Nat.le_trans h.size h1)⟩
theorem Kept.below {p : Nat} {v : Value} {w w1 : World} (hb : Below w.heap.size w w1) : Kept p v w v w1 := ⟨hb.size, fun k hk _ _ => hb.block k hk, fun k h => .inl h⟩
theorem Kept.store {p i : Nat} {v v' : Value} {w w9 : World} (hg : w.grownBy w9 v.ownBlock) (hv : v'.ownBlock = v.ownBlock ∨ v'.ownBlock = some w.heap.size) (u : Value) : Kept p v w v' (w9.setCell ⟨p, i, none⟩ u) :=
  ⟨by simpa using hg.size, fun k hk hp ho => by rw [Below.heap_setCell _ _ _ _ (by show k ≠ p; exact hp), hg.block k hk ho], fun k hk => by
    rcases hv with h | h
    · exact .inl (h ▸ hk)
    · rw [h] at hk; injection hk with hk; exact .inr (by omega)⟩
/-- what a method of the writer does: so many bytes more -/
def Does (w0 : World) (p : Nat) (c : Nat → Value) (v : Value) (w : World) (bs : List Int) (e : Ending) (w' : World) : Prop := ∃ v', e = .returned (.tuple #[]) ∧ WS w0 p c v' bs w' ∧ Kept p v w v' w'
end Enc
open Enc
theorem wrap_u8 (b : Int) : IntKind.u8.wrap b = b % 256 := by simp [IntKind.wrap, IntKind.signed, IntKind.bits]
set_option maxRecDepth 100000 in
set_option maxHeartbeats 1000000 in
theorem wPut (w0 : World) (p : Nat) (c : Nat → Value) (v : Value) (bs : List Int) (b : Int) (w : World) (h : WS w0 p c v bs w) (hn : bs.length ≤ 100000000000000) :
    Calls Tryz.prog 52 #[.pointer (some ⟨p, 0, none⟩), .int .i64 b] w (Does w0 p c v w (bs ++ [b % 256])) := by
  obtain ⟨o, k, rfl⟩ := h.slice
  have HS := hideR h
  have kc := h.cell
  clear h
  obtain ⟨i0, hi, hz0, hz1, hz2⟩ := info_parts u8Info
  have HSA := hideR (HS.out.on (new_on' w (.cells #[.int .u8 (b % 256)] 5)))
  have hw := wrap_u8 b
  go_enter Tryz.func52, Tryz.ntmps52
  go_wp2_with (first | (at_builtin; refine wpList_appS rfl _ _ 53 rfl w0.heap.size 5 i0 _ 1 1 Tryz.underlying53 hi hz0 hz1 hz2 rfl (by decide) _ _ _ rfl HSA.out.own (some ⟨w.heap.size, 0, none⟩) 1 1 [.int .u8 (b % 256)] rfl ?c6 ?c0 ?c1 ?c2 ?c3 ?c4 ?c5 ?_))
  case c6 => intro h; cases h
  case c0 => rfl
  case c1 => exact fun ad h => by injection h with h; subst h; exact one_new _ _ _
  case c2 => intro u hu; rw [List.mem_singleton.1 hu]; rfl
  case c3 => unfold maxLen; omega
  case c4 => omega
  case c5 => exact HSA.out.below.size
  intro v' w9 hown hg hv
  have HKP := hideR ((Kept.below (p := p) (v := .slice o bs.length k) (new_on' w (.cells #[.int .u8 (b % 256)] 5))).trans (Kept.store (i := 10) hg (by simpa using hv) v'))
  have HE := hideR (HSA.out.store (bs' := bs ++ [b % 256]) (by rw [List.length_append]; simpa [cells] using hown) hg)
  obtain ⟨o9, k9, rfl⟩ : ∃ o9 k9, v' = .slice o9 (bs.length + 1) k9 := by
    rcases hown.2 with ⟨rfl, h0⟩ | ⟨g, cap, cur, rfl, _⟩
    · omega
    · exact ⟨_, _, rfl⟩
  have hS9 : WS w0 p c (.slice o bs.length k) bs (w.alloc (.cells #[.int .u8 (b % 256)] 5)) := HSA.out
  have kc9 : w9.cell? ⟨p, 10, none⟩ = some (.slice o bs.length k) := by rw [World.cell?_of_block (a := ⟨p, 10, none⟩) (hg.block p hS9.lt (fun e => hS9.apart e.symm))]; exact hS9.cell
  have kf9 : w9.frozen? ⟨p, 10, none⟩ = false := by rw [World.frozen?_of_block (a := ⟨p, 10, none⟩) (hg.block p hS9.lt (fun e => hS9.apart e.symm))]; exact hS9.frz
  clear hown hg hv hS9 HSA HS kc
  go_wp2
  go_end0
  exact ⟨_, rfl, HE.out, HKP.out⟩
end Go.Proofs.YtloelineidlenaaGreatDoor

/- A memory as it lies: a block of three cells, and a row of bytes. -/
import Derived.Test.YtagcdnkgochpnaaRows
import Derived.WalkKit
import Derived.WalkSpells
import Derived.WalkSmall
import Derived.BigQuiet
import Derived.Deep.QuietTactic
import Derived.Laws.LoneSync
import Derived.Laws.CopyOwn
import Derived.Deep.OwnRows
import Derived.Laws.BitsAllLaws
namespace Go.Proofs.Ytagcdnkgochpnaa
open Go.RowKit
set_option linter.unusedVariables false
namespace Mm
theorem hideR {p : Prop} (h : p) : Hid p := h
/-- all that was there stays, but for some blocks -/
structure Frm (S : List Nat) (w w' : World) : Prop where
  os : w'.os = w.os
  tape : w'.tape = w.tape
  output : w'.output = w.output
  size : w.heap.size ≤ w'.heap.size
  block : ∀ k, k < w.heap.size → k ∉ S → w'.heap[k]? = w.heap[k]?
theorem Frm.refl (S : List Nat) (w : World) : Frm S w w := ⟨rfl, rfl, rfl, Nat.le_refl _, fun _ _ _ => rfl⟩
theorem Frm.of {S : List Nat} {w w' : World} (h : Below w.heap.size w w') : Frm S w w' := ⟨h.os, h.tape, h.output, h.size, fun k hk _ => h.block k hk⟩
theorem Frm.trans {S : List Nat} {a b c : World} (h : Frm S a b) (k : Frm S b c) : Frm S a c :=
  ⟨k.os.trans h.os, k.tape.trans h.tape, k.output.trans h.output, Nat.le_trans h.size k.size, fun j hj hS => (k.block j (Nat.lt_of_lt_of_le hj h.size) hS).trans (h.block j hj hS)⟩
theorem Frm.mono {S T : List Nat} {a b : World} (h : Frm S a b) (hS : ∀ k ∈ S, k ∈ T) : Frm T a b := ⟨h.os, h.tape, h.output, h.size, fun k hk hT => h.block k hk (fun hm => hT (hS k hm))⟩
/-- blocks that were not there when one began do not count -/
theorem Frm.below {S : List Nat} {w a b : World} (h : Below w.heap.size w a) (hf : Frm S a b) (hS : ∀ k ∈ S, w.heap.size ≤ k) : Below w.heap.size w b :=
  h.trans ⟨hf.os, hf.tape, hf.output, hf.size, fun k hk => hf.block k (Nat.lt_of_lt_of_le hk h.size) (fun hm => by have := hS k hm; omega)⟩
theorem Frm.set (b j : Nat) (w : World) (v : Value) : Frm [b] w (w.setCell ⟨b, j, none⟩ v) :=
  ⟨rfl, rfl, rfl, by simp, fun k hk hp => Below.heap_setCell _ _ _ _ (fun e => hp (by rw [show k = b from e]; exact List.mem_singleton.2 rfl))⟩
def bcells (bs : List Int) : List Value := bs.map (Value.int .u8)
theorem bcells_len (bs : List Int) : (bcells bs).length = bs.length := by unfold bcells; rw [List.length_map]
structure Mem (w : World) (b r : Nat) (mo : Int) (pg : Nat) (bs : List Int) : Prop where
  blk : w.heap[b]? = some (.cells #[.int .i64 pg, .int .i64 mo, .slice (some ⟨r, 0, none⟩) bs.length bs.length] 62 (0, 0))
  row : w.heap[r]? = some (.cells (bcells bs).toArray 5 (0, 0))
  len : bs.length = pg * 65536
  le : (pg : Int) ≤ mo
  most : mo ≤ 32
  ne : b ≠ r
  bd : ∀ x ∈ bs, 0 ≤ x ∧ x ≤ 255
section
variable {w w' : World} {b r : Nat} {mo : Int} {pg : Nat} {bs : List Int}
theorem Mem.cell (h : Mem w b r mo pg bs) (j : Nat) (v : Value) (hv : #[Value.int .i64 pg, .int .i64 mo, .slice (some ⟨r, 0, none⟩) bs.length bs.length][j]? = some v) : w.cell? ⟨b, j, none⟩ = some v := by
  unfold World.cell?; rw [h.blk]; exact hv
theorem Mem.frz (h : Mem w b r mo pg bs) (j : Nat) : w.frozen? ⟨b, j, none⟩ = false := by unfold World.frozen?; rw [h.blk]; simp
theorem Mem.lt (h : Mem w b r mo pg bs) : b < w.heap.size := (Array.getElem?_eq_some_iff.1 h.blk).1
theorem Mem.ltr (h : Mem w b r mo pg bs) : r < w.heap.size := (Array.getElem?_eq_some_iff.1 h.row).1
theorem Mem.on {S : List Nat} (h : Mem w b r mo pg bs) (hf : Frm S w w') (hb : b ∉ S) (hr : r ∉ S) : Mem w' b r mo pg bs :=
  ⟨by rw [hf.block b h.lt hb]; exact h.blk, by rw [hf.block r h.ltr hr]; exact h.row, h.len, h.le, h.most, h.ne, h.bd⟩
theorem Mem.on0 (h : Mem w b r mo pg bs) (hf : Below w.heap.size w w') : Mem w' b r mo pg bs := h.on (S := []) (Frm.of hf) (by simp) (by simp)
theorem Mem.byte (h : Mem w b r mo pg bs) (j : Nat) (x : Int) (hx : bs[j]? = some x) : w.cell? ⟨r, j, none⟩ = some (.int .u8 x) := by
  unfold World.cell?; rw [h.row]
  simp only [bcells, List.getElem?_toArray, List.getElem?_map, hx, Option.map_some]
  rfl
theorem Mem.frzr (h : Mem w b r mo pg bs) (j : Nat) : w.frozen? ⟨r, j, none⟩ = false := by unfold World.frozen?; rw [h.row]; simp
theorem Mem.pg32 (h : Mem w b r mo pg bs) : pg ≤ 32 := by have := h.le; have := h.most; omega
end
end Mm
end Go.Proofs.Ytagcdnkgochpnaa

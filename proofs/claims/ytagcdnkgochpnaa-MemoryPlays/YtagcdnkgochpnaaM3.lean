/- New bytes: lay, New, Grow, Fork. -/
import Derived.Test.YtagcdnkgochpnaaM2
import Derived.Deep.Heap
namespace Go.Proofs.Ytagcdnkgochpnaa
open Go.RowKit Mm
set_option linter.unusedVariables false
namespace Mm
theorem made_cells (n : Nat) : madeCells #[Value.int .u8 0] n = (bcells (List.replicate n 0)).toArray := by
  unfold bcells madeCells
  rw [List.map_replicate]
  apply Array.ext
  · simp
  · intro i h1 h2
    simp [Nat.mod_one]
theorem add_none (g off j : Nat) : (Addr.mk g off none).add j = ⟨g, off + j, none⟩ := by
  unfold Addr.add; split
  · rename_i h; rw [h]; rfl
  · rfl
theorem info8 : (Try.prog.info? 5).map (fun i => (i.zero, i.size, i.bytes)) = some (some (.int .u8 0), 1, 1) := by kernel_rfl
theorem size8 : (Try.prog.info? 5).map (·.size) = some 1 := by kernel_rfl
theorem bcells_one (bs : List Int) : ∀ u ∈ bcells bs, u.oneCell' = true := by
  intro u hu
  unfold bcells at hu
  obtain ⟨x, _, rfl⟩ := List.mem_map.1 hu
  rfl
theorem splice0 (n : Nat) (fs : List Int) (h : fs.length ≤ n) : splice (bcells (List.replicate n 0)) 0 (bcells fs) = bcells (fs ++ List.replicate (n - fs.length) 0) := by
  unfold splice bcells
  simp
theorem copy_run (w w1 : World) (o : Option Addr) (fs : List Int) (c p : Nat) (hg : w1.heap[w.heap.size]? = some (.cells (bcells (List.replicate (p * 65536) 0)).toArray 5 (0, 0))) (hB : Below w.heap.size w w1)
    (hle : fs.length ≤ p * 65536) (hs : 0 < fs.length → ∃ ad, o = some ad ∧ ∀ j v, (bcells fs)[j]? = some v → w1.cell? (ad.add j) = some v) :
    ∃ w2 k, (Builtin.copy_ #[60, 60] 3 #[.slice (some ⟨w.heap.size, 0, none⟩) (p * 65536) (p * 65536), .slice o fs.length c]).run Try.prog w1 = .ok (goInt k) w2 ∧
      w2.heap[w.heap.size]? = some (.cells (bcells (fs ++ List.replicate (p * 65536 - fs.length) 0)).toArray 5 (0, 0)) ∧ Below w.heap.size w w2 := by
  by_cases h0 : fs.length = 0
  · obtain rfl : fs = [] := List.eq_nil_of_length_eq_zero h0
    exact ⟨w1, _, run_copy_none (P := Try.prog) w1 _ _ _ 5 _ o _ _ _ c Try.underlying60 size8 (Nat.zero_min _), by simpa using hg, hB⟩
  · obtain ⟨ad, rfl, hsrc⟩ := hs (by omega)
    have hr := run_copy_row (P := Try.prog) w1 60 60 3 5 w.heap.size 0 (p * 65536) (p * 65536) ad fs.length c (bcells (List.replicate (p * 65536) 0)).toArray 5 (bcells fs) Try.underlying60 size8 hg
      (by rw [bcells_len]; exact (Nat.min_eq_left hle).symm) hsrc (by simp [bcells_len]; omega) (bcells_one fs)
    refine ⟨_, _, hr, ?_, below_setRow hB (Nat.le_refl _) _⟩
    rw [setRow_heap w1 _ _ _ _ _ hg]
    congr 2
    rw [← splice0 _ fs hle]
    simp [splice]
theorem lay_end {w w2 : World} {b : Nat} {x0 mo : Int} {v2 : Value} {p : Nat} {fs : List Int} (hbl : b < w.heap.size) (hcb : w2.heap[b]? = some (.cells #[.int .i64 x0, .int .i64 mo, v2] 62 (0, 0)))
    (hg : w2.heap[w.heap.size]? = some (.cells (bcells (fs ++ List.replicate (p * 65536 - fs.length) 0)).toArray 5 (0, 0))) (hB : Below w.heap.size w w2) (hle : fs.length ≤ p * 65536) (hfs : ∀ x ∈ fs, 0 ≤ x ∧ x ≤ 255)
    (hpm : (p : Int) ≤ mo) (hm : mo ≤ 32) :
    Mem ((w2.setCell ⟨b, 2, none⟩ (.slice (some ⟨w.heap.size, 0, none⟩) (p * 65536) (p * 65536))).setCell ⟨b, 0, none⟩ (.int .i64 p)) b w.heap.size mo p (fs ++ List.replicate (p * 65536 - fs.length) 0) ∧
    Frm [b] w ((w2.setCell ⟨b, 2, none⟩ (.slice (some ⟨w.heap.size, 0, none⟩) (p * 65536) (p * 65536))).setCell ⟨b, 0, none⟩ (.int .i64 p)) := by
  have hne : b ≠ w.heap.size := by omega
  have hl : (fs ++ List.replicate (p * 65536 - fs.length) 0).length = p * 65536 := by rw [List.length_append, List.length_replicate]; omega
  refine ⟨⟨?_, ?_, hl, hpm, hm, hne, ?_⟩, ?_⟩
  · rw [heap_setCell_same _ b 0 _ _ _ (heap_setCell_same w2 b 2 _ _ _ hcb), hl]
    rfl
  · rw [Below.heap_setCell _ _ _ _ (Ne.symm hne), Below.heap_setCell _ _ _ _ (Ne.symm hne)]; exact hg
  · intro x hx
    rcases List.mem_append.1 hx with h | h
    · exact hfs x h
    · rw [List.mem_replicate] at h; rw [h.2]; omega
  · exact ((Frm.of hB).trans (Frm.set b 2 w2 _)).trans (Frm.set b 0 _ _)
end Mm
set_option maxHeartbeats 2000000 in
theorem mLay {w : World} {b : Nat} {x0 mo : Int} {v2 : Value} (hblk : w.heap[b]? = some (.cells #[.int .i64 x0, .int .i64 mo, v2] 62 (0, 0))) (p : Nat) (hpm : (p : Int) ≤ mo) (hm : mo ≤ 32)
    (fs : List Int) (hfs : ∀ x ∈ fs, 0 ≤ x ∧ x ≤ 255) (o : Option Addr) (c : Nat) (hle : fs.length ≤ p * 65536) (hsrc : 0 < fs.length → ∃ g off : Nat, o = some ⟨g, off, none⟩ ∧ ∀ j v, (bcells fs)[j]? = some v → w.cell? ⟨g, off + j, none⟩ = some v) :
    Calls Try.prog 23 #[.pointer (some ⟨b, 0, none⟩), .int .i64 p, .slice o fs.length c] w fun e w' => e = .returned (.tuple #[]) ∧ (∃ r, w.heap.size ≤ r ∧ Mem w' b r mo p (fs ++ List.replicate (p * 65536 - fs.length) 0)) ∧ Frm [b] w w' := by
  have hp : p ≤ 32 := by omega
  have hbl : b < w.heap.size := (Array.getElem?_eq_some_iff.1 hblk).1
  have hmk := run_make_row' (P := Try.prog) 60 5 (.int .u8 0) 1 Try.underlying60 info8 rfl .i64 .i64 (p * 65536) (by omega) (by omega) w
  rw [made_cells, show ((p * 65536 : Nat) : Int) = (p : Int) * 65536 by omega] at hmk
  have hB1 : Below w.heap.size w (w.alloc (.cells (bcells (List.replicate (p * 65536) 0)).toArray 5)) := (Below.refl _ _).alloc (Nat.le_refl _) _
  have hg1 : (w.alloc (.cells (bcells (List.replicate (p * 65536) 0)).toArray 5)).heap[w.heap.size]? = some (.cells (bcells (List.replicate (p * 65536) 0)).toArray 5 (0, 0)) := Go.Deep.blk_alloc_new _ _
  have hsrc1 : 0 < fs.length → ∃ ad : Addr, o = some ad ∧ ∀ j v, (bcells fs)[j]? = some v → (w.alloc (.cells (bcells (List.replicate (p * 65536) 0)).toArray 5)).cell? (ad.add j) = some v := by
    intro h0
    obtain ⟨g, off, he, hc⟩ := hsrc h0
    exact ⟨⟨g, off, none⟩, he, fun j v hj => by
      have := hc j v hj
      rw [add_none, hB1.cell (World.block_lt_of_cell? _ _ this)]; exact this⟩
  generalize w.alloc (.cells (bcells (List.replicate (p * 65536) 0)).toArray 5) = w1 at *
  obtain ⟨L, hL⟩ : ∃ L, L = fs.length := ⟨_, rfl⟩
  rw [← hL]
  have HL := hideR hL
  have HLE := hideR hle
  have HS := hideR hsrc1
  have HG := hideR hg1
  have HB := hideR hB1
  have HK := hideR hblk
  clear hL hle hsrc hsrc1 hg1 hB1 hblk
  obtain ⟨w2, k, hcp, HG2, hB2⟩ := copy_run w w1 o fs c p HG.out HB.out HLE.out HS.out
  rw [← HL.out] at hcp
  have cb := HK.out
  rw [← hB2.block b hbl] at cb
  have c0 : w2.cell? ⟨b, 0, none⟩ = some (.int .i64 x0) := by unfold World.cell?; rw [cb]; rfl
  have c2 : w2.cell? ⟨b, 2, none⟩ = some v2 := by unfold World.cell?; rw [cb]; rfl
  have f0 : ∀ j, w2.frozen? ⟨b, j, none⟩ = false := by intro j; unfold World.frozen?; rw [cb]; simp
  have hst := run_call_store (P := Try.prog) Try.func37 (by kernel_rfl) (by kernel_rfl) (by kernel_rfl) (by kernel_rfl) (a := ⟨b, 0, none⟩) (k := .i64) (y := (p : Int)) (u := .int .i64 x0) (w := w2.setCell ⟨b, 2, none⟩ (.slice (some ⟨w.heap.size, 0, none⟩) (p * 65536) (p * 65536))) (by rw [World.cell?_setCell_other _ _ _ _ (by simp)]; exact c0) (by rw [World.frozen?_setCell]; exact f0 0)
  have f2 := f0 2
  have HCB := hideR cb
  have HG3 := hideR HG2
  have HB2 := hideR hB2
  clear cb f0 HG2 hB2 HS HG HB
  go_enter Try.func23, Try.ntmps23
  go_wp2
  go_end0
  go_wp2
  go_end0
  rw [HL.out]
  have hE := lay_end hbl HCB.out HG3.out HB2.out HLE.out hfs hpm hm
  exact ⟨rfl, ⟨_, Nat.le_refl _, hE.1⟩, hE.2⟩
def mostp (mi ma : Int) (has : Bool) : Int := if has = true then max mi (min ma 32) else 32
set_option maxHeartbeats 1000000 in
theorem mMost {w : World} (mi ma : Int) (has : Bool) :
    Calls Try.prog 22 #[.agg #[.int .i64 mi, .int .i64 ma, .bool has]] w fun e w' => e = .returned (.int .i64 (mostp mi ma has)) ∧ Below w.heap.size w w' := by
  have HB := hideR ((Below.refl w.heap.size w).alloc (Nat.le_refl _) (.cells #[.int .i64 mi, .int .i64 ma, .bool has] 23))
  cases has
  · go_enter Try.func22, Try.ntmps22
    go_wp2
    go_ret
    exact ⟨rfl, HB.out⟩
  · obtain ⟨z, hz⟩ : ∃ z, z = mostp mi ma true := ⟨_, rfl⟩
    have HZ := hideR hz
    rw [← hz]
    clear hz
    go_enter Try.func22, Try.ntmps22
    go_wp2
    all_goals (
      go_ret
      refine ⟨?_, HB.out⟩
      rw [HZ.out]
      simp [mostp]
      omega)
theorem mostp_le {mi ma : Int} {has : Bool} (h : mi ≤ 32) : mi ≤ mostp mi ma has ∧ mostp mi ma has ≤ 32 := by
  unfold mostp; split <;> omega
namespace Mm
theorem new_cell {w u : World} {cs : Array Value} {t : TypeId} (o2 : Obj) (hu : Below (w.alloc (.cells cs t)).heap.size (w.alloc (.cells cs t)) u) (j : Nat) (v : Value) (hv : cs[j]? = some v) : (u.alloc o2).cell? ⟨w.heap.size, j, none⟩ = some v := by
  have h1 : (w.alloc (.cells cs t)).heap.size = w.heap.size + 1 := by show (w.heap.push _).size = _; simp
  have h2 : w.heap.size < u.heap.size := by have := hu.size; omega
  have h3 : (u.alloc o2).heap[w.heap.size]? = some (.cells cs t) := by rw [Below.heap_alloc u o2 _ h2, hu.block _ (by omega)]; exact Go.Deep.blk_alloc_new _ _
  unfold World.cell?; rw [h3]; exact hv
theorem new_below {w u : World} {cs : Array Value} {t : TypeId} (o2 : Obj) (hu : Below (w.alloc (.cells cs t)).heap.size (w.alloc (.cells cs t)) u) : Below w.heap.size w (u.alloc o2) ∧ w.heap.size ≤ u.heap.size ∧ (u.alloc o2).heap.size = u.heap.size + 1 := by
  have h1 : (w.alloc (.cells cs t)).heap.size = w.heap.size + 1 := by show (w.heap.push _).size = _; simp
  have h2 : w.heap.size ≤ u.heap.size := by have := hu.size; omega
  exact ⟨(((Below.refl w.heap.size w).alloc (Nat.le_refl _) _).trans (hu.mono (by omega))).alloc h2 _, h2, by show (u.heap.push _).size = _; simp⟩
/-- a new memory: a block of its own, so many pages of zeros -/
def NewM (w : World) (mo : Int) (p : Nat) (v : Value) (w' : World) : Prop :=
  ∃ b r Z, v = .pointer (some ⟨b, 0, none⟩) ∧ w.heap.size ≤ b ∧ w.heap.size ≤ r ∧ Mem w' b r mo p Z ∧ Hid (Z = List.replicate (p * 65536) 0)
end Mm
set_option maxHeartbeats 2000000 in
theorem mNew {w : World} (p : Nat) (ma : Int) (has : Bool) (hp : p ≤ 32) :
    Calls Try.prog 8 #[.agg #[.int .i64 p, .int .i64 ma, .bool has]] w fun e w' => (∃ v, e = .returned (.tuple #[v, .int .i64 0]) ∧ NewM w (mostp p ma has) p v w') ∧ Below w.heap.size w w' := by
  have hmp := mostp_le (mi := p) (ma := ma) (has := has) (by omega)
  have HB := hideR ((Below.refl w.heap.size w).alloc (Nat.le_refl _) (.cells #[.int .i64 p, .int .i64 ma, .bool has] 23))
  have HM := fun u => hideR (mMost (w := u) p ma has)
  have d1 : decide ((p : Int) < 0) = false := decide_eq_false (by omega)
  have d2 : decide ((p : Int) > 32) = false := decide_eq_false (by omega)
  generalize mostp p ma has = mo at *
  go_enter Try.func8, Try.ntmps8
  go_wp2_with (go_at_call 22; refine (HM _).out.mono ?_; rintro e u ⟨rfl, hu⟩; have cl := new_cell (.cells #[.int .i64 0, .int .i64 mo, .slice none 0 0] 62) hu 0 _ rfl; have HU := hideR hu; clear hu)
  have hN := new_below (.cells #[.int .i64 0, .int .i64 mo, .slice none 0 0] 62) HU.out
  have HL := hideR (mLay (w := u.alloc (.cells #[.int .i64 0, .int .i64 mo, .slice none 0 0] 62)) (b := u.heap.size) (Go.Deep.blk_alloc_new _ _) p hmp.1 hmp.2 [] (by simp) none 0 (by simp) (by simp))
  have HN := hideR hN
  clear hN
  go_wp2_with (go_at_call 23; refine HL.out.mono ?_; rintro e u3 ⟨rfl, ⟨r, hr, hmem⟩, hf⟩; have HE := hideR (And.intro hr (And.intro hmem hf)); clear hr hmem hf)
  go_ret2
  obtain ⟨hr, hmem, hf⟩ := HE.out
  obtain ⟨n1, n2, n3⟩ := HN.out
  refine ⟨⟨_, rfl, u.heap.size, r, _, rfl, n2, by omega, ?_, rfl⟩, hf.below n1 (by simpa using n2)⟩
  simpa using hmem
end Go.Proofs.Ytagcdnkgochpnaa

/- What leb.read answers: how many groups there are, their lowest 64 bits and the last of them, or why there are none; nothing that was there before is changed. -/
import Derived.Test.YtpigdljibfddlaaRefs
namespace Go.Proofs.Ytpigdljibfddlaa
open Go.RowKit

theorem three_ret' {a b : Int} {p p' q q' : Bool} (h : a = b) (h' : p = p') (h'' : q = q') : Ending.returned (.tuple #[.int .u8 a, .bool p, .bool q]) = .returned (.tuple #[.int .u8 b, .bool p', .bool q']) := by rw [h, h', h'']

set_option maxHeartbeats 400000 in
theorem c27_end (ba bs : Nat) (t : ByteArray) (w : World) (hs : w.cell? ⟨bs, 0, none⟩ = some (.string t)) (ha : w.cell? ⟨ba, 0, none⟩ = some (.int .i64 t.size)) :
    Calls Try.prog 27 #[.pointer (some ⟨ba, 0, none⟩), .pointer (some ⟨bs, 0, none⟩)] w fun e w' => e = .returned (.tuple #[.int .u8 0, .bool false, .bool false]) ∧ w' = w := by
  go_enter Try.func27, Try.ntmps27
  go_wp2
  go_ret3
  exact ⟨rfl, rfl⟩

set_option maxHeartbeats 400000 in
theorem c27_on (ba bs k : Nat) (t : ByteArray) (q : Bool) (w : World) (hlen : t.size ≤ 140737488351232) (hs : w.cell? ⟨bs, 0, none⟩ = some (.string t)) (ha : w.cell? ⟨ba, 0, none⟩ = some (.int .i64 k)) (hf : w.frozen? ⟨ba, 0, none⟩ = false) (hk : k < t.size)
    (hq : decide (Leb.bt t k < 128) = q) :
    Calls Try.prog 27 #[.pointer (some ⟨ba, 0, none⟩), .pointer (some ⟨bs, 0, none⟩)] w fun e w' =>
      e = .returned (.tuple #[.int .u8 (Leb.bt t k % 128), .bool q, .bool true]) ∧ w' = w.setCell ⟨ba, 0, none⟩ (.int .i64 ((k : Int) + 1)) := by
  have hg := Leb.get_bt t
  have hbd := Leb.bt_bd t k
  have hmk := Leb.and127_u8 _ hbd.1 hbd.2
  have hne : ((k : Int) == (t.size : Int)) = false := by simp; omega
  have HQ := hide hq
  clear hq
  go_enter Try.func27, Try.ntmps27
  go_wp2
  go_ret3
  exact ⟨three_ret' rfl (unhide HQ) rfl, rfl⟩

set_option maxHeartbeats 400000 in
theorem c21_arg (s : ByteArray) (a bits : Int) (w : World) (hask : Leb.asks s.size a bits = false) :
    Calls Try.prog 21 #[.string s, .int .i64 a, .int .i64 bits] w fun e w' =>
      e = .returned (.tuple #[.agg #[.int .u64 0, .int .i64 0, .int .u8 0], .int .i64 1]) ∧ Below w.heap.size w w' := by
  have hno := Leb.asks_no hask
  clear hask
  have hway : ((bits != 32) = true ∧ (bits != 64) = true) ∨ (((bits != 32) = false ∨ ((bits != 32) = true ∧ (bits != 64) = false)) ∧ (a < 0 ∨ (0 ≤ a ∧ (s.size : Int) < a))) := by
    simp only [bne_iff_ne, bne_eq_false_iff_eq]
    omega
  clear hno
  rcases hway with ⟨h1, h2⟩ | ⟨h1 | ⟨h1, h2⟩, h3 | ⟨h3, h4⟩⟩
  all_goals
    go_enter Try.func21, Try.ntmps21
    go_wp2
    exact bodyPost_ret (v := .tuple #[.agg #[.int .u64 0, .int .i64 0, .int .u8 0], .int .i64 1]) (by simp [results, Try.results21, go_sem]) rfl ⟨rfl, by first | exact ((Below.refl _ _).alloc (Nat.le_refl _) _)⟩

set_option maxHeartbeats 400000 in
theorem c25 (t : ByteArray) (w : World) :
    Calls Try.prog 25 #[.string t] w fun e w' =>
      e = .returned (.func (.func 27) #[] #[.pointer (some ⟨w.heap.size + 1, 0, none⟩), .pointer (some ⟨w.heap.size, 0, none⟩)]) ∧ w' = (w.alloc (.cells #[.string t] 9)).alloc (.cells #[.int .i64 0] 3) := by
  go_enter Try.func25, Try.ntmps25
  go_wp2
  go_ret
  exact ⟨rfl, rfl⟩

theorem bt_extract (s : ByteArray) (a i : Nat) (ha : a ≤ s.size) : Leb.bt (s.extract a s.size) i = Leb.from_ s a i := by
  unfold Leb.from_ Leb.bt
  have hsz : (s.extract a s.size).size = s.size - a := by simp [ByteArray.size_extract]
  by_cases h : a + i < s.size
  · rw [dif_pos (by omega), dif_pos h]
    simp [ByteArray.getElem_extract]
  · rw [dif_neg (by omega), dif_neg h]

theorem step_low (f : Nat → Int) (k : Nat) (hk : k ≤ 9) : Go.bits .or .u64 (Leb.val f k) (IntKind.u64.wrap (f k % 128 * 2 ^ (7 * k))) = Leb.low64 (Leb.val f (k + 1)) := by
  have hv := Leb.val_bd f k
  have hg : 0 ≤ f k % 128 ∧ f k % 128 ≤ 127 := by omega
  have hkk : k = 0 ∨ k = 1 ∨ k = 2 ∨ k = 3 ∨ k = 4 ∨ k = 5 ∨ k = 6 ∨ k = 7 ∨ k = 8 ∨ k = 9 := by omega
  have e : Leb.val f (k + 1) = Leb.val f k + 128 ^ k * (f k % 128) := rfl
  rw [e, IntKind.wrap_u64]
  unfold Leb.low64
  generalize Leb.val f k = v at *
  generalize f k % 128 = g at *
  clear e
  rcases hkk with rfl | rfl | rfl | rfl | rfl | rfl | rfl | rfl | rfl | rfl
  all_goals
    simp only [Int.reducePow, Nat.reduceMul, Int.mul_one, Int.one_mul] at hv ⊢
  · rw [Leb.or_u64' 0 _ _ (by omega) (by omega) (by simp only [Int.reducePow]; omega) (by omega) (by simp only [Int.reducePow]; omega) (by omega)]; omega
  · rw [Leb.or_u64' 7 _ _ (by omega) (by omega) (by simp only [Int.reducePow]; omega) (by omega) (by simp only [Int.reducePow]; omega) (by omega)]; omega
  · rw [Leb.or_u64' 14 _ _ (by omega) (by omega) (by simp only [Int.reducePow]; omega) (by omega) (by simp only [Int.reducePow]; omega) (by omega)]; omega
  · rw [Leb.or_u64' 21 _ _ (by omega) (by omega) (by simp only [Int.reducePow]; omega) (by omega) (by simp only [Int.reducePow]; omega) (by omega)]; omega
  · rw [Leb.or_u64' 28 _ _ (by omega) (by omega) (by simp only [Int.reducePow]; omega) (by omega) (by simp only [Int.reducePow]; omega) (by omega)]; omega
  · rw [Leb.or_u64' 35 _ _ (by omega) (by omega) (by simp only [Int.reducePow]; omega) (by omega) (by simp only [Int.reducePow]; omega) (by omega)]; omega
  · rw [Leb.or_u64' 42 _ _ (by omega) (by omega) (by simp only [Int.reducePow]; omega) (by omega) (by simp only [Int.reducePow]; omega) (by omega)]; omega
  · rw [Leb.or_u64' 49 _ _ (by omega) (by omega) (by simp only [Int.reducePow]; omega) (by omega) (by simp only [Int.reducePow]; omega) (by omega)]; omega
  · rw [Leb.or_u64' 56 _ _ (by omega) (by omega) (by simp only [Int.reducePow]; omega) (by omega) (by simp only [Int.reducePow]; omega) (by omega)]; omega
  · rw [Leb.or_u64' 63 _ _ (by omega) (by omega) (by simp only [Int.reducePow]; omega) (by omega) (by simp only [Int.reducePow]; omega) (by omega)]; omega

/-- What is known of the world at the round's head: the four blocks of the call, and that nothing older is changed. -/
structure RdInv (B : Nat) (w wr : World) (t : ByteArray) (k : Nat) (l : Int) : Prop where
  out : wr.heap[B]? = some (.cells #[.int .u64 0, .int .i64 0, .int .u8 0] 44 (0, 0))
  str : wr.heap[B + 1]? = some (.cells #[.string t] 9 (0, 0))
  pos : wr.heap[B + 1 + 1]? = some (.cells #[.int .i64 k] 3 (0, 0))
  rd : wr.heap[B + 1 + 1 + 1]? = some (.cells #[.int .u64 l, .int .i64 k, .int .u8 0] 44 (0, 0))
  bel : Below B w wr

theorem set_here {w : World} {b j : Nat} {u : Value} {cs : Array Value} {t : TypeId} (h : w.heap[b]? = some (.cells cs t (0, 0))) : (w.setCell ⟨b, j, none⟩ u).heap[b]? = some (.cells (cs.setIfInBounds j u) t (0, 0)) := by
  simp [World.setCell, Array.getElem?_modify, h]
theorem set_there {w : World} {b c j : Nat} {u : Value} {x : Obj} (h : w.heap[c]? = some x) (hne : c ≠ b) : (w.setCell ⟨b, j, none⟩ u).heap[c]? = some x := by
  rw [Below.heap_setCell _ _ _ _ hne]; exact h
theorem RdInv.draws {B : Nat} {w wr : World} {t : ByteArray} {k : Nat} {l : Int} (h : RdInv B w wr t k l) (n : Nat) : RdInv B w (wr.drewN n) t k l :=
  ⟨h.out, h.str, h.pos, h.rd, ⟨h.bel.os, h.bel.tape, h.bel.output, h.bel.size, h.bel.block⟩⟩
theorem RdInv.next {B : Nat} {w wr : World} {t : ByteArray} {k : Nat} {l : Int} (h : RdInv B w wr t k l) (l' : Int) :
    RdInv B w (((wr.setCell ⟨B + 1 + 1, 0, none⟩ (.int .i64 ((k : Int) + 1))).setCell ⟨B + 1 + 1 + 1, 0, none⟩ (.int .u64 l')).setCell ⟨B + 1 + 1 + 1, 1, none⟩ (.int .i64 ((k : Int) + 1))) t (k + 1) l' :=
  ⟨set_there (set_there (set_there h.out (by omega)) (by omega)) (by omega), set_there (set_there (set_there h.str (by omega)) (by omega)) (by omega), set_there (set_there (set_here h.pos) (by omega)) (by omega),
    set_here (set_here (set_there h.rd (by omega))), ((h.bel.setCell (by show B ≤ B + 1 + 1; omega) _).setCell (by show B ≤ B + 1 + 1 + 1; omega) _).setCell (by show B ≤ B + 1 + 1 + 1; omega) _⟩
theorem cell_of {w : World} {b j : Nat} {cs : Array Value} {t : TypeId} (h : w.heap[b]? = some (.cells cs t (0, 0))) : w.cell? ⟨b, j, none⟩ = cs[j]? := by simp [World.cell?, h]
theorem free_of {w : World} {b j : Nat} {cs : Array Value} {t : TypeId} (h : w.heap[b]? = some (.cells cs t (0, 0))) : w.frozen? ⟨b, j, none⟩ = false := by simp [World.frozen?, h]


/-- The same in the midst of a round: the place is one on, the count is not yet. -/
structure RdMid (B : Nat) (w wr : World) (t : ByteArray) (k : Nat) (l : Int) : Prop where
  out : wr.heap[B]? = some (.cells #[.int .u64 0, .int .i64 0, .int .u8 0] 44 (0, 0))
  str : wr.heap[B + 1]? = some (.cells #[.string t] 9 (0, 0))
  pos : wr.heap[B + 1 + 1]? = some (.cells #[.int .i64 ((k : Int) + 1)] 3 (0, 0))
  rd : wr.heap[B + 1 + 1 + 1]? = some (.cells #[.int .u64 l, .int .i64 k, .int .u8 0] 44 (0, 0))
  bel : Below B w wr
theorem RdInv.mid {B : Nat} {w wr : World} {t : ByteArray} {k : Nat} {l : Int} (h : RdInv B w wr t k l) (l' : Int) (n : Nat) :
    RdMid B w (((wr.drewN n).setCell ⟨B + 1 + 1, 0, none⟩ (.int .i64 ((k : Int) + 1))).setCell ⟨B + 1 + 1 + 1, 0, none⟩ (.int .u64 l')).drew t k l' :=
  ⟨set_there (set_there h.out (by omega)) (by omega), set_there (set_there h.str (by omega)) (by omega), set_there (set_here h.pos) (by omega),
    set_here (set_there h.rd (by omega)), Below.drew (((h.draws n).bel.setCell (by show B ≤ B + 1 + 1; omega) _).setCell (by show B ≤ B + 1 + 1 + 1; omega) _)⟩
theorem RdMid.next {B : Nat} {w wr : World} {t : ByteArray} {k : Nat} {l : Int} (h : RdMid B w wr t k l) : RdInv B w (wr.setCell ⟨B + 1 + 1 + 1, 1, none⟩ (.int .i64 ((k : Int) + 1))) t (k + 1) l :=
  ⟨set_there h.out (by omega), set_there h.str (by omega), set_there h.pos (by omega), set_here h.rd, h.bel.setCell (by show B ≤ B + 1 + 1 + 1; omega) _⟩

/-- What leb.read hands back, of k groups (0: there are none). -/
def rdVal (f : Nat → Int) (k : Nat) : Value :=
  if k = 0 then .tuple #[.agg #[.int .u64 0, .int .i64 0, .int .u8 0], .int .i64 10] else .tuple #[.agg #[.int .u64 (Leb.low64 (Leb.val f k)), .int .i64 k, .int .u8 (f (k - 1))], .int .i64 0]
theorem rdVal_none {f : Nat → Int} {k : Nat} (h : k = 0) : rdVal f k = .tuple #[.agg #[.int .u64 0, .int .i64 0, .int .u8 0], .int .i64 10] := by unfold rdVal; rw [if_pos h]
theorem rdVal_some {f : Nat → Int} {k n : Nat} (h : k = n + 1) (hf : 0 ≤ f n ∧ f n < 128) : rdVal f k = .tuple #[.agg #[.int .u64 (Leb.low64 (Leb.val f (n + 1))), .int .i64 ((n : Int) + 1), .int .u8 (f n % 128)], .int .i64 0] := by
  subst h
  unfold rdVal
  rw [if_neg (by omega), Nat.add_sub_cancel, show f n % 128 = f n by omega]
  rfl
theorem heap_alloc_of {w : World} {o x : Obj} {b : Nat} (h : w.heap[b]? = some x) : (w.alloc o).heap[b]? = some x := by
  rw [Below.heap_alloc _ _ _ (lt_of_block h)]; exact h
theorem heap_alloc_new' (w : World) (o : Obj) {b : Nat} (h : b = w.heap.size) : (w.alloc o).heap[b]? = some o := by
  subst h
  show (w.heap.push o)[w.heap.size]? = _
  simp
theorem RdInv.start (w : World) (t : ByteArray) :
    RdInv w.heap.size w ((((w.alloc (.cells #[.int .u64 0, .int .i64 0, .int .u8 0] 44)).alloc (.cells #[.string t] 9)).alloc (.cells #[.int .i64 0] 3)).alloc (.cells #[.int .u64 0, .int .i64 0, .int .u8 0] 44)) t 0 (Leb.low64 (Leb.val (Leb.bt t) 0)) :=
  ⟨heap_alloc_of (heap_alloc_of (heap_alloc_of (heap_alloc_new' _ _ rfl))), heap_alloc_of (heap_alloc_of (heap_alloc_new' _ _ (by simp))), heap_alloc_of (heap_alloc_new' _ _ (by simp)), heap_alloc_new' _ _ (by simp),
    ((((Below.refl _ _).alloc (Nat.le_refl _) _).alloc (by simp) _).alloc (by simp; omega) _).alloc (by simp; omega) _⟩
theorem RdInv.lower {B : Nat} {w wr wr' : World} {t : ByteArray} {k : Nat} {l l' : Int} (h : RdInv B w wr t k l) (h' : RdInv B w wr' t (k + 1) l') (hk : k < 10) :
    10 - (intOf ((wr'.cell? ⟨B + 1 + 1, 0, none⟩).getD (.int .i64 0))).toNat < 10 - (intOf ((wr.cell? ⟨B + 1 + 1, 0, none⟩).getD (.int .i64 0))).toNat := by
  rw [cell_of h.pos, cell_of h'.pos]
  simp [intOf]
  omega

theorem bel_set {B b j : Nat} {w wr : World} {u : Value} (h : Below B w wr) (hb : B ≤ b) : Below B w (wr.setCell ⟨b, j, none⟩ u) := h.setCell hb u
theorem ret_val {a b : Value} (h : b = a) : Ending.returned a = .returned b := by rw [h]
end Go.Proofs.Ytpigdljibfddlaa

/- Instructions in rows of one's own, as they are made. -/
import Derived.Test.YtlpnoelolkbmmaaDoorK10g
import Derived.Test.YtlpnoelolkbmmaaDoorK1
namespace Go.Proofs.YtlpnoelolkbmmaaDoor
open Go.RowKit Rep
set_option linter.unusedVariables false
namespace Rep
/-- an instruction's seven cells make up a block -/
def Blk (w : World) (p : Nat) (op a b n : Int) (v4 v5 v6 : Value) : Prop := w.heap[p]? = some (.cells #[.int .i64 op, .int .i64 a, .int .i64 b, .int .i64 n, v4, v5, v6] 26 (0, 0))
theorem Blk.new (w : World) (p : Nat) (op a b n : Int) (v4 v5 v6 : Value) (hp : p = w.heap.size) : Blk (w.alloc (.cells #[.int .i64 op, .int .i64 a, .int .i64 b, .int .i64 n, v4, v5, v6] 26)) p op a b n v4 v5 v6 := by
  subst hp; exact heap_alloc_new w _
theorem Blk.cell {w : World} {p : Nat} {op a b n : Int} {v4 v5 v6 : Value} (h : Blk w p op a b n v4 v5 v6) (i : Nat) (v : Value) (hv : #[Value.int .i64 op, .int .i64 a, .int .i64 b, .int .i64 n, v4, v5, v6][i]? = some v) : w.cell? ⟨p, i, none⟩ = some v := by
  unfold World.cell?
  rw [h]
  exact hv
theorem Blk.frz {w : World} {p : Nat} {op a b n : Int} {v4 v5 v6 : Value} (h : Blk w p op a b n v4 v5 v6) (i : Nat) : w.frozen? ⟨p, i, none⟩ = false := by
  unfold World.frozen?
  rw [h]
  simp
theorem Blk.keep {w w' : World} {p : Nat} {op a b n : Int} {v4 v5 v6 : Value} (h : Blk w p op a b n v4 v5 v6) (hk : w'.heap[p]? = w.heap[p]?) : Blk w' p op a b n v4 v5 v6 := by unfold Blk at *; rw [hk]; exact h
theorem Blk.set4 {w : World} {p : Nat} {op a b n : Int} {v4 v5 v6 : Value} (h : Blk w p op a b n v4 v5 v6) (v : Value) : Blk (w.setCell ⟨p, 4, none⟩ v) p op a b n v v5 v6 := heap_setCell_same w p 4 _ _ v h
theorem Blk.set5 {w : World} {p : Nat} {op a b n : Int} {v4 v5 v6 : Value} (h : Blk w p op a b n v4 v5 v6) (v : Value) : Blk (w.setCell ⟨p, 5, none⟩ v) p op a b n v4 v v6 := heap_setCell_same w p 5 _ _ v h
theorem Blk.set6 {w : World} {p : Nat} {op a b n : Int} {v4 v5 v6 : Value} (h : Blk w p op a b n v4 v5 v6) (v : Value) : Blk (w.setCell ⟨p, 6, none⟩ v) p op a b n v4 v5 v := heap_setCell_same w p 6 _ _ v h
theorem Blk.lt {w : World} {p : Nat} {op a b n : Int} {v4 v5 v6 : Value} (h : Blk w p op a b n v4 v5 v6) : p < w.heap.size := (Array.getElem?_eq_some_iff.1 h).1
/-- all blocks but one are kept -/
def But (p : Nat) (w w' : World) : Prop := w.grownBy w' (some p)
theorem But.below {p : Nat} {w w' : World} (h : But p w w') : Below p w w' ∨ w.heap.size < p := by
  by_cases hp : p ≤ w.heap.size
  · exact .inl ⟨h.os, h.tape, h.output, h.size, fun k hk => h.block k (by omega) (fun e => by injection e with e; omega)⟩
  · exact .inr (by omega)
/-- what an instruction's copy is made of -/
def Pc (d : Nat) : Type := Ins (IL d) × Value × Value × Value
def pc7 {d : Nat} (p : Pc d) : List Value := [.int .i64 p.1.op, .int .i64 p.1.a, .int .i64 p.1.b, .int .i64 p.1.n, p.2.1, p.2.2.1, p.2.2.2]
def flat7 {d : Nat} (ps : List (Pc d)) : List Value := ps.flatMap pc7
structure PcOk {d : Nat} (w : World) (S : Nat → Prop) (p : Pc d) : Prop where
  labels : IntsS w S p.2.1 p.1.labels
  body : AtS w S d p.2.2.1 p.1.body
  els : AtS w S d p.2.2.2 p.1.els
theorem PcOk.keep {d : Nat} {w w' : World} {S S' : Nat → Prop} (hk : ∀ k, S k → S' k ∧ w'.heap[k]? = w.heap[k]?) {p : Pc d} (h : PcOk w S p) : PcOk w' S' p := ⟨h.labels.keep hk, AtS.keep hk _ _ _ h.body, AtS.keep hk _ _ _ h.els⟩
theorem flat7_len {d : Nat} : ∀ ps : List (Pc d), (flat7 ps).length = ps.length * 7
  | [] => rfl
  | p :: r => by
    show (pc7 p ++ flat7 r).length = (r.length + 1) * 7
    rw [List.length_append, flat7_len r]
    show 7 + _ = _
    omega
theorem flat7_get {d : Nat} : ∀ (ps : List (Pc d)) (i : Nat) (p : Pc d), ps[i]? = some p → ∀ k v, (pc7 p)[k]? = some v → (flat7 ps)[i * 7 + k]? = some v
  | [], _, _, h, _, _, _ => by simp at h
  | q :: r, 0, p, h, k, v, hv => by
    have : q = p := by simpa using h
    subst this
    show (pc7 q ++ flat7 r)[0 * 7 + k]? = some v
    have hk : k < (pc7 q).length := (List.getElem?_eq_some_iff.1 hv).1
    rw [Nat.zero_mul, Nat.zero_add, List.getElem?_append_left hk]
    exact hv
  | q :: r, i + 1, p, h, k, v, hv => by
    have h' : r[i]? = some p := by simpa using h
    show (pc7 q ++ flat7 r)[(i + 1) * 7 + k]? = some v
    rw [List.getElem?_append_right (by show 7 ≤ _; omega), show (i + 1) * 7 + k - (pc7 q).length = i * 7 + k by show (i + 1) * 7 + k - 7 = _; omega]
    exact flat7_get r i p h' k v hv
theorem flat7_one {d : Nat} (ps : List (Pc d)) (h : ∀ p ∈ ps, p.2.1.oneCell' = true ∧ p.2.2.1.oneCell' = true ∧ p.2.2.2.oneCell' = true) : ∀ u ∈ flat7 ps, u.oneCell' = true := by
  intro u hu
  obtain ⟨p, hp, hu⟩ := List.mem_flatMap.1 hu
  obtain ⟨h1, h2, h3⟩ := h p hp
  simp only [pc7, List.mem_cons, List.mem_nil_iff, or_false] at hu
  rcases hu with rfl | rfl | rfl | rfl | rfl | rfl | rfl
  · rfl
  · rfl
  · rfl
  · rfl
  · exact h1
  · exact h2
  · exact h3
/-- copies that fill a row of one's own are instructions in new memory -/
theorem at_of_row {d : Nat} {w : World} {B : Nat} {t : Value} (l : List (Ins (IL d))) (ps : List (Pc d)) (hm : ps.map (·.1) = l) (hn : l.length ≤ 9223372036854775807) (ho : w.ownsRow B 26 7 t ps.length (flat7 ps)) (hp : ∀ p ∈ ps, PcOk w (Since B w t.ownBlock) p) :
    AtS w (Since B w none) (d + 1) t l := by
  have hlen : ps.length = l.length := by rw [← hm, List.length_map]
  have hup : ∀ k, Since B w t.ownBlock k → Since B w none k ∧ w.heap[k]? = w.heap[k]? := fun k hk => ⟨⟨hk.1, hk.2.1, by simp⟩, rfl⟩
  rcases ho.2 with ⟨rfl, h0⟩ | ⟨g, cap, cur, rfl, hbg, hg, _, _, _, _⟩
  · have : l = [] := List.length_eq_zero_iff.1 (by omega)
    subst this
    exact ⟨by simp, .inl ⟨rfl, none, 0, rfl⟩⟩
  · have hgl : g < w.heap.size := (Array.getElem?_eq_some_iff.1 hg).1
    refine ⟨hn, .inr ⟨g, 0, cap, by rw [hlen], fun i x hx => ?_⟩⟩
    have hi : i < ps.length := by rw [hlen]; exact (List.getElem?_eq_some_iff.1 hx).1
    obtain ⟨p, hpi⟩ : ∃ p, ps[i]? = some p := ⟨_, List.getElem?_eq_getElem hi⟩
    have hpx : p.1 = x := by
      have : (ps.map (·.1))[i]? = some p.1 := by rw [List.getElem?_map, hpi]; rfl
      rw [hm, hx] at this
      exact (Option.some.inj this).symm
    subst hpx
    have hok := (hp p (List.mem_of_getElem? hpi)).keep hup
    have hc : ∀ k v, (pc7 p)[k]? = some v → w.cell? ⟨g, 0 + i * 7 + k, none⟩ = some v := fun k v hv => by
      have := ho.cells (g := g) rfl (i * 7 + k) v (flat7_get ps i p hpi k v hv)
      rw [add_addr] at this
      rw [Nat.add_assoc]
      exact this
    exact ⟨⟨hbg, hgl, by simp⟩, hc 0 _ rfl, hc 1 _ rfl, hc 2 _ rfl, hc 3 _ rfl, ⟨_, hc 4 _ rfl, hok.labels⟩, ⟨_, hc 5 _ rfl, hok.body⟩, ⟨_, hc 6 _ rfl, hok.els⟩⟩
end Rep
theorem intInfo : (Tryd.prog.info? 3).map (fun i => (i.zero, i.size, i.bytes)) = some (some (.int .i64 0), 1, 8) := by kernel_rfl
theorem insInfo : (Tryd.prog.info? 26).map (fun i => (i.zero, i.size, i.bytes)) = some (some (.agg #[.int .i64 0, .int .i64 0, .int .i64 0, .int .i64 0, .slice none 0 0, .slice none 0 0, .slice none 0 0]), 7, 104) := by kernel_rfl
namespace Rep
theorem ints_cells {w : World} {ad : Addr} {n c : Nat} {l : List Int} (h : Ints w (.slice (some ad) n c) l) : ∀ j u, (l.map fun z => Value.int .i64 z)[j]? = some u → w.cell? (ad.add j) = some u := fun j u hj => by
  rw [List.getElem?_map] at hj
  obtain ⟨z, hz, rfl⟩ := Option.map_eq_some_iff.1 hj
  rcases h.2 with ⟨rfl, _⟩ | ⟨b, off, cap, hv, hc⟩
  · simp at hz
  · injection hv with hv
    injection hv with hv
    subst hv
    have := hc j z hz
    rw [Nat.mul_one] at this
    rw [add_addr]; exact this
theorem ints_none {w : World} {n c : Nat} {l : List Int} (h : Ints w (.slice none n c) l) : l = [] := by
  rcases h.2 with ⟨h, _⟩ | ⟨_, _, _, h, _⟩
  · exact h
  · injection h with h; cases h
theorem ints_one (l : List Int) : ∀ u ∈ l.map (fun z => Value.int .i64 z), u.oneCell' = true := fun u hu => by
  obtain ⟨z, _, rfl⟩ := List.mem_map.1 hu; rfl
theorem ints_own {w : World} {B : Nat} {v : Value} {l : List Int} (h : w.ownsRow B 3 1 v l.length (l.map fun z => Value.int .i64 z)) (hn : l.length ≤ 9223372036854775807) : IntsS w (Since B w none) v l := by
  rcases h.2 with ⟨rfl, h0⟩ | ⟨g, cap, cur, rfl, hbg, hg, _, _, _, _⟩
  · obtain rfl : l = [] := List.length_eq_zero_iff.1 h0
    exact ⟨hn, .inl ⟨rfl, none, 0, rfl⟩⟩
  · have hgl : g < w.heap.size := (Array.getElem?_eq_some_iff.1 hg).1
    refine ⟨hn, .inr ⟨g, 0, cap, rfl, fun i x hx => ⟨⟨hbg, hgl, by simp⟩, ?_⟩⟩⟩
    have := h.cells (g := g) rfl i (.int .i64 x) (by rw [List.getElem?_map, hx]; rfl)
    rw [add_addr] at this
    rw [Nat.mul_one]; exact this
theorem below_grow1 {w w' : World} {o : Obj} (h : (w.alloc o).grownBy w' (Value.slice (some ⟨w.heap.size, 0, none⟩) 0 0).ownBlock) : Below w.heap.size w w' :=
  ⟨h.os.trans rfl, h.tape.trans rfl, h.output.trans rfl, by have := h.size; simp at this; omega, fun k hk => by
    rw [h.block k (by simp; omega) (by show some k ≠ some w.heap.size; intro e; injection e with e; omega)]
    exact Below.heap_alloc w o k hk⟩
theorem own_on {w w' : World} {B : Nat} {e : TypeId} {size : Nat} {v : Value} {n : Nat} {xs : List Value} (h : w.ownsRow B e size v n xs) (hb : Below w.heap.size w w') : w'.ownsRow B e size v n xs :=
  ⟨h.1, h.2.imp id fun ⟨g, cap, cur, h1, h2, h3, h4⟩ => ⟨g, cap, cur, h1, h2, by rw [hb.block g (Array.getElem?_eq_some_iff.1 h3).1]; exact h3, h4⟩⟩
def mkPc {d : Nat} (x : Ins (IL d)) (a b c : Value) : Pc d := (x, a, b, c)
theorem flat7_snoc {d : Nat} (ps : List (Pc d)) (p : Pc d) : flat7 (ps ++ [p]) = flat7 ps ++ pc7 p := by
  unfold flat7; rw [List.flatMap_append]; simp
theorem pc7_one {d : Nat} (p : Pc d) (h1 : p.2.1.oneCell' = true) (h2 : p.2.2.1.oneCell' = true) (h3 : p.2.2.2.oneCell' = true) : ∀ u ∈ pc7 p, u.oneCell' = true := by
  have := flat7_one [p] (fun q hq => by rw [List.mem_singleton.1 hq]; exact ⟨h1, h2, h3⟩)
  intro u hu
  exact this u (by show u ∈ List.flatMap pc7 [p]; simpa using hu)
theorem pc7_cells {d : Nat} {w : World} {g : Nat} {x : Ins (IL d)} {v4 v5 v6 : Value} (h : Blk w g x.op x.a x.b x.n v4 v5 v6) : ∀ j u, (pc7 (mkPc x v4 v5 v6))[j]? = some u → w.cell? ((⟨g, 0, none⟩ : Addr).add j) = some u := fun j u hj => by
  rw [add_addr, Nat.zero_add]
  refine h.cell j u ?_
  rw [← hj]
  exact List.getElem?_toArray
theorem own_slice {w : World} {B : Nat} {e : TypeId} {size : Nat} {v : Value} {n : Nat} {xs : List Value} (h : w.ownsRow B e size v n xs) : ∃ o c, v = .slice o n c := by
  rcases h.2 with ⟨rfl, rfl⟩ | ⟨g, cap, cur, rfl, _⟩
  · exact ⟨none, 0, rfl⟩
  · exact ⟨_, _, rfl⟩
end Rep
end Go.Proofs.YtlpnoelolkbmmaaDoor

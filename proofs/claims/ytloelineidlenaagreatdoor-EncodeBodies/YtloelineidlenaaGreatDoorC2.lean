/- What is known in the midst of a module's copying. -/
import Derived.Test.YtloelineidlenaaGreatDoorC1
import Derived.Test.YtloelineidlenaaGreatDoorK3
import Derived.Test.YtloelineidlenaaGreatDoorK12
namespace Go.Proofs.YtloelineidlenaaGreatDoor
open Go.RowKit Rep
set_option linter.unusedVariables false
theorem ftInfo : (Tryz.prog.info? 59).map (fun i => (i.zero, i.size, i.bytes)) = some (some (.agg #[.slice none 0 0, .slice none 0 0]), 2, 48) := by kernel_rfl
theorem impInfo : (Tryz.prog.info? 83).map (fun i => (i.zero.map (·.cells.size), i.size, i.bytes)) = some (some 3, 3, 40) := by kernel_rfl
theorem funInf2 : (Tryz.prog.info? 44).map (fun i => (i.zero.map (·.cells.size), i.size, i.bytes)) = some (some 3, 3, 56) := by kernel_rfl
theorem limInf2 : (Tryz.prog.info? 50).map (fun i => (i.zero.map (·.cells.size), i.size, i.bytes)) = some (some 3, 3, 24) := by kernel_rfl
theorem gloInfo : (Tryz.prog.info? 63).map (fun i => (i.zero.map (·.cells.size), i.size, i.bytes)) = some (some 9, 9, 120) := by kernel_rfl
theorem expInfo : (Tryz.prog.info? 87).map (fun i => (i.zero.map (·.cells.size), i.size, i.bytes)) = some (some 3, 3, 32) := by kernel_rfl
theorem elmInfo : (Tryz.prog.info? 61).map (fun i => (i.zero.map (·.cells.size), i.size, i.bytes)) = some (some 8, 8, 128) := by kernel_rfl
theorem datInfo : (Tryz.prog.info? 55).map (fun i => (i.zero.map (·.cells.size), i.size, i.bytes)) = some (some 8, 8, 120) := by kernel_rfl
theorem ftInfo' : (Tryz.prog.info? 59).map (fun i => (i.zero.map (·.cells.size), i.size, i.bytes)) = some (some 2, 2, 48) := by kernel_rfl
theorem intInfo' : (Tryz.prog.info? 3).map (fun i => (i.zero.map (·.cells.size), i.size, i.bytes)) = some (some 1, 1, 8) := by kernel_rfl
theorem info_of {P : Program} {t : TypeId} {s b : Nat} (h : (P.info? t).map (fun i => (i.zero.map (·.cells.size), i.size, i.bytes)) = some (some s, s, b)) : ∃ i z, P.info? t = some i ∧ i.zero = some z ∧ i.size = s ∧ i.bytes = b ∧ z.cells.size = s := by
  obtain ⟨i, hi, he⟩ := Option.map_eq_some_iff.1 h
  injection he with h1 h2
  injection h2 with h2 h3
  obtain ⟨z, hz, hs⟩ := Option.map_eq_some_iff.1 h1
  exact ⟨i, z, hi, hz, h2, h3, hs⟩
namespace Rep
/-- the ten cells of a module make up a block -/
def BlkM (w : World) (b : Nat) (c0 c1 c2 c3 c4 c5 c6 c7 c8 c9 : Value) : Prop := w.heap[b]? = some (.cells #[c0, c1, c2, c3, c4, c5, c6, c7, c8, c9] 32 (0, 0))
section Blk
variable {w w' : World} {b : Nat} {c0 c1 c2 c3 c4 c5 c6 c7 c8 c9 : Value}
theorem BlkM.cell (h : BlkM w b c0 c1 c2 c3 c4 c5 c6 c7 c8 c9) (i : Nat) (v : Value) (hv : #[c0, c1, c2, c3, c4, c5, c6, c7, c8, c9][i]? = some v) : w.cell? ⟨b, i, none⟩ = some v := by
  unfold World.cell?; rw [h]; exact hv
theorem BlkM.frz (h : BlkM w b c0 c1 c2 c3 c4 c5 c6 c7 c8 c9) (i : Nat) : w.frozen? ⟨b, i, none⟩ = false := by
  unfold World.frozen?; rw [h]; simp
theorem BlkM.keep (h : BlkM w b c0 c1 c2 c3 c4 c5 c6 c7 c8 c9) (hk : w'.heap[b]? = w.heap[b]?) : BlkM w' b c0 c1 c2 c3 c4 c5 c6 c7 c8 c9 := by unfold BlkM at *; rw [hk]; exact h
theorem BlkM.lt (h : BlkM w b c0 c1 c2 c3 c4 c5 c6 c7 c8 c9) : b < w.heap.size := (Array.getElem?_eq_some_iff.1 h).1
theorem BlkM.on (h : BlkM w b c0 c1 c2 c3 c4 c5 c6 c7 c8 c9) (hb : Below w.heap.size w w') : BlkM w' b c0 c1 c2 c3 c4 c5 c6 c7 c8 c9 := h.keep (hb.block b h.lt)
theorem BlkM.new (hp : b = w.heap.size) : BlkM (w.alloc (.cells #[c0, c1, c2, c3, c4, c5, c6, c7, c8, c9] 32)) b c0 c1 c2 c3 c4 c5 c6 c7 c8 c9 := by
  subst hp; exact heap_alloc_new w _
theorem BlkM.set0 (h : BlkM w b c0 c1 c2 c3 c4 c5 c6 c7 c8 c9) (v : Value) : BlkM (w.setCell ⟨b, 0, none⟩ v) b v c1 c2 c3 c4 c5 c6 c7 c8 c9 := heap_setCell_same w b 0 _ _ v h
theorem BlkM.set2 (h : BlkM w b c0 c1 c2 c3 c4 c5 c6 c7 c8 c9) (v : Value) : BlkM (w.setCell ⟨b, 2, none⟩ v) b c0 c1 v c3 c4 c5 c6 c7 c8 c9 := heap_setCell_same w b 2 _ _ v h
theorem BlkM.set5 (h : BlkM w b c0 c1 c2 c3 c4 c5 c6 c7 c8 c9) (v : Value) : BlkM (w.setCell ⟨b, 5, none⟩ v) b c0 c1 c2 c3 c4 v c6 c7 c8 c9 := heap_setCell_same w b 5 _ _ v h
theorem BlkM.set8 (h : BlkM w b c0 c1 c2 c3 c4 c5 c6 c7 c8 c9) (v : Value) : BlkM (w.setCell ⟨b, 8, none⟩ v) b c0 c1 c2 c3 c4 c5 c6 c7 v c9 := heap_setCell_same w b 8 _ _ v h
theorem BlkM.set9 (h : BlkM w b c0 c1 c2 c3 c4 c5 c6 c7 c8 c9) (v : Value) : BlkM (w.setCell ⟨b, 9, none⟩ v) b c0 c1 c2 c3 c4 c5 c6 c7 c8 v := heap_setCell_same w b 9 _ _ v h
end Blk
/-- facts of a value that last while only new memory is made -/
def Stab : Type := { p : Value → World → Prop // ∀ v w w', p v w → Below w.heap.size w w' → p v w' }
def sEq (x : Value) : Stab := ⟨fun v _ => v = x, fun _ _ _ h _ => h⟩
/-- a row just made, of no room -/
def Mk (B : Nat) (e : TypeId) (v : Value) (w : World) : Prop := ∃ g, v = .slice (some ⟨g, 0, none⟩) 0 0 ∧ B ≤ g ∧ w.heap[g]? = some (.cells #[] e (0, 0))
def sMk (B : Nat) (e : TypeId) : Stab := ⟨Mk B e, fun v w w' ⟨g, h1, h2, h3⟩ hb => ⟨g, h1, h2, by rw [hb.block g (Array.getElem?_eq_some_iff.1 h3).1]; exact h3⟩⟩
def sOw (B : Nat) (e : TypeId) (c n : Nat) (xs : List Value) : Stab := ⟨fun v w => w.ownsRow B e c v n xs, fun v w w' h hb => own_on h hb⟩
def ints (l : List Int) : List Value := l.map fun z => Value.int .i64 z
def sInts (B : Nat) (l : List Int) : Stab := sOw B 3 1 l.length (ints l)
def ge (B : Nat) (k : Nat) : Bool := decide (B ≤ k)
theorem sub_ge {B : Nat} {w w' : World} (hb : Below w.heap.size w w') : Sub (only w (ge B)) (only w' (ge B)) := sub_only fun k hk hs => ⟨hs, hb.block k hk⟩
def sAt (B d : Nat) (l : IL d) : Stab := ⟨fun v w => At (only w (ge B)) d v l, fun v w w' h hb => At.sub (sub_ge hb) d v l h⟩
/-- an instruction that lies there -/
def InsPtr {d : Nat} (B : Nat) (x : Ins (IL d)) (v : Value) (w : World) : Prop := ∃ g o, v = .pointer (some ⟨g, o, none⟩) ∧ InsAt (only w (ge B)) (At (only w (ge B)) d) g o x
def sInsP {d : Nat} (B : Nat) (x : Ins (IL d)) : Stab := ⟨InsPtr B x, fun v w w' ⟨g, o, h1, h2⟩ hb => ⟨g, o, h1, h2.sub (sub_ge hb) (At.sub (sub_ge hb) d)⟩⟩
structure InsVals {d : Nat} (R : World) (x : Ins (IL d)) (v4 v5 v6 : Value) : Prop where
  labels : Ints R v4 x.labels
  body : At R d v5 x.body
  els : At R d v6 x.els
theorem InsVals.sub {d : Nat} {R R' : World} {x : Ins (IL d)} {v4 v5 v6 : Value} (h : InsVals R x v4 v5 v6) (hs : Sub R R') : InsVals R' x v4 v5 v6 := ⟨h.labels.sub hs, At.sub hs _ _ _ h.body, At.sub hs _ _ _ h.els⟩
def cells7 {α : Type} (x : Ins α) (v4 v5 v6 : Value) : List Value := [.int .i64 x.op, .int .i64 x.a, .int .i64 x.b, .int .i64 x.n, v4, v5, v6]
def InsAgg {d : Nat} (B : Nat) (x : Ins (IL d)) (v : Value) (w : World) : Prop := ∃ o4 n4 c4 o5 n5 c5 o6 n6 c6, v = .agg #[.int .i64 x.op, .int .i64 x.a, .int .i64 x.b, .int .i64 x.n, .slice o4 n4 c4, .slice o5 n5 c5, .slice o6 n6 c6] ∧ InsVals (only w (ge B)) x (.slice o4 n4 c4) (.slice o5 n5 c5) (.slice o6 n6 c6)
def sInsA {d : Nat} (B : Nat) (x : Ins (IL d)) : Stab := ⟨InsAgg B x, fun v w w' ⟨o4, n4, c4, o5, n5, c5, o6, n6, c6, h1, h2⟩ hb => ⟨o4, n4, c4, o5, n5, c5, o6, n6, c6, h1, h2.sub (sub_ge hb)⟩⟩
/-- the cells of a thing, made since -/
def sAgg {α : Type} (B c : Nat) (f : World → Nat → Nat → α → Prop) (x : α) : Stab := ⟨fun v w => ∃ cs : List Value, v = .agg cs.toArray ∧ Piece (only w (ge B)) c f x cs, fun v w w' ⟨cs, h1, h2⟩ hb => ⟨cs, h1, h2.sub (sub_ge hb)⟩⟩
/-- the same, laid in a row of one -/
def sOne {α : Type} (B c : Nat) (e : TypeId) (f : World → Nat → Nat → α → Prop) (x : α) : Stab := ⟨fun v w => ∃ g cs, v = .slice (some ⟨g, 0, none⟩) 1 1 ∧ w.heap[g]? = some (.cells (List.toArray cs) e (0, 0)) ∧ Piece (only w (ge B)) c f x cs,
  fun v w w' ⟨g, cs, h1, h2, h3⟩ hb => ⟨g, cs, h1, by rw [hb.block g (Array.getElem?_eq_some_iff.1 h2).1]; exact h2, h3.sub (sub_ge hb)⟩⟩
/-- an instruction laid in a row of one -/
def sOneI {d : Nat} (x : Ins (IL d)) : Stab := ⟨fun v w => ∃ g, v = .slice (some ⟨g, 0, none⟩) 1 1 ∧ At w (d + 1) v [x], fun v w w' ⟨g, h1, h2⟩ hb => ⟨g, h1, At.on hb (d + 1) v _ h2⟩⟩
theorem ints_ge {w : World} {B : Nat} {v : Value} {l : List Int} (h : w.ownsRow B 3 1 v l.length (ints l)) (hn : l.length ≤ 9223372036854775807) : Ints (only w (ge B)) v l :=
  ints_only (S' := Since B w none) (fun k hk => by unfold ge; exact decide_eq_true hk.1) (ints_own h hn)
/-- a row under way: its first pieces are there -/
def Gro {α : Type} (w : World) (B b : Nat) (e : TypeId) (c : Nat) (f : World → Nat → Nat → α → Prop) (l : List α) (j : Nat) (t : Value) : Prop :=
  ∃ ps : List (α × List Value), ps.map (·.1) = l.take j ∧ ps.length = j ∧ w.ownsRow B e c t j (flat ps) ∧ t.ownBlock ≠ some b ∧ ∀ p ∈ ps, Piece (only w (sel B b t)) c f p.1 p.2
section G
variable {α : Type} {w w' : World} {B b : Nat} {e : TypeId} {c : Nat} {f : World → Nat → Nat → α → Prop} {l : List α} {j : Nat} {t : Value}
theorem Gro.nil : Gro w B b e c f l 0 (.slice none 0 0) := ⟨[], by simp, rfl, by simpa [flat] using World.ownsRow_nil w B e c, by simp [Value.ownBlock], fun p hp => by cases hp⟩
theorem Gro.below (h : Gro w B b e c f l j t) (hb : Below w.heap.size w w') : Gro w' B b e c f l j t := by
  obtain ⟨ps, h1, h2, h3, h4, h5⟩ := h
  exact ⟨ps, h1, h2, own_on h3 hb, h4, fun p hp => (h5 p hp).sub (sub_below hb)⟩
theorem Gro.slice (h : Gro w B b e c f l j t) : ∃ o k, t = .slice o j k := by
  obtain ⟨ps, h1, h2, h3, h4, h5⟩ := h
  exact own_slice h3
theorem Gro.lt (h : Gro w B b e c f l j t) : ∀ k, t.ownBlock = some k → B ≤ k ∧ k < w.heap.size := by
  obtain ⟨ps, h1, h2, h3, h4, h5⟩ := h
  exact fun k hk => h3.lt k hk
theorem Gro.set (h : Gro w B b e c f l j t) (i : Nat) (u : Value) : Gro (w.setCell ⟨b, i, none⟩ u) B b e c f l j t := by
  obtain ⟨ps, h1, h2, h3, h4, h5⟩ := h
  refine ⟨ps, h1, h2, ?_, h4, fun p hp => (h5 p hp).sub sub_set⟩
  refine ⟨h3.1, h3.2.imp id fun ⟨g, cap, cur, k1, k2, k3, k4⟩ => ⟨g, cap, cur, k1, k2, ?_, k4⟩⟩
  rw [Below.heap_setCell _ _ _ _ (by show g ≠ b; intro e; subst e; exact h4 (by rw [k1]; rfl))]
  exact k3
/-- one piece more -/
theorem Gro.snoc {x : α} {cs : List Value} {t' : Value} {w' : World} (ps : List (α × List Value)) (h1 : ps.map (·.1) = l.take j) (h2 : ps.length = j) (h4 : t.ownBlock ≠ some b) (h5 : ∀ p ∈ ps, Piece (only w (sel B b t)) c f p.1 p.2)
    (hx : l[j]? = some x) (hp : Piece (only w (sel B b t)) c f x cs) (hb : b < w.heap.size) (ho : w'.ownsRow B e c t' (j + 1) (flat ps ++ cs)) (hg : w.grownBy w' t.ownBlock) (hv : t'.ownBlock = t.ownBlock ∨ t'.ownBlock = some w.heap.size) : Gro w' B b e c f l (j + 1) t' := by
  refine ⟨ps ++ [(x, cs)], ?_, by simp [h2], by rw [flat_snoc]; exact ho, ?_, fun p hp' => ?_⟩
  · rw [List.map_append, h1, List.take_add_one, hx]; rfl
  · rcases hv with h | h
    · rw [h]; exact h4
    · rw [h]; intro e; injection e with e; omega
  · rcases List.mem_append.1 hp' with h | h
    · exact (h5 p h).sub (sub_grown hg hv)
    · rw [List.mem_singleton.1 h]; exact hp.sub (sub_grown hg hv)
/-- the row is whole -/
theorem Gro.fin (h : Gro w B b e c f l l.length t) (hn : l.length ≤ 9223372036854775807) : Row c (f (only w (sel B b (.slice none 0 0)))) t l := by
  obtain ⟨ps, h1, h2, h3, h4, h5⟩ := h
  have hm : ps.map (·.1) = l := by rw [h1, List.take_of_length_le (Nat.le_refl _)]
  rw [← hm]
  refine row_of_own (S := sel B b t) ps (by rw [h2]; exact h3) h5 (fun k hk => ?_) (fun g hg => ?_) (by omega)
  · obtain ⟨k1, k2, k3⟩ := sel_iff.1 hk
    exact sel_iff.2 ⟨k1, k2, by simp [Value.ownBlock]⟩
  · exact sel_iff.2 ⟨(h3.lt g hg).1, fun e => h4 (by rw [← e]; exact hg), by simp [Value.ownBlock]⟩
end G
/-- the lists that are copied whole at once -/
structure Five (R : World) {d : Nat} (m : Mod d) (c1 c3 c4 c6 c7 : Value) : Prop where
  imports : Row 3 (ImpAt R) c1 m.imports
  tables : Row 3 (LimAt R) c3 m.tables
  mems : Row 3 (LimAt R) c4 m.mems
  exports : Row 3 (ExpAt R) c6 m.exports
  start : Ints R c7 m.start
  cap3 : ∀ n c, c3 = .slice none n c → c = 0
  cap4 : ∀ n c, c4 = .slice none n c → c = 0
theorem own_cap {w : World} {B : Nat} {e : TypeId} {size n : Nat} {v : Value} {xs : List Value} (h : w.ownsRow B e size v n xs) : ∀ n c, v = .slice none n c → c = 0 := fun n' c hv => by
  rcases h.2 with ⟨rfl, _⟩ | ⟨g, cap, cur, rfl, _⟩
  · injection hv with _ _ h; exact h.symm
  · injection hv with h _ _; cases h
/-- how far it is -/
structure St (k : Nat) {d : Nat} (w1 wr : World) (b : Nat) (t : Value) (m : Mod d) (c0 c1 c2 c3 c4 c5 c6 c7 c8 : Value) : Prop where
  below : Below w1.heap.size w1 wr
  base : w1.heap.size ≤ b
  five : Five (only wr (sel w1.heap.size b t)) m c1 c3 c4 c6 c7
  types : 1 ≤ k → Row 2 (FTAt (only wr (sel w1.heap.size b t))) c0 m.types
  funcs : 2 ≤ k → Row 3 (FunAt (only wr (sel w1.heap.size b t)) d) c2 m.funcs
  globals : 3 ≤ k → Row 9 (GloAt (only wr (sel w1.heap.size b t)) d) c5 m.globals
  elems : 4 ≤ k → Row 8 (ElmAt (only wr (sel w1.heap.size b t)) d) c8 m.elems
section S
variable {k d : Nat} {w1 wr wr' : World} {b : Nat} {t t' : Value} {m : Mod d} {c0 c1 c2 c3 c4 c5 c6 c7 c8 : Value}
theorem St.keep (h : St k w1 wr b t m c0 c1 c2 c3 c4 c5 c6 c7 c8) (hs : Sub (only wr (sel w1.heap.size b t)) (only wr' (sel w1.heap.size b t'))) (hb : Below w1.heap.size w1 wr') : St k w1 wr' b t' m c0 c1 c2 c3 c4 c5 c6 c7 c8 :=
  ⟨hb, h.base, ⟨h.five.imports.imp fun _ _ _ _ => ImpAt.sub hs, h.five.tables.imp fun _ _ _ _ => LimAt.sub hs, h.five.mems.imp fun _ _ _ _ => LimAt.sub hs, h.five.exports.imp fun _ _ _ _ => ExpAt.sub hs, h.five.start.sub hs, h.five.cap3, h.five.cap4⟩,
   fun hk => (h.types hk).imp fun _ _ _ _ => FTAt.sub hs, fun hk => (h.funcs hk).imp fun _ _ _ _ => FunAt.sub hs, fun hk => (h.globals hk).imp fun _ _ _ _ => GloAt.sub hs, fun hk => (h.elems hk).imp fun _ _ _ _ => ElmAt.sub hs⟩
theorem sub_nil : Sub (only wr (sel w1.heap.size b t)) (only wr (sel w1.heap.size b (.slice none 0 0))) := sub_only fun k _ hs => by
  obtain ⟨h1, h2, h3⟩ := sel_iff.1 hs
  exact ⟨sel_iff.2 ⟨h1, h2, by simp [Value.ownBlock]⟩, rfl⟩
end S
end Rep
end Go.Proofs.YtloelineidlenaaGreatDoor

/- QJ0: several texts in one. -/
import Derived.Test.YtloelineidlenaaGreatDoorE2
import Derived.Test.YtloelineidlenaaGreatDoorK11
import Derived.Test.YtloelineidlenaaGreatDoorW7
import Derived.Test.YtloelineidlenaaGreatDoorMod
import Derived.Test.YtloelineidlenaaGreatDoorE17
import Derived.Lib.ConvBytes
import Derived.Test.YtloelineidlenaaGreatDoorForm0
namespace Go.Proofs.YtloelineidlenaaGreatDoor
open Go.RowKit Rep Enc Go.Lib
set_option linter.unusedVariables false
set_option maxRecDepth 100000 in
set_option maxHeartbeats 1000000 in
theorem wFull (w0 : World) (p : Nat) (c : Nat → Value) (v : Value) (bs : List Int) (w : World) (h : WS w0 p c v bs w) (hn : bs.length ≤ 100000000000000) :
    Calls Tryz.prog 56 #[.pointer (some ⟨p, 0, none⟩)] w fun e w' => e = .returned (.bool (decide (262144 < bs.length))) ∧ w' = w := by
  obtain ⟨oV, kV, rfl⟩ := h.slice
  have kc := h.cell
  clear h
  have hd : decide ((262144 : Int) < (bs.length : Int)) = decide (262144 < bs.length) := by
    by_cases hb : 262144 < bs.length
    · rw [decide_eq_true hb]; exact decide_eq_true (by omega)
    · rw [decide_eq_false hb]; exact decide_eq_false (by omega)
  rw [← hd]
  clear hd
  generalize bs.length = n at *
  go_enter Tryz.func56, Tryz.ntmps56
  go_wp2
  go_ret
  exact ⟨rfl, rfl⟩
def one (b : Bool) : Int := if b then 1 else 0
set_option maxRecDepth 100000 in
set_option maxHeartbeats 1000000 in
theorem wFlag (w0 : World) (p : Nat) (c : Nat → Value) (v : Value) (bs : List Int) (b : Bool) (w : World) (h : WS w0 p c v bs w) (hn : bs.length ≤ 100000000000000) :
    Calls Tryz.prog 89 #[.pointer (some ⟨p, 0, none⟩), .bool b] w (Does w0 p c v w (bs ++ [one b])) := by
  have H1 := hideR (wPut w0 p c v bs 1 w h hn)
  have H0 := hideR (wPut w0 p c v bs 0 w h hn)
  clear h
  cases b
  · go_enter Tryz.func89, Tryz.ntmps89
    go_wp2_with fail
    refine H0.out.mono ?_
    rintro e w1 ⟨v1, rfl, h1, k1⟩
    have HE := hideR h1
    have HK := hideR k1
    clear h1 k1
    go_wp2
    go_end0
    exact ⟨_, rfl, HE.out, HK.out⟩
  · go_enter Tryz.func89, Tryz.ntmps89
    go_wp2_with fail
    refine H1.out.mono ?_
    rintro e w1 ⟨v1, rfl, h1, k1⟩
    have HE := hideR h1
    have HK := hideR k1
    clear h1 k1
    go_wp2
    go_end0
    exact ⟨_, rfl, HE.out, HK.out⟩
theorem wpList_str {P : Program} {w : World} {ops : Array Oper} {rest : List Oper} {o : Oper} {a : Act} {Q : Exit → Act → World → Prop} (hgd : o.guard = none) (sl x : Operand) (t u : TypeId)
    (ho : o.op = .call { callee := .builtin .append, args := #[sl, x], argTypes := #[t, u] })
    (base : Nat) (e : TypeId) (i : TypeInfo) (ht : P.underlying t = some (.slice e)) (hu : P.underlying u = some .string) (hi : P.info? e = some i) (hz : i.zero = some (.int .u8 0)) (hsize : i.size = 1) (hby : i.bytes = 1)
    (v : Value) (n : Nat) (xs : List Value) (hs : a.eval sl = v) (hown : w.ownsRow base e 1 v n xs) (s : ByteArray) (hx : a.eval x = .string s) (h63 : n + s.size ≤ maxLen) (hbytes : n + s.size ≤ 140737488355328) (hbase : base ≤ w.heap.size)
    (h : ∀ v' w', w'.ownsRow base e 1 v' (n + s.size) (xs ++ strCells s) → w.grownBy w' v.ownBlock → (v'.ownBlock = v.ownBlock ∨ v'.ownBlock = some w.heap.size) → wpList P ops Q rest (a.put o.dst v') w') : wpList P ops Q (o :: rest) a w := by
  refine wpList_plain hgd fun K hK => ?_
  obtain ⟨v', w', hr, h2, h3, h4⟩ := run_str (P := P) w base t u o.type e i ht hu hi hz hsize hby v n xs hown s h63 hbytes hbase
  unfold Oper.wp execOp
  simp only [ho, resolve, invoke, builtin, Sem.run_bind, Sem.run_pure, Result.andThen_ok, List.map_toArray, List.map_cons, List.map_nil, hs, hx, hr]
  exact hK _ _ (h v' w' h2 h3 h4)
set_option maxRecDepth 100000 in
set_option maxHeartbeats 1000000 in
theorem wText (w0 : World) (p : Nat) (c : Nat → Value) (v : Value) (bs : List Int) (s : ByteArray) (w : World) (h : WS w0 p c v bs w) (hn : bs.length ≤ 100000000000000) (hs : s.size ≤ 100000000) :
    Calls Tryz.prog 87 #[.pointer (some ⟨p, 0, none⟩), .string s] w (Does w0 p c v w (bs ++ Leb.uB (s.size : Int) ++ nums s)) := by
  have H1 := hideR (wU w0 p c v bs (s.size : Int) w h (by omega) (by omega) hn)
  have hten := Leb.uB_ten (n := (s.size : Int)) (by omega) (by omega)
  have HLEN : Hid ((bs ++ Leb.uB (s.size : Int)).length ≤ 100000001000000) := hideR (by rw [List.length_append]; omega)
  clear h hten
  obtain ⟨i0, hi, hz0, hz1, hz2⟩ := info_parts u8Info
  go_enter Tryz.func87, Tryz.ntmps87
  go_wp2_with fail
  refine H1.out.mono ?_
  rintro e w1 ⟨v1, rfl, h1, k1⟩
  have HK1 := hideR k1
  clear k1
  obtain ⟨oV, kV, rfl⟩ := h1.slice
  have HS := hideR h1
  have kc := h1.cell
  clear h1 H1
  have hlen := HLEN.out
  generalize hbs : bs ++ Leb.uB (s.size : Int) = b1 at *
  go_wp2_with (first | (at_builtin; refine wpList_str rfl _ _ 53 9 rfl w0.heap.size 5 i0 Tryz.underlying53 Tryz.underlying9 hi hz0 hz1 hz2 _ _ _ rfl HS.out.own s rfl ?c3 ?c4 ?c5 ?_))
  case c3 => unfold maxLen; omega
  case c4 => omega
  case c5 => exact HS.out.below.size
  intro v' w9 hown hg hv
  have hA : App w0 p c (.slice oV b1.length kV) w1 b1 (b1 ++ nums s) v' w9 := ⟨w1, HS.out, by
    rw [List.length_append, nums_len]
    have : cells (b1 ++ nums s) = cells b1 ++ strCells s := by rw [strCells_cells]; unfold cells; rw [List.map_append]
    rw [this]; exact hown, hg, hv, Below.refl _ _⟩
  clear hown hg hv
  generalize hb2 : b1 ++ nums s = b2 at *
  obtain ⟨o9, k9, rfl⟩ := hA.slice
  obtain ⟨kc9, kf9⟩ := hA.cell
  have HE := hideR hA.ws
  have HK2 := hideR (HK1.out.trans hA.kept)
  clear hA HS kc
  go_wp2
  go_end0
  exact ⟨_, rfl, HE.out, HK2.out⟩
end Go.Proofs.YtloelineidlenaaGreatDoor

namespace Go.Proofs.YtloelineidlenaaGreatDoor
open Go.RowKit Rep Enc Go.Lib
set_option linter.unusedVariables false
namespace Enc
theorem nums_bd (s : ByteArray) : ∀ x ∈ nums s, 0 ≤ x ∧ x ≤ 255 := by
  intro x hx
  unfold nums at hx
  obtain ⟨b, _, rfl⟩ := List.mem_map.1 hx
  have := b.toNat_lt
  omega
structure PS (w0 : World) (p : Nat) (ov : Bool) (v : Value) (bs : List Int) (w : World) : Prop where
  below : Below w0.heap.size w0 w
  base : w0.heap.size ≤ p
  blk : w.heap[p]? = some (.cells #[v, .bool ov] 78 (0, 0))
  own : w.ownsRow w0.heap.size 5 1 v bs.length (cells bs)
  apart : v.ownBlock ≠ some p
  few : bs.length ≤ 524288
  bd : ∀ x ∈ bs, 0 ≤ x ∧ x ≤ 255
def St (id : List Int) (ov : Bool) (bs : List Int) : Prop := (ov = false ∧ bs = id) ∨ (ov = true ∧ 524288 < id.length)
theorem St.more {id : List Int} {ov : Bool} {bs : List Int} (h : St id ov bs) (ho : ov = true) (add : List Int) : St (id ++ add) ov bs := by
  rcases h with ⟨h, _⟩ | ⟨_, h⟩
  · rw [h] at ho; cases ho
  · exact .inr ⟨ho, by rw [List.length_append]; omega⟩
section
variable {w0 w w' : World} {p : Nat} {ov : Bool} {v : Value} {bs : List Int}
theorem PS.cell (h : PS w0 p ov v bs w) : w.cell? ⟨p, 0, none⟩ = some v := by unfold World.cell?; rw [h.blk]; rfl
theorem PS.cellO (h : PS w0 p ov v bs w) : w.cell? ⟨p, 1, none⟩ = some (.bool ov) := by unfold World.cell?; rw [h.blk]; rfl
theorem PS.frz (h : PS w0 p ov v bs w) (i : Nat) : w.frozen? ⟨p, i, none⟩ = false := by unfold World.frozen?; rw [h.blk]; simp
theorem PS.lt (h : PS w0 p ov v bs w) : p < w.heap.size := (Array.getElem?_eq_some_iff.1 h.blk).1
theorem PS.slice (h : PS w0 p ov v bs w) : ∃ o k, v = .slice o bs.length k := by
  rcases h.own.2 with ⟨rfl, h0⟩ | ⟨g, cap, cur, rfl, _⟩
  · rw [h0]; exact ⟨none, 0, rfl⟩
  · exact ⟨_, _, rfl⟩
theorem PS.on (h : PS w0 p ov v bs w) (hb : Below w.heap.size w w') : PS w0 p ov v bs w' :=
  ⟨h.below.trans (hb.mono h.below.size), h.base, by rw [hb.block p h.lt]; exact h.blk, own_on' h.own hb, h.apart, h.few, h.bd⟩
theorem PS.mark (h : PS w0 p ov v bs w) (o : Bool) : PS w0 p o v bs (w.setCell ⟨p, 1, none⟩ (.bool o)) :=
  ⟨h.below.setCell h.base _, h.base, heap_setCell_same w p 1 _ _ _ h.blk, ⟨h.own.1, h.own.2.imp id fun ⟨g, cap, cur, k1, k2, k3, k4⟩ => ⟨g, cap, cur, k1, k2, by
    rw [Below.heap_setCell _ _ _ _ (by show g ≠ p; intro e; subst e; exact h.apart (by rw [k1]; rfl))]; exact k3, k4⟩⟩, h.apart, h.few, h.bd⟩
theorem Kept.mark {p i : Nat} {v : Value} {w : World} (u : Value) : Kept p v w v (w.setCell ⟨p, i, none⟩ u) :=
  ⟨by simp, fun k hk hp _ => by rw [Below.heap_setCell _ _ _ _ (by show k ≠ p; exact hp)], fun k h => .inl h⟩
theorem PS.store {w9 : World} {v' : Value} {bs' : List Int} (h : PS w0 p ov v bs w) (ho : w9.ownsRow w0.heap.size 5 1 v' bs'.length (cells bs')) (hg : w.grownBy w9 v.ownBlock) (hf : bs'.length ≤ 524288) (hd : ∀ x ∈ bs', 0 ≤ x ∧ x ≤ 255) : PS w0 p ov v' bs' (w9.setCell ⟨p, 0, none⟩ v') := by
  have hp9 : w9.heap[p]? = some (.cells #[v, .bool ov] 78 (0, 0)) := by rw [hg.block p h.lt (fun e => h.apart e.symm)]; exact h.blk
  have hap : v'.ownBlock ≠ some p := by
    rcases ho.2 with ⟨rfl, _⟩ | ⟨g, cap, cur, rfl, _, hgg, _⟩
    · simp [Value.ownBlock]
    · intro e
      have : g = p := by simpa [Value.ownBlock] using e
      subst this
      rw [hgg] at hp9
      injection hp9 with hp9
      injection hp9 with _ hp9
      exact absurd hp9 (by decide)
  refine ⟨(h.below.grown hg h.below.size fun k hk => (h.own.lt k hk).1).setCell h.base _, h.base, heap_setCell_same w9 p 0 _ _ v' hp9, ?_, hap, hf, hd⟩
  refine ⟨ho.1, ho.2.imp id fun ⟨g, cap, cur, k1, k2, k3, k4⟩ => ⟨g, cap, cur, k1, k2, ?_, k4⟩⟩
  rw [Below.heap_setCell _ _ _ _ (by show g ≠ p; intro e; subst e; exact hap (by rw [k1]; rfl))]
  exact k3
end
theorem PS.new (w : World) : PS w w.heap.size false (.slice none 0 0) [] (w.alloc (.cells #[.slice none 0 0, .bool false] 78)) :=
  ⟨new_on' w _, Nat.le_refl _, heap_new w _, World.ownsRow_nil _ _ _ _, by simp [Value.ownBlock], by simp, by simp⟩
def PDo (w0 : World) (p : Nat) (v : Value) (w : World) (id : List Int) (e : Ending) (w' : World) : Prop := ∃ ov' v' bs', e = .returned (.tuple #[]) ∧ PS w0 p ov' v' bs' w' ∧ St id ov' bs' ∧ Kept p v w v' w'
end Enc
set_option maxRecDepth 100000 in
set_option maxHeartbeats 1000000 in
theorem dPut (w0 : World) (p : Nat) (ov : Bool) (v : Value) (bs id : List Int) (s : ByteArray) (w : World) (h : PS w0 p ov v bs w) (hS : St id ov bs) (hs : s.size ≤ 100000000) :
    Calls Tryz.prog 22 #[.pointer (some ⟨p, 0, none⟩), .string s] w (PDo w0 p v w (id ++ nums s)) := by
  obtain ⟨o, k, rfl⟩ := h.slice
  have hfew := h.few
  have kc := h.cell
  have kf0 := h.frz 0
  have kf1 := h.frz 1
  have ko := h.cellO
  have HS := hideR h
  have HST := hideR hS
  obtain ⟨i0, hi, hz0, hz1, hz2⟩ := info_parts u8Info
  clear h hS
  generalize hn : s.size = n at *
  by_cases hbig : 524288 < bs.length + n
  · have hd : decide ((524288 : Int) < (bs.length : Int) + (n : Int)) = true := by simp; omega
    have HF : Hid (PS w0 p true (.slice o bs.length k) bs (w.setCell ⟨p, 1, none⟩ (.bool true)) ∧ St (id ++ nums s) true bs) := hideR ⟨HS.out.mark true, .inr ⟨rfl, by
      have hl := nums_len s
      rw [List.length_append]
      rcases HST.out with ⟨_, h⟩ | ⟨_, h⟩
      · rw [← h]; omega
      · omega⟩⟩
    generalize hbl : bs.length = bl at *
    clear hbig
    go_enter Tryz.func22, Tryz.ntmps22
    go_wp2
    go_end0
    exact ⟨_, _, _, rfl, by simpa [hbl] using HF.out.1, HF.out.2, Kept.mark _⟩
  · have hd : decide ((524288 : Int) < (bs.length : Int) + (n : Int)) = false := by simp; omega
    have hST2 : St (id ++ nums s) ov (bs ++ nums s) := by
      rcases HST.out with ⟨h1, h⟩ | ⟨h1, h⟩
      · exact .inl ⟨h1, by rw [h]⟩
      · exact .inr ⟨h1, by rw [List.length_append]; omega⟩
    have HST2 := hideR hST2
    clear hST2
    have hl2 : (bs ++ nums s).length = bs.length + n := by rw [List.length_append, nums_len, hn]
    have HL2 := hideR hl2
    clear hl2
    have hbig' : bs.length + n ≤ 524288 := by omega
    have HBG := hideR hbig'
    clear hbig hbig'
    generalize hbl : bs.length = bl at *
    go_enter Tryz.func22, Tryz.ntmps22
    go_wp2_with (first | (at_builtin; refine wpList_str rfl _ _ 53 9 rfl w0.heap.size 5 i0 Tryz.underlying53 Tryz.underlying9 hi hz0 hz1 hz2 _ _ _ rfl HS.out.own s rfl ?c3 ?c4 ?c5 ?_))
    case c3 => unfold maxLen; have := HBG.out; omega
    case c4 => have := HBG.out; omega
    case c5 => exact HS.out.below.size
    intro v' w9 hown hg hv
    have hown' : w9.ownsRow w0.heap.size 5 1 v' (bs ++ nums s).length (cells (bs ++ nums s)) := by
      have : cells (bs ++ nums s) = cells bs ++ strCells s := by rw [strCells_cells]; unfold cells; rw [List.map_append]
      rw [this, List.length_append, nums_len, hbl, hn]; exact hown
    have HE := hideR (HS.out.store hown' hg (by rw [HL2.out]; exact HBG.out) (fun x hx => (List.mem_append.1 hx).elim (HS.out.bd x) (nums_bd s x)))
    have HK := hideR (Kept.store (p := p) (i := 0) hg hv v')
    have kc9 : w9.cell? ⟨p, 0, none⟩ = some (.slice o bl k) := by rw [World.cell?_of_block (a := ⟨p, 0, none⟩) (hg.block p HS.out.lt (fun e => HS.out.apart e.symm))]; exact kc
    have kf9 : w9.frozen? ⟨p, 0, none⟩ = false := by rw [World.frozen?_of_block (a := ⟨p, 0, none⟩) (hg.block p HS.out.lt (fun e => HS.out.apart e.symm))]; exact kf0
    obtain ⟨o9, k9, rfl⟩ : ∃ o9 k9, v' = .slice o9 (bs ++ nums s).length k9 := by
      rcases hown'.2 with ⟨rfl, h0⟩ | ⟨g, cap, cur, rfl, _⟩
      · rw [h0]; exact ⟨none, 0, rfl⟩
      · exact ⟨_, _, rfl⟩
    clear hown hown' hg hv kc ko kf0 kf1 HS
    generalize (bs ++ nums s).length = n9 at *
    go_wp2
    go_end0
    exact ⟨_, _, _, rfl, HE.out, HST2.out, by simpa [hbl] using HK.out⟩
end Go.Proofs.YtloelineidlenaaGreatDoor

namespace Go.Proofs.YtloelineidlenaaGreatDoor
open Go.RowKit Rep Enc Go.Lib
set_option linter.unusedVariables false
namespace Enc
def idxB (l : List Int) : List Int := Leb.uB (l.length : Int) ++ l.flatMap Leb.uB
def typB (l : List Int) : List Int := Leb.uB (l.length : Int) ++ l.flatMap fun x => [x % 256]
theorem flat_take {f : Int → List Int} {l : List Int} {j : Nat} {x : Int} (hx : l[j]? = some x) : (l.take (j + 1)).flatMap f = (l.take j).flatMap f ++ f x := by
  rw [List.take_add_one, hx, List.flatMap_append]; simp
theorem flat_le {f : Int → List Int} (k : Nat) : ∀ (l : List Int), (∀ x ∈ l, (f x).length ≤ k) → (l.flatMap f).length ≤ l.length * k
  | [], _ => by simp
  | x :: r, h => by
    rw [List.flatMap_cons, List.length_append, List.length_cons, Nat.add_mul]
    have h1 := h x (List.mem_cons_self ..)
    have h2 := flat_le k r fun y hy => h y (List.mem_cons_of_mem _ hy)
    omega
theorem flat_len {f : Int → List Int} (k : Nat) (l : List Int) (j : Nat) (h : ∀ x ∈ l, (f x).length ≤ k) : ((l.take j).flatMap f).length ≤ l.length * k :=
  Nat.le_trans (flat_le k _ fun x hx => h x (List.mem_of_mem_take hx)) (Nat.mul_le_mul_right _ (by rw [List.length_take]; omega))
end Enc
set_option maxRecDepth 100000 in
set_option maxHeartbeats 2000000 in
theorem wIdx (w0 : World) (p : Nat) (c : Nat → Value) (v : Value) (bs : List Int) (lv : Value) (l : List Int) (w : World) (h : WS w0 p c v bs w) (hL : Ints w0 lv l) (hr : ∀ x ∈ l, 0 ≤ x ∧ x ≤ 4294967295) (hl : l.length ≤ 10000000) (hn : bs.length ≤ 50000000000000) : Calls Tryz.prog 90 #[.pointer (some ⟨p, 0, none⟩), lv] w (Does w0 p c v w (bs ++ idxB l)) := by
  obtain ⟨oL, kL, rfl⟩ := Row.len hL
  have HL := hideR hL
  have HR := hideR hr
  clear hL hr
  have H1 := hideR (wU w0 p c v bs (l.length : Int) w h (by omega) (by omega) (by omega))
  have hten := Leb.uB_ten (n := (l.length : Int)) (by omega) (by omega)
  clear h
  obtain ⟨b2, hb2⟩ : ∃ b2, b2 = bs ++ idxB l := ⟨_, rfl⟩
  rw [← hb2]
  have HB2 := hideR hb2
  clear hb2
  have HLN0 : ∀ j, Hid ((bs ++ Leb.uB (l.length : Int) ++ (l.take j).flatMap Leb.uB).length ≤ 100000000000000) := fun j => hideR (by
    have := flat_len (f := Leb.uB) 10 l j (fun x hx => Leb.uB_ten (HR.out x hx).1 (by have := (HR.out x hx).2; omega))
    rw [List.length_append, List.length_append]
    omega)
  clear hten
  unfold idxB at HB2
  generalize hln : l.length = n at *
  go_enter Tryz.func90, Tryz.ntmps90
  go_wp2_with fail
  refine H1.out.mono ?_
  rintro e w1 ⟨v1, rfl, h1, k1⟩
  have HK1 := hideR k1
  clear k1
  have HS1 : Hid (WS w0 p c v1 (bs ++ Leb.uB (n : Int) ++ (l.take 0).flatMap Leb.uB) w1) := hideR (by simpa using h1)
  clear h1 H1
  go_wp2_with fail
  go_loopw [12] (fun i wr => ∃ (j : Nat) (v2 : Value), j ≤ n ∧ i = .int .i64 j ∧ Hid (WS w0 p c v2 (bs ++ Leb.uB (n : Int) ++ (l.take j).flatMap Leb.uB) wr) ∧ Hid (Kept p v w v2 wr)) (fun i _ => n - (RowKit.intOf i).toNat)
  case atStart => exact ⟨0, v1, by omega, rfl, HS1, HK1⟩
  case round =>
    clear HS1 HK1
    obtain ⟨j, v2, hj, rfl, HWS, HKW⟩ := hrel
    by_cases hgo : j < n
    · obtain ⟨b1, off1, cap1, hv1, hx1⟩ := Row.some HL.out (by omega)
      injection hv1 with ho1 e11 e12
      subst ho1
      clear e11 e12
      obtain ⟨x, hxk⟩ : ∃ x, l[j]? = some x := ⟨_, List.getElem?_eq_getElem (by omega)⟩
      have cx := cell_on HWS.out.below (hx1 j x hxk)
      simp only [Nat.mul_one] at cx
      have HXK := hideR hxk
      have HLN := HLN0 j
      clear hx1 hxk
      have HC := hideR (wU w0 p c v2 (bs ++ Leb.uB (n : Int) ++ (l.take j).flatMap Leb.uB) x wr HWS.out (HR.out x (List.mem_of_getElem? HXK.out)).1 (by have := (HR.out x (List.mem_of_getElem? HXK.out)).2; omega) HLN.out)
      go_wp2_with fail
      refine HC.out.mono ?_
      rintro e w3 ⟨v3, rfl, h3, k3⟩
      have HK3 := hideR (HKW.out.trans k3)
      clear k3
      have HN : Hid (WS w0 p c v3 (bs ++ Leb.uB (n : Int) ++ (l.take (j + 1)).flatMap Leb.uB) w3) := hideR (by rw [flat_take HXK.out, ← List.append_assoc]; exact h3)
      clear h3 HC cx HWS
      go_wp2
      go_roundw
      case rel => exact ⟨j + 1, v3, by omega, by go_num, HN, HK3⟩
      case measure => simp [RowKit.intOf]; omega
    · obtain rfl : n = j := by omega
      have HE : Hid (WS w0 p c v2 b2 wr) := hideR (by have := HWS.out; rw [List.take_of_length_le (by omega)] at this; rw [HB2.out, ← List.append_assoc]; exact this)
      clear HWS
      go_wp2
      go_end0
      exact ⟨_, rfl, HE.out, HKW.out⟩
set_option maxRecDepth 100000 in
set_option maxHeartbeats 2000000 in
theorem wTyp (w0 : World) (p : Nat) (c : Nat → Value) (v : Value) (bs : List Int) (lv : Value) (l : List Int) (w : World) (h : WS w0 p c v bs w) (hL : Ints w0 lv l)  (hl : l.length ≤ 10000000) (hn : bs.length ≤ 50000000000000) : Calls Tryz.prog 86 #[.pointer (some ⟨p, 0, none⟩), lv] w (Does w0 p c v w (bs ++ typB l)) := by
  obtain ⟨oL, kL, rfl⟩ := Row.len hL
  have HL := hideR hL
  have HR := True.intro
  clear hL
  have H1 := hideR (wU w0 p c v bs (l.length : Int) w h (by omega) (by omega) (by omega))
  have hten := Leb.uB_ten (n := (l.length : Int)) (by omega) (by omega)
  clear h
  obtain ⟨b2, hb2⟩ : ∃ b2, b2 = bs ++ typB l := ⟨_, rfl⟩
  rw [← hb2]
  have HB2 := hideR hb2
  clear hb2
  have HLN0 : ∀ j, Hid ((bs ++ Leb.uB (l.length : Int) ++ (l.take j).flatMap (fun x => [x % 256])).length ≤ 100000000000000) := fun j => hideR (by
    have := flat_len (f := (fun x => [x % 256])) 1 l j (fun x hx => by simp)
    rw [List.length_append, List.length_append]
    omega)
  clear hten
  unfold typB at HB2
  generalize hln : l.length = n at *
  go_enter Tryz.func86, Tryz.ntmps86
  go_wp2_with fail
  refine H1.out.mono ?_
  rintro e w1 ⟨v1, rfl, h1, k1⟩
  have HK1 := hideR k1
  clear k1
  have HS1 : Hid (WS w0 p c v1 (bs ++ Leb.uB (n : Int) ++ (l.take 0).flatMap (fun x => [x % 256])) w1) := hideR (by simpa using h1)
  clear h1 H1
  go_wp2_with fail
  go_loopw [12] (fun i wr => ∃ (j : Nat) (v2 : Value), j ≤ n ∧ i = .int .i64 j ∧ Hid (WS w0 p c v2 (bs ++ Leb.uB (n : Int) ++ (l.take j).flatMap (fun x => [x % 256])) wr) ∧ Hid (Kept p v w v2 wr)) (fun i _ => n - (RowKit.intOf i).toNat)
  case atStart => exact ⟨0, v1, by omega, rfl, HS1, HK1⟩
  case round =>
    clear HS1 HK1
    obtain ⟨j, v2, hj, rfl, HWS, HKW⟩ := hrel
    by_cases hgo : j < n
    · obtain ⟨b1, off1, cap1, hv1, hx1⟩ := Row.some HL.out (by omega)
      injection hv1 with ho1 e11 e12
      subst ho1
      clear e11 e12
      obtain ⟨x, hxk⟩ : ∃ x, l[j]? = some x := ⟨_, List.getElem?_eq_getElem (by omega)⟩
      have cx := cell_on HWS.out.below (hx1 j x hxk)
      simp only [Nat.mul_one] at cx
      have HXK := hideR hxk
      have HLN := HLN0 j
      clear hx1 hxk
      have HC := hideR (wPut w0 p c v2 (bs ++ Leb.uB (n : Int) ++ (l.take j).flatMap fun x => [x % 256]) x wr HWS.out HLN.out)
      go_wp2_with fail
      refine HC.out.mono ?_
      rintro e w3 ⟨v3, rfl, h3, k3⟩
      have HK3 := hideR (HKW.out.trans k3)
      clear k3
      have HN : Hid (WS w0 p c v3 (bs ++ Leb.uB (n : Int) ++ (l.take (j + 1)).flatMap (fun x => [x % 256])) w3) := hideR (by rw [flat_take HXK.out, ← List.append_assoc]; exact h3)
      clear h3 HC cx HWS
      go_wp2
      go_roundw
      case rel => exact ⟨j + 1, v3, by omega, by go_num, HN, HK3⟩
      case measure => simp [RowKit.intOf]; omega
    · obtain rfl : n = j := by omega
      have HE : Hid (WS w0 p c v2 b2 wr) := hideR (by have := HWS.out; rw [List.take_of_length_le (by omega)] at this; rw [HB2.out, ← List.append_assoc]; exact this)
      clear HWS
      go_wp2
      go_end0
      exact ⟨_, rfl, HE.out, HKW.out⟩
end Go.Proofs.YtloelineidlenaaGreatDoor

namespace Go.Proofs.YtloelineidlenaaGreatDoor
open Go.RowKit Rep Enc Go.Lib
set_option linter.unusedVariables false
namespace Enc
def insB {α : Type} (rec : α → List Int) (sz : α → Nat) (x : Ins α) : List Int :=
  [x.op % 256] ++ (if form x.op = 1 then (if x.op = 63 ∨ x.op = 64 then [0] else [])
    else if form x.op = 2 ∨ form x.op = 3 then (if x.a = 0 then [64] else [x.a % 256]) ++ rec x.body ++ (if 0 < sz x.els then [5] ++ rec x.els else []) ++ [11]
    else if form x.op = 4 ∨ form x.op = 6 then Leb.uB x.a
    else if form x.op = 5 then idxB x.labels ++ Leb.uB x.a
    else if form x.op = 7 then Leb.uB x.a ++ [0]
    else if form x.op = 8 then Leb.uB x.a ++ Leb.uB x.b
    else if form x.op = 9 then Leb.sB x.n else [])
def insL {α : Type} (rec : α → List Int) (sz : α → Nat) (l : List (Ins α)) : List Int := l.flatMap (insB rec sz)
def bytesI : (d : Nat) → IL d → List Int
  | 0, _ => []
  | d + 1, l => insL (bytesI d) (size d) l
structure Rg1 {α : Type} (rec : α → Prop) (x : Ins α) : Prop where
  a : 4 ≤ form x.op → form x.op ≤ 8 → 0 ≤ x.a ∧ x.a ≤ 4294967295
  b : form x.op = 8 → 0 ≤ x.b ∧ x.b ≤ 4294967295
  n : form x.op = 9 → -9223372036854775808 ≤ x.n ∧ x.n ≤ 9223372036854775807
  labels : form x.op = 5 → ∀ y ∈ x.labels, 0 ≤ y ∧ y ≤ 4294967295
  few : x.labels.length ≤ 10000000
  body : rec x.body
  els : rec x.els
def Rg : (d : Nat) → IL d → Prop
  | 0, _ => True
  | d + 1, l => ∀ x, x ∈ (show List (Ins (IL d)) from l) → Rg1 (Rg d) x
def DoesA (w0 : World) (p : Nat) (c : Nat → Value) (v : Value) (w : World) (bs add : List Int) (e : Ending) (w' : World) : Prop := ∃ v' bs', e = .returned (.tuple #[]) ∧ WS w0 p c v' bs' w' ∧ Kept p v w v' w' ∧ Adds bs add bs' ∧ bs'.length ≤ bs.length + add.length
theorem DoesA.of {w0 : World} {p : Nat} {c : Nat → Value} {v : Value} {w : World} {bs add : List Int} {e : Ending} {w' : World} (h : Does w0 p c v w (bs ++ add) e w') : DoesA w0 p c v w bs add e w' := by
  obtain ⟨v', h1, h2, h3⟩ := h
  exact ⟨v', _, h1, h2, h3, .inl rfl, by rw [List.length_append]; omega⟩
theorem Kept.box {p p3 : Nat} {v v' : Value} {w w' : World} {op a b n : Int} {v4 v5 v6 : Value} (h : Kept p v w v' w') (hb : Blk w p3 op a b n v4 v5 v6) (hp : p3 ≠ p) (ho : some p3 ≠ v.ownBlock) : Blk w' p3 op a b n v4 v5 v6 ∧ some p3 ≠ v'.ownBlock :=
  ⟨hb.keep (h.block p3 hb.lt hp ho), fun e => by
    rcases h.own p3 e.symm with h1 | h1
    · exact ho h1.symm
    · have := hb.lt; omega⟩
end Enc
set_option maxRecDepth 100000 in
set_option maxHeartbeats 4000000 in
theorem wIns1 {I : World → Prop} (C : FormC I) (w0 : World) (hI : I w0) (p : Nat) (c : Nat → Value) (v : Value) (bs : List Int) {d : Nat} (x : Ins (IL d)) (q4 q5 q6 : Option Addr) (y4 z4 y5 z5 y6 z6 : Nat) (w : World) (h : WS w0 p c v bs w) (hn : bs.length ≤ 40000000000000) (hf : form x.op = 1) (ho : ¬ (x.op = 63 ∨ x.op = 64)) : Calls Tryz.prog 111 #[.pointer (some ⟨p, 0, none⟩), .agg #[.int .i64 x.op, .int .i64 x.a, .int .i64 x.b, .int .i64 x.n, .slice q4 y4 z4, .slice q5 y5 z5, .slice q6 y6 z6]] w (Does w0 p c v w (bs ++ ([x.op % 256]))) := by
  have hpw : p < w.heap.size := h.lt
  have hown : ∀ k, v.ownBlock = some k → k < w.heap.size := fun k hk => (h.own.lt k hk).2
  have HBK0 := hideR (Blk.new w w.heap.size x.op x.a x.b x.n (.slice q4 y4 z4) (.slice q5 y5 z5) (.slice q6 y6 z6) rfl)
  obtain ⟨u1, hu1⟩ : ∃ u1, u1 = w.alloc (.cells #[.int .i64 x.op, .int .i64 x.a, .int .i64 x.b, .int .i64 x.n, .slice q4 y4 z4, .slice q5 y5 z5, .slice q6 y6 z6] 52) := ⟨_, rfl⟩
  have HU := hideR (new_on' w (.cells #[.int .i64 x.op, .int .i64 x.a, .int .i64 x.b, .int .i64 x.n, .slice q4 y4 z4, .slice q5 y5 z5, .slice q6 y6 z6] 52))
  rw [← hu1] at HBK0 HU
  have HS0 := hideR (h.on HU.out)
  have HO0 : Hid (some w.heap.size ≠ v.ownBlock) := hideR (fun e => by have := hown _ e.symm; omega)
  have HNP : Hid (w.heap.size ≠ p) := hideR (by omega)
  have HK0 : Hid (Kept p v w v u1) := hideR (Kept.below HU.out)
  have HU1 := hideR hu1
  clear h hpw hown HU hu1
  obtain ⟨b3, hb3⟩ : ∃ b3, b3 = bs ++ ([x.op % 256]) := ⟨_, rfl⟩
  rw [← hb3]
  have HB3 := hideR hb3
  clear hb3
  go_enter Tryz.func111, Tryz.ntmps111
  go_upto_region 1 with fail
  rw [← HU1.out]
  generalize hp3 : w.heap.size = p3 at HBK0 HO0 HNP ⊢
  clear HU1
  have e63 : (x.op == 63) = false := by simp; omega
  have e64 : (x.op == 64) = false := by simp; omega
  have k0 := HBK0.out.cell 0 _ rfl
  have HC := hideR (wPut w0 p c v bs x.op u1 HS0.out (by omega))
  go_wp2_with fail
  refine HC.out.mono ?_
  rintro e w1 ⟨v1, rfl, h1, kk1⟩
  obtain ⟨bb1, bo1⟩ := kk1.box HBK0.out HNP.out HO0.out
  have HS1 := hideR h1
  have HBK1 := hideR bb1
  have HO1 := hideR bo1
  have HK1 := hideR (HK0.out.trans kk1)
  clear h1 kk1 bb1 bo1 HC k0 HS0 HBK0 HO0 HK0
  have k0 := HBK1.out.cell 0 _ rfl
  have HC := hideR (C.form x.op w1 (C.keep HS1.out.below hI))
  rw [hf] at HC
  go_wp2_with fail
  refine HC.out.mono ?_
  rintro e w2 ⟨rfl, hb2⟩
  have HS2 := hideR (HS1.out.on hb2)
  have HBK2 := hideR (HBK1.out.keep (hb2.block p3 HBK1.out.lt))
  have HK2 := hideR (HK1.out.trans (Kept.below hb2))
  clear hb2 HC k0 HS1 HBK1 HK1
  have k0 := HBK2.out.cell 0 _ rfl
  have k1 := HBK2.out.cell 1 _ rfl
  have k2 := HBK2.out.cell 2 _ rfl
  have k3 := HBK2.out.cell 3 _ rfl
  have k4 := HBK2.out.cell 4 _ rfl
  have k5 := HBK2.out.cell 5 _ rfl
  have k6 := HBK2.out.cell 6 _ rfl
  have HE : Hid (WS w0 p c v1 b3 w2) := hideR (by rw [HB3.out]; simpa using HS2.out)
  go_wp2
  go_end0
  exact ⟨_, rfl, HE.out, HK2.out⟩
set_option maxRecDepth 100000 in
set_option maxHeartbeats 4000000 in
theorem wIns4 {I : World → Prop} (C : FormC I) (w0 : World) (hI : I w0) (p : Nat) (c : Nat → Value) (v : Value) (bs : List Int) {d : Nat} (x : Ins (IL d)) (q4 q5 q6 : Option Addr) (y4 z4 y5 z5 y6 z6 : Nat) (w : World) (h : WS w0 p c v bs w) (hn : bs.length ≤ 40000000000000) (hf : form x.op = 4) (ha : 0 ≤ x.a ∧ x.a ≤ 4294967295) : Calls Tryz.prog 111 #[.pointer (some ⟨p, 0, none⟩), .agg #[.int .i64 x.op, .int .i64 x.a, .int .i64 x.b, .int .i64 x.n, .slice q4 y4 z4, .slice q5 y5 z5, .slice q6 y6 z6]] w (Does w0 p c v w (bs ++ ([x.op % 256] ++ Leb.uB x.a))) := by
  have hpw : p < w.heap.size := h.lt
  have hown : ∀ k, v.ownBlock = some k → k < w.heap.size := fun k hk => (h.own.lt k hk).2
  have HBK0 := hideR (Blk.new w w.heap.size x.op x.a x.b x.n (.slice q4 y4 z4) (.slice q5 y5 z5) (.slice q6 y6 z6) rfl)
  obtain ⟨u1, hu1⟩ : ∃ u1, u1 = w.alloc (.cells #[.int .i64 x.op, .int .i64 x.a, .int .i64 x.b, .int .i64 x.n, .slice q4 y4 z4, .slice q5 y5 z5, .slice q6 y6 z6] 52) := ⟨_, rfl⟩
  have HU := hideR (new_on' w (.cells #[.int .i64 x.op, .int .i64 x.a, .int .i64 x.b, .int .i64 x.n, .slice q4 y4 z4, .slice q5 y5 z5, .slice q6 y6 z6] 52))
  rw [← hu1] at HBK0 HU
  have HS0 := hideR (h.on HU.out)
  have HO0 : Hid (some w.heap.size ≠ v.ownBlock) := hideR (fun e => by have := hown _ e.symm; omega)
  have HNP : Hid (w.heap.size ≠ p) := hideR (by omega)
  have HK0 : Hid (Kept p v w v u1) := hideR (Kept.below HU.out)
  have HU1 := hideR hu1
  clear h hpw hown HU hu1
  obtain ⟨b3, hb3⟩ : ∃ b3, b3 = bs ++ ([x.op % 256] ++ Leb.uB x.a) := ⟨_, rfl⟩
  rw [← hb3]
  have HB3 := hideR hb3
  clear hb3
  go_enter Tryz.func111, Tryz.ntmps111
  go_upto_region 1 with fail
  rw [← HU1.out]
  generalize hp3 : w.heap.size = p3 at HBK0 HO0 HNP ⊢
  clear HU1
  have k0 := HBK0.out.cell 0 _ rfl
  have HC := hideR (wPut w0 p c v bs x.op u1 HS0.out (by omega))
  go_wp2_with fail
  refine HC.out.mono ?_
  rintro e w1 ⟨v1, rfl, h1, kk1⟩
  obtain ⟨bb1, bo1⟩ := kk1.box HBK0.out HNP.out HO0.out
  have HS1 := hideR h1
  have HBK1 := hideR bb1
  have HO1 := hideR bo1
  have HK1 := hideR (HK0.out.trans kk1)
  clear h1 kk1 bb1 bo1 HC k0 HS0 HBK0 HO0 HK0
  have k0 := HBK1.out.cell 0 _ rfl
  have HC := hideR (C.form x.op w1 (C.keep HS1.out.below hI))
  rw [hf] at HC
  go_wp2_with fail
  refine HC.out.mono ?_
  rintro e w2 ⟨rfl, hb2⟩
  have HS2 := hideR (HS1.out.on hb2)
  have HBK2 := hideR (HBK1.out.keep (hb2.block p3 HBK1.out.lt))
  have HK2 := hideR (HK1.out.trans (Kept.below hb2))
  clear hb2 HC k0 HS1 HBK1 HK1
  have k0 := HBK2.out.cell 0 _ rfl
  have k1 := HBK2.out.cell 1 _ rfl
  have k2 := HBK2.out.cell 2 _ rfl
  have k3 := HBK2.out.cell 3 _ rfl
  have k4 := HBK2.out.cell 4 _ rfl
  have k5 := HBK2.out.cell 5 _ rfl
  have k6 := HBK2.out.cell 6 _ rfl
  have HC := hideR (wU w0 p c v1 (bs ++ [x.op % 256]) x.a w2 HS2.out ha.1 (by omega) (by simp only [List.length_append, List.length_cons, List.length_nil]; omega))
  go_wp2_with fail
  refine HC.out.mono ?_
  rintro e w3 ⟨v3, rfl, hh, kk⟩
  obtain ⟨bb, bo⟩ := kk.box HBK2.out HNP.out HO1.out
  have HS3 := hideR hh
  have HBK3 := hideR bb
  have HO3 := hideR bo
  have HK3 := hideR (HK2.out.trans kk)
  clear hh kk bb bo HC HS2 HBK2 HK2 k0 k1 k2 k3 k4 k5 k6
  have k0 := HBK3.out.cell 0 _ rfl
  have k1 := HBK3.out.cell 1 _ rfl
  have k2 := HBK3.out.cell 2 _ rfl
  have k3 := HBK3.out.cell 3 _ rfl
  have k4 := HBK3.out.cell 4 _ rfl
  have k5 := HBK3.out.cell 5 _ rfl
  have k6 := HBK3.out.cell 6 _ rfl
  have HE : Hid (WS w0 p c v3 b3 w3) := hideR (by rw [HB3.out]; simpa using HS3.out)
  go_wp2
  go_end0
  exact ⟨_, rfl, HE.out, HK3.out⟩
set_option maxRecDepth 100000 in
set_option maxHeartbeats 4000000 in
theorem wIns6 {I : World → Prop} (C : FormC I) (w0 : World) (hI : I w0) (p : Nat) (c : Nat → Value) (v : Value) (bs : List Int) {d : Nat} (x : Ins (IL d)) (q4 q5 q6 : Option Addr) (y4 z4 y5 z5 y6 z6 : Nat) (w : World) (h : WS w0 p c v bs w) (hn : bs.length ≤ 40000000000000) (hf : form x.op = 6) (ha : 0 ≤ x.a ∧ x.a ≤ 4294967295) : Calls Tryz.prog 111 #[.pointer (some ⟨p, 0, none⟩), .agg #[.int .i64 x.op, .int .i64 x.a, .int .i64 x.b, .int .i64 x.n, .slice q4 y4 z4, .slice q5 y5 z5, .slice q6 y6 z6]] w (Does w0 p c v w (bs ++ ([x.op % 256] ++ Leb.uB x.a))) := by
  have hpw : p < w.heap.size := h.lt
  have hown : ∀ k, v.ownBlock = some k → k < w.heap.size := fun k hk => (h.own.lt k hk).2
  have HBK0 := hideR (Blk.new w w.heap.size x.op x.a x.b x.n (.slice q4 y4 z4) (.slice q5 y5 z5) (.slice q6 y6 z6) rfl)
  obtain ⟨u1, hu1⟩ : ∃ u1, u1 = w.alloc (.cells #[.int .i64 x.op, .int .i64 x.a, .int .i64 x.b, .int .i64 x.n, .slice q4 y4 z4, .slice q5 y5 z5, .slice q6 y6 z6] 52) := ⟨_, rfl⟩
  have HU := hideR (new_on' w (.cells #[.int .i64 x.op, .int .i64 x.a, .int .i64 x.b, .int .i64 x.n, .slice q4 y4 z4, .slice q5 y5 z5, .slice q6 y6 z6] 52))
  rw [← hu1] at HBK0 HU
  have HS0 := hideR (h.on HU.out)
  have HO0 : Hid (some w.heap.size ≠ v.ownBlock) := hideR (fun e => by have := hown _ e.symm; omega)
  have HNP : Hid (w.heap.size ≠ p) := hideR (by omega)
  have HK0 : Hid (Kept p v w v u1) := hideR (Kept.below HU.out)
  have HU1 := hideR hu1
  clear h hpw hown HU hu1
  obtain ⟨b3, hb3⟩ : ∃ b3, b3 = bs ++ ([x.op % 256] ++ Leb.uB x.a) := ⟨_, rfl⟩
  rw [← hb3]
  have HB3 := hideR hb3
  clear hb3
  go_enter Tryz.func111, Tryz.ntmps111
  go_upto_region 1 with fail
  rw [← HU1.out]
  generalize hp3 : w.heap.size = p3 at HBK0 HO0 HNP ⊢
  clear HU1
  have k0 := HBK0.out.cell 0 _ rfl
  have HC := hideR (wPut w0 p c v bs x.op u1 HS0.out (by omega))
  go_wp2_with fail
  refine HC.out.mono ?_
  rintro e w1 ⟨v1, rfl, h1, kk1⟩
  obtain ⟨bb1, bo1⟩ := kk1.box HBK0.out HNP.out HO0.out
  have HS1 := hideR h1
  have HBK1 := hideR bb1
  have HO1 := hideR bo1
  have HK1 := hideR (HK0.out.trans kk1)
  clear h1 kk1 bb1 bo1 HC k0 HS0 HBK0 HO0 HK0
  have k0 := HBK1.out.cell 0 _ rfl
  have HC := hideR (C.form x.op w1 (C.keep HS1.out.below hI))
  rw [hf] at HC
  go_wp2_with fail
  refine HC.out.mono ?_
  rintro e w2 ⟨rfl, hb2⟩
  have HS2 := hideR (HS1.out.on hb2)
  have HBK2 := hideR (HBK1.out.keep (hb2.block p3 HBK1.out.lt))
  have HK2 := hideR (HK1.out.trans (Kept.below hb2))
  clear hb2 HC k0 HS1 HBK1 HK1
  have k0 := HBK2.out.cell 0 _ rfl
  have k1 := HBK2.out.cell 1 _ rfl
  have k2 := HBK2.out.cell 2 _ rfl
  have k3 := HBK2.out.cell 3 _ rfl
  have k4 := HBK2.out.cell 4 _ rfl
  have k5 := HBK2.out.cell 5 _ rfl
  have k6 := HBK2.out.cell 6 _ rfl
  have HC := hideR (wU w0 p c v1 (bs ++ [x.op % 256]) x.a w2 HS2.out ha.1 (by omega) (by simp only [List.length_append, List.length_cons, List.length_nil]; omega))
  go_wp2_with fail
  refine HC.out.mono ?_
  rintro e w3 ⟨v3, rfl, hh, kk⟩
  obtain ⟨bb, bo⟩ := kk.box HBK2.out HNP.out HO1.out
  have HS3 := hideR hh
  have HBK3 := hideR bb
  have HO3 := hideR bo
  have HK3 := hideR (HK2.out.trans kk)
  clear hh kk bb bo HC HS2 HBK2 HK2 k0 k1 k2 k3 k4 k5 k6
  have k0 := HBK3.out.cell 0 _ rfl
  have k1 := HBK3.out.cell 1 _ rfl
  have k2 := HBK3.out.cell 2 _ rfl
  have k3 := HBK3.out.cell 3 _ rfl
  have k4 := HBK3.out.cell 4 _ rfl
  have k5 := HBK3.out.cell 5 _ rfl
  have k6 := HBK3.out.cell 6 _ rfl
  have HE : Hid (WS w0 p c v3 b3 w3) := hideR (by rw [HB3.out]; simpa using HS3.out)
  go_wp2
  go_end0
  exact ⟨_, rfl, HE.out, HK3.out⟩
set_option maxRecDepth 100000 in
set_option maxHeartbeats 4000000 in
theorem wIns9 {I : World → Prop} (C : FormC I) (w0 : World) (hI : I w0) (p : Nat) (c : Nat → Value) (v : Value) (bs : List Int) {d : Nat} (x : Ins (IL d)) (q4 q5 q6 : Option Addr) (y4 z4 y5 z5 y6 z6 : Nat) (w : World) (h : WS w0 p c v bs w) (hn : bs.length ≤ 40000000000000) (hf : form x.op = 9) (hx : -9223372036854775808 ≤ x.n ∧ x.n ≤ 9223372036854775807) : Calls Tryz.prog 111 #[.pointer (some ⟨p, 0, none⟩), .agg #[.int .i64 x.op, .int .i64 x.a, .int .i64 x.b, .int .i64 x.n, .slice q4 y4 z4, .slice q5 y5 z5, .slice q6 y6 z6]] w (Does w0 p c v w (bs ++ ([x.op % 256] ++ Leb.sB x.n))) := by
  have hpw : p < w.heap.size := h.lt
  have hown : ∀ k, v.ownBlock = some k → k < w.heap.size := fun k hk => (h.own.lt k hk).2
  have HBK0 := hideR (Blk.new w w.heap.size x.op x.a x.b x.n (.slice q4 y4 z4) (.slice q5 y5 z5) (.slice q6 y6 z6) rfl)
  obtain ⟨u1, hu1⟩ : ∃ u1, u1 = w.alloc (.cells #[.int .i64 x.op, .int .i64 x.a, .int .i64 x.b, .int .i64 x.n, .slice q4 y4 z4, .slice q5 y5 z5, .slice q6 y6 z6] 52) := ⟨_, rfl⟩
  have HU := hideR (new_on' w (.cells #[.int .i64 x.op, .int .i64 x.a, .int .i64 x.b, .int .i64 x.n, .slice q4 y4 z4, .slice q5 y5 z5, .slice q6 y6 z6] 52))
  rw [← hu1] at HBK0 HU
  have HS0 := hideR (h.on HU.out)
  have HO0 : Hid (some w.heap.size ≠ v.ownBlock) := hideR (fun e => by have := hown _ e.symm; omega)
  have HNP : Hid (w.heap.size ≠ p) := hideR (by omega)
  have HK0 : Hid (Kept p v w v u1) := hideR (Kept.below HU.out)
  have HU1 := hideR hu1
  clear h hpw hown HU hu1
  obtain ⟨b3, hb3⟩ : ∃ b3, b3 = bs ++ ([x.op % 256] ++ Leb.sB x.n) := ⟨_, rfl⟩
  rw [← hb3]
  have HB3 := hideR hb3
  clear hb3
  go_enter Tryz.func111, Tryz.ntmps111
  go_upto_region 1 with fail
  rw [← HU1.out]
  generalize hp3 : w.heap.size = p3 at HBK0 HO0 HNP ⊢
  clear HU1
  have k0 := HBK0.out.cell 0 _ rfl
  have HC := hideR (wPut w0 p c v bs x.op u1 HS0.out (by omega))
  go_wp2_with fail
  refine HC.out.mono ?_
  rintro e w1 ⟨v1, rfl, h1, kk1⟩
  obtain ⟨bb1, bo1⟩ := kk1.box HBK0.out HNP.out HO0.out
  have HS1 := hideR h1
  have HBK1 := hideR bb1
  have HO1 := hideR bo1
  have HK1 := hideR (HK0.out.trans kk1)
  clear h1 kk1 bb1 bo1 HC k0 HS0 HBK0 HO0 HK0
  have k0 := HBK1.out.cell 0 _ rfl
  have HC := hideR (C.form x.op w1 (C.keep HS1.out.below hI))
  rw [hf] at HC
  go_wp2_with fail
  refine HC.out.mono ?_
  rintro e w2 ⟨rfl, hb2⟩
  have HS2 := hideR (HS1.out.on hb2)
  have HBK2 := hideR (HBK1.out.keep (hb2.block p3 HBK1.out.lt))
  have HK2 := hideR (HK1.out.trans (Kept.below hb2))
  clear hb2 HC k0 HS1 HBK1 HK1
  have k0 := HBK2.out.cell 0 _ rfl
  have k1 := HBK2.out.cell 1 _ rfl
  have k2 := HBK2.out.cell 2 _ rfl
  have k3 := HBK2.out.cell 3 _ rfl
  have k4 := HBK2.out.cell 4 _ rfl
  have k5 := HBK2.out.cell 5 _ rfl
  have k6 := HBK2.out.cell 6 _ rfl
  have HC := hideR (wS w0 p c v1 (bs ++ [x.op % 256]) x.n w2 HS2.out hx.1 hx.2 (by simp only [List.length_append, List.length_cons, List.length_nil]; omega))
  go_wp2_with fail
  refine HC.out.mono ?_
  rintro e w3 ⟨v3, rfl, hh, kk⟩
  obtain ⟨bb, bo⟩ := kk.box HBK2.out HNP.out HO1.out
  have HS3 := hideR hh
  have HBK3 := hideR bb
  have HO3 := hideR bo
  have HK3 := hideR (HK2.out.trans kk)
  clear hh kk bb bo HC HS2 HBK2 HK2 k0 k1 k2 k3 k4 k5 k6
  have k0 := HBK3.out.cell 0 _ rfl
  have k1 := HBK3.out.cell 1 _ rfl
  have k2 := HBK3.out.cell 2 _ rfl
  have k3 := HBK3.out.cell 3 _ rfl
  have k4 := HBK3.out.cell 4 _ rfl
  have k5 := HBK3.out.cell 5 _ rfl
  have k6 := HBK3.out.cell 6 _ rfl
  have HE : Hid (WS w0 p c v3 b3 w3) := hideR (by rw [HB3.out]; simpa using HS3.out)
  go_wp2
  go_end0
  exact ⟨_, rfl, HE.out, HK3.out⟩
set_option maxRecDepth 100000 in
set_option maxHeartbeats 4000000 in
theorem wIns8 {I : World → Prop} (C : FormC I) (w0 : World) (hI : I w0) (p : Nat) (c : Nat → Value) (v : Value) (bs : List Int) {d : Nat} (x : Ins (IL d)) (q4 q5 q6 : Option Addr) (y4 z4 y5 z5 y6 z6 : Nat) (w : World) (h : WS w0 p c v bs w) (hn : bs.length ≤ 40000000000000) (hf : form x.op = 8) (ha : 0 ≤ x.a ∧ x.a ≤ 4294967295) (hb : 0 ≤ x.b ∧ x.b ≤ 4294967295) (hu : (Leb.uB x.a).length ≤ 10) : Calls Tryz.prog 111 #[.pointer (some ⟨p, 0, none⟩), .agg #[.int .i64 x.op, .int .i64 x.a, .int .i64 x.b, .int .i64 x.n, .slice q4 y4 z4, .slice q5 y5 z5, .slice q6 y6 z6]] w (Does w0 p c v w (bs ++ ([x.op % 256] ++ Leb.uB x.a ++ Leb.uB x.b))) := by
  have hpw : p < w.heap.size := h.lt
  have hown : ∀ k, v.ownBlock = some k → k < w.heap.size := fun k hk => (h.own.lt k hk).2
  have HBK0 := hideR (Blk.new w w.heap.size x.op x.a x.b x.n (.slice q4 y4 z4) (.slice q5 y5 z5) (.slice q6 y6 z6) rfl)
  obtain ⟨u1, hu1⟩ : ∃ u1, u1 = w.alloc (.cells #[.int .i64 x.op, .int .i64 x.a, .int .i64 x.b, .int .i64 x.n, .slice q4 y4 z4, .slice q5 y5 z5, .slice q6 y6 z6] 52) := ⟨_, rfl⟩
  have HU := hideR (new_on' w (.cells #[.int .i64 x.op, .int .i64 x.a, .int .i64 x.b, .int .i64 x.n, .slice q4 y4 z4, .slice q5 y5 z5, .slice q6 y6 z6] 52))
  rw [← hu1] at HBK0 HU
  have HS0 := hideR (h.on HU.out)
  have HO0 : Hid (some w.heap.size ≠ v.ownBlock) := hideR (fun e => by have := hown _ e.symm; omega)
  have HNP : Hid (w.heap.size ≠ p) := hideR (by omega)
  have HK0 : Hid (Kept p v w v u1) := hideR (Kept.below HU.out)
  have HU1 := hideR hu1
  clear h hpw hown HU hu1
  obtain ⟨b3, hb3⟩ : ∃ b3, b3 = bs ++ ([x.op % 256] ++ Leb.uB x.a ++ Leb.uB x.b) := ⟨_, rfl⟩
  rw [← hb3]
  have HB3 := hideR hb3
  clear hb3
  go_enter Tryz.func111, Tryz.ntmps111
  go_upto_region 1 with fail
  rw [← HU1.out]
  generalize hp3 : w.heap.size = p3 at HBK0 HO0 HNP ⊢
  clear HU1
  have k0 := HBK0.out.cell 0 _ rfl
  have HC := hideR (wPut w0 p c v bs x.op u1 HS0.out (by omega))
  go_wp2_with fail
  refine HC.out.mono ?_
  rintro e w1 ⟨v1, rfl, h1, kk1⟩
  obtain ⟨bb1, bo1⟩ := kk1.box HBK0.out HNP.out HO0.out
  have HS1 := hideR h1
  have HBK1 := hideR bb1
  have HO1 := hideR bo1
  have HK1 := hideR (HK0.out.trans kk1)
  clear h1 kk1 bb1 bo1 HC k0 HS0 HBK0 HO0 HK0
  have k0 := HBK1.out.cell 0 _ rfl
  have HC := hideR (C.form x.op w1 (C.keep HS1.out.below hI))
  rw [hf] at HC
  go_wp2_with fail
  refine HC.out.mono ?_
  rintro e w2 ⟨rfl, hb2⟩
  have HS2 := hideR (HS1.out.on hb2)
  have HBK2 := hideR (HBK1.out.keep (hb2.block p3 HBK1.out.lt))
  have HK2 := hideR (HK1.out.trans (Kept.below hb2))
  clear hb2 HC k0 HS1 HBK1 HK1
  have k0 := HBK2.out.cell 0 _ rfl
  have k1 := HBK2.out.cell 1 _ rfl
  have k2 := HBK2.out.cell 2 _ rfl
  have k3 := HBK2.out.cell 3 _ rfl
  have k4 := HBK2.out.cell 4 _ rfl
  have k5 := HBK2.out.cell 5 _ rfl
  have k6 := HBK2.out.cell 6 _ rfl
  have HC := hideR (wU w0 p c v1 (bs ++ [x.op % 256]) x.a w2 HS2.out ha.1 (by omega) (by simp only [List.length_append, List.length_cons, List.length_nil]; omega))
  go_wp2_with fail
  refine HC.out.mono ?_
  rintro e w3 ⟨v3, rfl, hh, kk⟩
  obtain ⟨bb, bo⟩ := kk.box HBK2.out HNP.out HO1.out
  have HS3 := hideR hh
  have HBK3 := hideR bb
  have HO3 := hideR bo
  have HK3 := hideR (HK2.out.trans kk)
  clear hh kk bb bo HC HS2 HBK2 HK2 k0 k1 k2 k3 k4 k5 k6
  have k0 := HBK3.out.cell 0 _ rfl
  have k1 := HBK3.out.cell 1 _ rfl
  have k2 := HBK3.out.cell 2 _ rfl
  have k3 := HBK3.out.cell 3 _ rfl
  have k4 := HBK3.out.cell 4 _ rfl
  have k5 := HBK3.out.cell 5 _ rfl
  have k6 := HBK3.out.cell 6 _ rfl
  have HC := hideR (wU w0 p c v3 (bs ++ [x.op % 256] ++ Leb.uB x.a) x.b w3 HS3.out hb.1 (by omega) (by simp only [List.length_append, List.length_cons, List.length_nil]; omega))
  go_wp2_with fail
  refine HC.out.mono ?_
  rintro e w4 ⟨v4, rfl, hh, kk⟩
  obtain ⟨bb, bo⟩ := kk.box HBK3.out HNP.out HO3.out
  have HS4 := hideR hh
  have HBK4 := hideR bb
  have HO4 := hideR bo
  have HK4 := hideR (HK3.out.trans kk)
  clear hh kk bb bo HC HS3 HBK3 HK3 k0 k1 k2 k3 k4 k5 k6
  have k0 := HBK4.out.cell 0 _ rfl
  have k1 := HBK4.out.cell 1 _ rfl
  have k2 := HBK4.out.cell 2 _ rfl
  have k3 := HBK4.out.cell 3 _ rfl
  have k4 := HBK4.out.cell 4 _ rfl
  have k5 := HBK4.out.cell 5 _ rfl
  have k6 := HBK4.out.cell 6 _ rfl
  have HE : Hid (WS w0 p c v4 b3 w4) := hideR (by rw [HB3.out]; simpa using HS4.out)
  go_wp2
  go_end0
  exact ⟨_, rfl, HE.out, HK4.out⟩
set_option maxRecDepth 100000 in
set_option maxHeartbeats 4000000 in
theorem wIns7 {I : World → Prop} (C : FormC I) (w0 : World) (hI : I w0) (p : Nat) (c : Nat → Value) (v : Value) (bs : List Int) {d : Nat} (x : Ins (IL d)) (q4 q5 q6 : Option Addr) (y4 z4 y5 z5 y6 z6 : Nat) (w : World) (h : WS w0 p c v bs w) (hn : bs.length ≤ 40000000000000) (hf : form x.op = 7) (ha : 0 ≤ x.a ∧ x.a ≤ 4294967295) (hu : (Leb.uB x.a).length ≤ 10) : Calls Tryz.prog 111 #[.pointer (some ⟨p, 0, none⟩), .agg #[.int .i64 x.op, .int .i64 x.a, .int .i64 x.b, .int .i64 x.n, .slice q4 y4 z4, .slice q5 y5 z5, .slice q6 y6 z6]] w (Does w0 p c v w (bs ++ ([x.op % 256] ++ Leb.uB x.a ++ [0]))) := by
  have hpw : p < w.heap.size := h.lt
  have hown : ∀ k, v.ownBlock = some k → k < w.heap.size := fun k hk => (h.own.lt k hk).2
  have HBK0 := hideR (Blk.new w w.heap.size x.op x.a x.b x.n (.slice q4 y4 z4) (.slice q5 y5 z5) (.slice q6 y6 z6) rfl)
  obtain ⟨u1, hu1⟩ : ∃ u1, u1 = w.alloc (.cells #[.int .i64 x.op, .int .i64 x.a, .int .i64 x.b, .int .i64 x.n, .slice q4 y4 z4, .slice q5 y5 z5, .slice q6 y6 z6] 52) := ⟨_, rfl⟩
  have HU := hideR (new_on' w (.cells #[.int .i64 x.op, .int .i64 x.a, .int .i64 x.b, .int .i64 x.n, .slice q4 y4 z4, .slice q5 y5 z5, .slice q6 y6 z6] 52))
  rw [← hu1] at HBK0 HU
  have HS0 := hideR (h.on HU.out)
  have HO0 : Hid (some w.heap.size ≠ v.ownBlock) := hideR (fun e => by have := hown _ e.symm; omega)
  have HNP : Hid (w.heap.size ≠ p) := hideR (by omega)
  have HK0 : Hid (Kept p v w v u1) := hideR (Kept.below HU.out)
  have HU1 := hideR hu1
  clear h hpw hown HU hu1
  obtain ⟨b3, hb3⟩ : ∃ b3, b3 = bs ++ ([x.op % 256] ++ Leb.uB x.a ++ [0]) := ⟨_, rfl⟩
  rw [← hb3]
  have HB3 := hideR hb3
  clear hb3
  go_enter Tryz.func111, Tryz.ntmps111
  go_upto_region 1 with fail
  rw [← HU1.out]
  generalize hp3 : w.heap.size = p3 at HBK0 HO0 HNP ⊢
  clear HU1
  have k0 := HBK0.out.cell 0 _ rfl
  have HC := hideR (wPut w0 p c v bs x.op u1 HS0.out (by omega))
  go_wp2_with fail
  refine HC.out.mono ?_
  rintro e w1 ⟨v1, rfl, h1, kk1⟩
  obtain ⟨bb1, bo1⟩ := kk1.box HBK0.out HNP.out HO0.out
  have HS1 := hideR h1
  have HBK1 := hideR bb1
  have HO1 := hideR bo1
  have HK1 := hideR (HK0.out.trans kk1)
  clear h1 kk1 bb1 bo1 HC k0 HS0 HBK0 HO0 HK0
  have k0 := HBK1.out.cell 0 _ rfl
  have HC := hideR (C.form x.op w1 (C.keep HS1.out.below hI))
  rw [hf] at HC
  go_wp2_with fail
  refine HC.out.mono ?_
  rintro e w2 ⟨rfl, hb2⟩
  have HS2 := hideR (HS1.out.on hb2)
  have HBK2 := hideR (HBK1.out.keep (hb2.block p3 HBK1.out.lt))
  have HK2 := hideR (HK1.out.trans (Kept.below hb2))
  clear hb2 HC k0 HS1 HBK1 HK1
  have k0 := HBK2.out.cell 0 _ rfl
  have k1 := HBK2.out.cell 1 _ rfl
  have k2 := HBK2.out.cell 2 _ rfl
  have k3 := HBK2.out.cell 3 _ rfl
  have k4 := HBK2.out.cell 4 _ rfl
  have k5 := HBK2.out.cell 5 _ rfl
  have k6 := HBK2.out.cell 6 _ rfl
  have HC := hideR (wU w0 p c v1 (bs ++ [x.op % 256]) x.a w2 HS2.out ha.1 (by omega) (by simp only [List.length_append, List.length_cons, List.length_nil]; omega))
  go_wp2_with fail
  refine HC.out.mono ?_
  rintro e w3 ⟨v3, rfl, hh, kk⟩
  obtain ⟨bb, bo⟩ := kk.box HBK2.out HNP.out HO1.out
  have HS3 := hideR hh
  have HBK3 := hideR bb
  have HO3 := hideR bo
  have HK3 := hideR (HK2.out.trans kk)
  clear hh kk bb bo HC HS2 HBK2 HK2 k0 k1 k2 k3 k4 k5 k6
  have k0 := HBK3.out.cell 0 _ rfl
  have k1 := HBK3.out.cell 1 _ rfl
  have k2 := HBK3.out.cell 2 _ rfl
  have k3 := HBK3.out.cell 3 _ rfl
  have k4 := HBK3.out.cell 4 _ rfl
  have k5 := HBK3.out.cell 5 _ rfl
  have k6 := HBK3.out.cell 6 _ rfl
  have HC := hideR (wPut w0 p c v3 (bs ++ [x.op % 256] ++ Leb.uB x.a) 0 w3 HS3.out (by simp only [List.length_append, List.length_cons, List.length_nil]; omega))
  go_wp2_with fail
  refine HC.out.mono ?_
  rintro e w4 ⟨v4, rfl, hh, kk⟩
  obtain ⟨bb, bo⟩ := kk.box HBK3.out HNP.out HO3.out
  have HS4 := hideR hh
  have HBK4 := hideR bb
  have HO4 := hideR bo
  have HK4 := hideR (HK3.out.trans kk)
  clear hh kk bb bo HC HS3 HBK3 HK3 k0 k1 k2 k3 k4 k5 k6
  have k0 := HBK4.out.cell 0 _ rfl
  have k1 := HBK4.out.cell 1 _ rfl
  have k2 := HBK4.out.cell 2 _ rfl
  have k3 := HBK4.out.cell 3 _ rfl
  have k4 := HBK4.out.cell 4 _ rfl
  have k5 := HBK4.out.cell 5 _ rfl
  have k6 := HBK4.out.cell 6 _ rfl
  have HE : Hid (WS w0 p c v4 b3 w4) := hideR (by rw [HB3.out]; simpa using HS4.out)
  go_wp2
  go_end0
  exact ⟨_, rfl, HE.out, HK4.out⟩
set_option maxRecDepth 100000 in
set_option maxHeartbeats 4000000 in
theorem wIns5 {I : World → Prop} (C : FormC I) (w0 : World) (hI : I w0) (p : Nat) (c : Nat → Value) (v : Value) (bs : List Int) {d : Nat} (x : Ins (IL d)) (q4 q5 q6 : Option Addr) (y4 z4 y5 z5 y6 z6 : Nat) (w : World) (h : WS w0 p c v bs w) (hn : bs.length ≤ 40000000000000) (hf : form x.op = 5) (ha : 0 ≤ x.a ∧ x.a ≤ 4294967295) (hL : Ints w0 (.slice q4 y4 z4) x.labels) (hr : ∀ y ∈ x.labels, 0 ≤ y ∧ y ≤ 4294967295) (hl : x.labels.length ≤ 10000000) (hu : (idxB x.labels).length ≤ 100000010) : Calls Tryz.prog 111 #[.pointer (some ⟨p, 0, none⟩), .agg #[.int .i64 x.op, .int .i64 x.a, .int .i64 x.b, .int .i64 x.n, .slice q4 y4 z4, .slice q5 y5 z5, .slice q6 y6 z6]] w (Does w0 p c v w (bs ++ ([x.op % 256] ++ idxB x.labels ++ Leb.uB x.a))) := by
  have hpw : p < w.heap.size := h.lt
  have hown : ∀ k, v.ownBlock = some k → k < w.heap.size := fun k hk => (h.own.lt k hk).2
  have HBK0 := hideR (Blk.new w w.heap.size x.op x.a x.b x.n (.slice q4 y4 z4) (.slice q5 y5 z5) (.slice q6 y6 z6) rfl)
  obtain ⟨u1, hu1⟩ : ∃ u1, u1 = w.alloc (.cells #[.int .i64 x.op, .int .i64 x.a, .int .i64 x.b, .int .i64 x.n, .slice q4 y4 z4, .slice q5 y5 z5, .slice q6 y6 z6] 52) := ⟨_, rfl⟩
  have HU := hideR (new_on' w (.cells #[.int .i64 x.op, .int .i64 x.a, .int .i64 x.b, .int .i64 x.n, .slice q4 y4 z4, .slice q5 y5 z5, .slice q6 y6 z6] 52))
  rw [← hu1] at HBK0 HU
  have HS0 := hideR (h.on HU.out)
  have HO0 : Hid (some w.heap.size ≠ v.ownBlock) := hideR (fun e => by have := hown _ e.symm; omega)
  have HNP : Hid (w.heap.size ≠ p) := hideR (by omega)
  have HK0 : Hid (Kept p v w v u1) := hideR (Kept.below HU.out)
  have HU1 := hideR hu1
  clear h hpw hown HU hu1
  obtain ⟨b3, hb3⟩ : ∃ b3, b3 = bs ++ ([x.op % 256] ++ idxB x.labels ++ Leb.uB x.a) := ⟨_, rfl⟩
  rw [← hb3]
  have HB3 := hideR hb3
  clear hb3
  go_enter Tryz.func111, Tryz.ntmps111
  go_upto_region 1 with fail
  rw [← HU1.out]
  generalize hp3 : w.heap.size = p3 at HBK0 HO0 HNP ⊢
  clear HU1
  have k0 := HBK0.out.cell 0 _ rfl
  have HC := hideR (wPut w0 p c v bs x.op u1 HS0.out (by omega))
  go_wp2_with fail
  refine HC.out.mono ?_
  rintro e w1 ⟨v1, rfl, h1, kk1⟩
  obtain ⟨bb1, bo1⟩ := kk1.box HBK0.out HNP.out HO0.out
  have HS1 := hideR h1
  have HBK1 := hideR bb1
  have HO1 := hideR bo1
  have HK1 := hideR (HK0.out.trans kk1)
  clear h1 kk1 bb1 bo1 HC k0 HS0 HBK0 HO0 HK0
  have k0 := HBK1.out.cell 0 _ rfl
  have HC := hideR (C.form x.op w1 (C.keep HS1.out.below hI))
  rw [hf] at HC
  go_wp2_with fail
  refine HC.out.mono ?_
  rintro e w2 ⟨rfl, hb2⟩
  have HS2 := hideR (HS1.out.on hb2)
  have HBK2 := hideR (HBK1.out.keep (hb2.block p3 HBK1.out.lt))
  have HK2 := hideR (HK1.out.trans (Kept.below hb2))
  clear hb2 HC k0 HS1 HBK1 HK1
  have k0 := HBK2.out.cell 0 _ rfl
  have k1 := HBK2.out.cell 1 _ rfl
  have k2 := HBK2.out.cell 2 _ rfl
  have k3 := HBK2.out.cell 3 _ rfl
  have k4 := HBK2.out.cell 4 _ rfl
  have k5 := HBK2.out.cell 5 _ rfl
  have k6 := HBK2.out.cell 6 _ rfl
  have HC := hideR (wIdx w0 p c v1 (bs ++ [x.op % 256]) _ x.labels w2 HS2.out hL hr hl (by simp only [List.length_append, List.length_cons, List.length_nil]; omega))
  go_wp2_with fail
  refine HC.out.mono ?_
  rintro e w3 ⟨v3, rfl, hh, kk⟩
  obtain ⟨bb, bo⟩ := kk.box HBK2.out HNP.out HO1.out
  have HS3 := hideR hh
  have HBK3 := hideR bb
  have HO3 := hideR bo
  have HK3 := hideR (HK2.out.trans kk)
  clear hh kk bb bo HC HS2 HBK2 HK2 k0 k1 k2 k3 k4 k5 k6
  have k0 := HBK3.out.cell 0 _ rfl
  have k1 := HBK3.out.cell 1 _ rfl
  have k2 := HBK3.out.cell 2 _ rfl
  have k3 := HBK3.out.cell 3 _ rfl
  have k4 := HBK3.out.cell 4 _ rfl
  have k5 := HBK3.out.cell 5 _ rfl
  have k6 := HBK3.out.cell 6 _ rfl
  have HC := hideR (wU w0 p c v3 (bs ++ [x.op % 256] ++ idxB x.labels) x.a w3 HS3.out ha.1 (by omega) (by simp only [List.length_append, List.length_cons, List.length_nil]; omega))
  go_wp2_with fail
  refine HC.out.mono ?_
  rintro e w4 ⟨v4, rfl, hh, kk⟩
  obtain ⟨bb, bo⟩ := kk.box HBK3.out HNP.out HO3.out
  have HS4 := hideR hh
  have HBK4 := hideR bb
  have HO4 := hideR bo
  have HK4 := hideR (HK3.out.trans kk)
  clear hh kk bb bo HC HS3 HBK3 HK3 k0 k1 k2 k3 k4 k5 k6
  have k0 := HBK4.out.cell 0 _ rfl
  have k1 := HBK4.out.cell 1 _ rfl
  have k2 := HBK4.out.cell 2 _ rfl
  have k3 := HBK4.out.cell 3 _ rfl
  have k4 := HBK4.out.cell 4 _ rfl
  have k5 := HBK4.out.cell 5 _ rfl
  have k6 := HBK4.out.cell 6 _ rfl
  have HE : Hid (WS w0 p c v4 b3 w4) := hideR (by rw [HB3.out]; simpa using HS4.out)
  go_wp2
  go_end0
  exact ⟨_, rfl, HE.out, HK4.out⟩
set_option maxRecDepth 100000 in
set_option maxHeartbeats 4000000 in
theorem wInsX {I : World → Prop} (C : FormC I) (w0 : World) (hI : I w0) (p : Nat) (c : Nat → Value) (v : Value) (bs : List Int) {d : Nat} (x : Ins (IL d)) (q4 q5 q6 : Option Addr) (y4 z4 y5 z5 y6 z6 : Nat) (w : World) (h : WS w0 p c v bs w) (hn : bs.length ≤ 40000000000000) (hf : form x.op < 1 ∨ 9 < form x.op)  : Calls Tryz.prog 111 #[.pointer (some ⟨p, 0, none⟩), .agg #[.int .i64 x.op, .int .i64 x.a, .int .i64 x.b, .int .i64 x.n, .slice q4 y4 z4, .slice q5 y5 z5, .slice q6 y6 z6]] w (Does w0 p c v w (bs ++ ([x.op % 256]))) := by
  have hpw : p < w.heap.size := h.lt
  have hown : ∀ k, v.ownBlock = some k → k < w.heap.size := fun k hk => (h.own.lt k hk).2
  have HBK0 := hideR (Blk.new w w.heap.size x.op x.a x.b x.n (.slice q4 y4 z4) (.slice q5 y5 z5) (.slice q6 y6 z6) rfl)
  obtain ⟨u1, hu1⟩ : ∃ u1, u1 = w.alloc (.cells #[.int .i64 x.op, .int .i64 x.a, .int .i64 x.b, .int .i64 x.n, .slice q4 y4 z4, .slice q5 y5 z5, .slice q6 y6 z6] 52) := ⟨_, rfl⟩
  have HU := hideR (new_on' w (.cells #[.int .i64 x.op, .int .i64 x.a, .int .i64 x.b, .int .i64 x.n, .slice q4 y4 z4, .slice q5 y5 z5, .slice q6 y6 z6] 52))
  rw [← hu1] at HBK0 HU
  have HS0 := hideR (h.on HU.out)
  have HO0 : Hid (some w.heap.size ≠ v.ownBlock) := hideR (fun e => by have := hown _ e.symm; omega)
  have HNP : Hid (w.heap.size ≠ p) := hideR (by omega)
  have HK0 : Hid (Kept p v w v u1) := hideR (Kept.below HU.out)
  have HU1 := hideR hu1
  clear h hpw hown HU hu1
  obtain ⟨b3, hb3⟩ : ∃ b3, b3 = bs ++ ([x.op % 256]) := ⟨_, rfl⟩
  rw [← hb3]
  have HB3 := hideR hb3
  clear hb3
  go_enter Tryz.func111, Tryz.ntmps111
  go_upto_region 1 with fail
  rw [← HU1.out]
  generalize hp3 : w.heap.size = p3 at HBK0 HO0 HNP ⊢
  clear HU1
  have k0 := HBK0.out.cell 0 _ rfl
  have HC := hideR (wPut w0 p c v bs x.op u1 HS0.out (by omega))
  go_wp2_with fail
  refine HC.out.mono ?_
  rintro e w1 ⟨v1, rfl, h1, kk1⟩
  obtain ⟨bb1, bo1⟩ := kk1.box HBK0.out HNP.out HO0.out
  have HS1 := hideR h1
  have HBK1 := hideR bb1
  have HO1 := hideR bo1
  have HK1 := hideR (HK0.out.trans kk1)
  clear h1 kk1 bb1 bo1 HC k0 HS0 HBK0 HO0 HK0
  have k0 := HBK1.out.cell 0 _ rfl
  have HC := hideR (C.form x.op w1 (C.keep HS1.out.below hI))
  generalize form x.op = f at HC hf
  have n1 : (f == 1) = false := by simp; omega
  have n2 : (f == 2) = false := by simp; omega
  have n3 : (f == 3) = false := by simp; omega
  have n4 : (f == 4) = false := by simp; omega
  have n5 : (f == 5) = false := by simp; omega
  have n6 : (f == 6) = false := by simp; omega
  have n7 : (f == 7) = false := by simp; omega
  have n8 : (f == 8) = false := by simp; omega
  have n9 : (f == 9) = false := by simp; omega
  go_wp2_with fail
  refine HC.out.mono ?_
  rintro e w2 ⟨rfl, hb2⟩
  have HS2 := hideR (HS1.out.on hb2)
  have HBK2 := hideR (HBK1.out.keep (hb2.block p3 HBK1.out.lt))
  have HK2 := hideR (HK1.out.trans (Kept.below hb2))
  clear hb2 HC k0 HS1 HBK1 HK1
  have k0 := HBK2.out.cell 0 _ rfl
  have k1 := HBK2.out.cell 1 _ rfl
  have k2 := HBK2.out.cell 2 _ rfl
  have k3 := HBK2.out.cell 3 _ rfl
  have k4 := HBK2.out.cell 4 _ rfl
  have k5 := HBK2.out.cell 5 _ rfl
  have k6 := HBK2.out.cell 6 _ rfl
  have HE : Hid (WS w0 p c v1 b3 w2) := hideR (by rw [HB3.out]; simpa using HS2.out)
  go_wp2
  go_end0
  exact ⟨_, rfl, HE.out, HK2.out⟩
end Go.Proofs.YtloelineidlenaaGreatDoor

namespace Go.Proofs.YtloelineidlenaaGreatDoor
open Go.RowKit Rep Enc Go.Lib
set_option linter.unusedVariables false
namespace Enc
def IS (w0 : World) (p : Nat) (c : Nat → Value) (d : Nat) : Prop := ∀ (lv : Value) (l : IL d) (v : Value) (bs : List Int) (w : World), WS w0 p c v bs w → At w0 d lv l → Rg d l → bs.length + (bytesI d l).length ≤ 39000000000000 →
  Calls Tryz.prog 73 #[.pointer (some ⟨p, 0, none⟩), lv] w (DoesA w0 p c v w bs (bytesI d l))
def So (bs add b : List Int) : Prop := Adds bs add b ∧ b.length ≤ bs.length + add.length
theorem So.refl (bs : List Int) : So bs [] bs := ⟨Adds.refl bs, by simp⟩
theorem So.app {bs add b : List Int} (h : So bs add b) (x : List Int) : So bs (add ++ x) (b ++ x) := ⟨h.1.trans (.inl rfl), by have := h.2; simp only [List.length_append]; omega⟩
theorem So.adds {bs add b b' x : List Int} (h : So bs add b) (h' : Adds b x b') (hl : b'.length ≤ b.length + x.length) : So bs (add ++ x) b' := ⟨h.1.trans h', by have := h.2; simp only [List.length_append]; omega⟩
def blkB {d : Nat} (x : Ins (IL d)) : List Int := (if x.a = 0 then [64] else [x.a % 256]) ++ bytesI d x.body ++ (if 0 < size d x.els then [5] ++ bytesI d x.els else []) ++ [11]
end Enc
set_option maxRecDepth 100000 in
set_option maxHeartbeats 4000000 in
theorem wBlk00 (w0 : World) (p : Nat) (c : Nat → Value) (v : Value) (bs : List Int) {d : Nat} (IH : IS w0 p c d) (x : Ins (IL d)) (q4 q5 q6 : Option Addr) (y4 z4 y5 z5 y6 z6 : Nat) (w : World) (h : WS w0 p c v bs w) (hx : x.a = 0) (he : size d x.els = y6) (hy : y6 = 0) (a5 : At w0 d (.slice q5 y5 z5) x.body) (a6 : At w0 d (.slice q6 y6 z6) x.els) (r5 : Rg d x.body) (r6 : Rg d x.els) (hlen : bs.length + ([64] ++ bytesI d x.body ++ [11]).length ≤ 39000000000000) : Calls Tryz.prog 125 #[.pointer (some ⟨p, 0, none⟩), .agg #[.int .i64 x.op, .int .i64 x.a, .int .i64 x.b, .int .i64 x.n, .slice q4 y4 z4, .slice q5 y5 z5, .slice q6 y6 z6]] w (DoesA w0 p c v w bs ([64] ++ bytesI d x.body ++ [11])) := by
  have HA5 := hideR a5
  have HA6 := hideR a6
  have HR5 := hideR r5
  have HR6 := hideR r6
  have HIH := hideR IH
  have HRES : Hid ([64] ++ bytesI d x.body ++ [11] = [64] ++ bytesI d x.body ++ [11]) := hideR rfl
  clear a5 a6 r5 r6 IH
  have e0 : (x.a == 0) = true := by simp [hx]
  have hy1 : y6 < 1 := by omega
  clear hx hy he
  have hpw : p < w.heap.size := h.lt
  have hown : ∀ k, v.ownBlock = some k → k < w.heap.size := fun k hk => (h.own.lt k hk).2
  have HBK0 := hideR (Blk.new w w.heap.size x.op x.a x.b x.n (.slice q4 y4 z4) (.slice q5 y5 z5) (.slice q6 y6 z6) rfl)
  obtain ⟨u1, hu1⟩ : ∃ u1, u1 = w.alloc (.cells #[.int .i64 x.op, .int .i64 x.a, .int .i64 x.b, .int .i64 x.n, .slice q4 y4 z4, .slice q5 y5 z5, .slice q6 y6 z6] 52) := ⟨_, rfl⟩
  have HU := hideR (new_on' w (.cells #[.int .i64 x.op, .int .i64 x.a, .int .i64 x.b, .int .i64 x.n, .slice q4 y4 z4, .slice q5 y5 z5, .slice q6 y6 z6] 52))
  rw [← hu1] at HBK0 HU
  have HS0 := hideR (h.on HU.out)
  have HO0 : Hid (some w.heap.size ≠ v.ownBlock) := hideR (fun e => by have := hown _ e.symm; omega)
  have HNP : Hid (w.heap.size ≠ p) := hideR (by omega)
  have HK0 : Hid (Kept p v w v u1) := hideR (Kept.below HU.out)
  have HSO0 : Hid (So bs [] bs) := hideR (So.refl bs)
  have HU1 := hideR hu1
  clear h hpw hown HU hu1
  go_enter Tryz.func125, Tryz.ntmps125
  go_upto_region 1 with fail
  rw [← HU1.out]
  generalize hp3 : w.heap.size = p3 at HBK0 HO0 HNP ⊢
  clear HU1
  have k0 := HBK0.out.cell 0 _ rfl
  have k1 := HBK0.out.cell 1 _ rfl
  have k2 := HBK0.out.cell 2 _ rfl
  have k3 := HBK0.out.cell 3 _ rfl
  have k4 := HBK0.out.cell 4 _ rfl
  have k5 := HBK0.out.cell 5 _ rfl
  have k6 := HBK0.out.cell 6 _ rfl
  have HC := hideR (wPut w0 p c v bs 64 u1 HS0.out (by have := HSO0.out.2; simp only [List.length_append, List.length_cons, List.length_nil] at this hlen ⊢; omega))
  go_wp2_with fail
  refine HC.out.mono ?_
  rintro e w1 ⟨v1, rfl, hh, kk⟩
  have HSO1 := hideR (HSO0.out.app ([64 % 256]))
  obtain ⟨b1, hb1⟩ : ∃ b, b = bs ++ ([64 % 256]) := ⟨_, rfl⟩
  rw [← hb1] at hh HSO1
  clear hb1
  obtain ⟨bb, bo⟩ := kk.box HBK0.out HNP.out HO0.out
  have HS1 := hideR hh
  have HBK1 := hideR bb
  have HO1 := hideR bo
  have HK1 := hideR (HK0.out.trans kk)
  clear hh kk bb bo HC HS0 HBK0 HK0 HO0 k0 k1 k2 k3 k4 k5 k6
  have k0 := HBK1.out.cell 0 _ rfl
  have k1 := HBK1.out.cell 1 _ rfl
  have k2 := HBK1.out.cell 2 _ rfl
  have k3 := HBK1.out.cell 3 _ rfl
  have k4 := HBK1.out.cell 4 _ rfl
  have k5 := HBK1.out.cell 5 _ rfl
  have k6 := HBK1.out.cell 6 _ rfl
  have HC := hideR (HIH.out _ x.body v1 b1 w1 HS1.out HA5.out HR5.out (by have := HSO1.out.2; simp only [List.length_append, List.length_cons, List.length_nil] at this hlen ⊢; omega))
  go_wp2_with fail
  refine HC.out.mono ?_
  rintro e w2 ⟨v2, b2, rfl, hh, kk, ha, hl⟩
  have HSO2 := hideR (HSO1.out.adds ha hl)
  clear ha hl
  obtain ⟨bb, bo⟩ := kk.box HBK1.out HNP.out HO1.out
  have HS2 := hideR hh
  have HBK2 := hideR bb
  have HO2 := hideR bo
  have HK2 := hideR (HK1.out.trans kk)
  clear hh kk bb bo HC HS1 HBK1 HK1 HO1 k0 k1 k2 k3 k4 k5 k6
  have k0 := HBK2.out.cell 0 _ rfl
  have k1 := HBK2.out.cell 1 _ rfl
  have k2 := HBK2.out.cell 2 _ rfl
  have k3 := HBK2.out.cell 3 _ rfl
  have k4 := HBK2.out.cell 4 _ rfl
  have k5 := HBK2.out.cell 5 _ rfl
  have k6 := HBK2.out.cell 6 _ rfl
  have HC := hideR (wPut w0 p c v2 b2 11 w2 HS2.out (by have := HSO2.out.2; simp only [List.length_append, List.length_cons, List.length_nil] at this hlen ⊢; omega))
  go_wp2_with fail
  refine HC.out.mono ?_
  rintro e w3 ⟨v3, rfl, hh, kk⟩
  have HSO3 := hideR (HSO2.out.app ([11 % 256]))
  obtain ⟨b3, hb3⟩ : ∃ b, b = b2 ++ ([11 % 256]) := ⟨_, rfl⟩
  rw [← hb3] at hh HSO3
  clear hb3
  obtain ⟨bb, bo⟩ := kk.box HBK2.out HNP.out HO2.out
  have HS3 := hideR hh
  have HBK3 := hideR bb
  have HO3 := hideR bo
  have HK3 := hideR (HK2.out.trans kk)
  clear hh kk bb bo HC HS2 HBK2 HK2 HO2 k0 k1 k2 k3 k4 k5 k6
  have HF : Hid (So bs ([64] ++ bytesI d x.body ++ [11]) b3) := hideR (by have := HSO3.out; simpa using this)
  go_wp2
  go_end0
  exact ⟨_, _, rfl, HS3.out, HK3.out, HF.out.1, HF.out.2⟩
set_option maxRecDepth 100000 in
set_option maxHeartbeats 4000000 in
theorem wBlk01 (w0 : World) (p : Nat) (c : Nat → Value) (v : Value) (bs : List Int) {d : Nat} (IH : IS w0 p c d) (x : Ins (IL d)) (q4 q5 q6 : Option Addr) (y4 z4 y5 z5 y6 z6 : Nat) (w : World) (h : WS w0 p c v bs w) (hx : x.a = 0) (he : size d x.els = y6) (hy : 0 < y6) (a5 : At w0 d (.slice q5 y5 z5) x.body) (a6 : At w0 d (.slice q6 y6 z6) x.els) (r5 : Rg d x.body) (r6 : Rg d x.els) (hlen : bs.length + ([64] ++ bytesI d x.body ++ [5] ++ bytesI d x.els ++ [11]).length ≤ 39000000000000) : Calls Tryz.prog 125 #[.pointer (some ⟨p, 0, none⟩), .agg #[.int .i64 x.op, .int .i64 x.a, .int .i64 x.b, .int .i64 x.n, .slice q4 y4 z4, .slice q5 y5 z5, .slice q6 y6 z6]] w (DoesA w0 p c v w bs ([64] ++ bytesI d x.body ++ [5] ++ bytesI d x.els ++ [11])) := by
  have HA5 := hideR a5
  have HA6 := hideR a6
  have HR5 := hideR r5
  have HR6 := hideR r6
  have HIH := hideR IH
  have HRES : Hid ([64] ++ bytesI d x.body ++ [5] ++ bytesI d x.els ++ [11] = [64] ++ bytesI d x.body ++ [5] ++ bytesI d x.els ++ [11]) := hideR rfl
  clear a5 a6 r5 r6 IH
  have e0 : (x.a == 0) = true := by simp [hx]
  clear hx he
  have hpw : p < w.heap.size := h.lt
  have hown : ∀ k, v.ownBlock = some k → k < w.heap.size := fun k hk => (h.own.lt k hk).2
  have HBK0 := hideR (Blk.new w w.heap.size x.op x.a x.b x.n (.slice q4 y4 z4) (.slice q5 y5 z5) (.slice q6 y6 z6) rfl)
  obtain ⟨u1, hu1⟩ : ∃ u1, u1 = w.alloc (.cells #[.int .i64 x.op, .int .i64 x.a, .int .i64 x.b, .int .i64 x.n, .slice q4 y4 z4, .slice q5 y5 z5, .slice q6 y6 z6] 52) := ⟨_, rfl⟩
  have HU := hideR (new_on' w (.cells #[.int .i64 x.op, .int .i64 x.a, .int .i64 x.b, .int .i64 x.n, .slice q4 y4 z4, .slice q5 y5 z5, .slice q6 y6 z6] 52))
  rw [← hu1] at HBK0 HU
  have HS0 := hideR (h.on HU.out)
  have HO0 : Hid (some w.heap.size ≠ v.ownBlock) := hideR (fun e => by have := hown _ e.symm; omega)
  have HNP : Hid (w.heap.size ≠ p) := hideR (by omega)
  have HK0 : Hid (Kept p v w v u1) := hideR (Kept.below HU.out)
  have HSO0 : Hid (So bs [] bs) := hideR (So.refl bs)
  have HU1 := hideR hu1
  clear h hpw hown HU hu1
  go_enter Tryz.func125, Tryz.ntmps125
  go_upto_region 1 with fail
  rw [← HU1.out]
  generalize hp3 : w.heap.size = p3 at HBK0 HO0 HNP ⊢
  clear HU1
  have k0 := HBK0.out.cell 0 _ rfl
  have k1 := HBK0.out.cell 1 _ rfl
  have k2 := HBK0.out.cell 2 _ rfl
  have k3 := HBK0.out.cell 3 _ rfl
  have k4 := HBK0.out.cell 4 _ rfl
  have k5 := HBK0.out.cell 5 _ rfl
  have k6 := HBK0.out.cell 6 _ rfl
  have HC := hideR (wPut w0 p c v bs 64 u1 HS0.out (by have := HSO0.out.2; simp only [List.length_append, List.length_cons, List.length_nil] at this hlen ⊢; omega))
  go_wp2_with fail
  refine HC.out.mono ?_
  rintro e w1 ⟨v1, rfl, hh, kk⟩
  have HSO1 := hideR (HSO0.out.app ([64 % 256]))
  obtain ⟨b1, hb1⟩ : ∃ b, b = bs ++ ([64 % 256]) := ⟨_, rfl⟩
  rw [← hb1] at hh HSO1
  clear hb1
  obtain ⟨bb, bo⟩ := kk.box HBK0.out HNP.out HO0.out
  have HS1 := hideR hh
  have HBK1 := hideR bb
  have HO1 := hideR bo
  have HK1 := hideR (HK0.out.trans kk)
  clear hh kk bb bo HC HS0 HBK0 HK0 HO0 k0 k1 k2 k3 k4 k5 k6
  have k0 := HBK1.out.cell 0 _ rfl
  have k1 := HBK1.out.cell 1 _ rfl
  have k2 := HBK1.out.cell 2 _ rfl
  have k3 := HBK1.out.cell 3 _ rfl
  have k4 := HBK1.out.cell 4 _ rfl
  have k5 := HBK1.out.cell 5 _ rfl
  have k6 := HBK1.out.cell 6 _ rfl
  have HC := hideR (HIH.out _ x.body v1 b1 w1 HS1.out HA5.out HR5.out (by have := HSO1.out.2; simp only [List.length_append, List.length_cons, List.length_nil] at this hlen ⊢; omega))
  go_wp2_with fail
  refine HC.out.mono ?_
  rintro e w2 ⟨v2, b2, rfl, hh, kk, ha, hl⟩
  have HSO2 := hideR (HSO1.out.adds ha hl)
  clear ha hl
  obtain ⟨bb, bo⟩ := kk.box HBK1.out HNP.out HO1.out
  have HS2 := hideR hh
  have HBK2 := hideR bb
  have HO2 := hideR bo
  have HK2 := hideR (HK1.out.trans kk)
  clear hh kk bb bo HC HS1 HBK1 HK1 HO1 k0 k1 k2 k3 k4 k5 k6
  have k0 := HBK2.out.cell 0 _ rfl
  have k1 := HBK2.out.cell 1 _ rfl
  have k2 := HBK2.out.cell 2 _ rfl
  have k3 := HBK2.out.cell 3 _ rfl
  have k4 := HBK2.out.cell 4 _ rfl
  have k5 := HBK2.out.cell 5 _ rfl
  have k6 := HBK2.out.cell 6 _ rfl
  have HC := hideR (wPut w0 p c v2 b2 5 w2 HS2.out (by have := HSO2.out.2; simp only [List.length_append, List.length_cons, List.length_nil] at this hlen ⊢; omega))
  go_wp2_with fail
  refine HC.out.mono ?_
  rintro e w3 ⟨v3, rfl, hh, kk⟩
  have HSO3 := hideR (HSO2.out.app ([5 % 256]))
  obtain ⟨b3, hb3⟩ : ∃ b, b = b2 ++ ([5 % 256]) := ⟨_, rfl⟩
  rw [← hb3] at hh HSO3
  clear hb3
  obtain ⟨bb, bo⟩ := kk.box HBK2.out HNP.out HO2.out
  have HS3 := hideR hh
  have HBK3 := hideR bb
  have HO3 := hideR bo
  have HK3 := hideR (HK2.out.trans kk)
  clear hh kk bb bo HC HS2 HBK2 HK2 HO2 k0 k1 k2 k3 k4 k5 k6
  have k0 := HBK3.out.cell 0 _ rfl
  have k1 := HBK3.out.cell 1 _ rfl
  have k2 := HBK3.out.cell 2 _ rfl
  have k3 := HBK3.out.cell 3 _ rfl
  have k4 := HBK3.out.cell 4 _ rfl
  have k5 := HBK3.out.cell 5 _ rfl
  have k6 := HBK3.out.cell 6 _ rfl
  have HC := hideR (HIH.out _ x.els v3 b3 w3 HS3.out HA6.out HR6.out (by have := HSO3.out.2; simp only [List.length_append, List.length_cons, List.length_nil] at this hlen ⊢; omega))
  go_wp2_with fail
  refine HC.out.mono ?_
  rintro e w4 ⟨v4, b4, rfl, hh, kk, ha, hl⟩
  have HSO4 := hideR (HSO3.out.adds ha hl)
  clear ha hl
  obtain ⟨bb, bo⟩ := kk.box HBK3.out HNP.out HO3.out
  have HS4 := hideR hh
  have HBK4 := hideR bb
  have HO4 := hideR bo
  have HK4 := hideR (HK3.out.trans kk)
  clear hh kk bb bo HC HS3 HBK3 HK3 HO3 k0 k1 k2 k3 k4 k5 k6
  have k0 := HBK4.out.cell 0 _ rfl
  have k1 := HBK4.out.cell 1 _ rfl
  have k2 := HBK4.out.cell 2 _ rfl
  have k3 := HBK4.out.cell 3 _ rfl
  have k4 := HBK4.out.cell 4 _ rfl
  have k5 := HBK4.out.cell 5 _ rfl
  have k6 := HBK4.out.cell 6 _ rfl
  have HC := hideR (wPut w0 p c v4 b4 11 w4 HS4.out (by have := HSO4.out.2; simp only [List.length_append, List.length_cons, List.length_nil] at this hlen ⊢; omega))
  go_wp2_with fail
  refine HC.out.mono ?_
  rintro e w5 ⟨v5, rfl, hh, kk⟩
  have HSO5 := hideR (HSO4.out.app ([11 % 256]))
  obtain ⟨b5, hb5⟩ : ∃ b, b = b4 ++ ([11 % 256]) := ⟨_, rfl⟩
  rw [← hb5] at hh HSO5
  clear hb5
  obtain ⟨bb, bo⟩ := kk.box HBK4.out HNP.out HO4.out
  have HS5 := hideR hh
  have HBK5 := hideR bb
  have HO5 := hideR bo
  have HK5 := hideR (HK4.out.trans kk)
  clear hh kk bb bo HC HS4 HBK4 HK4 HO4 k0 k1 k2 k3 k4 k5 k6
  have HF : Hid (So bs ([64] ++ bytesI d x.body ++ [5] ++ bytesI d x.els ++ [11]) b5) := hideR (by have := HSO5.out; simpa using this)
  go_wp2
  go_end0
  exact ⟨_, _, rfl, HS5.out, HK5.out, HF.out.1, HF.out.2⟩
set_option maxRecDepth 100000 in
set_option maxHeartbeats 4000000 in
theorem wBlk10 (w0 : World) (p : Nat) (c : Nat → Value) (v : Value) (bs : List Int) {d : Nat} (IH : IS w0 p c d) (x : Ins (IL d)) (q4 q5 q6 : Option Addr) (y4 z4 y5 z5 y6 z6 : Nat) (w : World) (h : WS w0 p c v bs w) (hx : x.a ≠ 0) (he : size d x.els = y6) (hy : y6 = 0) (a5 : At w0 d (.slice q5 y5 z5) x.body) (a6 : At w0 d (.slice q6 y6 z6) x.els) (r5 : Rg d x.body) (r6 : Rg d x.els) (hlen : bs.length + ([x.a % 256] ++ bytesI d x.body ++ [11]).length ≤ 39000000000000) : Calls Tryz.prog 125 #[.pointer (some ⟨p, 0, none⟩), .agg #[.int .i64 x.op, .int .i64 x.a, .int .i64 x.b, .int .i64 x.n, .slice q4 y4 z4, .slice q5 y5 z5, .slice q6 y6 z6]] w (DoesA w0 p c v w bs ([x.a % 256] ++ bytesI d x.body ++ [11])) := by
  have HA5 := hideR a5
  have HA6 := hideR a6
  have HR5 := hideR r5
  have HR6 := hideR r6
  have HIH := hideR IH
  have HRES : Hid ([x.a % 256] ++ bytesI d x.body ++ [11] = [x.a % 256] ++ bytesI d x.body ++ [11]) := hideR rfl
  clear a5 a6 r5 r6 IH
  have e0 : (x.a == 0) = false := by simpa using hx
  have hy1 : y6 < 1 := by omega
  clear hx hy he
  have hpw : p < w.heap.size := h.lt
  have hown : ∀ k, v.ownBlock = some k → k < w.heap.size := fun k hk => (h.own.lt k hk).2
  have HBK0 := hideR (Blk.new w w.heap.size x.op x.a x.b x.n (.slice q4 y4 z4) (.slice q5 y5 z5) (.slice q6 y6 z6) rfl)
  obtain ⟨u1, hu1⟩ : ∃ u1, u1 = w.alloc (.cells #[.int .i64 x.op, .int .i64 x.a, .int .i64 x.b, .int .i64 x.n, .slice q4 y4 z4, .slice q5 y5 z5, .slice q6 y6 z6] 52) := ⟨_, rfl⟩
  have HU := hideR (new_on' w (.cells #[.int .i64 x.op, .int .i64 x.a, .int .i64 x.b, .int .i64 x.n, .slice q4 y4 z4, .slice q5 y5 z5, .slice q6 y6 z6] 52))
  rw [← hu1] at HBK0 HU
  have HS0 := hideR (h.on HU.out)
  have HO0 : Hid (some w.heap.size ≠ v.ownBlock) := hideR (fun e => by have := hown _ e.symm; omega)
  have HNP : Hid (w.heap.size ≠ p) := hideR (by omega)
  have HK0 : Hid (Kept p v w v u1) := hideR (Kept.below HU.out)
  have HSO0 : Hid (So bs [] bs) := hideR (So.refl bs)
  have HU1 := hideR hu1
  clear h hpw hown HU hu1
  go_enter Tryz.func125, Tryz.ntmps125
  go_upto_region 1 with fail
  rw [← HU1.out]
  generalize hp3 : w.heap.size = p3 at HBK0 HO0 HNP ⊢
  clear HU1
  have k0 := HBK0.out.cell 0 _ rfl
  have k1 := HBK0.out.cell 1 _ rfl
  have k2 := HBK0.out.cell 2 _ rfl
  have k3 := HBK0.out.cell 3 _ rfl
  have k4 := HBK0.out.cell 4 _ rfl
  have k5 := HBK0.out.cell 5 _ rfl
  have k6 := HBK0.out.cell 6 _ rfl
  have HC := hideR (wPut w0 p c v bs x.a u1 HS0.out (by have := HSO0.out.2; simp only [List.length_append, List.length_cons, List.length_nil] at this hlen ⊢; omega))
  go_wp2_with fail
  refine HC.out.mono ?_
  rintro e w1 ⟨v1, rfl, hh, kk⟩
  have HSO1 := hideR (HSO0.out.app ([x.a % 256]))
  obtain ⟨b1, hb1⟩ : ∃ b, b = bs ++ ([x.a % 256]) := ⟨_, rfl⟩
  rw [← hb1] at hh HSO1
  clear hb1
  obtain ⟨bb, bo⟩ := kk.box HBK0.out HNP.out HO0.out
  have HS1 := hideR hh
  have HBK1 := hideR bb
  have HO1 := hideR bo
  have HK1 := hideR (HK0.out.trans kk)
  clear hh kk bb bo HC HS0 HBK0 HK0 HO0 k0 k1 k2 k3 k4 k5 k6
  have k0 := HBK1.out.cell 0 _ rfl
  have k1 := HBK1.out.cell 1 _ rfl
  have k2 := HBK1.out.cell 2 _ rfl
  have k3 := HBK1.out.cell 3 _ rfl
  have k4 := HBK1.out.cell 4 _ rfl
  have k5 := HBK1.out.cell 5 _ rfl
  have k6 := HBK1.out.cell 6 _ rfl
  have HC := hideR (HIH.out _ x.body v1 b1 w1 HS1.out HA5.out HR5.out (by have := HSO1.out.2; simp only [List.length_append, List.length_cons, List.length_nil] at this hlen ⊢; omega))
  go_wp2_with fail
  refine HC.out.mono ?_
  rintro e w2 ⟨v2, b2, rfl, hh, kk, ha, hl⟩
  have HSO2 := hideR (HSO1.out.adds ha hl)
  clear ha hl
  obtain ⟨bb, bo⟩ := kk.box HBK1.out HNP.out HO1.out
  have HS2 := hideR hh
  have HBK2 := hideR bb
  have HO2 := hideR bo
  have HK2 := hideR (HK1.out.trans kk)
  clear hh kk bb bo HC HS1 HBK1 HK1 HO1 k0 k1 k2 k3 k4 k5 k6
  have k0 := HBK2.out.cell 0 _ rfl
  have k1 := HBK2.out.cell 1 _ rfl
  have k2 := HBK2.out.cell 2 _ rfl
  have k3 := HBK2.out.cell 3 _ rfl
  have k4 := HBK2.out.cell 4 _ rfl
  have k5 := HBK2.out.cell 5 _ rfl
  have k6 := HBK2.out.cell 6 _ rfl
  have HC := hideR (wPut w0 p c v2 b2 11 w2 HS2.out (by have := HSO2.out.2; simp only [List.length_append, List.length_cons, List.length_nil] at this hlen ⊢; omega))
  go_wp2_with fail
  refine HC.out.mono ?_
  rintro e w3 ⟨v3, rfl, hh, kk⟩
  have HSO3 := hideR (HSO2.out.app ([11 % 256]))
  obtain ⟨b3, hb3⟩ : ∃ b, b = b2 ++ ([11 % 256]) := ⟨_, rfl⟩
  rw [← hb3] at hh HSO3
  clear hb3
  obtain ⟨bb, bo⟩ := kk.box HBK2.out HNP.out HO2.out
  have HS3 := hideR hh
  have HBK3 := hideR bb
  have HO3 := hideR bo
  have HK3 := hideR (HK2.out.trans kk)
  clear hh kk bb bo HC HS2 HBK2 HK2 HO2 k0 k1 k2 k3 k4 k5 k6
  have HF : Hid (So bs ([x.a % 256] ++ bytesI d x.body ++ [11]) b3) := hideR (by have := HSO3.out; simpa using this)
  go_wp2
  go_end0
  exact ⟨_, _, rfl, HS3.out, HK3.out, HF.out.1, HF.out.2⟩
set_option maxRecDepth 100000 in
set_option maxHeartbeats 4000000 in
theorem wBlk11 (w0 : World) (p : Nat) (c : Nat → Value) (v : Value) (bs : List Int) {d : Nat} (IH : IS w0 p c d) (x : Ins (IL d)) (q4 q5 q6 : Option Addr) (y4 z4 y5 z5 y6 z6 : Nat) (w : World) (h : WS w0 p c v bs w) (hx : x.a ≠ 0) (he : size d x.els = y6) (hy : 0 < y6) (a5 : At w0 d (.slice q5 y5 z5) x.body) (a6 : At w0 d (.slice q6 y6 z6) x.els) (r5 : Rg d x.body) (r6 : Rg d x.els) (hlen : bs.length + ([x.a % 256] ++ bytesI d x.body ++ [5] ++ bytesI d x.els ++ [11]).length ≤ 39000000000000) : Calls Tryz.prog 125 #[.pointer (some ⟨p, 0, none⟩), .agg #[.int .i64 x.op, .int .i64 x.a, .int .i64 x.b, .int .i64 x.n, .slice q4 y4 z4, .slice q5 y5 z5, .slice q6 y6 z6]] w (DoesA w0 p c v w bs ([x.a % 256] ++ bytesI d x.body ++ [5] ++ bytesI d x.els ++ [11])) := by
  have HA5 := hideR a5
  have HA6 := hideR a6
  have HR5 := hideR r5
  have HR6 := hideR r6
  have HIH := hideR IH
  have HRES : Hid ([x.a % 256] ++ bytesI d x.body ++ [5] ++ bytesI d x.els ++ [11] = [x.a % 256] ++ bytesI d x.body ++ [5] ++ bytesI d x.els ++ [11]) := hideR rfl
  clear a5 a6 r5 r6 IH
  have e0 : (x.a == 0) = false := by simpa using hx
  clear hx he
  have hpw : p < w.heap.size := h.lt
  have hown : ∀ k, v.ownBlock = some k → k < w.heap.size := fun k hk => (h.own.lt k hk).2
  have HBK0 := hideR (Blk.new w w.heap.size x.op x.a x.b x.n (.slice q4 y4 z4) (.slice q5 y5 z5) (.slice q6 y6 z6) rfl)
  obtain ⟨u1, hu1⟩ : ∃ u1, u1 = w.alloc (.cells #[.int .i64 x.op, .int .i64 x.a, .int .i64 x.b, .int .i64 x.n, .slice q4 y4 z4, .slice q5 y5 z5, .slice q6 y6 z6] 52) := ⟨_, rfl⟩
  have HU := hideR (new_on' w (.cells #[.int .i64 x.op, .int .i64 x.a, .int .i64 x.b, .int .i64 x.n, .slice q4 y4 z4, .slice q5 y5 z5, .slice q6 y6 z6] 52))
  rw [← hu1] at HBK0 HU
  have HS0 := hideR (h.on HU.out)
  have HO0 : Hid (some w.heap.size ≠ v.ownBlock) := hideR (fun e => by have := hown _ e.symm; omega)
  have HNP : Hid (w.heap.size ≠ p) := hideR (by omega)
  have HK0 : Hid (Kept p v w v u1) := hideR (Kept.below HU.out)
  have HSO0 : Hid (So bs [] bs) := hideR (So.refl bs)
  have HU1 := hideR hu1
  clear h hpw hown HU hu1
  go_enter Tryz.func125, Tryz.ntmps125
  go_upto_region 1 with fail
  rw [← HU1.out]
  generalize hp3 : w.heap.size = p3 at HBK0 HO0 HNP ⊢
  clear HU1
  have k0 := HBK0.out.cell 0 _ rfl
  have k1 := HBK0.out.cell 1 _ rfl
  have k2 := HBK0.out.cell 2 _ rfl
  have k3 := HBK0.out.cell 3 _ rfl
  have k4 := HBK0.out.cell 4 _ rfl
  have k5 := HBK0.out.cell 5 _ rfl
  have k6 := HBK0.out.cell 6 _ rfl
  have HC := hideR (wPut w0 p c v bs x.a u1 HS0.out (by have := HSO0.out.2; simp only [List.length_append, List.length_cons, List.length_nil] at this hlen ⊢; omega))
  go_wp2_with fail
  refine HC.out.mono ?_
  rintro e w1 ⟨v1, rfl, hh, kk⟩
  have HSO1 := hideR (HSO0.out.app ([x.a % 256]))
  obtain ⟨b1, hb1⟩ : ∃ b, b = bs ++ ([x.a % 256]) := ⟨_, rfl⟩
  rw [← hb1] at hh HSO1
  clear hb1
  obtain ⟨bb, bo⟩ := kk.box HBK0.out HNP.out HO0.out
  have HS1 := hideR hh
  have HBK1 := hideR bb
  have HO1 := hideR bo
  have HK1 := hideR (HK0.out.trans kk)
  clear hh kk bb bo HC HS0 HBK0 HK0 HO0 k0 k1 k2 k3 k4 k5 k6
  have k0 := HBK1.out.cell 0 _ rfl
  have k1 := HBK1.out.cell 1 _ rfl
  have k2 := HBK1.out.cell 2 _ rfl
  have k3 := HBK1.out.cell 3 _ rfl
  have k4 := HBK1.out.cell 4 _ rfl
  have k5 := HBK1.out.cell 5 _ rfl
  have k6 := HBK1.out.cell 6 _ rfl
  have HC := hideR (HIH.out _ x.body v1 b1 w1 HS1.out HA5.out HR5.out (by have := HSO1.out.2; simp only [List.length_append, List.length_cons, List.length_nil] at this hlen ⊢; omega))
  go_wp2_with fail
  refine HC.out.mono ?_
  rintro e w2 ⟨v2, b2, rfl, hh, kk, ha, hl⟩
  have HSO2 := hideR (HSO1.out.adds ha hl)
  clear ha hl
  obtain ⟨bb, bo⟩ := kk.box HBK1.out HNP.out HO1.out
  have HS2 := hideR hh
  have HBK2 := hideR bb
  have HO2 := hideR bo
  have HK2 := hideR (HK1.out.trans kk)
  clear hh kk bb bo HC HS1 HBK1 HK1 HO1 k0 k1 k2 k3 k4 k5 k6
  have k0 := HBK2.out.cell 0 _ rfl
  have k1 := HBK2.out.cell 1 _ rfl
  have k2 := HBK2.out.cell 2 _ rfl
  have k3 := HBK2.out.cell 3 _ rfl
  have k4 := HBK2.out.cell 4 _ rfl
  have k5 := HBK2.out.cell 5 _ rfl
  have k6 := HBK2.out.cell 6 _ rfl
  have HC := hideR (wPut w0 p c v2 b2 5 w2 HS2.out (by have := HSO2.out.2; simp only [List.length_append, List.length_cons, List.length_nil] at this hlen ⊢; omega))
  go_wp2_with fail
  refine HC.out.mono ?_
  rintro e w3 ⟨v3, rfl, hh, kk⟩
  have HSO3 := hideR (HSO2.out.app ([5 % 256]))
  obtain ⟨b3, hb3⟩ : ∃ b, b = b2 ++ ([5 % 256]) := ⟨_, rfl⟩
  rw [← hb3] at hh HSO3
  clear hb3
  obtain ⟨bb, bo⟩ := kk.box HBK2.out HNP.out HO2.out
  have HS3 := hideR hh
  have HBK3 := hideR bb
  have HO3 := hideR bo
  have HK3 := hideR (HK2.out.trans kk)
  clear hh kk bb bo HC HS2 HBK2 HK2 HO2 k0 k1 k2 k3 k4 k5 k6
  have k0 := HBK3.out.cell 0 _ rfl
  have k1 := HBK3.out.cell 1 _ rfl
  have k2 := HBK3.out.cell 2 _ rfl
  have k3 := HBK3.out.cell 3 _ rfl
  have k4 := HBK3.out.cell 4 _ rfl
  have k5 := HBK3.out.cell 5 _ rfl
  have k6 := HBK3.out.cell 6 _ rfl
  have HC := hideR (HIH.out _ x.els v3 b3 w3 HS3.out HA6.out HR6.out (by have := HSO3.out.2; simp only [List.length_append, List.length_cons, List.length_nil] at this hlen ⊢; omega))
  go_wp2_with fail
  refine HC.out.mono ?_
  rintro e w4 ⟨v4, b4, rfl, hh, kk, ha, hl⟩
  have HSO4 := hideR (HSO3.out.adds ha hl)
  clear ha hl
  obtain ⟨bb, bo⟩ := kk.box HBK3.out HNP.out HO3.out
  have HS4 := hideR hh
  have HBK4 := hideR bb
  have HO4 := hideR bo
  have HK4 := hideR (HK3.out.trans kk)
  clear hh kk bb bo HC HS3 HBK3 HK3 HO3 k0 k1 k2 k3 k4 k5 k6
  have k0 := HBK4.out.cell 0 _ rfl
  have k1 := HBK4.out.cell 1 _ rfl
  have k2 := HBK4.out.cell 2 _ rfl
  have k3 := HBK4.out.cell 3 _ rfl
  have k4 := HBK4.out.cell 4 _ rfl
  have k5 := HBK4.out.cell 5 _ rfl
  have k6 := HBK4.out.cell 6 _ rfl
  have HC := hideR (wPut w0 p c v4 b4 11 w4 HS4.out (by have := HSO4.out.2; simp only [List.length_append, List.length_cons, List.length_nil] at this hlen ⊢; omega))
  go_wp2_with fail
  refine HC.out.mono ?_
  rintro e w5 ⟨v5, rfl, hh, kk⟩
  have HSO5 := hideR (HSO4.out.app ([11 % 256]))
  obtain ⟨b5, hb5⟩ : ∃ b, b = b4 ++ ([11 % 256]) := ⟨_, rfl⟩
  rw [← hb5] at hh HSO5
  clear hb5
  obtain ⟨bb, bo⟩ := kk.box HBK4.out HNP.out HO4.out
  have HS5 := hideR hh
  have HBK5 := hideR bb
  have HO5 := hideR bo
  have HK5 := hideR (HK4.out.trans kk)
  clear hh kk bb bo HC HS4 HBK4 HK4 HO4 k0 k1 k2 k3 k4 k5 k6
  have HF : Hid (So bs ([x.a % 256] ++ bytesI d x.body ++ [5] ++ bytesI d x.els ++ [11]) b5) := hideR (by have := HSO5.out; simpa using this)
  go_wp2
  go_end0
  exact ⟨_, _, rfl, HS5.out, HK5.out, HF.out.1, HF.out.2⟩
end Go.Proofs.YtloelineidlenaaGreatDoor

namespace Go.Proofs.YtloelineidlenaaGreatDoor
open Go.RowKit Rep Enc Go.Lib
set_option linter.unusedVariables false
theorem wBlock (w0 : World) (p : Nat) (c : Nat → Value) (v : Value) (bs : List Int) {d : Nat} (IH : IS w0 p c d) (x : Ins (IL d)) (q4 q5 q6 : Option Addr) (y4 z4 y5 z5 y6 z6 : Nat) (w : World) (h : WS w0 p c v bs w) (he : size d x.els = y6) (a5 : At w0 d (.slice q5 y5 z5) x.body) (a6 : At w0 d (.slice q6 y6 z6) x.els) (r5 : Rg d x.body) (r6 : Rg d x.els) (hlen : bs.length + (blkB x).length ≤ 39000000000000) : Calls Tryz.prog 125 #[.pointer (some ⟨p, 0, none⟩), .agg #[.int .i64 x.op, .int .i64 x.a, .int .i64 x.b, .int .i64 x.n, .slice q4 y4 z4, .slice q5 y5 z5, .slice q6 y6 z6]] w (DoesA w0 p c v w bs (blkB x)) := by
  unfold blkB at hlen ⊢
  by_cases hx : x.a = 0
  · rw [if_pos hx] at hlen ⊢
    by_cases hy : 0 < size d x.els
    · rw [if_pos hy] at hlen ⊢
      have := wBlk01 w0 p c v bs IH x q4 q5 q6 y4 z4 y5 z5 y6 z6 w h hx he (by omega) a5 a6 r5 r6 (by simpa [List.append_assoc] using hlen)
      simpa [List.append_assoc] using this
    · rw [if_neg hy] at hlen ⊢
      have := wBlk00 w0 p c v bs IH x q4 q5 q6 y4 z4 y5 z5 y6 z6 w h hx he (by omega) a5 a6 r5 r6 (by simpa [List.append_assoc] using hlen)
      simpa [List.append_assoc] using this
  · rw [if_neg hx] at hlen ⊢
    by_cases hy : 0 < size d x.els
    · rw [if_pos hy] at hlen ⊢
      have := wBlk11 w0 p c v bs IH x q4 q5 q6 y4 z4 y5 z5 y6 z6 w h hx he (by omega) a5 a6 r5 r6 (by simpa [List.append_assoc] using hlen)
      simpa [List.append_assoc] using this
    · rw [if_neg hy] at hlen ⊢
      have := wBlk10 w0 p c v bs IH x q4 q5 q6 y4 z4 y5 z5 y6 z6 w h hx he (by omega) a5 a6 r5 r6 (by simpa [List.append_assoc] using hlen)
      simpa [List.append_assoc] using this
set_option maxRecDepth 100000 in
set_option maxHeartbeats 4000000 in
theorem wIns2 {I : World → Prop} (C : FormC I) (hI : ∀ w0 w : World, Below w0.heap.size w0 w → I w0 → I w) (w0 : World) (p : Nat) (c : Nat → Value) (v : Value) (bs : List Int) {d : Nat} (IH : IS w0 p c d) (x : Ins (IL d)) (q4 q5 q6 : Option Addr) (y4 z4 y5 z5 y6 z6 : Nat) (w : World) (h : WS w0 p c v bs w) (hI0 : I w0) (hf : form x.op = 2) (he : size d x.els = y6) (a5 : At w0 d (.slice q5 y5 z5) x.body) (a6 : At w0 d (.slice q6 y6 z6) x.els) (r5 : Rg d x.body) (r6 : Rg d x.els) (hlen : bs.length + ([x.op % 256] ++ blkB x).length ≤ 39000000000000) : Calls Tryz.prog 111 #[.pointer (some ⟨p, 0, none⟩), .agg #[.int .i64 x.op, .int .i64 x.a, .int .i64 x.b, .int .i64 x.n, .slice q4 y4 z4, .slice q5 y5 z5, .slice q6 y6 z6]] w (DoesA w0 p c v w bs ([x.op % 256] ++ blkB x)) := by
  have HA5 := hideR a5
  have HA6 := hideR a6
  have HR5 := hideR r5
  have HR6 := hideR r6
  have HHE := hideR he
  clear a5 a6 r5 r6 he
  have HIH := hideR IH
  clear IH
  have HII := hideR hI0
  clear hI0 hI
  have hpw : p < w.heap.size := h.lt
  have hown : ∀ k, v.ownBlock = some k → k < w.heap.size := fun k hk => (h.own.lt k hk).2
  have HBK0 := hideR (Blk.new w w.heap.size x.op x.a x.b x.n (.slice q4 y4 z4) (.slice q5 y5 z5) (.slice q6 y6 z6) rfl)
  obtain ⟨u1, hu1⟩ : ∃ u1, u1 = w.alloc (.cells #[.int .i64 x.op, .int .i64 x.a, .int .i64 x.b, .int .i64 x.n, .slice q4 y4 z4, .slice q5 y5 z5, .slice q6 y6 z6] 52) := ⟨_, rfl⟩
  have HU := hideR (new_on' w (.cells #[.int .i64 x.op, .int .i64 x.a, .int .i64 x.b, .int .i64 x.n, .slice q4 y4 z4, .slice q5 y5 z5, .slice q6 y6 z6] 52))
  rw [← hu1] at HBK0 HU
  have HS0 := hideR (h.on HU.out)
  have HO0 : Hid (some w.heap.size ≠ v.ownBlock) := hideR (fun e => by have := hown _ e.symm; omega)
  have HNP : Hid (w.heap.size ≠ p) := hideR (by omega)
  have HK0 : Hid (Kept p v w v u1) := hideR (Kept.below HU.out)
  have HU1 := hideR hu1
  clear h hpw hown HU hu1
  have hlb : bs.length ≤ 39000000000000 := by omega
  have HLEN := hideR hlen
  clear hlen
  go_enter Tryz.func111, Tryz.ntmps111
  go_upto_region 1 with fail
  rw [← HU1.out]
  generalize hp3 : w.heap.size = p3 at HBK0 HO0 HNP ⊢
  clear HU1
  have k0 := HBK0.out.cell 0 _ rfl
  have HC := hideR (wPut w0 p c v bs x.op u1 HS0.out (by omega))
  go_wp2_with fail
  refine HC.out.mono ?_
  rintro e w1 ⟨v1, rfl, h1, kk1⟩
  obtain ⟨bb1, bo1⟩ := kk1.box HBK0.out HNP.out HO0.out
  have HS1 := hideR h1
  have HBK1 := hideR bb1
  have HO1 := hideR bo1
  have HK1 := hideR (HK0.out.trans kk1)
  clear h1 kk1 bb1 bo1 HC k0 HS0 HBK0 HO0 HK0
  have k0 := HBK1.out.cell 0 _ rfl
  have HC := hideR (C.form x.op w1 (C.keep HS1.out.below HII.out))
  rw [hf] at HC
  go_wp2_with fail
  refine HC.out.mono ?_
  rintro e w2 ⟨rfl, hb2⟩
  have HS2 := hideR (HS1.out.on hb2)
  have HBK2 := hideR (HBK1.out.keep (hb2.block p3 HBK1.out.lt))
  have HK2 := hideR (HK1.out.trans (Kept.below hb2))
  clear hb2 HC k0 HS1 HBK1 HK1
  have k0 := HBK2.out.cell 0 _ rfl
  have k1 := HBK2.out.cell 1 _ rfl
  have k2 := HBK2.out.cell 2 _ rfl
  have k3 := HBK2.out.cell 3 _ rfl
  have k4 := HBK2.out.cell 4 _ rfl
  have k5 := HBK2.out.cell 5 _ rfl
  have k6 := HBK2.out.cell 6 _ rfl
  have HC := hideR (wBlock w0 p c v1 (bs ++ [x.op % 256]) HIH.out x q4 q5 q6 y4 z4 y5 z5 y6 z6 w2 HS2.out HHE.out HA5.out HA6.out HR5.out HR6.out (by have := HLEN.out; simp only [List.length_append, List.length_cons, List.length_nil] at this ⊢; omega))
  go_wp2_with fail
  refine HC.out.mono ?_
  rintro e w3 ⟨v3, b3, rfl, hh, kk, ha, hl⟩
  have HE := hideR hh
  have HK3 := hideR (HK2.out.trans kk)
  have HSO := hideR (((So.refl bs).app [x.op % 256]).adds ha hl)
  have HF : Hid (So bs ([x.op % 256] ++ blkB x) b3) := hideR (by have := HSO.out; simpa using this)
  clear hh kk ha hl HSO HC HS2 HBK2 HK2
  go_wp2
  go_end0
  exact ⟨_, _, rfl, HE.out, HK3.out, HF.out.1, HF.out.2⟩
set_option maxRecDepth 100000 in
set_option maxHeartbeats 4000000 in
theorem wIns3 {I : World → Prop} (C : FormC I) (hI : ∀ w0 w : World, Below w0.heap.size w0 w → I w0 → I w) (w0 : World) (p : Nat) (c : Nat → Value) (v : Value) (bs : List Int) {d : Nat} (IH : IS w0 p c d) (x : Ins (IL d)) (q4 q5 q6 : Option Addr) (y4 z4 y5 z5 y6 z6 : Nat) (w : World) (h : WS w0 p c v bs w) (hI0 : I w0) (hf : form x.op = 3) (he : size d x.els = y6) (a5 : At w0 d (.slice q5 y5 z5) x.body) (a6 : At w0 d (.slice q6 y6 z6) x.els) (r5 : Rg d x.body) (r6 : Rg d x.els) (hlen : bs.length + ([x.op % 256] ++ blkB x).length ≤ 39000000000000) : Calls Tryz.prog 111 #[.pointer (some ⟨p, 0, none⟩), .agg #[.int .i64 x.op, .int .i64 x.a, .int .i64 x.b, .int .i64 x.n, .slice q4 y4 z4, .slice q5 y5 z5, .slice q6 y6 z6]] w (DoesA w0 p c v w bs ([x.op % 256] ++ blkB x)) := by
  have HA5 := hideR a5
  have HA6 := hideR a6
  have HR5 := hideR r5
  have HR6 := hideR r6
  have HHE := hideR he
  clear a5 a6 r5 r6 he
  have HIH := hideR IH
  clear IH
  have HII := hideR hI0
  clear hI0 hI
  have hpw : p < w.heap.size := h.lt
  have hown : ∀ k, v.ownBlock = some k → k < w.heap.size := fun k hk => (h.own.lt k hk).2
  have HBK0 := hideR (Blk.new w w.heap.size x.op x.a x.b x.n (.slice q4 y4 z4) (.slice q5 y5 z5) (.slice q6 y6 z6) rfl)
  obtain ⟨u1, hu1⟩ : ∃ u1, u1 = w.alloc (.cells #[.int .i64 x.op, .int .i64 x.a, .int .i64 x.b, .int .i64 x.n, .slice q4 y4 z4, .slice q5 y5 z5, .slice q6 y6 z6] 52) := ⟨_, rfl⟩
  have HU := hideR (new_on' w (.cells #[.int .i64 x.op, .int .i64 x.a, .int .i64 x.b, .int .i64 x.n, .slice q4 y4 z4, .slice q5 y5 z5, .slice q6 y6 z6] 52))
  rw [← hu1] at HBK0 HU
  have HS0 := hideR (h.on HU.out)
  have HO0 : Hid (some w.heap.size ≠ v.ownBlock) := hideR (fun e => by have := hown _ e.symm; omega)
  have HNP : Hid (w.heap.size ≠ p) := hideR (by omega)
  have HK0 : Hid (Kept p v w v u1) := hideR (Kept.below HU.out)
  have HU1 := hideR hu1
  clear h hpw hown HU hu1
  have hlb : bs.length ≤ 39000000000000 := by omega
  have HLEN := hideR hlen
  clear hlen
  go_enter Tryz.func111, Tryz.ntmps111
  go_upto_region 1 with fail
  rw [← HU1.out]
  generalize hp3 : w.heap.size = p3 at HBK0 HO0 HNP ⊢
  clear HU1
  have k0 := HBK0.out.cell 0 _ rfl
  have HC := hideR (wPut w0 p c v bs x.op u1 HS0.out (by omega))
  go_wp2_with fail
  refine HC.out.mono ?_
  rintro e w1 ⟨v1, rfl, h1, kk1⟩
  obtain ⟨bb1, bo1⟩ := kk1.box HBK0.out HNP.out HO0.out
  have HS1 := hideR h1
  have HBK1 := hideR bb1
  have HO1 := hideR bo1
  have HK1 := hideR (HK0.out.trans kk1)
  clear h1 kk1 bb1 bo1 HC k0 HS0 HBK0 HO0 HK0
  have k0 := HBK1.out.cell 0 _ rfl
  have HC := hideR (C.form x.op w1 (C.keep HS1.out.below HII.out))
  rw [hf] at HC
  go_wp2_with fail
  refine HC.out.mono ?_
  rintro e w2 ⟨rfl, hb2⟩
  have HS2 := hideR (HS1.out.on hb2)
  have HBK2 := hideR (HBK1.out.keep (hb2.block p3 HBK1.out.lt))
  have HK2 := hideR (HK1.out.trans (Kept.below hb2))
  clear hb2 HC k0 HS1 HBK1 HK1
  have k0 := HBK2.out.cell 0 _ rfl
  have k1 := HBK2.out.cell 1 _ rfl
  have k2 := HBK2.out.cell 2 _ rfl
  have k3 := HBK2.out.cell 3 _ rfl
  have k4 := HBK2.out.cell 4 _ rfl
  have k5 := HBK2.out.cell 5 _ rfl
  have k6 := HBK2.out.cell 6 _ rfl
  have HC := hideR (wBlock w0 p c v1 (bs ++ [x.op % 256]) HIH.out x q4 q5 q6 y4 z4 y5 z5 y6 z6 w2 HS2.out HHE.out HA5.out HA6.out HR5.out HR6.out (by have := HLEN.out; simp only [List.length_append, List.length_cons, List.length_nil] at this ⊢; omega))
  go_wp2_with fail
  refine HC.out.mono ?_
  rintro e w3 ⟨v3, b3, rfl, hh, kk, ha, hl⟩
  have HE := hideR hh
  have HK3 := hideR (HK2.out.trans kk)
  have HSO := hideR (((So.refl bs).app [x.op % 256]).adds ha hl)
  have HF : Hid (So bs ([x.op % 256] ++ blkB x) b3) := hideR (by have := HSO.out; simpa using this)
  clear hh kk ha hl HSO HC HS2 HBK2 HK2
  go_wp2
  go_end0
  exact ⟨_, _, rfl, HE.out, HK3.out, HF.out.1, HF.out.2⟩
set_option maxRecDepth 100000 in
set_option maxHeartbeats 4000000 in
theorem wIns1a {I : World → Prop} (C : FormC I) (hI : ∀ w0 w : World, Below w0.heap.size w0 w → I w0 → I w) (w0 : World) (p : Nat) (c : Nat → Value) (v : Value) (bs : List Int) {d : Nat} (IH : IS w0 p c d) (x : Ins (IL d)) (q4 q5 q6 : Option Addr) (y4 z4 y5 z5 y6 z6 : Nat) (w : World) (h : WS w0 p c v bs w) (hI0 : I w0) (hf : form x.op = 1) (e63 : (x.op == 63) = true) (hlen : bs.length + ([x.op % 256] ++ [0]).length ≤ 39000000000000) : Calls Tryz.prog 111 #[.pointer (some ⟨p, 0, none⟩), .agg #[.int .i64 x.op, .int .i64 x.a, .int .i64 x.b, .int .i64 x.n, .slice q4 y4 z4, .slice q5 y5 z5, .slice q6 y6 z6]] w (DoesA w0 p c v w bs ([x.op % 256] ++ [0])) := by
  have HIH := hideR IH
  clear IH
  have HII := hideR hI0
  clear hI0 hI
  have hpw : p < w.heap.size := h.lt
  have hown : ∀ k, v.ownBlock = some k → k < w.heap.size := fun k hk => (h.own.lt k hk).2
  have HBK0 := hideR (Blk.new w w.heap.size x.op x.a x.b x.n (.slice q4 y4 z4) (.slice q5 y5 z5) (.slice q6 y6 z6) rfl)
  obtain ⟨u1, hu1⟩ : ∃ u1, u1 = w.alloc (.cells #[.int .i64 x.op, .int .i64 x.a, .int .i64 x.b, .int .i64 x.n, .slice q4 y4 z4, .slice q5 y5 z5, .slice q6 y6 z6] 52) := ⟨_, rfl⟩
  have HU := hideR (new_on' w (.cells #[.int .i64 x.op, .int .i64 x.a, .int .i64 x.b, .int .i64 x.n, .slice q4 y4 z4, .slice q5 y5 z5, .slice q6 y6 z6] 52))
  rw [← hu1] at HBK0 HU
  have HS0 := hideR (h.on HU.out)
  have HO0 : Hid (some w.heap.size ≠ v.ownBlock) := hideR (fun e => by have := hown _ e.symm; omega)
  have HNP : Hid (w.heap.size ≠ p) := hideR (by omega)
  have HK0 : Hid (Kept p v w v u1) := hideR (Kept.below HU.out)
  have HU1 := hideR hu1
  clear h hpw hown HU hu1
  have hlb : bs.length ≤ 39000000000000 := by omega
  have HLEN := hideR hlen
  clear hlen
  go_enter Tryz.func111, Tryz.ntmps111
  go_upto_region 1 with fail
  rw [← HU1.out]
  generalize hp3 : w.heap.size = p3 at HBK0 HO0 HNP ⊢
  clear HU1
  have k0 := HBK0.out.cell 0 _ rfl
  have HC := hideR (wPut w0 p c v bs x.op u1 HS0.out (by omega))
  go_wp2_with fail
  refine HC.out.mono ?_
  rintro e w1 ⟨v1, rfl, h1, kk1⟩
  obtain ⟨bb1, bo1⟩ := kk1.box HBK0.out HNP.out HO0.out
  have HS1 := hideR h1
  have HBK1 := hideR bb1
  have HO1 := hideR bo1
  have HK1 := hideR (HK0.out.trans kk1)
  clear h1 kk1 bb1 bo1 HC k0 HS0 HBK0 HO0 HK0
  have k0 := HBK1.out.cell 0 _ rfl
  have HC := hideR (C.form x.op w1 (C.keep HS1.out.below HII.out))
  rw [hf] at HC
  go_wp2_with fail
  refine HC.out.mono ?_
  rintro e w2 ⟨rfl, hb2⟩
  have HS2 := hideR (HS1.out.on hb2)
  have HBK2 := hideR (HBK1.out.keep (hb2.block p3 HBK1.out.lt))
  have HK2 := hideR (HK1.out.trans (Kept.below hb2))
  clear hb2 HC k0 HS1 HBK1 HK1
  have k0 := HBK2.out.cell 0 _ rfl
  have k1 := HBK2.out.cell 1 _ rfl
  have k2 := HBK2.out.cell 2 _ rfl
  have k3 := HBK2.out.cell 3 _ rfl
  have k4 := HBK2.out.cell 4 _ rfl
  have k5 := HBK2.out.cell 5 _ rfl
  have k6 := HBK2.out.cell 6 _ rfl
  have HC := hideR (wPut w0 p c v1 (bs ++ [x.op % 256]) 0 w2 HS2.out (by simp only [List.length_append, List.length_cons, List.length_nil]; omega))
  go_wp2_with fail
  refine HC.out.mono ?_
  rintro e w3 ⟨v3, rfl, hh, kk⟩
  have HE := hideR hh
  have HK3 := hideR (HK2.out.trans kk)
  clear hh kk HC HS2 HBK2 HK2
  go_wp2
  go_end0
  exact ⟨_, _, rfl, HE.out, HK3.out, .inl (by simp), by simp⟩
set_option maxRecDepth 100000 in
set_option maxHeartbeats 4000000 in
theorem wIns1b {I : World → Prop} (C : FormC I) (hI : ∀ w0 w : World, Below w0.heap.size w0 w → I w0 → I w) (w0 : World) (p : Nat) (c : Nat → Value) (v : Value) (bs : List Int) {d : Nat} (IH : IS w0 p c d) (x : Ins (IL d)) (q4 q5 q6 : Option Addr) (y4 z4 y5 z5 y6 z6 : Nat) (w : World) (h : WS w0 p c v bs w) (hI0 : I w0) (hf : form x.op = 1) (e63 : (x.op == 63) = false) (e64 : (x.op == 64) = true) (hlen : bs.length + ([x.op % 256] ++ [0]).length ≤ 39000000000000) : Calls Tryz.prog 111 #[.pointer (some ⟨p, 0, none⟩), .agg #[.int .i64 x.op, .int .i64 x.a, .int .i64 x.b, .int .i64 x.n, .slice q4 y4 z4, .slice q5 y5 z5, .slice q6 y6 z6]] w (DoesA w0 p c v w bs ([x.op % 256] ++ [0])) := by
  have HIH := hideR IH
  clear IH
  have HII := hideR hI0
  clear hI0 hI
  have hpw : p < w.heap.size := h.lt
  have hown : ∀ k, v.ownBlock = some k → k < w.heap.size := fun k hk => (h.own.lt k hk).2
  have HBK0 := hideR (Blk.new w w.heap.size x.op x.a x.b x.n (.slice q4 y4 z4) (.slice q5 y5 z5) (.slice q6 y6 z6) rfl)
  obtain ⟨u1, hu1⟩ : ∃ u1, u1 = w.alloc (.cells #[.int .i64 x.op, .int .i64 x.a, .int .i64 x.b, .int .i64 x.n, .slice q4 y4 z4, .slice q5 y5 z5, .slice q6 y6 z6] 52) := ⟨_, rfl⟩
  have HU := hideR (new_on' w (.cells #[.int .i64 x.op, .int .i64 x.a, .int .i64 x.b, .int .i64 x.n, .slice q4 y4 z4, .slice q5 y5 z5, .slice q6 y6 z6] 52))
  rw [← hu1] at HBK0 HU
  have HS0 := hideR (h.on HU.out)
  have HO0 : Hid (some w.heap.size ≠ v.ownBlock) := hideR (fun e => by have := hown _ e.symm; omega)
  have HNP : Hid (w.heap.size ≠ p) := hideR (by omega)
  have HK0 : Hid (Kept p v w v u1) := hideR (Kept.below HU.out)
  have HU1 := hideR hu1
  clear h hpw hown HU hu1
  have hlb : bs.length ≤ 39000000000000 := by omega
  have HLEN := hideR hlen
  clear hlen
  go_enter Tryz.func111, Tryz.ntmps111
  go_upto_region 1 with fail
  rw [← HU1.out]
  generalize hp3 : w.heap.size = p3 at HBK0 HO0 HNP ⊢
  clear HU1
  have k0 := HBK0.out.cell 0 _ rfl
  have HC := hideR (wPut w0 p c v bs x.op u1 HS0.out (by omega))
  go_wp2_with fail
  refine HC.out.mono ?_
  rintro e w1 ⟨v1, rfl, h1, kk1⟩
  obtain ⟨bb1, bo1⟩ := kk1.box HBK0.out HNP.out HO0.out
  have HS1 := hideR h1
  have HBK1 := hideR bb1
  have HO1 := hideR bo1
  have HK1 := hideR (HK0.out.trans kk1)
  clear h1 kk1 bb1 bo1 HC k0 HS0 HBK0 HO0 HK0
  have k0 := HBK1.out.cell 0 _ rfl
  have HC := hideR (C.form x.op w1 (C.keep HS1.out.below HII.out))
  rw [hf] at HC
  go_wp2_with fail
  refine HC.out.mono ?_
  rintro e w2 ⟨rfl, hb2⟩
  have HS2 := hideR (HS1.out.on hb2)
  have HBK2 := hideR (HBK1.out.keep (hb2.block p3 HBK1.out.lt))
  have HK2 := hideR (HK1.out.trans (Kept.below hb2))
  clear hb2 HC k0 HS1 HBK1 HK1
  have k0 := HBK2.out.cell 0 _ rfl
  have k1 := HBK2.out.cell 1 _ rfl
  have k2 := HBK2.out.cell 2 _ rfl
  have k3 := HBK2.out.cell 3 _ rfl
  have k4 := HBK2.out.cell 4 _ rfl
  have k5 := HBK2.out.cell 5 _ rfl
  have k6 := HBK2.out.cell 6 _ rfl
  have HC := hideR (wPut w0 p c v1 (bs ++ [x.op % 256]) 0 w2 HS2.out (by simp only [List.length_append, List.length_cons, List.length_nil]; omega))
  go_wp2_with fail
  refine HC.out.mono ?_
  rintro e w3 ⟨v3, rfl, hh, kk⟩
  have HE := hideR hh
  have HK3 := hideR (HK2.out.trans kk)
  clear hh kk HC HS2 HBK2 HK2
  go_wp2
  go_end0
  exact ⟨_, _, rfl, HE.out, HK3.out, .inl (by simp), by simp⟩
end Go.Proofs.YtloelineidlenaaGreatDoor

namespace Go.Proofs.YtloelineidlenaaGreatDoor
open Go.RowKit Rep Enc Go.Lib
set_option linter.unusedVariables false
theorem wInstr {I : World → Prop} (C : FormC I) (w0 : World) (p : Nat) (c : Nat → Value) (v : Value) (bs : List Int) {d : Nat} (IH : IS w0 p c d) (x : Ins (IL d)) (q4 q5 q6 : Option Addr) (y4 z4 y5 z5 y6 z6 : Nat) (w : World) (h : WS w0 p c v bs w) (hI : I w0) (he : size d x.els = y6) (a4 : Ints w0 (.slice q4 y4 z4) x.labels) (a5 : At w0 d (.slice q5 y5 z5) x.body) (a6 : At w0 d (.slice q6 y6 z6) x.els) (r : Rg1 (Rg d) x) (hlen : bs.length + (insB (bytesI d) (size d) x).length ≤ 39000000000000) :
    Calls Tryz.prog 111 #[.pointer (some ⟨p, 0, none⟩), .agg #[.int .i64 x.op, .int .i64 x.a, .int .i64 x.b, .int .i64 x.n, .slice q4 y4 z4, .slice q5 y5 z5, .slice q6 y6 z6]] w (DoesA w0 p c v w bs (insB (bytesI d) (size d) x)) := by
  have hb : bs.length ≤ 40000000000000 := by omega
  have key : ∀ t, insB (bytesI d) (size d) x = t → Calls Tryz.prog 111 #[.pointer (some ⟨p, 0, none⟩), .agg #[.int .i64 x.op, .int .i64 x.a, .int .i64 x.b, .int .i64 x.n, .slice q4 y4 z4, .slice q5 y5 z5, .slice q6 y6 z6]] w (DoesA w0 p c v w bs t) → Calls Tryz.prog 111 #[.pointer (some ⟨p, 0, none⟩), .agg #[.int .i64 x.op, .int .i64 x.a, .int .i64 x.b, .int .i64 x.n, .slice q4 y4 z4, .slice q5 y5 z5, .slice q6 y6 z6]] w (DoesA w0 p c v w bs (insB (bytesI d) (size d) x)) := fun t e hc => by rw [e]; exact hc
  have hF : form x.op = 1 ∨ form x.op = 2 ∨ form x.op = 3 ∨ form x.op = 4 ∨ form x.op = 5 ∨ form x.op = 6 ∨ form x.op = 7 ∨ form x.op = 8 ∨ form x.op = 9 ∨ (form x.op < 1 ∨ 9 < form x.op) := by omega
  rcases hF with hf | hf | hf | hf | hf | hf | hf | hf | hf | hf
  · by_cases h63 : x.op = 63
    · have e : insB (bytesI d) (size d) x = [x.op % 256] ++ [0] := by unfold insB; rw [if_pos hf, if_pos (.inl h63)]
      rw [e] at hlen
      exact key _ e (wIns1a C (fun _ _ hb h => C.keep hb h) w0 p c v bs IH x q4 q5 q6 y4 z4 y5 z5 y6 z6 w h hI hf (by simp [h63]) hlen)
    · by_cases h64 : x.op = 64
      · have e : insB (bytesI d) (size d) x = [x.op % 256] ++ [0] := by unfold insB; rw [if_pos hf, if_pos (.inr h64)]
        rw [e] at hlen
        exact key _ e (wIns1b C (fun _ _ hb h => C.keep hb h) w0 p c v bs IH x q4 q5 q6 y4 z4 y5 z5 y6 z6 w h hI hf (by simp [h63]) (by simp [h64]) hlen)
      · have e : insB (bytesI d) (size d) x = [x.op % 256] := by unfold insB; rw [if_pos hf, if_neg (by omega)]; simp
        exact key _ e ((wIns1 C w0 hI p c v bs x q4 q5 q6 y4 z4 y5 z5 y6 z6 w h hb hf (by omega)).mono fun _ _ h => DoesA.of h)
  · have e : insB (bytesI d) (size d) x = [x.op % 256] ++ blkB x := by unfold insB blkB; rw [if_neg (by omega), if_pos (.inl hf)]
    rw [e] at hlen
    exact key _ e (wIns2 C (fun _ _ hb h => C.keep hb h) w0 p c v bs IH x q4 q5 q6 y4 z4 y5 z5 y6 z6 w h hI hf he a5 a6 r.body r.els hlen)
  · have e : insB (bytesI d) (size d) x = [x.op % 256] ++ blkB x := by unfold insB blkB; rw [if_neg (by omega), if_pos (.inr hf)]
    rw [e] at hlen
    exact key _ e (wIns3 C (fun _ _ hb h => C.keep hb h) w0 p c v bs IH x q4 q5 q6 y4 z4 y5 z5 y6 z6 w h hI hf he a5 a6 r.body r.els hlen)
  · have e : insB (bytesI d) (size d) x = [x.op % 256] ++ Leb.uB x.a := by unfold insB; rw [if_neg (by omega), if_neg (by omega), if_pos (.inl hf)]
    exact key _ e ((wIns4 C w0 hI p c v bs x q4 q5 q6 y4 z4 y5 z5 y6 z6 w h hb hf (r.a (by omega) (by omega))).mono fun _ _ h => DoesA.of h)
  · have e : insB (bytesI d) (size d) x = [x.op % 256] ++ idxB x.labels ++ Leb.uB x.a := by unfold insB; rw [if_neg (by omega), if_neg (by omega), if_neg (by omega), if_pos hf, List.append_assoc]
    have hi : (idxB x.labels).length ≤ 100000010 := by
      have h1 := Leb.uB_ten (n := (x.labels.length : Int)) (by omega) (by have := r.few; omega)
      have h2 := flat_le (f := Leb.uB) 10 x.labels fun y hy => Leb.uB_ten (r.labels hf y hy).1 (by have := (r.labels hf y hy).2; omega)
      have h3 := r.few
      unfold idxB
      rw [List.length_append]; omega
    exact key _ e ((wIns5 C w0 hI p c v bs x q4 q5 q6 y4 z4 y5 z5 y6 z6 w h hb hf (r.a (by omega) (by omega)) a4 (r.labels hf) r.few hi).mono fun _ _ h => DoesA.of h)
  · have e : insB (bytesI d) (size d) x = [x.op % 256] ++ Leb.uB x.a := by unfold insB; rw [if_neg (by omega), if_neg (by omega), if_pos (.inr hf)]
    exact key _ e ((wIns6 C w0 hI p c v bs x q4 q5 q6 y4 z4 y5 z5 y6 z6 w h hb hf (r.a (by omega) (by omega))).mono fun _ _ h => DoesA.of h)
  · have e : insB (bytesI d) (size d) x = [x.op % 256] ++ Leb.uB x.a ++ [0] := by unfold insB; rw [if_neg (by omega), if_neg (by omega), if_neg (by omega), if_neg (by omega), if_pos hf, List.append_assoc]
    have ha := r.a (by omega) (by omega)
    exact key _ e ((wIns7 C w0 hI p c v bs x q4 q5 q6 y4 z4 y5 z5 y6 z6 w h hb hf ha (Leb.uB_ten ha.1 (by omega))).mono fun _ _ h => DoesA.of h)
  · have e : insB (bytesI d) (size d) x = [x.op % 256] ++ Leb.uB x.a ++ Leb.uB x.b := by unfold insB; rw [if_neg (by omega), if_neg (by omega), if_neg (by omega), if_neg (by omega), if_neg (by omega), if_pos hf, List.append_assoc]
    have ha := r.a (by omega) (by omega)
    exact key _ e ((wIns8 C w0 hI p c v bs x q4 q5 q6 y4 z4 y5 z5 y6 z6 w h hb hf ha (r.b hf) (Leb.uB_ten ha.1 (by omega))).mono fun _ _ h => DoesA.of h)
  · have e : insB (bytesI d) (size d) x = [x.op % 256] ++ Leb.sB x.n := by unfold insB; rw [if_neg (by omega), if_neg (by omega), if_neg (by omega), if_neg (by omega), if_neg (by omega), if_neg (by omega), if_pos hf]
    exact key _ e ((wIns9 C w0 hI p c v bs x q4 q5 q6 y4 z4 y5 z5 y6 z6 w h hb hf (r.n hf)).mono fun _ _ h => DoesA.of h)
  · have e : insB (bytesI d) (size d) x = [x.op % 256] := by unfold insB; rw [if_neg (by omega), if_neg (by omega), if_neg (by omega), if_neg (by omega), if_neg (by omega), if_neg (by omega), if_neg (by omega)]; simp
    exact key _ e ((wInsX C w0 hI p c v bs x q4 q5 q6 y4 z4 y5 z5 y6 z6 w h hb hf).mono fun _ _ h => DoesA.of h)
namespace Enc
theorem insL_take {α : Type} {rec : α → List Int} {sz : α → Nat} {l : List (Ins α)} {j : Nat} {x : Ins α} (hx : l[j]? = some x) : insL rec sz (l.take (j + 1)) = insL rec sz (l.take j) ++ insB rec sz x := by
  unfold insL
  rw [List.take_add_one, hx, List.flatMap_append]; simp
theorem insL_part {α : Type} (rec : α → List Int) (sz : α → Nat) (l : List (Ins α)) (j : Nat) : (insL rec sz (l.take j)).length ≤ (insL rec sz l).length := by
  conv => rhs; rw [← List.take_append_drop j l]
  unfold insL
  rw [List.flatMap_append, List.length_append]; omega
end Enc
set_option maxRecDepth 100000 in
set_option maxHeartbeats 4000000 in
theorem isS {I : World → Prop} (C : FormC I) (w0 : World) (hI : I w0) (p : Nat) (c : Nat → Value) (d : Nat) (IH : IS w0 p c d) : IS w0 p c (d + 1) := by
  intro lv l0 v bs w h hA0 hR0 hlen0
  obtain ⟨l, rfl⟩ : ∃ l : List (Ins (IL d)), l = l0 := ⟨l0, rfl⟩
  have hA : Row 7 (InsAt w0 (At w0 d)) lv l := hA0
  have hR : ∀ x, x ∈ l → Rg1 (Rg d) x := hR0
  have hlen : bs.length + (insL (bytesI d) (size d) l).length ≤ 39000000000000 := hlen0
  clear hA0 hR0 hlen0
  show Calls Tryz.prog 73 #[.pointer (some ⟨p, 0, none⟩), lv] w (DoesA w0 p c v w bs (insL (bytesI d) (size d) l))
  obtain ⟨oL, kL, rfl⟩ := Row.len hA
  have la := hA.1
  have HA := hideR hA
  have HR := hideR hR
  have HIH := hideR IH
  have HLEN := hideR hlen
  have HS := hideR h
  have HI := hideR hI
  clear hA hR IH hlen h hI
  generalize hna : l.length = n at *
  go_enter Tryz.func73, Tryz.ntmps73
  go_wp2_with fail
  go_loopw [8] (fun i wr => ∃ (j : Nat) (v2 : Value) (b2 : List Int), j ≤ n ∧ i = .int .i64 j ∧ Hid (WS w0 p c v2 b2 wr) ∧ Hid (Kept p v w v2 wr) ∧ Hid (So bs (insL (bytesI d) (size d) (l.take j)) b2)) (fun i _ => n - (RowKit.intOf i).toNat)
  case atStart => exact ⟨0, v, bs, by omega, rfl, HS, hideR (Kept.refl _ _ _), hideR (So.refl bs)⟩
  case round =>
    clear HS
    obtain ⟨j, v2, b2, hj, rfl, HWS, HKW, HSO⟩ := hrel
    by_cases hgo : j < n
    · obtain ⟨b1, off1, cap1, hv1, hx1⟩ := Row.some HA.out (by omega)
      injection hv1 with ho1 e11 e12
      subst ho1
      clear e11 e12
      obtain ⟨x, hxk⟩ : ∃ x, l[j]? = some x := ⟨_, List.getElem?_eq_getElem (by omega)⟩
      have HXK := hideR hxk
      obtain ⟨cx0, cx1, cx2, cx3, ⟨v4, cx4, ax4⟩, ⟨v5, cx5, ax5⟩, ⟨v6, cx6, ax6⟩⟩ := hx1 j x hxk
      clear hx1 hxk
      obtain ⟨q4, z4, rfl⟩ := Row.len ax4
      obtain ⟨q5, z5, rfl⟩ := At.len d _ _ ax5
      obtain ⟨q6, z6, rfl⟩ := At.len d _ _ ax6
      have AX4 := hideR ax4
      have AX5 := hideR ax5
      have AX6 := hideR ax6
      clear ax4 ax5 ax6
      have cz0 := cell_on HWS.out.below cx0
      have cz1 := cell_on HWS.out.below cx1
      have cz2 := cell_on HWS.out.below cx2
      have cz3 := cell_on HWS.out.below cx3
      have cz4 := cell_on HWS.out.below cx4
      have cz5 := cell_on HWS.out.below cx5
      have cz6 := cell_on HWS.out.below cx6
      clear cx0 cx1 cx2 cx3 cx4 cx5 cx6
      generalize hy4 : x.labels.length = y4 at *
      generalize hy5 : size d x.body = y5 at *
      generalize hy6 : size d x.els = y6 at *
      have hb2 : b2.length ≤ 39000000000000 := by have h1 := HSO.out.2; have h2 := insL_part (bytesI d) (size d) l j; have h3 := HLEN.out; omega
      go_upto_region 3 with fail
      obtain ⟨u1, hu1⟩ : ∃ u1, u1 = wr.alloc (.cells #[.int .i64 x.op, .int .i64 x.a, .int .i64 x.b, .int .i64 x.n, .slice q4 y4 z4, .slice q5 y5 z5, .slice q6 y6 z6] 52) := ⟨_, rfl⟩
      have HBK : Hid (Blk u1 wr.heap.size x.op x.a x.b x.n (.slice q4 y4 z4) (.slice q5 y5 z5) (.slice q6 y6 z6)) := hideR (by rw [hu1]; exact Blk.new wr wr.heap.size _ _ _ _ _ _ _ rfl)
      have HU : Hid (Below wr.heap.size wr u1) := hideR (by rw [hu1]; exact new_on' _ _)
      rw [← hu1]
      clear hu1 cz0 cz1 cz2 cz3 cz4 cz5 cz6
      have HS1 := hideR (HWS.out.on HU.out)
      have HK1 := hideR (HKW.out.trans (Kept.below (p := p) (v := v2) HU.out))
      clear HWS HKW HU
      generalize wr.heap.size = p3 at HBK ⊢
      have HC := hideR (wFull w0 p c v2 b2 u1 HS1.out (by omega))
      go_wp2_with fail
      refine HC.out.mono ?_
      rintro e w3 ⟨rfl, rfl⟩
      clear HC
      by_cases hfull : 262144 < b2.length
      · rw [decide_eq_true hfull]
        have HF : Hid (So bs (insL (bytesI d) (size d) l) b2) := hideR ⟨.inr ⟨hfull, by have h1 := HSO.out.2; have h2 := insL_part (bytesI d) (size d) l j; omega, HSO.out.1.le⟩, by have h1 := HSO.out.2; have h2 := insL_part (bytesI d) (size d) l j; omega⟩
        clear hfull
        go_wp2
        go_end0
        exact ⟨_, _, rfl, HS1.out, HK1.out, HF.out.1, HF.out.2⟩
      · rw [decide_eq_false hfull]
        clear hfull
        have k0 := HBK.out.cell 0 _ rfl
        have k1 := HBK.out.cell 1 _ rfl
        have k2 := HBK.out.cell 2 _ rfl
        have k3 := HBK.out.cell 3 _ rfl
        have k4 := HBK.out.cell 4 _ rfl
        have k5 := HBK.out.cell 5 _ rfl
        have k6 := HBK.out.cell 6 _ rfl
        have HC := hideR (wInstr C w0 p c v2 b2 HIH.out x q4 q5 q6 y4 z4 y5 z5 y6 z6 _ HS1.out HI.out hy6 AX4.out AX5.out AX6.out (HR.out x (List.mem_of_getElem? HXK.out)) (by
          have h1 := HSO.out.2
          have h2 := insL_part (bytesI d) (size d) l (j + 1)
          rw [insL_take HXK.out, List.length_append] at h2
          have h3 := HLEN.out
          omega))
        go_wp2_with fail
        refine HC.out.mono ?_
        rintro e w4 ⟨v4, b4, rfl, hh, kk, ha, hl⟩
        have HS4 := hideR hh
        have HK4 := hideR (HK1.out.trans kk)
        have HSO4 : Hid (So bs (insL (bytesI d) (size d) (l.take (j + 1))) b4) := hideR (by rw [insL_take HXK.out]; exact HSO.out.adds ha hl)
        clear hh kk ha hl HC HS1 HK1 HBK k0 k1 k2 k3 k4 k5 k6
        go_wp2
        go_roundw
        case rel => exact ⟨j + 1, v4, b4, by omega, by go_num, HS4, HK4, HSO4⟩
        case measure => simp [RowKit.intOf]; omega
    · obtain rfl : n = j := by omega
      have HF : Hid (So bs (insL (bytesI d) (size d) l) b2) := hideR (by have := HSO.out; rw [List.take_of_length_le (by omega)] at this; exact this)
      go_wp2
      go_end0
      exact ⟨_, _, rfl, HWS.out, HKW.out, HF.out.1, HF.out.2⟩
theorem is0 (w0 : World) (p : Nat) (c : Nat → Value) : IS w0 p c 0 := by
  rintro lv l v bs w h ⟨oL, kL, rfl⟩ _ _
  have HS := hideR h
  clear h
  go_enter Tryz.func73, Tryz.ntmps73
  go_wp2_with fail
  go_loopw [8] (fun i wr => i = .int .i64 0 ∧ wr = w) (fun _ _ => 0)
  case atStart => exact ⟨rfl, rfl⟩
  case round =>
    obtain ⟨rfl, rfl⟩ := hrel
    go_wp2
    go_end0
    exact ⟨_, _, rfl, HS.out, Kept.refl _ _ _, Adds.refl bs, by simp⟩
theorem isAll {I : World → Prop} (C : FormC I) (w0 : World) (hI : I w0) (p : Nat) (c : Nat → Value) : ∀ d, IS w0 p c d
  | 0 => is0 w0 p c
  | d + 1 => isS C w0 hI p c d (isAll C w0 hI p c d)
end Go.Proofs.YtloelineidlenaaGreatDoor

namespace Go.Proofs.YtloelineidlenaaGreatDoor
open Go.RowKit Rep Enc Go.Lib
set_option linter.unusedVariables false
set_option maxRecDepth 100000 in
set_option maxHeartbeats 2000000 in
theorem wExpr {I : World → Prop} (C : FormC I) (w0 : World) (hI : I w0) (p : Nat) (c : Nat → Value) (d : Nat) (lv : Value) (l : IL d) (v : Value) (bs : List Int) (w : World) (h : WS w0 p c v bs w) (hA : At w0 d lv l) (hR : Rg d l) (hlen : bs.length + (bytesI d l).length ≤ 39000000000000) :
    Calls Tryz.prog 28 #[.pointer (some ⟨p, 0, none⟩), lv] w (DoesA w0 p c v w bs (bytesI d l ++ [11])) := by
  obtain ⟨oL, kL, rfl⟩ := At.len d _ _ hA
  have HC := hideR (isAll C w0 hI p c d _ l v bs w h hA hR hlen)
  have HLEN := hideR hlen
  clear h hA hR hlen
  generalize size d l = n at *
  go_enter Tryz.func28, Tryz.ntmps28
  go_wp2_with fail
  refine HC.out.mono ?_
  rintro e w1 ⟨v1, b1, rfl, h1, k1, a1, l1⟩
  have HC2 := hideR (wPut w0 p c v1 b1 11 w1 h1 (by have := HLEN.out; omega))
  have HSO := hideR (((So.refl bs).adds a1 l1).app [11])
  have HK1 := hideR k1
  clear h1 k1 a1 l1 HC
  go_wp2_with fail
  refine HC2.out.mono ?_
  rintro e w2 ⟨v2, rfl, h2, k2⟩
  have HS := hideR h2
  have HK2 := hideR (HK1.out.trans k2)
  have HF : Hid (So bs (bytesI d l ++ [11]) (b1 ++ [11])) := hideR (by have := HSO.out; simpa using this)
  clear h2 k2 HC2
  go_wp2
  go_end0
  exact ⟨_, _, rfl, HS.out, HK2.out, HF.out.1, HF.out.2⟩
end Go.Proofs.YtloelineidlenaaGreatDoor

namespace Go.Proofs.YtloelineidlenaaGreatDoor
open Go.RowKit Rep Enc Go.Lib
set_option linter.unusedVariables false
namespace Enc
def told (bs : List Int) : Value := if 262144 < bs.length then .tuple #[.string ⟨#[]⟩, .int .i64 2] else .tuple #[.string (strOfNums bs), .int .i64 0]
end Enc
set_option maxRecDepth 100000 in
set_option maxHeartbeats 2000000 in
theorem wTold (w0 : World) (p : Nat) (c : Nat → Value) (v : Value) (bs : List Int) (w : World) (h : WS w0 p c v bs w) (hn : bs.length ≤ 100000000000000) (h0 : 0 < bs.length) :
    Calls Tryz.prog 20 #[.pointer (some ⟨p, 0, none⟩)] w fun e w' => e = .returned (told bs) ∧ w' = w := by
  have HC := hideR (wFull w0 p c v bs w h hn)
  obtain ⟨g, cap, rfl, hcv⟩ := own_string h.own h0
  have kc := h.cell
  clear h
  unfold told
  by_cases hf : 262144 < bs.length
  · rw [if_pos hf]
    rw [decide_eq_true hf] at HC
    clear hf hcv
    go_enter Tryz.func20, Tryz.ntmps20
    go_wp2_with fail
    refine HC.out.mono ?_
    rintro e w1 ⟨rfl, rfl⟩
    go_wp2
    go_ret2
    exact ⟨rfl, rfl⟩
  · rw [if_neg hf]
    rw [decide_eq_false hf] at HC
    clear hf
    go_enter Tryz.func20, Tryz.ntmps20
    go_wp2_with fail
    refine HC.out.mono ?_
    rintro e w1 ⟨rfl, rfl⟩
    go_wp2
    go_ret2
    exact ⟨rfl, rfl⟩
end Go.Proofs.YtloelineidlenaaGreatDoor

namespace Go.Proofs.YtloelineidlenaaGreatDoor
open Go.RowKit Rep Enc Go.Lib
set_option linter.unusedVariables false
namespace Enc
def Bx (w : World) (b : Nat) (t : TypeId) (cs : Array Value) : Prop := w.heap[b]? = some (.cells cs t (0, 0))
theorem Bx.cell {w : World} {b : Nat} {t : TypeId} {cs : Array Value} (h : Bx w b t cs) (i : Nat) (v : Value) (hv : cs[i]? = some v) : w.cell? ⟨b, i, none⟩ = some v := by
  unfold World.cell?; rw [h]; exact hv
theorem Bx.lt {w : World} {b : Nat} {t : TypeId} {cs : Array Value} (h : Bx w b t cs) : b < w.heap.size := (Array.getElem?_eq_some_iff.1 h).1
theorem Bx.new {w : World} {b : Nat} {t : TypeId} {cs : Array Value} (hp : b = w.heap.size) : Bx (w.alloc (.cells cs t)) b t cs := by
  subst hp; exact heap_alloc_new w _
theorem Kept.bx {p p3 : Nat} {v v' : Value} {w w' : World} {t : TypeId} {cs : Array Value} (h : Kept p v w v' w') (hb : Bx w p3 t cs) (hp : p3 ≠ p) (ho : some p3 ≠ v.ownBlock) : Bx w' p3 t cs ∧ some p3 ≠ v'.ownBlock :=
  ⟨by unfold Bx at *; rw [h.block p3 (Array.getElem?_eq_some_iff.1 hb).1 hp ho]; exact hb, fun e => by
    rcases h.own p3 e.symm with h1 | h1
    · exact ho h1.symm
    · have := hb.lt; omega⟩
def limB (x : Lim) : List Int := [one x.has] ++ Leb.uB x.min ++ (if x.has then Leb.uB x.max else [])
end Enc
set_option maxRecDepth 100000 in
set_option maxHeartbeats 2000000 in
theorem wLimT (w0 : World) (p : Nat) (c : Nat → Value) (v : Value) (bs : List Int) (x : Lim) (w : World) (h : WS w0 p c v bs w) (h1 : 0 ≤ x.min ∧ x.min ≤ 4294967295) (h2 : 0 ≤ x.max ∧ x.max ≤ 4294967295) (hn : bs.length ≤ 40000000000000) : Calls Tryz.prog 88 #[.pointer (some ⟨p, 0, none⟩), .agg #[.int .i64 x.min, .int .i64 x.max, .bool true]] w (Does w0 p c v w (bs ++ ([one true] ++ Leb.uB x.min ++ Leb.uB x.max))) := by
  have hu := Leb.uB_ten h1.1 (by omega : x.min ≤ 18446744073709551615)
  have hpw : p < w.heap.size := h.lt
  have hown : ∀ k, v.ownBlock = some k → k < w.heap.size := fun k hk => (h.own.lt k hk).2
  have HBK0 := hideR (Bx.new (w := w) (b := w.heap.size) (t := 50) (cs := #[.int .i64 x.min, .int .i64 x.max, .bool true]) rfl)
  obtain ⟨u1, hu1⟩ : ∃ u1, u1 = w.alloc (.cells #[.int .i64 x.min, .int .i64 x.max, .bool true] 50) := ⟨_, rfl⟩
  have HU := hideR (new_on' w (.cells #[.int .i64 x.min, .int .i64 x.max, .bool true] 50))
  rw [← hu1] at HBK0 HU
  have HS0 := hideR (h.on HU.out)
  have HO0 : Hid (some w.heap.size ≠ v.ownBlock) := hideR (fun e => by have := hown _ e.symm; omega)
  have HNP : Hid (w.heap.size ≠ p) := hideR (by omega)
  have HK0 : Hid (Kept p v w v u1) := hideR (Kept.below HU.out)
  have HU1 := hideR hu1
  clear h hpw hown HU hu1
  obtain ⟨b9, hb9⟩ : ∃ b9, b9 = bs ++ ([one true] ++ Leb.uB x.min ++ Leb.uB x.max) := ⟨_, rfl⟩
  rw [← hb9]
  have HB9 := hideR hb9
  clear hb9
  go_enter Tryz.func88, Tryz.ntmps88
  go_upto_region 1 with fail
  rw [← HU1.out]
  generalize hp3 : w.heap.size = p3 at HBK0 HO0 HNP ⊢
  clear HU1
  have k0 := HBK0.out.cell 0 _ rfl
  have k1 := HBK0.out.cell 1 _ rfl
  have k2 := HBK0.out.cell 2 _ rfl
  have HC := hideR (wFlag w0 p c v (bs) true u1 HS0.out (by omega))
  go_wp2_with fail
  refine HC.out.mono ?_
  rintro e w1 ⟨v1, rfl, hh, kk⟩
  obtain ⟨bb, bo⟩ := kk.bx HBK0.out HNP.out HO0.out
  have HS1 := hideR hh
  have HBK1 := hideR bb
  have HO1 := hideR bo
  have HK1 := hideR (HK0.out.trans kk)
  clear hh kk bb bo HC HS0 HBK0 HK0 HO0 k0 k1 k2
  have k0 := HBK1.out.cell 0 _ rfl
  have k1 := HBK1.out.cell 1 _ rfl
  have k2 := HBK1.out.cell 2 _ rfl
  have HC := hideR (wU w0 p c v1 (bs ++ [one true]) x.min w1 HS1.out h1.1 (by omega) (by simp only [List.length_append, List.length_cons, List.length_nil]; omega))
  go_wp2_with fail
  refine HC.out.mono ?_
  rintro e w2 ⟨v2, rfl, hh, kk⟩
  obtain ⟨bb, bo⟩ := kk.bx HBK1.out HNP.out HO1.out
  have HS2 := hideR hh
  have HBK2 := hideR bb
  have HO2 := hideR bo
  have HK2 := hideR (HK1.out.trans kk)
  clear hh kk bb bo HC HS1 HBK1 HK1 HO1 k0 k1 k2
  have k0 := HBK2.out.cell 0 _ rfl
  have k1 := HBK2.out.cell 1 _ rfl
  have k2 := HBK2.out.cell 2 _ rfl
  have HC := hideR (wU w0 p c v2 (bs ++ [one true] ++ Leb.uB x.min) x.max w2 HS2.out h2.1 (by omega) (by simp only [List.length_append, List.length_cons, List.length_nil]; omega))
  go_wp2_with fail
  refine HC.out.mono ?_
  rintro e w3 ⟨v3, rfl, hh, kk⟩
  obtain ⟨bb, bo⟩ := kk.bx HBK2.out HNP.out HO2.out
  have HS3 := hideR hh
  have HBK3 := hideR bb
  have HO3 := hideR bo
  have HK3 := hideR (HK2.out.trans kk)
  clear hh kk bb bo HC HS2 HBK2 HK2 HO2 k0 k1 k2
  have k0 := HBK3.out.cell 0 _ rfl
  have k1 := HBK3.out.cell 1 _ rfl
  have k2 := HBK3.out.cell 2 _ rfl
  have HE : Hid (WS w0 p c v3 b9 w3) := hideR (by rw [HB9.out]; simpa using HS3.out)
  go_wp2
  go_end0
  exact ⟨_, rfl, HE.out, HK3.out⟩
set_option maxRecDepth 100000 in
set_option maxHeartbeats 2000000 in
theorem wLimF (w0 : World) (p : Nat) (c : Nat → Value) (v : Value) (bs : List Int) (x : Lim) (w : World) (h : WS w0 p c v bs w) (h1 : 0 ≤ x.min ∧ x.min ≤ 4294967295) (h2 : 0 ≤ x.max ∧ x.max ≤ 4294967295) (hn : bs.length ≤ 40000000000000) : Calls Tryz.prog 88 #[.pointer (some ⟨p, 0, none⟩), .agg #[.int .i64 x.min, .int .i64 x.max, .bool false]] w (Does w0 p c v w (bs ++ ([one false] ++ Leb.uB x.min))) := by
  have hu := Leb.uB_ten h1.1 (by omega : x.min ≤ 18446744073709551615)
  have hpw : p < w.heap.size := h.lt
  have hown : ∀ k, v.ownBlock = some k → k < w.heap.size := fun k hk => (h.own.lt k hk).2
  have HBK0 := hideR (Bx.new (w := w) (b := w.heap.size) (t := 50) (cs := #[.int .i64 x.min, .int .i64 x.max, .bool false]) rfl)
  obtain ⟨u1, hu1⟩ : ∃ u1, u1 = w.alloc (.cells #[.int .i64 x.min, .int .i64 x.max, .bool false] 50) := ⟨_, rfl⟩
  have HU := hideR (new_on' w (.cells #[.int .i64 x.min, .int .i64 x.max, .bool false] 50))
  rw [← hu1] at HBK0 HU
  have HS0 := hideR (h.on HU.out)
  have HO0 : Hid (some w.heap.size ≠ v.ownBlock) := hideR (fun e => by have := hown _ e.symm; omega)
  have HNP : Hid (w.heap.size ≠ p) := hideR (by omega)
  have HK0 : Hid (Kept p v w v u1) := hideR (Kept.below HU.out)
  have HU1 := hideR hu1
  clear h hpw hown HU hu1
  obtain ⟨b9, hb9⟩ : ∃ b9, b9 = bs ++ ([one false] ++ Leb.uB x.min) := ⟨_, rfl⟩
  rw [← hb9]
  have HB9 := hideR hb9
  clear hb9
  go_enter Tryz.func88, Tryz.ntmps88
  go_upto_region 1 with fail
  rw [← HU1.out]
  generalize hp3 : w.heap.size = p3 at HBK0 HO0 HNP ⊢
  clear HU1
  have k0 := HBK0.out.cell 0 _ rfl
  have k1 := HBK0.out.cell 1 _ rfl
  have k2 := HBK0.out.cell 2 _ rfl
  have HC := hideR (wFlag w0 p c v (bs) false u1 HS0.out (by omega))
  go_wp2_with fail
  refine HC.out.mono ?_
  rintro e w1 ⟨v1, rfl, hh, kk⟩
  obtain ⟨bb, bo⟩ := kk.bx HBK0.out HNP.out HO0.out
  have HS1 := hideR hh
  have HBK1 := hideR bb
  have HO1 := hideR bo
  have HK1 := hideR (HK0.out.trans kk)
  clear hh kk bb bo HC HS0 HBK0 HK0 HO0 k0 k1 k2
  have k0 := HBK1.out.cell 0 _ rfl
  have k1 := HBK1.out.cell 1 _ rfl
  have k2 := HBK1.out.cell 2 _ rfl
  have HC := hideR (wU w0 p c v1 (bs ++ [one false]) x.min w1 HS1.out h1.1 (by omega) (by simp only [List.length_append, List.length_cons, List.length_nil]; omega))
  go_wp2_with fail
  refine HC.out.mono ?_
  rintro e w2 ⟨v2, rfl, hh, kk⟩
  obtain ⟨bb, bo⟩ := kk.bx HBK1.out HNP.out HO1.out
  have HS2 := hideR hh
  have HBK2 := hideR bb
  have HO2 := hideR bo
  have HK2 := hideR (HK1.out.trans kk)
  clear hh kk bb bo HC HS1 HBK1 HK1 HO1 k0 k1 k2
  have k0 := HBK2.out.cell 0 _ rfl
  have k1 := HBK2.out.cell 1 _ rfl
  have k2 := HBK2.out.cell 2 _ rfl
  have HE : Hid (WS w0 p c v2 b9 w2) := hideR (by rw [HB9.out]; simpa using HS2.out)
  go_wp2
  go_end0
  exact ⟨_, rfl, HE.out, HK2.out⟩
theorem wLim (w0 : World) (p : Nat) (c : Nat → Value) (v : Value) (bs : List Int) (x : Lim) (w : World) (h : WS w0 p c v bs w) (h1 : 0 ≤ x.min ∧ x.min ≤ 4294967295) (h2 : 0 ≤ x.max ∧ x.max ≤ 4294967295) (hn : bs.length ≤ 40000000000000) :
    Calls Tryz.prog 88 #[.pointer (some ⟨p, 0, none⟩), .agg #[.int .i64 x.min, .int .i64 x.max, .bool x.has]] w (Does w0 p c v w (bs ++ limB x)) := by
  unfold limB
  cases hx : x.has
  · rw [if_neg (by simp), List.append_nil]; exact wLimF w0 p c v bs x w h h1 h2 hn
  · rw [if_pos rfl]; exact wLimT w0 p c v bs x w h h1 h2 hn
end Go.Proofs.YtloelineidlenaaGreatDoor

namespace Go.Proofs.YtloelineidlenaaGreatDoor
open Go.RowKit Rep Enc Go.Lib
set_option linter.unusedVariables false
namespace Enc
theorem WS.fld {w0 w : World} {p : Nat} {c : Nat → Value} {v : Value} {bs : List Int} (h : WS w0 p c v bs w) (i : Nat) (hi : i < 10) : w.cell? ⟨p, i, none⟩ = some (c i) := by
  unfold World.cell?
  rw [h.blk]
  have : i = 0 ∨ i = 1 ∨ i = 2 ∨ i = 3 ∨ i = 4 ∨ i = 5 ∨ i = 6 ∨ i = 7 ∨ i = 8 ∨ i = 9 := by omega
  rcases this with rfl | rfl | rfl | rfl | rfl | rfl | rfl | rfl | rfl | rfl <;> rfl
theorem typB_len (l : List Int) (h : l.length ≤ 1000000) : (typB l).length ≤ 1000010 := by
  have h1 := Leb.uB_ten (n := (l.length : Int)) (by omega) (by omega)
  have h2 := flat_le (f := fun x => [x % 256]) 1 l fun x _ => by simp
  unfold typB
  rw [List.length_append]; omega
end Enc
set_option maxRecDepth 100000 in
set_option maxHeartbeats 2000000 in
theorem eType (w0 : World) (p : Nat) (c : Nat → Value) (v : Value) (bs : List Int) (d : Nat) (m : Mod d) (w : World) (h : WS w0 p c v bs w) (hM : ModAt w0 d (c 0) (c 1) (c 2) (c 3) (c 4) (c 5) (c 6) (c 7) (c 8) (c 9) m) (i : Nat) (x : FT) (hx : m.types[i]? = some x) (l1 : x.params.length ≤ 1000000) (l2 : x.results.length ≤ 1000000) (hn : bs.length ≤ 39000000000000) : Calls Tryz.prog 41 #[.pointer (some ⟨p, 0, none⟩), .int .i64 (i : Nat)] w (Does w0 p c v w (bs ++ ([96] ++ typB x.params ++ typB x.results))) := by
  have hi : i < m.types.length := (List.getElem?_eq_some_iff.1 hx).1
  obtain ⟨b1, off1, cap1, hcv, hcx⟩ := Row.some hM.types (by omega)
  have kc := h.fld 0 (by omega)
  rw [hcv] at kc
  obtain ⟨⟨v1, cx0, ax1⟩, ⟨v2, cx1, ax2⟩⟩ := hcx i x hx
  have t1 := typB_len x.params l1
  obtain ⟨q1, z1, rfl⟩ := Row.len ax1
  obtain ⟨q2, z2, rfl⟩ := Row.len ax2
  have AX1 := hideR ax1
  have AX2 := hideR ax2
  clear ax1 ax2
  generalize hy1 : x.params.length = y1 at *
  generalize hy2 : x.results.length = y2 at *
  have cz0 := cell_on h.below cx0
  have cz1 := cell_on h.below cx1
  clear hcv hcx hM hx cx0 cx1
  generalize m.types.length = n at *
  have hpw : p < w.heap.size := h.lt
  have hown : ∀ k, v.ownBlock = some k → k < w.heap.size := fun k hk => (h.own.lt k hk).2
  have HBK0 := hideR (Bx.new (w := w) (b := w.heap.size) (t := 59) (cs := #[.slice q1 y1 z1, .slice q2 y2 z2]) rfl)
  obtain ⟨u1, hu1⟩ : ∃ u1, u1 = w.alloc (.cells #[.slice q1 y1 z1, .slice q2 y2 z2] 59) := ⟨_, rfl⟩
  have HU := hideR (new_on' w (.cells #[.slice q1 y1 z1, .slice q2 y2 z2] 59))
  rw [← hu1] at HBK0 HU
  have HS0 := hideR (h.on HU.out)
  have HO0 : Hid (some w.heap.size ≠ v.ownBlock) := hideR (fun e => by have := hown _ e.symm; omega)
  have HNP : Hid (w.heap.size ≠ p) := hideR (by omega)
  have HK0 : Hid (Kept p v w v u1) := hideR (Kept.below HU.out)
  have HU1 := hideR hu1
  clear h hpw hown HU hu1
  obtain ⟨b9, hb9⟩ : ∃ b9, b9 = bs ++ ([96] ++ typB x.params ++ typB x.results) := ⟨_, rfl⟩
  rw [← hb9]
  have HB9 := hideR hb9
  clear hb9
  go_enter Tryz.func41, Tryz.ntmps41
  go_upto_region 1 with fail
  rw [← HU1.out]
  clear HU1 kc cz0 cz1
  generalize hp3 : w.heap.size = p3 at HBK0 HO0 HNP ⊢
  have k0 := HBK0.out.cell 0 _ rfl
  have k1 := HBK0.out.cell 1 _ rfl
  have HC := hideR (wPut w0 p c v (bs) 96 u1 HS0.out (by first | omega | (simp only [List.length_append]; omega) | (simp only [List.length_append, List.length_cons, List.length_nil]; omega)))
  go_wp2_with fail
  refine HC.out.mono ?_
  rintro e w1 ⟨v1, rfl, hh, kk⟩
  obtain ⟨bb, bo⟩ := kk.bx HBK0.out HNP.out HO0.out
  have HS1 := hideR hh
  have HBK1 := hideR bb
  have HO1 := hideR bo
  have HK1 := hideR (HK0.out.trans kk)
  clear hh kk bb bo HC HS0 HBK0 HK0 HO0 k0 k1
  have k0 := HBK1.out.cell 0 _ rfl
  have k1 := HBK1.out.cell 1 _ rfl
  have HC := hideR (wTyp w0 p c v1 (bs ++ [96]) _ x.params w1 HS1.out AX1.out (by omega) (by first | omega | (simp only [List.length_append]; omega) | (simp only [List.length_append, List.length_cons, List.length_nil]; omega)))
  go_wp2_with fail
  refine HC.out.mono ?_
  rintro e w2 ⟨v2, rfl, hh, kk⟩
  obtain ⟨bb, bo⟩ := kk.bx HBK1.out HNP.out HO1.out
  have HS2 := hideR hh
  have HBK2 := hideR bb
  have HO2 := hideR bo
  have HK2 := hideR (HK1.out.trans kk)
  clear hh kk bb bo HC HS1 HBK1 HK1 HO1 k0 k1
  have k0 := HBK2.out.cell 0 _ rfl
  have k1 := HBK2.out.cell 1 _ rfl
  have HC := hideR (wTyp w0 p c v2 (bs ++ [96] ++ typB x.params) _ x.results w2 HS2.out AX2.out (by omega) (by first | omega | (simp only [List.length_append]; omega) | (simp only [List.length_append, List.length_cons, List.length_nil]; omega)))
  go_wp2_with fail
  refine HC.out.mono ?_
  rintro e w3 ⟨v3, rfl, hh, kk⟩
  obtain ⟨bb, bo⟩ := kk.bx HBK2.out HNP.out HO2.out
  have HS3 := hideR hh
  have HBK3 := hideR bb
  have HO3 := hideR bo
  have HK3 := hideR (HK2.out.trans kk)
  clear hh kk bb bo HC HS2 HBK2 HK2 HO2 k0 k1
  have HE : Hid (WS w0 p c v3 b9 w3) := hideR (by rw [HB9.out]; simpa [List.append_assoc] using HS3.out)
  go_wp2
  go_end0
  exact ⟨_, rfl, HE.out, HK3.out⟩
set_option maxRecDepth 100000 in
set_option maxHeartbeats 2000000 in
theorem eImp (w0 : World) (p : Nat) (c : Nat → Value) (v : Value) (bs : List Int) (d : Nat) (m : Mod d) (w : World) (h : WS w0 p c v bs w) (hM : ModAt w0 d (c 0) (c 1) (c 2) (c 3) (c 4) (c 5) (c 6) (c 7) (c 8) (c 9) m) (i : Nat) (x : Imp) (hx : m.imports[i]? = some x) (l1 : x.mod.size ≤ 1000000) (l2 : x.name.size ≤ 1000000) (l3 : 0 ≤ x.type ∧ x.type ≤ 4294967295) (hn : bs.length ≤ 39000000000000) : Calls Tryz.prog 42 #[.pointer (some ⟨p, 0, none⟩), .int .i64 (i : Nat)] w (Does w0 p c v w (bs ++ ((Leb.uB (x.mod.size : Int) ++ nums x.mod) ++ (Leb.uB (x.name.size : Int) ++ nums x.name) ++ [0] ++ Leb.uB x.type))) := by
  have hi : i < m.imports.length := (List.getElem?_eq_some_iff.1 hx).1
  obtain ⟨b1, off1, cap1, hcv, hcx⟩ := Row.some hM.imports (by omega)
  have kc := h.fld 1 (by omega)
  rw [hcv] at kc
  obtain ⟨cx0, cx1, cx2⟩ := hcx i x hx
  have t1 := Leb.uB_ten (n := (x.mod.size : Int)) (by omega) (by omega)
  have t2 := Leb.uB_ten (n := (x.name.size : Int)) (by omega) (by omega)
  have t3 := nums_len x.mod
  have t4 := nums_len x.name
  have cz0 := cell_on h.below cx0
  have cz1 := cell_on h.below cx1
  have cz2 := cell_on h.below cx2
  clear hcv hcx hM hx cx0 cx1 cx2
  generalize m.imports.length = n at *
  have hpw : p < w.heap.size := h.lt
  have hown : ∀ k, v.ownBlock = some k → k < w.heap.size := fun k hk => (h.own.lt k hk).2
  have HBK0 := hideR (Bx.new (w := w) (b := w.heap.size) (t := 83) (cs := #[.string x.mod, .string x.name, .int .i64 x.type]) rfl)
  obtain ⟨u1, hu1⟩ : ∃ u1, u1 = w.alloc (.cells #[.string x.mod, .string x.name, .int .i64 x.type] 83) := ⟨_, rfl⟩
  have HU := hideR (new_on' w (.cells #[.string x.mod, .string x.name, .int .i64 x.type] 83))
  rw [← hu1] at HBK0 HU
  have HS0 := hideR (h.on HU.out)
  have HO0 : Hid (some w.heap.size ≠ v.ownBlock) := hideR (fun e => by have := hown _ e.symm; omega)
  have HNP : Hid (w.heap.size ≠ p) := hideR (by omega)
  have HK0 : Hid (Kept p v w v u1) := hideR (Kept.below HU.out)
  have HU1 := hideR hu1
  clear h hpw hown HU hu1
  obtain ⟨b9, hb9⟩ : ∃ b9, b9 = bs ++ ((Leb.uB (x.mod.size : Int) ++ nums x.mod) ++ (Leb.uB (x.name.size : Int) ++ nums x.name) ++ [0] ++ Leb.uB x.type) := ⟨_, rfl⟩
  rw [← hb9]
  have HB9 := hideR hb9
  clear hb9
  go_enter Tryz.func42, Tryz.ntmps42
  go_upto_region 1 with fail
  rw [← HU1.out]
  clear HU1 kc cz0 cz1 cz2
  generalize hp3 : w.heap.size = p3 at HBK0 HO0 HNP ⊢
  have k0 := HBK0.out.cell 0 _ rfl
  have k1 := HBK0.out.cell 1 _ rfl
  have k2 := HBK0.out.cell 2 _ rfl
  have HC := hideR (wText w0 p c v (bs) x.mod u1 HS0.out (by first | omega | (simp only [List.length_append]; omega) | (simp only [List.length_append, List.length_cons, List.length_nil]; omega)) (by omega))
  go_wp2_with fail
  refine HC.out.mono ?_
  rintro e w1 ⟨v1, rfl, hh, kk⟩
  obtain ⟨bb, bo⟩ := kk.bx HBK0.out HNP.out HO0.out
  have HS1 := hideR hh
  have HBK1 := hideR bb
  have HO1 := hideR bo
  have HK1 := hideR (HK0.out.trans kk)
  clear hh kk bb bo HC HS0 HBK0 HK0 HO0 k0 k1 k2
  have k0 := HBK1.out.cell 0 _ rfl
  have k1 := HBK1.out.cell 1 _ rfl
  have k2 := HBK1.out.cell 2 _ rfl
  have HC := hideR (wText w0 p c v1 (bs ++ Leb.uB (x.mod.size : Int) ++ nums x.mod) x.name w1 HS1.out (by first | omega | (simp only [List.length_append]; omega) | (simp only [List.length_append, List.length_cons, List.length_nil]; omega)) (by omega))
  go_wp2_with fail
  refine HC.out.mono ?_
  rintro e w2 ⟨v2, rfl, hh, kk⟩
  obtain ⟨bb, bo⟩ := kk.bx HBK1.out HNP.out HO1.out
  have HS2 := hideR hh
  have HBK2 := hideR bb
  have HO2 := hideR bo
  have HK2 := hideR (HK1.out.trans kk)
  clear hh kk bb bo HC HS1 HBK1 HK1 HO1 k0 k1 k2
  have k0 := HBK2.out.cell 0 _ rfl
  have k1 := HBK2.out.cell 1 _ rfl
  have k2 := HBK2.out.cell 2 _ rfl
  have HC := hideR (wPut w0 p c v2 (bs ++ Leb.uB (x.mod.size : Int) ++ nums x.mod ++ Leb.uB (x.name.size : Int) ++ nums x.name) 0 w2 HS2.out (by first | omega | (simp only [List.length_append]; omega) | (simp only [List.length_append, List.length_cons, List.length_nil]; omega)))
  go_wp2_with fail
  refine HC.out.mono ?_
  rintro e w3 ⟨v3, rfl, hh, kk⟩
  obtain ⟨bb, bo⟩ := kk.bx HBK2.out HNP.out HO2.out
  have HS3 := hideR hh
  have HBK3 := hideR bb
  have HO3 := hideR bo
  have HK3 := hideR (HK2.out.trans kk)
  clear hh kk bb bo HC HS2 HBK2 HK2 HO2 k0 k1 k2
  have k0 := HBK3.out.cell 0 _ rfl
  have k1 := HBK3.out.cell 1 _ rfl
  have k2 := HBK3.out.cell 2 _ rfl
  have HC := hideR (wU w0 p c v3 (bs ++ Leb.uB (x.mod.size : Int) ++ nums x.mod ++ Leb.uB (x.name.size : Int) ++ nums x.name ++ [0]) x.type w3 HS3.out l3.1 (by omega) (by first | omega | (simp only [List.length_append]; omega) | (simp only [List.length_append, List.length_cons, List.length_nil]; omega)))
  go_wp2_with fail
  refine HC.out.mono ?_
  rintro e w4 ⟨v4, rfl, hh, kk⟩
  obtain ⟨bb, bo⟩ := kk.bx HBK3.out HNP.out HO3.out
  have HS4 := hideR hh
  have HBK4 := hideR bb
  have HO4 := hideR bo
  have HK4 := hideR (HK3.out.trans kk)
  clear hh kk bb bo HC HS3 HBK3 HK3 HO3 k0 k1 k2
  have HE : Hid (WS w0 p c v4 b9 w4) := hideR (by rw [HB9.out]; simpa [List.append_assoc] using HS4.out)
  go_wp2
  go_end0
  exact ⟨_, rfl, HE.out, HK4.out⟩
set_option maxRecDepth 100000 in
set_option maxHeartbeats 2000000 in
theorem eExp (w0 : World) (p : Nat) (c : Nat → Value) (v : Value) (bs : List Int) (d : Nat) (m : Mod d) (w : World) (h : WS w0 p c v bs w) (hM : ModAt w0 d (c 0) (c 1) (c 2) (c 3) (c 4) (c 5) (c 6) (c 7) (c 8) (c 9) m) (i : Nat) (x : Exp) (hx : m.exports[i]? = some x) (l1 : x.name.size ≤ 1000000) (l3 : 0 ≤ x.index ∧ x.index ≤ 4294967295) (hn : bs.length ≤ 39000000000000) : Calls Tryz.prog 47 #[.pointer (some ⟨p, 0, none⟩), .int .i64 (i : Nat)] w (Does w0 p c v w (bs ++ ((Leb.uB (x.name.size : Int) ++ nums x.name) ++ [x.kind % 256] ++ Leb.uB x.index))) := by
  have hi : i < m.exports.length := (List.getElem?_eq_some_iff.1 hx).1
  obtain ⟨b1, off1, cap1, hcv, hcx⟩ := Row.some hM.exports (by omega)
  have kc := h.fld 6 (by omega)
  rw [hcv] at kc
  obtain ⟨cx0, cx1, cx2⟩ := hcx i x hx
  have t2 := Leb.uB_ten (n := (x.name.size : Int)) (by omega) (by omega)
  have t4 := nums_len x.name
  have cz0 := cell_on h.below cx0
  have cz1 := cell_on h.below cx1
  have cz2 := cell_on h.below cx2
  clear hcv hcx hM hx cx0 cx1 cx2
  generalize m.exports.length = n at *
  have hpw : p < w.heap.size := h.lt
  have hown : ∀ k, v.ownBlock = some k → k < w.heap.size := fun k hk => (h.own.lt k hk).2
  have HBK0 := hideR (Bx.new (w := w) (b := w.heap.size) (t := 87) (cs := #[.string x.name, .int .i64 x.kind, .int .i64 x.index]) rfl)
  obtain ⟨u1, hu1⟩ : ∃ u1, u1 = w.alloc (.cells #[.string x.name, .int .i64 x.kind, .int .i64 x.index] 87) := ⟨_, rfl⟩
  have HU := hideR (new_on' w (.cells #[.string x.name, .int .i64 x.kind, .int .i64 x.index] 87))
  rw [← hu1] at HBK0 HU
  have HS0 := hideR (h.on HU.out)
  have HO0 : Hid (some w.heap.size ≠ v.ownBlock) := hideR (fun e => by have := hown _ e.symm; omega)
  have HNP : Hid (w.heap.size ≠ p) := hideR (by omega)
  have HK0 : Hid (Kept p v w v u1) := hideR (Kept.below HU.out)
  have HU1 := hideR hu1
  clear h hpw hown HU hu1
  obtain ⟨b9, hb9⟩ : ∃ b9, b9 = bs ++ ((Leb.uB (x.name.size : Int) ++ nums x.name) ++ [x.kind % 256] ++ Leb.uB x.index) := ⟨_, rfl⟩
  rw [← hb9]
  have HB9 := hideR hb9
  clear hb9
  go_enter Tryz.func47, Tryz.ntmps47
  go_upto_region 1 with fail
  rw [← HU1.out]
  clear HU1 kc cz0 cz1 cz2
  generalize hp3 : w.heap.size = p3 at HBK0 HO0 HNP ⊢
  have k0 := HBK0.out.cell 0 _ rfl
  have k1 := HBK0.out.cell 1 _ rfl
  have k2 := HBK0.out.cell 2 _ rfl
  have HC := hideR (wText w0 p c v (bs) x.name u1 HS0.out (by first | omega | (simp only [List.length_append]; omega) | (simp only [List.length_append, List.length_cons, List.length_nil]; omega)) (by omega))
  go_wp2_with fail
  refine HC.out.mono ?_
  rintro e w1 ⟨v1, rfl, hh, kk⟩
  obtain ⟨bb, bo⟩ := kk.bx HBK0.out HNP.out HO0.out
  have HS1 := hideR hh
  have HBK1 := hideR bb
  have HO1 := hideR bo
  have HK1 := hideR (HK0.out.trans kk)
  clear hh kk bb bo HC HS0 HBK0 HK0 HO0 k0 k1 k2
  have k0 := HBK1.out.cell 0 _ rfl
  have k1 := HBK1.out.cell 1 _ rfl
  have k2 := HBK1.out.cell 2 _ rfl
  have HC := hideR (wPut w0 p c v1 (bs ++ Leb.uB (x.name.size : Int) ++ nums x.name) x.kind w1 HS1.out (by first | omega | (simp only [List.length_append]; omega) | (simp only [List.length_append, List.length_cons, List.length_nil]; omega)))
  go_wp2_with fail
  refine HC.out.mono ?_
  rintro e w2 ⟨v2, rfl, hh, kk⟩
  obtain ⟨bb, bo⟩ := kk.bx HBK1.out HNP.out HO1.out
  have HS2 := hideR hh
  have HBK2 := hideR bb
  have HO2 := hideR bo
  have HK2 := hideR (HK1.out.trans kk)
  clear hh kk bb bo HC HS1 HBK1 HK1 HO1 k0 k1 k2
  have k0 := HBK2.out.cell 0 _ rfl
  have k1 := HBK2.out.cell 1 _ rfl
  have k2 := HBK2.out.cell 2 _ rfl
  have HC := hideR (wU w0 p c v2 (bs ++ Leb.uB (x.name.size : Int) ++ nums x.name ++ [x.kind % 256]) x.index w2 HS2.out l3.1 (by omega) (by first | omega | (simp only [List.length_append]; omega) | (simp only [List.length_append, List.length_cons, List.length_nil]; omega)))
  go_wp2_with fail
  refine HC.out.mono ?_
  rintro e w3 ⟨v3, rfl, hh, kk⟩
  obtain ⟨bb, bo⟩ := kk.bx HBK2.out HNP.out HO2.out
  have HS3 := hideR hh
  have HBK3 := hideR bb
  have HO3 := hideR bo
  have HK3 := hideR (HK2.out.trans kk)
  clear hh kk bb bo HC HS2 HBK2 HK2 HO2 k0 k1 k2
  have HE : Hid (WS w0 p c v3 b9 w3) := hideR (by rw [HB9.out]; simpa [List.append_assoc] using HS3.out)
  go_wp2
  go_end0
  exact ⟨_, rfl, HE.out, HK3.out⟩
end Go.Proofs.YtloelineidlenaaGreatDoor

namespace Go.Proofs.YtloelineidlenaaGreatDoor
open Go.RowKit Rep Enc Go.Lib
set_option linter.unusedVariables false
set_option maxRecDepth 100000 in
set_option maxHeartbeats 2000000 in
theorem eFun (w0 : World) (p : Nat) (c : Nat → Value) (v : Value) (bs : List Int) (d : Nat) (m : Mod d) (w : World) (h : WS w0 p c v bs w) (hM : ModAt w0 d (c 0) (c 1) (c 2) (c 3) (c 4) (c 5) (c 6) (c 7) (c 8) (c 9) m) (i : Nat) (x : Fun d) (hx : m.funcs[i]? = some x) (l3 : 0 ≤ x.type ∧ x.type ≤ 4294967295) (hn : bs.length ≤ 39000000000000) : Calls Tryz.prog 43 #[.pointer (some ⟨p, 0, none⟩), .int .i64 (i : Nat)] w (Does w0 p c v w (bs ++ (Leb.uB x.type))) := by
  have hi : i < m.funcs.length := (List.getElem?_eq_some_iff.1 hx).1
  obtain ⟨b1, off1, cap1, hcv, hcx⟩ := Row.some hM.funcs (by omega)
  obtain ⟨cx0, _, _⟩ := hcx i x hx
  have HCV := hideR hcv
  have Hcx0 := hideR cx0
  clear hcv hcx hM hx cx0
  generalize m.funcs.length = n at *
  have HS0 := hideR h
  have HK0 : Hid (Kept p v w v w) := hideR (Kept.refl _ _ _)
  clear h
  obtain ⟨b9, hb9⟩ : ∃ b9, b9 = bs ++ (Leb.uB x.type) := ⟨_, rfl⟩
  rw [← hb9]
  have HB9 := hideR hb9
  clear hb9
  go_enter Tryz.func43, Tryz.ntmps43
  have kc := HS0.out.fld 2 (by omega)
  rw [HCV.out] at kc
  have kcx0 := cell_on HS0.out.below Hcx0.out
  have HC := hideR (wU w0 p c v (bs) x.type w HS0.out l3.1 (by omega) (by first | omega | (simp only [List.length_append]; omega) | (simp only [List.length_append, List.length_cons, List.length_nil]; omega)))
  go_wp2_with fail
  refine HC.out.mono ?_
  rintro e w1 ⟨v1, rfl, hh, kk⟩
  have HS1 := hideR hh
  have HK1 := hideR (HK0.out.trans kk)
  clear hh kk HC HS0 HK0 kc kcx0
  have HE : Hid (WS w0 p c v1 b9 w1) := hideR (by rw [HB9.out]; simpa [List.append_assoc] using HS1.out)
  go_wp2
  go_end0
  exact ⟨_, rfl, HE.out, HK1.out⟩
set_option maxRecDepth 100000 in
set_option maxHeartbeats 2000000 in
theorem eTab (w0 : World) (p : Nat) (c : Nat → Value) (v : Value) (bs : List Int) (d : Nat) (m : Mod d) (w : World) (h : WS w0 p c v bs w) (hM : ModAt w0 d (c 0) (c 1) (c 2) (c 3) (c 4) (c 5) (c 6) (c 7) (c 8) (c 9) m) (i : Nat) (x : Lim) (hx : m.tables[i]? = some x) (l1 : 0 ≤ x.min ∧ x.min ≤ 4294967295) (l2 : 0 ≤ x.max ∧ x.max ≤ 4294967295) (hn : bs.length ≤ 39000000000000) : Calls Tryz.prog 44 #[.pointer (some ⟨p, 0, none⟩), .int .i64 (i : Nat)] w (Does w0 p c v w (bs ++ ([112] ++ limB x))) := by
  have hi : i < m.tables.length := (List.getElem?_eq_some_iff.1 hx).1
  obtain ⟨b1, off1, cap1, hcv, hcx⟩ := Row.some hM.tables (by omega)
  obtain ⟨cx0, cx1, cx2⟩ := hcx i x hx
  have HCV := hideR hcv
  have Hcx0 := hideR cx0
  have Hcx1 := hideR cx1
  have Hcx2 := hideR cx2
  clear hcv hcx hM hx cx0 cx1 cx2
  generalize m.tables.length = n at *
  have HS0 := hideR h
  have HK0 : Hid (Kept p v w v w) := hideR (Kept.refl _ _ _)
  clear h
  obtain ⟨b9, hb9⟩ : ∃ b9, b9 = bs ++ ([112] ++ limB x) := ⟨_, rfl⟩
  rw [← hb9]
  have HB9 := hideR hb9
  clear hb9
  go_enter Tryz.func44, Tryz.ntmps44
  have kc := HS0.out.fld 3 (by omega)
  rw [HCV.out] at kc
  have kcx0 := cell_on HS0.out.below Hcx0.out
  have kcx1 := cell_on HS0.out.below Hcx1.out
  have kcx2 := cell_on HS0.out.below Hcx2.out
  have HC := hideR (wPut w0 p c v (bs) 112 w HS0.out (by first | omega | (simp only [List.length_append]; omega) | (simp only [List.length_append, List.length_cons, List.length_nil]; omega)))
  go_wp2_with fail
  refine HC.out.mono ?_
  rintro e w1 ⟨v1, rfl, hh, kk⟩
  have HS1 := hideR hh
  have HK1 := hideR (HK0.out.trans kk)
  clear hh kk HC HS0 HK0 kc kcx0 kcx1 kcx2
  have kc := HS1.out.fld 3 (by omega)
  rw [HCV.out] at kc
  have kcx0 := cell_on HS1.out.below Hcx0.out
  have kcx1 := cell_on HS1.out.below Hcx1.out
  have kcx2 := cell_on HS1.out.below Hcx2.out
  have HC := hideR (wLim w0 p c v1 (bs ++ [112]) x w1 HS1.out l1 l2 (by first | omega | (simp only [List.length_append]; omega) | (simp only [List.length_append, List.length_cons, List.length_nil]; omega)))
  go_wp2_with fail
  refine HC.out.mono ?_
  rintro e w2 ⟨v2, rfl, hh, kk⟩
  have HS2 := hideR hh
  have HK2 := hideR (HK1.out.trans kk)
  clear hh kk HC HS1 HK1 kc kcx0 kcx1 kcx2
  have HE : Hid (WS w0 p c v2 b9 w2) := hideR (by rw [HB9.out]; simpa [List.append_assoc] using HS2.out)
  go_wp2
  go_end0
  exact ⟨_, rfl, HE.out, HK2.out⟩
set_option maxRecDepth 100000 in
set_option maxHeartbeats 2000000 in
theorem eMem (w0 : World) (p : Nat) (c : Nat → Value) (v : Value) (bs : List Int) (d : Nat) (m : Mod d) (w : World) (h : WS w0 p c v bs w) (hM : ModAt w0 d (c 0) (c 1) (c 2) (c 3) (c 4) (c 5) (c 6) (c 7) (c 8) (c 9) m) (i : Nat) (x : Lim) (hx : m.mems[i]? = some x) (l1 : 0 ≤ x.min ∧ x.min ≤ 4294967295) (l2 : 0 ≤ x.max ∧ x.max ≤ 4294967295) (hn : bs.length ≤ 39000000000000) : Calls Tryz.prog 45 #[.pointer (some ⟨p, 0, none⟩), .int .i64 (i : Nat)] w (Does w0 p c v w (bs ++ (limB x))) := by
  have hi : i < m.mems.length := (List.getElem?_eq_some_iff.1 hx).1
  obtain ⟨b1, off1, cap1, hcv, hcx⟩ := Row.some hM.mems (by omega)
  obtain ⟨cx0, cx1, cx2⟩ := hcx i x hx
  have HCV := hideR hcv
  have Hcx0 := hideR cx0
  have Hcx1 := hideR cx1
  have Hcx2 := hideR cx2
  clear hcv hcx hM hx cx0 cx1 cx2
  generalize m.mems.length = n at *
  have HS0 := hideR h
  have HK0 : Hid (Kept p v w v w) := hideR (Kept.refl _ _ _)
  clear h
  obtain ⟨b9, hb9⟩ : ∃ b9, b9 = bs ++ (limB x) := ⟨_, rfl⟩
  rw [← hb9]
  have HB9 := hideR hb9
  clear hb9
  go_enter Tryz.func45, Tryz.ntmps45
  have kc := HS0.out.fld 4 (by omega)
  rw [HCV.out] at kc
  have kcx0 := cell_on HS0.out.below Hcx0.out
  have kcx1 := cell_on HS0.out.below Hcx1.out
  have kcx2 := cell_on HS0.out.below Hcx2.out
  have HC := hideR (wLim w0 p c v (bs) x w HS0.out l1 l2 (by first | omega | (simp only [List.length_append]; omega) | (simp only [List.length_append, List.length_cons, List.length_nil]; omega)))
  go_wp2_with fail
  refine HC.out.mono ?_
  rintro e w1 ⟨v1, rfl, hh, kk⟩
  have HS1 := hideR hh
  have HK1 := hideR (HK0.out.trans kk)
  clear hh kk HC HS0 HK0 kc kcx0 kcx1 kcx2
  have HE : Hid (WS w0 p c v1 b9 w1) := hideR (by rw [HB9.out]; simpa [List.append_assoc] using HS1.out)
  go_wp2
  go_end0
  exact ⟨_, rfl, HE.out, HK1.out⟩
set_option maxRecDepth 100000 in
set_option maxHeartbeats 2000000 in
theorem eStart (w0 : World) (p : Nat) (c : Nat → Value) (v : Value) (bs : List Int) (d : Nat) (m : Mod d) (w : World) (h : WS w0 p c v bs w) (hM : ModAt w0 d (c 0) (c 1) (c 2) (c 3) (c 4) (c 5) (c 6) (c 7) (c 8) (c 9) m) (i : Nat) (x : Int) (hx : m.start[i]? = some x) (l3 : 0 ≤ x ∧ x ≤ 4294967295) (hn : bs.length ≤ 39000000000000) : Calls Tryz.prog 48 #[.pointer (some ⟨p, 0, none⟩), .int .i64 (i : Nat)] w (Does w0 p c v w (bs ++ (Leb.uB x))) := by
  have hi : i < m.start.length := (List.getElem?_eq_some_iff.1 hx).1
  obtain ⟨b1, off1, cap1, hcv, hcx⟩ := Row.some hM.start (by omega)
  have cx0 := hcx i x hx
  simp only [Nat.mul_one] at cx0
  have HCV := hideR hcv
  have Hcx0 := hideR cx0
  clear hcv hcx hM hx cx0
  generalize m.start.length = n at *
  have HS0 := hideR h
  have HK0 : Hid (Kept p v w v w) := hideR (Kept.refl _ _ _)
  clear h
  obtain ⟨b9, hb9⟩ : ∃ b9, b9 = bs ++ (Leb.uB x) := ⟨_, rfl⟩
  rw [← hb9]
  have HB9 := hideR hb9
  clear hb9
  go_enter Tryz.func48, Tryz.ntmps48
  have kc := HS0.out.fld 7 (by omega)
  rw [HCV.out] at kc
  have kcx0 := cell_on HS0.out.below Hcx0.out
  have HC := hideR (wU w0 p c v (bs) x w HS0.out l3.1 (by omega) (by first | omega | (simp only [List.length_append]; omega) | (simp only [List.length_append, List.length_cons, List.length_nil]; omega)))
  go_wp2_with fail
  refine HC.out.mono ?_
  rintro e w1 ⟨v1, rfl, hh, kk⟩
  have HS1 := hideR hh
  have HK1 := hideR (HK0.out.trans kk)
  clear hh kk HC HS0 HK0 kc kcx0
  have HE : Hid (WS w0 p c v1 b9 w1) := hideR (by rw [HB9.out]; simpa [List.append_assoc] using HS1.out)
  go_wp2
  go_end0
  exact ⟨_, rfl, HE.out, HK1.out⟩
end Go.Proofs.YtloelineidlenaaGreatDoor

namespace Go.Proofs.YtloelineidlenaaGreatDoor
open Go.RowKit Rep Enc Go.Lib
set_option linter.unusedVariables false
namespace Enc
structure InsN (w w0 : World) (d bk o : Nat) (x : Ins (IL d)) : Prop where
  op : w.cell? ⟨bk, o, none⟩ = .some (.int .i64 x.op)
  a : w.cell? ⟨bk, o + 1, none⟩ = .some (.int .i64 x.a)
  b : w.cell? ⟨bk, o + 2, none⟩ = .some (.int .i64 x.b)
  n : w.cell? ⟨bk, o + 3, none⟩ = .some (.int .i64 x.n)
  labels : ∃ v, w.cell? ⟨bk, o + 4, none⟩ = .some v ∧ Ints w0 v x.labels
  body : ∃ v, w.cell? ⟨bk, o + 5, none⟩ = .some v ∧ At w0 d v x.body
  els : ∃ v, w.cell? ⟨bk, o + 6, none⟩ = .some v ∧ At w0 d v x.els
end Enc
set_option maxRecDepth 100000 in
set_option maxHeartbeats 4000000 in
theorem isRow {I : World → Prop} (C : FormC I) (w0 : World) (hI : I w0) (p : Nat) (c : Nat → Value) (d : Nat) (IH : IS w0 p c d) (b1 off1 kL : Nat) (l : List (Ins (IL d))) (v : Value) (bs : List Int) (w : World) (h : WS w0 p c v bs w) (hA : ∀ (i : Nat) (x : Ins (IL d)), l[i]? = some x → InsN w w0 d b1 (off1 + i * 7) x) (hq : b1 < w.heap.size) (hqp : b1 ≠ p) (hqv : some b1 ≠ v.ownBlock) (la : l.length ≤ 9223372036854775807) (hR : ∀ x, x ∈ l → Rg1 (Rg d) x) (hlen : bs.length + (insL (bytesI d) (size d) l).length ≤ 39000000000000) : Calls Tryz.prog 73 #[.pointer (some ⟨p, 0, none⟩), .slice (some ⟨b1, off1, none⟩) l.length kL] w (DoesA w0 p c v w bs (insL (bytesI d) (size d) l)) := by
  have HA := hideR hA
  have HQ := hideR (⟨hq, hqp, hqv⟩ : b1 < w.heap.size ∧ b1 ≠ p ∧ some b1 ≠ v.ownBlock)
  have HR := hideR hR
  have HIH := hideR IH
  have HLEN := hideR hlen
  have HS := hideR h
  have HI := hideR hI
  clear hA hR IH hlen h hI hq hqp hqv
  generalize hna : l.length = n at *
  go_enter Tryz.func73, Tryz.ntmps73
  go_wp2_with fail
  go_loopw [8] (fun i wr => ∃ (j : Nat) (v2 : Value) (b2 : List Int), j ≤ n ∧ i = .int .i64 j ∧ Hid (WS w0 p c v2 b2 wr) ∧ Hid (Kept p v w v2 wr) ∧ Hid (So bs (insL (bytesI d) (size d) (l.take j)) b2)) (fun i _ => n - (RowKit.intOf i).toNat)
  case atStart => exact ⟨0, v, bs, by omega, rfl, HS, hideR (Kept.refl _ _ _), hideR (So.refl bs)⟩
  case round =>
    clear HS
    obtain ⟨j, v2, b2, hj, rfl, HWS, HKW, HSO⟩ := hrel
    by_cases hgo : j < n
    · obtain ⟨x, hxk⟩ : ∃ x, l[j]? = some x := ⟨_, List.getElem?_eq_getElem (by omega)⟩
      have HXK := hideR hxk
      obtain ⟨cx0, cx1, cx2, cx3, ⟨v4, cx4, ax4⟩, ⟨v5, cx5, ax5⟩, ⟨v6, cx6, ax6⟩⟩ := HA.out j x hxk
      clear hxk
      obtain ⟨q4, z4, rfl⟩ := Row.len ax4
      obtain ⟨q5, z5, rfl⟩ := At.len d _ _ ax5
      obtain ⟨q6, z6, rfl⟩ := At.len d _ _ ax6
      have AX4 := hideR ax4
      have AX5 := hideR ax5
      have AX6 := hideR ax6
      clear ax4 ax5 ax6
      have cz0 := (World.cell?_of_block (a := ⟨b1, _, none⟩) (HKW.out.block b1 HQ.out.1 HQ.out.2.1 HQ.out.2.2)).trans cx0
      have cz1 := (World.cell?_of_block (a := ⟨b1, _, none⟩) (HKW.out.block b1 HQ.out.1 HQ.out.2.1 HQ.out.2.2)).trans cx1
      have cz2 := (World.cell?_of_block (a := ⟨b1, _, none⟩) (HKW.out.block b1 HQ.out.1 HQ.out.2.1 HQ.out.2.2)).trans cx2
      have cz3 := (World.cell?_of_block (a := ⟨b1, _, none⟩) (HKW.out.block b1 HQ.out.1 HQ.out.2.1 HQ.out.2.2)).trans cx3
      have cz4 := (World.cell?_of_block (a := ⟨b1, _, none⟩) (HKW.out.block b1 HQ.out.1 HQ.out.2.1 HQ.out.2.2)).trans cx4
      have cz5 := (World.cell?_of_block (a := ⟨b1, _, none⟩) (HKW.out.block b1 HQ.out.1 HQ.out.2.1 HQ.out.2.2)).trans cx5
      have cz6 := (World.cell?_of_block (a := ⟨b1, _, none⟩) (HKW.out.block b1 HQ.out.1 HQ.out.2.1 HQ.out.2.2)).trans cx6
      clear cx0 cx1 cx2 cx3 cx4 cx5 cx6
      generalize hy4 : x.labels.length = y4 at *
      generalize hy5 : size d x.body = y5 at *
      generalize hy6 : size d x.els = y6 at *
      have hb2 : b2.length ≤ 39000000000000 := by have h1 := HSO.out.2; have h2 := insL_part (bytesI d) (size d) l j; have h3 := HLEN.out; omega
      go_upto_region 3 with fail
      obtain ⟨u1, hu1⟩ : ∃ u1, u1 = wr.alloc (.cells #[.int .i64 x.op, .int .i64 x.a, .int .i64 x.b, .int .i64 x.n, .slice q4 y4 z4, .slice q5 y5 z5, .slice q6 y6 z6] 52) := ⟨_, rfl⟩
      have HBK : Hid (Blk u1 wr.heap.size x.op x.a x.b x.n (.slice q4 y4 z4) (.slice q5 y5 z5) (.slice q6 y6 z6)) := hideR (by rw [hu1]; exact Blk.new wr wr.heap.size _ _ _ _ _ _ _ rfl)
      have HU : Hid (Below wr.heap.size wr u1) := hideR (by rw [hu1]; exact new_on' _ _)
      rw [← hu1]
      clear hu1 cz0 cz1 cz2 cz3 cz4 cz5 cz6
      have HS1 := hideR (HWS.out.on HU.out)
      have HK1 := hideR (HKW.out.trans (Kept.below (p := p) (v := v2) HU.out))
      clear HWS HKW HU
      generalize wr.heap.size = p3 at HBK ⊢
      have HC := hideR (wFull w0 p c v2 b2 u1 HS1.out (by omega))
      go_wp2_with fail
      refine HC.out.mono ?_
      rintro e w3 ⟨rfl, rfl⟩
      clear HC
      by_cases hfull : 262144 < b2.length
      · rw [decide_eq_true hfull]
        have HF : Hid (So bs (insL (bytesI d) (size d) l) b2) := hideR ⟨.inr ⟨hfull, by have h1 := HSO.out.2; have h2 := insL_part (bytesI d) (size d) l j; omega, HSO.out.1.le⟩, by have h1 := HSO.out.2; have h2 := insL_part (bytesI d) (size d) l j; omega⟩
        clear hfull
        go_wp2
        go_end0
        exact ⟨_, _, rfl, HS1.out, HK1.out, HF.out.1, HF.out.2⟩
      · rw [decide_eq_false hfull]
        clear hfull
        have k0 := HBK.out.cell 0 _ rfl
        have k1 := HBK.out.cell 1 _ rfl
        have k2 := HBK.out.cell 2 _ rfl
        have k3 := HBK.out.cell 3 _ rfl
        have k4 := HBK.out.cell 4 _ rfl
        have k5 := HBK.out.cell 5 _ rfl
        have k6 := HBK.out.cell 6 _ rfl
        have HC := hideR (wInstr C w0 p c v2 b2 HIH.out x q4 q5 q6 y4 z4 y5 z5 y6 z6 _ HS1.out HI.out hy6 AX4.out AX5.out AX6.out (HR.out x (List.mem_of_getElem? HXK.out)) (by
          have h1 := HSO.out.2
          have h2 := insL_part (bytesI d) (size d) l (j + 1)
          rw [insL_take HXK.out, List.length_append] at h2
          have h3 := HLEN.out
          omega))
        go_wp2_with fail
        refine HC.out.mono ?_
        rintro e w4 ⟨v4, b4, rfl, hh, kk, ha, hl⟩
        have HS4 := hideR hh
        have HK4 := hideR (HK1.out.trans kk)
        have HSO4 : Hid (So bs (insL (bytesI d) (size d) (l.take (j + 1))) b4) := hideR (by rw [insL_take HXK.out]; exact HSO.out.adds ha hl)
        clear hh kk ha hl HC HS1 HK1 HBK k0 k1 k2 k3 k4 k5 k6
        go_wp2
        go_roundw
        case rel => exact ⟨j + 1, v4, b4, by omega, by go_num, HS4, HK4, HSO4⟩
        case measure => simp [RowKit.intOf]; omega
    · obtain rfl : n = j := by omega
      have HF : Hid (So bs (insL (bytesI d) (size d) l) b2) := hideR (by have := HSO.out; rw [List.take_of_length_le (by omega)] at this; exact this)
      go_wp2
      go_end0
      exact ⟨_, _, rfl, HWS.out, HKW.out, HF.out.1, HF.out.2⟩
set_option maxRecDepth 100000 in
set_option maxHeartbeats 2000000 in
theorem wExpr1 {I : World → Prop} (C : FormC I) (w0 : World) (hI : I w0) (p : Nat) (c : Nat → Value) (d : Nat) (b1 kL : Nat) (x : Ins (IL d)) (v : Value) (bs : List Int) (w : World) (h : WS w0 p c v bs w) (hA : InsN w w0 d b1 0 x) (hq : b1 < w.heap.size) (hqp : b1 ≠ p) (hqv : some b1 ≠ v.ownBlock) (hR : Rg1 (Rg d) x) (hlen : bs.length + (insB (bytesI d) (size d) x).length ≤ 39000000000000) :
    Calls Tryz.prog 28 #[.pointer (some ⟨p, 0, none⟩), .slice (some ⟨b1, 0, none⟩) 1 kL] w (DoesA w0 p c v w bs (insB (bytesI d) (size d) x ++ [11])) := by
  have e1 : insL (bytesI d) (size d) [x] = insB (bytesI d) (size d) x := by unfold insL; simp
  have HC := hideR (isRow C w0 hI p c d (isAll C w0 hI p c d) b1 0 kL [x] v bs w h (fun i y hy => by
    match i, hy with
    | 0, hy => have : x = y := by simpa using hy
               subst this; simpa using hA
    | i + 1, hy => simp at hy) hq hqp hqv (by simp) (fun y hy => by rw [List.mem_singleton.1 hy]; exact hR) (by rw [e1]; exact hlen))
  rw [e1] at HC
  simp only [List.length_cons, List.length_nil, Nat.zero_add] at HC
  have HLEN := hideR hlen
  clear h hA hR hlen e1 hq hqp hqv
  go_enter Tryz.func28, Tryz.ntmps28
  go_wp2_with fail
  refine HC.out.mono ?_
  rintro e w1 ⟨v1, b2, rfl, h1, k1, a1, l1⟩
  have HC2 := hideR (wPut w0 p c v1 b2 11 w1 h1 (by have := HLEN.out; omega))
  have HSO := hideR (((So.refl bs).adds a1 l1).app [11])
  have HK1 := hideR k1
  clear h1 k1 a1 l1 HC
  go_wp2_with fail
  refine HC2.out.mono ?_
  rintro e w2 ⟨v2, rfl, h2, k2⟩
  have HS := hideR h2
  have HK2 := hideR (HK1.out.trans k2)
  have HF : Hid (So bs (insB (bytesI d) (size d) x ++ [11]) (b2 ++ [11])) := hideR (by have := HSO.out; simpa using this)
  clear h2 k2 HC2
  go_wp2
  go_end0
  exact ⟨_, _, rfl, HS.out, HK2.out, HF.out.1, HF.out.2⟩
end Go.Proofs.YtloelineidlenaaGreatDoor

namespace Go.Proofs.YtloelineidlenaaGreatDoor
open Go.RowKit Rep Enc Go.Lib
set_option linter.unusedVariables false
namespace Enc
theorem insN_new {w w0 : World} {d : Nat} {x : Ins (IL d)} {v4 v5 v6 : Value} (h4 : Ints w0 v4 x.labels) (h5 : At w0 d v5 x.body) (h6 : At w0 d v6 x.els) : InsN (w.alloc (.cells #[.int .i64 x.op, .int .i64 x.a, .int .i64 x.b, .int .i64 x.n, v4, v5, v6] 52)) w0 d w.heap.size 0 x := by
  have hc : ∀ (i : Nat) (v : Value), #[Value.int .i64 x.op, .int .i64 x.a, .int .i64 x.b, .int .i64 x.n, v4, v5, v6][i]? = some v → (w.alloc (.cells #[.int .i64 x.op, .int .i64 x.a, .int .i64 x.b, .int .i64 x.n, v4, v5, v6] 52)).cell? ⟨w.heap.size, i, none⟩ = some v := fun i v h => by
    rw [World.cell?_alloc_at _ 52 _ _ rfl]; exact h
  exact ⟨hc _ _ rfl, hc _ _ rfl, hc _ _ rfl, hc _ _ rfl, ⟨_, hc _ _ rfl, h4⟩, ⟨_, hc _ _ rfl, h5⟩, ⟨_, hc _ _ rfl, h6⟩⟩
end Enc
set_option maxRecDepth 100000 in
set_option maxHeartbeats 4000000 in
theorem eGlo {I : World → Prop} (C : FormC I) (w0 : World) (hI : I w0) (p : Nat) (c : Nat → Value) (v : Value) (bs : List Int) (d : Nat) (m : Mod d) (w : World) (h : WS w0 p c v bs w) (hM : ModAt w0 d (c 0) (c 1) (c 2) (c 3) (c 4) (c 5) (c 6) (c 7) (c 8) (c 9) m) (i : Nat) (x : Glo d) (hx : m.globals[i]? = some x) (hR : Rg1 (Rg d) x.init)  (hlen : bs.length + ([x.type % 256] ++ [one x.mtb] ++ (insB (bytesI d) (size d) x.init ++ [11])).length ≤ 39000000000000) : Calls Tryz.prog 46 #[.pointer (some ⟨p, 0, none⟩), .int .i64 (i : Nat)] w (DoesA w0 p c v w bs ([x.type % 256] ++ [one x.mtb] ++ (insB (bytesI d) (size d) x.init ++ [11]))) := by
  have hi : i < m.globals.length := (List.getElem?_eq_some_iff.1 hx).1
  obtain ⟨b1, off1, cap1, hcv, hcx⟩ := Row.some hM.globals (by omega)
  have kc := h.fld 5 (by omega)
  rw [hcv] at kc
  obtain ⟨cx0, cx1, ⟨cx2, cx3, cx4, cx5, ⟨v4, cx6, ax4⟩, ⟨v5, cx7, ax5⟩, ⟨v6, cx8, ax6⟩⟩⟩ := hcx i x hx
  obtain ⟨q4, z4, rfl⟩ := Row.len ax4
  obtain ⟨q5, z5, rfl⟩ := At.len d _ _ ax5
  obtain ⟨q6, z6, rfl⟩ := At.len d _ _ ax6
  have AX4 := hideR ax4
  have AX5 := hideR ax5
  have AX6 := hideR ax6
  clear ax4 ax5 ax6
  have cz0 := cell_on h.below cx0
  have cz1 := cell_on h.below cx1
  have cz2 := cell_on h.below cx2
  have cz3 := cell_on h.below cx3
  have cz4 := cell_on h.below cx4
  have cz5 := cell_on h.below cx5
  have cz6 := cell_on h.below cx6
  have cz7 := cell_on h.below cx7
  have cz8 := cell_on h.below cx8
  clear hcv hcx hM hx cx0 cx1 cx2 cx3 cx4 cx5 cx6 cx7 cx8
  generalize m.globals.length = n at *
  generalize hy4 : x.init.labels.length = y4 at *
  generalize hy5 : size d x.init.body = y5 at *
  generalize hy6 : size d x.init.els = y6 at *
  have HR := hideR hR
  clear hR
  have hpw : p < w.heap.size := h.lt
  have hown : ∀ k, v.ownBlock = some k → k < w.heap.size := fun k hk => (h.own.lt k hk).2
  have HBK0 := hideR (Bx.new (w := w) (b := w.heap.size) (t := 63) (cs := #[.int .i64 x.type, .bool x.mtb, .int .i64 x.init.op, .int .i64 x.init.a, .int .i64 x.init.b, .int .i64 x.init.n, .slice q4 y4 z4, .slice q5 y5 z5, .slice q6 y6 z6]) rfl)
  obtain ⟨u1, hu1⟩ : ∃ u1, u1 = w.alloc (.cells #[.int .i64 x.type, .bool x.mtb, .int .i64 x.init.op, .int .i64 x.init.a, .int .i64 x.init.b, .int .i64 x.init.n, .slice q4 y4 z4, .slice q5 y5 z5, .slice q6 y6 z6] 63) := ⟨_, rfl⟩
  have HU := hideR (new_on' w (.cells #[.int .i64 x.type, .bool x.mtb, .int .i64 x.init.op, .int .i64 x.init.a, .int .i64 x.init.b, .int .i64 x.init.n, .slice q4 y4 z4, .slice q5 y5 z5, .slice q6 y6 z6] 63))
  rw [← hu1] at HBK0 HU
  have HS0 := hideR (h.on HU.out)
  have HO0 : Hid (some w.heap.size ≠ v.ownBlock) := hideR (fun e => by have := hown _ e.symm; omega)
  have HNP : Hid (w.heap.size ≠ p) := hideR (by omega)
  have HK0 : Hid (Kept p v w v u1) := hideR (Kept.below HU.out)
  have HSO0 : Hid (So bs [] bs) := hideR (So.refl bs)
  have HU1 := hideR hu1
  clear h hpw hown HU hu1
  go_enter Tryz.func46, Tryz.ntmps46
  go_upto_region 1 with fail
  rw [← HU1.out]
  clear HU1 kc cz0 cz1 cz2 cz3 cz4 cz5 cz6 cz7 cz8
  generalize hp3 : w.heap.size = p3 at HBK0 HO0 HNP ⊢
  have k0 := HBK0.out.cell 0 _ rfl
  have k1 := HBK0.out.cell 1 _ rfl
  have k2 := HBK0.out.cell 2 _ rfl
  have k3 := HBK0.out.cell 3 _ rfl
  have k4 := HBK0.out.cell 4 _ rfl
  have k5 := HBK0.out.cell 5 _ rfl
  have k6 := HBK0.out.cell 6 _ rfl
  have k7 := HBK0.out.cell 7 _ rfl
  have k8 := HBK0.out.cell 8 _ rfl
  have HC := hideR (wPut w0 p c v bs x.type u1 HS0.out (by have := HSO0.out.2; simp only [List.length_append, List.length_cons, List.length_nil] at this hlen ⊢; omega))
  go_wp2_with fail
  refine HC.out.mono ?_
  rintro e w1 ⟨v1, rfl, hh, kk⟩
  have HSO1 := hideR (HSO0.out.app [x.type % 256])
  obtain ⟨b1, hb1⟩ : ∃ b, b = bs ++ [x.type % 256] := ⟨_, rfl⟩
  try simp only [show (0 : Int) % 256 = 0 from rfl] at hh
  rw [← hb1] at hh HSO1
  clear hb1
  obtain ⟨bb, bo⟩ := kk.bx HBK0.out HNP.out HO0.out
  have HS1 := hideR hh
  have HBK1 := hideR bb
  have HO1 := hideR bo
  have HK1 := hideR (HK0.out.trans kk)
  clear hh kk bb bo HC HS0 HBK0 HK0 HO0 k0 k1 k2 k3 k4 k5 k6 k7 k8
  have k0 := HBK1.out.cell 0 _ rfl
  have k1 := HBK1.out.cell 1 _ rfl
  have k2 := HBK1.out.cell 2 _ rfl
  have k3 := HBK1.out.cell 3 _ rfl
  have k4 := HBK1.out.cell 4 _ rfl
  have k5 := HBK1.out.cell 5 _ rfl
  have k6 := HBK1.out.cell 6 _ rfl
  have k7 := HBK1.out.cell 7 _ rfl
  have k8 := HBK1.out.cell 8 _ rfl
  have HC := hideR (wFlag w0 p c v1 b1 x.mtb w1 HS1.out (by have := HSO1.out.2; simp only [List.length_append, List.length_cons, List.length_nil] at this hlen ⊢; omega))
  go_wp2_with fail
  refine HC.out.mono ?_
  rintro e w2 ⟨v2, rfl, hh, kk⟩
  have HSO2 := hideR (HSO1.out.app [one x.mtb])
  obtain ⟨b2, hb2⟩ : ∃ b, b = b1 ++ [one x.mtb] := ⟨_, rfl⟩
  try simp only [show (0 : Int) % 256 = 0 from rfl] at hh
  rw [← hb2] at hh HSO2
  clear hb2
  obtain ⟨bb, bo⟩ := kk.bx HBK1.out HNP.out HO1.out
  have HS2 := hideR hh
  have HBK2 := hideR bb
  have HO2 := hideR bo
  have HK2 := hideR (HK1.out.trans kk)
  clear hh kk bb bo HC HS1 HBK1 HK1 HO1 k0 k1 k2 k3 k4 k5 k6 k7 k8
  have k0 := HBK2.out.cell 0 _ rfl
  have k1 := HBK2.out.cell 1 _ rfl
  have k2 := HBK2.out.cell 2 _ rfl
  have k3 := HBK2.out.cell 3 _ rfl
  have k4 := HBK2.out.cell 4 _ rfl
  have k5 := HBK2.out.cell 5 _ rfl
  have k6 := HBK2.out.cell 6 _ rfl
  have k7 := HBK2.out.cell 7 _ rfl
  have k8 := HBK2.out.cell 8 _ rfl
  have hown2 : ∀ k, v2.ownBlock = some k → k < w2.heap.size := fun k hk => (HS2.out.own.lt k hk).2
  have hpl2 := HS2.out.lt
  have HC := hideR (wExpr1 C w0 hI p c d w2.heap.size 1 x.init v2 b2 (w2.alloc (.cells #[.int .i64 x.init.op, .int .i64 x.init.a, .int .i64 x.init.b, .int .i64 x.init.n, .slice q4 y4 z4, .slice q5 y5 z5, .slice q6 y6 z6] 52)) (HS2.out.on (new_on' _ _)) (insN_new AX4.out AX5.out AX6.out) (by simp) (by omega) (fun e => by have := hown2 _ e.symm; omega) HR.out (by have := HSO2.out.2; simp only [List.length_append, List.length_cons, List.length_nil] at this hlen ⊢; omega))
  clear hown2 hpl2
  go_wp2_with fail
  refine HC.out.mono ?_
  rintro e w3 ⟨v3, b3, rfl, hh, kq, ha, hl⟩
  have HSO3 := hideR (HSO2.out.adds ha hl)
  have kk := (Kept.below (p := p) (v := v2) (new_on' w2 (.cells #[.int .i64 x.init.op, .int .i64 x.init.a, .int .i64 x.init.b, .int .i64 x.init.n, .slice q4 y4 z4, .slice q5 y5 z5, .slice q6 y6 z6] 52))).trans kq
  clear ha hl kq
  obtain ⟨bb, bo⟩ := kk.bx HBK2.out HNP.out HO2.out
  have HS3 := hideR hh
  have HBK3 := hideR bb
  have HO3 := hideR bo
  have HK3 := hideR (HK2.out.trans kk)
  clear hh kk bb bo HC HS2 HBK2 HK2 HO2 k0 k1 k2 k3 k4 k5 k6 k7 k8
  have HF : Hid (So bs ([x.type % 256] ++ [one x.mtb] ++ (insB (bytesI d) (size d) x.init ++ [11])) b3) := hideR (by have := HSO3.out; simpa [List.append_assoc] using this)
  go_wp2
  go_end0
  exact ⟨_, _, rfl, HS3.out, HK3.out, HF.out.1, HF.out.2⟩
set_option maxRecDepth 100000 in
set_option maxHeartbeats 4000000 in
theorem eElm {I : World → Prop} (C : FormC I) (w0 : World) (hI : I w0) (p : Nat) (c : Nat → Value) (v : Value) (bs : List Int) (d : Nat) (m : Mod d) (w : World) (h : WS w0 p c v bs w) (hM : ModAt w0 d (c 0) (c 1) (c 2) (c 3) (c 4) (c 5) (c 6) (c 7) (c 8) (c 9) m) (i : Nat) (x : Elm d) (hx : m.elems[i]? = some x) (hR : Rg1 (Rg d) x.offset) (l1 : ∀ y ∈ x.funcs, 0 ≤ y ∧ y ≤ 4294967295) (l2 : x.funcs.length ≤ 1000000) (hlen : bs.length + ([0] ++ (insB (bytesI d) (size d) x.offset ++ [11]) ++ (idxB x.funcs)).length ≤ 39000000000000) : Calls Tryz.prog 49 #[.pointer (some ⟨p, 0, none⟩), .int .i64 (i : Nat)] w (DoesA w0 p c v w bs ([0] ++ (insB (bytesI d) (size d) x.offset ++ [11]) ++ (idxB x.funcs))) := by
  have hi : i < m.elems.length := (List.getElem?_eq_some_iff.1 hx).1
  obtain ⟨b1, off1, cap1, hcv, hcx⟩ := Row.some hM.elems (by omega)
  have kc := h.fld 8 (by omega)
  rw [hcv] at kc
  obtain ⟨⟨cx0, cx1, cx2, cx3, ⟨v4, cx4, ax4⟩, ⟨v5, cx5, ax5⟩, ⟨v6, cx6, ax6⟩⟩, ⟨v7, cx7, ax7⟩⟩ := hcx i x hx
  obtain ⟨q4, z4, rfl⟩ := Row.len ax4
  obtain ⟨q5, z5, rfl⟩ := At.len d _ _ ax5
  obtain ⟨q6, z6, rfl⟩ := At.len d _ _ ax6
  have AX4 := hideR ax4
  have AX5 := hideR ax5
  have AX6 := hideR ax6
  clear ax4 ax5 ax6
  obtain ⟨q7, z7, rfl⟩ := Row.len ax7
  have AX7 := hideR ax7
  clear ax7
  generalize hy7 : x.funcs.length = y7 at *
  have cz0 := cell_on h.below cx0
  have cz1 := cell_on h.below cx1
  have cz2 := cell_on h.below cx2
  have cz3 := cell_on h.below cx3
  have cz4 := cell_on h.below cx4
  have cz5 := cell_on h.below cx5
  have cz6 := cell_on h.below cx6
  have cz7 := cell_on h.below cx7
  clear hcv hcx hM hx cx0 cx1 cx2 cx3 cx4 cx5 cx6 cx7
  generalize m.elems.length = n at *
  generalize hy4 : x.offset.labels.length = y4 at *
  generalize hy5 : size d x.offset.body = y5 at *
  generalize hy6 : size d x.offset.els = y6 at *
  have HR := hideR hR
  clear hR
  have hpw : p < w.heap.size := h.lt
  have hown : ∀ k, v.ownBlock = some k → k < w.heap.size := fun k hk => (h.own.lt k hk).2
  have HBK0 := hideR (Bx.new (w := w) (b := w.heap.size) (t := 61) (cs := #[.int .i64 x.offset.op, .int .i64 x.offset.a, .int .i64 x.offset.b, .int .i64 x.offset.n, .slice q4 y4 z4, .slice q5 y5 z5, .slice q6 y6 z6, .slice q7 y7 z7]) rfl)
  obtain ⟨u1, hu1⟩ : ∃ u1, u1 = w.alloc (.cells #[.int .i64 x.offset.op, .int .i64 x.offset.a, .int .i64 x.offset.b, .int .i64 x.offset.n, .slice q4 y4 z4, .slice q5 y5 z5, .slice q6 y6 z6, .slice q7 y7 z7] 61) := ⟨_, rfl⟩
  have HU := hideR (new_on' w (.cells #[.int .i64 x.offset.op, .int .i64 x.offset.a, .int .i64 x.offset.b, .int .i64 x.offset.n, .slice q4 y4 z4, .slice q5 y5 z5, .slice q6 y6 z6, .slice q7 y7 z7] 61))
  rw [← hu1] at HBK0 HU
  have HS0 := hideR (h.on HU.out)
  have HO0 : Hid (some w.heap.size ≠ v.ownBlock) := hideR (fun e => by have := hown _ e.symm; omega)
  have HNP : Hid (w.heap.size ≠ p) := hideR (by omega)
  have HK0 : Hid (Kept p v w v u1) := hideR (Kept.below HU.out)
  have HSO0 : Hid (So bs [] bs) := hideR (So.refl bs)
  have HU1 := hideR hu1
  clear h hpw hown HU hu1
  go_enter Tryz.func49, Tryz.ntmps49
  go_upto_region 1 with fail
  rw [← HU1.out]
  clear HU1 kc cz0 cz1 cz2 cz3 cz4 cz5 cz6 cz7
  generalize hp3 : w.heap.size = p3 at HBK0 HO0 HNP ⊢
  have k0 := HBK0.out.cell 0 _ rfl
  have k1 := HBK0.out.cell 1 _ rfl
  have k2 := HBK0.out.cell 2 _ rfl
  have k3 := HBK0.out.cell 3 _ rfl
  have k4 := HBK0.out.cell 4 _ rfl
  have k5 := HBK0.out.cell 5 _ rfl
  have k6 := HBK0.out.cell 6 _ rfl
  have k7 := HBK0.out.cell 7 _ rfl
  have HC := hideR (wPut w0 p c v bs 0 u1 HS0.out (by have := HSO0.out.2; simp only [List.length_append, List.length_cons, List.length_nil] at this hlen ⊢; omega))
  go_wp2_with fail
  refine HC.out.mono ?_
  rintro e w1 ⟨v1, rfl, hh, kk⟩
  have HSO1 := hideR (HSO0.out.app [0])
  obtain ⟨b1, hb1⟩ : ∃ b, b = bs ++ [0] := ⟨_, rfl⟩
  try simp only [show (0 : Int) % 256 = 0 from rfl] at hh
  rw [← hb1] at hh HSO1
  clear hb1
  obtain ⟨bb, bo⟩ := kk.bx HBK0.out HNP.out HO0.out
  have HS1 := hideR hh
  have HBK1 := hideR bb
  have HO1 := hideR bo
  have HK1 := hideR (HK0.out.trans kk)
  clear hh kk bb bo HC HS0 HBK0 HK0 HO0 k0 k1 k2 k3 k4 k5 k6 k7
  have k0 := HBK1.out.cell 0 _ rfl
  have k1 := HBK1.out.cell 1 _ rfl
  have k2 := HBK1.out.cell 2 _ rfl
  have k3 := HBK1.out.cell 3 _ rfl
  have k4 := HBK1.out.cell 4 _ rfl
  have k5 := HBK1.out.cell 5 _ rfl
  have k6 := HBK1.out.cell 6 _ rfl
  have k7 := HBK1.out.cell 7 _ rfl
  have hown1 : ∀ k, v1.ownBlock = some k → k < w1.heap.size := fun k hk => (HS1.out.own.lt k hk).2
  have hpl1 := HS1.out.lt
  have HC := hideR (wExpr1 C w0 hI p c d w1.heap.size 1 x.offset v1 b1 (w1.alloc (.cells #[.int .i64 x.offset.op, .int .i64 x.offset.a, .int .i64 x.offset.b, .int .i64 x.offset.n, .slice q4 y4 z4, .slice q5 y5 z5, .slice q6 y6 z6] 52)) (HS1.out.on (new_on' _ _)) (insN_new AX4.out AX5.out AX6.out) (by simp) (by omega) (fun e => by have := hown1 _ e.symm; omega) HR.out (by have := HSO1.out.2; simp only [List.length_append, List.length_cons, List.length_nil] at this hlen ⊢; omega))
  clear hown1 hpl1
  go_wp2_with fail
  refine HC.out.mono ?_
  rintro e w2 ⟨v2, b2, rfl, hh, kq, ha, hl⟩
  have HSO2 := hideR (HSO1.out.adds ha hl)
  have kk := (Kept.below (p := p) (v := v1) (new_on' w1 (.cells #[.int .i64 x.offset.op, .int .i64 x.offset.a, .int .i64 x.offset.b, .int .i64 x.offset.n, .slice q4 y4 z4, .slice q5 y5 z5, .slice q6 y6 z6] 52))).trans kq
  clear ha hl kq
  obtain ⟨bb, bo⟩ := kk.bx HBK1.out HNP.out HO1.out
  have HS2 := hideR hh
  have HBK2 := hideR bb
  have HO2 := hideR bo
  have HK2 := hideR (HK1.out.trans kk)
  clear hh kk bb bo HC HS1 HBK1 HK1 HO1 k0 k1 k2 k3 k4 k5 k6 k7
  have k0 := HBK2.out.cell 0 _ rfl
  have k1 := HBK2.out.cell 1 _ rfl
  have k2 := HBK2.out.cell 2 _ rfl
  have k3 := HBK2.out.cell 3 _ rfl
  have k4 := HBK2.out.cell 4 _ rfl
  have k5 := HBK2.out.cell 5 _ rfl
  have k6 := HBK2.out.cell 6 _ rfl
  have k7 := HBK2.out.cell 7 _ rfl
  have HC := hideR (wIdx w0 p c v2 b2 _ x.funcs w2 HS2.out AX7.out l1 (by omega) (by have := HSO2.out.2; simp only [List.length_append, List.length_cons, List.length_nil] at this hlen ⊢; omega))
  go_wp2_with fail
  refine HC.out.mono ?_
  rintro e w3 ⟨v3, rfl, hh, kk⟩
  have HSO3 := hideR (HSO2.out.app (idxB x.funcs))
  obtain ⟨b3, hb3⟩ : ∃ b, b = b2 ++ (idxB x.funcs) := ⟨_, rfl⟩
  try simp only [show (0 : Int) % 256 = 0 from rfl] at hh
  rw [← hb3] at hh HSO3
  clear hb3
  obtain ⟨bb, bo⟩ := kk.bx HBK2.out HNP.out HO2.out
  have HS3 := hideR hh
  have HBK3 := hideR bb
  have HO3 := hideR bo
  have HK3 := hideR (HK2.out.trans kk)
  clear hh kk bb bo HC HS2 HBK2 HK2 HO2 k0 k1 k2 k3 k4 k5 k6 k7
  have HF : Hid (So bs ([0] ++ (insB (bytesI d) (size d) x.offset ++ [11]) ++ (idxB x.funcs)) b3) := hideR (by have := HSO3.out; simpa [List.append_assoc] using this)
  go_wp2
  go_end0
  exact ⟨_, _, rfl, HS3.out, HK3.out, HF.out.1, HF.out.2⟩
set_option maxRecDepth 100000 in
set_option maxHeartbeats 4000000 in
theorem eDat {I : World → Prop} (C : FormC I) (w0 : World) (hI : I w0) (p : Nat) (c : Nat → Value) (v : Value) (bs : List Int) (d : Nat) (m : Mod d) (w : World) (h : WS w0 p c v bs w) (hM : ModAt w0 d (c 0) (c 1) (c 2) (c 3) (c 4) (c 5) (c 6) (c 7) (c 8) (c 9) m) (i : Nat) (x : Dat d) (hx : m.datas[i]? = some x) (hR : Rg1 (Rg d) x.offset) (l2 : x.bytes.size ≤ 1000000) (hlen : bs.length + ([0] ++ (insB (bytesI d) (size d) x.offset ++ [11]) ++ (Leb.uB (x.bytes.size : Int) ++ nums x.bytes)).length ≤ 39000000000000) : Calls Tryz.prog 51 #[.pointer (some ⟨p, 0, none⟩), .int .i64 (i : Nat)] w (DoesA w0 p c v w bs ([0] ++ (insB (bytesI d) (size d) x.offset ++ [11]) ++ (Leb.uB (x.bytes.size : Int) ++ nums x.bytes))) := by
  have hi : i < m.datas.length := (List.getElem?_eq_some_iff.1 hx).1
  obtain ⟨b1, off1, cap1, hcv, hcx⟩ := Row.some hM.datas (by omega)
  have kc := h.fld 9 (by omega)
  rw [hcv] at kc
  obtain ⟨⟨cx0, cx1, cx2, cx3, ⟨v4, cx4, ax4⟩, ⟨v5, cx5, ax5⟩, ⟨v6, cx6, ax6⟩⟩, cx7⟩ := hcx i x hx
  obtain ⟨q4, z4, rfl⟩ := Row.len ax4
  obtain ⟨q5, z5, rfl⟩ := At.len d _ _ ax5
  obtain ⟨q6, z6, rfl⟩ := At.len d _ _ ax6
  have AX4 := hideR ax4
  have AX5 := hideR ax5
  have AX6 := hideR ax6
  clear ax4 ax5 ax6
  have cz0 := cell_on h.below cx0
  have cz1 := cell_on h.below cx1
  have cz2 := cell_on h.below cx2
  have cz3 := cell_on h.below cx3
  have cz4 := cell_on h.below cx4
  have cz5 := cell_on h.below cx5
  have cz6 := cell_on h.below cx6
  have cz7 := cell_on h.below cx7
  clear hcv hcx hM hx cx0 cx1 cx2 cx3 cx4 cx5 cx6 cx7
  generalize m.datas.length = n at *
  generalize hy4 : x.offset.labels.length = y4 at *
  generalize hy5 : size d x.offset.body = y5 at *
  generalize hy6 : size d x.offset.els = y6 at *
  have HR := hideR hR
  clear hR
  have hpw : p < w.heap.size := h.lt
  have hown : ∀ k, v.ownBlock = some k → k < w.heap.size := fun k hk => (h.own.lt k hk).2
  have HBK0 := hideR (Bx.new (w := w) (b := w.heap.size) (t := 55) (cs := #[.int .i64 x.offset.op, .int .i64 x.offset.a, .int .i64 x.offset.b, .int .i64 x.offset.n, .slice q4 y4 z4, .slice q5 y5 z5, .slice q6 y6 z6, .string x.bytes]) rfl)
  obtain ⟨u1, hu1⟩ : ∃ u1, u1 = w.alloc (.cells #[.int .i64 x.offset.op, .int .i64 x.offset.a, .int .i64 x.offset.b, .int .i64 x.offset.n, .slice q4 y4 z4, .slice q5 y5 z5, .slice q6 y6 z6, .string x.bytes] 55) := ⟨_, rfl⟩
  have HU := hideR (new_on' w (.cells #[.int .i64 x.offset.op, .int .i64 x.offset.a, .int .i64 x.offset.b, .int .i64 x.offset.n, .slice q4 y4 z4, .slice q5 y5 z5, .slice q6 y6 z6, .string x.bytes] 55))
  rw [← hu1] at HBK0 HU
  have HS0 := hideR (h.on HU.out)
  have HO0 : Hid (some w.heap.size ≠ v.ownBlock) := hideR (fun e => by have := hown _ e.symm; omega)
  have HNP : Hid (w.heap.size ≠ p) := hideR (by omega)
  have HK0 : Hid (Kept p v w v u1) := hideR (Kept.below HU.out)
  have HSO0 : Hid (So bs [] bs) := hideR (So.refl bs)
  have HU1 := hideR hu1
  clear h hpw hown HU hu1
  go_enter Tryz.func51, Tryz.ntmps51
  go_upto_region 1 with fail
  rw [← HU1.out]
  clear HU1 kc cz0 cz1 cz2 cz3 cz4 cz5 cz6 cz7
  generalize hp3 : w.heap.size = p3 at HBK0 HO0 HNP ⊢
  have k0 := HBK0.out.cell 0 _ rfl
  have k1 := HBK0.out.cell 1 _ rfl
  have k2 := HBK0.out.cell 2 _ rfl
  have k3 := HBK0.out.cell 3 _ rfl
  have k4 := HBK0.out.cell 4 _ rfl
  have k5 := HBK0.out.cell 5 _ rfl
  have k6 := HBK0.out.cell 6 _ rfl
  have k7 := HBK0.out.cell 7 _ rfl
  have HC := hideR (wPut w0 p c v bs 0 u1 HS0.out (by have := HSO0.out.2; simp only [List.length_append, List.length_cons, List.length_nil] at this hlen ⊢; omega))
  go_wp2_with fail
  refine HC.out.mono ?_
  rintro e w1 ⟨v1, rfl, hh, kk⟩
  have HSO1 := hideR (HSO0.out.app [0])
  obtain ⟨b1, hb1⟩ : ∃ b, b = bs ++ [0] := ⟨_, rfl⟩
  try simp only [show (0 : Int) % 256 = 0 from rfl] at hh
  rw [← hb1] at hh HSO1
  clear hb1
  obtain ⟨bb, bo⟩ := kk.bx HBK0.out HNP.out HO0.out
  have HS1 := hideR hh
  have HBK1 := hideR bb
  have HO1 := hideR bo
  have HK1 := hideR (HK0.out.trans kk)
  clear hh kk bb bo HC HS0 HBK0 HK0 HO0 k0 k1 k2 k3 k4 k5 k6 k7
  have k0 := HBK1.out.cell 0 _ rfl
  have k1 := HBK1.out.cell 1 _ rfl
  have k2 := HBK1.out.cell 2 _ rfl
  have k3 := HBK1.out.cell 3 _ rfl
  have k4 := HBK1.out.cell 4 _ rfl
  have k5 := HBK1.out.cell 5 _ rfl
  have k6 := HBK1.out.cell 6 _ rfl
  have k7 := HBK1.out.cell 7 _ rfl
  have hown1 : ∀ k, v1.ownBlock = some k → k < w1.heap.size := fun k hk => (HS1.out.own.lt k hk).2
  have hpl1 := HS1.out.lt
  have HC := hideR (wExpr1 C w0 hI p c d w1.heap.size 1 x.offset v1 b1 (w1.alloc (.cells #[.int .i64 x.offset.op, .int .i64 x.offset.a, .int .i64 x.offset.b, .int .i64 x.offset.n, .slice q4 y4 z4, .slice q5 y5 z5, .slice q6 y6 z6] 52)) (HS1.out.on (new_on' _ _)) (insN_new AX4.out AX5.out AX6.out) (by simp) (by omega) (fun e => by have := hown1 _ e.symm; omega) HR.out (by have := HSO1.out.2; simp only [List.length_append, List.length_cons, List.length_nil] at this hlen ⊢; omega))
  clear hown1 hpl1
  go_wp2_with fail
  refine HC.out.mono ?_
  rintro e w2 ⟨v2, b2, rfl, hh, kq, ha, hl⟩
  have HSO2 := hideR (HSO1.out.adds ha hl)
  have kk := (Kept.below (p := p) (v := v1) (new_on' w1 (.cells #[.int .i64 x.offset.op, .int .i64 x.offset.a, .int .i64 x.offset.b, .int .i64 x.offset.n, .slice q4 y4 z4, .slice q5 y5 z5, .slice q6 y6 z6] 52))).trans kq
  clear ha hl kq
  obtain ⟨bb, bo⟩ := kk.bx HBK1.out HNP.out HO1.out
  have HS2 := hideR hh
  have HBK2 := hideR bb
  have HO2 := hideR bo
  have HK2 := hideR (HK1.out.trans kk)
  clear hh kk bb bo HC HS1 HBK1 HK1 HO1 k0 k1 k2 k3 k4 k5 k6 k7
  have k0 := HBK2.out.cell 0 _ rfl
  have k1 := HBK2.out.cell 1 _ rfl
  have k2 := HBK2.out.cell 2 _ rfl
  have k3 := HBK2.out.cell 3 _ rfl
  have k4 := HBK2.out.cell 4 _ rfl
  have k5 := HBK2.out.cell 5 _ rfl
  have k6 := HBK2.out.cell 6 _ rfl
  have k7 := HBK2.out.cell 7 _ rfl
  have HC := hideR (wText w0 p c v2 b2 x.bytes w2 HS2.out (by have := HSO2.out.2; simp only [List.length_append, List.length_cons, List.length_nil] at this hlen ⊢; omega) (by omega))
  go_wp2_with fail
  refine HC.out.mono ?_
  rintro e w3 ⟨v3, rfl, hh, kk⟩
  have HSO3 := hideR (HSO2.out.app (Leb.uB (x.bytes.size : Int) ++ nums x.bytes))
  rw [List.append_assoc] at hh
  obtain ⟨b3, hb3⟩ : ∃ b, b = b2 ++ (Leb.uB (x.bytes.size : Int) ++ nums x.bytes) := ⟨_, rfl⟩
  try simp only [show (0 : Int) % 256 = 0 from rfl] at hh
  rw [← hb3] at hh HSO3
  clear hb3
  obtain ⟨bb, bo⟩ := kk.bx HBK2.out HNP.out HO2.out
  have HS3 := hideR hh
  have HBK3 := hideR bb
  have HO3 := hideR bo
  have HK3 := hideR (HK2.out.trans kk)
  clear hh kk bb bo HC HS2 HBK2 HK2 HO2 k0 k1 k2 k3 k4 k5 k6 k7
  have HF : Hid (So bs ([0] ++ (insB (bytesI d) (size d) x.offset ++ [11]) ++ (Leb.uB (x.bytes.size : Int) ++ nums x.bytes)) b3) := hideR (by have := HSO3.out; simpa [List.append_assoc] using this)
  go_wp2
  go_end0
  exact ⟨_, _, rfl, HS3.out, HK3.out, HF.out.1, HF.out.2⟩
end Go.Proofs.YtloelineidlenaaGreatDoor

namespace Go.Proofs.YtloelineidlenaaGreatDoor
open Go.RowKit Rep Enc Go.Lib
set_option linter.unusedVariables false
namespace Enc
theorem uB_mono : ∀ (f : Nat) (a b : Int), a.toNat ≤ f → 0 ≤ a → a ≤ b → (Leb.uB a).length ≤ (Leb.uB b).length
  | 0, a, b, hf, h0, hab => by
    rw [Leb.uB_small h0 (by omega)]
    exact Leb.uB_pos b
  | f + 1, a, b, hf, h0, hab => by
    by_cases ha : a < 128
    · rw [Leb.uB_small h0 ha]; exact Leb.uB_pos b
    · rw [Leb.uB_great (by omega), Leb.uB_great (n := b) (by omega)]
      have := uB_mono f (a / 128) (b / 128) (by omega) (by omega) (by omega)
      simp only [List.length_cons]; omega
def rnStep (acc : List (Int × Int)) (t : Int) : List (Int × Int) :=
  match acc.getLast? with
  | some (c, t') => if t' = t then acc.dropLast ++ [(c + 1, t)] else acc ++ [(1, t)]
  | none => [(1, t)]
def rn (l : List Int) : List (Int × Int) := l.foldl rnStep []
theorem rn_snoc (l : List Int) (t : Int) : rn (l ++ [t]) = rnStep (rn l) t := by unfold rn; rw [List.foldl_append]; rfl
theorem rn_take {l : List Int} {j : Nat} {t : Int} (h : l[j]? = some t) : rn (l.take (j + 1)) = rnStep (rn (l.take j)) t := by
  rw [List.take_add_one, h]; exact rn_snoc _ _
theorem rnStep_last (acc : List (Int × Int)) (t : Int) : ∃ pre c, rnStep acc t = pre ++ [(c, t)] := by
  unfold rnStep
  split
  · split
    · exact ⟨_, _, rfl⟩
    · exact ⟨_, _, rfl⟩
  · exact ⟨[], 1, rfl⟩
theorem rn_last {l : List Int} {j : Nat} {t : Int} (h : l[j]? = some t) : ∃ pre c, rn (l.take (j + 1)) = pre ++ [(c, t)] := by
  rw [rn_take h]; exact rnStep_last _ _
theorem rnStep_same {pre : List (Int × Int)} {c t : Int} : rnStep (pre ++ [(c, t)]) t = pre ++ [(c + 1, t)] := by
  unfold rnStep; simp
theorem rnStep_other {pre : List (Int × Int)} {c t s : Int} (h : s ≠ t) : rnStep (pre ++ [(c, s)]) t = (pre ++ [(c, s)]) ++ [(1, t)] := by
  unfold rnStep; simp [h]
theorem rnStep_nil (t : Int) : rnStep [] t = [(1, t)] := rfl
theorem rn_bound (l : List Int) : (rn l).length ≤ l.length ∧ ∀ x ∈ rn l, 1 ≤ x.1 ∧ x.1 ≤ l.length ∧ x.2 ∈ l := by
  have key : ∀ j, j ≤ l.length → (rn (l.take j)).length ≤ j ∧ ∀ x ∈ rn (l.take j), 1 ≤ x.1 ∧ x.1 ≤ j ∧ x.2 ∈ l := by
    intro j
    induction j with
    | zero => intro _; simp [rn]
    | succ j ih =>
      intro hj
      obtain ⟨h1, h2⟩ := ih (by omega)
      obtain ⟨t, ht⟩ : ∃ t, l[j]? = some t := ⟨_, List.getElem?_eq_getElem (by omega)⟩
      have hm := List.mem_of_getElem? ht
      rw [rn_take ht]
      unfold rnStep
      split
      · rename_i c t' hl
        have hmem : (c, t') ∈ rn (l.take j) := List.mem_of_getLast? hl
        obtain ⟨g1, g2, g3⟩ := h2 _ hmem
        split
        · refine ⟨by rw [List.length_append, List.length_dropLast]; simp; omega, fun x hx => ?_⟩
          rcases List.mem_append.1 hx with hx | hx
          · have := h2 x (List.dropLast_subset _ hx); exact ⟨this.1, by have := this.2.1; omega, this.2.2⟩
          · rw [List.mem_singleton.1 hx]; exact ⟨by show 1 ≤ c + 1; simp at g1; omega, by show c + 1 ≤ _; simp at g2; omega, hm⟩
        · refine ⟨by simp; omega, fun x hx => ?_⟩
          rcases List.mem_append.1 hx with hx | hx
          · have := h2 x hx; exact ⟨this.1, by have := this.2.1; omega, this.2.2⟩
          · rw [List.mem_singleton.1 hx]; exact ⟨by show (1 : Int) ≤ 1; omega, by show (1 : Int) ≤ _; omega, hm⟩
      · refine ⟨by simp, fun x hx => ?_⟩
        rw [List.mem_singleton.1 hx]; exact ⟨by show (1 : Int) ≤ 1; omega, by show (1 : Int) ≤ _; omega, hm⟩
  have := key l.length (Nat.le_refl _)
  rwa [List.take_of_length_le (Nat.le_refl _)] at this
def locB (l : List Int) : List Int := Leb.uB ((rn l).length : Int) ++ (rn l).flatMap fun x => Leb.uB x.1 ++ [x.2 % 256]
def sizB (b : List Int) : List Int := Leb.uB (b.length : Int) ++ b
def codB {d : Nat} (x : Fun d) : List Int := locB x.locals ++ (bytesI d x.body ++ [11])
def texB (s : ByteArray) : List Int := Leb.uB (s.size : Int) ++ nums s
def ftB (x : FT) : List Int := [96] ++ typB x.params ++ typB x.results
def impB (x : Imp) : List Int := texB x.mod ++ texB x.name ++ [0] ++ Leb.uB x.type
def expB (x : Exp) : List Int := texB x.name ++ [x.kind % 256] ++ Leb.uB x.index
def gloB {d : Nat} (x : Glo d) : List Int := [x.type % 256] ++ [one x.mtb] ++ (insB (bytesI d) (size d) x.init ++ [11])
def elmB {d : Nat} (x : Elm d) : List Int := [0] ++ (insB (bytesI d) (size d) x.offset ++ [11]) ++ idxB x.funcs
def datB {d : Nat} (x : Dat d) : List Int := [0] ++ (insB (bytesI d) (size d) x.offset ++ [11]) ++ texB x.bytes
def secB (id : Int) (n : Nat) (b : List Int) : List Int := if n = 0 then [] else [id] ++ sizB b
def lisB {α : Type} (f : α → List Int) (l : List α) : List Int := Leb.uB (l.length : Int) ++ l.flatMap f
def modB {d : Nat} (m : Mod d) : List Int :=
  [0, 97, 115, 109, 1, 0, 0, 0] ++ secB 1 m.types.length (lisB ftB m.types) ++ secB 2 m.imports.length (lisB impB m.imports) ++ secB 3 m.funcs.length (lisB (fun x => Leb.uB x.type) m.funcs) ++
  secB 4 m.tables.length (lisB (fun x => [112] ++ limB x) m.tables) ++ secB 5 m.mems.length (lisB limB m.mems) ++ secB 6 m.globals.length (lisB gloB m.globals) ++ secB 7 m.exports.length (lisB expB m.exports) ++
  secB 8 m.start.length (m.start.flatMap Leb.uB) ++ secB 9 m.elems.length (lisB elmB m.elems) ++ secB 10 m.funcs.length (lisB (fun x => sizB (codB x)) m.funcs) ++ secB 11 m.datas.length (lisB datB m.datas)
theorem fm_take {α : Type} {f : α → List Int} {l : List α} {j : Nat} {x : α} (hx : l[j]? = some x) : (l.take (j + 1)).flatMap f = (l.take j).flatMap f ++ f x := by
  rw [List.take_add_one, hx, List.flatMap_append]; simp
theorem So.sized {bs b add : List Int} (h : So bs add b) (x : List Int) (hx : x = b.take bs.length ++ (Leb.uB ((b.length - bs.length : Nat) : Int) ++ b.drop bs.length)) (hle : bs.length ≤ b.length := h.1.le) : So bs (sizB add) x := by
  have hm : (Leb.uB ((b.length - bs.length : Nat) : Int)).length ≤ (Leb.uB (add.length : Int)).length := uB_mono _ _ _ (Nat.le_refl _) (by omega) (by have := h.2; omega)
  have hl : x.length = b.length + (Leb.uB ((b.length - bs.length : Nat) : Int)).length := by
    rw [hx, List.length_append, List.length_append, List.length_take, List.length_drop]; omega
  have h2 := h.2
  refine ⟨?_, by rw [hl]; unfold sizB; rw [List.length_append]; omega⟩
  rcases h.1 with rfl | ⟨h3, h4, h5⟩
  · refine .inl ?_
    rw [hx]; unfold sizB
    simp
  · exact .inr ⟨by omega, by unfold sizB; rw [List.length_append]; omega, by omega⟩
end Enc
end Go.Proofs.YtloelineidlenaaGreatDoor

namespace Go.Proofs.YtloelineidlenaaGreatDoor
open Go.RowKit Rep Enc Go.Lib
set_option linter.unusedVariables false
namespace Enc
theorem runInfo : (Tryz.prog.info? 127).map (fun i => (i.zero, i.size, i.bytes)) = some (some (.agg #[.int .i64 0, .int .i64 0]), 2, 16) := by kernel_rfl
def runCells (l : List (Int × Int)) : List Value := l.flatMap fun x => [.int .i64 x.1, .int .i64 x.2]
theorem runCells_app (a b : List (Int × Int)) : runCells (a ++ b) = runCells a ++ runCells b := by unfold runCells; rw [List.flatMap_append]
theorem runCells_len (a : List (Int × Int)) : (runCells a).length = 2 * a.length := by
  induction a with
  | nil => rfl
  | cons x r ih => unfold runCells at ih ⊢; rw [List.flatMap_cons, List.length_append, ih]; simp; omega
theorem runCells_get : ∀ (l : List (Int × Int)) (i : Nat) (x : Int × Int), l[i]? = some x → (runCells l)[2 * i]? = some (.int .i64 x.1) ∧ (runCells l)[2 * i + 1]? = some (.int .i64 x.2)
  | [], i, x, h => by simp at h
  | y :: r, 0, x, h => by
    obtain rfl : y = x := by simpa using h
    exact ⟨rfl, rfl⟩
  | y :: r, i + 1, x, h => by
    have := runCells_get r i x (by simpa using h)
    rw [show 2 * (i + 1) = 2 * i + 2 by omega, show 2 * i + 2 + 1 = (2 * i + 1) + 2 by omega]
    exact ⟨by unfold runCells at this ⊢; simpa using this.1, by unfold runCells at this ⊢; simpa using this.2⟩
theorem runs_last {w : World} {B k : Nat} {v : Value} {pre : List (Int × Int)} {c t : Int} (h : w.ownsRow B 127 2 v (pre.length + 1) (runCells (pre ++ [(c, t)]))) :
    ∃ g cap, v = .slice (some ⟨g, 0, none⟩) (pre.length + 1) cap ∧ B ≤ g ∧ g < w.heap.size ∧ w.cell? ⟨g, pre.length * 2, none⟩ = some (.int .i64 c) ∧ w.frozen? ⟨g, pre.length * 2, none⟩ = false ∧
      (w.setCell ⟨g, pre.length * 2, none⟩ (.int .i64 (c + 1))).ownsRow B 127 2 v (pre.length + 1) (runCells (pre ++ [(c + 1, t)])) := by
  rcases h.2 with ⟨rfl, h0⟩ | ⟨g, cap, cur, rfl, hb, hg, hn, hc, hs, ht⟩
  · omega
  · have hcell : (runCells (pre ++ [(c, t)]))[2 * pre.length]? = some (.int .i64 c) := (runCells_get _ _ (c, t) (by simp)).1
    have hcur : cur[pre.length * 2]? = some (.int .i64 c) := by
      rw [← ht, List.getElem?_take] at hcell
      split at hcell
      · rw [Nat.mul_comm]; simpa using hcell
      · cases hcell
    refine ⟨g, cap, rfl, hb, (Array.getElem?_eq_some_iff.1 hg).1, ?_, by unfold World.frozen?; rw [hg]; simp, ?_⟩
    · rw [cell_of_row w g _ cur _ _ hg]; exact hcur
    · refine ⟨by rw [runCells_len, List.length_append]; simp; omega, .inr ⟨g, cap, cur.setIfInBounds (pre.length * 2) (.int .i64 (c + 1)), rfl, hb, heap_setCell_same w g _ cur _ _ hg, hn, hc, by rw [Array.size_setIfInBounds]; exact hs, ?_⟩⟩
      rw [Array.toList_setIfInBounds, List.take_set, ht, runCells_app, runCells_app, List.set_append, if_neg (by rw [runCells_len]; omega)]
      rw [show pre.length * 2 - (runCells pre).length = 0 by rw [runCells_len]; omega]
      rfl
theorem two_new (w : World) (x y : Value) (t : TypeId) : ∀ (j : Nat) (u : Value), [x, y][j]? = some u → (w.alloc (.cells #[x, y] t)).cell? ((⟨w.heap.size, 0, none⟩ : Addr).add j) = some u := by
  intro j u hu
  rw [Addr.add_lit, World.cell?_alloc_at _ t _ _ rfl, Nat.zero_add]
  simpa using hu
theorem two_one (a b : Int) : ∀ u ∈ [Value.int .i64 a, .int .i64 b], u.oneCell' = true := by
  intro u hu
  rcases List.mem_cons.1 hu with rfl | hu
  · rfl
  · rw [List.mem_singleton.1 hu]; rfl
end Enc
set_option maxRecDepth 100000 in
set_option maxHeartbeats 4000000 in
theorem pRuns (lv : Value) (l : List Int) (w : World) (hL : Ints w lv l) (hl : l.length ≤ 10000000) :
    Calls Tryz.prog 117 #[lv] w fun e w' => ∃ v', e = .returned v' ∧ w'.ownsRow w.heap.size 127 2 v' (rn l).length (runCells (rn l)) ∧ Below w.heap.size w w' := by
  obtain ⟨oL, kL, rfl⟩ := Row.len hL
  obtain ⟨i0, hi, hz0, hz1, hz2⟩ := info_parts runInfo
  have HL := hideR hL
  clear hL
  generalize hna : l.length = n at *
  go_enter Tryz.func117, Tryz.ntmps117
  go_wp2_with fail
  go_loopw [3, 8] (fun t i wr => ∃ (j : Nat) (tv : Value), j ≤ n ∧ i = .int .i64 j ∧ tv = t ∧ Hid (wr.ownsRow w.heap.size 127 2 tv (rn (l.take j)).length (runCells (rn (l.take j)))) ∧ Hid (Below w.heap.size w wr)) (fun _ i _ => n - (RowKit.intOf i).toNat)
  case atStart => exact ⟨0, _, by omega, rfl, rfl, hideR (by simpa [rn, runCells] using World.ownsRow_nil w w.heap.size 127 2), hideR (Below.refl _ _)⟩
  case round =>
    obtain ⟨j, tv, hj, rfl, rfl, HO, HB⟩ := hrel
    by_cases hgo : j < n
    · obtain ⟨b1, off1, cap1, hv1, hx1⟩ := Row.some HL.out (by omega)
      injection hv1 with ho1 e11 e12
      subst ho1
      clear e11 e12
      obtain ⟨t, htk⟩ : ∃ t, l[j]? = some t := ⟨_, List.getElem?_eq_getElem (by omega)⟩
      have ct := cell_on HB.out (hx1 j t htk)
      simp only [Nat.mul_one] at ct
      have HTK := hideR htk
      clear htk
      have hsz : w.heap.size ≤ wr.heap.size := HB.out.size
      -- what the round ends with
      have fin : ∀ (pre : List (Int × Int)) (c : Int) (v9 : Value) (w9 : World), rn (l.take (j + 1)) = pre ++ [(c + 1, t)] → w9.ownsRow w.heap.size 127 2 v9 (pre.length + 1) (runCells (pre ++ [(c, t)])) → Below w.heap.size w w9 →
          ∃ g cap, v9 = .slice (some ⟨g, 0, none⟩) (pre.length + 1) cap ∧ w9.cell? ⟨g, pre.length * 2, none⟩ = some (.int .i64 c) ∧ w9.frozen? ⟨g, pre.length * 2, none⟩ = false ∧
            Hid ((w9.setCell ⟨g, pre.length * 2, none⟩ (.int .i64 (c + 1))).ownsRow w.heap.size 127 2 v9 (rn (l.take (j + 1))).length (runCells (rn (l.take (j + 1))))) ∧ Hid (Below w.heap.size w (w9.setCell ⟨g, pre.length * 2, none⟩ (.int .i64 (c + 1)))) := fun pre c v9 w9 e h hb => by
        obtain ⟨g, cap, h1, h2, h3, h4, h5, h6⟩ := runs_last (k := 0) h
        exact ⟨g, cap, h1, h4, h5, hideR (by rw [e, List.length_append]; exact h6), hideR (hb.setCell (p := ⟨g, _, none⟩) h2 _)⟩
      have HFIN := hideR fin
      clear fin
      have hkb : (rn (l.take j)).length ≤ 10000000 := by have := (rn_bound (l.take j)).1; rw [List.length_take] at this; omega
      obtain ⟨o3, k3, rfl⟩ : ∃ o3 k3, tv = .slice o3 (rn (l.take j)).length k3 := by
        rcases HO.out.2 with ⟨rfl, h0⟩ | ⟨g, cap, cur, rfl, _⟩
        · rw [h0]; exact ⟨_, _, rfl⟩
        · exact ⟨_, _, rfl⟩
      obtain ⟨K, hKE⟩ : ∃ K, (rn (l.take j)).length = K := ⟨_, rfl⟩
      have HKE := hideR hKE
      rw [hKE] at HO hkb
      have HK := hideR hkb
      rw [hKE]
      clear hKE hkb
      rcases Nat.eq_zero_or_pos j with rfl | hj0
      · have e1 : rn (l.take (0 + 1)) = rn (l.take 0) ++ [((0 : Int) + 1, t)] := by rw [rn_take HTK.out]; rfl
        have HE1 := hideR e1
        clear e1
        simp only [Nat.add_zero] at ct
        go_wp2_with (first | (at_builtin; refine wpList_appS rfl _ _ 124 rfl w.heap.size 127 i0 _ 2 16 Tryz.underlying124 hi hz0 hz1 hz2 rfl (by decide) _ _ _ rfl (own_on' HO.out (new_on' _ _)) (some ⟨wr.heap.size, 0, none⟩) 1 1 [.int .i64 0, .int .i64 t] rfl ?c6 ?c0 ?c1 ?c2 ?c3 ?c4 ?c5 ?_))
        case c6 => intro h; cases h
        case c0 => rfl
        case c1 => exact fun ad h => by injection h with h; subst h; exact two_new _ _ _ _
        case c2 => exact two_one _ _
        case c3 => have := HK.out; unfold maxLen; omega
        case c4 => have := HK.out; omega
        case c5 => exact Nat.le_trans hsz (new_on' _ _).size
        intro v' w9 hown hg hv
        have hbA := HB.out.trans ((new_on' wr (.cells #[.int .i64 0, .int .i64 t] 127)).mono HB.out.size)
        obtain ⟨g, cap, rfl, hc9, hf9, HO9, HB9⟩ := HFIN.out (rn (l.take 0)) 0 v' w9 HE1.out (by rw [runCells_app, HKE.out]; exact hown) (hbA.grown hg hbA.size fun k hk => (HO.out.lt k hk).1)
        clear hown hg hv hbA HO HFIN
        rw [HKE.out] at hc9 hf9 HO9 HB9
        rw [HKE.out]
        generalize hK1 : K + 1 = K1 at *
        have hK2 : (K1 : Int) - 1 = (K : Int) := by omega
        have hK3 : IntKind.i64.wrap ((K1 : Int) - 1) = (K : Int) := by have := HK.out; rw [hK2, IntKind.wrap_i64]; omega
        have hK4 : K < K1 := by omega
        have hK5 : wrap64 (K : Int) = (K : Int) := by have := HK.out; unfold wrap64; omega
        go_wp2
        go_roundw
        case rel => exact ⟨0 + 1, _, by omega, by go_num, rfl, HO9, HB9⟩
        case measure => simp [RowKit.intOf]; omega
      · obtain ⟨j', rfl⟩ : ∃ j', j = j' + 1 := ⟨j - 1, by omega⟩
        clear hj0
        obtain ⟨s, hsk⟩ : ∃ s, l[j']? = some s := ⟨_, List.getElem?_eq_getElem (by omega)⟩
        have cs := cell_on HB.out (hx1 j' s hsk)
        simp only [Nat.mul_one] at cs
        have HPL := hideR (rn_last hsk)
        clear hsk hx1
        by_cases hst : s = t
        · subst hst
          obtain ⟨pre, c, hp⟩ := HPL.out
          have e1 : rn (l.take (j' + 1 + 1)) = pre ++ [(c + 1, s)] := by rw [rn_take HTK.out, hp, rnStep_same]
          have hKp : K = pre.length + 1 := by rw [← HKE.out, hp, List.length_append]; rfl
          obtain ⟨g, cap, hv9, hc9, hf9, HO9, HB9⟩ := HFIN.out pre c (.slice o3 K k3) wr e1 (by rw [← hKp, ← hp]; exact HO.out) HB.out
          have hcb : -1 ≤ c ∧ c ≤ 10000000 := by
            have h1 := (rn_bound (l.take (j' + 1))).2 (c, s) (by rw [hp]; simp)
            have h2 : (l.take (j' + 1)).length ≤ n := by rw [List.length_take]; omega
            have h3 := h1.1
            have h4 := h1.2.1
            simp only at h3 h4
            omega
          have hw9 : wrap64 (c + 1) = c + 1 := by unfold wrap64; omega
          injection hv9 with hv1 hv2 hv3
          subst hv1
          clear hv2 hv3 hp e1 HPL HO HFIN
          generalize hK0 : pre.length = K0 at *
          have hK2 : (K : Int) - 1 = (K0 : Int) := by omega
          have hK4 : K0 < K := by omega
          have hK5 : wrap64 (K0 : Int) = (K0 : Int) := by have := HK.out; unfold wrap64; omega
          clear hK0 hKp
          have hb0 : (((j' : Int) + 1 == 0) : Bool) = false := by simp; omega
          have hb2 : (s != s) = false := by simp
          go_wp2
          go_roundw
          case rel => exact ⟨j' + 1 + 1, _, by omega, by go_num, rfl, HO9, HB9⟩
          case measure => simp [RowKit.intOf]; omega
        · have e1 : rn (l.take (j' + 1 + 1)) = rn (l.take (j' + 1)) ++ [((0 : Int) + 1, t)] := by
            obtain ⟨pre, c, hp⟩ := HPL.out
            rw [rn_take HTK.out, hp, rnStep_other hst]; rfl
          have HE1 := hideR e1
          clear e1 HPL
          have hb0 : (((j' : Int) + 1 == 0) : Bool) = false := by simp; omega
          have hb1 : (t != s) = true := by simp; exact fun e => hst e.symm
          have hb3 : ¬ t = s := fun e => hst e.symm
          go_wp2_with (first | (at_builtin; refine wpList_appS rfl _ _ 124 rfl w.heap.size 127 i0 _ 2 16 Tryz.underlying124 hi hz0 hz1 hz2 rfl (by decide) _ _ _ rfl (own_on' HO.out (new_on' _ _)) (some ⟨wr.heap.size, 0, none⟩) 1 1 [.int .i64 0, .int .i64 t] rfl ?c6 ?c0 ?c1 ?c2 ?c3 ?c4 ?c5 ?_))
          case c6 => intro h; cases h
          case c0 => rfl
          case c1 => exact fun ad h => by injection h with h; subst h; exact two_new _ _ _ _
          case c2 => exact two_one _ _
          case c3 => have := HK.out; unfold maxLen; omega
          case c4 => have := HK.out; omega
          case c5 => exact Nat.le_trans hsz (new_on' _ _).size
          intro v' w9 hown hg hv
          have hbA := HB.out.trans ((new_on' wr (.cells #[.int .i64 0, .int .i64 t] 127)).mono HB.out.size)
          obtain ⟨g, cap, rfl, hc9, hf9, HO9, HB9⟩ := HFIN.out (rn (l.take (j' + 1))) 0 v' w9 HE1.out (by rw [runCells_app, HKE.out]; exact hown) (hbA.grown hg hbA.size fun k hk => (HO.out.lt k hk).1)
          clear hown hg hv hbA HO HFIN
          rw [HKE.out] at hc9 hf9 HO9 HB9
          rw [HKE.out]
          generalize hK1 : K + 1 = K1 at *
          have hK2 : (K1 : Int) - 1 = (K : Int) := by omega
          have hK3 : IntKind.i64.wrap ((K1 : Int) - 1) = (K : Int) := by have := HK.out; rw [hK2, IntKind.wrap_i64]; omega
          have hK4 : K < K1 := by omega
          have hK5 : wrap64 (K : Int) = (K : Int) := by have := HK.out; unfold wrap64; omega
          go_wp2
          go_roundw
          case rel => exact ⟨(j' + 1) + 1, _, by omega, by go_num, rfl, HO9, HB9⟩
          case measure => simp [RowKit.intOf]; omega
    · obtain rfl : n = j := by omega
      have e1 : rn (l.take n) = rn l := by rw [List.take_of_length_le (by omega)]
      rw [e1] at HO
      go_wp2
      go_ret
      exact ⟨_, rfl, HO.out, HB.out⟩
end Go.Proofs.YtloelineidlenaaGreatDoor

namespace Go.Proofs.YtloelineidlenaaGreatDoor
open Go.RowKit Rep Enc Go.Lib
set_option linter.unusedVariables false
namespace Enc
theorem runs_row {w : World} {B : Nat} {v : Value} {l : List (Int × Int)} (h : w.ownsRow B 127 2 v l.length (runCells l)) :
    ∃ o cap, v = .slice o l.length cap ∧ (0 < l.length → ∃ g, o = some ⟨g, 0, none⟩ ∧ B ≤ g ∧ g < w.heap.size ∧ ∀ (i : Nat) (x : Int × Int), l[i]? = some x → w.cell? ⟨g, i * 2, none⟩ = some (.int .i64 x.1) ∧ w.cell? ⟨g, i * 2 + 1, none⟩ = some (.int .i64 x.2)) := by
  rcases h.2 with ⟨rfl, h0⟩ | ⟨g, cap, cur, rfl, hb, hg, hn, hc, hs, ht⟩
  · rw [h0]; exact ⟨_, _, rfl, fun h => absurd h (by omega)⟩
  · refine ⟨_, _, rfl, fun _ => ⟨g, rfl, hb, (Array.getElem?_eq_some_iff.1 hg).1, fun i x hx => ?_⟩⟩
    obtain ⟨h1, h2⟩ := runCells_get l i x hx
    have key : ∀ (k : Nat) (u : Value), (runCells l)[k]? = some u → w.cell? ⟨g, k, none⟩ = some u := fun k u hu => by
      rw [cell_of_row w g k cur _ _ hg]
      rw [← ht, List.getElem?_take] at hu
      split at hu
      · simpa using hu
      · cases hu
    rw [show i * 2 = 2 * i by omega]
    exact ⟨key _ _ h1, key _ _ h2⟩
end Enc
set_option maxRecDepth 100000 in
set_option maxHeartbeats 4000000 in
theorem wLoc (w0 : World) (p : Nat) (c : Nat → Value) (v : Value) (bs : List Int) (lv : Value) (l : List Int) (w : World) (h : WS w0 p c v bs w) (hL : Ints w0 lv l) (hl : l.length ≤ 1000000) (hn : bs.length ≤ 39000000000000) :
    Calls Tryz.prog 92 #[.pointer (some ⟨p, 0, none⟩), lv] w (Does w0 p c v w (bs ++ locB l)) := by
  obtain ⟨oL, kL, rfl⟩ := Row.len hL
  have HR := hideR (pRuns _ l w (hL.on h.below) (by omega))
  have hbd := rn_bound l
  obtain ⟨R, hR⟩ : ∃ R, rn l = R := ⟨_, rfl⟩
  have hloc : locB l = Leb.uB (R.length : Int) ++ R.flatMap fun x : Int × Int => Leb.uB x.1 ++ [x.2 % 256] := by unfold locB; rw [hR]
  rw [hloc]
  rw [hR] at HR hbd
  have hcl : ∀ j, (List.flatMap (fun x : Int × Int => Leb.uB x.1 ++ [x.2 % 256]) (R.take j)).length ≤ 11000000 := fun j => by
    have key : ∀ (q : List (Int × Int)), (∀ x ∈ q, 1 ≤ x.1 ∧ x.1 ≤ 1000000) → (q.flatMap fun x : Int × Int => Leb.uB x.1 ++ [x.2 % 256]).length ≤ 11 * q.length := by
      intro q
      induction q with
      | nil => intro _; simp
      | cons x r ih =>
        intro hq
        have h1 := ih fun y hy => hq y (List.mem_cons_of_mem _ hy)
        have h2 := hq x (List.mem_cons_self ..)
        have h3 := Leb.uB_ten (n := x.1) (by omega) (by omega)
        rw [List.flatMap_cons, List.length_append, List.length_append, List.length_cons]
        simp only [List.length_cons, List.length_nil]
        omega
    have h1 := key (R.take j) fun x hx => by
      have := hbd.2 x (List.mem_of_mem_take hx)
      have h4 := this.2.1
      exact ⟨this.1, by omega⟩
    rw [List.length_take] at h1
    have := hbd.1
    omega
  have HCL := hideR hcl
  have hRl : R.length ≤ 1000000 := by have := hbd.1; omega
  have HRB : Hid (∀ x ∈ R, 1 ≤ x.1 ∧ x.1 ≤ 1000000) := hideR fun x hx => by have := hbd.2 x hx; have h4 := this.2.1; exact ⟨this.1, by omega⟩
  have hten := Leb.uB_ten (n := (R.length : Int)) (by omega) (by omega)
  have HS := hideR h
  have hpw : p < w.heap.size := h.lt
  have HOW : Hid (∀ k, v.ownBlock = some k → k < w.heap.size) := hideR fun k hk => (h.own.lt k hk).2
  generalize hna : l.length = n at *
  clear hbd hcl h hL hloc hR
  obtain ⟨u0, hu0⟩ : ∃ u0, Leb.uB (R.length : Int) = u0 := ⟨_, rfl⟩
  rw [hu0] at hten ⊢
  have HU0 := hideR hu0
  clear hu0
  go_enter Tryz.func92, Tryz.ntmps92
  go_wp2_with fail
  refine HR.out.mono ?_
  rintro e w1 ⟨v9, rfl, hown, hb1⟩
  clear HR
  obtain ⟨oR, kR, rfl, hrow⟩ := runs_row hown
  have HS1 := hideR (HS.out.on hb1)
  have HK1 : Hid (Kept p v w v w1) := hideR (Kept.below hb1)
  have hs1 : w.heap.size ≤ w1.heap.size := hb1.size
  have HROW := hideR hrow
  clear hown hb1 hrow HS
  have HC := hideR (wU w0 p c v bs (R.length : Int) w1 HS1.out (by omega) (by omega) (by omega))
  generalize hm : R.length = m at *
  rw [HU0.out] at HC
  go_wp2_with fail
  refine HC.out.mono ?_
  rintro e w2 ⟨v2, rfl, hh, kk⟩
  have HS2 := hideR hh
  have HK12 : Hid (Kept p v w1 v2 w2) := hideR kk
  clear hh kk HC HS1
  go_wp2_with fail
  go_loopw [15] (fun i wr => ∃ (j : Nat) (v3 : Value), j ≤ m ∧ i = .int .i64 j ∧ Hid (WS w0 p c v3 (bs ++ u0 ++ (R.take j).flatMap fun x : Int × Int => Leb.uB x.1 ++ [x.2 % 256]) wr) ∧ Hid (Kept p v w1 v3 wr)) (fun i _ => m - (RowKit.intOf i).toNat)
  case atStart => exact ⟨0, v2, by omega, rfl, hideR (by simpa using HS2.out), HK12⟩
  case round =>
    clear HS2 HK12
    obtain ⟨j, v3, hj, rfl, HWS, HKW⟩ := hrel
    by_cases hgo : j < m
    · obtain ⟨g, rfl, hg1, hg2, hcs⟩ := HROW.out (by omega)
      obtain ⟨x, hxk⟩ : ∃ x, R[j]? = some x := ⟨_, List.getElem?_eq_getElem (by omega)⟩
      have HXK := hideR hxk
      obtain ⟨cx0, cx1⟩ := hcs j x hxk
      have hblk := HKW.out.block g hg2 (by omega) (fun e => by have := HOW.out _ e.symm; omega)
      have cz0 := (World.cell?_of_block (a := ⟨g, _, none⟩) hblk).trans cx0
      have cz1 := (World.cell?_of_block (a := ⟨g, _, none⟩) hblk).trans cx1
      have hxb := HRB.out x (List.mem_of_getElem? hxk)
      clear hcs hxk cx0 cx1 hblk
      have HTK : Hid ((R.take (j + 1)).flatMap (fun x : Int × Int => Leb.uB x.1 ++ [x.2 % 256]) = (R.take j).flatMap (fun x : Int × Int => Leb.uB x.1 ++ [x.2 % 256]) ++ (Leb.uB x.1 ++ [x.2 % 256])) := hideR (fm_take HXK.out)
      have HCJ := hideR (HCL.out j)
      have HBB : Hid ((bs ++ u0 ++ (R.take j).flatMap fun x : Int × Int => Leb.uB x.1 ++ [x.2 % 256]).length ≤ 40200000000000) := hideR (by rw [List.length_append, List.length_append]; have := HCJ.out; omega)
      obtain ⟨b3, hb3⟩ : ∃ b3, bs ++ u0 ++ (R.take j).flatMap (fun x : Int × Int => Leb.uB x.1 ++ [x.2 % 256]) = b3 := ⟨_, rfl⟩
      rw [hb3] at HWS HBB
      have HB3 := hideR hb3
      clear hb3
      obtain ⟨y0, y1⟩ := x
      simp only at cz0 cz1 hxb
      go_upto_region 5 with fail
      obtain ⟨u1, hu1⟩ : ∃ u1, u1 = wr.alloc (.cells #[.int .i64 y0, .int .i64 y1] 127) := ⟨_, rfl⟩
      have HBK : Hid (Bx u1 wr.heap.size 127 #[.int .i64 y0, .int .i64 y1]) := hideR (by rw [hu1]; exact Bx.new rfl)
      have HU : Hid (Below wr.heap.size wr u1) := hideR (by rw [hu1]; exact new_on' _ _)
      rw [← hu1]
      clear hu1 cz0 cz1
      have HNP : Hid (wr.heap.size ≠ p) := hideR (by have := HWS.out.lt; omega)
      have HNO : Hid (some wr.heap.size ≠ v3.ownBlock) := hideR (fun e => by have := (HWS.out.own.lt _ e.symm).2; omega)
      have HS4 := hideR (HWS.out.on HU.out)
      have HK4 := hideR (HKW.out.trans (Kept.below (p := p) (v := v3) HU.out))
      clear HWS HKW HU
      generalize wr.heap.size = p3 at HBK HNP HNO ⊢
      have k0 := HBK.out.cell 0 _ rfl
      have k1 := HBK.out.cell 1 _ rfl
      have HC := hideR (wU w0 p c v3 b3 y0 u1 HS4.out (by omega) (by omega) (by have := HBB.out; omega))
      go_wp2_with fail
      refine HC.out.mono ?_
      rintro e w5 ⟨v5, rfl, hh, kk⟩
      obtain ⟨bb, bo⟩ := kk.bx HBK.out HNP.out HNO.out
      have HS5 := hideR hh
      have HBK5 := hideR bb
      have HK5 := hideR (HK4.out.trans kk)
      clear hh kk bb bo HC HS4 HBK HK4 HNO k0 k1
      have k0 := HBK5.out.cell 0 _ rfl
      have k1 := HBK5.out.cell 1 _ rfl
      have HC := hideR (wPut w0 p c v5 (b3 ++ Leb.uB y0) y1 w5 HS5.out (by have h1 := HBB.out; have h2 := Leb.uB_ten (n := y0) (by omega) (by omega); rw [List.length_append]; omega))
      go_wp2_with fail
      refine HC.out.mono ?_
      rintro e w6 ⟨v6, rfl, hh, kk⟩
      have HS6 : Hid (WS w0 p c v6 (bs ++ u0 ++ (R.take (j + 1)).flatMap fun x : Int × Int => Leb.uB x.1 ++ [x.2 % 256]) w6) := hideR (by
        rw [HTK.out, ← List.append_assoc, HB3.out, ← List.append_assoc]; exact hh)
      have HK6 := hideR (HK5.out.trans kk)
      clear hh kk HC HS5 HBK5 HK5 k0 k1
      go_wp2
      go_roundw
      case rel => exact ⟨j + 1, v6, by omega, by go_num, HS6, HK6⟩
      case measure => simp [RowKit.intOf]; omega
    · obtain rfl : m = j := by omega
      have HF : Hid (WS w0 p c v3 (bs ++ (u0 ++ R.flatMap fun x : Int × Int => Leb.uB x.1 ++ [x.2 % 256])) wr) := hideR (by have := HWS.out; rw [List.take_of_length_le (by omega), List.append_assoc] at this; exact this)
      go_wp2
      go_end0
      exact ⟨_, rfl, HF.out, HK1.out.trans HKW.out⟩
end Go.Proofs.YtloelineidlenaaGreatDoor

namespace Go.Proofs.YtloelineidlenaaGreatDoor
open Go.RowKit Rep Enc Go.Lib
set_option linter.unusedVariables false
namespace Enc
theorem strNums_size (xs : List Int) : (strOfNums xs).size = xs.length := by
  unfold strOfNums ByteArray.size; simp
theorem bytes_below (w : World) (e : TypeId) (s : ByteArray) : Below w.heap.size w (Lib.bytesWorld w e s) :=
  ⟨rfl, rfl, rfl, by rw [Lib.bytesWorld_size]; omega, fun k hk => Lib.bytesWorld_at_old w e s k hk⟩
theorem bytesCells_get (w : World) (e : TypeId) (xs : List Int) (hbd : ∀ x ∈ xs, 0 ≤ x ∧ x ≤ 255) (j : Nat) (u : Value) (hu : (cells xs)[j]? = some u) : (Lib.bytesCells w e (strOfNums xs))[j]? = some u := by
  have h1 := strCells_nums xs hbd
  rw [← h1] at hu
  unfold strCells at hu
  unfold Lib.bytesCells
  have hj : j < (strOfNums xs).data.size := by
    have := (List.getElem?_eq_some_iff.1 hu).1
    simpa using this
  rw [Array.getElem?_append_left (by simpa using hj)]
  simpa using hu
end Enc
set_option maxRecDepth 100000 in
set_option maxHeartbeats 4000000 in
theorem wSizedC (w0 : World) (p : Nat) (c : Nat → Value) (v : Value) (bs add : List Int) (q1 q2 : Addr) (w : World) (h : WS w0 p c v bs w) (hcall : Calls Tryz.prog 91 #[.pointer (some q1), .pointer (some q2)] w (DoesA w0 p c v w bs add)) (hlen : bs.length + add.length ≤ 38900000000000) :
    Calls Tryz.prog 53 #[.pointer (some ⟨p, 0, none⟩), .func (.func 91) #[] #[.pointer (some q1), .pointer (some q2)]] w (DoesA w0 p c v w bs (sizB add)) := by
  obtain ⟨oV, kV, rfl⟩ := h.slice
  have kc := h.cell
  have HC := hideR hcall
  have HLEN := hideR hlen
  clear h hcall hlen
  generalize hn : bs.length = n at *
  have hnb : n ≤ 38900000000000 := by have := HLEN.out; omega
  go_enter Tryz.func53, Tryz.ntmps53
  go_wp2_with fail
  refine HC.out.mono ?_
  rintro e w1 ⟨v1, b1, rfl, h1, k1, a1, l1⟩
  have hle := a1.le
  have HSO : Hid (So bs add b1) := hideR ⟨a1, l1⟩
  have HK1 := hideR k1
  obtain ⟨o1, c1, rfl⟩ := h1.slice
  have HS1 := hideR h1
  have kc1 := h1.cell
  have hb1 : b1.length ≤ 38900000000000 := by have := HLEN.out; omega
  clear HC kc h1 k1 a1 l1
  rw [hn] at hle
  generalize hm : b1.length = m at *
  have hs1 : (m : Int) - (n : Int) = ((m - n : Nat) : Int) := by omega
  have hs2 : wrap64 ((m - n : Nat) : Int) = ((m - n : Nat) : Int) := by unfold wrap64; omega
  have hs3 : IntKind.u64.wrap ((m - n : Nat) : Int) = ((m - n : Nat) : Int) := by simp [IntKind.wrap, IntKind.signed, IntKind.bits]; omega
  have hten := Leb.uB_ten (n := ((m - n : Nat) : Int)) (by omega) (by omega)
  have hpos := Leb.uB_pos ((m - n : Nat) : Int)
  obtain ⟨d, hd⟩ : ∃ d, m - n = d := ⟨_, rfl⟩
  rw [hd] at hs1 hs2 hs3 hten hpos
  have HC := hideR (lebPutU (d : Int) w1 (by omega) (by omega))
  go_wp2_with fail
  refine HC.out.mono ?_
  rintro e w2 ⟨rfl, hb2⟩
  have HS2 := hideR (HS1.out.on hb2)
  have HK2 := hideR (HK1.out.trans (Kept.below (p := p) (v := .slice o1 m c1) hb2))
  have kc2 := HS2.out.cell
  clear HC HS1 HK1 kc1 hb2 hs1 hs2 hs3
  obtain ⟨xs, hxs⟩ : ∃ xs, Leb.uB (d : Int) = xs := ⟨_, rfl⟩
  have hbd := uB_bd _ (d : Int) (by omega) (Nat.le_refl _)
  rw [hxs] at hten hpos hbd ⊢
  have HXS := hideR hxs
  clear hxs
  have hcv := Lib.run_convert_string_bytes w2 9 53 5 (strOfNums xs) Tryz.underlying9 Tryz.underlying53 Tryz.underlying5
  rw [strNums_size] at hcv
  generalize hgc : grownCap w2 xs.length 0 5 = gc at hcv
  obtain ⟨w3, hw3⟩ : ∃ w3, Lib.bytesWorld w2 5 (strOfNums xs) = w3 := ⟨_, rfl⟩
  have hb3 : Below w2.heap.size w2 w3 := by rw [← hw3]; exact bytes_below _ _ _
  have hvb := Lib.bytesWorld_at_new w2 5 (strOfNums xs)
  rw [hw3] at hvb hcv
  have hvs : ∀ (j : Nat) (u : Value), (cells xs)[j]? = some u → (Lib.bytesCells w2 5 (strOfNums xs))[j]? = some u := fun j u hu => bytesCells_get _ _ _ hbd j u hu
  have HS3 := hideR (HS2.out.on hb3)
  have HK3 := hideR (HK2.out.trans (Kept.below (p := p) (v := .slice o1 m c1) hb3))
  have hown2 : ∀ k, (Value.slice o1 m c1).ownBlock = some k → k < w2.heap.size := fun k hk => (HS2.out.own.lt k hk).2
  have HC := hideR (pIns w0.heap.size (.slice o1 m c1) b1 xs n w2.heap.size gc _ w3 HS3.out.own HS3.out.below.size (by rw [hm]; exact hle) hpos (by rw [hm]; omega) hvb hvs (fun e => by have := hown2 _ e; omega))
  clear hvs hvb hw3 hown2 HS2 HK2 hgc hb3
  generalize hxl : xs.length = xl at *
  go_wp2_with fail
  refine HC.out.mono ?_
  rintro e w9 ⟨v9, rfl, how9, hg9, hv9⟩
  clear HC
  have kc9 : w9.cell? ⟨p, 10, none⟩ = some (.slice o1 m c1) := by rw [World.cell?_of_block (a := ⟨p, 10, none⟩) (hg9.block p HS3.out.lt (fun e => HS3.out.apart e.symm))]; exact HS3.out.cell
  have kf9 : w9.frozen? ⟨p, 10, none⟩ = false := by rw [World.frozen?_of_block (a := ⟨p, 10, none⟩) (hg9.block p HS3.out.lt (fun e => HS3.out.apart e.symm))]; exact HS3.out.frz
  have HE := hideR (HS3.out.store how9 hg9)
  have HK9 := hideR (HK3.out.trans (Kept.store (p := p) (i := 10) hg9 hv9 v9))
  have HF : Hid (So bs (sizB add) (b1.take n ++ (xs ++ b1.drop n))) := hideR (HSO.out.sized _ (by rw [hm, hn, hd, HXS.out]))
  obtain ⟨o9, k9, rfl⟩ : ∃ o9 k9, v9 = .slice o9 (b1.take n ++ (xs ++ b1.drop n)).length k9 := by
    rcases how9.2 with ⟨rfl, h0⟩ | ⟨g, cap, cur, rfl, _⟩
    · rw [h0]; exact ⟨none, 0, rfl⟩
    · exact ⟨_, _, rfl⟩
  clear how9 hg9 hv9 HS3 HK3 HSO kc2 hcv
  generalize hb9 : b1.take n ++ (xs ++ b1.drop n) = b9 at *
  generalize b9.length = n9 at *
  go_wp2
  go_end0
  exact ⟨_, _, rfl, HE.out, HK9.out, HF.out.1, HF.out.2⟩
set_option maxRecDepth 100000 in
set_option maxHeartbeats 4000000 in
theorem wSizedS (w0 : World) (p : Nat) (c : Nat → Value) (v : Value) (bs add : List Int) (q1 q2 : Addr) (w : World) (h : WS w0 p c v bs w) (hcall : Calls Tryz.prog 54 #[.pointer (some q1), .pointer (some q2)] w (DoesA w0 p c v w bs add)) (hlen : bs.length + add.length ≤ 38900000000000) :
    Calls Tryz.prog 53 #[.pointer (some ⟨p, 0, none⟩), .func (.func 54) #[] #[.pointer (some q1), .pointer (some q2)]] w (DoesA w0 p c v w bs (sizB add)) := by
  obtain ⟨oV, kV, rfl⟩ := h.slice
  have kc := h.cell
  have HC := hideR hcall
  have HLEN := hideR hlen
  clear h hcall hlen
  generalize hn : bs.length = n at *
  have hnb : n ≤ 38900000000000 := by have := HLEN.out; omega
  go_enter Tryz.func53, Tryz.ntmps53
  go_wp2_with fail
  refine HC.out.mono ?_
  rintro e w1 ⟨v1, b1, rfl, h1, k1, a1, l1⟩
  have hle := a1.le
  have HSO : Hid (So bs add b1) := hideR ⟨a1, l1⟩
  have HK1 := hideR k1
  obtain ⟨o1, c1, rfl⟩ := h1.slice
  have HS1 := hideR h1
  have kc1 := h1.cell
  have hb1 : b1.length ≤ 38900000000000 := by have := HLEN.out; omega
  clear HC kc h1 k1 a1 l1
  rw [hn] at hle
  generalize hm : b1.length = m at *
  have hs1 : (m : Int) - (n : Int) = ((m - n : Nat) : Int) := by omega
  have hs2 : wrap64 ((m - n : Nat) : Int) = ((m - n : Nat) : Int) := by unfold wrap64; omega
  have hs3 : IntKind.u64.wrap ((m - n : Nat) : Int) = ((m - n : Nat) : Int) := by simp [IntKind.wrap, IntKind.signed, IntKind.bits]; omega
  have hten := Leb.uB_ten (n := ((m - n : Nat) : Int)) (by omega) (by omega)
  have hpos := Leb.uB_pos ((m - n : Nat) : Int)
  obtain ⟨d, hd⟩ : ∃ d, m - n = d := ⟨_, rfl⟩
  rw [hd] at hs1 hs2 hs3 hten hpos
  have HC := hideR (lebPutU (d : Int) w1 (by omega) (by omega))
  go_wp2_with fail
  refine HC.out.mono ?_
  rintro e w2 ⟨rfl, hb2⟩
  have HS2 := hideR (HS1.out.on hb2)
  have HK2 := hideR (HK1.out.trans (Kept.below (p := p) (v := .slice o1 m c1) hb2))
  have kc2 := HS2.out.cell
  clear HC HS1 HK1 kc1 hb2 hs1 hs2 hs3
  obtain ⟨xs, hxs⟩ : ∃ xs, Leb.uB (d : Int) = xs := ⟨_, rfl⟩
  have hbd := uB_bd _ (d : Int) (by omega) (Nat.le_refl _)
  rw [hxs] at hten hpos hbd ⊢
  have HXS := hideR hxs
  clear hxs
  have hcv := Lib.run_convert_string_bytes w2 9 53 5 (strOfNums xs) Tryz.underlying9 Tryz.underlying53 Tryz.underlying5
  rw [strNums_size] at hcv
  generalize hgc : grownCap w2 xs.length 0 5 = gc at hcv
  obtain ⟨w3, hw3⟩ : ∃ w3, Lib.bytesWorld w2 5 (strOfNums xs) = w3 := ⟨_, rfl⟩
  have hb3 : Below w2.heap.size w2 w3 := by rw [← hw3]; exact bytes_below _ _ _
  have hvb := Lib.bytesWorld_at_new w2 5 (strOfNums xs)
  rw [hw3] at hvb hcv
  have hvs : ∀ (j : Nat) (u : Value), (cells xs)[j]? = some u → (Lib.bytesCells w2 5 (strOfNums xs))[j]? = some u := fun j u hu => bytesCells_get _ _ _ hbd j u hu
  have HS3 := hideR (HS2.out.on hb3)
  have HK3 := hideR (HK2.out.trans (Kept.below (p := p) (v := .slice o1 m c1) hb3))
  have hown2 : ∀ k, (Value.slice o1 m c1).ownBlock = some k → k < w2.heap.size := fun k hk => (HS2.out.own.lt k hk).2
  have HC := hideR (pIns w0.heap.size (.slice o1 m c1) b1 xs n w2.heap.size gc _ w3 HS3.out.own HS3.out.below.size (by rw [hm]; exact hle) hpos (by rw [hm]; omega) hvb hvs (fun e => by have := hown2 _ e; omega))
  clear hvs hvb hw3 hown2 HS2 HK2 hgc hb3
  generalize hxl : xs.length = xl at *
  go_wp2_with fail
  refine HC.out.mono ?_
  rintro e w9 ⟨v9, rfl, how9, hg9, hv9⟩
  clear HC
  have kc9 : w9.cell? ⟨p, 10, none⟩ = some (.slice o1 m c1) := by rw [World.cell?_of_block (a := ⟨p, 10, none⟩) (hg9.block p HS3.out.lt (fun e => HS3.out.apart e.symm))]; exact HS3.out.cell
  have kf9 : w9.frozen? ⟨p, 10, none⟩ = false := by rw [World.frozen?_of_block (a := ⟨p, 10, none⟩) (hg9.block p HS3.out.lt (fun e => HS3.out.apart e.symm))]; exact HS3.out.frz
  have HE := hideR (HS3.out.store how9 hg9)
  have HK9 := hideR (HK3.out.trans (Kept.store (p := p) (i := 10) hg9 hv9 v9))
  have HF : Hid (So bs (sizB add) (b1.take n ++ (xs ++ b1.drop n))) := hideR (HSO.out.sized _ (by rw [hm, hn, hd, HXS.out]))
  obtain ⟨o9, k9, rfl⟩ : ∃ o9 k9, v9 = .slice o9 (b1.take n ++ (xs ++ b1.drop n)).length k9 := by
    rcases how9.2 with ⟨rfl, h0⟩ | ⟨g, cap, cur, rfl, _⟩
    · rw [h0]; exact ⟨none, 0, rfl⟩
    · exact ⟨_, _, rfl⟩
  clear how9 hg9 hv9 HS3 HK3 HSO kc2 hcv
  generalize hb9 : b1.take n ++ (xs ++ b1.drop n) = b9 at *
  generalize b9.length = n9 at *
  go_wp2
  go_end0
  exact ⟨_, _, rfl, HE.out, HK9.out, HF.out.1, HF.out.2⟩
end Go.Proofs.YtloelineidlenaaGreatDoor

namespace Go.Proofs.YtloelineidlenaaGreatDoor
open Go.RowKit Rep Enc Go.Lib
set_option linter.unusedVariables false
namespace Enc
theorem cells_inj {a b : List Int} (h : cells a = cells b) : a = b := by
  unfold cells at h
  exact (List.map_inj_right (fun x y h => by injection h)).1 h
theorem nums_str (xs : List Int) (h : ∀ x ∈ xs, 0 ≤ x ∧ x ≤ 255) : nums (strOfNums xs) = xs := cells_inj (by rw [← strCells_cells, strCells_nums xs h])
theorem PS.mono {w0 w1 w : World} {p : Nat} {ov : Bool} {v : Value} {bs : List Int} (h : PS w1 p ov v bs w) (hb : Below w0.heap.size w0 w1) : PS w0 p ov v bs w :=
  ⟨hb.trans (h.below.mono hb.size), Nat.le_trans hb.size h.base, h.blk, ⟨h.own.1, h.own.2.imp (fun h => h) fun ⟨g, cap, cur, k1, k2, k3⟩ => ⟨g, cap, cur, k1, Nat.le_trans hb.size k2, k3⟩⟩, h.apart, h.few, h.bd⟩
theorem St.nil : St [] false [] := .inl ⟨rfl, rfl⟩
theorem PDo.step {w0 w w1 : World} {p : Nat} {v v1 : Value} {id : List Int} {e : Ending} {w' : World} (hk : Kept p v w v1 w1) (h : PDo w0 p v1 w1 id e w') : PDo w0 p v w id e w' := by
  obtain ⟨ov, v', bs, h1, h2, h3, h4⟩ := h
  exact ⟨ov, v', bs, h1, h2, h3, hk.trans h4⟩
end Enc
set_option maxRecDepth 100000 in
set_option maxHeartbeats 1000000 in
theorem dByte (w0 : World) (p : Nat) (ov : Bool) (v : Value) (bs id : List Int) (n : Int) (w : World) (h : PS w0 p ov v bs w) (hS : St id ov bs) :
    Calls Tryz.prog 75 #[.pointer (some ⟨p, 0, none⟩), .int .i64 n] w (PDo w0 p v w (id ++ [n % 256])) := by
  have hw := wrap_u8 n
  have hb := new_on' w (.cells #[.int .u8 (n % 256)] 5)
  have hcv : (convert 53 9 (.slice (some ⟨w.heap.size, 0, none⟩) 1 1)).run Tryz.prog (w.alloc (.cells #[.int .u8 (n % 256)] 5)) = .ok (.string (strOfNums [n % 256])) (w.alloc (.cells #[.int .u8 (n % 256)] 5)) :=
    run_convert_bytes_arg _ 53 5 Tryz.underlying53 Tryz.underlying5 w.heap.size 0 1 1 [n % 256] rfl (fun i hi => by
      rw [Nat.zero_add, World.cell?_alloc_at _ _ _ _ rfl]
      match i, hi with
      | 0, _ => rfl) 9 Tryz.underlying9
  have hnum : nums (strOfNums [n % 256]) = [n % 256] := nums_str _ (fun x hx => by rw [List.mem_singleton.1 hx]; omega)
  have hsz : (strOfNums [n % 256]).size = 1 := strNums_size _
  have HK0 : Hid (Kept p v w v (w.alloc (.cells #[.int .u8 (n % 256)] 5))) := hideR (Kept.below hb)
  have HC := hideR (dPut w0 p ov v bs id (strOfNums [n % 256]) _ (h.on hb) hS (by rw [hsz]; omega))
  rw [hnum] at HC
  clear h hS hb hnum hsz
  generalize strOfNums [n % 256] = S at *
  go_enter Tryz.func75, Tryz.ntmps75
  go_wp2_with fail
  refine HC.out.mono ?_
  rintro e w1 ⟨ov1, v1, b1, rfl, h1, s1, k1⟩
  have HF := hideR (⟨h1, s1, HK0.out.trans k1⟩ : PS w0 p ov1 v1 b1 w1 ∧ St (id ++ [n % 256]) ov1 b1 ∧ Kept p v w v1 w1)
  clear h1 s1 k1 HC HK0 hcv
  go_wp2
  go_end0
  exact ⟨_, _, _, rfl, HF.out.1, HF.out.2.1, HF.out.2.2⟩
set_option maxRecDepth 100000 in
set_option maxHeartbeats 1000000 in
theorem dU (w0 : World) (p : Nat) (ov : Bool) (v : Value) (bs id : List Int) (n : Int) (w : World) (h : PS w0 p ov v bs w) (hS : St id ov bs) (h0 : 0 ≤ n) (h1 : n ≤ 9223372036854775807) :
    Calls Tryz.prog 107 #[.pointer (some ⟨p, 0, none⟩), .int .i64 n] w (PDo w0 p v w (id ++ Leb.uB n)) := by
  have hw : IntKind.u64.wrap n = n := by simp [IntKind.wrap, IntKind.signed, IntKind.bits]; omega
  have HR := hideR (refPutU n w h0 (by omega))
  have hnum : nums (strOfNums (Leb.uB n)) = Leb.uB n := nums_str _ (uB_bd _ n h0 (Nat.le_refl _))
  have hsz : (strOfNums (Leb.uB n)).size ≤ 10 := by rw [strNums_size]; exact Leb.uB_ten h0 (by omega)
  have HP : Hid (∀ w1, Below w.heap.size w w1 → Calls Tryz.prog 22 #[.pointer (some ⟨p, 0, none⟩), .string (strOfNums (Leb.uB n))] w1 (PDo w0 p v w1 (id ++ Leb.uB n))) := hideR fun w1 hb => by
    have := dPut w0 p ov v bs id (strOfNums (Leb.uB n)) w1 (h.on hb) hS (by omega)
    rwa [hnum] at this
  clear h hS hnum hsz
  generalize strOfNums (Leb.uB n) = S at *
  go_enter Tryz.func107, Tryz.ntmps107
  go_wp2_with fail
  refine HR.out.mono ?_
  rintro e w1 ⟨rfl, hb⟩
  have HC := hideR (HP.out w1 hb)
  have HK0 : Hid (Kept p v w v w1) := hideR (Kept.below hb)
  clear hb HP HR
  go_wp2_with fail
  refine HC.out.mono ?_
  rintro e w2 ⟨ov1, v1, b1, rfl, h1, s1, k1⟩
  have HF := hideR (⟨h1, s1, HK0.out.trans k1⟩ : PS w0 p ov1 v1 b1 w2 ∧ St (id ++ Leb.uB n) ov1 b1 ∧ Kept p v w v1 w2)
  clear h1 s1 k1 HC HK0
  go_wp2
  go_end0
  exact ⟨_, _, _, rfl, HF.out.1, HF.out.2.1, HF.out.2.2⟩
set_option maxRecDepth 100000 in
set_option maxHeartbeats 1000000 in
theorem dS (w0 : World) (p : Nat) (ov : Bool) (v : Value) (bs id : List Int) (n : Int) (w : World) (h : PS w0 p ov v bs w) (hS : St id ov bs) (h0 : -9223372036854775808 ≤ n) (h1 : n ≤ 9223372036854775807) :
    Calls Tryz.prog 128 #[.pointer (some ⟨p, 0, none⟩), .int .i64 n] w (PDo w0 p v w (id ++ Leb.sB n)) := by
  have HR := hideR (refPutS n w h0 (by omega))
  have hnum : nums (strOfNums (Leb.sB n)) = Leb.sB n := nums_str _ (sB_bd _ n (Nat.le_refl _))
  have hsz : (strOfNums (Leb.sB n)).size ≤ 10 := by rw [strNums_size]; exact Leb.sB_ten h0 (by omega)
  have HP : Hid (∀ w1, Below w.heap.size w w1 → Calls Tryz.prog 22 #[.pointer (some ⟨p, 0, none⟩), .string (strOfNums (Leb.sB n))] w1 (PDo w0 p v w1 (id ++ Leb.sB n))) := hideR fun w1 hb => by
    have := dPut w0 p ov v bs id (strOfNums (Leb.sB n)) w1 (h.on hb) hS (by omega)
    rwa [hnum] at this
  have hw : wrap64 n = n := by unfold wrap64; omega
  clear h hS hnum hsz
  generalize strOfNums (Leb.sB n) = S at *
  go_enter Tryz.func128, Tryz.ntmps128
  go_wp2_with fail
  refine HR.out.mono ?_
  rintro e w1 ⟨rfl, hb⟩
  have HC := hideR (HP.out w1 hb)
  have HK0 : Hid (Kept p v w v w1) := hideR (Kept.below hb)
  clear hb HP HR
  go_wp2_with fail
  refine HC.out.mono ?_
  rintro e w2 ⟨ov1, v1, b1, rfl, h1, s1, k1⟩
  have HF := hideR (⟨h1, s1, HK0.out.trans k1⟩ : PS w0 p ov1 v1 b1 w2 ∧ St (id ++ Leb.sB n) ov1 b1 ∧ Kept p v w v1 w2)
  clear h1 s1 k1 HC HK0
  go_wp2
  go_end0
  exact ⟨_, _, _, rfl, HF.out.1, HF.out.2.1, HF.out.2.2⟩
set_option maxRecDepth 100000 in
set_option maxHeartbeats 1000000 in
theorem dName (w0 : World) (p : Nat) (ov : Bool) (v : Value) (bs id : List Int) (s : ByteArray) (w : World) (h : PS w0 p ov v bs w) (hS : St id ov bs) (hs : s.size ≤ 100000000) :
    Calls Tryz.prog 106 #[.pointer (some ⟨p, 0, none⟩), .string s] w (PDo w0 p v w (id ++ texB s)) := by
  have HC := hideR (dU w0 p ov v bs id (s.size : Int) w h hS (by omega) (by omega))
  have e1 : id ++ texB s = id ++ Leb.uB (s.size : Int) ++ nums s := by unfold texB; rw [List.append_assoc]
  rw [e1]
  clear h hS e1
  generalize hn : s.size = n at *
  go_enter Tryz.func106, Tryz.ntmps106
  go_wp2_with fail
  refine HC.out.mono ?_
  rintro e w1 ⟨ov1, v1, b1, rfl, h1, s1, k1⟩
  have HC2 := hideR (dPut w0 p ov1 v1 b1 _ s w1 h1 s1 (by omega))
  have HK := hideR k1
  clear h1 s1 k1 HC
  go_wp2_with fail
  refine HC2.out.mono ?_
  rintro e w2 ⟨ov2, v2, b2, rfl, h2, s2, k2⟩
  have HF := hideR (⟨h2, s2, HK.out.trans k2⟩ : PS w0 p ov2 v2 b2 w2 ∧ St (id ++ Leb.uB (n : Int) ++ nums s) ov2 b2 ∧ Kept p v w v2 w2)
  clear h2 s2 k2 HC2 HK
  go_wp2
  go_end0
  exact ⟨_, _, _, rfl, HF.out.1, HF.out.2.1, HF.out.2.2⟩
namespace Enc
theorem own_text {w : World} {B : Nat} {v : Value} {bs : List Int} (h : w.ownsRow B 5 1 v bs.length (cells bs)) : (convert 53 9 v).run Tryz.prog w = .ok (.string (strOfNums bs)) w := by
  rcases Nat.eq_zero_or_pos bs.length with h0 | h0
  · have hn : bs = [] := List.length_eq_zero_iff.1 h0
    subst hn
    rcases h.2 with ⟨rfl, _⟩ | ⟨g, cap, cur, rfl, _, hg, _⟩
    · exact run_convert_bytes_nil w 53 5 Tryz.underlying53 Tryz.underlying5 0 0 9 Tryz.underlying9
    · exact run_convert_bytes_arg w 53 5 Tryz.underlying53 Tryz.underlying5 g 0 0 cap [] rfl (fun i hi => by omega) 9 Tryz.underlying9
  · obtain ⟨g, cap, rfl, hcv⟩ := own_string h h0
    exact hcv
end Enc
namespace Enc
structure PS1 (w1 : World) (p : Nat) (ov : Bool) (v : Value) (bs : List Int) (w : World) : Prop where
  base : w1.heap.size ≤ p
  blk : w.heap[p]? = some (.cells #[v, .bool ov] 78 (0, 0))
  own : w.ownsRow w1.heap.size 5 1 v bs.length (cells bs)
  few : bs.length ≤ 524288
  bd : ∀ x ∈ bs, 0 ≤ x ∧ x ≤ 255
theorem PS1.cell {w1 w : World} {p : Nat} {ov : Bool} {v : Value} {bs : List Int} (h : PS1 w1 p ov v bs w) : w.cell? ⟨p, 0, none⟩ = some v := by unfold World.cell?; rw [h.blk]; rfl
theorem PS1.cellO {w1 w : World} {p : Nat} {ov : Bool} {v : Value} {bs : List Int} (h : PS1 w1 p ov v bs w) : w.cell? ⟨p, 1, none⟩ = some (.bool ov) := by unfold World.cell?; rw [h.blk]; rfl
theorem PS1.slice {w1 w : World} {p : Nat} {ov : Bool} {v : Value} {bs : List Int} (h : PS1 w1 p ov v bs w) : ∃ o k, v = .slice o bs.length k := by
  rcases h.own.2 with ⟨rfl, h0⟩ | ⟨g, cap, cur, rfl, _⟩
  · rw [h0]; exact ⟨none, 0, rfl⟩
  · exact ⟨_, _, rfl⟩
theorem PS1.of {w1 w w' : World} {p q : Nat} {oq : Bool} {v v' u : Value} {bq : List Int} (hq : PS w1 q oq u bq w) (hpq : p < w1.heap.size) (hown : ∀ b, v.ownBlock = some b → b < w1.heap.size) (hk : Kept p v w v' w') : PS1 w1 q oq u bq w' :=
  ⟨hq.base, by rw [hk.block q hq.lt (by have := hq.base; omega) (fun e => by have := hown _ e.symm; have := hq.base; omega)]; exact hq.blk,
   ⟨hq.own.1, hq.own.2.imp (fun h => h) fun ⟨g, cap, cur, k1, k2, k3, k4⟩ => ⟨g, cap, cur, k1, k2, by rw [hk.block g (Array.getElem?_eq_some_iff.1 k3).1 (by omega) (fun e => by have := hown _ e.symm; omega)]; exact k3, k4⟩⟩, hq.few, hq.bd⟩
end Enc
set_option maxRecDepth 100000 in
set_option maxHeartbeats 1000000 in
theorem dPart1 (w0 w1 : World) (p q : Nat) (ov oq : Bool) (v u : Value) (bs id bq iq : List Int) (w : World) (h : PS w0 p ov v bs w) (hS : St id ov bs) (hq : PS1 w1 q oq u bq w) (hQ : St iq oq bq) (hpq : p < w1.heap.size) :
    Calls Tryz.prog 104 #[.pointer (some ⟨p, 0, none⟩), .pointer (some ⟨q, 0, none⟩)] w (PDo w0 p v w (id ++ sizB iq)) := by
  have hne : p ≠ q := by have := hq.base; omega
  have kq := hq.cellO
  have kp := h.cellO
  have kf := h.frz 1
  have hnum : nums (strOfNums bq) = bq := nums_str _ hq.bd
  have hszq : (strOfNums bq).size = bq.length := strNums_size _
  have hfew := hq.few
  -- behind the mark
  have hm := h.mark (ov || oq)
  have hbl : ∀ k, k ≠ p → (w.setCell ⟨p, 1, none⟩ (.bool (ov || oq))).heap[k]? = w.heap[k]? := fun k hk => Below.heap_setCell _ _ _ _ (by show k ≠ p; exact hk)
  have ho2 : (w.setCell ⟨p, 1, none⟩ (.bool (ov || oq))).ownsRow w1.heap.size 5 1 u bq.length (cells bq) :=
    ⟨hq.own.1, hq.own.2.imp (fun h => h) fun ⟨g, cap, cur, k1, k2, k3, k4⟩ => ⟨g, cap, cur, k1, k2, by rw [hbl g (by omega)]; exact k3, k4⟩⟩
  have hcv := own_text ho2
  have kq2 : (w.setCell ⟨p, 1, none⟩ (.bool (ov || oq))).cell? ⟨q, 0, none⟩ = some u := by
    rw [World.cell?_of_block (a := ⟨q, 0, none⟩) (hbl q (fun e => hne e.symm))]; exact hq.cell
  have hst2 : ∃ id2, St id2 (ov || oq) bs ∧ ∀ ov' bs', bs'.length ≤ 524288 → St (id2 ++ texB (strOfNums bq)) ov' bs' → St (id ++ sizB iq) ov' bs' := by
    have hL : texB (strOfNums bq) = sizB bq := by unfold texB sizB; rw [hszq, hnum]
    rw [hL]
    rcases hQ with ⟨h1, h2⟩ | ⟨h1, h2⟩
    · refine ⟨id, by rw [h1, Bool.or_false]; exact hS, fun ov' bs' _ h => by rw [← h2]; exact h⟩
    · -- the other one had too much
      refine ⟨id ++ iq, .inr ⟨by rw [h1, Bool.or_true], by rw [List.length_append]; omega⟩, fun ov' bs' hf h => ?_⟩
      rcases h with ⟨h3, h4⟩ | ⟨h3, _⟩
      · rw [h4, List.length_append, List.length_append] at hf; omega
      · exact .inr ⟨h3, by unfold sizB; rw [List.length_append, List.length_append]; omega⟩
  obtain ⟨id2, hs2, hend⟩ := hst2
  have HC := hideR (dName w0 p (ov || oq) v bs id2 (strOfNums bq) _ hm hs2 (by omega))
  have HEND := hideR hend
  have HK0 : Hid (Kept p v w v (w.setCell ⟨p, 1, none⟩ (.bool (ov || oq)))) := hideR (Kept.mark _)
  obtain ⟨oU, kU, rfl⟩ := hq.slice
  clear h hS hq hQ hm hbl ho2 hs2 hend hnum hszq hfew hpq
  generalize strOfNums bq = S at *
  generalize bq.length = nU at *
  cases ov with
  | true =>
    simp only [Bool.true_or] at *
    go_enter Tryz.func104, Tryz.ntmps104
    go_wp2_with fail
    refine HC.out.mono ?_
    rintro e w2 ⟨ov2, v2, b2, rfl, h2, s2, k2⟩
    have HF := hideR (⟨h2, HEND.out ov2 b2 h2.few s2, HK0.out.trans k2⟩ : PS w0 p ov2 v2 b2 w2 ∧ St (id ++ sizB iq) ov2 b2 ∧ Kept p v w v2 w2)
    clear h2 s2 k2 HC HK0
    go_wp2
    go_end0
    exact ⟨_, _, _, rfl, HF.out.1, HF.out.2.1, HF.out.2.2⟩
  | false =>
    simp only [Bool.false_or] at *
    go_enter Tryz.func104, Tryz.ntmps104
    go_wp2_with fail
    refine HC.out.mono ?_
    rintro e w2 ⟨ov2, v2, b2, rfl, h2, s2, k2⟩
    have HF := hideR (⟨h2, HEND.out ov2 b2 h2.few s2, HK0.out.trans k2⟩ : PS w0 p ov2 v2 b2 w2 ∧ St (id ++ sizB iq) ov2 b2 ∧ Kept p v w v2 w2)
    clear h2 s2 k2 HC HK0
    go_wp2
    go_end0
    exact ⟨_, _, _, rfl, HF.out.1, HF.out.2.1, HF.out.2.2⟩
end Go.Proofs.YtloelineidlenaaGreatDoor

namespace Go.Proofs.YtloelineidlenaaGreatDoor
open Go.RowKit Rep
set_option linter.unusedVariables false

set_option maxHeartbeats 1000000 in
theorem refForm0 (op : Int) (w : World) (h : op ≤ -1) : Calls Tryz.prog 127 #[.int .i64 op] w fun e w' => e = .returned (.int .i64 0) ∧ w' = w := by
  have hs := sig_pos op
  have hp : decide (0 < (Nums.sig op).1) = false := by exact decide_eq_false (fun hp => by have := hs.1 hp; omega)
  clear hs
  have q0 : (op == 0) = false := by rw [beq_eq_false_iff_ne]; omega
  have q1 : (op == 1) = false := by rw [beq_eq_false_iff_ne]; omega
  have q15 : (op == 15) = false := by rw [beq_eq_false_iff_ne]; omega
  have q26 : (op == 26) = false := by rw [beq_eq_false_iff_ne]; omega
  have q27 : (op == 27) = false := by rw [beq_eq_false_iff_ne]; omega
  have q63 : (op == 63) = false := by rw [beq_eq_false_iff_ne]; omega
  have q64 : (op == 64) = false := by rw [beq_eq_false_iff_ne]; omega
  have q2 : (op == 2) = false := by rw [beq_eq_false_iff_ne]; omega
  have q3 : (op == 3) = false := by rw [beq_eq_false_iff_ne]; omega
  have q4 : (op == 4) = false := by rw [beq_eq_false_iff_ne]; omega
  have q12 : (op == 12) = false := by rw [beq_eq_false_iff_ne]; omega
  have q13 : (op == 13) = false := by rw [beq_eq_false_iff_ne]; omega
  have q14 : (op == 14) = false := by rw [beq_eq_false_iff_ne]; omega
  have q16 : (op == 16) = false := by rw [beq_eq_false_iff_ne]; omega
  have q17 : (op == 17) = false := by rw [beq_eq_false_iff_ne]; omega
  have q40 : (op == 40) = false := by rw [beq_eq_false_iff_ne]; omega
  have q41 : (op == 41) = false := by rw [beq_eq_false_iff_ne]; omega
  have q65 : (op == 65) = false := by rw [beq_eq_false_iff_ne]; omega
  have q66 : (op == 66) = false := by rw [beq_eq_false_iff_ne]; omega
  have q42 : (op == 42) = false := by rw [beq_eq_false_iff_ne]; omega
  have q43 : (op == 43) = false := by rw [beq_eq_false_iff_ne]; omega
  have q56 : (op == 56) = false := by rw [beq_eq_false_iff_ne]; omega
  have q57 : (op == 57) = false := by rw [beq_eq_false_iff_ne]; omega
  have q67 : (op == 67) = false := by rw [beq_eq_false_iff_ne]; omega
  have q68 : (op == 68) = false := by rw [beq_eq_false_iff_ne]; omega
  have r32 : decide (32 ≤ op ∧ op ≤ 36) = false := decide_eq_false (by omega)
  have R32 := hideM r32
  clear r32
  have r44 : decide (44 ≤ op ∧ op ≤ 55) = false := decide_eq_false (by omega)
  have R44 := hideM r44
  clear r44
  have r58 : decide (58 ≤ op ∧ op ≤ 62) = false := decide_eq_false (by omega)
  have R58 := hideM r58
  clear r58
  have r91 : decide (91 ≤ op ∧ op ≤ 102) = false := decide_eq_false (by omega)
  have R91 := hideM r91
  clear r91
  have r139 : decide (139 ≤ op ∧ op ≤ 166) = false := decide_eq_false (by omega)
  have R139 := hideM r139
  clear r139
  have r168 : decide (168 ≤ op ∧ op ≤ 171) = false := decide_eq_false (by omega)
  have R168 := hideM r168
  clear r168
  have r174 : decide (174 ≤ op ∧ op ≤ 191) = false := decide_eq_false (by omega)
  have R174 := hideM r174
  clear r174
  clear h
  go_enter Tryz.func127, Tryz.ntmps127
  go_wp2_with fail
  refine (refSig _ _).mono ?_
  rintro e u ⟨rfl, rfl⟩
  generalize Nums.sig op = t at *
  go_wp2_with fail
  refine (refIn _ _ _ _).mono ?_
  rintro e u ⟨rfl, rfl⟩
  rw [R32.out]
  go_wp2_with fail
  refine (refIn _ _ _ _).mono ?_
  rintro e u ⟨rfl, rfl⟩
  rw [R44.out]
  go_wp2_with fail
  refine (refIn _ _ _ _).mono ?_
  rintro e u ⟨rfl, rfl⟩
  rw [R58.out]
  go_wp2_with fail
  refine (refIn _ _ _ _).mono ?_
  rintro e u ⟨rfl, rfl⟩
  rw [R91.out]
  go_wp2_with fail
  refine (refIn _ _ _ _).mono ?_
  rintro e u ⟨rfl, rfl⟩
  rw [R139.out]
  go_wp2_with fail
  refine (refIn _ _ _ _).mono ?_
  rintro e u ⟨rfl, rfl⟩
  rw [R168.out]
  go_wp2_with fail
  refine (refIn _ _ _ _).mono ?_
  rintro e u ⟨rfl, rfl⟩
  rw [R174.out]
  go_wp2
  go_ret
  exact ⟨rfl, rfl⟩

set_option maxHeartbeats 1000000 in
theorem refForm1 (op : Int) (w : World) (h : 0 ≤ op ∧ op ≤ 0) : Calls Tryz.prog 127 #[.int .i64 op] w fun e w' => e = .returned (.int .i64 1) ∧ w' = w := by
  have hs := sig_pos op
  have hp : decide (0 < (Nums.sig op).1) = false := by exact decide_eq_false (fun hp => by have := hs.1 hp; omega)
  clear hs
  obtain rfl : op = 0 := by omega
  clear h
  go_enter Tryz.func127, Tryz.ntmps127
  go_wp2_with fail
  refine (refSig _ _).mono ?_
  rintro e u ⟨rfl, rfl⟩
  generalize Nums.sig 0 = t at *
  go_wp2
  go_ret
  exact ⟨rfl, rfl⟩

set_option maxHeartbeats 1000000 in
theorem refForm2 (op : Int) (w : World) (h : 1 ≤ op ∧ op ≤ 1) : Calls Tryz.prog 127 #[.int .i64 op] w fun e w' => e = .returned (.int .i64 1) ∧ w' = w := by
  have hs := sig_pos op
  have hp : decide (0 < (Nums.sig op).1) = false := by exact decide_eq_false (fun hp => by have := hs.1 hp; omega)
  clear hs
  obtain rfl : op = 1 := by omega
  clear h
  go_enter Tryz.func127, Tryz.ntmps127
  go_wp2_with fail
  refine (refSig _ _).mono ?_
  rintro e u ⟨rfl, rfl⟩
  generalize Nums.sig 1 = t at *
  go_wp2
  go_ret
  exact ⟨rfl, rfl⟩

set_option maxHeartbeats 1000000 in
theorem refForm3 (op : Int) (w : World) (h : 2 ≤ op ∧ op ≤ 2) : Calls Tryz.prog 127 #[.int .i64 op] w fun e w' => e = .returned (.int .i64 2) ∧ w' = w := by
  have hs := sig_pos op
  have hp : decide (0 < (Nums.sig op).1) = false := by exact decide_eq_false (fun hp => by have := hs.1 hp; omega)
  clear hs
  obtain rfl : op = 2 := by omega
  clear h
  go_enter Tryz.func127, Tryz.ntmps127
  go_wp2_with fail
  refine (refSig _ _).mono ?_
  rintro e u ⟨rfl, rfl⟩
  generalize Nums.sig 2 = t at *
  go_wp2
  go_ret
  exact ⟨rfl, rfl⟩

set_option maxHeartbeats 1000000 in
theorem refForm4 (op : Int) (w : World) (h : 3 ≤ op ∧ op ≤ 3) : Calls Tryz.prog 127 #[.int .i64 op] w fun e w' => e = .returned (.int .i64 2) ∧ w' = w := by
  have hs := sig_pos op
  have hp : decide (0 < (Nums.sig op).1) = false := by exact decide_eq_false (fun hp => by have := hs.1 hp; omega)
  clear hs
  obtain rfl : op = 3 := by omega
  clear h
  go_enter Tryz.func127, Tryz.ntmps127
  go_wp2_with fail
  refine (refSig _ _).mono ?_
  rintro e u ⟨rfl, rfl⟩
  generalize Nums.sig 3 = t at *
  go_wp2
  go_ret
  exact ⟨rfl, rfl⟩

set_option maxHeartbeats 1000000 in
theorem refForm5 (op : Int) (w : World) (h : 4 ≤ op ∧ op ≤ 4) : Calls Tryz.prog 127 #[.int .i64 op] w fun e w' => e = .returned (.int .i64 3) ∧ w' = w := by
  have hs := sig_pos op
  have hp : decide (0 < (Nums.sig op).1) = false := by exact decide_eq_false (fun hp => by have := hs.1 hp; omega)
  clear hs
  obtain rfl : op = 4 := by omega
  clear h
  go_enter Tryz.func127, Tryz.ntmps127
  go_wp2_with fail
  refine (refSig _ _).mono ?_
  rintro e u ⟨rfl, rfl⟩
  generalize Nums.sig 4 = t at *
  go_wp2
  go_ret
  exact ⟨rfl, rfl⟩

set_option maxHeartbeats 1000000 in
theorem refForm6 (op : Int) (w : World) (h : 5 ≤ op ∧ op ≤ 11) : Calls Tryz.prog 127 #[.int .i64 op] w fun e w' => e = .returned (.int .i64 0) ∧ w' = w := by
  have hs := sig_pos op
  have hp : decide (0 < (Nums.sig op).1) = false := by exact decide_eq_false (fun hp => by have := hs.1 hp; omega)
  clear hs
  have q0 : (op == 0) = false := by rw [beq_eq_false_iff_ne]; omega
  have q1 : (op == 1) = false := by rw [beq_eq_false_iff_ne]; omega
  have q15 : (op == 15) = false := by rw [beq_eq_false_iff_ne]; omega
  have q26 : (op == 26) = false := by rw [beq_eq_false_iff_ne]; omega
  have q27 : (op == 27) = false := by rw [beq_eq_false_iff_ne]; omega
  have q63 : (op == 63) = false := by rw [beq_eq_false_iff_ne]; omega
  have q64 : (op == 64) = false := by rw [beq_eq_false_iff_ne]; omega
  have q2 : (op == 2) = false := by rw [beq_eq_false_iff_ne]; omega
  have q3 : (op == 3) = false := by rw [beq_eq_false_iff_ne]; omega
  have q4 : (op == 4) = false := by rw [beq_eq_false_iff_ne]; omega
  have q12 : (op == 12) = false := by rw [beq_eq_false_iff_ne]; omega
  have q13 : (op == 13) = false := by rw [beq_eq_false_iff_ne]; omega
  have q14 : (op == 14) = false := by rw [beq_eq_false_iff_ne]; omega
  have q16 : (op == 16) = false := by rw [beq_eq_false_iff_ne]; omega
  have q17 : (op == 17) = false := by rw [beq_eq_false_iff_ne]; omega
  have q40 : (op == 40) = false := by rw [beq_eq_false_iff_ne]; omega
  have q41 : (op == 41) = false := by rw [beq_eq_false_iff_ne]; omega
  have q65 : (op == 65) = false := by rw [beq_eq_false_iff_ne]; omega
  have q66 : (op == 66) = false := by rw [beq_eq_false_iff_ne]; omega
  have q42 : (op == 42) = false := by rw [beq_eq_false_iff_ne]; omega
  have q43 : (op == 43) = false := by rw [beq_eq_false_iff_ne]; omega
  have q56 : (op == 56) = false := by rw [beq_eq_false_iff_ne]; omega
  have q57 : (op == 57) = false := by rw [beq_eq_false_iff_ne]; omega
  have q67 : (op == 67) = false := by rw [beq_eq_false_iff_ne]; omega
  have q68 : (op == 68) = false := by rw [beq_eq_false_iff_ne]; omega
  have r32 : decide (32 ≤ op ∧ op ≤ 36) = false := decide_eq_false (by omega)
  have R32 := hideM r32
  clear r32
  have r44 : decide (44 ≤ op ∧ op ≤ 55) = false := decide_eq_false (by omega)
  have R44 := hideM r44
  clear r44
  have r58 : decide (58 ≤ op ∧ op ≤ 62) = false := decide_eq_false (by omega)
  have R58 := hideM r58
  clear r58
  have r91 : decide (91 ≤ op ∧ op ≤ 102) = false := decide_eq_false (by omega)
  have R91 := hideM r91
  clear r91
  have r139 : decide (139 ≤ op ∧ op ≤ 166) = false := decide_eq_false (by omega)
  have R139 := hideM r139
  clear r139
  have r168 : decide (168 ≤ op ∧ op ≤ 171) = false := decide_eq_false (by omega)
  have R168 := hideM r168
  clear r168
  have r174 : decide (174 ≤ op ∧ op ≤ 191) = false := decide_eq_false (by omega)
  have R174 := hideM r174
  clear r174
  clear h
  go_enter Tryz.func127, Tryz.ntmps127
  go_wp2_with fail
  refine (refSig _ _).mono ?_
  rintro e u ⟨rfl, rfl⟩
  generalize Nums.sig op = t at *
  go_wp2_with fail
  refine (refIn _ _ _ _).mono ?_
  rintro e u ⟨rfl, rfl⟩
  rw [R32.out]
  go_wp2_with fail
  refine (refIn _ _ _ _).mono ?_
  rintro e u ⟨rfl, rfl⟩
  rw [R44.out]
  go_wp2_with fail
  refine (refIn _ _ _ _).mono ?_
  rintro e u ⟨rfl, rfl⟩
  rw [R58.out]
  go_wp2_with fail
  refine (refIn _ _ _ _).mono ?_
  rintro e u ⟨rfl, rfl⟩
  rw [R91.out]
  go_wp2_with fail
  refine (refIn _ _ _ _).mono ?_
  rintro e u ⟨rfl, rfl⟩
  rw [R139.out]
  go_wp2_with fail
  refine (refIn _ _ _ _).mono ?_
  rintro e u ⟨rfl, rfl⟩
  rw [R168.out]
  go_wp2_with fail
  refine (refIn _ _ _ _).mono ?_
  rintro e u ⟨rfl, rfl⟩
  rw [R174.out]
  go_wp2
  go_ret
  exact ⟨rfl, rfl⟩

set_option maxHeartbeats 1000000 in
theorem refForm7 (op : Int) (w : World) (h : 12 ≤ op ∧ op ≤ 12) : Calls Tryz.prog 127 #[.int .i64 op] w fun e w' => e = .returned (.int .i64 4) ∧ w' = w := by
  have hs := sig_pos op
  have hp : decide (0 < (Nums.sig op).1) = false := by exact decide_eq_false (fun hp => by have := hs.1 hp; omega)
  clear hs
  obtain rfl : op = 12 := by omega
  clear h
  go_enter Tryz.func127, Tryz.ntmps127
  go_wp2_with fail
  refine (refSig _ _).mono ?_
  rintro e u ⟨rfl, rfl⟩
  generalize Nums.sig 12 = t at *
  go_wp2
  go_ret
  exact ⟨rfl, rfl⟩

set_option maxHeartbeats 1000000 in
theorem refForm8 (op : Int) (w : World) (h : 13 ≤ op ∧ op ≤ 13) : Calls Tryz.prog 127 #[.int .i64 op] w fun e w' => e = .returned (.int .i64 4) ∧ w' = w := by
  have hs := sig_pos op
  have hp : decide (0 < (Nums.sig op).1) = false := by exact decide_eq_false (fun hp => by have := hs.1 hp; omega)
  clear hs
  obtain rfl : op = 13 := by omega
  clear h
  go_enter Tryz.func127, Tryz.ntmps127
  go_wp2_with fail
  refine (refSig _ _).mono ?_
  rintro e u ⟨rfl, rfl⟩
  generalize Nums.sig 13 = t at *
  go_wp2
  go_ret
  exact ⟨rfl, rfl⟩

set_option maxHeartbeats 1000000 in
theorem refForm9 (op : Int) (w : World) (h : 14 ≤ op ∧ op ≤ 14) : Calls Tryz.prog 127 #[.int .i64 op] w fun e w' => e = .returned (.int .i64 5) ∧ w' = w := by
  have hs := sig_pos op
  have hp : decide (0 < (Nums.sig op).1) = false := by exact decide_eq_false (fun hp => by have := hs.1 hp; omega)
  clear hs
  obtain rfl : op = 14 := by omega
  clear h
  go_enter Tryz.func127, Tryz.ntmps127
  go_wp2_with fail
  refine (refSig _ _).mono ?_
  rintro e u ⟨rfl, rfl⟩
  generalize Nums.sig 14 = t at *
  go_wp2
  go_ret
  exact ⟨rfl, rfl⟩

set_option maxHeartbeats 1000000 in
theorem refForm10 (op : Int) (w : World) (h : 15 ≤ op ∧ op ≤ 15) : Calls Tryz.prog 127 #[.int .i64 op] w fun e w' => e = .returned (.int .i64 1) ∧ w' = w := by
  have hs := sig_pos op
  have hp : decide (0 < (Nums.sig op).1) = false := by exact decide_eq_false (fun hp => by have := hs.1 hp; omega)
  clear hs
  obtain rfl : op = 15 := by omega
  clear h
  go_enter Tryz.func127, Tryz.ntmps127
  go_wp2_with fail
  refine (refSig _ _).mono ?_
  rintro e u ⟨rfl, rfl⟩
  generalize Nums.sig 15 = t at *
  go_wp2
  go_ret
  exact ⟨rfl, rfl⟩

set_option maxHeartbeats 1000000 in
theorem refForm11 (op : Int) (w : World) (h : 16 ≤ op ∧ op ≤ 16) : Calls Tryz.prog 127 #[.int .i64 op] w fun e w' => e = .returned (.int .i64 6) ∧ w' = w := by
  have hs := sig_pos op
  have hp : decide (0 < (Nums.sig op).1) = false := by exact decide_eq_false (fun hp => by have := hs.1 hp; omega)
  clear hs
  obtain rfl : op = 16 := by omega
  clear h
  go_enter Tryz.func127, Tryz.ntmps127
  go_wp2_with fail
  refine (refSig _ _).mono ?_
  rintro e u ⟨rfl, rfl⟩
  generalize Nums.sig 16 = t at *
  go_wp2
  go_ret
  exact ⟨rfl, rfl⟩

set_option maxHeartbeats 1000000 in
theorem refForm12 (op : Int) (w : World) (h : 17 ≤ op ∧ op ≤ 17) : Calls Tryz.prog 127 #[.int .i64 op] w fun e w' => e = .returned (.int .i64 7) ∧ w' = w := by
  have hs := sig_pos op
  have hp : decide (0 < (Nums.sig op).1) = false := by exact decide_eq_false (fun hp => by have := hs.1 hp; omega)
  clear hs
  obtain rfl : op = 17 := by omega
  clear h
  go_enter Tryz.func127, Tryz.ntmps127
  go_wp2_with fail
  refine (refSig _ _).mono ?_
  rintro e u ⟨rfl, rfl⟩
  generalize Nums.sig 17 = t at *
  go_wp2_with fail
  refine (refIn _ _ _ _).mono ?_
  rintro e u ⟨rfl, rfl⟩
  rw [show decide ((32 : Int) ≤ 17 ∧ (17 : Int) ≤ 36) = false by decide]
  go_wp2
  go_ret
  exact ⟨rfl, rfl⟩

set_option maxHeartbeats 1000000 in
theorem refForm13 (op : Int) (w : World) (h : 18 ≤ op ∧ op ≤ 25) : Calls Tryz.prog 127 #[.int .i64 op] w fun e w' => e = .returned (.int .i64 0) ∧ w' = w := by
  have hs := sig_pos op
  have hp : decide (0 < (Nums.sig op).1) = false := by exact decide_eq_false (fun hp => by have := hs.1 hp; omega)
  clear hs
  have q0 : (op == 0) = false := by rw [beq_eq_false_iff_ne]; omega
  have q1 : (op == 1) = false := by rw [beq_eq_false_iff_ne]; omega
  have q15 : (op == 15) = false := by rw [beq_eq_false_iff_ne]; omega
  have q26 : (op == 26) = false := by rw [beq_eq_false_iff_ne]; omega
  have q27 : (op == 27) = false := by rw [beq_eq_false_iff_ne]; omega
  have q63 : (op == 63) = false := by rw [beq_eq_false_iff_ne]; omega
  have q64 : (op == 64) = false := by rw [beq_eq_false_iff_ne]; omega
  have q2 : (op == 2) = false := by rw [beq_eq_false_iff_ne]; omega
  have q3 : (op == 3) = false := by rw [beq_eq_false_iff_ne]; omega
  have q4 : (op == 4) = false := by rw [beq_eq_false_iff_ne]; omega
  have q12 : (op == 12) = false := by rw [beq_eq_false_iff_ne]; omega
  have q13 : (op == 13) = false := by rw [beq_eq_false_iff_ne]; omega
  have q14 : (op == 14) = false := by rw [beq_eq_false_iff_ne]; omega
  have q16 : (op == 16) = false := by rw [beq_eq_false_iff_ne]; omega
  have q17 : (op == 17) = false := by rw [beq_eq_false_iff_ne]; omega
  have q40 : (op == 40) = false := by rw [beq_eq_false_iff_ne]; omega
  have q41 : (op == 41) = false := by rw [beq_eq_false_iff_ne]; omega
  have q65 : (op == 65) = false := by rw [beq_eq_false_iff_ne]; omega
  have q66 : (op == 66) = false := by rw [beq_eq_false_iff_ne]; omega
  have q42 : (op == 42) = false := by rw [beq_eq_false_iff_ne]; omega
  have q43 : (op == 43) = false := by rw [beq_eq_false_iff_ne]; omega
  have q56 : (op == 56) = false := by rw [beq_eq_false_iff_ne]; omega
  have q57 : (op == 57) = false := by rw [beq_eq_false_iff_ne]; omega
  have q67 : (op == 67) = false := by rw [beq_eq_false_iff_ne]; omega
  have q68 : (op == 68) = false := by rw [beq_eq_false_iff_ne]; omega
  have r32 : decide (32 ≤ op ∧ op ≤ 36) = false := decide_eq_false (by omega)
  have R32 := hideM r32
  clear r32
  have r44 : decide (44 ≤ op ∧ op ≤ 55) = false := decide_eq_false (by omega)
  have R44 := hideM r44
  clear r44
  have r58 : decide (58 ≤ op ∧ op ≤ 62) = false := decide_eq_false (by omega)
  have R58 := hideM r58
  clear r58
  have r91 : decide (91 ≤ op ∧ op ≤ 102) = false := decide_eq_false (by omega)
  have R91 := hideM r91
  clear r91
  have r139 : decide (139 ≤ op ∧ op ≤ 166) = false := decide_eq_false (by omega)
  have R139 := hideM r139
  clear r139
  have r168 : decide (168 ≤ op ∧ op ≤ 171) = false := decide_eq_false (by omega)
  have R168 := hideM r168
  clear r168
  have r174 : decide (174 ≤ op ∧ op ≤ 191) = false := decide_eq_false (by omega)
  have R174 := hideM r174
  clear r174
  clear h
  go_enter Tryz.func127, Tryz.ntmps127
  go_wp2_with fail
  refine (refSig _ _).mono ?_
  rintro e u ⟨rfl, rfl⟩
  generalize Nums.sig op = t at *
  go_wp2_with fail
  refine (refIn _ _ _ _).mono ?_
  rintro e u ⟨rfl, rfl⟩
  rw [R32.out]
  go_wp2_with fail
  refine (refIn _ _ _ _).mono ?_
  rintro e u ⟨rfl, rfl⟩
  rw [R44.out]
  go_wp2_with fail
  refine (refIn _ _ _ _).mono ?_
  rintro e u ⟨rfl, rfl⟩
  rw [R58.out]
  go_wp2_with fail
  refine (refIn _ _ _ _).mono ?_
  rintro e u ⟨rfl, rfl⟩
  rw [R91.out]
  go_wp2_with fail
  refine (refIn _ _ _ _).mono ?_
  rintro e u ⟨rfl, rfl⟩
  rw [R139.out]
  go_wp2_with fail
  refine (refIn _ _ _ _).mono ?_
  rintro e u ⟨rfl, rfl⟩
  rw [R168.out]
  go_wp2_with fail
  refine (refIn _ _ _ _).mono ?_
  rintro e u ⟨rfl, rfl⟩
  rw [R174.out]
  go_wp2
  go_ret
  exact ⟨rfl, rfl⟩

end Go.Proofs.YtloelineidlenaaGreatDoor

namespace Go.Proofs.YtloelineidlenaaGreatDoor
open Go.RowKit Rep
set_option linter.unusedVariables false

set_option maxHeartbeats 1000000 in
theorem refForm14 (op : Int) (w : World) (h : 26 ≤ op ∧ op ≤ 26) : Calls Tryz.prog 127 #[.int .i64 op] w fun e w' => e = .returned (.int .i64 1) ∧ w' = w := by
  have hs := sig_pos op
  have hp : decide (0 < (Nums.sig op).1) = false := by exact decide_eq_false (fun hp => by have := hs.1 hp; omega)
  clear hs
  obtain rfl : op = 26 := by omega
  clear h
  go_enter Tryz.func127, Tryz.ntmps127
  go_wp2_with fail
  refine (refSig _ _).mono ?_
  rintro e u ⟨rfl, rfl⟩
  generalize Nums.sig 26 = t at *
  go_wp2
  go_ret
  exact ⟨rfl, rfl⟩

set_option maxHeartbeats 1000000 in
theorem refForm15 (op : Int) (w : World) (h : 27 ≤ op ∧ op ≤ 27) : Calls Tryz.prog 127 #[.int .i64 op] w fun e w' => e = .returned (.int .i64 1) ∧ w' = w := by
  have hs := sig_pos op
  have hp : decide (0 < (Nums.sig op).1) = false := by exact decide_eq_false (fun hp => by have := hs.1 hp; omega)
  clear hs
  obtain rfl : op = 27 := by omega
  clear h
  go_enter Tryz.func127, Tryz.ntmps127
  go_wp2_with fail
  refine (refSig _ _).mono ?_
  rintro e u ⟨rfl, rfl⟩
  generalize Nums.sig 27 = t at *
  go_wp2
  go_ret
  exact ⟨rfl, rfl⟩

set_option maxHeartbeats 1000000 in
theorem refForm16 (op : Int) (w : World) (h : 28 ≤ op ∧ op ≤ 31) : Calls Tryz.prog 127 #[.int .i64 op] w fun e w' => e = .returned (.int .i64 0) ∧ w' = w := by
  have hs := sig_pos op
  have hp : decide (0 < (Nums.sig op).1) = false := by exact decide_eq_false (fun hp => by have := hs.1 hp; omega)
  clear hs
  have q0 : (op == 0) = false := by rw [beq_eq_false_iff_ne]; omega
  have q1 : (op == 1) = false := by rw [beq_eq_false_iff_ne]; omega
  have q15 : (op == 15) = false := by rw [beq_eq_false_iff_ne]; omega
  have q26 : (op == 26) = false := by rw [beq_eq_false_iff_ne]; omega
  have q27 : (op == 27) = false := by rw [beq_eq_false_iff_ne]; omega
  have q63 : (op == 63) = false := by rw [beq_eq_false_iff_ne]; omega
  have q64 : (op == 64) = false := by rw [beq_eq_false_iff_ne]; omega
  have q2 : (op == 2) = false := by rw [beq_eq_false_iff_ne]; omega
  have q3 : (op == 3) = false := by rw [beq_eq_false_iff_ne]; omega
  have q4 : (op == 4) = false := by rw [beq_eq_false_iff_ne]; omega
  have q12 : (op == 12) = false := by rw [beq_eq_false_iff_ne]; omega
  have q13 : (op == 13) = false := by rw [beq_eq_false_iff_ne]; omega
  have q14 : (op == 14) = false := by rw [beq_eq_false_iff_ne]; omega
  have q16 : (op == 16) = false := by rw [beq_eq_false_iff_ne]; omega
  have q17 : (op == 17) = false := by rw [beq_eq_false_iff_ne]; omega
  have q40 : (op == 40) = false := by rw [beq_eq_false_iff_ne]; omega
  have q41 : (op == 41) = false := by rw [beq_eq_false_iff_ne]; omega
  have q65 : (op == 65) = false := by rw [beq_eq_false_iff_ne]; omega
  have q66 : (op == 66) = false := by rw [beq_eq_false_iff_ne]; omega
  have q42 : (op == 42) = false := by rw [beq_eq_false_iff_ne]; omega
  have q43 : (op == 43) = false := by rw [beq_eq_false_iff_ne]; omega
  have q56 : (op == 56) = false := by rw [beq_eq_false_iff_ne]; omega
  have q57 : (op == 57) = false := by rw [beq_eq_false_iff_ne]; omega
  have q67 : (op == 67) = false := by rw [beq_eq_false_iff_ne]; omega
  have q68 : (op == 68) = false := by rw [beq_eq_false_iff_ne]; omega
  have r32 : decide (32 ≤ op ∧ op ≤ 36) = false := decide_eq_false (by omega)
  have R32 := hideM r32
  clear r32
  have r44 : decide (44 ≤ op ∧ op ≤ 55) = false := decide_eq_false (by omega)
  have R44 := hideM r44
  clear r44
  have r58 : decide (58 ≤ op ∧ op ≤ 62) = false := decide_eq_false (by omega)
  have R58 := hideM r58
  clear r58
  have r91 : decide (91 ≤ op ∧ op ≤ 102) = false := decide_eq_false (by omega)
  have R91 := hideM r91
  clear r91
  have r139 : decide (139 ≤ op ∧ op ≤ 166) = false := decide_eq_false (by omega)
  have R139 := hideM r139
  clear r139
  have r168 : decide (168 ≤ op ∧ op ≤ 171) = false := decide_eq_false (by omega)
  have R168 := hideM r168
  clear r168
  have r174 : decide (174 ≤ op ∧ op ≤ 191) = false := decide_eq_false (by omega)
  have R174 := hideM r174
  clear r174
  clear h
  go_enter Tryz.func127, Tryz.ntmps127
  go_wp2_with fail
  refine (refSig _ _).mono ?_
  rintro e u ⟨rfl, rfl⟩
  generalize Nums.sig op = t at *
  go_wp2_with fail
  refine (refIn _ _ _ _).mono ?_
  rintro e u ⟨rfl, rfl⟩
  rw [R32.out]
  go_wp2_with fail
  refine (refIn _ _ _ _).mono ?_
  rintro e u ⟨rfl, rfl⟩
  rw [R44.out]
  go_wp2_with fail
  refine (refIn _ _ _ _).mono ?_
  rintro e u ⟨rfl, rfl⟩
  rw [R58.out]
  go_wp2_with fail
  refine (refIn _ _ _ _).mono ?_
  rintro e u ⟨rfl, rfl⟩
  rw [R91.out]
  go_wp2_with fail
  refine (refIn _ _ _ _).mono ?_
  rintro e u ⟨rfl, rfl⟩
  rw [R139.out]
  go_wp2_with fail
  refine (refIn _ _ _ _).mono ?_
  rintro e u ⟨rfl, rfl⟩
  rw [R168.out]
  go_wp2_with fail
  refine (refIn _ _ _ _).mono ?_
  rintro e u ⟨rfl, rfl⟩
  rw [R174.out]
  go_wp2
  go_ret
  exact ⟨rfl, rfl⟩

set_option maxHeartbeats 1000000 in
theorem refForm17 (op : Int) (w : World) (h : 32 ≤ op ∧ op ≤ 36) : Calls Tryz.prog 127 #[.int .i64 op] w fun e w' => e = .returned (.int .i64 6) ∧ w' = w := by
  have hs := sig_pos op
  have hp : decide (0 < (Nums.sig op).1) = false := by exact decide_eq_false (fun hp => by have := hs.1 hp; omega)
  clear hs
  have q0 : (op == 0) = false := by rw [beq_eq_false_iff_ne]; omega
  have q1 : (op == 1) = false := by rw [beq_eq_false_iff_ne]; omega
  have q15 : (op == 15) = false := by rw [beq_eq_false_iff_ne]; omega
  have q26 : (op == 26) = false := by rw [beq_eq_false_iff_ne]; omega
  have q27 : (op == 27) = false := by rw [beq_eq_false_iff_ne]; omega
  have q63 : (op == 63) = false := by rw [beq_eq_false_iff_ne]; omega
  have q64 : (op == 64) = false := by rw [beq_eq_false_iff_ne]; omega
  have q2 : (op == 2) = false := by rw [beq_eq_false_iff_ne]; omega
  have q3 : (op == 3) = false := by rw [beq_eq_false_iff_ne]; omega
  have q4 : (op == 4) = false := by rw [beq_eq_false_iff_ne]; omega
  have q12 : (op == 12) = false := by rw [beq_eq_false_iff_ne]; omega
  have q13 : (op == 13) = false := by rw [beq_eq_false_iff_ne]; omega
  have q14 : (op == 14) = false := by rw [beq_eq_false_iff_ne]; omega
  have q16 : (op == 16) = false := by rw [beq_eq_false_iff_ne]; omega
  have q17 : (op == 17) = false := by rw [beq_eq_false_iff_ne]; omega
  have q40 : (op == 40) = false := by rw [beq_eq_false_iff_ne]; omega
  have q41 : (op == 41) = false := by rw [beq_eq_false_iff_ne]; omega
  have q65 : (op == 65) = false := by rw [beq_eq_false_iff_ne]; omega
  have q66 : (op == 66) = false := by rw [beq_eq_false_iff_ne]; omega
  have q42 : (op == 42) = false := by rw [beq_eq_false_iff_ne]; omega
  have q43 : (op == 43) = false := by rw [beq_eq_false_iff_ne]; omega
  have q56 : (op == 56) = false := by rw [beq_eq_false_iff_ne]; omega
  have q57 : (op == 57) = false := by rw [beq_eq_false_iff_ne]; omega
  have q67 : (op == 67) = false := by rw [beq_eq_false_iff_ne]; omega
  have q68 : (op == 68) = false := by rw [beq_eq_false_iff_ne]; omega
  have r32 : decide (32 ≤ op ∧ op ≤ 36) = true := decide_eq_true (by omega)
  have R32 := hideM r32
  clear r32
  have r44 : decide (44 ≤ op ∧ op ≤ 55) = false := decide_eq_false (by omega)
  have R44 := hideM r44
  clear r44
  have r58 : decide (58 ≤ op ∧ op ≤ 62) = false := decide_eq_false (by omega)
  have R58 := hideM r58
  clear r58
  have r91 : decide (91 ≤ op ∧ op ≤ 102) = false := decide_eq_false (by omega)
  have R91 := hideM r91
  clear r91
  have r139 : decide (139 ≤ op ∧ op ≤ 166) = false := decide_eq_false (by omega)
  have R139 := hideM r139
  clear r139
  have r168 : decide (168 ≤ op ∧ op ≤ 171) = false := decide_eq_false (by omega)
  have R168 := hideM r168
  clear r168
  have r174 : decide (174 ≤ op ∧ op ≤ 191) = false := decide_eq_false (by omega)
  have R174 := hideM r174
  clear r174
  clear h
  go_enter Tryz.func127, Tryz.ntmps127
  go_wp2_with fail
  refine (refSig _ _).mono ?_
  rintro e u ⟨rfl, rfl⟩
  generalize Nums.sig op = t at *
  go_wp2_with fail
  refine (refIn _ _ _ _).mono ?_
  rintro e u ⟨rfl, rfl⟩
  rw [R32.out]
  go_wp2
  go_ret
  exact ⟨rfl, rfl⟩

set_option maxHeartbeats 1000000 in
theorem refForm18 (op : Int) (w : World) (h : 37 ≤ op ∧ op ≤ 39) : Calls Tryz.prog 127 #[.int .i64 op] w fun e w' => e = .returned (.int .i64 0) ∧ w' = w := by
  have hs := sig_pos op
  have hp : decide (0 < (Nums.sig op).1) = false := by exact decide_eq_false (fun hp => by have := hs.1 hp; omega)
  clear hs
  have q0 : (op == 0) = false := by rw [beq_eq_false_iff_ne]; omega
  have q1 : (op == 1) = false := by rw [beq_eq_false_iff_ne]; omega
  have q15 : (op == 15) = false := by rw [beq_eq_false_iff_ne]; omega
  have q26 : (op == 26) = false := by rw [beq_eq_false_iff_ne]; omega
  have q27 : (op == 27) = false := by rw [beq_eq_false_iff_ne]; omega
  have q63 : (op == 63) = false := by rw [beq_eq_false_iff_ne]; omega
  have q64 : (op == 64) = false := by rw [beq_eq_false_iff_ne]; omega
  have q2 : (op == 2) = false := by rw [beq_eq_false_iff_ne]; omega
  have q3 : (op == 3) = false := by rw [beq_eq_false_iff_ne]; omega
  have q4 : (op == 4) = false := by rw [beq_eq_false_iff_ne]; omega
  have q12 : (op == 12) = false := by rw [beq_eq_false_iff_ne]; omega
  have q13 : (op == 13) = false := by rw [beq_eq_false_iff_ne]; omega
  have q14 : (op == 14) = false := by rw [beq_eq_false_iff_ne]; omega
  have q16 : (op == 16) = false := by rw [beq_eq_false_iff_ne]; omega
  have q17 : (op == 17) = false := by rw [beq_eq_false_iff_ne]; omega
  have q40 : (op == 40) = false := by rw [beq_eq_false_iff_ne]; omega
  have q41 : (op == 41) = false := by rw [beq_eq_false_iff_ne]; omega
  have q65 : (op == 65) = false := by rw [beq_eq_false_iff_ne]; omega
  have q66 : (op == 66) = false := by rw [beq_eq_false_iff_ne]; omega
  have q42 : (op == 42) = false := by rw [beq_eq_false_iff_ne]; omega
  have q43 : (op == 43) = false := by rw [beq_eq_false_iff_ne]; omega
  have q56 : (op == 56) = false := by rw [beq_eq_false_iff_ne]; omega
  have q57 : (op == 57) = false := by rw [beq_eq_false_iff_ne]; omega
  have q67 : (op == 67) = false := by rw [beq_eq_false_iff_ne]; omega
  have q68 : (op == 68) = false := by rw [beq_eq_false_iff_ne]; omega
  have r32 : decide (32 ≤ op ∧ op ≤ 36) = false := decide_eq_false (by omega)
  have R32 := hideM r32
  clear r32
  have r44 : decide (44 ≤ op ∧ op ≤ 55) = false := decide_eq_false (by omega)
  have R44 := hideM r44
  clear r44
  have r58 : decide (58 ≤ op ∧ op ≤ 62) = false := decide_eq_false (by omega)
  have R58 := hideM r58
  clear r58
  have r91 : decide (91 ≤ op ∧ op ≤ 102) = false := decide_eq_false (by omega)
  have R91 := hideM r91
  clear r91
  have r139 : decide (139 ≤ op ∧ op ≤ 166) = false := decide_eq_false (by omega)
  have R139 := hideM r139
  clear r139
  have r168 : decide (168 ≤ op ∧ op ≤ 171) = false := decide_eq_false (by omega)
  have R168 := hideM r168
  clear r168
  have r174 : decide (174 ≤ op ∧ op ≤ 191) = false := decide_eq_false (by omega)
  have R174 := hideM r174
  clear r174
  clear h
  go_enter Tryz.func127, Tryz.ntmps127
  go_wp2_with fail
  refine (refSig _ _).mono ?_
  rintro e u ⟨rfl, rfl⟩
  generalize Nums.sig op = t at *
  go_wp2_with fail
  refine (refIn _ _ _ _).mono ?_
  rintro e u ⟨rfl, rfl⟩
  rw [R32.out]
  go_wp2_with fail
  refine (refIn _ _ _ _).mono ?_
  rintro e u ⟨rfl, rfl⟩
  rw [R44.out]
  go_wp2_with fail
  refine (refIn _ _ _ _).mono ?_
  rintro e u ⟨rfl, rfl⟩
  rw [R58.out]
  go_wp2_with fail
  refine (refIn _ _ _ _).mono ?_
  rintro e u ⟨rfl, rfl⟩
  rw [R91.out]
  go_wp2_with fail
  refine (refIn _ _ _ _).mono ?_
  rintro e u ⟨rfl, rfl⟩
  rw [R139.out]
  go_wp2_with fail
  refine (refIn _ _ _ _).mono ?_
  rintro e u ⟨rfl, rfl⟩
  rw [R168.out]
  go_wp2_with fail
  refine (refIn _ _ _ _).mono ?_
  rintro e u ⟨rfl, rfl⟩
  rw [R174.out]
  go_wp2
  go_ret
  exact ⟨rfl, rfl⟩

set_option maxHeartbeats 1000000 in
theorem refForm19 (op : Int) (w : World) (h : 40 ≤ op ∧ op ≤ 40) : Calls Tryz.prog 127 #[.int .i64 op] w fun e w' => e = .returned (.int .i64 8) ∧ w' = w := by
  have hs := sig_pos op
  have hp : decide (0 < (Nums.sig op).1) = false := by exact decide_eq_false (fun hp => by have := hs.1 hp; omega)
  clear hs
  obtain rfl : op = 40 := by omega
  clear h
  go_enter Tryz.func127, Tryz.ntmps127
  go_wp2_with fail
  refine (refSig _ _).mono ?_
  rintro e u ⟨rfl, rfl⟩
  generalize Nums.sig 40 = t at *
  go_wp2_with fail
  refine (refIn _ _ _ _).mono ?_
  rintro e u ⟨rfl, rfl⟩
  rw [show decide ((32 : Int) ≤ 40 ∧ (40 : Int) ≤ 36) = false by decide]
  go_wp2
  go_ret
  exact ⟨rfl, rfl⟩

set_option maxHeartbeats 1000000 in
theorem refForm20 (op : Int) (w : World) (h : 41 ≤ op ∧ op ≤ 41) : Calls Tryz.prog 127 #[.int .i64 op] w fun e w' => e = .returned (.int .i64 8) ∧ w' = w := by
  have hs := sig_pos op
  have hp : decide (0 < (Nums.sig op).1) = false := by exact decide_eq_false (fun hp => by have := hs.1 hp; omega)
  clear hs
  obtain rfl : op = 41 := by omega
  clear h
  go_enter Tryz.func127, Tryz.ntmps127
  go_wp2_with fail
  refine (refSig _ _).mono ?_
  rintro e u ⟨rfl, rfl⟩
  generalize Nums.sig 41 = t at *
  go_wp2_with fail
  refine (refIn _ _ _ _).mono ?_
  rintro e u ⟨rfl, rfl⟩
  rw [show decide ((32 : Int) ≤ 41 ∧ (41 : Int) ≤ 36) = false by decide]
  go_wp2
  go_ret
  exact ⟨rfl, rfl⟩

set_option maxHeartbeats 1000000 in
theorem refForm21 (op : Int) (w : World) (h : 42 ≤ op ∧ op ≤ 42) : Calls Tryz.prog 127 #[.int .i64 op] w fun e w' => e = .returned (.int .i64 10) ∧ w' = w := by
  have hs := sig_pos op
  have hp : decide (0 < (Nums.sig op).1) = false := by exact decide_eq_false (fun hp => by have := hs.1 hp; omega)
  clear hs
  obtain rfl : op = 42 := by omega
  clear h
  go_enter Tryz.func127, Tryz.ntmps127
  go_wp2_with fail
  refine (refSig _ _).mono ?_
  rintro e u ⟨rfl, rfl⟩
  generalize Nums.sig 42 = t at *
  go_wp2_with fail
  refine (refIn _ _ _ _).mono ?_
  rintro e u ⟨rfl, rfl⟩
  rw [show decide ((32 : Int) ≤ 42 ∧ (42 : Int) ≤ 36) = false by decide]
  go_wp2_with fail
  refine (refIn _ _ _ _).mono ?_
  rintro e u ⟨rfl, rfl⟩
  rw [show decide ((44 : Int) ≤ 42 ∧ (42 : Int) ≤ 55) = false by decide]
  go_wp2_with fail
  refine (refIn _ _ _ _).mono ?_
  rintro e u ⟨rfl, rfl⟩
  rw [show decide ((58 : Int) ≤ 42 ∧ (42 : Int) ≤ 62) = false by decide]
  go_wp2
  go_ret
  exact ⟨rfl, rfl⟩

set_option maxHeartbeats 1000000 in
theorem refForm22 (op : Int) (w : World) (h : 43 ≤ op ∧ op ≤ 43) : Calls Tryz.prog 127 #[.int .i64 op] w fun e w' => e = .returned (.int .i64 10) ∧ w' = w := by
  have hs := sig_pos op
  have hp : decide (0 < (Nums.sig op).1) = false := by exact decide_eq_false (fun hp => by have := hs.1 hp; omega)
  clear hs
  obtain rfl : op = 43 := by omega
  clear h
  go_enter Tryz.func127, Tryz.ntmps127
  go_wp2_with fail
  refine (refSig _ _).mono ?_
  rintro e u ⟨rfl, rfl⟩
  generalize Nums.sig 43 = t at *
  go_wp2_with fail
  refine (refIn _ _ _ _).mono ?_
  rintro e u ⟨rfl, rfl⟩
  rw [show decide ((32 : Int) ≤ 43 ∧ (43 : Int) ≤ 36) = false by decide]
  go_wp2_with fail
  refine (refIn _ _ _ _).mono ?_
  rintro e u ⟨rfl, rfl⟩
  rw [show decide ((44 : Int) ≤ 43 ∧ (43 : Int) ≤ 55) = false by decide]
  go_wp2_with fail
  refine (refIn _ _ _ _).mono ?_
  rintro e u ⟨rfl, rfl⟩
  rw [show decide ((58 : Int) ≤ 43 ∧ (43 : Int) ≤ 62) = false by decide]
  go_wp2
  go_ret
  exact ⟨rfl, rfl⟩

set_option maxHeartbeats 1000000 in
theorem refForm23 (op : Int) (w : World) (h : 44 ≤ op ∧ op ≤ 55) : Calls Tryz.prog 127 #[.int .i64 op] w fun e w' => e = .returned (.int .i64 8) ∧ w' = w := by
  have hs := sig_pos op
  have hp : decide (0 < (Nums.sig op).1) = false := by exact decide_eq_false (fun hp => by have := hs.1 hp; omega)
  clear hs
  have q0 : (op == 0) = false := by rw [beq_eq_false_iff_ne]; omega
  have q1 : (op == 1) = false := by rw [beq_eq_false_iff_ne]; omega
  have q15 : (op == 15) = false := by rw [beq_eq_false_iff_ne]; omega
  have q26 : (op == 26) = false := by rw [beq_eq_false_iff_ne]; omega
  have q27 : (op == 27) = false := by rw [beq_eq_false_iff_ne]; omega
  have q63 : (op == 63) = false := by rw [beq_eq_false_iff_ne]; omega
  have q64 : (op == 64) = false := by rw [beq_eq_false_iff_ne]; omega
  have q2 : (op == 2) = false := by rw [beq_eq_false_iff_ne]; omega
  have q3 : (op == 3) = false := by rw [beq_eq_false_iff_ne]; omega
  have q4 : (op == 4) = false := by rw [beq_eq_false_iff_ne]; omega
  have q12 : (op == 12) = false := by rw [beq_eq_false_iff_ne]; omega
  have q13 : (op == 13) = false := by rw [beq_eq_false_iff_ne]; omega
  have q14 : (op == 14) = false := by rw [beq_eq_false_iff_ne]; omega
  have q16 : (op == 16) = false := by rw [beq_eq_false_iff_ne]; omega
  have q17 : (op == 17) = false := by rw [beq_eq_false_iff_ne]; omega
  have q40 : (op == 40) = false := by rw [beq_eq_false_iff_ne]; omega
  have q41 : (op == 41) = false := by rw [beq_eq_false_iff_ne]; omega
  have q65 : (op == 65) = false := by rw [beq_eq_false_iff_ne]; omega
  have q66 : (op == 66) = false := by rw [beq_eq_false_iff_ne]; omega
  have q42 : (op == 42) = false := by rw [beq_eq_false_iff_ne]; omega
  have q43 : (op == 43) = false := by rw [beq_eq_false_iff_ne]; omega
  have q56 : (op == 56) = false := by rw [beq_eq_false_iff_ne]; omega
  have q57 : (op == 57) = false := by rw [beq_eq_false_iff_ne]; omega
  have q67 : (op == 67) = false := by rw [beq_eq_false_iff_ne]; omega
  have q68 : (op == 68) = false := by rw [beq_eq_false_iff_ne]; omega
  have r32 : decide (32 ≤ op ∧ op ≤ 36) = false := decide_eq_false (by omega)
  have R32 := hideM r32
  clear r32
  have r44 : decide (44 ≤ op ∧ op ≤ 55) = true := decide_eq_true (by omega)
  have R44 := hideM r44
  clear r44
  have r58 : decide (58 ≤ op ∧ op ≤ 62) = false := decide_eq_false (by omega)
  have R58 := hideM r58
  clear r58
  have r91 : decide (91 ≤ op ∧ op ≤ 102) = false := decide_eq_false (by omega)
  have R91 := hideM r91
  clear r91
  have r139 : decide (139 ≤ op ∧ op ≤ 166) = false := decide_eq_false (by omega)
  have R139 := hideM r139
  clear r139
  have r168 : decide (168 ≤ op ∧ op ≤ 171) = false := decide_eq_false (by omega)
  have R168 := hideM r168
  clear r168
  have r174 : decide (174 ≤ op ∧ op ≤ 191) = false := decide_eq_false (by omega)
  have R174 := hideM r174
  clear r174
  clear h
  go_enter Tryz.func127, Tryz.ntmps127
  go_wp2_with fail
  refine (refSig _ _).mono ?_
  rintro e u ⟨rfl, rfl⟩
  generalize Nums.sig op = t at *
  go_wp2_with fail
  refine (refIn _ _ _ _).mono ?_
  rintro e u ⟨rfl, rfl⟩
  rw [R32.out]
  go_wp2_with fail
  refine (refIn _ _ _ _).mono ?_
  rintro e u ⟨rfl, rfl⟩
  rw [R44.out]
  go_wp2
  go_ret
  exact ⟨rfl, rfl⟩

set_option maxHeartbeats 1000000 in
theorem refForm24 (op : Int) (w : World) (h : 56 ≤ op ∧ op ≤ 56) : Calls Tryz.prog 127 #[.int .i64 op] w fun e w' => e = .returned (.int .i64 10) ∧ w' = w := by
  have hs := sig_pos op
  have hp : decide (0 < (Nums.sig op).1) = false := by exact decide_eq_false (fun hp => by have := hs.1 hp; omega)
  clear hs
  obtain rfl : op = 56 := by omega
  clear h
  go_enter Tryz.func127, Tryz.ntmps127
  go_wp2_with fail
  refine (refSig _ _).mono ?_
  rintro e u ⟨rfl, rfl⟩
  generalize Nums.sig 56 = t at *
  go_wp2_with fail
  refine (refIn _ _ _ _).mono ?_
  rintro e u ⟨rfl, rfl⟩
  rw [show decide ((32 : Int) ≤ 56 ∧ (56 : Int) ≤ 36) = false by decide]
  go_wp2_with fail
  refine (refIn _ _ _ _).mono ?_
  rintro e u ⟨rfl, rfl⟩
  rw [show decide ((44 : Int) ≤ 56 ∧ (56 : Int) ≤ 55) = false by decide]
  go_wp2_with fail
  refine (refIn _ _ _ _).mono ?_
  rintro e u ⟨rfl, rfl⟩
  rw [show decide ((58 : Int) ≤ 56 ∧ (56 : Int) ≤ 62) = false by decide]
  go_wp2
  go_ret
  exact ⟨rfl, rfl⟩

set_option maxHeartbeats 1000000 in
theorem refForm25 (op : Int) (w : World) (h : 57 ≤ op ∧ op ≤ 57) : Calls Tryz.prog 127 #[.int .i64 op] w fun e w' => e = .returned (.int .i64 10) ∧ w' = w := by
  have hs := sig_pos op
  have hp : decide (0 < (Nums.sig op).1) = false := by exact decide_eq_false (fun hp => by have := hs.1 hp; omega)
  clear hs
  obtain rfl : op = 57 := by omega
  clear h
  go_enter Tryz.func127, Tryz.ntmps127
  go_wp2_with fail
  refine (refSig _ _).mono ?_
  rintro e u ⟨rfl, rfl⟩
  generalize Nums.sig 57 = t at *
  go_wp2_with fail
  refine (refIn _ _ _ _).mono ?_
  rintro e u ⟨rfl, rfl⟩
  rw [show decide ((32 : Int) ≤ 57 ∧ (57 : Int) ≤ 36) = false by decide]
  go_wp2_with fail
  refine (refIn _ _ _ _).mono ?_
  rintro e u ⟨rfl, rfl⟩
  rw [show decide ((44 : Int) ≤ 57 ∧ (57 : Int) ≤ 55) = false by decide]
  go_wp2_with fail
  refine (refIn _ _ _ _).mono ?_
  rintro e u ⟨rfl, rfl⟩
  rw [show decide ((58 : Int) ≤ 57 ∧ (57 : Int) ≤ 62) = false by decide]
  go_wp2
  go_ret
  exact ⟨rfl, rfl⟩

set_option maxHeartbeats 1000000 in
theorem refForm26 (op : Int) (w : World) (h : 58 ≤ op ∧ op ≤ 62) : Calls Tryz.prog 127 #[.int .i64 op] w fun e w' => e = .returned (.int .i64 8) ∧ w' = w := by
  have hs := sig_pos op
  have hp : decide (0 < (Nums.sig op).1) = false := by exact decide_eq_false (fun hp => by have := hs.1 hp; omega)
  clear hs
  have q0 : (op == 0) = false := by rw [beq_eq_false_iff_ne]; omega
  have q1 : (op == 1) = false := by rw [beq_eq_false_iff_ne]; omega
  have q15 : (op == 15) = false := by rw [beq_eq_false_iff_ne]; omega
  have q26 : (op == 26) = false := by rw [beq_eq_false_iff_ne]; omega
  have q27 : (op == 27) = false := by rw [beq_eq_false_iff_ne]; omega
  have q63 : (op == 63) = false := by rw [beq_eq_false_iff_ne]; omega
  have q64 : (op == 64) = false := by rw [beq_eq_false_iff_ne]; omega
  have q2 : (op == 2) = false := by rw [beq_eq_false_iff_ne]; omega
  have q3 : (op == 3) = false := by rw [beq_eq_false_iff_ne]; omega
  have q4 : (op == 4) = false := by rw [beq_eq_false_iff_ne]; omega
  have q12 : (op == 12) = false := by rw [beq_eq_false_iff_ne]; omega
  have q13 : (op == 13) = false := by rw [beq_eq_false_iff_ne]; omega
  have q14 : (op == 14) = false := by rw [beq_eq_false_iff_ne]; omega
  have q16 : (op == 16) = false := by rw [beq_eq_false_iff_ne]; omega
  have q17 : (op == 17) = false := by rw [beq_eq_false_iff_ne]; omega
  have q40 : (op == 40) = false := by rw [beq_eq_false_iff_ne]; omega
  have q41 : (op == 41) = false := by rw [beq_eq_false_iff_ne]; omega
  have q65 : (op == 65) = false := by rw [beq_eq_false_iff_ne]; omega
  have q66 : (op == 66) = false := by rw [beq_eq_false_iff_ne]; omega
  have q42 : (op == 42) = false := by rw [beq_eq_false_iff_ne]; omega
  have q43 : (op == 43) = false := by rw [beq_eq_false_iff_ne]; omega
  have q56 : (op == 56) = false := by rw [beq_eq_false_iff_ne]; omega
  have q57 : (op == 57) = false := by rw [beq_eq_false_iff_ne]; omega
  have q67 : (op == 67) = false := by rw [beq_eq_false_iff_ne]; omega
  have q68 : (op == 68) = false := by rw [beq_eq_false_iff_ne]; omega
  have r32 : decide (32 ≤ op ∧ op ≤ 36) = false := decide_eq_false (by omega)
  have R32 := hideM r32
  clear r32
  have r44 : decide (44 ≤ op ∧ op ≤ 55) = false := decide_eq_false (by omega)
  have R44 := hideM r44
  clear r44
  have r58 : decide (58 ≤ op ∧ op ≤ 62) = true := decide_eq_true (by omega)
  have R58 := hideM r58
  clear r58
  have r91 : decide (91 ≤ op ∧ op ≤ 102) = false := decide_eq_false (by omega)
  have R91 := hideM r91
  clear r91
  have r139 : decide (139 ≤ op ∧ op ≤ 166) = false := decide_eq_false (by omega)
  have R139 := hideM r139
  clear r139
  have r168 : decide (168 ≤ op ∧ op ≤ 171) = false := decide_eq_false (by omega)
  have R168 := hideM r168
  clear r168
  have r174 : decide (174 ≤ op ∧ op ≤ 191) = false := decide_eq_false (by omega)
  have R174 := hideM r174
  clear r174
  clear h
  go_enter Tryz.func127, Tryz.ntmps127
  go_wp2_with fail
  refine (refSig _ _).mono ?_
  rintro e u ⟨rfl, rfl⟩
  generalize Nums.sig op = t at *
  go_wp2_with fail
  refine (refIn _ _ _ _).mono ?_
  rintro e u ⟨rfl, rfl⟩
  rw [R32.out]
  go_wp2_with fail
  refine (refIn _ _ _ _).mono ?_
  rintro e u ⟨rfl, rfl⟩
  rw [R44.out]
  go_wp2_with fail
  refine (refIn _ _ _ _).mono ?_
  rintro e u ⟨rfl, rfl⟩
  rw [R58.out]
  go_wp2
  go_ret
  exact ⟨rfl, rfl⟩

set_option maxHeartbeats 1000000 in
theorem refForm27 (op : Int) (w : World) (h : 63 ≤ op ∧ op ≤ 63) : Calls Tryz.prog 127 #[.int .i64 op] w fun e w' => e = .returned (.int .i64 1) ∧ w' = w := by
  have hs := sig_pos op
  have hp : decide (0 < (Nums.sig op).1) = false := by exact decide_eq_false (fun hp => by have := hs.1 hp; omega)
  clear hs
  obtain rfl : op = 63 := by omega
  clear h
  go_enter Tryz.func127, Tryz.ntmps127
  go_wp2_with fail
  refine (refSig _ _).mono ?_
  rintro e u ⟨rfl, rfl⟩
  generalize Nums.sig 63 = t at *
  go_wp2
  go_ret
  exact ⟨rfl, rfl⟩

end Go.Proofs.YtloelineidlenaaGreatDoor

/- The document's Fork and New. -/
import Derived.Test.YtagcdnkgochpnaaQ3
import Derived.Test.YtagcdnkgochpnaaC0
import Derived.Deep.AppendSrc
namespace Go.Proofs.Ytagcdnkgochpnaa
open Go.RowKit Mm
set_option linter.unusedVariables false
namespace Mm
/-- bytes appended to nothing: a row of one's own -/
theorem app_none {w : World} {b r : Nat} {mo : Int} {pg : Nat} {bs : List Int} {ex : List Value} (h : RM w b r mo pg bs ex) (g : Nat) (hg : w.heap[g]? = some (.cells #[] 5 (0, 0))) :
    ∃ w' s ex', (Builtin.append_ #[60, 60] 60 #[.slice (some ⟨g, 0, none⟩) 0 0, .slice (some ⟨r, 0, none⟩) bs.length (bs.length + ex.length)]).run Try.prog w = .ok (.slice (some ⟨s, 0, none⟩) bs.length (bs.length + ex'.length)) w' ∧
      w'.heap[s]? = some (.cells (bcells bs ++ ex').toArray 5 (0, 0)) ∧ Below w.heap.size w w' ∧ (s = g ∨ w.heap.size ≤ s) := by
  have hL : bs.length ≤ 2097152 := by have := h.len; have := h.pg32; omega
  obtain ⟨i, hi, hzz⟩ := Option.map_eq_some_iff.1 info8
  simp only [Prod.mk.injEq] at hzz
  obtain ⟨hz, hs, hb⟩ := hzz
  by_cases h0 : bs.length = 0
  · obtain rfl : bs = [] := List.eq_nil_of_length_eq_zero h0
    have hl : ∀ (x : Addr), (loadCells x 0).run Try.prog w = .ok #[] w := fun x => by simpa using run_loadCells_list (P := Try.prog) w x [] (by simp)
    refine ⟨w, g, [], ?_, by simpa [bcells] using hg, Below.refl _ _, .inl rfl⟩
    simp [Builtin.append_, run_underlying Try.underlying60, sizeOf, typeInfo, hi, Builtin.lenOf, Builtin.firstCells, hl, storeCells]
  · have hl0 : (loadCells ⟨g, 0, none⟩ 0).run Try.prog w.drew = .ok #[] w.drew := by simpa using run_loadCells_list (P := Try.prog) w.drew ⟨g, 0, none⟩ [] (by simp)
    have hold : (Builtin.firstCells i.size 0 (.slice (some ⟨g, 0, none⟩) 0 0)).run Try.prog w.drew = .ok ([] : List Value).toArray w.drew := by simp [Builtin.firstCells, hl0]
    have hsrc := Src.ofSlice (P := Try.prog) (w := w) (size := i.size) (tx := 60) Try.underlying60 ⟨r, 0, none⟩ bs.length (bs.length + ex.length) (bcells bs) (by rw [bcells_len, hs, Nat.mul_one]) (fun j v hj => by
        rw [add_none, Nat.zero_add]
        unfold bcells at hj
        rw [List.getElem?_map] at hj
        cases hx : bs[j]? with
        | none => rw [hx] at hj; cases hj
        | some x => rw [hx] at hj; cases hj; exact h.byte j x hx) (bcells_one bs)
    have hr := run_append_grow_src (P := Try.prog) (w := w) 60 60 60 5 i (.int .u8 0) Try.underlying60 hi hz (some ⟨g, 0, none⟩) 0 0 [] hold _ bs.length (bcells bs) hsrc (by omega) (by omega)
      (growslice_fits (by omega) (by rw [hb]; omega))
    rw [Nat.zero_add] at hr
    have hge := grownCap_ge w bs.length 0 5
    generalize hW : w.drew.alloc _ = W at hr
    refine ⟨W, w.heap.size, bcells (List.replicate (grownCap w bs.length 0 5 - bs.length) 0), ?_, ?_, ?_, .inr (Nat.le_refl _)⟩
    · rw [hr, bcells_len, List.length_replicate, show bs.length + (grownCap w bs.length 0 5 - bs.length) = grownCap w bs.length 0 5 by omega]
    · rw [← hW, show w.heap.size = w.drew.heap.size from rfl, Go.Deep.blk_alloc_new]
      congr 2
      rw [show (Value.int .u8 0).cells = #[Value.int .u8 0] from rfl, zero_cells]
      simp
    · rw [← hW]; exact (((Below.refl w.heap.size w).drew).alloc (Nat.le_refl _) _)
/-- what stands in the slots -/
def fkG (b r : Nat) (mo : Int) (L cap N0 : Nat) (bs : List Int) : Nat → Value → World → Prop
  | 0 => fun v w => ∃ g, v = .slice (some ⟨g, 0, none⟩) 0 0 ∧ w.heap[g]? = some (.cells #[] 5 (0, 0)) ∧ N0 ≤ g
  | 1 => fun v _ => v = .pointer (some ⟨b, 0, none⟩)
  | 2 => fun v _ => v = .pointer (some ⟨b, 0, none⟩)
  | 3 => fun v _ => v = .pointer (some ⟨b, 0, none⟩)
  | 4 => fun v _ => v = .slice (some ⟨r, 0, none⟩) L cap
  | 5 => fun v w => ∃ s ex', v = .slice (some ⟨s, 0, none⟩) L (L + ex'.length) ∧ w.heap[s]? = some (.cells (bcells bs ++ ex').toArray 5 (0, 0)) ∧ N0 ≤ s
  | 6 => fun v _ => v = .pointer (some ⟨b, 0, none⟩)
  | 7 => fun v _ => v = .pointer (some ⟨b, 0, none⟩)
  | 8 => fun v _ => v = .pointer (some ⟨b, 1, none⟩)
  | _ => fun v _ => v = .int .i64 mo
theorem blk_on {w w' : World} (hb : Below w.heap.size w w') {g : Nat} {o : Obj} (h : w.heap[g]? = some o) : w'.heap[g]? = some o := by
  rw [hb.block g (Array.getElem?_eq_some_iff.1 h).1]; exact h
theorem fkG_on (b r : Nat) (mo : Int) (L cap N0 : Nat) (bs : List Int) (i : Nat) (v : Value) (w w' : World) (hi : i < 10) (h : fkG b r mo L cap N0 bs i v w) (hb : Below w.heap.size w w') : fkG b r mo L cap N0 bs i v w' := by
  have hc : i = 0 ∨ i = 1 ∨ i = 2 ∨ i = 3 ∨ i = 4 ∨ i = 5 ∨ i = 6 ∨ i = 7 ∨ i = 8 ∨ i = 9 := by omega
  rcases hc with rfl | rfl | rfl | rfl | rfl | rfl | rfl | rfl | rfl | rfl
  · obtain ⟨g, h1, h2, h3⟩ := h; exact ⟨g, h1, blk_on hb h2, h3⟩
  all_goals try exact h
  obtain ⟨s, e, h1, h2, h3⟩ := h; exact ⟨s, e, h1, blk_on hb h2, h3⟩
end Mm
set_option maxRecDepth 100000 in
set_option maxHeartbeats 4000000 in
theorem qFork {w : World} {b r : Nat} {mo : Int} {pg : Nat} {bs : List Int} {ex : List Value} (h : RM w b r mo pg bs ex) :
    Calls Try.prog 13 #[.pointer (some ⟨b, 0, none⟩)] w fun e w' => (∃ c s ex', e = .returned (.pointer (some ⟨c, 0, none⟩)) ∧ w.heap.size ≤ c ∧ w.heap.size ≤ s ∧ RM w' c s mo pg bs ex') ∧ Below w.heap.size w w' := by
  have H := hideR h
  have c0 : w.cell? ⟨b, 0, none⟩ = some (.slice (some ⟨r, 0, none⟩) bs.length (bs.length + ex.length)) := h.cell 0 _ rfl
  have c1 : w.cell? ⟨b, 1, none⟩ = some (.int .i64 mo) := h.cell 1 _ rfl
  clear h
  go_enter Try.func13, Try.ntmps13
  go_wp2_with fail
  refine Reg.wp_region_two 10 (fun i => 5 + i) (fkG b r mo bs.length (bs.length + ex.length) w.heap.size bs) (by kernel_rfl) (by kernel_rfl) (fun i j h1 h2 h => by have h' : 5 + i = 5 + j := h; omega) (Reg.dst_ok (size := 17) (by kernel_rfl)) (fkG_on _ _ _ _ _ _ _) ?hstep ?htail
  case hstep =>
    intro j o a u hj ho hF hB hd
    have f0 : a.tmps[0]?.getD undef = .pointer (some ⟨b, 0, none⟩) := Reg.ev_get (hF.eval 0 (fun i hi => by show 5 + i ≠ 0; omega))
    have d0 := Rep.cell_on hB c0
    have d1 := Rep.cell_on hB c1
    have HU := hideR (H.out.on0 hB)
    have HB := hideR hB
    have hcase : j = 0 ∨ j = 1 ∨ j = 2 ∨ j = 3 ∨ j = 4 ∨ j = 5 ∨ j = 6 ∨ j = 7 ∨ j = 8 ∨ j = 9 := by omega
    clear hj c0 c1
    rcases hcase with rfl | rfl | rfl | rfl | rfl | rfl | rfl | rfl | rfl | rfl
    all_goals (simp only [List.getElem?_toArray, List.getElem?_cons_succ, List.getElem?_cons_zero, Option.some.injEq] at ho; subst ho; refine Reg.step_k fun K hK => ?_)
    · go_simp
      exact hK _ _ ⟨_, rfl, (Below.refl _ _).alloc (Nat.le_refl _) _, _, rfl, Go.Deep.blk_alloc_new _ _, HB.out.size⟩
    · go_simp
      exact hK _ _ ⟨_, rfl, Below.refl _ _, rfl⟩
    · have q : a.tmps[6]?.getD undef = .pointer (some ⟨b, 0, none⟩) := Reg.ev_get (hd 1 (by decide))
      go_simp
      exact hK _ _ ⟨_, rfl, Below.refl _ _, rfl⟩
    · have q : a.tmps[7]?.getD undef = .pointer (some ⟨b, 0, none⟩) := Reg.ev_get (hd 2 (by decide))
      go_simp
      exact hK _ _ ⟨_, rfl, Below.refl _ _, rfl⟩
    · have q : a.tmps[8]?.getD undef = .pointer (some ⟨b, 0, none⟩) := Reg.ev_get (hd 3 (by decide))
      go_simp
      exact hK _ _ ⟨_, rfl, Below.refl _ _, rfl⟩
    · have q : a.tmps[9]?.getD undef = .slice (some ⟨r, 0, none⟩) bs.length (bs.length + ex.length) := Reg.ev_get (hd 4 (by decide))
      obtain ⟨g, q0, q1, q2⟩ := hd 0 (by decide)
      have q0' : a.tmps[5]?.getD undef = .slice (some ⟨g, 0, none⟩) 0 0 := Reg.ev_get q0
      obtain ⟨w2, s, ex', hap, hrow, hBw, hs⟩ := app_none HU.out g q1
      have hs' : w.heap.size ≤ s := by
        rcases hs with rfl | hs
        · exact q2
        · have := HB.out.size; omega
      have HX := hideR (And.intro hrow (And.intro hBw hs'))
      have e5 : a.eval (.tmp 5) = .slice (some ⟨g, 0, none⟩) 0 0 := q0
      have e9 : a.eval (.tmp 9) = .slice (some ⟨r, 0, none⟩) bs.length (bs.length + ex.length) := hd 4 (by decide)
      unfold Oper.wp
      simp [execOp, resolve, invoke, builtin, e5, e9, hap, Result.andThen]
      exact hK _ _ ⟨_, rfl, HX.out.2.1, _, _, rfl, HX.out.1, HX.out.2.2⟩
    · go_simp
      exact hK _ _ ⟨_, rfl, Below.refl _ _, rfl⟩
    · have q : a.tmps[11]?.getD undef = .pointer (some ⟨b, 0, none⟩) := Reg.ev_get (hd 6 (by decide))
      go_simp
      exact hK _ _ ⟨_, rfl, Below.refl _ _, rfl⟩
    · have q : a.tmps[12]?.getD undef = .pointer (some ⟨b, 0, none⟩) := Reg.ev_get (hd 7 (by decide))
      go_simp
      exact hK _ _ ⟨_, rfl, Below.refl _ _, rfl⟩
    · have q : a.tmps[13]?.getD undef = .pointer (some ⟨b, 1, none⟩) := Reg.ev_get (hd 8 (by decide))
      go_simp
      exact hK _ _ ⟨_, rfl, Below.refl _ _, rfl⟩
  case htail =>
    intro a u hF hB hG
    obtain ⟨s, ex', q5, q6, q7⟩ := hG 5 (by decide)
    have q5' : a.tmps[10]?.getD undef = .slice (some ⟨s, 0, none⟩) bs.length (bs.length + ex'.length) := Reg.ev_get q5
    have q9 : a.tmps[14]?.getD undef = .int .i64 mo := Reg.ev_get (hG 9 (by decide))
    have HX := hideR (And.intro q6 q7)
    have HBU := hideR hB
    obtain ⟨x, hxl, rfl, hev⟩ := Reg.Fr.lit (l := [.pointer (some ⟨b, 0, none⟩), undef, .pointer none, .pointer (some ⟨b, 0, none⟩), .bool false, undef, undef, undef, undef, undef, undef, undef, undef, undef, undef, undef, undef]) hF (by simp)
    match x, hxl with
    | [x0, x1, x2, x3, x4, x5, x6, x7, x8, x9], _ =>
      have e5 := hev 5 (by decide)
      have e9 := hev 9 (by decide)
      obtain rfl : x5 = .slice (some ⟨s, 0, none⟩) bs.length (bs.length + ex'.length) := e5.symm.trans q5
      obtain rfl : x9 = .int .i64 mo := e9.symm.trans (hG 9 (by decide))
      clear e5 e9 hev q5 q5' q6 q7 q9 hG hF hB
      simp only [List.drop_succ_cons, List.drop_zero, List.take_succ_cons, List.take_zero, List.cons_append, List.nil_append]
      go_wp2
      go_ret
      have hlt : s < u.heap.size := (Array.getElem?_eq_some_iff.1 HX.out.1).1
      refine ⟨⟨u.heap.size, s, ex', rfl, HBU.out.size, HX.out.2, ⟨Go.Deep.blk_alloc_new _ _, ?_, H.out.len, H.out.le, H.out.most, by omega, H.out.bd⟩⟩, HBU.out.alloc HBU.out.size _⟩
      rw [Below.heap_alloc u _ s hlt]; exact HX.out.1
theorem mostp_hi {mi ma : Int} (h : mi ≤ 32) (hm : ¬ ma < 32) : mostp mi ma true = 32 := by unfold mostp; simp; omega
theorem mostp_lo {mi ma : Int} (hm : ma < 32) : mostp mi ma true = max ma mi := by unfold mostp; simp; omega
namespace Mm
def NewQ (w : World) (mo : Int) (p : Nat) (e : Ending) (w' : World) : Prop :=
  (∃ c s Z, e = .returned (.tuple #[.pointer (some ⟨c, 0, none⟩), .int .i64 0]) ∧ w.heap.size ≤ c ∧ w.heap.size ≤ s ∧ RM w' c s mo p Z [] ∧ Hid (Z = List.replicate (p * 65536) 0)) ∧ Below w.heap.size w w'
theorem new_rm (w : World) (o1 : Obj) (p : Nat) (mo : Int) (Z : List Int) (hz : Z = List.replicate (p * 65536) 0) (hpm : (p : Int) ≤ mo) (hm : mo ≤ 32) :
    RM (((w.alloc o1).alloc (.cells (bcells Z).toArray 5)).alloc (.cells #[.slice (some ⟨w.heap.size + 1, 0, none⟩) (p * 65536) (p * 65536), .int .i64 mo] 65)) (w.heap.size + 1 + 1) (w.heap.size + 1) mo p Z [] ∧
    Below w.heap.size w (((w.alloc o1).alloc (.cells (bcells Z).toArray 5)).alloc (.cells #[.slice (some ⟨w.heap.size + 1, 0, none⟩) (p * 65536) (p * 65536), .int .i64 mo] 65)) := by
  have hlz : Z.length = p * 65536 := by rw [hz, List.length_replicate]
  have s0 : (w.alloc o1).heap.size = w.heap.size + 1 := by show (w.heap.push _).size = _; simp
  have s1 : ((w.alloc o1).alloc (.cells (bcells Z).toArray 5)).heap.size = w.heap.size + 1 + 1 := by show ((w.alloc o1).heap.push _).size = _; rw [Array.size_push, s0]
  have b0 : Below w.heap.size w (w.alloc o1) := (Below.refl _ _).alloc (Nat.le_refl _) _
  have b1 := b0.alloc b0.size (.cells (bcells Z).toArray 5)
  have hb : ∀ x ∈ Z, 0 ≤ x ∧ x ≤ 255 := by intro x hx; rw [hz, List.mem_replicate] at hx; rw [hx.2]; omega
  clear hz
  refine ⟨⟨?_, ?_, hlz, hpm, hm, by omega, hb⟩, b1.alloc b1.size _⟩
  · have e : p * 65536 + ([] : List Value).length = p * 65536 := by simp
    rw [← s1, Go.Deep.blk_alloc_new, hlz, e]
  · rw [Below.heap_alloc _ _ _ (by omega), ← s0, Go.Deep.blk_alloc_new, List.append_nil]
end Mm
set_option maxHeartbeats 2000000 in
theorem qNew {w : World} (p : Nat) (ma : Int) (has : Bool) (hp : p ≤ 32) :
    Calls Try.prog 9 #[.agg #[.int .i64 p, .int .i64 ma, .bool has]] w (NewQ w (mostp p ma has) p) := by
  have hmp := mostp_le (mi := p) (ma := ma) (has := has) (by omega)
  have d1 : decide ((p : Int) < 0) = false := decide_eq_false (by omega)
  have d2 : decide ((p : Int) > 32) = false := decide_eq_false (by omega)
  have hmk := run_make_row' (P := Try.prog) 60 5 (.int .u8 0) 1 Try.underlying60 info8 rfl .i64 .i64 (p * 65536) (by omega) (by omega) (w.alloc (.cells #[.int .i64 p, .int .i64 ma, .bool has] 23))
  rw [made_cells, show ((p * 65536 : Nat) : Int) = (p : Int) * 65536 by omega] at hmk
  obtain ⟨Z, hz⟩ : ∃ Z : List Int, Z = List.replicate (p * 65536) 0 := ⟨_, rfl⟩
  rw [← hz] at hmk
  have HE := hideR (new_rm w (.cells #[.int .i64 p, .int .i64 ma, .bool has] 23) p (mostp p ma has) Z hz hmp.1 hmp.2)
  have HZ := hideR hz
  clear hmp hz
  cases has
  · rw [show mostp p ma false = 32 from rfl] at HE ⊢
    go_enter Try.func9, Try.ntmps9
    go_wp2
    go_ret2
    exact ⟨⟨_, _, _, rfl, by omega, by omega, HE.out.1, HZ.out⟩, HE.out.2⟩
  · by_cases hm : ma < 32
    · rw [mostp_lo hm] at HE ⊢
      have d3 : decide (ma < 32) = true := decide_eq_true hm
      by_cases hx : p ≤ ma
      · rw [show max ma (p : Int) = ma by omega] at HE ⊢
        go_enter Try.func9, Try.ntmps9
        go_wp2
        go_ret2
        exact ⟨⟨_, _, _, rfl, by omega, by omega, HE.out.1, HZ.out⟩, HE.out.2⟩
      · rw [show max ma (p : Int) = p by omega] at HE ⊢
        go_enter Try.func9, Try.ntmps9
        go_wp2
        go_ret2
        exact ⟨⟨_, _, _, rfl, by omega, by omega, HE.out.1, HZ.out⟩, HE.out.2⟩
    · rw [mostp_hi (by omega) hm] at HE ⊢
      have d3 : decide (ma < 32) = false := decide_eq_false hm
      go_enter Try.func9, Try.ntmps9
      go_wp2
      go_ret2
      exact ⟨⟨_, _, _, rfl, by omega, by omega, HE.out.1, HZ.out⟩, HE.out.2⟩
end Go.Proofs.Ytagcdnkgochpnaa
